import PyProof.Rows.All
import Wide.All
import OpenK.AllK
import Wide.FinOn
import Lean
import PyProof.EqAt
import PyProof.EqKinds
import PyProof.TupleCall
import PySem.Challenge.RW_duskbook_k57_pages_refused
set_option Elab.async false
set_option linter.all false
set_option genSizeOf false
set_option compiler.extract_closed false
set_option maxRecDepth 100000
abbrev Ka(l:List (PySem.Str×PySem.NameKind)):PySem.Scope:={ kind:=.function,names:=l,isGenerator:=false,isCoroutine:=false,more:=[] }
def qa{c d:Type _}{o:Option c}{f:c->Option d}{b:d}(h:o.bind f=some b):∃a,o=some a/\f a=some b:=Option.bind_eq_some_iff.mp h
def qc{c d:Type _}{o:Option c}{f:c->d}{b:d}(h:o.map f=some b):∃a,o=some a/\f a=b:=Option.map_eq_some_iff.mp h
def qd:=@Option.bind_some
def qe:=@PySem.Heap.get?_push_of_some
def qf:=@List.length_map
def qg:=@List.mem_cons_of_mem
def qh:=@List.mem_cons_self
def qi:=@Bool.false_ne_true
def qj:=@Array.length_toList
def qk:=@List.size_toArray
def ql:=@PySem.Heap.lt_size
def qm:=@Nat.ne_of_lt
def qo{b:Type _}{l:List b}{i:Nat}{a:b}(h:l[i]?=some a):∃h:i<l.length,l[i]=a:=List.getElem?_eq_some_iff.mp h
def qp:=@PySem.Heap.get?_push_size
def qr:=@List.getElem?_eq_getElem
def qt:=@List.length_cons
def qu{c:Type _}{a b:c}{l:List c}(h:a∈b::l):a=b\/a∈l:=List.mem_cons.mp h
def qv:=@Nat.le_refl
def qw{b:Type _}{a:b}{s t:List b}(h:a∈s++t):a∈s\/a∈t:=List.mem_append.mp h
def qx:=@Nat.lt_succ_of_lt
def qy{c d:Type _}{b:d}{f:c->d}{l:List c}(h:b∈l.map f):∃a,a∈l/\f a=b:=List.mem_map.mp h
def qz:=@List.length_append
def Qa:=@Nat.lt_succ_self
def Qb{m n:Nat}(h:m∈List.range n):m<n:=List.mem_range.mp h
def Qc{b:Type _}{p:b->Bool}{l:List b}{a:b}(h:a∈l.filter p):a∈l/\p a=true:=List.mem_filter.mp h
def Qd:=@List.map_cons
def Qe:=@Bool.and_eq_true
def Qf:=@List.map_map
def Qg:=@Nat.le_trans
def Qh:=@Nat.zero_le
def Qi:=@Nat.lt_of_lt_of_le
def Qj:=@List.nil_append
def Qk:=@List.map_append
def Qm:=@List.getElem?_map
def Qo:=@Bool.false_eq_true
def Qp:=@List.getElem?_set_ne
def Qq:=@List.map_congr_left
def Qr:=@List.mem_append_right
def Qs:=@List.mem_map_of_mem
set_option maxHeartbeats 4000000
set_option hygiene false in
local macro_rules|`(tactic|and_intros)=>`(tactic|(intro _ _ _ _ _ _ us b;first|(obtain⟨_,rfl⟩:=dY b;rfl)|(obtain⟨_,_,rfl⟩:=c7 b;rfl)|(obtain⟨_,_,_,rfl⟩:=dB b;rfl)|(obtain⟨_,_,_,_,rfl⟩:=gc b;rfl)|(obtain⟨_,_,_,_,_,rfl⟩:=il b;rfl)|(obtain⟨_,_,_,_,_,_,rfl⟩:=ip b;rfl)|(obtain⟨_,_,_,_,_,_,_,rfl⟩:=pB b;rfl)))
local macro_rules|`(tactic|ext)=>`(tactic|simp_all)
local macro_rules|`(tactic|grind)=>`(tactic|grind -abstractProof)
local macro_rules|`(tactic|lia)=>`(tactic|lia -abstractProof)
local macro_rules|`(tactic|symm)=>`(tactic|grind -lax)
local macro_rules|`(tactic|ac_nf)=>`(tactic|lia -lax)
local macro_rules|`(∅)=>`(by ac_nf)
local macro_rules|`(⋯)=>`(by symm)
local macro_rules|`(term|nofun)=>`(by simp)
local macro_rules|`(tactic|trivial)=>`(tactic|first|exact .inl rfl|exact .inr rfl|exact .inr (.inl rfl)|exact .inr (.inr rfl)|assumption)
local macro_rules|`(~~~$x)=>`(($x).heap.objs.size)|`(↑$x)=>`(some (.sh $x))
abbrev AA:=PySem.Value->PySem.Shared->Prop
abbrev AB:=List (PySem.Addr×PySem.Obj)
abbrev AC:=List PySem.Value
abbrev AD:=PySem.Str->Option PySem.Value
abbrev AE:=List Nat
abbrev AF:=List Int
abbrev AG:=List Bool
abbrev AJ:=List PySem.Str
abbrev AK:=List PySem.Expr
abbrev AL:=Option Nat
def wa:=@PySem.wpAny_bind
def wc:=@PySem.wpAny_pure
def we:=@PySem.wpAny_holding
def wf:=@PySem.wpAny_call_entry
def wg:=@PySem.wpAny_newObj_type
def wh:=@PySem.wpAny_setState_of
def wj:=@decide_eq_true_eq
def wm:=@decide_eq_true
def wn:=@Function.comp_def
def wo:=@PySem.Heap.SameBut.update
def wt:=@PySem.Heap.size_push
def wu:=@PySem.Heap.get?_update_self
def wv:=@PySem.codeAny_builtin
def ww:=@PySem.wpAny_mono
def wx:=@Option.some.inj
def wz:=@List.append_nil
def ja:=@List.append_assoc
def jb:=@PySem.plainId_quiet
def jc:=@PySem.PassesOwn.never
def jd:=@PySem.Obj.data_mapFields
def je:=@PySem.wpAny_attempt
def jf:=@PySem.sizeLine_eq
abbrev mZ:=@PySem.model
abbrev W7:=PySem.W.Frag
abbrev P7:=PySem.Program
open Lean Parser Tactic in
local macro_rules(kind:=«term{_}»)|`({$s,*})=>`(⟨$s,*⟩)
open Lean Parser Tactic in
local macro_rules
|`(tactic|let $d:letDecl)=>
 let m k s:Syntax:=mkNode k s
 let W s:=m ``rcasesPatLo #[m ``rcasesPatMed #[mkNullNode s],mkNullNode]
 if d.raw[0].isOfKind ``Term.letPatDecl then `(tactic|rcases $(⟨d.raw[0][4]⟩):term with $(⟨d.raw[0][0].rewriteBottomUp λs=>
  let k:=s.getKind
  if k=identKind then W #[m ``rcasesPat.one #[s]]
  else if k= ``Term.hole then W #[m ``rcasesPat.ignore #[s[0]]]
  else if k=`«term{_}» then W #[m ``rcasesPat.tuple #[mkAtom "",s[1],mkAtom ""]]
  else if k=`«term_+_» then W (s[0][0][0].getArgs.push (mkAtom "")++s[2][0][0].getArgs)
  else if k= ``Term.paren then W #[m ``rcasesPat.paren #[mkAtom "",s[1],mkAtom ""]]
  else if k=choiceKind then if s[0].getKind= ``rcasesPatLo then s[0] else s[1] else s⟩))
 else `(tactic|have $d:letDecl)
local macro_rules|`(tactic|show $s)=>`(tactic|refine $s)
open Lean in
local macro_rules|`(tactic|nomatch $s,*)=>let a:=s.getElems.map (⟨·.raw[0]⟩);let b:=s.getElems.map (⟨·.raw[2]⟩);`(tactic|generalize $[$a = $b],* at *)
local macro_rules(kind:=Lean.Parser.Term.let)|`(let $d:letDecl;$b)=>if d.raw[0].isOfKind ``Lean.Parser.Term.letPatDecl then Lean.Macro.throwUnsupported else `(have $d:letDecl;$b)
noncomputable section
namespace L2
variable {h':Heap}{X:Cx}{pins:AB}{pos apos:Pos}{ys:AM}{prog:P7}{K:W7}{dx:Addr}{es ifs:AK}{elt iter:Expr}{scope:Scope}{ti:TT}{src:List AL}
open PySem PySem.Spec PyProof.Rows
abbrev eJ:=Sum Int Str
noncomputable def ny:eJ->Value->Bool
 | .inl k,v=>Value.isInt k v
 | .inr x,v=>Value.isStrOf x v
noncomputable def xY(w:World):eJ->Int
 | .inl k=>hashInt k
 | .inr x=>hashStr w x
theorem gU:∀{k:eJ}{v:Value},ny k v=true->(∃i t,k=Sum.inl i/\v=Value.int i t)\/(∃x t,k=Sum.inr x/\v=Value.str x t)
 | .inl i,v,h=>by
   let{t,e}:=Value.isInt_shape h;show .inl {(i),t,rfl,e}
 | .inr x,v,h=>by
   let{t,e}:=Value.isStrOf_shape h;show .inr {(x),t,rfl,e}
theorem xZ(a b:Int):decide ((Sum.inl a:eJ)=Sum.inl b)=(a==b):=by ext<;>lia
theorem x8(a b:Str):decide ((Sum.inr a:eJ)=Sum.inr b)=decide (a=b):=by ext
theorem x9(a:Int)(b:Str):decide ((Sum.inl a:eJ)=Sum.inr b)=false:=by grind
theorem x_(a:Str)(b:Int):decide ((Sum.inr a:eJ)=Sum.inl b)=false:=by grind
def Kb(prog:P7)(w:World):KeyKind prog w eJ where
 is:=ny
 hash:=xY w
 inj:=λv a b l m=>by
  let{i,t,rfl,rfl}+{x,t,rfl,rfl}:=gU l
  .let{j,u,rfl,e}+{y,u,rfl,e}:=gU m
   .grind
   grind
  .let{j,u,rfl,e}+{y,u,rfl,e}:=gU m
   .grind
   grind
 byValue:=λk v h=>by
  let{i,t,rfl,rfl}+{x,t,rfl,rfl}:=gU h<;>rfl
 pyHash:=λd h=>by
  let{i,t,rfl,rfl}+{x,t,rfl,rfl}:=gU d
  .show wpAny_pyHash_int h
  .show wpAny_pyHash_str h
 eqBool:=λg d h=>by
  let{i,t,rfl,rfl}+{x,t,rfl,rfl}:=gU g
  .let{j,u,rfl,rfl}+{y,u,rfl,rfl}:=gU d
   .rw[xZ]at h;show wpAny_eqBool_int h
   .show SeqAt.EqAt.int_str i t y u _ _ _ _ h
  .let{j,u,rfl,rfl}+{y,u,rfl,rfl}:=gU d
   .show SeqAt.EqAt.str_int x t j u _ _ _ _ h
   .rw[x8]at h;show wpAny_eqBool_str h
 «strs»:=λk x t v h=>by
  let{i,u,rfl,e}+{y,u,rfl,e}:=gU h
  .grind
  .injection e with n _
   subst n;cases v<;>rfl
inductive V where
 | non|bl (b:Bool)|int (i:Int)|str (x:Str)|byt (b:Array UInt8)|flt (b:UInt64)|ref (a:Addr)|ty (n:String)
 deriving DecidableEq
abbrev AM:=List V
def RelV:V->Value->Prop
 | .non,u=>u=.none
 | .bl b,u=>u=.bool b
 | .int i,u=>∃t,u=.int i t
 | .str x,u=>∃t,u=.str x t
 | .byt b,u=>∃t,u=.bytes b t
 | .flt b,u=>∃t,u=.float b t
 | .ref a,u=>u=.ref a
 | .ty n,u=>u=.type n
abbrev Vals:AM->AC->Prop:=Paired RelV
def Vals.length(r:Vals xs us):xs.length=us.length:=Paired.length r
theorem Vals.get:∀{xs:AM}{us:AC}{i:Nat}{x:V},Vals xs us->xs[i]?=some x->∃u,us[i]?=some u/\RelV x u
 | _,_,_,_,.nil,e=>by simp at e
 | _,_,0,_,.cons r _,e=>by ext
 | _,_,i+1,x,.cons _ t,e=>by
   let{u,a,b}:=Vals.get t (by simpa using e)
   ext
theorem Vals.set{x:V}{u:Value}(r:RelV x u):∀{xs:AM}{us:AC} (i:Nat),Vals xs us->Vals (xs.set i x) (us.set i u)
 | _,_,_,.nil=>.nil
 | _,_,0,.cons _ t=>.cons r t
 | _,_,i+1,.cons q t=>.cons q (Vals.set r i t)
theorem Vals.append:∀{xs ys:AM}{us a:AC},Vals xs us->Vals ys a->Vals (xs++ys) (us++a)
 | _,_,_,_,.nil,s=>s
 | _,_,_,_,.cons r t,s=>.cons r (Vals.append t s)
theorem Vals.take:∀{xs:AM}{us:AC} (n:Nat),Vals xs us->Vals (xs.take n) (us.take n)
 | _,_,0,_=>.nil
 | _,_,_+1,.nil=>.nil
 | _,_,n+1,.cons r t=>.cons r (Vals.take n t)
theorem Vals.drop:∀{xs:AM}{us:AC} (n:Nat),Vals xs us->Vals (xs.drop n) (us.drop n)
 | _,_,0,r=>r
 | _,_,_+1,.nil=>.nil
 | _,_,n+1,.cons _ t=>.drop n t
def RelO:Option V->Option Value->Prop
 | some v,some u=>RelV v u
 | none,none=>True
 | _,_=>False
def KV{κ:Type}:List (κ×V)->List (κ×Value)->Prop:=Paired λp q=>p.1=q.1/\RelV p.2 q.2
noncomputable def kV:eJ->V
 | .inl i=>.int i
 | .inr x=>.str x
inductive HO where
 | lst (xs:AM)
 | tup (xs:AM)
 | dK (kvs:List (eJ×V))|dT (kvs:List (List eJ×V))
 | set (S:Int->Bool) (n:Nat)
 | ins (C dx:Addr) (fs:List (Str×V))
 | own (x:Addr)
 | xd (fs:List (Str×V))
 | met (f x:Addr)
 | rng (lo hi:Int)
 | frz (o:Obj) (u:HO)
 | tbl (ps:Array Value)
 | ext (φ:Heap->Prop)
abbrev Hp:=Addr->Option HO
noncomputable def upd(H:Hp)(a:Addr)(o:HO):Hp:=λb=>if b=a then some o else H b
theorem Yo:upd H a o a=some o:=by unfold upd;grind
def Yl(h:b≠a):upd H a o b=H b:=by unfold upd;rw[if_neg h]
theorem Yr{H:Hp}(h:H a=some o)(c:H b=none):a≠b:=by grind
section
variable (P:P7)(w:World)
def ObjOk(H:Hp)(h:Heap)(a:Addr):HO->Prop
 | .lst xs=>xs.length<=sizeLine/\∃(its:AC) (n:Nat),Vals xs its/\h.get? a=some {cls:=.type "list",data:=.seq its.toArray n}
 | .tup xs=>xs.length<=sizeLine/\∃its:AC,Vals xs its/\IsTup h a its.toArray
 | .dK c=>c.length<=sizeLine/\(a==sysModules)=false/\∃vs,KV c vs/\h.DictOf (Kb P w) a vs
 | .dT c=>c.length<=sizeLine/\(a==sysModules)=false/\∃xs:List (List eJ×Addr×Value),
  Paired (λp q=>p.1=q.1/\H q.2.1=some (.tup (p.1.map kV))/\RelV p.2 q.2.2) c xs/\
  ∃o k m,h.get? a=some o/\o.ExactDict/\o.data=.dict k m/\k.toList=xs.map (entryOfKey (tupleKind (Kb P w)))/\(xs.map (·.1)).Nodup
 | .set S n=>h.SetOf (intKind P w) a S n
 | .ins C g e=>H g=some (.own a)/\e.length<=1000/\g≠a/\h.get? a=some (W.instObj C g)/\
  ∃d,h.Ns1 g d/\(∀f,RelO (e.lookup f) (d f))/\PySem.Within d (e.map (·.1))
 | .own _=>∃o,h.get? a=some o
 | .xd e=>∃d,h.Ns1 a d/\∀f,RelO (e.lookup f) (d f)
 | .rng lo r=>∃t u v,h.get? a=some {cls:=.type "range",data:=.fields #[.int lo t,.int r u,.int 1 v]}
 | .frz o u=>h.get? a=some o/\ObjOk H h a u
 | .tbl ps=>h.get? a=some {cls:=.none,data:=.fields ps}
 | .met f x=>h.get? a=some (W.methodObj (.ref f) (.ref x))
 | .ext i=>i h/\(∃o,h.get? a=some o)/\∀j l,i j->(∀o,j.get? a=some o->l.get? a=some o)->i l
def HOk(H:Hp)(h:Heap):Prop:=∀a o,H a=some o->ObjOk P w H h a o
end
section
variable {P:P7}{w:World}{H H':Hp}{h:Heap}{a:Addr}{o:HO}
def ObjOk.lt(x:ObjOk P w H h a o):a<h.objs.size:=by
 cases o with
 | lst k=>let{_,_,_,_,e}:=x;show ql e
 | tup k=>let{_,_,_,p}:=x;show p.lt
 | dK b=>let{_,_,_,_,o,_,_,e,_}:=x;show ql e
 | dT b=>let{_,_,_,_,o,_,_,e,_}:=x;show ql e
 | set S n=>let{o,_,_,_,e,_}:=x;show ql e
 | ins C i c=>let{_,_,_,e,_}:=x;show ql e
 | own y=>let{_,e}:=x;show ql e
 | xd c=>let{_,{_,_,_,e,_},_}:=x;show ql e
 | rng lo g=>let{_,_,_,e}:=x;show ql e
 | frz d u=>let{e,_}:=x;show ql e
 | tbl l=>show ql (x)
 | met f y=>show ql (x)
 | ext j=>let{_,{_,e},_}:=x;show ql e
theorem Paired.mapP:∀{g:List d}{c:List e},Paired F g c->(∀a b,F a b->G a b)->Paired G g c
 | _,_,.nil,_=>.nil
 | _,_,.cons r t,f=>.cons (f _ _ r) (Paired.mapP t f)
theorem ObjOk.stay(x:ObjOk P w H h a o)(k:∀b u,(b=a\/H b=some (.own a))->h.get? b=some u->h'.get? b=some u)(G:∀b,H b=some (.own a)->H' b=some (.own a))(E:∀b xs,H b=some (.tup xs)->H' b=some (.tup xs)):ObjOk P w H' h' a o:=by
 induction o with
 | lst xs=>let{z,l,n,r,e}:=x;show{z,l,n,r,k _ _ (.inl rfl) e}
 | tup xs=>let{z,l,r,g,e,c}:=x;show{z,l,r,g,k _ _ (.inl rfl) e,c}
 | dK s=>let{z,y,L,r,g,i,j,e,c}:=x;show{z,y,L,r,g,i,j,k _ _ (.inl rfl) e,c}
 | dT s=>
   let{z,y,xs,r,g,i,j,e,c}:=x;show{z,y,xs,Paired.mapP r λp q z=>{z.1,E _ _ z.2.1,z.2.2},g,i,j,k _ _ (.inl rfl) e,c}
 | set S n=>let{g,i,j,t,e,c}:=x;show{g,i,j,t,k _ _ (.inl rfl) e,c}
 | ins C I D=>
   let{d,z,B,e,A,{m,i,j,M,c},r}:=x;show{G _ d,z,B,k _ _ (.inl rfl) e,A,{m,i,j,k _ _ (.inr d) M,c},r}
 | own y=>let{g,e}:=x;show{g,k _ _ (.inl rfl) e}
 | xd D=>let{A,{m,i,j,e,c},r}:=x;show{A,{m,i,j,k _ _ (.inl rfl) e,c},r}
 | rng lo K=>let{t,u,v,e}:=x;show{t,u,v,k _ _ (.inl rfl) e}
 | frz g u F=>let{e,q}:=x;show{k _ _ (.inl rfl) e,F q}
 | tbl N=>
   let e:_=_:=x;change _=_
   ext
 | met f y=>
   let e:_=_:=x;change _=_
   ext
 | ext J=>let{p,{o,e},st}:=x;show{st _ _ p λo q=>k _ _ (.inl rfl) q,{o,k _ _ (.inl rfl) e},st}
def HOk.lt(x:HOk P w H h)(e:H a=some o):a<h.objs.size:=(x a o e).lt
def HOk.fresh(x:HOk P w H h)(e:h.objs.size<=a):H a=none:=by
 cases q:H a with
 | none=>rfl
 | some u=>show absurd (Qi (x.lt q) e) (Nat.lt_irrefl _)
def HOk.kept(x:HOk P w H h)(k:∀b u,h.get? b=some u->h'.get? b=some u):HOk P w H h':=λa o e=>
 (x a o e).stay (λb u _ q=>k b u q) (λ_ q=>q) λ_ _ q=>q
theorem HOk.laid(x:HOk P w H h)(k:∀b u,h.get? b=some u->h'.get? b=some u)(g:h.objs.size<=a)(f:ObjOk P w (upd H a o) h' a o):HOk P w (upd H a o) h':=λb u e=>by
 let d:=x.fresh g;by_cases i:b=a
 .subst i;rw[Yo]at e;grind
 .rw[Yl i]at e
  show(x b u e).stay (λc v _ q=>k c v q) (λc q=>by rwa [Yl (Yr q d)]) λc j q=>by rwa [Yl (Yr q d)]
end
def Rd(H:Hp)(a:Addr)(u:HO):Prop:=H a=some u\/∃o,H a=some (.frz o u)
def Rd.ok(r:Rd H a u)(x:HOk P w H h):ObjOk P w H h a u:=by
 let r+{o,r}:=r
 .show x a u r
 .let{_,q}:=x a _ r
  show q
def tB:Option HO->Prop
 | some (.lst _)=>True
 | some (.dK _)=>True
 | some (.dT _)=>True
 | some (.set _ _)=>True
 | some (.ins _ _ _)=>True
 | some (.ext _)=>True
 | _=>False
section
variable {P:P7}{w:World}{H:Hp}{h:Heap}{x e:Addr}{o':HO}
theorem HOk.write(l:HOk P w H h)(d:tB (H x))(o:e=x\/H e=some (.own x))(k:∀b u,b≠e->h.get? b=some u->h'.get? b=some u)(f:∃u,h'.get? e=some u)(i:ObjOk P w (upd H x o') h' x o'):HOk P w (upd H x o') h':=λb u q=>by
 let a:∀c y,H c=some (.own y)->c≠x:=λc y r z=>by subst z;rwa [r]at d
 by_cases p:b=x
 .subst p;rw[Yo]at q;grind
 .rw[Yl p]at q
  by_cases j:b=e
  .let g:H b=some (.own x):=by
    grind
   rw[q]at g;cases g;let{v,m}:=f;show{v,by grind}
  .show(l b u q).stay (λc v n r=>k c v ?_ r) (λc r=>by rwa [Yl (a c b r)]) λc s r=>by rwa [Yl ((λc s r z=>by subst z;rwa [r]at d) c s r)]
   grind
end
structure Un(fs ex:List Addr)(H H':Hp)(h h':Heap):Prop where
 keep:∀b o,h.get? b=some o->H b=none->b∉fs->b∉ex->h'.get? b=some o
 slot:∀b o,h.get? b=some o->H b=none->b∈fs->b∉ex->∃sl,h'.get? b=some {o with slots:=sl}
 free:∀b o,h.get? b=some o->H b=none->b∉ex->H' b=none
 there:∀b o,h.get? b=some o->b∉ex->∃o',h'.get? b=some o'
 tups:∀b xs,H b=some (.tup xs)->H' b=some (.tup xs)
 frzs:∀b o u,H b=some (.frz o u)->H' b=some (.frz o u)
 tbls:∀b ps,H b=some (.tbl ps)->∃more,H' b=some (.tbl (ps++more))
section
variable {fs fs' ex ex':List Addr}{H H1 H2:Hp}{h h1 h2:Heap}{a x e:Addr}{o:HO}
def Un.any(u:Un fs ex H H1 h h1)(q:h.get? b=some c)(n:H b=none)(d:b∉ex):∃f,h1.get? b=some {c with slots:=f}:=by
 by_cases a:b∈fs
 .show u.slot b c q n a d
 .show{c.slots,u.keep b c q n a d}
def Un.kept(k:∀b u,h.get? b=some u->h'.get? b=some u):Un fs ex H H h h':=
 {λb c q _ _ _=>k b c q,λb c q _ _ _=>{c.slots,k b c q},λ_ _ _ n _=>n,λb c q _=>{c,k b c q},λ_ _ q=>q,λ_ _ _ q=>q,λ_ a q=>{#[],by rw[q];simp}}
def Un.refl:Un fs ex H H h h:=.kept λ_ _ q=>q
theorem Un.laid(k:∀b u,h.get? b=some u->h'.get? b=some u)(d:h.objs.size<=a)(c:H a=none):Un fs ex H (upd H a o) h h' where
 keep:=λb u q _ _ _=>k b u q
 slot:=λb u q _ _ _=>{u.slots,k b u q}
 free:=λb u q n _=>by rwa [Yl (qm (Qi (ql q) d))]
 there:=λb u q _=>{u,k b u q}
 tups:=λb e q=>by rwa [Yl (Yr q c)]
 frzs:=λb u e q=>by rwa [Yl (Yr q c)]
 tbls:=λb f q=>{#[],by rw[Yl (Yr q c),q];simp}
theorem Un.write(d:tB (H x))(j:e=x\/H e=some (.own x))(k:∀b u,b≠e->h.get? b=some u->h'.get? b=some u)(g:∃u,h'.get? e=some u):Un fs ex H (upd H x o) h h':=by
 let f:∀b,H b=none->b≠x:=λb n z=>by subst z;rwa [n]at d
 let a:∀b,H b=none->b≠e:=λb n z=>by
  ext
 let c:∀b u,H b=some u->¬tB (some u)->b≠x:=λb u q i z=>by grind
 show⟨λb u q n _ _=>k b u (a b n) q,λb u q n _ _=>{u.slots,k b u (a b n) q},λb u q n _=>by rwa [Yl (f b n)],λb u q _=>?_,
  λb l q=>by rwa [Yl (c b _ q λz=>z)],λb u l q=>by rwa [Yl (c b _ q λz=>z)],λb m q=>{#[],by rw[Yl (c b _ q λz=>z),q];simp}⟩
 grind
end
noncomputable def QR(h:Heap)(H:Hp):List Addr:=(List.range h.objs.size).filter λa=>(H a).isSome
def ee(h:Heap)(H:Hp):Heap:=W.hideAll h (QR h H)
def QS(h:Heap)(H:Hp):(ee h H).objs.size=h.objs.size:=W.hideAll_size _ _
theorem QT(e:h.get? b=some o)(n:H b=none):(ee h H).get? b=some o:=
 W.hideAll_get _ e λc=>by
  let q:=(Qc c).2;grind
theorem ya(e:(ee h H).get? b=some o):h.get? b=some o/\H b=none:=by
 let c:=W.of_hideAll _ e;show{c,?_}
 cases q:H b with
 | none=>rfl
 | some x=>
   let z:(ee h H).get? b=none:=W.hideAll_none _ (List.mem_filter.mpr {List.mem_range.mpr (ql c),by simp[q]});grind
structure Mod(K:W7)(mg:AD)(base:Heap):Prop where
 kin:K.In base
 glob:base.Ns mainGlobals mg
 blt:∃mb,base.Ns builtinsNs mb/\∀x:Str,x≠"__name__"->mb x=bootBuiltins x
 nolimit:base.NoLimit
structure Cx where
 prog:P7
 w:World
 K:W7
 mg:AD
 base:Heap
 A:Around
 N:AJ
 s₀:Shared
 H₀:Hp
 env:Env
 outer:List Env
 stack:List Env
 ex:List Addr
 fn:Str->Bool
 calm:Bool
 pn:AB
 xe:AA
noncomputable def br(l:List Env):List Addr:=l.filterMap (·.frame)
abbrev Cx.fs(X:Cx):List Addr:=br X.outer
def eN(a:Scope)(x:Str):Prop:=a.names.lookup x=some .local\/a.names.lookup x=some .cell\/a.names.lookup x=some .free
def dO(a:Scope)(x:Str):Prop:=a.names.lookup x=some .local\/a.names.lookup x=some .cell
def yb(env:Env)(h:Heap)(m:AD)(x:Str)(u:Value):Prop:=
 env.kindOf x=some .local/\m x=some u\/((env.kindOf x=some .cell\/env.kindOf x=some .free)/\∃c,env.cells.lookup x=some c/\h.IsCell c (some u))
structure Cx.Ok(X:Cx):Prop where
 mod:Mod X.K X.mg X.base
 kind:X.env.scope.kind=.function
 glob:X.env.globals=mainGlobals
 blt:X.env.builtins=builtinsNs
 above:X.s₀.heap.objs.size<=X.env.locals
 inj:∀x y c,X.env.cells.lookup x=some c->X.env.cells.lookup y=some c->x=y
 has:∀x,(X.env.kindOf x=some .cell\/X.env.kindOf x=some .free)->∃c,X.env.cells.lookup x=some c
 cab:∀x c,X.fn x=true->X.env.cells.lookup x=some c->X.s₀.heap.objs.size<=c
 hd:X.calm=true->X.A.handled=none
 frames:X.A.frames=some X.stack
 stk:X.stack=X.outer\/(X.stack=X.env::X.outer/\X.env.frame=some X.env.locals)
 exf:∀b∈X.ex,b≠X.env.locals/\∀x c,X.env.cells.lookup x=some c->c≠b
 bs:∀b o,X.base.get? b=some o->X.s₀.heap.get? b=some o/\X.H₀ b=none
 bsz:X.base.objs.size<=X.s₀.heap.objs.size
 noex:∀b o,X.base.get? b=some o->b∉X.ex
 exfs:∀b∈X.ex,b∉X.fs
 funs:X.s₀.heap.FunFrames X.base X.outer
 frf:∀b∈X.fs,X.H₀ b=none
structure Inv(X:Cx)(pins:AB)(σ:List (Option V))(H:Hp)(s:Shared):Prop where
 ok:X.Ok
 os:s.os=X.s₀.os
 bare:AllBare s.gens
 base:Un X.fs X.ex X.H₀ H X.s₀.heap s.heap
 loc:∃m,s.heap.Ns X.env.locals m/\∀(i:Nat) (x:Str) (v:V),X.N[i]?=some x->σ[i]?=some (some v)->eN X.env.scope x->∃u,RelV v u/\yb X.env s.heap m x u
 cell:∀x c,X.env.cells.lookup x=some c->∃v,s.heap.IsCell c v
 free:H X.env.locals=none
 freeC:∀x c,X.env.cells.lookup x=some c->H c=none
 pin:∀p∈X.pn++pins,s.heap.get? p.1=some p.2/\H p.1=none/\p.1≠X.env.locals/\p.1∉X.fs/\∀v,p.2.data≠.cell v
 hok:HOk X.prog X.w H s.heap
 len:σ.length=X.N.length
section
variable {σ:List (Option V)}{H H':Hp}{s:Shared}
theorem Cx.Ok.nofr(c:X.Ok)(e:X.base.get? b=some o):b∉X.fs:=λa=>by
 let:=(c.funs.mem a).1;grind
def Inv.bs(I:Inv X pins σ H s):∀b o,X.base.get? b=some o->s.heap.get? b=some o/\H b=none:=λb o e=>
 {I.base.keep b o (I.ok.bs b o e).1 (I.ok.bs b o e).2 (I.ok.nofr e) (I.ok.noex b o e),I.base.free b o (I.ok.bs b o e).1 (I.ok.bs b o e).2 (I.ok.noex b o e)}
def Inv.bk(I:Inv X pins σ H s):∀b o,X.base.get? b=some o->s.heap.get? b=some o:=λb o e=>(I.bs b o e).1
def Inv.mod(I:Inv X pins σ H s):Mod X.K X.mg X.base:=I.ok.mod
def Inv.kIn(I:Inv X pins σ H s):X.K.In s.heap:=I.ok.mod.kin.keeps I.bk
def Inv.lt(I:Inv X pins σ H s):X.env.locals< ~~~s:=let ⟨_,a,_⟩:=I.loc;a.lt
def Inv.sz(I:Inv X pins σ H s):X.s₀.heap.objs.size<= ~~~s:=Qg I.ok.above (Nat.le_of_lt I.lt)
def Inv.nofs(I:Inv X pins σ H s){a:Addr}(h:(~~~s)<=a):a∉X.fs:=λc=>by
 let{_,o,b,_}:=I.ok.funs.mem c;show absurd (Qi (ql b) (Qg I.sz h)) (Nat.lt_irrefl _)
theorem Inv.cne(I:Inv X pins σ H s):∀x c,X.env.cells.lookup x=some c->c≠X.env.locals:=λx c e z=>by
 let{v,o,d,i}:=I.cell x c e;let{m,{g,f,h,b,a,_},_}:=I.loc;grind
theorem Inv.funs(I:Inv X pins σ H s):s.heap.FunFrames X.base X.outer:=by
 let c:∀(l:_),(∀b∈br l,b∈X.fs)->X.s₀.heap.FunFrames X.base l->s.heap.FunFrames X.base l:=by
  intro l
  induction l with
  | nil=>intro _ _;trivial
  | cons t r k=>
    intro q m;let{j,{L,o,d,i,f,h},g}:=m;let a:=q L (by unfold br;ext);let{n,e}:=I.base.slot L o f (I.ok.frf L a) a λz=>I.ok.exfs L z a;show{j,{L,_,d,i,e,h},k (λb p=>q b (by unfold br;rw[List.filterMap_cons,d];show qg _ p)) g}
 show c _ (λ_ p=>p) I.ok.funs
def Inv.stack(I:Inv X pins σ H s):s.heap.FunFrames X.base X.stack:=by
 let e+{e,b}:=I.ok.stk
 .rw[e];show I.funs
 .rw[e]
  let{m,a,_}:=I.loc;show .cons (by rw[I.ok.kind];decide) b a (Heap.get?_none_of_le (Qg I.ok.bsz I.ok.above)) I.funs
theorem Inv.stkSub(I:Inv X pins σ H s):∀b∈br X.stack,b∈X.env.locals::X.fs:=λb c=>by
 let e+{e,a}:=I.ok.stk
 .grind
 .rw[e]at c
  unfold br at c
  rwa [List.filterMap_cons,a]at c
def Inv.stkFree(I:Inv X pins σ H s):∀b∈br X.stack,H b=none:=λb c=>by
 let e+c:=qu (I.stkSub b c)
 .rw[e];show I.free
 .let{_,o,a,_}:=I.ok.funs.mem c
  show I.base.free b o a (I.ok.frf b c) λz=>I.ok.exfs b z c
theorem Inv.step{ch:List Addr}(I:Inv X pins σ H s)(hch:∀b∈ch,(b∈X.ex\/X.s₀.heap.objs.size<=b)/\b≠X.env.locals/\(∀x c,X.env.cells.lookup x=some c->c≠b)/\∀p∈X.pn++pins,p.1≠b)(keep:∀b o,b≠X.env.locals->b∉X.fs->b∉ch->s.heap.get? b=some o->H b=none->h'.get? b=some o)(slot:∀b o,b≠X.env.locals->b∈X.fs->b∉ch->s.heap.get? b=some o->H b=none->∃sl,h'.get? b=some {o with slots:=sl})(free:∀b o,b∉ch->s.heap.get? b=some o->H b=none->H' b=none)(there:∀b o,b∉ch->s.heap.get? b=some o->∃o',h'.get? b=some o')(tups:∀b xs,H b=some (.tup xs)->H' b=some (.tup xs))(frzs:∀b o u,H b=some (.frz o u)->H' b=some (.frz o u))(tbls:∀b ps,H b=some (.tbl ps)->∃more,H' b=some (.tbl (ps++more)))(ns:∀m,s.heap.Ns X.env.locals m->h'.Ns X.env.locals m)(hok:HOk X.prog X.w H' h')(hg:AllBare g'):
 Inv X pins σ H' {s with heap:=h',gens:=g',drawn:=d',toks:=t' }:=by
 let neL:∀b o,X.s₀.heap.get? b=some o->b≠X.env.locals:=λb o e=>qm (Qi (ql e) I.ok.above)
 let neC:∀b o,X.s₀.heap.get? b=some o->b∉X.ex->b∉ch:=λb o e hx hb=>by
  let z+z:=(hch b hb).1
  .show hx z
  .show absurd (Qi (ql e) z) (Nat.lt_irrefl _)
 let cellK:∀x c,X.env.cells.lookup x=some c->∀v,s.heap.IsCell c v->h'.IsCell c v:=λx c e v hx_=>by
  let{o,ho,hd}:=hx_;let nch:c∉ch:=λz=>(hch c z).2.2.1 x c e rfl;by_cases hc:c∈X.fs
  .let{sl,q}:=slot c o (I.cne x c e) hc nch ho (I.freeC x c e)
   show{_,q,hd}
  .show{o,keep c o (I.cne x c e) hc nch ho (I.freeC x c e),hd}
 show{I.ok,I.os,hg,{λb o e n hb hx=>?_,λb o e n hb hx=>?_,λb o e n hx=>?_,λb o e hx=>?_,λb xs e=>tups b xs (I.base.tups b xs e),λb o xs e=>frzs b o xs (I.base.frzs b o xs e),λb ps e=>?_},?_,λx c e=>?_,?_,λx c e=>?_,λp hp=>?_,hok,I.len}
 .show keep b o (neL b o e) hb (neC b o e hx) (I.base.keep b o e n hb hx) (I.base.free b o e n hx)
 .let{sl,e1}:=I.base.slot b o e n hb hx
  let{sl',e2}:=slot b _ (neL b o e) hb (neC b o e hx) e1 (I.base.free b o e n hx);show{(sl'),e2}
 .let{o',e1}:=I.base.there b o e hx
  show free b o' (neC b o e hx) e1 (I.base.free b o e n hx)
 .let{o',e1}:=I.base.there b o e hx
  show there b o' (neC b o e hx) e1
 .let{m1,e1}:=I.base.tbls b ps e
  let{m2,e2}:=tbls b _ e1;show{m1++m2,by rw[e2,Array.append_assoc]}
 .let{m,hn,hl}:=I.loc
  show{m,ns m hn,λi x v e1 e2 e3=>?_};let{u,r,l}:=hl i x v e1 e2 e3;show{u,r,?_};let l+{k,c,e,z}:=l
  .show .inl l
  .show .inr {k,c,e,cellK x c e _ z}
 .let{v,z}:=I.cell x c e
  show{v,cellK x c e v z}
 .let{m,{o,_,_,ho,_},_}:=I.loc
  show free _ o (λz=>(hch _ z).2.1 rfl) ho I.free
 .let{v,o,ho,hd}:=I.cell x c e
  show free c o (λz=>(hch c z).2.2.1 x c e rfl) ho (I.freeC x c e)
 .let{e,n,ne,nf,d}:=I.pin p hp
  let nch:p.1∉ch:=λz=>(hch p.1 z).2.2.2 p hp rfl;show{keep p.1 p.2 ne nf nch e n,free p.1 p.2 nch e n,ne,nf,d}
theorem Inv.un(I:Inv X pins σ H s)(u:Un X.fs [] H H' s.heap h')(f:HOk X.prog X.w H' h'):Inv X pins σ H' {s with heap:=h',toks:=t' }:=by
 let{m,{o,q,t,g,r},_}:=id I.loc;let{p,j}:=u.any g I.free nofun
 show I.step (ch:=[]) (λ_ z=>nomatch z) (λb o _ v _ e n=>u.keep b o e n v nofun) (λb o _ v _ e n=>u.slot b o e n v nofun) (λb o _ e n=>u.free b o e n nofun) (λb o _ e=>u.there b o e nofun) u.tups u.frzs u.tbls (λk h=>by
  let{l,c,d,a,i}:=h;rw[g]at a;cases a
  show{_,c,d,j,i}) f I.bare
def Inv.call(I:Inv X pins σ H s)(u:Un (br X.stack) ch H H' s.heap h')(i:HOk X.prog X.w H' h')(q:AllBare D)(d:∀b∈ch,(b∈X.ex\/X.s₀.heap.objs.size<=b)/\b≠X.env.locals/\(∀x c,X.env.cells.lookup x=some c->c≠b)/\∀p∈X.pn++pins,p.1≠b):
 Inv X pins σ H' {s with heap:=h',gens:=D,drawn:=E,toks:=t' }:=by
 let{m,{o,B,A,k,r},_}:=id I.loc;let{v,j}:=u.any k I.free λz=>(d _ z).2.1 rfl
 show I.step d (λb o j C a e n=>u.keep b o e n (λz=>(qu (I.stkSub b z)).elim j C) a) (λb o _ _ a e n=>u.any e n a) (λb o a e n=>u.free b o e n a) (λb o a e=>u.there b o e a) u.tups u.frzs u.tbls (λy l=>by
  let{w,g,h,f,t}:=l;rw[k]at f;cases f
  show{_,g,h,j,t}) i q
theorem Inv.turned(I:Inv X pins σ H s)(k:∀b o,b≠it->s.heap.get? b=some o->h'.get? b=some o)(hn:H it=none)(hL:it≠X.env.locals)(h1:it∈X.ex\/X.s₀.heap.objs.size<=it)(h2:∀x c,X.env.cells.lookup x=some c->c≠it)(h3:∀p∈X.pn++pins,p.1≠it):Inv X pins σ H {s with heap:=h',toks:=t' }:=by
 let nit:∀b u,H b=some u->b≠it:=λb u e z=>by symm
 show I.step (g':=s.gens) (d':=s.drawn) (ch:=[it]) (λb hb=>?_) (λb o _ _ hc e _=>k b o (λz=>hc (by simp[z])) e) (λb o _ _ hc e _=>{o.slots,k b o (λz=>hc (by simp[z])) e}) (λ_ _ _ _ n=>n)
  (λb o hc e=>{o,k b o (λz=>hc (by simp[z])) e}) (λ_ _ e=>e) (λ_ _ _ e=>e) (λb ps e=>{#[],by rw[e];simp}) (λm hm=>?_) (λb u e=>?_) I.bare
 .grind
 .let{o,es,ep,ho,r}:=hm
  show{o,es,ep,k _ o (Ne.symm hL) ho,r}
 .show(I.hok b u e).stay (λc v hc q=>k c v ?_ q) (λ_ q=>q) λ_ _ q=>q
  symm
def Inv.tok(I:Inv X pins σ H s)(t:Nat):Inv X pins σ H {s with toks:=t}:=I.un .refl I.hok
def Inv.kept(I:Inv X pins σ H s)(k:∀b u,s.heap.get? b=some u->h'.get? b=some u):Inv X pins σ H {s with heap:=h',toks:=t' }:=I.un (.kept k) (I.hok.kept k)
def Inv.laid{a:Addr}(I:Inv X pins σ H s)(k:∀b u,s.heap.get? b=some u->h'.get? b=some u)(c:(~~~s)<=a)(d:ObjOk X.prog X.w (upd H a o) h' a o):
 Inv X pins σ (upd H a o) {s with heap:=h',toks:=t' }:=I.un (.laid k c (I.hok.fresh c)) (I.hok.laid k c d)
def Inv.write(I:Inv X pins σ H s)(f:tB (H x))(d:e=x\/H e=some (.own x))(k:∀b u,b≠e->s.heap.get? b=some u->h'.get? b=some u)(a:∃u,h'.get? e=some u)(c:ObjOk X.prog X.w (upd H x o) h' x o):Inv X pins σ (upd H x o) {s with heap:=h',toks:=t' }:=I.un (.write f d k a) (I.hok.write f d k a c)
def Inv.pins_of(I:Inv X pins σ H s)(h:∀p∈a,s.heap.get? p.1=some p.2/\H p.1=none/\p.1≠X.env.locals/\p.1∉X.fs/\∀v,p.2.data≠.cell v):Inv X a σ H s:=
 {I.ok,I.os,I.bare,I.base,I.loc,I.cell,I.free,I.freeC,λp b=>(qw b).elim (λz=>I.pin p (List.mem_append_left _ z)) (h p),I.hok,I.len}
def yc{N:AJ}(c:N.Nodup){i j:Nat}(a:N[i]?=some x)(b:N[j]?=some x):i=j:=by
 let{e,f}:=qo a;let{d,g}:=qo b;show(List.getElem_inj c).mp (f.trans g.symm)
theorem Kc(I:Inv X pins σ H s)(hN:X.N.Nodup)(J:X.N[i]?=some x)(g:dO X.env.scope x)(r:RelV v u)(h:∀s',Inv X pins (σ.set i (some v)) H s'->(∃a,Heap.SameBut a s.heap s'.heap/\(a=X.env.locals\/X.env.cells.lookup x=some a))->Q () s')(hf:X.fn x=true\/X.env.scope.names.lookup x=some .local:=by trivial):wpAny M A (storeName X.env x u) Q E s:=by
 let{m,N,hl}:=id I.loc
 let F:(X.env.scope.kind==.class||(X.env.scope.kind==.module&&X.env.locals != X.env.globals))=false:=by rw[I.ok.kind];rfl
 let t:i<σ.length:=by rw[I.len];grind
 let B:=I.cne
 let f:∀{a:Addr}{h':Heap},(∃o,s.heap.get? a=some o/\H a=none)->Heap.SameBut a s.heap h'->HOk X.prog X.w H h':=λ{a h'} ha V b ob e=>by
  show(I.hok b ob e).stay (λc R l q=>(V.2 c ?_).trans q) (λ_ q=>q) λ_ _ q=>q;grind
 let D+D:=g
 .show wpAny_storeName_local D N (λh' hn' V=>?_) F
  let{oL,_,_,Z,_}:=id N;show h _ {I.ok,I.os,I.bare,{λb o e n hb g=>?_,λb o e n hb g=>?_,I.base.free,λb o e g=>?_,I.base.tups,I.base.frzs,I.base.tbls},{_,hn',λj y O e1 e2 U=>?_},λy c e=>?_,I.free,I.freeC,λp L=>?_,f {(oL),Z,I.free} V,by simpa using I.len} {_,V,.inl rfl}
  .show(V.2 b (qm (Qi (ql e) I.ok.above))).trans (I.base.keep b o e n hb g)
  .let{T,e1}:=I.base.slot b o e n hb g
   show{T,(V.2 b (qm (Qi (ql e) I.ok.above))).trans e1}
  .let{o',e1}:=I.base.there b o e g
   show{o',(V.2 b (qm (Qi (ql e) I.ok.above))).trans e1}
  .by_cases w:j=i
   .subst w
    rw[J]at e1;cases e1;rw[List.getElem?_set_self t]at e2;cases e2;show{u,r,.inl {D,by simp}}
   .rw[Qp (Ne.symm w)]at e2
    let{W,S,q}:=hl j y O e1 e2 U;show{W,S,?_};let{k,e}+{k,c,e,z}:=q
    .show .inl {k,?_}
     let:y≠x:=λe=>w (yc hN e1 (e ▸ J));grind
    .show .inr {k,c,e,z.sameBut V (B y c e)}
  .let{R,z}:=I.cell y c e
   show{R,z.sameBut V (B y c e)}
  .let{e,n,K,nf,d}:=I.pin p L
   show{(V.2 p.1 K).trans e,n,K,nf,d}
 .let C:X.fn x=true:=by
   grind
  let{c,l}:=I.ok.has x (.inl D);let{R,z}:=I.cell x c l;show wpAny_storeName_cell I.ok.kind D l z (λh' P V=>?_);let{oc,hoc,hocd}:=id z;show h {s with heap:=h' } {I.ok,I.os,I.bare,{λb o e n hb g=>?_,λb o e n hb g=>?_,I.base.free,λb o e g=>?_,I.base.tups,I.base.frzs,I.base.tbls},{m,N.sameBut V (Ne.symm (B x c l)),λj y O e1 e2 U=>?_},λy G e=>?_,I.free,I.freeC,λp L=>?_,f {oc,hoc,I.freeC x c l} V,by simpa using I.len} {c,V,.inr l}
  .show(V.2 b (qm (Qi (ql e) (I.ok.cab x c C l)))).trans (I.base.keep b o e n hb g)
  .let{T,e1}:=I.base.slot b o e n hb g
   show{T,(V.2 b (qm (Qi (ql e) (I.ok.cab x c C l)))).trans e1}
  .let{o',e1}:=I.base.there b o e g
   show{o',(V.2 b (qm (Qi (ql e) (I.ok.cab x c C l)))).trans e1}
  .by_cases w:j=i
   .subst w
    rw[J]at e1;cases e1;rw[List.getElem?_set_self t]at e2;cases e2;show{u,r,.inr {.inl D,c,l,P}}
   .rw[Qp (Ne.symm w)]at e2
    let{W,S,q}:=hl j y O e1 e2 U;show{W,S,?_};let q+{k,G,e,z'}:=q
    .show .inl q
    .show .inr {k,G,e,z'.sameBut V ?_}
     rintro rfl;show w (yc hN e1 (I.ok.inj _ _ _ e l ▸ J))
  .by_cases Y:G=c
   .grind
   .let{w2,z2}:=I.cell y G e
    show{w2,z2.sameBut V Y}
  .let{e,n,K,nf,d}:=I.pin p L
   show{(V.2 p.1 ?_).trans e,n,K,nf,d};grind
abbrev Zm(X:Cx)(x:Str):Prop:=X.fn x=true\/X.env.scope.names.lookup x=some .local
def tD(I:Inv X pins σ H s)(a:X.N.Nodup)(d:X.N[i]?=some x)(b:dO X.env.scope x)(r:RelV v u)(h:∀s',Inv X pins (σ.set i (some v)) H s'->Q () s')(e:Zm X x:=by trivial):wpAny M A (storeName X.env x u) Q E s:=
 Kc I a d b r (λs' c _=>h s' c) e
def Inv.call'(I:Inv X pins σ H s)(f:s'.os=s.os)(u:Un (br X.stack) ch H H' s.heap s'.heap)(d:HOk X.prog X.w H' s'.heap)(e:AllBare s'.gens)(a:∀b∈ch,(b∈X.ex\/X.s₀.heap.objs.size<=b)/\b≠X.env.locals/\(∀x c,X.env.cells.lookup x=some c->c≠b)/\∀p∈X.pn++pins,p.1≠b):Inv X pins σ H' s':=by
 let{k,h,j,i,g}:=s';subst f;show I.call u d e a
end
abbrev XK:=Value->Option Addr->Hp->Prop
abbrev St:=List (Option V)
abbrev VK:=V->Hp->Prop
abbrev TE:=St->Hp->VK->Prop
abbrev TT:=St->Hp->(Bool->Hp->Prop)->Prop
abbrev TA:=St->Hp->(AM->Hp->Prop)->Prop
structure cX where
 nx:St->Hp->Prop
 rt:VK
 bk:St->Hp->Prop:=λ_ _=>False
 ct:St->Hp->Prop:=λ_ _=>False
abbrev TS:=cX->St->Hp->Prop
def EP(X:Cx)(pins:AB)(σ:St)(Q:VK)(u:Value)(s':Shared):Prop:=∃v a,Inv X pins σ a s'/\RelV v u/\Q v a
def TP(X:Cx)(pins:AB)(σ:St)(Q:Bool->Hp->Prop)(b:Bool)(s':Shared):Prop:=∃a,Inv X pins σ a s'/\Q b a
def AP(X:Cx)(pins:AB)(σ:St)(Q:AM->Hp->Prop)(us:AC)(s':Shared):Prop:=∃a b,Inv X pins σ b s'/\Vals a us/\Q a b
def SP(X:Cx)(pins:AB)(D:cX)(f:Flow)(s':Shared):Prop:=
 match f with
 | .next=>∃a b,Inv X pins a b s'/\D.nx a b
 | .brk=>∃a b,Inv X pins a b s'/\D.bk a b
 | .cont=>∃a b,Inv X pins a b s'/\D.ct a b
 | .ret u=>∃v a b,Inv X pins a b s'/\RelV v u/\D.rt v b
abbrev Zo(X:Cx){a:Type}:=@wpAny a (mZ X.prog X.w) X.A
def PE(X:Cx)(e:Expr)(t:TE):Prop:=
 ∀(a:List _) (s:Shared) (b:St) (H:Hp) (Q:VK),Inv X a b H s->t b H Q->Zo X (eval e X.env) (EP X a b Q) X.xe s
def PT(X:Cx)(e:Expr)(t:TT):Prop:=
 ∀(a:List _) (s:Shared) (b:St) (H:Hp) (Q:Bool->Hp->Prop),Inv X a b H s->t b H Q->Zo X (isTrue e X.env (eval e X.env)) (TP X a b Q) X.xe s
def PW(X:Cx)(e:Expr)(t:TT):Prop:=
 ∀(a:Sem _) (b:List _) (s:Shared) (c:St) (H:Hp) (Q:Bool->Hp->Prop),Inv X b c H s->t c H Q->Zo X (isTrue e X.env a) (TP X b c Q) X.xe s
def PW.pt(h:PW X e t):PT X e t:=h _
def PA(X:Cx)(b:AK)(t:TA):Prop:=
 ∀(a:Pos) (c:List _) (s:Shared) (d:St) (H:Hp) (Q:AM->Hp->Prop),Inv X c d H s->t d H Q->Zo X (spliced (backTo a (starEach b X.env))) (AP X c d Q) X.xe s
def PS(X:Cx)(st:Stmt)(t:TS):Prop:=
 ∀(a:List _) (s:Shared) (b:St) (H:Hp) (D:cX),Inv X a b H s->t D b H->Zo X (exec st X.env) (SP X a D) X.xe s
def PSs(X:Cx)(st:List Stmt)(t:TS):Prop:=
 ∀(a:List _) (s:Shared) (b:St) (H:Hp) (D:cX),Inv X a b H s->t D b H->Zo X (execs st X.env) (SP X a D) X.xe s
def aD(h:wpAny M A t Q E s)(c:∀a s,Q a s->b a s):wpAny M A t b E s:=ww h c λ_ _ x=>x
section
def yd(i:Nat):TE:=λa H Q=>∃v,a[i]?=some (some v)/\Q v H
def tC(v:V):TE:=λ_ H Q=>Q v H
abbrev ba(x:Str):Prop:=(x==("__debug__":Str))=false
abbrev fN(x:Str):Prop:=(x==("__classdict__":Str))=false
def fC{j:Pos}(p:X.N[i]?=some x)(o:eN X.env.scope x)(f:ba x:=by decide)(g:fN x:=by decide):PE X (.Name x j) (yd i):=by
 intro w s y H Q I h;let{v,e,h}:=h;let{m,n,q}:=I.loc;let{u,r,l}:=q i x v p e o
 let b:EP X _ y Q u s:={(v),H,I,r,h}
 let{d,t}+{d,c,k,a}:=l
 .show wpAny_Name (wpAny_loadName_local I.ok.kind d n t b) f
 .let d+d:=d
  .show wpAny_Name (wpAny_loadName_cell I.ok.kind d k a b) f
  .show wpAny_Name (wpAny_loadName_free I.ok.kind d k a b g) f
def tE{i j a}:PE X (.Constant (.int i) j a) (tC (.int i)):=λ_ _ _ H _ I h=>wpAny_Constant_int {.int i,H,I.tok _,{_,rfl},h}
def ye{b j a}:PE X (.Constant (.bool b) j a) (tC (.bl b)):=λ_ _ _ H _ I h=>Constant_bool {.bl b,H,I,rfl,h}
def yf{j a}:PE X (.Constant .none j a) (tC .non):=λ_ _ _ H _ I h=>Constant_none {.non,H,I,rfl,h}
def yg{x j b}:PE X (.Constant (.str x) j b) (tC (.str x)):=λ_ _ _ H _ I h=>Calls.Constant_str {.str x,H,I.tok _,{_,rfl},h}
def Gl(X:Cx)(x:Str):Prop:=X.env.kindOf x=some .globalImplicit
def d7{σ:St}(I:Inv X pins σ H s)(d:Gl X x)(e:X.mg x=some u)(h:Q u s)(c:ba x:=by decide):Zo X (eval (.Name x b) X.env) Q E s:=
 Calls.Name_function_global I.ok.kind d (Calls.loadGlobal_global (by rw[I.ok.glob];show I.mod.glob.keeps I.bk) e h) c
theorem nz{E:AA}{σ:St}{b:Pos}(I:Inv X pins σ H s)(e:Gl X x)(g:X.mg x=none)(c:bootBuiltins x=some u)(h:Q u s)(j:x≠"__name__":=by decide)(f:ba x:=by decide):Zo X (eval (.Name x b) X.env) Q E s:=by
 let{k,i,d}:=I.mod.blt;show Calls.Name_function_global I.ok.kind e (Calls.loadGlobal_builtin (by rw[I.ok.glob];show I.mod.glob.keeps I.bk) g (by rw[I.ok.blt];show i.keeps I.bk) ((d x j).trans c) h) f
def gW{x:Str}{v:V}{u:Value}{a:Pos}(c:Gl X x)(b:X.mg x=some u)(r:RelV v u)(d:ba x:=by decide):PE X (.Name x a) (tC v):=
 λ_ _ _ H _ I h=>d7 I c b {(v),H,I,r,h} d
def Ke{a:Pos}(d:Gl X x)(e:X.mg x=none)(b:bootBuiltins x=some u)(r:RelV v u)(f:x≠"__name__":=by decide)(c:ba x:=by decide):PE X (.Name x a) (tC v):=
 λ_ _ _ H _ I h=>nz I d e b {(v),H,I,r,h} f c
variable {a b:Expr}{ta tb:TE}
variable {tA tB':TT}{rest:AK}
def nA(t u:TT):TT:=λa H Q=>t a H λc d=>if c=true then u a d Q else Q false d
def Kf(t u:TT):TT:=λa H Q=>t a H λc d=>if c=true then Q true d else u a d Q
def yh(t:TT):TT:=λa H Q=>t a H λc d=>Q (!c) d
def yi(d:PT X a tA):PW X (.BoolOp .And [a] pos) tA:=by
 intro g b s i H Q I h;show isTrue_and (aD (d _ s i H Q I h) λc f e=>?_)
 cases c with
 | true=>show isTrue_and_nil e
 | false=>show e
def yj(d:PT X a tA):PW X (.BoolOp .Or [a] pos) tA:=by
 intro g b s i H Q I h;show isTrue_or (aD (d _ s i H Q I h) λc f e=>?_)
 cases c with
 | false=>show isTrue_or_nil e
 | true=>show e
def yk(i:PT X a tA)(n:PW X (.BoolOp .And (b::rest) pos) tB'):PW X (.BoolOp .And (a::b::rest) pos) (nA tA tB'):=by
 intro k l s m H Q I h;show isTrue_and (aD (i _ s m H _ I h) λc j d=>?_);let{g,f,e}:=d
 cases c with
 | true=>show n k _ j m g Q f e
 | false=>show{(g),f,e}
def ym(i:PT X a tA)(n:PW X (.BoolOp .Or (b::rest) pos) tB'):PW X (.BoolOp .Or (a::b::rest) pos) (Kf tA tB'):=by
 intro k l s m H Q I h;show isTrue_or (aD (i _ s m H _ I h) λc j d=>?_);let{g,f,e}:=d
 cases c with
 | true=>show{(g),f,e}
 | false=>show n k _ j m g Q f e
def yn(d:PT X a tA):PT X (.UnaryOp .Not a pos) (yh tA):=by
 intro b s c H Q I h;show isTrue_not (d _ s c H _ I h)
def yo(ta tb:TE):TE:=λa H Q=>ta a H λx d=>∃c,x=.bl c/\if c=true then tb a d Q else Q (.bl false) d
def yp(ta tb:TE):TE:=λσ H Q=>ta σ H λx d=>∃c,x=.bl c/\if c=true then Q (.bl true) d else tb σ d Q
def yq(ta:TE):TE:=λa H Q=>ta a H λx d=>∃c,x=.bl c/\Q (.bl (!c)) d
def nB{e}(h:PE X a t):PE X (.BoolOp e [a] pos) t:=λb s d H Q I c=>BoolOp_one (h _ s d H Q I c)
def yr(k:PE X a ta)(n:PE X (.BoolOp .And (b::rest) pos) tb):PE X (.BoolOp .And (a::b::rest) pos) (yo ta tb):=by
 intro l s m H Q I h;show BoolOp_and (aD (k _ s m H _ I h) λv i e=>?_);let{x,f,g,j,d}:=e;let{c,rfl,d}:=d;cases j;show wpAny_truthy_bool ?_
 cases c with
 | true=>show n _ i m f Q g d
 | false=>show{.bl _,f,g,rfl,d}
def yt(k:PE X a ta)(hb:PE X (.BoolOp .Or (b::rest) pos) tb):PE X (.BoolOp .Or (a::b::rest) pos) (yp ta tb):=by
 intro pins s σ H Q I h;show BoolOp_or (aD (k pins s σ H _ I h) λv i e=>?_);let{x,f,g,j,d}:=e;let{c,rfl,d}:=d;cases j;show wpAny_truthy_bool ?_
 cases c with
 | false=>show hb pins i σ f Q g d
 | true=>show{.bl true,f,g,rfl,d}
def yu(j:PE X a ta):PE X (.UnaryOp .Not a pos) (yq ta):=by
 intro b s l H Q I h;show UnaryOp_ (aD (j _ s l H _ I h) λv k d=>?_);let{x,i,g,f,e}:=d;let{c,rfl,e}:=e;cases f;show not_of (wpAny_truthy_bool {.bl _,i,g,rfl,e})
def QU(t:TT)(ta tb:TE):TE:=λa H Q=>t a H λc d=>if c=true then ta a d Q else tb a d Q
def Kg(l:PT X c tA)(k:PE X a ta)(o:PE X b tb):PE X (.IfExp c a b pos) (QU tA ta tb):=by
 intro n s m H Q I h;show wpAny_IfExp (aD (l _ s m H _ I h) λd j e=>?_);let{i,g,f}:=e
 cases d with
 | true=>show k _ j m i Q g f
 | false=>show o _ j m i Q g f
end
def SqL(K:W7)(H:Hp)(a:Addr)(xs:AM):Prop:=
 Rd H a (.lst xs)\/
  ∃(o:Obj) (b:Array _) (n:Nat),K.lookup a=some o/\o.cls=.type "list"/\o.dict=none/\o.data=.seq b n/\b.size<=sizeLine/\Vals xs b.toList
def SqT(K:W7)(H:Hp)(a:Addr)(xs:AM):Prop:=
 Rd H a (.tup xs)\/
  ∃(o:Obj) (b:Array _) (n:Nat),K.lookup a=some o/\o.cls=.type "tuple"/\o.data=.seq b n/\b.size<=sizeLine/\Vals xs b.toList
noncomputable def yv:Value->Option V
 | .none=>some .non
 | .bool b=>some (.bl b)
 | .int i _=>some (.int i)
 | .str x _=>some (.str x)
 | .bytes b _=>some (.byt b)
 | .float b _=>some (.flt b)
 | .ref a=>some (.ref a)
 | .type n=>some (.ty n)
 | _=>none
def RelV.abs(r:RelV x u):yv u=some x:=by
 cases x with
 | non=>cases r;rfl
 | bl _=>cases r;rfl
 | int _=>let{t,rfl}:=r;rfl
 | str _=>let{t,rfl}:=r;rfl
 | byt _=>let{t,rfl}:=r;rfl
 | flt _=>let{t,rfl}:=r;rfl
 | ref _=>cases r;rfl
 | ty _=>cases r;rfl
def RelV.inj(r:RelV x u)(q:RelV y u):x=y:=wx (r.abs.symm.trans q.abs)
theorem Vals.inj:∀{xs ys:AM}{us:AC},Vals xs us->Vals ys us->xs=ys
 :=by
  intro xs ys us h
  induction h generalizing ys with
  | nil=>
    intro a;cases a;rfl
  | cons r t c=>
    intro a
    cases a with
    | cons b d=>rw[r.inj b,c d]
section
variable {σ:St}{H:Hp}{s:Shared}{a:Addr}{xs:AM}
def SqL.of{K:W7}(h:H a=some (.lst xs)):SqL K H a xs:=.inl (.inl h)
def SqT.of{K:W7}(h:H a=some (.tup xs)):SqT K H a xs:=.inl (.inl h)
theorem Inv.list(I:Inv X pins σ H s)(h:SqL X.K H a xs):∃its:AC,Vals xs its/\PlainL s.heap a its.toArray/\xs.length<=sizeLine:=by
 let h+{o,its,n,c,d,b,g,f,r}:=h
 .let{z,its,n,r,e}:=h.ok I.hok
  show{its,r,{_,n,e,rfl,rfl,rfl},z}
 .show{its.toList,r,{o,n,I.kIn a o c,d,b,by simpa using g},?_}
  let e:=r.length
  ext
theorem Inv.tuple(I:Inv X pins σ H s)(h:SqT X.K H a xs):∃its:AC,Vals xs its/\IsTup s.heap a its.toArray/\xs.length<=sizeLine:=by
 let h+{o,its,n,c,b,d,f,r}:=h
 .let{z,its,r,p}:=h.ok I.hok
  show{(its),r,p,z}
 .show{its.toList,r,{o,I.kIn a o c,b,n,by simpa using d},?_}
  let e:=r.length
  ext
theorem Inv.list_inj(I:Inv X pins σ H s)(h:SqL X.K H a xs)(k:SqL X.K H a ys):xs=ys:=by
 let{j,r,{o,n,e,_,_,d},_}:=I.list h;let{i,b,{c,f,g,_,_,l},_}:=I.list k
 let:j=i:=by grind
 subst this;show r.inj b
theorem Inv.tuple_inj(I:Inv X pins σ H s)(h:SqT X.K H a xs)(k:SqT X.K H a ys):xs=ys:=by
 let{j,r,{o,e,_,n,d},_}:=I.tuple h;let{i,b,{c,g,_,f,l},_}:=I.tuple k
 let:j=i:=by grind
 subst this;show r.inj b
end
noncomputable abbrev Cx.wish(X:Cx)(E:AA):Cx:={X with xe:=E}
abbrev Cx.nox(X:Cx):Cx:=X.wish λ_ _=>False
def Cx.Ok.wish{X:Cx}(a:X.Ok)(E:AA):(X.wish E).Ok:=
 {(a.mod),a.kind,a.glob,a.blt,a.above,a.inj,a.has,a.cab,a.hd,a.frames,a.stk,a.exf,a.bs,a.bsz,a.noex,a.exfs,a.funs,a.frf}
def Cx.Ok.unwish{X:Cx}(a:(X.wish E).Ok):X.Ok:=
 {(a.mod),a.kind,a.glob,a.blt,a.above,a.inj,a.has,a.cab,a.hd,a.frames,a.stk,a.exf,a.bs,a.bsz,a.noex,a.exfs,a.funs,a.frf}
section
variable {σ:St}{H:Hp}{s:Shared}{E:AA}{st:Stmt}{rest:List Stmt}{t u:TS}{e:Expr}{te:TE}
def Inv.wish(I:Inv X pins σ H s)(E:AA):Inv (X.wish E) pins σ H s:={I.ok.wish E,I.os,I.bare,I.base,I.loc,I.cell,I.free,I.freeC,I.pin,I.hok,I.len}
def Inv.unwish(I:Inv (X.wish E) pins σ H s):Inv X pins σ H s:={(I.ok.unwish),I.os,I.bare,I.base,I.loc,I.cell,I.free,I.freeC,I.pin,I.hok,I.len}
def SP.unwish(h:SP (X.wish E) pins D f s'):SP X pins D f s':=by
 cases f with
 | next=>let{a,b,I,q}:=h;show{(a),b,I.unwish,q}
 | brk=>let{a,b,I,q}:=h;show{(a),b,I.unwish,q}
 | cont=>let{a,b,I,q}:=h;show{(a),b,I.unwish,q}
 | ret u=>let{v,a,b,I,r,q}:=h;show{(v),a,b,I.unwish,r,q}
def PE.nox{e:Expr}{t:TE}(h:PE X.nox e t):PE X e t:=λpins s σ H Q I hw=>
 ww (h pins s σ H Q (I.wish _) hw) (λ_ _ ⟨v,H',I',r,q⟩=>{(v),H',I'.unwish,r,q}) λ_ _ z=>False.elim z
def PT.nox{e:Expr}{t:TT}(h:PT X.nox e t):PT X e t:=λpins s σ H Q I hw=>
 ww (h pins s σ H Q (I.wish _) hw) (λ_ _ ⟨H',I',q⟩=>{(H'),I'.unwish,q}) λ_ _ z=>False.elim z
def PSs.nox{st:List Stmt}(h:PSs X.nox st t):PSs X st t:=λb s c H D I a=>
 ww (h _ s c H D (I.wish _) a) (λ_ _ q=>q.unwish) λ_ _ z=>False.elim z
def yw:TS:=λD a H=>D.nx a H
def yx(t u:TS):TS:=λD a H=>t {D with nx:=u D} a H
def nE:PSs X [] yw:=λ_ _ a H _ I h=>wpAny_execs_nil {(a),H,I,h}
def eO(a:PS X st t)(c:PSs X rest u):PSs X (st::rest) (yx t u):=by
 intro g s i H D I h;show wpAny_execs_cons (aD (a _ s i H _ I h) λf b q=>?_)
 cases f with
 | next=>
   let{e,j,d,q}:=q;show c _ b e j D d q
 | ret v=>show q
 | brk=>show q
 | cont=>show q
def tF(a:PS X st t):PSs X [st] t:=by
 intro c s d H D I h;show wpAny_execs_cons (aD (a _ s d H D I h) λf b q=>?_)
 cases f with
 | next=>show wpAny_execs_nil q
 | ret v=>show q
 | brk=>show q
 | cont=>show q
def Inv.quiet(I:Inv X pins σ H s):interactive X.env=false:=by simp[interactive,I.ok.kind]
def yy(te:TE):TS:=λD b H=>te b H λ_ a=>D.nx b a
def iR(f:PE X e te)(hs:swapsWith e none pos.line X.env=pure false:=by rfl):PS X (.Expr e pos) (yy te):=by
 intro j s k H D I h;show wpAny_Expr_any (aD (f _ s k H _ I h) λv i a=>?_) I.quiet hs;let{x,d,c,g,b}:=a;show{(k),d,c,b}
def yz(te:TE):TS:=λD a H=>te a H D.rt
def yA(d:PE X e te):PS X (.Return (some e) pos) (yz te):=by
 intro j s k H D I h;show wpAny_Return_some (aD (d _ s k H _ I h) λv i a=>?_);let{x,g,c,b,f}:=a;show{(x),k,g,c,b,f}
def yB(c:TT)(t u:TS):TS:=λD d H=>c d H λb a=>if b=true then t D d a else u D d a
def lH(m:PT X c n)(l:PSs X a t)(p:PSs X b u):PS X (.If c a b pos) (yB n t u):=by
 intro o s e H D I h;show wpAny_If (aD (m _ s e H _ I h) λd g f=>?_);let{k,i,j}:=f
 cases d with
 | true=>show l _ g e k D i j
 | false=>show p _ g e k D i j
def nF:TS:=λ_ _ _=>False
def Kh:PS X st nF:=λ_ _ _ _ _ _ h=>h.elim
def iS{sts:List Stmt}:PSs X sts nF:=λ_ _ _ _ _ _ h=>h.elim
end
abbrev TG:=V->St->Hp->(St->Hp->Prop)->Prop
abbrev nG:=AM->St->Hp->(St->Hp->Prop)->Prop
def PG(X:Cx)(a:Expr)(t:TG):Prop:=
 ∀(b:List _) (s:Shared) (d:St) (H:Hp) (v:V) (u:Value) (Q:St->Hp->Prop),Inv X b d H s->RelV v u->t v d H Q->
  Zo X (assign a X.env u) (λ_ f=>∃c e,Inv X b c e f/\Q c e) X.xe s
def tG(X:Cx)(a:AK)(t:nG):Prop:=
 ∀(b:List _) (s:Shared) (g:St) (H:Hp) (f:AM) (e:List _) (Q:St->Hp->Prop),Inv X b g H s->Vals f e->t f g H Q->
  Zo X (assignInOrder ((assignEach a X.env).map (·.2)) e) (λ_ h=>∃c d,Inv X b c d h/\Q c d) X.xe s
abbrev nH:=V->V->V->Hp->(Hp->Prop)->Prop
def nI(X:Cx)(t:nH):Prop:=
 ∀(a:List _) (s:Shared) (d:St) (H:Hp) (o i v:V) (b c u:Value) (Q:Hp->Prop),Inv X a d H s->RelV o b->RelV i c->RelV v u->t o i v H Q->
  Zo X (setItem b c u) (λ_ f=>∃e,Inv X a d e f/\Q e) X.xe s
def lI(i:Nat):TG:=λv a H Q=>Q (a.set i (some v)) H
def yC(a:X.N.Nodup)(d:X.N[i]?=some x)(b:dO X.env.scope x)(e:Zm X x:=by trivial):PG X (.Name x pos) (lI i):=by
 intro f s j H v u Q I r h;show wpAny_assign_Name (tD I a d b r (λg c=>{_,H,c,h}) e)
def yD:nG:=λb a H Q=>b=[]/\Q a H
def yE(t:TG)(u:nG):nG:=λd b H Q=>∃v r,d=v::r/\t v b H λa c=>u r a c Q
def yF:tG X [] yD:=by
 intro a s b H d c Q I r h;let{e,h}:=h;show assignInOrder_nil {(b),H,I,h}
def Ki(k:PG X e t)(i:tG X a u)(hs:(assignEach (e::a) X.env).map (·.2)=assign e X.env::(assignEach a X.env).map (·.2):=by rfl):tG X (e::a) (yE t u):=by
 intro n s o H w q Q I r h;let{v,m,p,h}:=h;subst p
 cases r with
 | cons r f=>
   rw[hs];show assignInOrder_cons (aD (k _ s o H _ _ _ I r h) λ_ d b=>?_);let{c,j,g,l}:=b;show i _ d c j _ _ Q g f l
def yG(K:W7)(n:Nat)(t:nG):TG:=λv d H Q=>∃a c,v=.ref a/\SqT K H a c/\c.length=n/\t c d H Q
theorem yH{k:Nat}(l:X.calm=true)(h:tG X f t)(m:(assignEach f X.env).length=n:=by rfl)(d:(assignEach f X.env).findIdx? (·.1)=none:=by rfl):PG X (.Tuple f k pos) (yG X.K n t):=by
 intro x s B H v u Q I r c;let{a,z,y,p,q,c}:=c;subst y;cases r;let{A,i,j,w}:=I.tuple p;show assign_Tuple_tuple (I.ok.hd l) j (by simp[m,<-q,i.length]) d λC g=>h _ _ B H z _ Q (I.kept λb o e=>g b o (qm (ql e)) e) (by grind) c
def yI(b f:TE)(t:nH):TG:=λv a H Q=>b a H λo d=>f a d λi c=>t o i v c λe=>Q a e
def yJ(n:PE X o D)(k:PE X i f)(hs:nI X t)(B:∀v,assign (.Subscript o i pos) X.env v=(do
  let b <-holding [v] (eval o X.env)
  let c <-holding [v,b] (eval i X.env)
  standAt pos
  holding [v,b,c] (setItem b c v)
  release [v,b,c] []):=by intro _;rfl):PG X (.Subscript o i pos) (yI D f t):=by
 intro e s d H v u Q I r h;rw[B];show wa (we (aD (n _ s d H _ I h) λb m a=>?_));let{x,p,j,G,q}:=a;show wa (we (aD (k _ m d p _ j q) λc l a=>?_));let{y,E,C,A,F}:=a;show wa (wpAny_standAt (wa (we (aD (hs _ l d E x y v b c u _ C G A r F) λ_ J a=>?_))));let{w,g,z}:=a;show wpAny_release {(d),w,g,z}
def fO(a:TE)(g:TG):TS:=λD c H=>a c H λx b=>g x c b D.nx
theorem yK(i:PE X e m)(j:PG X a g)(hs:swapsWithSole [a] e pos.line X.env=pure false:=by rfl)(o:swappedStores [a] e X.env=pure none:=by rfl)(n:(assignEach [a] X.env).map (·.2)=[assign a X.env]:=by rfl):PS X (.Assign [a] e pos) (fO m g):=by
 intro r s t H D I h;show wpAny_Assign_stores (aD (i _ s t H _ I h) λv c b=>?_) hs o;let{x,d,l,k,f}:=b;rw[n];show aD (j _ c t d x v _ l k f) λ_ p q=>q
def nJ(c:X.N.Nodup)(o:X.N[i]?=some x)(p:dO X.env.scope x)(j:PE X e n)(hs:swapsWith e (some (.Name x a)) pos.line X.env=pure false:=by rfl)(g:Zm X x:=by trivial):
 PS X (.Assign [.Name x a] e pos) (fO n (lI i)):=by
 intro t s u H D I h;show wpAny_Assign_Name (aD (j _ s u H _ I h) λv r b=>?_) hs;let{y,d,m,l,f}:=b;show tD m c o p l (λq k=>{_,d,k,f}) g
structure It where
 go:Nat->Hp->Prop
 yld:Nat->Hp->V->Hp->Prop
 stop:Nat->Hp->Prop
def cD(X:Cx)(pins:AB)(H:Hp)(b:Addr):Prop:=
 H b=none/\b≠X.env.locals/\b∉X.fs/\(b∈X.ex\/X.s₀.heap.objs.size<=b)/\(∀x c,X.env.cells.lookup x=some c->c≠b)/\∀p∈X.pn++pins,p.1≠b
theorem Inv.fpOk{σ:St}{b:Addr}(I:Inv X pins σ H s)(f:(~~~s)<=b)(a:H' b=none):cD X pins H' b:=by
 show{a,Nat.ne_of_gt (Qi I.lt f),I.nofs f,.inr (Qg I.sz f),λx c e z=>?_,λp d z=>?_}
 .let{v,q}:=I.cell x c e
  show absurd (Qi q.lt (by ext)) (Nat.lt_irrefl _)
 .show absurd (Qi (ql (I.pin p d).1) (by ext)) (Nat.lt_irrefl _)
structure dP(P:P7)(w:World)(K:W7)(tg:Expr)(J:It)(fp:List Addr)(it:Addr)(tn:Nat->Heap->Prop):Prop where
 mem:it∈fp
 obj:∀i h,tn i h->∀b∈fp,∃o,h.get? b=some o/\∀v,o.data≠.cell v
 keep:∀i h h',tn i h->(∀b∈fp,∀o,h.get? b=some o->h'.get? b=some o)->tn i h'
 item:∀(X:Cx),X.prog=P->X.w=w->X.K=K->X.calm=true->∀(i:Nat) (pins:AB) (s:Shared) (σ:St) (H:Hp) (E:AA),Inv X pins σ H s->(∀b∈fp,cD X pins H b)->tn i s.heap->J.go i H->
  wpAny (mZ P w) X.A (pyNext (.ref it)) (λr s1=>∃u,r=some u/\
   wpAny (mZ P w) X.A (letOwnedTupleGo tg (.ref it) u) (λ_ s2=>∃x H',Inv X pins σ H' s2/\RelV x u/\J.yld i H x H'/\tn (i+1) s2.heap/\∀b∈fp,H' b=none) E s1) E s
 done:∀(X:Cx),X.prog=P->X.w=w->X.K=K->X.calm=true->∀(i:Nat) (pins:AB) (s:Shared) (σ:St) (H:Hp) (E:AA),Inv X pins σ H s->(∀b∈fp,cD X pins H b)->tn i s.heap->J.stop i H->
  wpAny (mZ P w) X.A (pyNext (.ref it)) (λr s1=>r=none/\Inv X pins σ H s1) E s
 self:∀(A:Around) (i:Nat) (s:Shared) (Q:AA) (E:AA),tn i s.heap->Q (.ref it) s->wpAny (mZ P w) A (pyIter (.ref it)) Q E s
abbrev TI:=St->Hp->(It->Hp->Prop)->Prop
def Kj(X:Cx)(pins:AB)(σ:St)(g:Expr)(R:It->Hp->Prop)(a:Value)(e:Shared):Prop:=
 ∃(f:Addr) (d:List _) (c:Nat->Heap->Prop) (J:It) (h:Hp),a=.ref f/\Inv X pins σ h e/\dP X.prog X.w X.K g J d f c/\c 0 e.heap/\(∀b∈d,cD X pins h b)/\R J h
def PI(X:Cx)(d a:Expr)(b:TI):Prop:=
 ∀(e:List _) (s:Shared) (f:St) (H:Hp) (R:It->Hp->Prop),Inv X e f H s->b f H R->
  Zo X (eval a X.env) (λv c=>Zo X (pyIter v) (Kj X e f d R) X.xe c) X.xe s
theorem tH(f:s.heap.get? c=some o)(b:o.cls=.type n)(e:o.data=.fields vs)(g:["enumerate","zip","dict_itemiterator","dict_reverseitemiterator","odict_iterator","itertools.zip_longest","itertools.pairwise"].contains n=false)(a:Q () s):wpAny M A (letOwnedTupleGo d (.ref c) u) Q E s:=by
 cases d<;>first
  | show wc a
  | (cases u<;>first
   | show wc a
   | (show wa (wpAny_load f ?_)
      rw[b,e];change wpAny M A (if _ then _ else _) Q E s;rw[if_neg ⋯]
      show wc a))
noncomputable def Kk(K:W7)(a:Addr):It:=
 {λi H=>∃b x,SqL K H a b/\b[i]?=some x,λi H x d=>d=H/\∀b,SqL K H a b->b[i]?=some x,λi H=>∃b,SqL K H a b/\b.length<=i}
def Kl(K:W7)(a:Addr):It:=
 {λi H=>∃b x,SqT K H a b/\b[i]?=some x,λi H x d=>d=H/\∀b,SqT K H a b->b[i]?=some x,λi H=>∃b,SqT K H a b/\b.length<=i}
def tI(lo:Int)(n:Nat):It:={λi _=>i<n,λi H x a=>a=H/\x=.int (lo+i),λi _=>n<=i}
theorem QV{K:W7}(a g:Addr):dP P w K tg (Kk K a) [g] g (λi h=>h.IsListIter g a i) where
 mem:=by simp
 obj:=λi h st b f=>by
  let e:=by simpa using f
  subst e;let{o,e,c,d}:=st;show{o,e,λv z=>by rw[d]at z;cases z}
 keep:=λi h M st k=>st.at λo e=>k g nofun o e
 item:=by
  intro X B F C N i j s σ H E I n st L;subst B F C;let{U,x,m,O}:=L;let{A,r,p,Z}:=I.list m;let{u,R,S}:=r.get O;let{t,G,T,y,J,D}:=n g nofun;show wpAny_pyNext_list_item st p.isList (by simpa using R) λM l Y=>?_;let{o,e,c,d}:=id l;show{u,rfl,tH e c d (by decide) {x,H,I.turned (t':=s.toks) (λb o f e=>(Y.2 b f).trans e) t G y J D,S,{rfl,λys Q=>by rwa [I.list_inj Q m]},l,λb f=>(n b f).1}}
 done:=by
  intro X B F C N i j s σ H E I n st L;subst B F C;let{U,m,O}:=L;let{A,r,p,Z}:=I.list m;let{t,G,T,y,J,D}:=n g nofun;let hl:=r.length
  show wpAny_pyNext_list_end (I.ok.hd N) st p.isList (by simp;ext) λM V=>{rfl,I.turned (λb o f e=>V b o f e) t G y J D}
 self:=λ_ _ _ _ _ st h=>wpAny_pyIter_listiter st h
theorem QW{K:W7}(a f:Addr):dP P w K S (Kl K a) [f] f (λi h=>h.IsTupleIter f a i) where
 mem:=by simp
 obj:=λi h st b m=>by
  let{o,e,c,d}:=st;grind
 keep:=λi h Y st k=>st.at λo e=>k f nofun o e
 item:=by
  intro X r n C F i T s σ H E I l st t;subst r n C;let{Z,x,j,z}:=t;let{U,A,p,J}:=I.tuple j;let{u,R,G}:=A.get z;let{q,y,N,v,B,D}:=l f nofun;show wpAny_pyNext_tuple_item st (p) (x:=u) (by grind) λY g M=>?_;let{o,e,c,d}:=id g;show{u,rfl,tH e c d (by decide) {x,H,I.turned (λb o m e=>(M.2 b m).trans e) q y v B D,G,{rfl,λys L=>by rwa [I.tuple_inj L j]},g,λb m=>(l b m).1}}
 done:=by
  intro X r n C F i T s σ H E I l st t;subst r n C;let{Z,j,z}:=t;let{U,A,p,J}:=I.tuple j;let{q,y,N,v,B,D}:=l f nofun;let Q:=A.length
  show wpAny_pyNext_tuple_end (I.ok.hd F) st (p) (by simp;lia) λY O=>{rfl,I.turned (λb o m e=>O b o m e) q y v B D}
 self:=λ_ _ _ _ _ st h=>wpAny_pyIter_tupleiter st h
theorem QX{K:W7}(a:Addr)(lo:Int)(n:Nat):dP P w K F (tI lo n) [a] a (λi h=>IsRangeIter h a (lo+(i:Nat)*1) ((n:Int)-(i:Nat)) 1) where
 mem:=by simp
 obj:=λi h st b q=>by
  ext
 keep:=λi h J st k=>k a nofun _ st
 item:=by
  intro X y u x m i G s M H E I d st f;let{l,r,C,g,p,j}:=d a nofun;show(Walks.range (I.ok.hd m) a lo 1 n).item i s _ _ f st λv J N A c z=>?_;let{t,rfl}:=A;let D:Inv X _ M H {s with heap:=J,toks:=N}:=I.turned (λb o q e=>z b o (by grind) e) l r g p j;show{_,rfl,tH c rfl rfl (by decide) {.int _,H,D,{t,?_},{(rfl),rfl},c,λb q=>(d b q).1}};grind
 done:=by
  intro X y u x m i G s M H E I d st f;let{l,r,C,g,p,j}:=d a nofun
  show wpAny_pyNext_range_end (I.ok.hd m) st (by let:n<=i:=f;lia) λJ B=>{rfl,I.turned (λb o q e=>B b o q e) l r g p j}
 self:=λ_ _ _ _ _ st h=>wpAny_pyIter_rangeiter st h
section
variable {tg:Expr}
theorem QY{σ:St}{lo a:Int}(I:Inv X pins σ H s)(d:-(2^62)<=lo)(g:lo<2^62)(f:-(2^62)<=a)(h:a<2^62)(q:R (tI lo (a-lo).toNat) H):Zo X (pyIter (.ref (~~~s))) (Kj X pins σ tg R) E {s with heap:=s.heap.push {cls:=.type "range",data:=.fields #[.int lo t,.int a u,.int 1 v]},toks:=tk}:=by
 show wpAny_pyIter_range (.new ..) (small_one d g f h) ?_;let c:Inv X _ σ H {s with heap:=s.heap.push {cls:=.type "range",data:=.fields #[.int lo t,.int a u,.int 1 v]},toks:=tk}:=I.kept λb o e=>qe _ e
 show⟨(s.heap.push _).objs.size,[(s.heap.push _).objs.size],_,_,H,rfl,
  c.kept λb o e=>qe _ e,QX _ lo _,?_,λb k=>?_,q⟩
 .let i:lo+((0:Nat))*1=lo:=by simp
  let j:(((a-lo).toNat))-((0:Nat))=Builtin.Range.rangeSize lo a 1:=by rw[rangeSize_one];split<;>lia
  rw[i,j];show qp _ rfl
 .let e:b=(s.heap.push {cls:=.type "range",data:=.fields #[.int lo t,.int a u,.int 1 v]}).objs.size:=by ext
  subst e;show c.fpOk (qv _) (c.hok.fresh (qv _))
def yL(a:TA):TI:=λd H R=>a d H λc b=>∃j:Int,c=[.int j]/\-(2^62)<=j/\j<2^62/\R (tI 0 j.toNat) b
abbrev Zl(X:Cx)(e:Expr):Prop:=starEach [e] X.env=[(false,eval e X.env)]
theorem QZ(k:Gl X "range")(g:X.mg "range"=none)(m:PA X [a] u)(hs:Zl X a:=by rfl):PI X tg (.Call (.Name "range" p) [a] [] c) (yL u):=by
 intro x s y H R I h;show Call_ (nz I k g boot_range (PyProof.Rows.callWith_type1 (aD (m c _ s y H _ I h) λA v f=>?_) hs rfl));let{z,w,l,o,d}:=f;let{j,e,d,n,q}:=d;subst e
 cases o with
 | cons r i=>
   cases i;let{t,rfl}:=r;show call_range_1 (QY l (by lia) (by lia) d n (by simpa using q))
def yM(f:TI)(g:TG)(e:TS):TS:=λD h H=>f h H λJ c=>∃W:Nat->Nat->St->Hp->Prop,(∃m,W 0 m h c)/\∀i m h H,W i m h H->
 (J.stop i H/\D.nx h H)\/(J.go i H/\∃N:St->Hp->Prop,(∀j k,N j k->∃b,b<m/\W (i+1) b j k)/\∀x k,J.yld i H x k->g x h k λa d=>e {D with nx:=N,ct:=N,bk:=D.nx} a d)
noncomputable def tJ(a:List Addr)(h:Heap):AB:=a.filterMap λb=>(h.get? b).map λo=>(b,o)
def tL(c:b∈a)(e:h.get? b=some o):(b,o)∈tJ a h:=List.mem_filterMap.mpr {b,c,by rw[e];rfl}
theorem Q0(a:p∈tJ c h):p.1∈c/\h.get? p.1=some p.2:=by
 let{b,d,e}:=List.mem_filterMap.mp a
 cases q:h.get? b with
 | none=>grind
 | some o=>
   grind
theorem Inv.pinned{σ:St}(I:Inv X pins σ H s)(c:∀b∈a,cD X pins H b)(i:∀b∈a,∃o,s.heap.get? b=some o/\∀v,o.data≠.cell v):Inv X (pins++tJ a s.heap) σ H s:=
 I.pins_of λp d=>(qw d).elim (λz=>I.pin p (Qr _ z)) λz=>by
  let{j,e}:=Q0 z;let{f,g,h,_}:=c p.1 j;grind
def Inv.unpinned{σ:St}(I:Inv X (pins++b) σ H s):Inv X pins σ H s:=I.pins_of λp a=>I.pin p (Qr _ (List.mem_append_left _ a))
def yN(K:PassesOwn (mZ X.prog X.w) X.A X.env X.xe)(hc:X.calm=true)(hi:PI X tg y wi)(hg:PG X tg g)(hb:PSs X B tb)(hs:∀x,foldedSetIterable y X.env x=pure x:=by intro _;rfl):PS X (.For tg y B [] pos) (yM wi g tb):=by
 intro c s σ H D I h;show wpAny_For (aD (hi c s σ H _ I h) λv s1 h1=>aD h1 λitv s2 h2=>?_) hs;let{it,fp,V,J,H2,e,I2,T,Q,f2,W,{m0,w0},L}:=h2;subst e
 let p:∀{w:Hp},(∀b _,_)->∀b _,cD X c w b:=λhn b hb=>{hn b hb,(f2 b hb).2}
 show codeAny_forLoop_any (λn Z=>∃i l w,Inv X c l w Z/\V i Z.heap/\(∀b∈fp,w b=none)/\W i n l w) ?_ m0 {0,σ,H2,I2,Q,λb hb=>(f2 b hb).1,w0};rintro n Y ⟨i,k,M,I3,E,C,w3⟩;let{F,qn}+{go,N,hN,step}:=L i n k M w3
 .show wpAny_passesOwn K (aD (T.done X rfl rfl rfl hc i c Y k M X.xe I3 (p C) E F) λr s4 j=>?_)
  let{R,I4}:=j;subst R;show wpAny_execs_nil {(k),M,I4,qn}
 .show wpAny_passesOwn K (aD (T.item X rfl rfl rfl hc i c Y k M X.xe I3 (p C) E go) λr s4 j=>?_)
  let{u,R,h4}:=j;subst R;show wpAny_passesOwn K (aD h4 λ_ s5 j=>?_);let{x,H5,I5,r5,y5,A,O}:=j;let U:=I5.pinned (p O) (T.obj _ _ A);show wpAny_passesOwn K (aD (hg _ s5 k H5 x u _ U r5 (step x H5 y5)) λ_ s6 j=>?_);let{S,H6,I6,q6}:=j;show wpAny_passesOwn K (aD (hb _ s6 S H6 _ I6 q6) λf s7 z=>?_)
  let again:∀{a:St}{t:Hp},Inv X _ a t s7->_->∃m,m<n/\∃i l w,Inv X c l w s7/\V i _/\(∀b∈fp,w b=none)/\W i m l w:=λ{a t} q G=>by
   let{m',hm,w7}:=hN a t G;show{m',hm,i+1,a,t,q.unpinned,T.keep _ _ _ A λb hb o e=>(q.pin _ (Qr _ (Qr _ (tL hb e)))).1,λb hb=>?_,w7};let{o,e,d}:=T.obj _ _ A b hb;show(q.pin _ (Qr _ (Qr _ (tL hb e)))).2.1
  cases f with
  | next=>let{a,t,q,G}:=z;show again q G
  | cont=>let{a,t,q,G}:=z;show again q G
  | brk=>let{a,t,q,z}:=z;show{(a),t,q.unpinned,z}
  | ret v=>let{x7,a,t,q,r7,z}:=z;show{(x7),a,t,q.unpinned,r7,z}
end
abbrev R2:=V->V->Hp->VK->Prop
def bh(X:Cx)(f:Value->Value->Sem Value)(r:R2):Prop:=
 ∀(a:List _) (s:Shared) (b:St) (H:Hp) (x y:V) (v u:Value) (Q:VK),Inv X a b H s->RelV x v->RelV y u->r x y H Q->
  Zo X (f v u) (EP X a b Q) X.xe s
def yO(X:Cx)(f:Value->Sem Value)(r:V->Hp->VK->Prop):Prop:=
 ∀(a:List _) (s:Shared) (b:St) (H:Hp) (x:V) (v:Value) (Q:VK),Inv X a b H s->RelV x v->r x H Q->
  Zo X (f v) (EP X a b Q) X.xe s
def b9(X:Cx)(f:Value)(r:AM->Hp->VK->Prop):Prop:=
 ∀(a:List _) (s:Shared) (b:St) (H:Hp) (c:AM) (d:List _) (Q:VK),Inv X a b H s->Vals c d->r c H Q->
  Zo X (call f d) (EP X a b Q) X.xe s
def yP(X:Cx)(r:V->Hp->(Bool->Hp->Prop)->Prop):Prop:=
 ∀(a:List _) (s:Shared) (b:St) (H:Hp) (x:V) (v:Value) (Q:Bool->Hp->Prop),Inv X a b H s->RelV x v->r x H Q->
  Zo X (truthy v) (TP X a b Q) X.xe s
def jx(r:R2)(d a:TE):TE:=λe H Q=>d e H λx b=>a e b λy c=>r x y c Q
def Q3(r:V->Hp->VK->Prop)(a:TE):TE:=λc H Q=>a c H λx b=>r x b Q
def rI(C:Int->Int->Prop)(g:Int->Int->V):R2:=λx y H Q=>∃i j,x=.int i/\y=.int j/\C i j/\Q (g i j) H
def gC(g:Int->Int->V):R2:=λx y H Q=>∃i j,x=.int i/\y=.int j/\Q (g i j) H
def rU(g:Int->V):V->Hp->VK->Prop:=λx H Q=>∃i,x=.int i/\Q (g i) H
section
variable {a b c:Expr}{ta tb tc:TE}
def jy(n:PE X a ta)(hb:PE X b tb){σ:St}{R:V->V->Hp->Prop}(I:Inv X pins σ H s)(h:ta σ H λx j=>tb σ j λy d=>R x y d){f:Value->Value->Sem Value}(t:∀v u i x y d,Inv X pins σ d i->RelV x v->RelV y u->R x y d->Zo X (f v u) Q X.xe i):
 Zo X (eval a X.env) (λv g=>Zo X (eval b X.env) (λu e=>Zo X (f v u) Q X.xe e) X.xe g) X.xe s:=by
 show aD (n _ s σ H _ I h) λv k c=>?_;let{x,j,p,m,o}:=c;show aD (hb _ k σ j _ p o) λu i c=>?_;let{y,d,l,r,q}:=c;show t v u i x y d l m r q
def jz(j:bh X (binaryOp n) r)(d:PE X a ta)(l:PE X b tb):PE X (.BinOp a n b pos) (jx r ta tb):=by
 intro c s m H Q I h;show wpAny_BinOp (jy d l I h λv u g x y f i e k q=>j _ g m f x y v u Q i e k q)
def yQ(k:yO X (unaryOp m) r)(l:PE X a ta):PE X (.UnaryOp m a pos) (Q3 r ta):=by
 intro b s c H Q I h;show UnaryOp_ (aD (l _ s c H _ I h) λv g d=>?_);let{x,j,f,e,i}:=d;show k _ g c j x v Q f e i
def yR{g:Int->Int->Int}(rule:∀(i j:Int) (t u:Tok) (s:Shared) (Q:AA) (E:AA),C i j->Q (.int (g i j) s.toks) {s with toks:=s.toks+1}->Zo X (f (.int i t) (.int j u)) Q E s):
 bh X f (rI C λi j=>.int (g i j)):=by
 intro a s c H x y v u Q I e d h;let{i,j,rfl,rfl,k,q}:=h;let{t,rfl}:=e;let{b,rfl}:=d;show rule i j t b s _ _ k {.int _,H,I.tok _,{_,rfl},q}
def nK{g:Int->Int->Int}(rule:∀(i j:Int) (t u:Tok) (s:Shared) (Q:AA) (E:AA),Q (.int (g i j) s.toks) {s with toks:=s.toks+1}->Zo X (f (.int i t) (.int j u)) Q E s):
 bh X f (gC λi j=>.int (g i j)):=by
 intro a s c H x y v u Q I e d h;let{i,j,rfl,rfl,q}:=h;let{t,rfl}:=e;let{b,rfl}:=d;show rule i j t b s _ _ {.int _,H,I.tok _,{_,rfl},q}
def gX{g:Int->Int->Bool}(rule:∀(i j:Int) (t u:Tok) (s:Shared) (Q:AA) (E:AA),Q (.bool (g i j)) s->Zo X (f (.int i t) (.int j u)) Q E s):
 bh X f (gC λi j=>.bl (g i j)):=by
 intro a s c H x y v u Q I e d h;let{i,j,rfl,rfl,q}:=h;let{t,rfl}:=e;let{b,rfl}:=d;show rule i j t b s _ _ {.bl _,H,I,rfl,q}
def yS(i j:Int):Prop:=0<j/\j<1073741824
def CMul(i j:Int):Prop:=-(2^64)<i/\i<2^64\/(-(2^64)<j/\j<2^64)
def CMul.ok(h:CMul i j):IntMulOk i j:=by
 let{d,e}+{d,e}:=h
 .show .of_left (intBits_le_64 d e)
 .show .of_right (intBits_le_64 d e)
def yT:bh X (binaryOp .Add) (gC λi j=>.int (i+j)):=nK λ_ _ _ _ _ _ _ q=>add_int q
def yU:bh X (binaryOp .Sub) (gC λi j=>.int (i-j)):=nK λ_ _ _ _ _ _ _ q=>sub_int q
def yV:bh X (binaryOp .Mult) (rI CMul λi j=>.int (i*j)):=yR λ_ _ _ _ _ _ _ d q=>mul_int q d.ok
theorem yW:bh X (binaryOp .FloorDiv) (rI yS λi j=>.int (i/j)):=yR λi j _ _ _ _ _ b q=>by
 let d:=b.1;let c:=b.2;show floordiv_int ∅ (by rwa [Int.fdiv_eq_ediv_of_nonneg i ∅]) (.inl (PyProof.noPylong_small (by omega)))
theorem yX:bh X (binaryOp .Mod) (rI (λ_ j=>0<j) λi j=>.int (i%j)):=yR λi j _ _ _ _ _ a q=>mod_int' ∅ (by rwa [Int.fmod_eq_emod_of_nonneg i ∅])
def Q4{g:Int->Int}(rule:∀(i:Int) (t:Tok) (s:Shared) (Q:AA) (E:AA),Q (.int (g i) s.toks) {s with toks:=s.toks+1}->Zo X (f (.int i t)) Q E s):
 yO X f (rU λi=>.int (g i)):=by
 intro a s b H x v Q I d h;let{i,rfl,q}:=h;let{t,rfl}:=d;show rule i t s _ _ {.int _,H,I.tok _,{_,rfl},q}
def yY:yO X (unaryOp .USub) (rU λi=>.int (-i)):=Q4 λ_ _ _ _ _ q=>neg_int q
end
noncomputable def scal:V->V->Bool
 | .non,.non=>true|.non,.int _=>true|.int _,.non=>true|.non,.bl _=>true|.bl _,.non=>true|.non,.str _=>true|.str _,.non=>true
 | .int _,.int _=>true|.bl _,.bl _=>true|.str _,.str _=>true|.byt _,.byt _=>true
 | .int _,.str _=>true|.str _,.int _=>true|.bl _,.str _=>true|.str _,.bl _=>true
 | _,_=>false
section
variable {a b c:Expr}{ta tb tc:TE}
def yZ{σ:St}(I:Inv X pins σ H s)(q:Q (.bl k) H)(e:k=d):EP X pins σ Q (.bool d) s:=by
 subst e;show{.bl k,H,I,rfl,q}
def nL:bh X (compareOp .Lt) (gC λi j=>.bl (decide (i<j))):=gX λ_ _ _ _ _ _ _ q=>lt_int q
def jA:bh X (compareOp .LtE) (gC λi j=>.bl (decide (i<=j))):=gX λ_ _ _ _ _ _ _ q=>le_int q
def y_:bh X (compareOp .Gt) (gC λi j=>.bl (decide (j<i))):=gX λ_ _ _ _ _ _ _ q=>gt_int q
def za:bh X (compareOp .GtE) (gC λi j=>.bl (decide (j<=i))):=gX λ_ _ _ _ _ _ _ q=>ge_int q
def Q5:bh X (compareOp .In) (λx y H Q=>∃i j,x=.str i/\y=.str j/\Q (.bl (!(Builtin.Str.occurrences j i 0 j.length 1).isEmpty)) H):=by
 intro pins s σ H x y v u Q I rx ry h;let{i,j,rfl,rfl,q}:=h;let{t,rfl}:=rx;let{t',rfl}:=ry;show in_str (yZ I q rfl)
def zb:bh X (compareOp .Is) (λx y H Q=>y=.non/\Q (.bl (decide (x=.non))) H):=by
 intro a s b H x y v u Q I e d h;let{rfl,q}:=h;cases d;show is_none_gen (yZ I q ?_)
 cases x<;>first
  | (rfl)
  | (let{t,rfl}:=e;rfl)
def Km:bh X (compareOp .IsNot) (λx y H Q=>y=.non/\Q (.bl (!decide (x=.non))) H):=by
 intro a s b H x y v u Q I e d h;let{rfl,q}:=h;cases d;show isnot_none_gen (yZ I q ?_)
 cases x<;>first
  | (rfl)
  | (let{t,rfl}:=e;rfl)
theorem eP(b:Expr)(h:op≠.In:=by decide)(e:op≠.NotIn:=by decide):behindInMarks op b=false:=by
 cases b with
 | Set d k p=>
   change(_&&_)=_;grind
 | _=>rfl
def zc(k:bh X (compareOp m) r)(d:PE X a ta)(n:PE X b tb)(j:behindInMarks m b=false):PE X (.Compare a [m] [b] pos) (jx r ta tb):=by
 intro c s o H Q I h;show wpAny_Compare1 (jy d n I h λv u g x y f i e l q=>k _ g o f x y v u Q i e l q) j
def jB(t:TE):TT:=λa H Q=>t a H λx b=>∃k,x=.bl k/\Q k b
def zd(E:bh X (compareOp J) r)(p:PE X a ta)(L:PE X b tb)(f:behindInMarks J b=false):PT X (.Compare a [J] [b] pos) (jB (jx r ta tb)):=by
 intro K s G H Q I h;show wpAny_isTrue_Compare1 (aD (p _ s G H _ I h) λv C d=>?_) f;let{x,g,w,o,i}:=d;show aD (L _ C G g _ w i) λu D d=>?_;let{y,t,n,m,B}:=d;show aD (E _ D G t x y v u _ n o m B) λc F d=>?_;let{z,j,q,A,k,e,l}:=d;subst e;cases A;show wpAny_truthy_bool {(j),q,l}
def nM(r f:R2)(ta tb tc:TE):TE:=λa H Q=>ta a H λx d=>tb a d λy g=>r x y g λz b=>∃k,z=.bl k/\
 (if k=true then tc a b λc e=>f y c e Q else Q (.bl false) b)
def Q6(E:bh X (compareOp o) r)(j:bh X (compareOp g) J)(R:PE X a ta)(hb:PE X b tb)(O:PE X c tc)(t:lastMarks [o,g] [b,c]=false:=by with_unfolding_all rfl):PE X (.Compare a [o,g] [b,c] pos) (nM r J ta tb tc):=by
 intro q s i H Q I h;show Compare_chain (aD (R _ s i H _ I h) λv w f=>?_) t;let{x,F,A,S,G}:=f;show chain_link (aD (hb _ w i F _ A G) λu C f=>?_);let{y,U,K,m,Z}:=f;show aD (E _ C i U x y v u _ K S m Z) λd s3 f=>?_;let{z,l,p,Y,k,e,n}:=f;subst e;cases Y;show wpAny_truthy_bool ?_
 cases k with
 | false=>show ite_ff {.bl _,l,p,rfl,n}
 | true=>
   show ite_tt (chain_last (aD (O _ s3 i l _ p n) λB N f=>?_));let{V,M,D,T,L}:=f;show j _ N i M y V u B Q D m T L
def Q7{op op':CmpOp}{r r':R2}(ho:bh X (compareOp op) r)(ho':bh X (compareOp op') r')(ha:PE X a ta)(hb:PE X b tb)(hc:PE X c tc)(hm:lastMarks [op,op'] [b,c]=false:=by with_unfolding_all rfl):PT X (.Compare a [op,op'] [b,c] pos) (jB (nM r r' ta tb tc)):=by
 intro pins s σ H Q I h;show isTrue_chain (aD (ha pins s σ H _ I h) λv s1 hx_=>?_) hm;let{x,H1,I1,r1,q1}:=hx_;show test_link (aD (hb pins s1 σ H1 _ I1 q1) λu s2 hx_=>?_);let{y,H2,I2,r2,q2}:=hx_;show aD (ho pins s2 σ H2 x y v u _ I2 r1 r2 q2) λd s3 hx_=>?_;let{z,H3,I3,r3,k,e,q3}:=hx_;subst e;cases r3;show wpAny_truthy_bool ?_
 cases k with
 | false=>
   let{k',e',q'}:=q3;cases e';show ite_ff {(H3),I3,q'}
 | true=>
   show ite_tt (test_last (aD (hc pins s3 σ H3 _ I3 q3) λw' s4 hx_=>?_));let{z',H4,I4,r4,q4}:=hx_;show aD (ho' pins s4 σ H4 y z' u w' _ I4 r2 r4 q4) λd' s5 hx_=>?_;let{z2,H5,I5,r5,k2,e2,q5}:=hx_;subst e2;cases r5;show wpAny_truthy_bool {(H5),I5,q5}
def jC(K:W7)(x:V)(H:Hp)(k:Bool):Prop:=
 match x with
 | .non=>k=false
 | .bl b=>k=b
 | .int i=>k=(i != 0)
 | .str y=>y.length<=sizeLine/\k=((y.length:Int)!=0)
 | .byt y=>y.size<=sizeLine/\k=((y.size:Int)!=0)
 | .ref p=>(∃a,SqL K H p a/\k=!a.isEmpty)\/(∃a,SqT K H p a/\k=!a.isEmpty)\/∃d,H p=some (.dK d)/\k=!d.isEmpty
 | _=>False
def Q8{vs:List (κ×Value)}(r:KV d vs):(!vs.isEmpty)=!d.isEmpty:=by
 cases r<;>rfl
def Ko(r:Vals xs its):(!its.toArray.isEmpty)=!xs.isEmpty:=by
 cases r<;>simp
def jD:(sizeLine:Nat)<2^63:=by decide
theorem ze:yP X (λx H Q=>∃k,jC X.K x H k/\Q k H):=by
 intro A s E H x v Q I j h;let{k,e,q}:=h;let z:=jD;let D:sizeLine=16777216:=jf
 cases x with
 | non=>
   cases j;let d:k=false:=e;subst d;show truthy_none {(H),I,q}
 | bl b=>
   cases j;let d:k=b:=e;subst d;show wpAny_truthy_bool {(H),I,q}
 | int i=>
   let{t,rfl}:=j;let d:k=(i != 0):=e;subst d;show PySem.P.truthy_int {(H),I,q}
 | str y=>
   let{t,rfl}:=j;let{w,d}:=e;subst d;show PySem.P.truthy_str (by lia) {H,I.tok _,q}
 | byt y=>
   let{t,rfl}:=j;let{w,d}:=e;subst d;show W.truthy_bytes (by lia) {H,I.tok _,q}
 | ref p=>
   cases j;let d:=e;let{C,l,d}+{C,l,d}+{n,l,d}:=d
   .subst d
    let{c,r,f,o}:=I.list l;let g:=r.length;show wpAny_truthy_list f.isList (by ext<;>lia) {H,I.tok _,by rw[Ko r];show q}
   .subst d
    let{c,r,f,o}:=I.tuple l;let g:=r.length;show truthy_tuple f (by ext<;>lia) {H,I.tok _,by rw[Ko r];show q}
   .subst d
    let{o,u,B,r,m}:=I.hok p _ l;let g:n.length=B.length:=Paired.length r;show wpAny_truthy_dict u m (by lia) {H,I.tok _,by rw[Q8 r];show q}
 | _=>show(show False from e).elim
def Q9(n:PE X a ta)(l:∀d,isTrue a X.env d=(do let v <-d;standAt a.pos;holding [v] (truthy v))):
 PT X a (λσ H Q=>ta σ H λx H'=>∃k,jC X.K x H' k/\Q k H'):=by
 intro b s σ H Q I h;show isTrue_plain (aD (n _ s σ H _ I h) λv i e=>?_) (l _);let{x,m,g,f,j}:=e;show ze _ i σ m x v Q g f j
def Q_:bh X (binaryOp .Add) (λx y H Q=>∃i j,x=.str i/\y=.str j/\i.length+j.length<=sizeLine/\Q (.str (i++j)) H):=by
 intro pins s σ H x y v u Q I rx ry h;let{i,j,rfl,rfl,hz,q}:=h;let{t,rfl}:=rx;let{t',rfl}:=ry;show add_str (λt' tk=>{.str (i++j),H,I.tok _,{_,rfl},q}) hz
def dh(r:Vals [x] us):∃u,us=[u]/\RelV x u:=by
 cases r with
 | cons a b=>cases b;show{_,rfl,a}
def jE(r:Vals [x,y] us):∃u w',us=[u,w']/\RelV x u/\RelV y w':=by
 cases r with
 | cons r1 r2=>
   cases r2 with
   | cons r3 r4=>cases r4;show{_,_,rfl,r1,r3}
def Ra(hc:X.calm=true):b9 X (.builtin "max") (λxs H Q=>∃i j,xs=[.int i,.int j]/\Q (.int (if j > i then j else i)) H):=by
 intro pins s σ H xs us Q I r h;let{i,j,rfl,q}:=h;let{u,w',rfl,{t,rfl},{t',rfl}}:=jE r
 show max_two_ints (I.ok.hd hc) λh' tk k=>{_,H,I.kept k,?_,q}
 by_cases hj:j > i
 .rw[if_pos hj,if_pos hj];show{_,rfl}
 .rw[if_neg hj,if_neg hj];show{_,rfl}
def Kr:b9 X (.type "int") (λxs H Q=>(∃i,xs=[.int i]/\Q (.int i) H)\/∃k,xs=[.bl k]/\Q (.int (if k then 1 else 0)) H):=by
 intro pins s σ H xs us Q I r h;let{i,rfl,q}+{k,rfl,q}:=h
 .let{u,rfl,t,rfl}:=dh r
  show call_int_int {.int i,H,I,{_,rfl},q}
 .let{u,rfl,d}:=dh r
  cases d;show call_int_bool {.int (if k then 1 else 0),H,I.tok _,{_,rfl},q}
def Rb:b9 X (.type "str") (λxs H Q=>∃i,xs=[.int i]/\i.natAbs.log2<1920/\Q (.str (toString i)) H):=by
 intro pins s σ H xs us Q I r h;let{i,rfl,hz,q}:=h;let{u,rfl,t,rfl}:=dh r;show PySem.P.str_of_int hz {.str _,H,I.tok _,{_,rfl},q}
end
structure ObjM(h:Heap)(x dx C:Addr)(mA:AD):Prop where
 obj:h.get? x=some (W.instObj C dx)
 ns:h.Ns1 dx mA
 ne:dx≠x
theorem Rc{h:Heap}(n:h.Ns1 m l):∃d,h.get? m=some d/\∀b,W.lookIn b d=some (l b):=by
 let{o,j,q,f,i,g,_,p}:=n;show{o,f,λb=>?_};let e:=p b;unfold nsFind findBy at e;unfold W.lookIn;rw[i];dsimp only
 split
 .grind
 .let a:j.toList.any (·.refKey)=false:=by
   rw[List.any_eq_false];intro y k;let{z,t,c}:=g y (Array.mem_toList_iff.mp k);simp[DictEntry.refKey,c]
  grind
def ObjM.look(I:ObjM h x d C e):∃b,W.InstAt h x (W.instObj C d) C (some b)/\∀g,W.lookIn g b=some (e g):=
 let ⟨b,c,f⟩:=Rc I.ns
 {b,{(I.obj),rfl,rfl,c},f}
section
variable {w:World}{A:Around}{E:AA}{s:Shared}{x C f:Addr}{mA:AD}{name:Str}{v:Value}
def zf{a:Bool}{Q:AA}(X:K.In s.heap)(I:ObjM s.heap x dx C mA)(d:W.plainGet K C name=true)(e:W.hasDictIn K C=true)(i:W.findIn K (.ref C) name=some none)(c:mA name=some v)(b:W.handedIn v=true)(h:Q v {s with toks:=s.toks+1}):
 wpAny (mZ prog w) A (getAttr (.ref x) name a) Q E s:=by
 let{j,J,g}:=I.look;show W.get_value X J (W.plainGet_of d).1 (W.findObj_own e i rfl (by rw[g,c])) b h
def Re{i:Sem Bool}{Q:Value×AC->Shared->Prop}(X:K.In s.heap)(I:ObjM s.heap x dx C mA)(a:W.plainGet K C name=true)(d:W.findIn K (.ref C) name=some (some (.ref f)))(g:W.isFn K (.ref f)=true)(b:mA name=none)(h:Q (.ref f,[.ref x]) s):
 wpAny (mZ prog w) A (getMethod (.ref x) name i) Q E s:=by
 let{c,J,e}:=I.look;show W.method_fn X J (W.plainGet_of a).1 (W.plainGet_of a).2 d (beq_iff_eq.mp g) (by change(W.lookIn _ c).map _=_;rw[e,b];rfl) h
theorem zg{ns:AJ}{Q:Unit->Shared->Prop}(X:K.In s.heap)(I:ObjM s.heap x dx C mA)(hs:W.findIn K (.ref C) "__setattr__"=some (some (.builtin "object.__setattr__")))(q:W.plainOver K C=true)(j:W.takerIn K C name=some none)(m:W.hasDictIn K C=true)(p:PySem.Within mA ns)(o:ns.length<=sizeLine)(h:∀f,ObjM f x dx C (λy=>if y=name then some v else mA y)->Heap.SameBut dx s.heap f->Q () {s with heap:=f,toks:=s.toks+2}):
 wpAny (mZ prog w) A (setAttr (.ref x) name v) Q E s:=by
 let{u,J,t}:=I.look;show W.set_plain X J hs (W.osa_open X J q j λb=>?_);let{r,k,i}:=W.any_some m;show wa (wc (wa (wa (wpAny_loadPart I.obj (wa (W.Looks.here (W.looks_clsIn X k) ?_))))));rw[i];show wc (wa (wc (wa (wpAny_nsSet1 I.ns λf c a=>?_))));let{z,l,n,d,e,g}:=c.count (.cons _ v p);show wa (wpAny_lookBehind d (by rw[e];show pastItsLine_dict (Qg g (by rw[qt];ext))) (wc (h _ {(a.2 _ (.symm I.ne)).trans I.obj,c,I.ne} a)))
def Ks{R:Result->Shared->Prop}{vs:AC}{b:List (Str×Value)}(X:K.In s.heap)(d:W.makesIn K C=true)(c:W.findIn K (.ref C) "__init__"=some (some (.ref f)))(e:W.typeIn K (.ref f)=some (.type "function"))(h:codeAny (mZ prog w) (A.under (.builtin "type.__call__" {.ref C::vs,b})) (.call (.ref f) {.ref (~~~s+1)::vs,b}) (W.InitBack (~~~s+1) R)
  {s with heap:=(s.heap.push W.emptyDict).push (W.instObj C (~~~s))}):
 codeAny (mZ prog w) A (.call (.ref C) {(vs),b}) R s:=W.make_core (W.makes_of X d) (W.looks_findIn X c) (λa=>W.bind_fn X a e) (.inl rfl) h
end
noncomputable def bD(f:Str)(v:V):List (Str×V)->List (Str×V)
 | []=>[(f,v)]
 | (g,x)::r=>if g=f then (g,v)::r else (g,x)::bD f v r
theorem Kt(f g:Str)(v:V):∀b:List (Str×V),(bD f v b).lookup g=if g=f then some v else b.lookup g
 | []=>by
   change List.lookup g [_]=_;by_cases h:g=f
   .let c:=beq_iff_eq.mpr h
    simp [List.lookup,c,if_pos h]
   .let c:=beq_eq_false_iff_ne.mpr h
    simp [List.lookup,c,if_neg h]
 | (k,x)::r=>by
   rw[show bD f v _=(if k=f then (k,v)::r else (k,x)::bD f v r) from rfl];by_cases a:k=f
   .rw[if_pos a]
    by_cases h:g=k
    .let c:=beq_iff_eq.mpr h
     simp [List.lookup,c,if_pos (h.trans a)]
    .let c:=beq_eq_false_iff_ne.mpr h
     simp [List.lookup,c,if_neg (λe:g=f=>h (e.trans a.symm))]
   .rw[if_neg a]
    by_cases h:g=k
    .let c:=beq_iff_eq.mpr h
     simp [List.lookup,c,if_neg (λe=>a (h.symm.trans e))]
    .let c:=beq_eq_false_iff_ne.mpr h
     simp [List.lookup,c];show(Kt f g v r)
theorem zh(f:Str)(v:V):∀a:List (Str×V),f∈(bD f v a).map (·.1)/\∀g,g∈a.map (·.1)->g∈(bD f v a).map (·.1)
 | []=>{by simp[bD],λg h=>by simp at h}
 | (k,x)::r=>by
   let{d,c}:=zh f v r;rw[show bD f v _=(if k=f then (k,v)::r else (k,x)::bD f v r) from rfl];by_cases b:k=f
   .subst b
    show{by simp,λg h=>by simpa using h}
   .rw[if_neg b]
    show{?_,λg h=>?_}
    .show qg _ d
    .let e+e:=qu h
     .show List.mem_cons.mpr (.inl e)
     .show qg _ (c g e)
theorem Ku(f:Str)(v:V):∀b:List (Str×V),(bD f v b).length<=b.length+1
 | []=>by simp[bD]
 | (k,x)::r=>by
   let c:=Ku f v r;rw[show bD f v _=(if k=f then (k,v)::r else (k,x)::bD f v r) from rfl];by_cases a:k=f
   .rw[if_pos a,qt,qt];lia
   .rw[if_neg a,qt,qt];ext
def RelO.some_of(r:RelO (some v) o):∃u,o=some u/\RelV v u:=by
 cases o with
 | none=>show(r).elim
 | some u=>show{(u),rfl,r}
def RelO.none_of{o:Option Value}(r:RelO none o):o=none:=by
 cases o with
 | none=>rfl
 | some u=>show(r).elim
def Rf{v:V}{u:Value}(r:RelV v u):W.handedIn u=true:=by
 cases v with
 | non=>cases (r);rfl
 | bl b=>cases (r);rfl
 | int i=>let{t,e}:=r;cases e;rfl
 | str x=>let{t,e}:=r;cases e;rfl
 | byt b=>let{t,e}:=r;cases e;rfl
 | flt b=>let{t,e}:=r;cases e;rfl
 | ref a=>cases (r);rfl
 | ty n=>cases (r);rfl
section
variable {P:P7}{w:World}{H H':Hp}{h:Heap}{a C:Addr}{fs fs':List (Str×V)}
def tM(g:HOk P w H h)(e:H a=some (.ins C dx fs)):∃b,ObjM h a dx C b/\(∀f,RelO (fs.lookup f) (b f))/\PySem.Within b (fs.map (·.1))/\fs.length<=1000/\H dx=some (.own a):=by
 let{d,z,i,j,b,n,r,q}:=g a _ e;show{b,{(j),n,i},r,q,z,d}
end
structure Cls(K:W7)(C:Addr):Prop where
 pg:W.plainGet K C Str.empty=true
 hd:W.hasDictIn K C=true
 po:W.plainOver K C=true
 sa:W.findIn K (.ref C) "__setattr__"=some (some (.builtin "object.__setattr__"))
def Cls.get{K:W7}(c:Cls K C)(f:Str):W.plainGet K C f=true:=c.pg
def NoAttr(K:W7)(C:Addr)(f:Str):Prop:=W.findIn K (.ref C) f=some none
def NoAttr.taker{K:W7}{C:Addr}{f:Str}(n:NoAttr K C f):W.takerIn K C f=some none:=by
 unfold W.takerIn;rw[n];rfl
structure Y5(K:W7)(C:Addr)(f:Str)(v:V)(u:Value):Prop where
 at_:W.findIn K (.ref C) f=some (some u)
 rel:RelV v u
 get:W.specialIn K u "__get__"=some none
 cp:W.copiedNames.contains f=false
structure dQ(K:W7)(C:Addr)(m:Str)(f:Addr):Prop where
 at_:W.findIn K (.ref C) m=some (some (.ref f))
 fn:W.isFn K (.ref f)=true
 kp:W.keepIn K (.ref f)=true
section
variable {σ:St}{H:Hp}{s:Shared}{a C:Addr}{fs:List (Str×V)}{f:Str}{v:V}{A:Around}{E:AA}
def Rg{b:Bool}{Q:AA}(I:Inv X pins σ H s)(e:H a=some (.ins C dx fs))(c:Cls X.K C)(n:NoAttr X.K C f)(l:fs.lookup f=some v)(h:∀u s',Inv X pins σ H s'->RelV v u->Q u s'):wpAny (mZ X.prog X.w) A (getAttr (.ref a) f b) Q E s:=by
 let{i,O,r,_,_,_}:=tM I.hok e;let{u,g,d}:=RelO.some_of (by rw[<-l];show r f);show zf I.kIn O (c.get f) c.hd n g (Rf d) (h u _ (I.tok _) d)
def zi{m:Str}{g:Addr}{d:Sem Bool}{Q:Value×AC->Shared->Prop}(I:Inv X pins σ H s)(e:H a=some (.ins C dx fs))(c:Cls X.K C)(k:dQ X.K C m g)(l:fs.lookup m=none)(h:Q (.ref g,[.ref a]) s):wpAny (mZ X.prog X.w) A (getMethod (.ref a) m d) Q E s:=by
 let{b,O,r,_,_,_}:=tM I.hok e;show Re I.kIn O (c.get m) k.at_ k.fn (RelO.none_of (by rw[<-l];show r m)) h
theorem Rh{y:V}{u:Value}{Q:Unit->Shared->Prop}(I:Inv X pins σ H s)(e:H a=some (.ins C dx fs))(c:Cls X.K C)(n:NoAttr X.K C f)(x:fs.length<1000)(p:RelV y u)(h:∀s',Inv X pins σ (upd H a (.ins C dx (bD f y fs))) s'->Q () s'):wpAny (mZ X.prog X.w) A (setAttr (.ref a) f u) Q E s:=by
 let{m,O,r,j,_,i}:=tM I.hok e
 let t:(fs.map (·.1)).length<=sizeLine:=by rw[qf,jf];lia
 show zg I.kIn O c.sa c.po n.taker c.hd j t λB d k=>h _ (I.write (by rw[e];show .intro) (.inr i) (λb q v z=>(k.2 b v).trans z) (let ⟨o,_,_,l,_⟩:=d.ns;{(o),l}) ({by rwa [Yl O.ne],?_,O.ne,d.obj,_,d.ns,λg=>?_,λg w=>?_}))
 .let:=Ku f y fs;lia
 .rw[Kt]
  by_cases q:g=f
  .rwa [if_pos q,if_pos q]
  .rw[if_neg q,if_neg q];show r g
 .by_cases q:g=f
  .rw[q];show(zh f y fs).1
  .show(zh f y fs).2 g (j g λz=>w ?_)
   change(if g=f then _ else m g)=none
   rwa [if_neg q]
theorem Inv.made(I:Inv X pins σ H s):Inv X pins σ (upd (upd H (~~~s) (.own (~~~s+1))) (~~~s+1) (.ins C (~~~s) []))
 {s with heap:=(s.heap.push W.emptyDict).push (W.instObj C (~~~s))}:=by
 let c:_=some W.emptyDict:=qp s.heap rfl
 let f:=by
  let:=qp (s.heap.push W.emptyDict) (o:=W.instObj C (~~~s)) rfl
  rwa [wt]at this
 show(I.laid (o:=.own _) (t':=s.toks) (λb u q=>qe _ q) (qv _) {_,c}).laid (λb u q=>qe _ q) (Nat.le_of_eq (wt _ _)) ?_;let d:(~~~s)≠_:=qm (Qa _);show{by rw[Yl d,Yo],Qh _,d,f,λ_=>none,(Heap.Ns1.of_empty ({W.emptyDict,#[],_,c,rfl,λe h=>absurd h nofun,λ_=>rfl})).at λo q=>qe _ q,λ_=>.intro,λy g=>absurd rfl g}
def zj{prog:P7}{w:World}{env:Env}{e:Expr}{f:Str}{c:Pos}{s:Shared}{Q:AA}(a:attributeBase e f env (eval e env)=eval e env)(h:wpAny (mZ prog w) A (eval e env) (λo b=>wpAny (mZ prog w) A (getAttr o f true) Q E b) E s):wpAny (mZ prog w) A (eval (.Attribute e f c) env) Q E s:=
 Attribute_any_ h (by rw[arm_eval_Attribute,a])
end
def zk(K:W7)(g:TE)(f:Str):TE:=λh H Q=>g h H λx d=>∃a C e c v,x=.ref a/\d a=some (.ins C e c)/\Cls K C/\NoAttr K C f/\c.lookup f=some v/\Q v d
def zl(K:W7)(g i:TE)(f:Str):TS:=λD j H=>i j H λy h=>g j h λx d=>∃a C e c,x=.ref a/\d a=some (.ins C e c)/\Cls K C/\NoAttr K C f/\c.length<1000/\
 D.nx j (upd d a (.ins C e (bD f y c)))
section
variable {o e value:Expr}{f:Str}{pos' tpos:Pos}{ta tv:TE}{σ:St}{H:Hp}{s:Shared}{A:Around}{E Q:AA}{c:Value}{b:Bool}
def nN(g:PE X e ta)(o:attributeBase e f X.env (eval e X.env)=eval e X.env):PE X (.Attribute e f pos) (zk X.K ta f):=by
 intro b s A H Q I h;show zj o (aD (g _ s A H _ I h) λu y d=>?_);let{x,k,t,r,a,C,w,z,v,m,j,c,n,l,q}:=d;subst m;obtain rfl:=r
 show Rg t j c n l λB D p i=>{(v),k,p,i,q}
def nO(k:PE X o ta)(t:PE X value tv)(hs:swapsWith value (some (.Attribute o f pos')) pos.line X.env=pure false):PS X (.Assign [.Attribute o f pos'] value pos) (zl X.K ta tv f):=by
 intro e s b H D I h;show plainObj_wpAny_Assign_Attribute (aD (t _ s b H _ I h) λu B d=>?_) hs;let{y,i,v,g,q}:=d;show aD (k _ B b i _ v q) λL K d=>?_;let{x,G,p,j,a,C,M,F,m,r,c,n,l,z}:=d;subst m;obtain rfl:=j
 show Rh p r c n l g λJ w=>{b,_,w,z}
inductive b_ (K:W7) (H:Hp):V->Value->Prop where
 | non:b_ K H .non (.type "NoneType")
 | bl (x:Bool):b_ K H (.bl x) (.type "bool")
 | int (i:Int):b_ K H (.int i) (.type "int")
 | str (x:Str):b_ K H (.str x) (.type "str")
 | flt (x:UInt64):b_ K H (.flt x) (.type "float")
 | lst {a:Addr}{xs:AM} (e:H a=some (.lst xs)):b_ K H (.ref a) (.type "list")
 | frz {a:Addr}{o:Obj}{xs:AM} (e:H a=some (.frz o (.lst xs))):b_ K H (.ref a) (.type "list")
 | tup {a:Addr}{xs:AM} (e:H a=some (.tup xs)):b_ K H (.ref a) (.type "tuple")
 | dK {a:Addr}{kvs:List (eJ×V)} (e:H a=some (.dK kvs)):b_ K H (.ref a) (.type "dict")
 | dT {a:Addr}{kvs:List (List eJ×V)} (e:H a=some (.dT kvs)):b_ K H (.ref a) (.type "dict")
 | ins {a C dx:Addr}{fs:List (Str×V)} (e:H a=some (.ins C dx fs)) (cl:Cls K C) (ha:W.findIn K (.ref C) "__class__"=some (some (.builtin "object.__class__")))
  (hn:W.specialIn K (.builtin "object.__class__") "__get__"=some (some (.builtin "getset_descriptor.__get__"))) (htk:W.takesIn K (.builtin "object.__class__")=some true)
  (hm:W.mroIn K C (.type "object")=some true):b_ K H (.ref a) (.ref C)
def Ri(I:Inv X pins σ H s)(j:RelV x u)(F:b_ X.K H x t)(e:W.kitOne X.K t c=some b)(h:∀tk,Q (.bool b) {s with toks:=tk}):
 wpAny (mZ X.prog X.w) A (call (.builtin "isinstance") [u,c]) Q E s:=by
 cases F with
 | non=>cases (j);show W.kia_one W.kitx_none I.kIn .intro e (λz=>nomatch z) h
 | bl y=>cases (j);show W.kia_one W.kitx_bool I.kIn .intro e (λz=>nomatch z) h
 | int i=>let{t,q}:=j;cases q;show W.kia_one W.kitx_int I.kIn .intro e (λz=>nomatch z) h
 | str y=>let{t,q}:=j;cases q;show W.kia_one W.kitx_str I.kIn .intro e (λz=>nomatch z) h
 | flt y=>let{t,q}:=j;cases q;show W.kia_one W.kitx_float I.kIn .intro e (λz=>nomatch z) h
 | @lst a f g=>
   cases (show u=.ref a from j);let{_,_,n,_,k}:=I.hok a _ g;show W.kia_one W.kitx_list I.kIn {_,k,rfl} e (λz=>nomatch z) h
 | @frz a P f g=>
   cases (j);let{_,_,_,n,_,k}:=I.hok a _ g;show W.kia_one W.kitx_list I.kIn {_,k,rfl} e (λz=>nomatch z) h
 | @tup a f g=>
   cases (show u=.ref a from j);let{_,_,_,p}:=I.hok a _ g;let{o,k,l,_}:=p;show W.kia_one W.kitx_tuple I.kIn {(o),k,l} e (λz=>nomatch z) h
 | @dK a r g=>
   cases (show u=.ref a from j);let{_,_,S,_,p}:=I.hok a _ g;let{o,G,B,k,l,_}:=p;show W.kia_one W.kitx_dict I.kIn {(o),k,l.1} e (λz=>nomatch z) h
 | @dT a r g=>
   cases (show u=.ref a from j);let{_,_,f,_,o,G,B,k,l,_}:=I.hok a _ g;show W.kia_one W.kitx_dict I.kIn {(o),k,l.1} e (λz=>nomatch z) h
 | @ins a C L N g v D K m w=>
   cases (j);let{R,O,_}:=tM I.hok g;let{M,J,_}:=O.look;show W.kia_one (W.kitx_own (v.get _) v.hd D K m w) I.kIn J e (λz=>nomatch z) h
end
structure Room(k:Nat)(A:Around):Prop where
 hd:A.handled=none
 dp:A.depth+3*k+5<recursionLimit
 un:A.units+16*k+200<cLine
theorem Room.mono(r:Room k A)(h:j<=k):Room j A:={r.hd,by let:=r.dp;lia,by let:=r.un;lia}
theorem Room.deeper(r:Room (k+1) A)(env:Env):Room k (A.deeper env):=
 {r.hd,by let:=r.dp;change _+1+3*k+5<_;ac_nf,by let:=r.un;change _+3+16*k+200<_;ac_nf}
def Rj{A:Around}{C:Addr}{us:AC}{a:List (Str×Value)}:(A.under (.builtin "type.__call__" {.ref C::us,a})).depth=A.depth+1:=by
 first|rfl|simp[guardIds]
def Rk{A:Around}{C:Addr}{us:AC}{a:List (Str×Value)}:(A.under (.builtin "type.__call__" {.ref C::us,a})).units=A.units+1:=by
 first|rfl|simp[.frames]
theorem Room.make{k:Nat}{A:Around}(r:Room (k+1) A)(C:Addr)(us:AC)(a:List (Str×Value)):Room k (A.under (.builtin "type.__call__" {.ref C::us,a})):=
 {r.hd,by let:=r.dp;rw[Rj];ext<;>ac_nf,by let:=r.un;rw[Rk];ac_nf}
theorem Room.depth(r:Room k A):A.depth<recursionLimit:=by let:=r.dp;lia
theorem Room.units(r:Room k A):A.units+64<cLine:=by let:=r.un;lia
def nP:TA:=λ_ H Q=>Q [] H
def zm(a:TE)(d:TA):TA:=λe H Q=>a e H λx b=>d e b λf c=>Q (x::f) c
section
variable {e:Expr}{te:TE}{t:TA}
def dC:PA X [] nP:=λ_ _ _ _ H Q I h=>Calls.spliced_nil {[],H,I,.nil,h}
def cx(k:PE X e te)(d:PA X es t)(hs:starEach (e::es) X.env=(false,eval e X.env)::starEach es X.env:=by rfl):PA X (e::es) (zm te t):=by
 intro b r s v H Q I h;rw[hs];change wpAny _ _ (spliced ((_,eval e _)::backTo b _)) _ _ s;show Calls.spliced_cons (aD (k _ s v H _ I h) λu c a=>?_);let{x,o,m,j,f}:=a;show aD (d b _ c v o _ m f) λy p a=>?_;let{w,l,i,g,n}:=a;show{x::w,l,i,.cons j g,n}
def zo(t:TA):TE:=λc H Q=>t c H λb a=>b.length<=sizeLine/\∀p,a p=none->Q (.ref p) (upd a p (.tup b))
def zp(t:TA):TE:=λc H Q=>t c H λb a=>b.length<=sizeLine/\∀p,a p=none->Q (.ref p) (upd a p (.lst b))
def zq{d}(h:PA X es t):PE X (.Tuple es d pos) (zo t):=by
 intro i s k H Q I g;show wpAny_Tuple_spliced (aD (h pos _ s k H _ I g) λl c ⟨j,f,a,r,z,q⟩=>{by rwa [<-r.length],{.ref _,upd f _ (.tup j),a.laid (λb u e=>qe _ e) (qv _) ({z,l,r,{_,qp _ rfl,rfl,_,rfl}}),rfl,q _ (a.hok.fresh (qv _))}})
def tN(h:PA X es t):PE X (.List es pos) (zp t):=by
 intro g s j H Q I d;show wpAny_List_spliced (aD (h pos _ s j H _ I d) λk a ⟨i,f,c,r,z,q⟩=>{by rwa [<-r.length],{.ref _,upd f _ (.lst i),c.laid (λb u e=>qe _ e) (qv _) ({z,k,0,r,qp _ rfl}),rfl,q _ (c.hok.fresh (qv _))}})
end
abbrev Sp:=AM->Hp->VK->XK->Prop
abbrev fP:=List Env->Hp->Shared->XK->AA
structure Env0(P:P7)(w:World)(K:W7)(mg:AD)(base:Heap)(A:Around)(outer:List Env)(s:Shared)(H:Hp):Prop where
 frames:A.frames=some outer
 mod:Mod K mg base
 bs:∀b o,base.get? b=some o->s.heap.get? b=some o/\H b=none
 bsz:base.objs.size<= ~~~s
 funs:s.heap.FunFrames base outer
 frf:∀b∈br outer,H b=none
 hok:HOk P w H s.heap
 bare:AllBare s.gens
def CE(a:List Env)(P:P7)(w:World)(H:Hp)(s:Shared)(Q:VK)(u:Value)(s':Shared):Prop:=
 ∃v b,s'.os=s.os/\AllBare s'.gens/\Un (br a) [] H b s.heap s'.heap/\HOk P w b s'.heap/\RelV v u/\Q v b
def CR(CX:fP)(a:List Env)(P:P7)(w:World)(H:Hp)(s:Shared)(Q:VK)(E:XK)(r:Result)(s':Shared):Prop:=
 match r with
 | .ok (.ret u)=>CE a P w H s Q u s'
 | .ok _=>False
 | .error e=>CX a H s E e s'
structure FnOk(P:P7)(w:World)(K:W7)(mg:AD)(base:Heap)(CX:fP)(k:Nat)(f:Addr)(fd:FuncData)(ps:AJ)(sp:Sp):Prop where
 len:∀vs H Q E,sp vs H Q E->vs.length=ps.length
 run:∀(A:Around) (outer:List Env) (s:Shared) (H:Hp) (args:Args) (us:AC) (vs:AM) (Q:VK) (E:XK),Room k A->Env0 P w K mg base A outer s H->BindsTo s fd args (ps.zip us)->Vals vs us->sp vs H Q E->
  codeAny (mZ P w) A (.call (.ref f) args) (CR CX outer P w H s Q E) s
def FnOk.mono{P:P7}{w:World}{K:W7}{g:AD}{a:Heap}{CX:fP}{j k:Nat}{f:Addr}{e:FuncData}{l:AJ}{sp:Sp}(F:FnOk P w K g a CX j f e l sp)(h:j<=k):
 FnOk P w K g a CX k f e l sp:={F.len,λA b s H c n m Q E i=>F.run A b s H c n m Q E (i.mono h)}
def Env0.make{P:P7}{w:World}{K:W7}{d:AD}{b:Heap}{A:Around}{a:List Env}{s:Shared}{H:Hp}(e:Env0 P w K d b A a s H)(C:Addr)(us:AC)(f:List (Str×Value)):
 Env0 P w K d b (A.under (.builtin "type.__call__" {.ref C::us,f})) a s H:={by first|show e.frames|(simpa [pushEnvs]using e.frames),e.mod,e.bs,e.bsz,e.funs,e.frf,e.hok,e.bare}
section
variable {σ:St}{H:Hp}{s s':Shared}
def Inv.env0(I:Inv X pins σ H s):Env0 X.prog X.w X.K X.mg X.base X.A X.stack s H:=
 {I.ok.frames,I.ok.mod,I.bs,Qg I.ok.bsz I.sz,I.stack,I.stkFree,I.hok,I.bare}
def Inv.after(I:Inv X pins σ H s)(h:CE X.stack X.prog X.w H s Q u s'):EP X pins σ Q u s':=by
 let{v,j,os,a,e,c,r,q}:=h;let{i,g,d,t,f}:=s';obtain rfl:=os;show{v,j,I.call e c a (λb z=>absurd z nofun),r,q}
end
def zr(sp:Sp)(b:AM)(E:XK)(t:TA):TE:=λc H Q=>t c H λd a=>sp (d++b) a Q E
def nQ(C:Addr)(m:Str)(sp:Sp)(g:AM)(E:XK)(d:TE)(t:TA):TE:=λh H Q=>d h H λx c=>∃a e b,x=.ref a/\c a=some (.ins C e b)/\b.lookup m=none/\
 t h c λi f=>sp (x::(i++g)) f Q E
def zt(C:Addr)(sp:Sp)(d:AM)(E:XK)(t:TA):TE:=λe H Q=>t e H λf b=>∀x a,b x=none->b a=none->a≠x->
 sp (.ref x::(f++d)) (upd (upd b a (.own x)) x (.ins C a [])) (λv c=>v=.non/\Q (.ref x) c) E
def Binds(K:W7)(b:FuncData)(d:AJ)(e:AC):Prop:=
 ∀(s:Shared) (c:List _),K.In s.heap->(c++e).length=d.length->BindsTo s b {c,[]} (d.zip (c++e))
def Binds.all{K:W7}(h:∀us:AC,us.length=d.length->bindArgs c {us,[]}=pure (d.zip us)):Binds K c d []:=λs us _ b=>by
 rw[wz]at b ⊢;show .of_eq (h us b)
def eQ(CX:fP)(X:Cx)(E:XK):Prop:=∀(a:List _) (c:St) (H:Hp) (s:Shared) (e:Value) (b:Shared),Inv X a c H s->CX X.stack H s E e b->X.xe e b
section
variable {CX:fP}{k:Nat}{f C:Addr}{fd:FuncData}{ps:AJ}{sp:Sp}{dvs:AM}{ds:AC}{E:XK}{x m:Str}{p:Pos}{e o:Expr}{ta:TE}{t:TA}
def nR{σ:St}(F:FnOk X.prog X.w X.K X.mg X.base CX k f fd ps sp)(d:Room k X.A)(m:Binds X.K fd ps ds)(c:Vals dvs ds)(g:eQ CX X E)(I:Inv X pins σ H s)(r:Vals vs us)(h:sp (vs++dvs) H Q E):Zo X (call (.ref f) us) (EP X pins σ Q) X.xe s:=by
 let b:=r.append c
 let i:(us++ds).length=ps.length:=by rw[<-b.length];show F.len _ _ _ _ h
 show wpAny_call (codeAny_mono (F.run X.A _ s H _ _ _ Q E d I.env0 (m s us I.kIn i) b h) λr j a=>?_)
 cases r with
 | error e=>show g _ σ H s e j I a
 | ok l=>
   cases l with
   | ret u=>show I.after a
   | next=>show .elim a
   | brk=>show .elim a
   | cont=>show .elim a
abbrev Zj(X:Cx)(e:Expr)(s:List Expr):Prop:=starEach (e::s) X.env=(false,eval e X.env)::starEach s X.env
theorem nU(F:FnOk X.prog X.w X.K X.mg X.base CX k f fd ps sp)(y:Room k X.A)(l:Gl X x)(w:X.mg x=some (.ref f))(v:W.keepIn X.K (.ref f)=true)(B:Binds X.K fd ps ds)(n:Vals dvs ds)(i:eQ CX X E)(u:PA X (e::es) t)(b:ba x:=by decide)(j:Zj X e es:=by rfl)(c:(backTo pos (starEach es X.env)).any (·.1)=false:=by rfl):
 PE X (.Call (.Name x p) (e::es) [] pos) (zr sp dvs E t):=by
 intro m s o H Q I h;show wpAny_Call_Name_kw (d7 I l w (W.callWith_K I.ok.mod.kin v (aD (u pos _ s o H _ I h) λD A d=>?_) j c) b);let{C,z,g,r,q}:=d;show{g.kIn,nR F y B n i g r q}
abbrev Zk(X:Cx)(p:Pos)(s:List Expr):Prop:=(backTo p (starEach s X.env)).any (·.1)=false
theorem zu{pl:Sem Bool}(he:PE X o ta)(c:Cls X.K C)(hm:dQ X.K C m f)(F:FnOk X.prog X.w X.K X.mg X.base CX k f fd ps sp)(hr:Room k X.A)(hb:Binds X.K fd ps ds)(hd:Vals dvs ds)(hx:eQ CX X E)(ha:PA X (e::es) t)(hst:Zj X e es:=by rfl)(hpl:Zk X pos es:=by rfl)(ht:eval (.Call (.Attribute o m apos) (e::es) [] pos) X.env=(do
  let ov <-eval o X.env
  standAt apos.atName
  let (f,first) <-holding [ov] (getMethod ov m pl)
  callWith pos f first (backTo pos (starEach (e::es) X.env)) (backToKw pos (keywordEach [] X.env))):=by rfl):
 PE X (.Call (.Attribute o m apos) (e::es) [] pos) (nQ C m sp dvs E ta t):=by
 intro pins s σ H Q I h;show W.methodCall_KW (pl:=pl) (aD (he pins s σ H _ I h) λu s1 hx_=>?_) ht;let{x,H1,I1,rx,a,dx,fs,ex,ea,l,q}:=hx_;subst ex;obtain rfl:u=Value.ref a:=rx;show zi I1 ea c hm l ?_;show W.callWith_K (first:=[.ref a]) (h₀:=X.base) I.ok.mod.kin hm.kp (aD (ha pos pins s1 σ H1 _ I1 q) λus s2 hx_=>?_) hst hpl;let{vs,H2,I2,r,q2}:=hx_;show{I2.kIn,?_};show nR (us:=.ref a::us) (vs:=.ref a::vs) F hr hb hd hx I2 (.cons rfl r) q2
def Rm{t:Sem Bool}(w:PE X o ta)(c:Cls X.K C)(i:dQ X.K C m f)(F:FnOk X.prog X.w X.K X.mg X.base CX k f fd ps sp)(A:Room k X.A)(L:Binds X.K fd ps ds)(y:Vals dvs ds)(n:eQ CX X E)(B:eval (.Call (.Attribute o m apos) [] [] pos) X.env=(do
  let j <-eval o X.env
  standAt apos.atName
  let (f,first) <-holding [j] (getMethod j m t)
  callWith pos f first (backTo pos (starEach [] X.env)) (backToKw pos (keywordEach [] X.env))):=by rfl):
 PE X (.Call (.Attribute o m apos) [] [] pos) (nQ C m sp dvs E ta nP):=by
 intro e s p H Q I h;show W.methodCall_KW (aD (w _ s p H _ I h) λu J g=>?_) B;let{x,G,d,v,a,K,D,r,z,l,q}:=g;subst r;obtain rfl:=v;show zi d z c i l (W.callWith_K0 d.kIn i.kp (nR (vs:=[.ref a]) F A L y n d (.cons rfl .nil) q))
structure Mk(K:W7)(C f:Addr):Prop where
 makes:W.makesIn K C=true
 init:W.findIn K (.ref C) "__init__"=some (some (.ref f))
 fn:W.isFn K (.ref f)=true
 kp:W.keepIn K (.ref C)=true
def Rn{pins:AB}{σ:St}{H:Hp}{s:Shared}{Q:VK}{us:AC}{vs:AM}(M:Mk X.K C f)(F:FnOk X.prog X.w X.K X.mg X.base CX k f fd ps sp)(n:Room (k+1) X.A)(m:Binds X.K fd ps ds)(q:Vals dvs ds)(l:eQ CX X E)(I:Inv X pins σ H s)(r:Vals vs us)(h:∀x b,H x=none->H b=none->b≠x->sp (.ref x::(vs++dvs)) (upd (upd H b (.own x)) x (.ins C b [])) (λv y=>v=.non/\Q (.ref x) y) E):
 Zo X (call (.ref C) us) (EP X pins σ Q) X.xe s:=by
 let g:=h (~~~s+1) _ (I.hok.fresh (Nat.le_succ _)) (I.hok.fresh (qv _)) (qm (Qa _));let c:=Inv.made (C:=C) I;let d:Vals (.ref (~~~s+1)::_) _:=.cons rfl (r.append q)
 let z:=by
  let e:=d.length;rw[F.len _ _ _ _ g]at e;show e.symm
 show wpAny_call (Ks I.kIn M.makes M.init (beq_iff_eq.mp M.fn) (codeAny_mono (F.run _ _ _ _ _ _ _ _ E (n.make C us [])
  (c.env0.make C us []) (m _ _ c.kIn z) d g) λr t a=>?_))
 cases r with
 | error e=>show l _ σ _ _ e t c a
 | ok o=>
   cases o with
   | ret u=>
     let{v,A,w,j,p,i}:=c.after a;subst p;show{j,{.ref _,A,w,rfl,i}}
   | next=>show .elim a
   | brk=>show .elim a
   | cont=>show .elim a
theorem zv(M:Mk X.K C f)(F:FnOk X.prog X.w X.K X.mg X.base CX k f fd ps sp)(u:Room (k+1) X.A)(l:Gl X x)(w:X.mg x=some (.ref C))(A:Binds X.K fd ps ds)(n:Vals dvs ds)(i:eQ CX X E)(v:PA X (e::es) t)(b:ba x:=by decide)(j:Zj X e es:=by rfl)(c:Zk X pos es:=by rfl):
 PE X (.Call (.Name x p) (e::es) [] pos) (zt C sp dvs E t):=by
 intro m s o H Q I h;show wpAny_Call_Name_kw (d7 I l w (W.callWith_K I.ok.mod.kin M.kp (aD (v pos _ s o H _ I h) λD z d=>?_) j c) b);let{B,y,g,r,q}:=d;show{g.kIn,Rn M F u A n i g r q}
end
section
variable {CX:fP}{k:Nat}{f C:Addr}{fd:FuncData}{ps ks:AJ}{sp:Sp}{E:XK}{x m:Str}{p kpos:Pos}{e o:Expr}{kws:List Keyword}{te ta:TE}{t tk:TA}{nm:Option Str}
structure zw(K:W7)(fd:FuncData)(ps ks:AJ)(g:AC->AC->AC)(gV:AM->AM->AM):Prop where
 to:∀(s:Shared) (us ws:AC),K.In s.heap->(g us ws).length=ps.length->BindsTo s fd {us,ks.zip ws} (ps.zip (g us ws))
 rel:∀{vs:AM}{us:AC}{zs:AM}{ws:AC},Vals vs us->Vals zs ws->Vals (gV vs zs) (g us ws)
variable {g:AC->AC->AC}{gV:AM->AM->AM}
end
structure cG(N P:AJ)(sc:Scope):Prop where
 kind:sc.kind=.function
 co:sc.isCoroutine=false
 gen:sc.isGenerator=false
 nd:N.Nodup
 pre:N.take P.length=P
 par:∀x∈P,sc.names.lookup x=some .local\/sc.names.lookup x=some .cell
 nofree:∀y∈sc.names,y.2≠.free
theorem Kv{kindOf:Str->Option NameKind}:∀{a:List (Str×Value)}{m:AD},(∀v,(x,v)∉a)->bindL kindOf a m x=m x
 | [],_,_=>rfl
 | (n,v)::r,m,h=>by
   unfold bindL;rw[Kv λw b=>h w (qg _ b)]
   split
   .grind
   .rfl
theorem Kw{kindOf:Str->Option NameKind}:∀{a:List (Str×Value)}{m:AD},(∀v,(x,v)∉a)->bindC kindOf a m x=m x
 | [],_,_=>rfl
 | (n,v)::r,m,h=>by
   unfold bindC;rw[Kw λw b=>h w (qg _ b)]
   split
   .rfl
   symm
theorem Kx{kindOf:Str->Option NameKind}:∀{P:AJ}{vs:AC}{i:Nat}{m:AD},P.Nodup->P[i]?=some x->vs[i]?=some v->kindOf x=some .local->
 bindL kindOf (P.zip vs) m x=some v
 | [],_,_,_,_,h,_,_=>by simp at h
 | _::_,[],_,_,_,_,h,_=>by simp at h
 | p::P,w::vs,0,m,c,b,a,d=>by
   simp at b a;subst b a;change bindL _ (_::P.zip vs) m p=_;unfold bindL;rw[Kv λv e=>(List.nodup_cons.mp c).1 (List.of_mem_zip e).1,if_pos d];simp
 | p::P,w::vs,i+1,m,c,b,a,d=>by
   unfold bindL;show Kx (List.nodup_cons.mp c).2 (by simpa using b) (by simpa using a) d
theorem Ky{kindOf:Str->Option NameKind}:∀{P:AJ}{vs:AC}{i:Nat}{m:AD},P.Nodup->P[i]?=some x->vs[i]?=some v->kindOf x≠some .local->
 bindC kindOf (P.zip vs) m x=some v
 | [],_,_,_,_,h,_,_=>by simp at h
 | _::_,[],_,_,_,_,h,_=>by simp at h
 | p::P,w::vs,0,m,c,b,a,d=>by
   simp at b a;subst b a;change bindC _ (_::P.zip vs) m p=_;unfold bindC;rw[Kw λv e=>(List.nodup_cons.mp c).1 (List.of_mem_zip e).1,if_neg d];simp
 | p::P,w::vs,i+1,m,c,b,a,d=>by
   unfold bindC;show Ky (List.nodup_cons.mp c).2 (by simpa using b) (by simpa using a) d
noncomputable def start(N:AJ)(vs:AM):St:=vs.map some++List.replicate (N.length-vs.length) none
noncomputable def ay(CX:fP)(P:P7)(w:World)(K:W7)(mg:AD)(base:Heap)(N:AJ)(b:Str)(a:Scope)(f:Addr)(d:Value)(A:Around)(outer:List Env)(s:Shared)(H:Hp)(E:XK):Cx where
 prog:=P
 w:=w
 K:=K
 mg:=mg
 base:=base
 A:=A.deeper (envOfC b a (~~~s) f d)
 N:=N
 s₀:=s
 H₀:=H
 env:=envOfC b a (~~~s) f d
 outer:=outer
 stack:=envOfC b a (~~~s) f d::outer
 ex:=[]
 calm:=true
 fn:=λ_=>true
 pn:=[]
 xe:=λe i=>wpAny (mZ P w) (A.deeper (envOfC b a (~~~s) f d)) (leaving (envOfC b a (~~~s) f d) e) (λ_ c=>CX outer H s E e c) (λh c=>CX outer H s E h c) i
def Kz{b:Scope}(h:b.names.lookup x=some .cell):∃c,(cellsFrom n b.names []).lookup x=some c:=Option.isSome_iff_exists.mp (PySem.W.cellsFrom_some _ n [] (.inl h))
theorem Rq{K:W7}(S:cG N Y a)(M:A.handled=none)(l:Env0 P w K J m A j s H)(V:vs.length=Y.length)(r:Vals vs us)(x:InCallC s (~~~s) (bindL (envOfC g a (~~~s) f F).kindOf (Y.zip us) λ_=>none) (cellsFrom (~~~s+1) a.names []) (bindC (envOfC g a (~~~s) f F).kindOf (Y.zip us) λ_=>none) R):
 Inv (ay CX P w K J m N g a f F A j s H E) [] (start N vs) H R:=by
 let O:Y.length<=N.length:=by let:=congrArg List.length S.pre;grind
 let{C,Z,rfl,G}:=x.done;let n:∀b,b∉(ay CX P w K J m N g a f F A j s H E).ex:=λb z=>absurd (show b∈([]) from z) nofun
 show⟨{l.mod,S.kind,rfl,rfl,qv _,λy z c C D=>?_,λy o=>?_,λy c _ h=>?_,λ_=>M,Around.frames_deeper l.frames,.inr {(rfl),rfl},λb z=>absurd z (n b),l.bs,l.bsz,λb _ _=>n b,λb z=>absurd z (n b),l.funs,l.frf},
  rfl,l.bare,Un.kept G,{_,x.toInCall.ns,λi y v C D T=>?_},λy c h=>{_,x.cell y c h},l.hok.fresh (qv _),λy c h=>?_,λp t=>absurd (show p∈([]) from t) nofun,l.hok.kept G,?_⟩
 .show name_of_addr x.apart (PySem.mem_of_lookup C) (PySem.mem_of_lookup D)
 .let o+o:=o
  .show Kz o
  .show absurd rfl (S.nofree _ (PySem.mem_of_lookup o))
 .show Nat.le_of_lt (x.above y c (PySem.mem_of_lookup h))
 .let U:i<vs.length:=by
   unfold start at D;grind
  let Q:vs[i]?=some v:=by
   unfold start at D;grind
  let{u,I,L}:=r.get Q
  let t:Y[i]?=some y:=by
   rw[<-S.pre,List.getElem?_take_of_lt (by ext)];show C
  let B:Y.Nodup:=by rw[<-S.pre];show S.nd.sublist (List.take_sublist _ _)
  show{u,L,?_};let k+k:=S.par y (List.mem_of_getElem? t)
  .show .inl {k,Kx B t I k}
  .let{c,e}:=Kz k
   show .inr {.inl k,c,e,?_};let q:=x.cell y c e;rw[Ky B t I (by change a.names.lookup y≠_;grind)]at q;show q
 .show l.hok.fresh (Nat.le_of_lt (x.above y c (PySem.mem_of_lookup h)))
 .unfold start
  change _=N.length
  ext
theorem nV{K:W7}{T kV y R h I Y:Value}(X:K.lookup f=some {Y,od,.func (W.fnOf name g i j c T kV y R Z h I),osl})(G:W.codeIn K h g=true)(S:cG N ps c)(B:∀vs H Q E,sp vs H Q E->vs.length=ps.length)(m:∀(A:Around) (a:List Env) (s:Shared) (H:Hp) (vs:AM) (Q:VK) (E:XK),Room k (A.deeper (envOfC g c (~~~s) f h))->sp vs H Q E->
   ∃t,PSs (ay CX P w K L l N g c f h A a s H E) j t/\t {nx:=λ_ H'=>Q .non H',rt:=Q} (start N vs) H):
  FnOk P w K L l CX (k+1) f (W.fnOf name g i j c T kV y R Z h I) ps sp:=by
  show{B,λA a s H M us vs Q E D C hb r z=>?_};let O:=C.mod.kin.keeps λb o e=>(C.bs b o e).1
  show codeAny_call_function D.depth (O _ _ X) rfl S.co S.gen rfl (W.codeRec_of O G) (hb _ _ _ _ (wpAny_newFunctionEnv_cells S.kind (λ⟨n,v⟩ U=>by
   let q+q:=S.par n (List.of_mem_zip U).1
   .show .inl q
   .show .inr {q,PySem.W.cellsFrom_some _ _ _ (.inl q)}) λenv d s1 x=>?_))
  subst d;show{(C.mod.nolimit.keeps λb o e=>(C.bs b o e).1).keeps x.toInCall.keep,codeAny_func ?_};let{t,ht,hq}:=m A a s H vs Q E (D.deeper _) z;show ww (ht [] s1 _ H _ (Rq S D.hd C (B _ _ _ _ z) r x) hq) (λfl s' hs=>?_) λe s' hs=>hs
  let p:∀{σ':St}{H':Hp}{v:V}{u:_},Inv (ay CX P w K L l N g c f h A a s H E) [] σ' H' s'->_->Q v H'->CE a P w H s Q u s':=
   λ{σ' H' v u} J F q=>{(v),H',J.os,J.bare,J.base,J.hok,F,q}
  cases fl with
  | ret u=>
    let{v,σ',H',J,F,q}:=hs;show p J F q
  | next=>
    let{σ',H',J,q}:=hs;show p (v:=.non) J rfl q
  | brk=>
    let{_,_,_,q}:=hs;grind
  | cont=>
    let{_,_,_,q}:=hs;grind
section
variable {x:Str}{p:Pos}{e:Expr}{t:TA}{id T:String}{r:AM->Hp->VK->Prop}
def tP(r:AM->Hp->VK->Prop)(t:TA):TE:=λb H Q=>t b H λc a=>r c a Q
theorem jF(i:b9 X (.builtin id) r)(j:Gl X x)(v:X.mg x=none)(m:bootBuiltins x=some (.builtin id))(n:PA X (e::es) t)(l:x≠"__name__":=by decide)(b:ba x:=by decide)(g:Zj X e es:=by rfl)(d:Zk X pos es:=by rfl):PE X (.Call (.Name x p) (e::es) [] pos) (tP r t):=by
 intro y s w H Q I h;show wpAny_Call_Name_kw (nz I j v m (PyProof.Rows.callWith_builtin1 (aD (n pos _ s w H _ I h) λA k c=>?_) g d) l b);let{z,f,q,o,u}:=c;show i _ k w f z A Q q o u
theorem nW(i:b9 X (.type T) r)(j:Gl X x)(v:X.mg x=none)(m:bootBuiltins x=some (.type T))(n:PA X (e::es) t)(l:x≠"__name__":=by decide)(b:ba x:=by decide)(g:Zj X e es:=by rfl)(d:Zk X pos es:=by rfl):PE X (.Call (.Name x p) (e::es) [] pos) (tP r t):=by
 intro y s w H Q I h;show wpAny_Call_Name_kw (nz I j v m (PyProof.Rows.callWith_type1 (aD (n pos _ s w H _ I h) λA k c=>?_) g d) l b);let{z,f,q,o,u}:=c;show i _ k w f z A Q q o u
end
def jG(i:Expr):Prop:=∀a b,subscripted i false a b=operate [a,b] (getItem a b)
def KA{T id:String}(m:typeLookup (.type T) "__getitem__"=pure (some (.builtin id)))(hs:jG a)(h:wpAny (mZ prog w) A (eval c env) (λo e=>wpAny (mZ prog w) A (eval a env) (λi b=>b.TypeIs o T/\wpAny (mZ prog w) A (getItem o i) Q E b) E e) E s):
 wpAny (mZ prog w) A (eval (.Subscript c a l) env) Q E s:=by
 show Subscript_ (ww h (λo e k=>ww k (λi b d=>?_) λ_ _ x=>x) λ_ _ x=>x);let{n,d}:=d;show wa (wa (wpAny_specialOf n m ?_))
 let g:wpAny (mZ prog w) A (subscripted a false o i) (λr f=>wpAny (mZ prog w) A (letTemporaryGo c o r>>=λ_=>pure r) Q E f) E b:=by
  rw[hs o i];show wpAny_operating (ww d (λr f j=>wa (wpAny_letTemporaryGo (wc j))) λ_ _ x=>x)
 first
  | show wc (wa g)
  | show wa _
  | show wa g
def nX:List (TE×TE)->St->Hp->(List (V×V)->Hp->Prop)->Prop
 | [],_,H,Q=>Q [] H
 | (tk,a)::r,σ,H,Q=>tk σ H λx c=>a σ c λy b=>nX r σ b λps d=>Q ((x,y)::ps) d
abbrev VV:List (V×V)->List (Value×Value)->Prop:=Paired λp q=>RelV p.1 q.1/\RelV p.2 q.2
def Rr(X:Cx)(c:Pos)(b:List (Option Expr))(a:AK)(d:List (TE×TE)):Prop:=
 ∀(e:List _) (s:Shared) (f:St) (H:Hp) (Q:List _->Hp->Prop),Inv X e f H s->nX d f H Q->
  Zo X (evalPairs (pairTrees b a X.env c)) (λi j=>∃h g,Inv X e f g j/\VV h i/\Q h g) X.xe s
structure M1(X:Cx)(o:Expr)(m:Str)(apos:Pos)(e:Expr)(cpos:Pos):Prop where
 base:attributeBase o m X.env (eval o X.env)=eval o X.env
 few:((backTo cpos (starEach [e] X.env)).all (λx=>!x.1)&&(backToKw cpos (keywordEach [] X.env)).all (λx=>x.1.isSome)
  &&decide (([e]:AK).length+([]:List Keyword).length+(if ([]:List Keyword).isEmpty then 0 else 1)<30))=true
 line:(apos.endLine==cpos.line)=true
 trees:backTo cpos (starEach [e] X.env)=[(false,eval e X.env)]
structure M2(X:Cx)(o:Expr)(m:Str)(apos:Pos)(e f:Expr)(cpos:Pos):Prop where
 base:attributeBase o m X.env (eval o X.env)=eval o X.env
 few:((backTo cpos (starEach [e,f] X.env)).all (λx=>!x.1)&&(backToKw cpos (keywordEach [] X.env)).all (λx=>x.1.isSome)
  &&decide (([e,f]:AK).length+([]:List Keyword).length+(if ([]:List Keyword).isEmpty then 0 else 1)<30))=true
 line:(apos.endLine==cpos.line)=true
 trees:backTo cpos (starEach [e,f] X.env)=[(false,eval e X.env),(false,eval f X.env)]
end L2
namespace HT
open PySem PyProof.Rows
section
variable {prog:P7}{w:World}{A:Around}{E:AA}{s:Shared}
noncomputable def sIx(n d:Nat):Option Int->Nat
 | none=>d
 | some v=>if v<0 then (v+n).toNat else min v.toNat n
def sIx_none(n d:Nat):sIx n d none=d:=rfl
theorem sIx_nat(n d k:Nat):sIx n d (some (k:Int))=min k n:=by
 change(if k<0 then (k+(n:Int)).toNat else _)=_;constructor<;>ac_nf
end
end HT
namespace L2
variable {h':Heap}{X:Cx}{pins:AB}{pos apos:Pos}{ys:AM}{prog:P7}{K:W7}{dx:Addr}{es ifs:AK}{elt iter:Expr}{scope:Scope}{ti:TT}{src:List AL}
open PySem PySem.Spec PyProof.Rows
abbrev TO:=St->Hp->(Option Int->Hp->Prop)->Prop
def PO(X:Cx)(e:Option Expr)(t:TO):Prop:=
 ∀(a:List _) (s:Shared) (b:St) (H:Hp) (Q:Option Int->Hp->Prop),Inv X a b H s->t b H Q->
  Zo X (evalPart e X.env) (λu d=>∃o c,Inv X a b c d/\IsPart u o/\Q o c) X.xe s
def KC:TO:=λ_ H Q=>Q none H
def nY(t:TE):TO:=λb H Q=>t b H λx a=>∃i,x=.int i/\Q (some i) a
theorem zx:∀{us:AC},Vals (ns.map V.int) us->IntsAre us ns:=by
 induction ns with
 | nil=>intro us r;cases r;show .nil
 | cons n ns b=>
   intro us r
   cases r with
   | cons a c=>
     let{t,e}:=a;subst e;show .cons n t (b c)
section
variable {e:Expr}{te:TE}{lo hi:Option Expr}{tl th:TO}{p2:Pos}
def KD:PO X none KC:=by
 intro a s b H Q I h;show wc {none,H,I,.none,h}
def KE(h:PE X e te):PO X (some e) (nY te):=by
 intro k s l H Q I f;show aD (h _ s l H _ I f) λu j a=>?_;let{x,g,c,b,d}:=a;let{i,rfl,q}:=d;let{t,rfl}:=b;show{some i,g,c,.int i t,q}
def tQ(X:Cx)(r:V->Option Int->Option Int->Hp->VK->Prop):Prop:=
 ∀(d:List _) (s:Shared) (f:St) (H:Hp) (x:V) (v b a:Value) (lo e:Option Int) (c:Addr) (Q:VK),Inv X d f H s->RelV x v->s.heap.IsSliceOf c b a .none->IsPart b lo->IsPart a e->r x lo e H Q->
  ∃T id,typeLookup (.type T) "__getitem__"=pure (some (.builtin id))/\s.TypeIs v T/\Zo X (getItem v (.ref c)) (EP X d f Q) X.xe s
def Rt(r:V->Option Int->Option Int->Hp->VK->Prop)(te:TE)(tl th:TO):TE:=λd H Q=>te d H λx c=>tl d c λl b=>th d b λu a=>r x l u a Q
def zy(z:tQ X r)(E:PE X e te)(p:PO X lo tl)(F:PO X hi th):PE X (.Subscript e (.Slice lo hi none p2) pos) (Rt r te tl th):=by
 intro g s c H Q I h;show Subscript_ (aD (E _ s c H _ I h) λv D a=>?_);let{x,y,m,K,A}:=a;show wpAny_Slice (aD (p _ D c y _ m A) λf o a=>?_);let{l,M,B,n,L}:=a;show aD (F _ o c M _ B L) λi d a=>?_;let{u,j,N,k,C}:=a;show wc ?_;let t:Inv X _ c j {d with heap:=d.heap.push {cls:=.type "slice",data:=.fields #[f,i,.none]} }:=N.kept λb O q=>qe _ q;let{T,id,w,G,J}:=z _ _ c j x v f i l u d.heap.objs.size Q t K (.new ..) n k C;show tail_any G w J (by with_unfolding_all rfl)
def fQ(xs:AM)(lo hi:Option Int):AM:=(xs.drop (HT.sIx xs.length 0 lo)).take (HT.sIx xs.length xs.length hi-HT.sIx xs.length 0 lo)
theorem Ru(xs:AM)(lo hi:Option Int):(fQ xs lo hi).length<=xs.length:=by
 unfold fQ
 ext<;>ac_nf
def rSlT(K:W7):V->Option Int->Option Int->Hp->VK->Prop:=λx lo d H Q=>∃a b,x=.ref a/\SqT K H a b/\
 ¬(HT.sIx b.length 0 lo=0/\HT.sIx b.length b.length d=b.length)/\∀p,H p=none->Q (.ref p) (upd H p (.tup (fQ b lo d)))
end
noncomputable def eR(n:Nat)(i:Int):AL:=if 0<=i then (if i<n then some i.toNat else none)else if -n<=i then some (i+n).toNat else none
def aN{a:Type}(xs:List a)(i:Int):Option a:=(eR xs.length i).bind λj=>xs[j]?
theorem KF(h:eR n i=some j):seqIndex? i n=some j/\j<n/\-(n:Int)<=i/\i<n:=by
 unfold eR at h;by_cases b:0<=i
 .rw[if_pos b]at h
  by_cases a:i<n
  .rw[if_pos a]at h
   let e:=wx h;show{by rw[seqIndex_of b a,e],by lia,by lia,a}
  ext
 .rw[if_neg b]at h
  by_cases a:-n<=i
  .rw[if_pos a]at h
   let e:=wx h;show{by rw[seqIndex_neg (by lia) a,e],by lia,a,by lia}
  ext
theorem zA(h:aN xs i=some v):∃j,seqIndex? i xs.length=some j/\xs[j]?=some v/\j<xs.length/\-(xs.length:Int)<=i/\i<xs.length:=by
 unfold aN at h
 cases e:eR xs.length i with
 | none=>ext
 | some j=>
   let{a,d,c,b}:=KF e
   ext
theorem tR{j:Nat}(h:xs[j]?=some v):aN xs (j:Int)=some v:=by
 let a:=(qo h).1
 let e:eR xs.length j=some j:=by
  unfold eR;rw[if_pos (by lia),if_pos (by ext)];simp
 unfold aN;rwa [e]
theorem iT{α:Type}(xs:List α)(v:α):aN (xs++[v]) (-1)=some v:=by
 let hl:(xs++[v]).length=xs.length+1:=by simp
 let e:eR (xs++[v]).length (-1)=some xs.length:=by
  unfold eR;rw[hl,if_neg (by decide),if_pos ∅]
  congr 1
  ac_nf
 unfold aN;rw[e];change(xs++[v])[xs.length]?=some v;simp
def nZ(b:Expr):Prop:=∀o i,subscripted b false o i=operate [o,i] (getItem o i)
def IxR(X:Cx)(r:R2):Prop:=
 ∀(b a:Expr) (c:List _) (s:Shared) (d:St) (H:Hp) (x y:V) (v u:Value) (Q:VK),Inv X c d H s->RelV x v->RelV y u->r x y H Q->
  subscripted a false v u=operate [v,u] (getItem v u)->Zo X (subscriptTail b a v u) (EP X c d Q) X.xe s
def zB(X:Cx)(id:String)(r:V->AM->Hp->VK->Prop):Prop:=
 ∀(a:List _) (s:Shared) (b:St) (H:Hp) (x:V) (c:AM) (v:Value) (d:List _) (Q:VK),Inv X a b H s->RelV x v->Vals c d->r x c H Q->
  Zo X (call (.builtin id) (v::d)) (EP X a b Q) X.xe s
section
variable {a b:Expr}{ta tb:TE}
def IxR.or(h:IxR X r)(j:IxR X g):IxR X (λx y H Q=>r x y H Q\/g x y H Q):=by
 intro c d i s a H x y v u Q I f e q b;let q+q:=q
 .show h c d _ s a H x y v u Q I f e q b
 .show j c d _ s a H x y v u Q I f e q b
def n6(f:IxR X r)(c:PE X a ta)(l:PE X b tb)(hs:nZ b):PE X (.Subscript a b pos) (jx r ta tb):=by
 intro k s m H Q I h;show Subscript_ (jy c l I h λv u g x y e i d j q=>f a b _ g m e x y v u Q i d j q (hs _ _))
def n7(K:W7):R2:=λx y H Q=>∃p b i v,x=.ref p/\y=.int i/\SqL K H p b/\aN b i=some v/\Q v H
def n8(K:W7):R2:=λx y H Q=>∃p b i v,x=.ref p/\y=.int i/\SqT K H p b/\aN b i=some v/\Q v H
def jH:R2:=λx y H Q=>∃z i c,x=.str z/\y=.int i/\z.length<=sizeLine/\aN z.cps.toList i=some c/\Q (.str {#[c]}) H
theorem ix_list:IxR X (n7 X.K):=by
 intro f c o s E H x y v u Q I D A h n;let{p,M,i,z,rfl,rfl,G,F,q}:=h;cases D;let{t,rfl}:=A;let{k,r,g,L}:=I.list G;let{j,b,J,N,C,K}:=zA F;let{w,l,d}:=r.get J;let B:=r.length;let O:=jD
 let a:EP X _ E Q w s:={(z),H,I,d,q}
 by_cases m:0<=i
 .let e:=by
   rw[seqIndex_of m K]at b;show wx b
  show item_listR g.isList m (by lia) (by rw[e];simpa using l) a n
 .let e:(i+k.toArray.size).toNat=j:=by
   rw[seqIndex_neg (by lia) C]at b;rw[qk,<-B];show wx b
  show subscriptTail_builtinR g.isList.typeIs slot_list_getitem.lookup
   (wpAny_getItem_list_neg g.isList (by lia) (by rw[qk]<;>lia) (by lia) (by rw[e];simpa using l) {(rfl),a}) n
theorem ix_tup:IxR X (n8 X.K):=by
 intro d c a s L H x y v u Q I k f h J;let{p,K,i,z,rfl,rfl,l,g,q}:=h;cases k;let{t,rfl}:=f;let{G,r,b,C}:=I.tuple l;let{j,D,m,n,B,F}:=zA g;let{w,A,e}:=r.get m;let E:=r.length;let o:=jD
 show subscriptTail_builtinR b.typeIs slot_tuple_getitem.lookup
  (getItem_tuple (j:=j) b ∅ ∅ ⋯ ⋯ {rfl,{(z),H,I,e,q}}) J
theorem n9:IxR X jH:=by
 intro e d a s C H x y v u Q I g f h b;let{z,i,c,rfl,rfl,n,k,q}:=h;let{t,rfl}:=g;let{B,rfl}:=f;let{j,r,p,l,o,A}:=zA k
 let w:z.cps.toList.length=z.length:=by simp[Str.length]
 let m:=jD
 show tail_any (typeIs_str s z t) slot_str_getitem.lookup (getItem_str (by
  ext<;>lia) (by grind) {.str _,H,I.tok _,{_,rfl},q}) b
def KG(K:W7):R2:=λx y H Q=>n7 K x y H Q\/n8 K x y H Q\/jH x y H Q
def zC:IxR X (KG X.K):=ix_list.or (ix_tup.or n9)
def Rv(its:AC)(n j:Nat)(u:Value):Obj.mapSeq (·.setIfInBounds j u) {cls:=.type "list",data:=.seq its.toArray n}={cls:=.type "list",data:=.seq (its.set j u).toArray n}:=by
 simp[Obj.mapSeq]
def Inv.lst{pins:AB}{σ:St}{H:Hp}{s:Shared}{p:Addr}{xs:AM}(I:Inv X pins σ H s)(h:H p=some (.lst xs)):
 ∃(its:AC) (n:Nat),Vals xs its/\s.heap.get? p=some {cls:=.type "list",data:=.seq its.toArray n}/\xs.length<=sizeLine:=by
 let{z,its,n,r,e}:=I.hok p _ h;show{(its),n,r,e,z}
theorem Inv.lstUpd{pins:AB}{σ:St}{H:Hp}{s:Shared}{p:Addr}{xs ys:AM}{its its':AC}{n n':Nat}{f:Obj->Obj}(I:Inv X pins σ H s)(h:H p=some (.lst xs))(ho:s.heap.get? p=some {cls:=.type "list",data:=.seq its.toArray n})(hf:f {cls:=.type "list",data:=.seq its.toArray n}={cls:=.type "list",data:=.seq its'.toArray n' })(r:Vals ys its')(hz:ys.length<=sizeLine)(t:Nat):
 Inv X pins σ (upd H p (.lst ys)) {s with heap:=s.heap.update p f,toks:=t}:=by
 let e:(s.heap.update p f).get? p=some {cls:=.type "list",data:=.seq its'.toArray n' }:=by
  rw[wu f ho (by rw[hf]<;>rfl),hf]
 show I.write (x:=p) (e:=p) (by rw[h];trivial) (.inl rfl) (λb u hb q=>(Heap.get?_update_other _ _ (Ne.symm hb)).trans q) {_,e} ?_;show{(hz),its',n',r,e}
def zD:V->V->V->Hp->(Hp->Prop)->Prop:=λo i v H Q=>∃p xs k j,o=.ref p/\i=.int k/\H p=some (.lst xs)/\eR xs.length k=some j/\Q (upd H p (.lst (xs.set j v)))
theorem Rw:nI X zD:=by
 intro pins s σ H o i v ov iv u Q I ro ri rv h;let{p,xs,k,j,rfl,rfl,hp,hj,q}:=h;cases ro;let{t,rfl}:=ri;let{its,n,r,ho,hz}:=I.lst hp;let{h1,h2,h3,h4}:=KF hj;let hl:=r.length;let hn:=jD
 let I':Inv X pins σ (upd H p (.lst (xs.set j v))) {s with heap:=s.heap.update p (Obj.mapSeq (·.setIfInBounds j u))}:=
  I.lstUpd hp ho (Rv its n j u) (r.set rv j) (by rw[List.length_set];show hz) s.toks
 by_cases h0:0<=k
 .let hk:k.toNat=j:=by
   rw[seqIndex_of h0 h4]at h1;show wx h1
  show W.ki_setAt ho h0 ∅ (by rw[qk,<-hl];show h4) (by rw[hk];show{_,I',q})
 .let hk:(k+(its.toArray.size:Int)).toNat=j:=by
   rw[seqIndex_neg ∅ h3]at h1;rw[qk,<-hl];show wx h1
  show W.ki_setBack ho ∅ (by rw[qk,<-hl];show h3) ∅ (by rw[hk];show{_,I',q})
theorem Rx(lo d:Option Int)(n:Nat):(sliceBounds lo d none n).1=((HT.sIx n 0 lo:Nat):Int)/\(sliceBounds lo d none n).2.1=((HT.sIx n n d:Nat):Int)/\(sliceBounds lo d none n).2.2=1:=by
 show{?_,?_,rfl}
 .cases lo with
  | none=>constructor<;>ac_nf
  | some i=>
    simp only[sliceBounds,HT.sIx];symm
 .cases d with
  | none=>constructor<;>ac_nf
  | some i=>
    simp only[sliceBounds,HT.sIx];symm
def Ry(its:AC)(lo c:Option Int):slicePick its.toArray lo c none=((its.drop (HT.sIx its.length 0 lo)).take (HT.sIx its.length its.length c-HT.sIx its.length 0 lo)).toArray:=by
 let{f,g,e}:=Rx lo c _;unfold slicePick;rw[f,g,e];simp only[sliceRange_one,pick_run]<;>rfl
def zE(K:W7):V->Option Int->Option Int->Hp->VK->Prop:=λx lo d H Q=>∃a c,x=.ref a/\SqL K H a c/\∀p,H p=none->Q (.ref p) (upd H p (.lst (fQ c lo d)))
theorem zF:tQ X (zE X.K):=by
 intro f s y H x v n o lo e m Q I i w t g h;let{a,p,rfl,j,q}:=h;cases i;let{u,r,d,k}:=I.list j;let c:=r.length;show{"list",_,slot_list_getitem.lookup,d.isList.typeIs,wpAny_getItem_list_slice d.isList w t g .none nofun ?_ (by ext)};rw[Ry,<-c];show{.ref _,_,I.laid (λb l q=>qe _ q) (qv _) ?_,rfl,q _ (I.hok.fresh (qv _))};show{Qg (Ru p lo e) k,_,0,(r.drop _).take _,qp _ rfl}
theorem iU:b9 X (.builtin "len") (λxs H Q=>∃p ys,xs=[.ref p]/\(SqL X.K H p ys\/SqT X.K H p ys)/\Q (.int ys.length) H):=by
 intro k s m H xs l Q I r h;let{p,ys,rfl,c,q}:=h;let{u,rfl,g}:=dh r;cases g;let j:=jD;let c+c:=c
 .let{f,e,b,i}:=I.list c
  let d:=e.length;show Calls.call_len_list b.isList (by ext<;>lia) {.int _,H,I.tok _,{s.toks+1,by grind},q}
 .let{f,e,b,i}:=I.tuple c
  let d:=e.length;show len_tuple b (by ext<;>lia) {.int _,H,I.tok _,{s.toks+1,by grind},q}
theorem zG:b9 X (.builtin "len") (λxs H Q=>∃z,xs=[.str z]/\z.length<=sizeLine/\Q (.int z.length) H):=by
 intro pins s σ H xs us Q I r h;let{z,rfl,hz,q}:=h;let{u,rfl,t,rfl}:=dh r;let hn:=jD;show len_str ∅ {.int z.length,H,I.tok _,{_,rfl},q}
theorem Rz:b9 X (.type "list") (λxs H Q=>∃p ys,xs=[.ref p]/\(SqL X.K H p ys\/SqT X.K H p ys)/\∀l,H l=none->Q (.ref l) (upd H l (.lst ys))):=by
 intro y s z H xs A Q I r h;let{p,ys,rfl,f,q}:=h;let{u,rfl,x}:=dh r;cases x
 let j:∀_,_->_->∀(b:Heap) _,_->
  _->EP X _ z Q _ {s with heap:=b}:=λa c g b d i e=>
  {.ref _,_,I.laid i (qv _) (show ObjOk _ X.w _ b _ (.lst ys) from{(g),a,d,c,e}),rfl,q _ (I.hok.fresh (qv _))}
 let f+f:=f
 .let{a,c,w,g}:=I.list f
  let k:=c.length;let{o,m,v,n,t}:=w.isList;show call_list_seq p (.inl rfl) m v t (λb d i e=>j a c g b d i e) (by grind)
 .let{a,c,w,g}:=I.tuple f
  let k:=c.length;let{o,m,v,n,t}:=w;show call_list_seq p (.inr rfl) m v t (λb d i e=>j a c g b d i e) (by grind)
theorem zH:b9 X (.type "tuple") (λxs H Q=>∃p ys,xs=[.ref p]/\((SqL X.K H p ys/\∀l,H l=none->Q (.ref l) (upd H l (.tup ys)))\/(SqT X.K H p ys/\Q (.ref p) H))):=by
 intro n s w H xs v Q I r h;let{p,ys,rfl,h}:=h;let{u,rfl,j}:=dh r;cases j;let{c,q}+{c,q}:=h
 .let{a,d,m,f}:=I.list c
  let g:=d.length;show call_tuple_list m.isList (λt k=>?_) ⋯;let i:=I.kept (t':=s.toks) k;show{.ref _,_,i.laid (λb o e=>qe _ e) (qv _) (show ObjOk _ X.w _ _ _ (.tup ys) from{f,a,d,.new _ _}),rfl,q _ (i.hok.fresh (qv _))}
 .let{a,d,m,f}:=I.tuple c
  show call_tuple_same m {.ref p,H,I,rfl,q}
def KH(K:W7)(T:String)(x:V)(H:Hp):Prop:=match x with
 | .str _=>T="str"
 | .int _=>T="int"
 | .ref p=>(T="list"/\∃b,SqL K H p b)\/(T="tuple"/\∃o,K.lookup p=some o/\o.cls=.type "tuple"/\o.dict=none)\/
  (T="dict"/\((∃c,H p=some (.dK c))\/∃c,H p=some (.dT c)))\/(T="set"/\∃S n,H p=some (.set S n))
 | _=>False
theorem zI{σ:St}(I:Inv X pins σ H s)(r:RelV x v)(g:KH X.K T x H):
 s.TypeIs v T/\∀a,v=.ref a->∃k,s.heap.get? a=some k/\k.dict=none:=by
 cases x with
 | str z=>
   let{t,rfl}:=r;cases (g);show{typeIs_str s z t,λ_ e=>nomatch e}
 | int i=>
   let{t,rfl}:=r;cases (g);show{typeIs_int s i t,λ_ e=>nomatch e}
 | ref p=>
   cases r;let{rfl,w,l}+{rfl,o,d,m,j}+{rfl,d}+{rfl,S,n,d}:=g
   .let{u,_,q,_}:=I.list l
    show{q.isList.typeIs,λa e=>?_};let{o,n,e,c,j,_}:=q
    ext
   .show{{o,I.kIn p o d,m},λa e=>?_}
    cases e;show{o,I.kIn _ o d,j}
   .let z:∃o,s.heap.get? p=some o/\o.ExactDict:=by
     let{h,d}+{h,d}:=d
     .let{_,_,_,_,o,_,_,e,f,_}:=I.hok p _ d
      grind
     .let{_,_,_,_,o,_,_,e,f,_}:=I.hok p _ d
      grind
    let{o,e,f}:=z;show{{(o),e,f.1},λa b=>?_};cases b;show{(o),e,f.2.1}
   .let{o,_,_,_,e,f,_}:=I.hok p _ d
    show{{(o),e,f.1},λa b=>?_};cases b;show{(o),e,f.2.1}
 | _=>show False.elim g
def RA(K:W7)(T:String)(r:V->AM->Hp->VK->Prop)(e:TE)(t:TA):TE:=λb H Q=>e b H λx d=>KH K T x d/\t b d λc f=>r x c f Q
variable {o e:Expr}{to:TE}{t:TA}{name:Str}{cpos:Pos}{T id:String}{r:V->AM->Hp->VK->Prop}
theorem jI(K:PlainAttrs T)(g:Slot T name id)(j:typeOf (.builtin id)=pure (.type "method_descriptor"))(w:zB X id r)(y:PE X o to)(G:PA X (e::es) t)(d:attributeBase o name X.env (eval o X.env)=eval o X.env:=by rfl)(i:((backTo cpos (starEach (e::es) X.env)).all (λx=>!x.1)&&(backToKw cpos (keywordEach [] X.env)).all (λx=>x.1.isSome)
  &&decide ((e::es).length+([]:List Keyword).length+(if ([]:List Keyword).isEmpty then 0 else 1)<30))=true:=by rfl)(b:(apos.endLine==cpos.line)=true:=by rfl)(hs:starEach (e::es) X.env=(false,eval e X.env)::starEach es X.env:=by rfl)(a:(backTo cpos (starEach es X.env)).any (·.1)=false:=by rfl):
 PE X (.Call (.Attribute o name apos) (e::es) [] cpos) (RA X.K T r to t):=by
 intro p s k H Q I h;show wpAny_Call_method_late d i b rfl (aD (y _ s k H _ I h) λv E c=>?_);let{x,C,m,l,q,D}:=c;let{A,M}:=zI m l q;show{T,id,K,g,j,A,M,?_};let n:=G cpos _ E k C _ m D;rw[hs]at n ⊢;show Calls.callWith_builtin (by change(false||(backTo _ _).any _)=_;rw[a]<;>rfl) (Calls.evalArgs_plain (aD n λF u c=>?_));let{B,L,z,J,N}:=c;show w _ u k L x B v F Q z l J N
end
def zJ(X:Cx)(id:String)(r:V->AM->Hp->VK->Prop):Prop:=
 ∀(a:List _) (s:Shared) (b:St) (H:Hp) (x:V) (c:AM) (v:Value) (d:List _) (Q:VK),Inv X a b H s->RelV x v->Vals c d->r x c H Q->
  Zo X (call (.builtin id) (v::d)) (EP X a b Q) X.xe s
theorem Vals.one:∀{x:V}{us:AC},Vals [x] us->∃u,us=[u]/\RelV x u
 :=by
  intro x us h
  cases h with
  | cons r t=>
    cases t;symm
theorem Vals.rep{xs:AM}{us:AC}(h:Vals xs us):∀k:Nat,Vals (List.replicate k xs).flatten (List.replicate k us).flatten
 | 0=>.nil
 | k+1=>by
   rw[List.replicate_succ,List.replicate_succ,List.flatten_cons,List.flatten_cons];show Vals.append h (Vals.rep h k)
theorem KI(its:AC):∀(k:Nat) (acc:AC),
 List.foldl (λx1 x2=>x1++x2) acc.toArray (List.replicate k its.toArray)=(acc++(List.replicate k its).flatten).toArray
 | 0,acc=>by simp
 | k+1,acc=>by
   let e:acc.toArray++its.toArray=(acc++its).toArray:=by simp
   let e2:(acc++its)++(List.replicate k its).flatten=acc++(List.replicate (k+1) its).flatten:=by
    rw[List.replicate_succ,List.flatten_cons,ja]
   rw[<-e2,<-KI its k (acc++its),<-e,List.replicate_succ,List.foldl_cons]
section
variable {σ:St}{H:Hp}{s:Shared}{l b:Addr}{xs zs:AM}
def Inv.lset{its its':AC}(I:Inv X pins σ H s)(i:H l=some (.lst xs))(e:s.heap.get? l=some {cls:=.type "list",data:=.seq its.toArray n})(g:f its.toArray=its'.toArray)(c:Vals ys its')(d:ys.length<=sizeLine):
 Inv X pins σ (upd H l (.lst ys)) {s with heap:=s.heap.update l (Obj.mapSeq f),toks:=t' }:=by
 let q:=PySem.IsL.update e f;rw[g]at q;show I.write (by rw[i];show trivial) (.inl rfl) (λj u hb h=>(Heap.get?_update_other s.heap (Obj.mapSeq f) (Ne.symm hb)).trans h) {_,q} ({d,its',_,c,q})
def Inv.lnew(I:Inv X pins σ H s)(a:Vals ys its)(c:ys.length<=sizeLine):
 Inv X pins σ (upd H (~~~s) (.lst ys)) {s with heap:=s.heap.push {cls:=.type "list",data:=.seq its.toArray},toks:=t' }:=
 I.laid (λ_ _ q=>qe _ q) (qv _) {c,its,0,a,qp _ rfl}
def Inv.fresh(I:Inv X pins σ H s):H (~~~s)=none:=I.hok.fresh (qv _)
def Inv.lstM(I:Inv X pins σ H s)(a:H l=some (.lst xs)):xs.length<=sizeLine/\∃(its:AC) (n:Nat),Vals xs its/\xs.length=its.length/\s.heap.get? l=some {cls:=.type "list",data:=.seq its.toArray n}:=by
 let{z,its,n,r,e}:=I.hok l _ a;show{(z),its,n,r,r.length,e}
theorem KJ(h:n<=sizeLine):Builtin.List.listTooLong n=false:=by
 unfold Builtin.List.listTooLong
 ext
def zK:V->AM->Hp->VK->Prop:=λx b H Q=>∃l a y,x=.ref l/\b=[y]/\H l=some (.lst a)/\a.length<sizeLine/\Q .non (upd H l (.lst (a++[y])))
theorem tS:zJ X "list.append" zK:=by
 intro b s p H x t v o Q I g f h;let{l,m,y,rfl,rfl,c,i,q}:=h;cases g;let{u,rfl,d}:=f.one;let{z,k,n,r,j,e}:=I.lstM c;show call_meets F.slot_list_append {_,e,rfl} F.entry_list_append (F.args_list_append_2 _ _) (PySem.list_append l _ n u (by ext)) {e,{.non,_,I.lset c e nofun (r.append (.cons d .nil)) ?_,rfl,q}}
 (simp;lia)
def rRep:R2:=λx y H Q=>∃l k xs,x=.ref l/\y=.int k/\H l=some (.lst xs)/\-(2^63)<=k/\k<2^63/\xs.length*k.toNat<=sizeLine/\
 ∀p,H p=none->Q (.ref p) (upd H p (.lst (List.replicate k.toNat xs).flatten))
theorem zL{α:Type}(xs:List α)(k:Nat):(List.replicate k xs).flatten.length=k*xs.length:=by
 induction k with
 | zero=>simp
 | succ k ih=>rw[List.replicate_succ,List.flatten_cons,qz,ih,Nat.succ_mul,Nat.add_comm]
theorem op_rep:bh X (binaryOp .Mult) rRep:=by
 intro o s L H x y v u Q I C B h;let{l,k,M,rfl,rfl,K,A,G,O,q}:=h;cases C;let{t,rfl}:=B;let{z,b,n,r,w,e}:=I.lstM K
 let j:b.toArray.size*k.toNat<=sizeLine:=by rwa [qk,<-w]
 let g:¬b.toArray.size*k.toNat > (2^63-1)/8:=by
  let:sizeLine<=(2^63-1)/8:=by decide
  ac_nf
 let i:¬(!Builtin.List.listFitsIndex k)=true:=by
  rw[fitsIndex_both A G];show qi
 let c:¬Builtin.List.listTooLong (b.toArray.size*k.toNat)=true:=by
  rw[KJ j];show qi
 let f:List.foldl (λJ E=>J++E) #[] (.replicate (if b.toArray.isEmpty=true then 0 else k.toNat) b.toArray)=(List.replicate k.toNat b).flatten.toArray:=by
  let p:=λm=>by
   let:=KI b m []
   rwa [Qj]at this
  rw[p]
  cases b with
  | nil=>simp
  | cons a N=>rw[if_neg nofun]
 show wpAny_binaryOp_repeat_ref (by decide) {_,e,rfl} (λD=>typeIs_int D k t) noFill_list_mul F.fills_int_mul F.slot_int_rmul repeat_list F.slot_int_index.lookup
  (call_meets F.slot_int_rmul (typeIs_int s k t) F.entry_int_rmul (F.args_int_rmul_2 _ _) (int___rmul___int_list k t l _ n)
   {e,rfl,{_,e,rfl},call_meets F.slot_list_mul {_,e,rfl} F.entry_list_mul (F.args_list_mul_2 _ _) (AutoListH.list___mul___list_int_3 l _ n k t i g c) {e,?_}})
 rw[f];show{.ref _,_,I.lnew (r.rep _) (by rwa [zL,Nat.mul_comm]),rfl,q _ I.fresh}
end
end L2
namespace Att
open PySem PySem.W PySem.Calls PyProof.Rows
theorem RB:∀(ns:AF) (vs:AC),WellAll P h vs (ns.map WData.int)->IntsAre vs ns:=by
 intro ns
 induction ns with
 | nil=>
   intro vs w;cases w;show .nil
 | cons n ns c=>
   intro vs w
   cases w with
   | cons a b=>
     cases a;show .cons _ _ (c _ b)
theorem RC{l:OpenLaw}(t:l.most=some n)(b:l.row.toRowW.claim.pre args=true)(g:WellAll P h e args):
 ∃a vs ns,e=[Value.ref a]/\args=[WData.list (ns.map WData.int)]/\h.get? a=some {cls:=.type "list",data:=.seq vs.toArray}/\IntsAre vs ns/\ns.length<=n:=by
 let s:l.pre.holds [] _=true:=(pre_splitW b).2;let{d,r,rfl,p,o}:=hasAllW_cons ((pre_splitW b).1);obtain rfl:=hasAllW_nil o;let{v,rfl,m}:=hasW_list p;let{ns,rfl}:=items_int m
 let f:ns.length<=n:=by
  let i:(WTm.not (.lt (.lit (.int n)) (.len (.arg 0)))).holds [] {args:=[.list (ns.map .int)]}=true:=by
   let i:=(holds_andW s).1
   ext
  let u:=condW_of i (w_not (w_lt w_lit (w_len_list (w_arg rfl))))
  ext
 cases g with
 | cons q k=>
   cases k
   cases q with
   | list j c=>show{_,_,ns,rfl,rfl,j,RB ns _ c,f}
def RD(l:OpenLaw)(a:List WData):l.row.toRowW.claim.post a (.bool true) a=true:=
 postW_of
  (by first|rfl|decide|simp[.arms])
  (w_eq_bool (w_res rfl) w_lit) rfl
def attach_call{l:OpenLaw}(M:l.most=some n)(v:d.params.defaults=[])(call:∀(w:World) (c b:Shared) (p S:AD) (h:Addr) (o:Obj) (y m e:Value) (a:Addr) (vs:AC) (ns:AF),
  Ground q loose [] XP w c p S b.heap->YP w b.heap->
  b.heap.get? h=some o->o.data=.func (docDef d.name d.params d.body d.scope y m e)->b.heap.CodeRec m d.name->p d.name=some (.ref h)->
  b.heap.get? a=some {cls:=.type "list",data:=.seq vs.toArray}->IntsAre vs ns->ns.length<=n->b.gens=#[]->
  codeAny (mZ l.prog w) callerA (.call (.ref h) {[.ref a],[]}) (λr s'=>r=.ok (.ret (.bool true))/\OldK b.heap s'.heap/\s'.os=b.os/\AllBare s'.gens) b):
 WalkO q loose XP YP l.row.toRowW d [] (λf vs=>PySem.call f vs):=by
 intro w c b p S G Y h o y m e R Q E N u B t L C A P k z F s J;obtain rfl:=Dflts.none B v;obtain rfl:=Dflts.noKw B;let{a,vs,ns,rfl,rfl,j,g,i}:=RC M k s;show enter_call (codeAny_mono (call w c b p S h o y m e a vs ns G Y E (fd_plain N) u t j g i L) λr s' K=>?_);let{rfl,H,I,D}:=K;show{.inl {.bool _,.bool _,[],rfl,λ_=>rfl,.bool _,RD l _,λ_=>{.nil,λ_ O=>nomatch O}},H,I,D}
end Att
namespace L2
variable {h':Heap}{X:Cx}{pins:AB}{pos apos:Pos}{ys:AM}{prog:P7}{K:W7}{dx:Addr}{es ifs:AK}{elt iter:Expr}{scope:Scope}{ti:TT}{src:List AL}
open PySem PySem.Spec PyProof.Rows
theorem tU:∀{vs:AC}{ns:AF},IntsAre vs ns->Vals (ns.map V.int) vs
 | _,_,.nil=>.nil
 | _,_,.cons n t h=>.cons {(t),rfl} (tU h)
def jJ(H:Hp):Prop:=∀b,H b=none\/∃o a,H b=some (.frz o (.lst a))
theorem RE{K:W7}(T:K.In c.heap)(t:c.heap.Ns mainGlobals G)(hb:c.heap.Ns builtinsNs mb)(O:∀x:Str,x≠"__name__"->mb x=bootBuiltins x)(p:c.heap.NoLimit)(hg:c.gens=#[])(M:c.heap.get? a=some {cls:=.type "list",data:=.seq vs.toArray})(ua:IntsAre vs ns)(hl:ns.length<=sizeLine)(hr:Room k callerA)(F:∀g:Heap,K.In g->g.Ns mainGlobals G->FnOk P w K G g CX k U fd [x] sp)(l:∀(s:Shared) (u:Value),BindsTo s fd {[u],[]} [(x,u)])(I:∀H:Hp,jJ H->SqL K H a (ns.map V.int)->sp [.ref a] H (λv _=>v=.bl true) λ_ _ _=>False)(L:∀H e s',CX [] H c (λ_ _ _=>False) e s'->False):
 codeAny (mZ P w) callerA (.call (.ref U) {[.ref a],[]}) (λr s'=>r=.ok (.ret (.bool true))/\OldK c.heap s'.heap/\s'.os=c.os/\AllBare s'.gens) c:=by
 let rv:=tU ua;let R:=ua.length
 let j:∀H,jJ H->SqL K H a (ns.map V.int)->HOk P w H c.heap->(∀b,H b≠none->b=a)->(H a≠none->K.lookup a=none)->
  codeAny (mZ P w) callerA (.call (.ref U) {[.ref a],[]}) (λr s'=>r=.ok (.ret (.bool true))/\OldK c.heap s'.heap/\s'.os=c.os/\AllBare s'.gens) c:=by
  intro H S Y C hA hK;let f:∀{b:Addr}{o:Obj},c.heap.get? b=some o->H b=none->_:=λe n=>QT e n
  let N:∀{b:Addr}{o:Obj}{E:Array DictEntry}{D:Nat},c.heap.get? b=some o->o.data=.dict E D->H b=none:=λ{b o E D} e d=>by
   grind
  let i:∀{b:Addr}{m:AD},c.heap.Ns b m->(ee c.heap H).Ns b m:=λ{b m} ⟨o,E,D,e,d,r⟩=>{o,E,D,f e (N e d),d,r}
  let B:=λb o e=>f (T b o e) (by
   grind)
  let hM:Mod K G (ee c.heap H):={B,i t,{mb,i hb,O},let ⟨mc,h1,h2⟩:=p;{mc,i h1,h2}}
  let Z:Env0 P w K G (ee c.heap H) callerA [] c H:={rfl,hM,λb o e=>ya e,Nat.le_of_eq (QS _ _),trivial,λb hb=>absurd (show b∈([]) from hb) nofun,C,.of_eq hg}
  show codeAny_mono ((F _ B (i t)).run callerA [] c H {[.ref a],[]} [.ref a] [.ref a] _ _ hr Z (l c (.ref a)) (.cons rfl .nil) (I H S Y)) λr s' h=>?_
  cases r with
  | error e=>show(L H e s' h).elim
  | ok fl=>
    cases fl with
    | next=>show False.elim h
    | brk=>show False.elim h
    | cont=>show False.elim h
    | ret u=>
      let{v,H',os,A,Q,y,r',q}:=h;let q':=q;subst q';obtain rfl:=r';show{rfl,OldK.of_keep λb o e=>?_,os,A}
      cases q:H b with
      | none=>show Q.keep b o e q (by intro z;show absurd (show b∈([]) from z) nofun) nofun
      | some u=>
        let z+{ob,xs,z}:=S b
        .grind
        .let z2:=Q.frzs b ob _ z
         let{e1,_}:=C b _ z;let{e2,_}:=y b _ z2;grind
 cases J:K.lookup a with
 | some o=>
   let e:=T a o J;rw[M]at e;cases e;show j (λ_=>none) (λ_=>.inl rfl) (.inr {_,vs.toArray,_,J,rfl,rfl,rfl,by ext,by grind}) (λb u z=>by grind) (λb z=>absurd rfl z) λz=>absurd rfl z
 | none=>
   show j (λb=>if b=a then some _ else none) (λb=>?_) (.inl (.inr {{cls:=.type "list",data:=.seq vs.toArray},if_pos rfl})) (λb u z=>?_) (λb z=>?_) λ_=>J
   .grind
   .by_cases hb:b=a
    .let z':=(if_pos hb).symm.trans z
     cases z';subst hb;show{M,by ext,vs,_,rv,M}
    ext
   ext
def walk_of{l:W.OpenLaw}{K:Params->W7}{CX:World->fP}{sp:World->Sp}(S:l.most=some n)(A:n<=sizeLine)(t:d.params.defaults=[])(P:Room k callerA)(O:∀(w:World) (h:Heap),YP w h->(K w.params).In h)(F:∀(w:World) (j:AD) (r:Addr) (h:Heap),(K w.params).In h->h.Ns mainGlobals j->j d.name=some (.ref r)->
  ∃z:FuncData,(∀(s:Shared) (u:Value),BindsTo s z {[u],[]} [(x,u)])/\
   ∀c:Heap,(K w.params).In c->c.Ns mainGlobals j->FnOk l.prog w (K w.params) j c (CX w) k r z [x] (sp w))(C:∀(w:World) (H:Hp) (a:Addr) (ns:AF),ns.length<=n->jJ H->SqL (K w.params) H a (ns.map V.int)->sp w [.ref a] H (λv _=>v=.bl true) λ_ _ _=>False)(B:∀(w:World) (H:Hp) (s:Shared) (e:Value) (s':Shared),CX w [] H s (λ_ _ _=>False) e s'->False):
 W.WalkO q loose XP YP l.row.toRowW d [] (λf vs=>PySem.call f vs):=by
 show Att.attach_call S t λw D m j mb r o U T J a vs ns G Y X L R y p i g I=>?_;let E:=O w _ Y;let{z,Z,M}:=F w j r _ E G.T.g y;show RE E G.T.g G.T.b G.T.builtins G.T.nolimit I p i (Qg g A) P M Z (λH Q N=>C w H a ns g Q N) λH e s'=>B w H m e s'
noncomputable def inClass(s:Stmt)(j:Nat):Stmt:=match s with
 | .ClassDef _ _ _ a _ _ _ _ _ _ _=>a.getD j (.Pass {0,0,0,0})
 | _=>.Pass {0,0,0,0}
def aEb(s:Stmt):Arguments:=match s with
 | .FunctionDef _ a _ _ _ _ _ _ _ _=>a
 | _=>{posonlyargs:=[],args:=[],vararg:=none,kwonlyargs:=[],kw_defaults:=[],kwarg:=none,defaults:=[]}
def aDb(s:Stmt):List Stmt:=match s with
 | .FunctionDef _ _ b _ _ _ _ _ _ _=>b
 | _=>[]
def aBb(s:Stmt):Scope:=match s with
 | .FunctionDef _ _ _ _ _ _ a _ _ _=>a
 | _=>{kind:=.function,names:=[],isGenerator:=false,isCoroutine:=false}
abbrev bY:fP:=λ_ _ _ _ _ _=>False
abbrev E0:XK:=λ_ _ _=>False
def jK:eQ bY X E0:=λ_ _ _ _ _ _ _ h=>h.elim
structure Fun(K:W7)(x qual:Str)(st:Stmt)(f:Addr)(fd:FuncData):Prop where
 ex:∃(oc:Value) (od:Option Addr) (kV doc pm:Value) (an:Option Addr) (cdv ct:Value) (osl:Array (Option Value)),
  fd=W.fnOf x qual (aEb st) (aDb st) (aBb st) .none kV doc pm an cdv ct/\K.lookup f=some {oc,od,.func fd,osl}/\W.codeIn K cdv qual=true
 kp:W.keepIn K (.ref f)=true
section
variable {P:P7}{w:World}{mg:AD}{base:Heap}
def Fun.ok{st:Stmt}(F:Fun K x qual st f fd)(S:cG N ps (aBb st))(len:∀vs H Q E,sp vs H Q E->vs.length=ps.length)(hbody:∀(cdv:Value) (A:Around) (outer:List Env) (s:Shared) (H:Hp) (vs:AM) (Q:VK) (E:XK),Room k (A.deeper (envOfC qual (aBb st) (~~~s) f cdv))->sp vs H Q E->
  ∃t,PSs (ay bY P w K mg base N qual (aBb st) f cdv A outer s H E).nox (aDb st) t/\t {nx:=λ_ H'=>Q .non H',rt:=Q} (start N vs) H):FnOk P w K mg base bY (k+1) f fd ps sp:=by
 let{oc,od,kV,doc,pm,an,cdv,ct,osl,rfl,lk,hcd}:=F.ex;show nV lk hcd S len λA outer s H vs Q E hr hsp=>?_;let{t,h,q}:=hbody cdv A outer s H vs Q E hr hsp;show{(t),h.nox,q}
def Fun.binds{st:Stmt}(F:Fun K x c st f i)(h:∀(kV a e:Value) (g:Option Addr) (b d:Value) (us:AC),us.length=o.length->bindArgs (W.fnOf x c (aEb st) (aDb st) (aBb st) .none kV a e g b d) {us,[]}=pure (o.zip us)):Binds K i o []:=by
 let{n,m,kV,a,e,g,b,d,k,rfl,l,j}:=F.ex;show .all (h kV a e g b d)
def n_{st:Stmt}{kV d h b g:Value}(l:K.lookup f=some {j,m,.func (W.fnOf x a (aEb st) (aDb st) (aBb st) .none kV d h i b g),e})(c:W.codeIn K b a=true)(k:W.keepIn K (.ref f)=true):Fun K x a st f (W.fnOf x a (aEb st) (aDb st) (aBb st) .none kV d h i b g):={{(j),m,kV,d,h,i,b,g,e,rfl,l,c},k}
end
def zM{A B:Prop}(h:B):if false=true then A else B:=h
def oa{A B:Prop}(h:A):if true=true then A else B:=h
def Same(H H':Hp):Prop:=∀b o,H b=some o->H' b=some o
def Same.refl(H:Hp):Same H H:=λ_ _ h=>h
def Same.trans(a:Same H e)(b:Same e d):Same H d:=λc o h=>b c o (a c o h)
def Same.free(e:Same H H')(h:H' l=Option.none):H l=Option.none:=by
 cases q:H l with
 | none=>rfl
 | some o=>
   rw[e l o q]at h;cases h
def Same.seq{K:W7}(e:Same H H')(h:SqL K H a xs):SqL K H' a xs:=by
 let(h+{o,h})+h:=h
 .show .inl (.inl (e _ _ h))
 .show .inl (.inr {o,e _ _ h})
 .show .inr h
noncomputable def aR(env:Env):List (Str×NameKind)->List (Str×Addr)->List (Str×Addr)
 | [],cs=>cs
 | (n,k)::r,cs=>if (k==NameKind.free)=true then (match env.cells.lookup n with|some c=>aR env r ((n,c)::cs)|none=>aR env r cs)else aR env r cs
theorem KM(h:∀x∈a.names,x.2=NameKind.free->∃c,env.cells.lookup x.1=some c):closureFor a env=pure (aR env a.names []):=by
 let f:∀(l:_) (d:_),(∀x∈l,x.2=.free->∃c,env.cells.lookup x.1=some c)->
  (forIn l d fun(x:Str×_) r=>if (x.2==.free)=true then (do let c <-cellOf env x.1;pure (.yield ((x.1,c)::r)))else pure (.yield r))=(pure (aR env l d)):=by
  intro l
  induction l with
  | nil=>intro d _;rfl
  | cons x l j=>
    intro d g;let{n,k}:=x;let m:=λy s=>g y (qg _ s);rw[List.forIn_cons];by_cases o:k=.free
    .subst o
     let{c,q}:=g _ qh rfl;let b:=q
     let p:cellOf env n=pure c:=by unfold cellOf;rw[b]
     let e:(.free==NameKind.free)=true:=rfl;rw[if_pos e,p,pure_bind,pure_bind];change forIn l _ _=_;rw[j _ m];change _=pure (if _ then _ else _);rw[if_pos e,b]
    .let i:(k==.free)=false:=by simpa using o
     rw[if_neg (by rw[i];show qi),pure_bind];change forIn l d _=_;rw[j _ m];change _=pure (if _ then _ else _);rw[if_neg (by rw[i];show qi)]
 let:=f _ [] h;unfold closureFor;simpa using this
theorem tV:∀(l:List (Str×NameKind)) (d:List (Str×Addr)),(∀x c,(x,c)∈d->env.cells.lookup x=some c)->∀x c,(x,c)∈aR env l d->env.cells.lookup x=some c
 | [],d,h,x,c,e=>h x c e
 | (n,k)::r,d,h,x,c,e=>by
   unfold aR at e
   split at e
   .split at e
    .show tV r _ (λy b a=>?_) x c e
     grind
    .show tV r d h x c e
   .show tV r d h x c e
theorem tW:∀(l:List (Str×NameKind)) (a:List (Str×Addr)) (p:Str×Addr),p∈a->p∈aR env l a
 | [],_,_,h=>h
 | (n,k)::r,a,p,h=>by
   unfold aR
   split
   .split
    .show tW r _ p (qg _ h)
    .show tW r _ p h
   .show tW r _ p h
theorem og:∀(l:List (Str×NameKind)) (b:List (Str×Addr)) (x:Str) (c:Addr),(x,NameKind.free)∈l->env.cells.lookup x=some c->(x,c)∈aR env l b
 | (n,k)::r,b,x,c,h,a=>by
   let q+q:=qu h
   .cases q
    unfold aR;rw[a];show tW r _ _ qh
   .unfold aR
    split
    .split
     .show og r _ x c q a
     .show og r _ x c q a
    .show og r _ x c q a
theorem KN{a:List (Str×Addr)}(h:(x,c)∈a):∃d,a.lookup x=some d:=by
 induction a with
 | nil=>cases h
 | cons p r f=>
   let{n,b}:=p;rw[List.lookup_cons]
   cases e:(x==n)with
   | true=>grind
   | false=>
     ext
structure fD(XN:AJ)(xsc:Scope)(N:AJ)(src:List AL)(sc:Scope):Prop where
 kind:sc.kind=.function
 xkind:xsc.kind=.function
 cellU:∀y∈sc.names,y.2=NameKind.cell->sc.names.lookup y.1=some NameKind.cell
 names:∀y∈sc.names,y.2=NameKind.local->sc.names.lookup y.1=some NameKind.local
 len:src.length=N.length
 nd:N.Nodup
 cap:∀(i j:Nat) (x:Str),N[i]?=some x->src[i]?=some (some j)->XN[j]?=some x/\sc.names.lookup x=some NameKind.free
 fr:∀y∈sc.names,y.2=NameKind.free->xsc.names.lookup y.1=some NameKind.cell\/xsc.names.lookup y.1=some NameKind.free
noncomputable def fR(b:AJ)(a:Scope):AJ->List AL->Bool
 | [],[]=>true
 | x::N,none::src=>fR b a N src
 | x::N,some j::src=>decide (b[j]?=some x)&&decide (a.names.lookup x=some NameKind.free)&&fR b a N src
 | _,_=>false
theorem zN:∀{N:AJ}{c:List AL},fR b a N c=true->c.length=N.length
 | [],[],_=>rfl
 | _::N,none::c,h=>by
   let:=zN (N:=N) h;simp[this]
 | _::N,some j::c,h=>by
   replace h:(_&&_)=true:=h;simp [Qe]at h;let:=zN h.2;simp[this]
 | [],_::_,h=>Bool.noConfusion h
 | _::_,[],h=>Bool.noConfusion h
theorem zO:∀{N:AJ}{e:List AL},fR b a N e=true->∀(i j:Nat) (x:Str),N[i]?=some x->e[i]?=some (some j)->b[j]?=some x/\a.names.lookup x=some NameKind.free
 | [],[],_,i,j,x,h,_=>by simp at h
 | _::N,none::e,h,i,j,x,d,c=>by
   cases i with
   | zero=>simp at c
   | succ i=>show zO (N:=N) h i j x (by ext) (by ext)
 | y::N,some k::e,h,i,j,x,d,c=>by
   replace h:(_&&_)=true:=h;simp [Qe]at h
   cases i with
   | zero=>
     ext
   | succ i=>show zO h.2 i j x (by ext) (by ext)
 | [],_::_,h,_,_,_,_,_=>Bool.noConfusion h
 | _::_,[],h,_,_,_,_,_=>Bool.noConfusion h
def jL(c:AJ)(a:Scope)(N:AJ)(d:List AL)(b:Scope):Bool:=
 decide (b.kind=.function)&&decide (a.kind=.function)&&b.names.all (λy=>decide (y.2=.cell->b.names.lookup y.1=some .cell))&&b.names.all (λy=>decide (y.2=.local->b.names.lookup y.1=some .local))&&
  decide N.Nodup&&fR c b N d&&b.names.all (λy=>decide (y.2=.free->a.names.lookup y.1=some .cell\/a.names.lookup y.1=some .free))
def RG(h:jL e a N l g=true):fD e a N l g:=by
 unfold jL at h;simp only[Qe,wj,List.all_eq_true]at h;let{{{{{{i,d},k},c},j},b},f}:=h;show{i,d,k,c,zN b,j,zO b,f}
noncomputable abbrev bu(X:Cx)(a:Scope)(N:AJ)(b:List (Str×Addr))(C:Addr)(c:List Addr)(s:Shared)(H:Hp):Cx where
 prog:=X.prog
 w:=X.w
 K:=X.K
 mg:=X.mg
 base:=X.base
 A:=X.A
 N:=N
 s₀:=s
 H₀:=H
 env:=compEnvC a b C X.env
 outer:=X.stack
 stack:=X.stack
 ex:=c
 fn:=λx=>a.names.lookup x==some .cell
 calm:=X.calm
 pn:=[]
 xe:=λ_ _=>False
noncomputable def cY(a:List AL)(σ:St):St:=a.map λo=>o.bind λj=>σ[j]?.join
def dR(X:Cx)(a:AK)(t:TT):Prop:=
 ∀(d:List _) (s:Shared) (e:St) (H:Hp) (Q:Bool->Hp->Prop),Inv X d e H s->t e H Q->
  Zo X (forIn a true λc r=>if r=true then do let b <-isTrue c X.env (eval c X.env);pure (.yield b)else pure (.yield r)) (TP X d e Q) X.xe s
def oh:TT:=λ_ H Q=>Q true H
def zP:dR X [] oh:=λ_ _ _ H _ I h=>wpAny_tests_nil {(H),I,h}
def tX(n:TI)(r:List AL)(g:TG)(q:TT)(l:TE):TE:=λt H Q=>n t H λJ f=>∀p,f p=none->
 ∃W:Nat->Nat->St->Hp->Prop,(∃m,W 0 m (cY r t) (upd f p (.lst [])))/\∀i m c e,W i m c e->
  (J.stop i e/\Q (.ref p) e)\/
  (J.go i e/\∀x h,J.yld i e x h->g x c h λa o=>q a o λb j=>if b=true then l a j λv k=>∃s,k p=some (.lst s)/\s.length<sizeLine/\∃d,d<m/\W (i+1) d a (upd k p (.lst (s++[v])))else ∃d,d<m/\W (i+1) d a j)
section
variable {w:World}{A:Around}{R:Result->Shared->Prop}{s:Shared}{tg:Expr}{wi:TI}{g:TG}{te:TE}{N:AJ}
theorem RH(I:Nat->Shared->Prop)(u:∀n s,I n s->wpAny (mZ prog w) A (pyNext y) (λr a=>match r with
  | none=>R (.ok .next) a
  | some v=>wpAny (mZ prog w) A (letOwnedTupleGo b y v) (λ_ a=>wpAny (mZ prog w) A (assign b env v) (λ_ l=>
   wpAny (mZ prog w) A (forIn ifs true λc r=>if r=true then do let ok <-isTrue c env (eval c env);pure (ForInStep.yield ok)else pure (ForInStep.yield r)) (λok f=>
    if ok=true then wpAny (mZ prog w) A (eval elt env) (λx j=>
     wpAny (mZ prog w) A (call (.builtin "list.append") [t,x]) (λ_ k=>∃m,m<n/\I m k) (notedBy (mZ prog w) A env λe s'=>R (.error e) s') j) (notedBy (mZ prog w) A env λe s'=>R (.error e) s') f
    else ∃m,m<n/\I m f) (notedBy (mZ prog w) A env λe s'=>R (.error e) s') l) (notedBy (mZ prog w) A env λe s'=>R (.error e) s') a) (notedBy (mZ prog w) A env λe s'=>R (.error e) s') a) (notedBy (mZ prog w) A env λe s'=>R (.error e) s') s)(n:Nat)(h:I n s):
 codeAny (mZ prog w) A (.compLoop (.ListComp elt [{b,iter,ifs,0}] scope pos) 0 y t env) R s:=by
 show codeAny_loop rfl I (λn s z=>?_) n h;change wpAny _ A _ _ _ s;show wpAny_noted ?_;rw[compTurn_list];show wa (wpAny_standAt (wa (ww (u n s z) (λr a d=>?_) λ_ _ g=>g)))
 cases r with
 | none=>show wc d
 | some v=>
   show wa (ww d (λ_ a d=>wa (ww d (λ_ l o=>wa (ww o (λok f i=>?_) λ_ _ g=>g)) λ_ _ g=>g)) λ_ _ g=>g)
   cases ok with
   | false=>show wc {(rfl),i}
   | true=>
     show wa (wa (ww i (λx j q=>wa (ww q (λ_ k p=>wc (wc {(rfl),p})) λ_ _ g=>g)) λ_ _ g=>g))
theorem RI(h:scope.names.lookup x=some NameKind.free)(a:env.kindOf x=some NameKind.cell\/env.kindOf x=some NameKind.free):
 (relabel scope env).names.lookup x=some NameKind.cell\/(relabel scope env).names.lookup x=some NameKind.free:=by
 unfold relabel;generalize scope.names=l at h
 induction l with
 | nil=>cases h
 | cons p r b=>
   symm
theorem RJ(h:(relabel scope env).names.lookup x=some NameKind.cell\/(relabel scope env).names.lookup x=some NameKind.free):
 (x,NameKind.free)∈scope.names\/(x,NameKind.cell)∈scope.names:=by
 unfold relabel at h
 revert h
 generalize scope.names=l
 induction l with
 | nil=>simp
 | cons p r a=>
   symm
theorem oi:∀(b:List (Str×NameKind)) (n:Nat) (a:List (Str×Addr)),cellsFrom n b a=cellsFrom n b []++a
 | [],_,_=>rfl
 | (x,k)::r,n,a=>by
   unfold cellsFrom
   split
   .rw[oi r _ _,oi r _ [(x,n)],ja];rfl
   .show oi r n a
theorem zQ:∀(a:List (Str×NameKind)) (n:Nat) (x:Str) (c:Addr),(x,c)∈cellsFrom n a []->(x,NameKind.cell)∈a
 | [],_,_,_,h=>nomatch h
 | (y,k)::r,n,x,c,h=>by
   unfold cellsFrom at h
   split at h
   .rw[oi]at h
    let h+h:=qw h
    .show qg _ (zQ r _ x c h)
    ext
   .show qg _ (zQ r n x c h)
theorem KO{a b:List (Str×Addr)}:(a++b).lookup x=(a.lookup x).or (b.lookup x):=by grind
theorem jM{a b:List (Str×Addr)}(h:(a++b).lookup x=some c):a.lookup x=some c\/(a.lookup x=none/\b.lookup x=some c):=by
 rw[KO]at h
 ext
def RK(h:Q (newEnv scope (~~~s) a (cellsFrom (~~~s+1) scope.names []++i) c none .none (some b) f) {s with heap:=pushCells (s.heap.push {cls:=.type "dict",data:=.dict #[]}) scope.names}):
 wpAny M A (newFunctionEnv scope a i [] c none .none (some b) f) Q E s:=by
 show wa (wpAny_alloc (wa (wpAny_layCells _ (λg e d=>by simp) _ _ _ _ ?_)));rw[wt ..,oi];show wa (wc (wc h))
theorem RL{σ:St}(S:fD X.N X.env.scope N src scope)(I:Inv X pins σ H s)(M:∀b∈fp,cD X pins H b)(ho:∀b∈fp,∃o,s.heap.get? b=some o)(hn:n.Ns (~~~s) λ_=>none)(O:∀b o,s.heap.get? b=some o->n.get? b=some o)(t:CellsOk n (~~~s+1) f)(R:∀x c,(x,c)∈f->(x,NameKind.cell)∈scope.names)(E:∀x,scope.names.lookup x=some NameKind.cell->∃c,f.lookup x=some c):
 Inv (bu X scope N (f++aR X.env scope.names []) (~~~s) fp s H) [] (cY src σ) H {s with heap:=n,toks:=tk}:=by
 let h:∀x c,(aR X.env scope.names []).lookup x=some c->X.env.cells.lookup x=some c:=λx c e=>tV scope.names [] (λ_ _ z=>nomatch z) x c (PySem.mem_of_lookup e)
 let clt:∀x c,(aR X.env scope.names []).lookup x=some c->c< ~~~s:=λx c e=>by
  let{v,q}:=I.cell x c (h x c e);show q.lt
 let V:∀x c,f.lookup x=some c->(~~~s)<c:=λx c e=>(t.empty x c (PySem.mem_of_lookup e)).2
 let L:∀x,scope.names.lookup x=some NameKind.free->f.lookup x=none:=λx J=>by
  cases e:f.lookup x with
  | none=>rfl
  | some c=>
    let:=S.cellU _ (R x c (PySem.mem_of_lookup e)) rfl;grind
 let T:∀b∈fp,b< ~~~s:=λb g=>by
  let{o,e}:=ho b g;show ql e
 let U:∀b∈fp,b∉br X.stack:=λb g z=>by
  let e+e:=qu (I.stkSub b z)
  .show(M b g).2.1 e
  .show(M b g).2.2.1 e
 show⟨⟨I.ok.mod,S.kind,I.ok.glob,I.ok.blt,qv _,λx y c C k=>?_,λx J=>?_,λx c z e=>?_,I.ok.hd,I.ok.frames,.inl rfl,λb g=>{qm (T b g),λx c e=>?_},
  I.bs,Qg I.ok.bsz I.sz,λb o e g=>?_,U,I.stack,I.stkFree⟩,rfl,I.bare,Un.kept O,{_,hn,λi x v C k h3=>?_},λx c e=>?_,I.fresh,λx c e=>?_,λp hp=>(nomatch hp),I.hok.kept O,?_⟩
 .let C+{_,C}:=jM C
  .let k+{_,k}:=jM k
   .show name_of_addr t.apart (PySem.mem_of_lookup C) (PySem.mem_of_lookup k)
   grind
  .let k+{_,k}:=jM k
   .grind
   .show I.ok.inj x y c (h x c C) (h y c k)
 .change ∃c,(f++aR X.env scope.names []).lookup x=some c
  rw[KO]
  cases e:f.lookup x with
  | some c=>grind
  | none=>
    let P+P:=RJ J
    .let{c,t}:=I.ok.has x (S.fr _ P rfl)
     show KN (og scope.names [] x c P t)
    .let{c,t}:=E x (S.cellU _ P rfl)
     grind
 .let z':scope.names.lookup x=some NameKind.cell:=by simpa using z
  let{d,Y}:=E x z';let e+{e,_}:=jM e
  .grind
  ext
 .let e+{_,e}:=jM e
  .grind
  .show(M b g).2.2.2.2.1 x c (h x c e)
 .let z+z:=(M b g).2.2.2.1
  .show I.ok.noex b o e z
  .show absurd (Qi (ql e) (Qg I.ok.bsz z)) (Nat.lt_irrefl _)
 .let hi:i<src.length:=by
   let:=(qo k).1;unfold cY at this
   ext
  let A:src[i]?=some src[i]:=qr hi;unfold cY at k;rw[Qm,A]at k;let F:(src[i].bind λj=>(σ[j]?).join)=some v:=wx k;cases q:src[i]with
  | none=>ext
  | some j=>
    rw[q]at F A;let W:(σ[j]?).join=some v:=F;let{J,D}:=S.cap i j x C A;let{m,_,Z}:=I.loc;let G:X.env.kindOf x=some NameKind.cell\/X.env.kindOf x=some NameKind.free:=S.fr (x,NameKind.free) (PySem.mem_of_lookup D) rfl
    let Q:σ[j]?=some (some v):=by
     grind
    let{u,r,l}:=Z j x v J Q (.inr G);show{u,r,.inr {RI D G,?_}};let{z,_}+{_,c,t,B}:=l
    .simp_all
    .let{d,Y}:=KN (og (env:=X.env) scope.names [] x c (PySem.mem_of_lookup D) t)
     let K:=h x d Y;rw[t]at K;cases K;show{c,?_,B.keeps O};change(f++aR X.env scope.names []).lookup x=some c;grind
 .let e+{_,e}:=jM e
  .show{_,(t.empty x c (PySem.mem_of_lookup e)).1}
  .let{v,q}:=I.cell x c (h x c e)
   show{v,q.keeps O}
 .let e+{_,e}:=jM e
  .show I.hok.fresh (Nat.le_of_lt (V x c e))
  .show I.freeC x c (h x c e)
 .unfold cY
  rw[qf];show S.len
def KP{σ c:St}(I:Inv X pins σ H s)(a:∀b∈d,cD X pins H b)(J:Inv (bu X scope N f C d s H) e c H' s'):Inv X pins σ H' s':=
 I.call' J.os J.base J.hok J.bare λb g=>{(a b g).2.2.2.1,(a b g).2.1,(a b g).2.2.2.2.1,(a b g).2.2.2.2.2}
def CompE(X:Cx)(scope:Scope)(N:AJ)(elt:Expr)(te:TE):Prop:=
 ∃XE:List (Str×Addr)->Addr->List Addr->Shared->Hp->AB->AA,
  (∀cl C fp s3 H3 pn s σ H Q,Inv (bu X scope N cl C fp s3 H3) pn σ H s->te σ H Q->Zo X (eval elt (bu X scope N cl C fp s3 H3).env) (EP (bu X scope N cl C fp s3 H3) pn σ Q) (XE cl C fp s3 H3 pn) s)/\
  ∀pins σ H s fp use Q acc cl C s3 s' H' e pn,Inv X pins σ H s->C≠X.env.locals->X.s₀.heap.objs.size<=C->(∀x c,X.env.cells.lookup x=some c->c≠C)->(∀p∈X.pn++pins,p.1≠C)->(∀σ1 H1 s1,Inv (bu X scope N cl C fp s3 H') pn σ1 H1 s1->Inv X pins σ H1 s1)->XE cl C fp s3 H' pn e s'->
   notedBy (mZ X.prog X.w) X.A (compEnvC scope cl C X.env) (λe s'=>compPost (mZ X.prog X.w) X.A X.xe use Q acc C (.error e) s') e s'
def CompE.of(he:∀cl C fp s H,PE (bu X scope N cl C fp s H) elt te):CompE X scope N elt te:=
 {λ_ _ _ _ _ _ _ _=>False,λcl C fp s H pn s1 σ H1 Q I h=>he cl C fp s H pn s1 σ H1 Q I h,λ_ _ _ _ _ _ _ _ _ _ _ _ _ _ _ _ _ _ _ _ _ z=>z.elim}
theorem KQ{pins:AB}{σ:St}{H:Hp}{s:Shared}{Q:VK}{it:Addr}{fp:List Addr}{tn:Nat->Heap->Prop}{J:It}{use:Option (Value->Sem Unit)}{Q1:AA}{E:AA}(S:fD X.N X.env.scope N src scope)(hc:X.calm=true)(hg:∀cl C fp s H,PG (bu X scope N cl C fp s H) tg g)(hi:∀cl C fp s H,dR (bu X scope N cl C fp s H) ifs ti)(he:CompE X scope N elt te)(I:Inv X pins σ H s)(T:dP X.prog X.w X.K tg J fp it tn)(st:tn 0 s.heap)(hf:∀b∈fp,cD X pins H b)(h:∀p,H p=none->∃W:Nat->Nat->St->Hp->Prop,(∃m,W 0 m (cY src σ) (upd H p (.lst [])))/\∀i m σ1 H2,W i m σ1 H2->
  (J.stop i H2/\Q (.ref p) H2)\/
  (J.go i H2/\∀x H3,J.yld i H2 x H3->g x σ1 H3 λσ4 H4=>ti σ4 H4 λb H5=>if b=true then te σ4 H5 λv H6=>∃xs,H6 p=some (.lst xs)/\xs.length<sizeLine/\∃m',m'<m/\W (i+1) m' σ4 (upd H6 p (.lst (xs++[v])))else ∃m',m'<m/\W (i+1) m' σ4 H5))(hR:∀(D C:Addr) (s':Shared) (H':Hp) (m:AD),Inv X pins σ H' s'->s'.heap.Ns C m->H' C=none->C≠X.env.locals->X.s₀.heap.objs.size<=C->(∀x c,X.env.cells.lookup x=some c->c≠C)->(∀p∈X.pn++pins,p.1≠C)->Q (.ref D) H'->compPost (mZ X.prog X.w) X.A X.xe use Q1 (.ref D) C (.ok .next) s'):
 Zo X (newList []) (λacc s₃=>Zo X (newFunctionEnv scope X.env.globals (aR X.env scope.names []) [] X.env.qual none .none (some X.env)) (λcenv s₄=>
  codeAny (mZ X.prog X.w) X.A (.compStart (.ListComp elt [{tg,iter,ifs,0}] scope pos) 0 (.ref it) acc {cenv with scope:=relabel scope X.env}) (compPost (mZ X.prog X.w) X.A X.xe use Q1 acc cenv.locals) s₄) E s₃) E s:=by
 let{XE,he,hX}:=he;show wg (RK ?_);let hfree:H (~~~s)=none:=I.fresh;let{W,{m0,w0},turn}:=h (~~~s) hfree;let I3:Inv X pins σ (upd H (~~~s) (.lst [])) {s with heap:=s.heap.push {cls:=.type "list",dict:=none,data:=.seq ([]:AC).toArray},toks:=s.toks}:=I.lnew (ys:=[]) (its:=[]) .nil (Qh _);generalize hD:(~~~s)=Dd at *;generalize hH3:upd H Dd (.lst [])=H3 at *;let kp0:∀b o,s.heap.get? b=some o->(s.heap.push {cls:=.type "list",dict:=none,data:=.seq ([]:AC).toArray}).get? b=some o:=λb o e=>qe _ e
 let lt0:∀b o,s.heap.get? b=some o->b≠Dd:=λb o e=>by rw[<-hD];show qm (ql e)
 generalize hs3:s.heap.push {cls:=.type "list",dict:=none,data:=.seq ([]:AC).toArray}=hp3 at *
 let f3:∀b∈fp,cD X pins H3 b:=λb hb=>by
  let{o,e,_}:=T.obj _ _ st b hb;show{?_,(hf b hb).2};rw[<-hH3,Yl (lt0 b o e)];show(hf b hb).1
 let ob3:∀b∈fp,∃o,hp3.get? b=some o:=λb hb=>by
  let{o,e,_}:=T.obj _ _ st b hb;show{o,kp0 b o e}
 dsimp only;let hns₁:(pushCells (hp3.push {cls:=.type "dict",data:=.dict #[]}) scope.names).Ns hp3.objs.size (λ_=>none):=(Heap.Ns.new hp3 (.type "dict")).keeps (pushCells_keeps _ _);let old:∀b o,hp3.get? b=some o->(pushCells (hp3.push {cls:=.type "dict",data:=.dict #[]}) scope.names).get? b=some o:=λb o e=>pushCells_keeps _ _ b o (qe _ e);let cok:=cellsFrom_ok scope.names (hp3.push {cls:=.type "dict",data:=.dict #[]}) (hp3.objs.size+1) [] {λ_ _ hm=>(nomatch hm),List.Pairwise.nil} (by rw[wt];show qv _);rw[wt]at cok;let chas:∀x,scope.names.lookup x=some NameKind.cell->∃c,(cellsFrom (hp3.objs.size+1) scope.names []).lookup x=some c:=λx hx=>Option.isSome_iff_exists.mp (PySem.W.cellsFrom_some _ _ _ (.inl hx));let cmem:∀x c,(x,c)∈cellsFrom (hp3.objs.size+1) scope.names []->(x,NameKind.cell)∈scope.names:=λx c h=>zQ _ _ x c h;nomatch cellsFrom (hp3.objs.size+1) scope.names []=own,pushCells (hp3.push {cls:=.type "dict",data:=.dict #[]}) scope.names=h₁
 let I4:Inv (bu X scope N (own++aR X.env scope.names []) hp3.objs.size fp {s with heap:=hp3,toks:=s.toks} H3) [] (cY src σ) H3 {s with heap:=h₁,toks:=s.toks}:=
  RL (s:={s with heap:=hp3,toks:=s.toks}) (tk:=s.toks) S I3 f3 ob3 hns₁ old cok cmem chas
 let st4:tn 0 h₁:=T.keep _ _ _ st λb _ o e=>old b o (kp0 b o e);let hCl:hp3.objs.size≠X.env.locals:=Nat.ne_of_gt I3.lt
 let hCc:∀x c,X.env.cells.lookup x=some c->c≠hp3.objs.size:=λx c e=>by
  let{v,q}:=I3.cell x c e;show qm q.lt
 let hCp:∀p∈X.pn++pins,p.1≠hp3.objs.size:=λp hp=>qm (ql (I3.pin p hp).1)
 let stat:∀{H':Hp},(∀b∈fp,H' b=none)->∀b∈fp,cD (bu X scope N (own++aR X.env scope.names []) hp3.objs.size fp {s with heap:=hp3,toks:=s.toks} H3) [] H' b:=λ{H'} hn b hb=>by
  let{e1,e2}:=I4.ok.exf b hb;show{hn b hb,e1,I4.ok.exfs b hb,.inl hb,e2,λp hp=>nomatch hp}
 let loop:codeAny (mZ X.prog X.w) X.A (.compLoop (.ListComp elt [{tg,iter,ifs,0}] scope pos) 0 (.ref it) (.ref Dd) (compEnvC scope (own++aR X.env scope.names []) hp3.objs.size X.env)) (compPost (mZ X.prog X.w) X.A X.xe use Q1 (.ref Dd) hp3.objs.size) {s with heap:=h₁,toks:=s.toks}:=by
  show RH (λn s'=>∃i σ' H',Inv (bu X scope N (own++aR X.env scope.names []) hp3.objs.size fp {s with heap:=hp3,toks:=s.toks} H3) [] σ' H' s'/\tn i s'.heap/\(∀b∈fp,H' b=none)/\W i n σ' H') ?_ m0 {0,_,H3,I4,st4,λb hb=>(f3 b hb).1,w0};rintro n s3 ⟨i,σ3,H3',I3',st3,fr3,w3⟩;let{stop,qn}+{go,step}:=turn i n σ3 H3' w3
  .show aD (T.done (bu X scope N (own++aR X.env scope.names []) hp3.objs.size fp {s with heap:=hp3,toks:=s.toks} H3) rfl rfl rfl hc i [] s3 σ3 H3' _ I3' (stat fr3) st3 stop) λr s4 hx_=>?_
   let{hr,I5}:=hx_;subst hr;let{m,hm,_}:=I5.loc;show hR Dd hp3.objs.size s4 H3' m (KP I3 f3 I5) hm I5.free hCl (Qg I3.sz (qv _)) hCc hCp qn
  .show aD (T.item (bu X scope N (own++aR X.env scope.names []) hp3.objs.size fp {s with heap:=hp3,toks:=s.toks} H3) rfl rfl rfl hc i [] s3 σ3 H3' _ I3' (stat fr3) st3 go) λr s4 hx_=>?_
   let{u,hr,h4}:=hx_;subst hr;show aD h4 λ_ s5 hx_=>?_;let{x,H5,I5,r5,y5,st5,fr5}:=hx_;let I5':=I5.pinned (stat fr5) (T.obj _ _ st5);let un:∀{α:Type}{t:Sem α}{Q':α->Shared->Prop}{E':AA}{s':Shared},Zo X t Q' (λ_ _=>False) s'->Zo X t Q' E' s':=λh=>ww h (λ_ _ q=>q) λ_ _ f=>f.elim;show un (aD (hg _ _ _ _ _ _ s5 σ3 H5 x u _ I5' r5 (step x H5 y5)) λ_ s6 hx_=>?_);let{σ6,H6,I6,q6}:=hx_;show un (aD (hi _ _ _ _ _ _ s6 σ6 H6 _ I6 q6) λok s7 hx_=>?_);let{H7,I7,q7}:=hx_
   let again:∀{H8:Hp}{s8:Shared}{m':Nat},m'<n->Inv (bu X scope N (own++aR X.env scope.names []) hp3.objs.size fp {s with heap:=hp3,toks:=s.toks} H3) ([]++tJ fp s5.heap) σ6 H8 s8->W (i+1) m' σ6 H8->
    ∃m,m<n/\∃i σ' H',Inv (bu X scope N (own++aR X.env scope.names []) hp3.objs.size fp {s with heap:=hp3,toks:=s.toks} H3) [] σ' H' s8/\tn i s8.heap/\(∀b∈fp,H' b=none)/\W i m σ' H':=λ{H8 s8 m'} hm I8 w8=>by
    show{m',hm,i+1,σ6,H8,I8.unpinned,T.keep _ _ _ st5 λb hb o e=>(I8.pin (b,o) (Qr _ (Qr _ (tL hb e)))).1,λb hb=>?_,w8};let{o,e,d}:=T.obj _ _ st5 b hb;show(I8.pin (b,o) (Qr _ (Qr _ (tL hb e)))).2.1
   cases ok with
   | false=>
     rw[if_neg qi]at q7 ⊢;let{m',hm,w7}:=q7;show again hm I7 w7
   | true=>
     rw[if_pos rfl]at q7 ⊢;show ww (he _ _ _ _ _ _ s7 σ6 H7 _ I7 q7) (λy s8 hx_=>?_) λe s8 z=>hX _ _ _ _ _ _ _ _ _ _ _ _ _ _ _ I3 hCl (Qg I3.sz (qv _)) hCc hCp (λσ1 H1 s1 J=>KP I3 f3 J) z;let{v,H8,I8,r8,q8}:=hx_;let{xs,e8,z8,m',hm,w8}:=q8;show un (aD (tS _ s8 σ6 H8 (.ref Dd) [v] (.ref Dd) [y] (λ_ H9=>H9=upd H8 Dd (.lst (xs++[v]))) I8 rfl (.cons r8 .nil) {(Dd),xs,v,rfl,rfl,e8,z8,rfl}) λ_ s9 hx_=>?_);let{_,H9,I9,_,q9}:=hx_;subst q9;show again hm I9 w8
 show codeAny_compStart_list loop (T.self _ _ _ _ _ st4 loop)
def KU(S:fD X.N X.env.scope N src scope)(hc:X.calm=true)(hit:PI X tg iter wi)(hg:∀cl C fp s H,PG (bu X scope N cl C fp s H) tg g)(hi:∀cl C fp s H,dR (bu X scope N cl C fp s H) ifs ti)(he:CompE X scope N elt te)(hs:∀x,foldedSetIterable iter X.env x=pure x:=by intro _;rfl):PE X (.ListComp elt [{tg,iter,ifs,0}] scope pos) (tX wi src g ti te):=by
 intro pins s σ H Q I h;rw[eval_ListComp];let hcl:closureFor scope X.env=pure (aR X.env scope.names []):=KM λy hy hf=>I.ok.has y.1 (S.fr y hy hf);show wpAny_comprehension_free (use:=none) rfl hs hcl S.kind S.names ?_;show aD (hit pins s σ H _ I h) λv s1 h1=>aD h1 λitv s2 hx_=>?_;let{it,fp,tn,J,H2,e,I2,T,st2,f2,q}:=hx_;subst e;show KQ (Q:=Q) S hc hg hi he I2 T st2 f2 q λD C s' H' m I' hm hC hCl hCs hCc hCp hq=>?_;show{m,hm,λh' sb=>?_};show{.ref D,H',I'.turned (t':=s'.toks) (λb o hb e=>(sb.2 b hb).trans e) hC hCl (.inr hCs) hCc hCp,rfl,hq}
theorem KW{py spos:Pos}(S:fD X.N X.env.scope N src scope)(hc:X.calm=true)(hit:PI X tg iter wi)(hg:∀cl C fp s H,PG (bu X scope N cl C fp s H) tg g)(hi:∀cl C fp s H,dR (bu X scope N cl C fp s H) ifs ti)(he:CompE X scope N elt te)(hN:X.N.Nodup)(hy:X.N[i]?=some y)(hx:dO X.env.scope y)(hsw:swapsWith (.ListComp elt [{tg,iter,ifs,0}] scope pos) (some (.Name y py)) spos.line X.env=pure true)(hf:Zm X y:=by trivial)(hs:∀x,foldedSetIterable iter X.env x=pure x:=by intro _;rfl):PS X (.Assign [.Name y py] (.ListComp elt [{tg,iter,ifs,0}] scope pos) spos) (fO (tX wi src g ti te) (lI i)):=by
 intro pins s σ H D I h;rw[exec_Assign_Name_used _ _ _ _ hsw];show wa (wpAny_standAt (wa ?_));change wpAny _ X.A (do let _ <-comprehension (.ListComp elt [{tg,iter,ifs,0}] scope pos) scope X.env _ (newList []) false (eval iter X.env) (some (assign (.Name y py) X.env))) _ _ s;let hcl:closureFor scope X.env=pure (aR X.env scope.names []):=KM λy hy hf=>I.ok.has y.1 (S.fr y hy hf);show wa (ww (wpAny_comprehension_free (use:=some (assign (.Name y py) X.env)) (Q:=λ_ s'=>SP X pins D .next s') rfl hs hcl S.kind S.names ?_) (λ_ s' hq=>wc (wc hq)) λ_ _ e=>e);show aD (hit pins s σ H _ I h) λv s1 h1=>aD h1 λitv s2 hx_=>?_;let{it,fp,tn,J,H2,e,I2,T,st2,f2,q}:=hx_;subst e;show KQ (Q:=λx H1=>lI i x σ H1 D.nx) S hc hg hi he I2 T st2 f2 q λDd C s' H' m I' hm hC hCl hCs hCc hCp hq=>?_;change wpAny _ X.A (assign (.Name y py) X.env (.ref Dd)) _ _ s';show wpAny_assign_Name (Kc I' hN hy hx (v:=.ref Dd) rfl (λs'' I'' hsb=>?_) hf);let{a,sb,ha}:=hsb
 let hCa:C≠a:=by
  let e+e:=ha
  .rw[e];show hCl
  .show Ne.symm (hCc y a e)
 show{m,hm.sameBut sb hCa,λh' sb'=>?_};show{_,H',I''.turned (t':=s''.toks) (λb o hb e=>(sb'.2 b hb).trans e) hC hCl (.inr hCs) hCc hCp,hq}
end
end L2
namespace M
variable {prog:P7}{s:Shared}{K:W7}{X:Cx}{es ifs elts:AK}{fa fk fo:AU}{pos pos' px pos2 apos np hpos cpos pos1 p1 q1 q2 q3 cp:Pos}{pins qs:AB}{gl:AV}{st b₀:Stmt}{sts suite:List Stmt}{tg elt iter ie ke:Expr}{scope:Scope}{mg:AD}{base:Heap}{env:Env}{outer:List Env}{L ea:Addr}{qual xn:Str}{cd:Value}{sp:Sp}{os:OsState}
open PySem PySem.Spec PyProof.Rows L2
def cS(xs:Array Nat):Prop:=xs.toList.Pairwise (·<·)
theorem zR(f:cS xs)(j:Nat):∀(a lo b:Nat),lo<=b->b<=xs.size->b-lo<=a->
 (∀(i:Nat) (h:i<xs.size),i<lo->xs[i]<j)->(∀(i:Nat) (h:i<xs.size),b<=i->j<=xs[i])->
 SetTable.below.go xs j a lo b<=xs.size/\(∀(i:Nat) (h:i<xs.size),i<SetTable.below.go xs j a lo b->xs[i]<j)/\(∀(i:Nat) (h:i<xs.size),SetTable.below.go xs j a lo b<=i->j<=xs[i])
 | 0,lo,b,p,l,t,g,n=>by
   rw[SetTable.below.go];grind
 | a+1,lo,b,p,l,t,g,n=>by
   let m:∀(i k:Nat) (b:i<xs.size) (s:k<xs.size),i<k->xs[i]<xs[k]:=λi k b s h=>by
    let:=List.pairwise_iff_getElem.mp f i k (by ext) (by ext) h
    ext
   rw[SetTable.below.go];by_cases r:lo<b
   .rw[if_pos r]
    let u:(lo+b)/2<xs.size:=by lia
    let q:xs.getD ((lo+b)/2) j=xs[(lo+b)/2]:=by ext
    dsimp only;rw[q];by_cases c:xs[(lo+b)/2]<j
    .rw[if_pos c]
     show zR f j a _ _ (by lia) l (by ext<;>lia) (λi d o=>?_) n;by_cases e:i=(lo+b)/2
     .simp_all
     grind
    .rw[if_neg c]
     show zR f j a _ _ (by lia) (by lia) (by ext<;>lia) g (λi d o=>?_);by_cases e:i=(lo+b)/2
     .subst e;ext
     grind
   grind
theorem KY(l:cS xs)(j:Nat):SetTable.below xs j<=xs.size/\(∀a∈xs.toList.take (SetTable.below xs j),a<j)/\(∀a∈xs.toList.drop (SetTable.below xs j),j<=a):=by
 let{k,f,g}:=zR l j xs.size 0 _ (Qh _) (qv _) ∅ (λi _ h=>absurd h (Nat.not_lt_zero _)) (λi h n=>absurd h ∅);let e:SetTable.below xs j=SetTable.below.go xs j _ 0 _:=rfl;show{k,λa b=>?_,λa b=>?_}
 .let{i,d,rfl}:=List.mem_iff_getElem.mp b
  rw[List.length_take]at d
  let c:i<xs.size:=by ext<;>ac_nf
  rw[List.getElem_take];show f i c (by ext)
 .let{i,d,rfl}:=List.mem_iff_getElem.mp b
  rw[List.length_drop]at d
  let m:xs.toList.length=xs.size:=by simp
  rw[List.getElem_drop];show g _ (by ext<;>ac_nf) (by ext)
def iV(xs:Array a)(p:Nat)(x:a):(SetTable.insertAt xs p x).toList=xs.toList.take p++x::xs.toList.drop p:=by
 unfold SetTable.insertAt;simp[Array.toList_extract];show List.take_of_length_le nofun
theorem KZ(d:cS xs)(j:Nat)(e:xs[SetTable.below xs j]?≠some j):cS (SetTable.insertAt xs (SetTable.below xs j) j):=by
 let{n,k,f}:=KY d j;unfold cS at d ⊢;rw[iV];generalize q:SetTable.below xs j=p at n k f e ⊢;rw[<-Array.getElem?_toList]at e;generalize xs.toList=l at d k f e ⊢;rw[<-List.take_append_drop p l,List.pairwise_append]at d;let{o,h,s}:=d
 let m:∀a∈l.drop p,j<a:=by
  cases i:l.drop p with
  | nil=>grind
  | cons b r=>
    rw[i]at h f
    let t:l[p]?=some b:=by
     let:(l.drop p)[0]?=some b:=by rw[i];rfl
     grind
    let c:=Nat.lt_of_le_of_ne (f b qh) (λz=>e (by rw[t,z]));intro a g;let rfl+g:=qu g
    .show c
    .show Nat.lt_trans c ((List.pairwise_cons.mp h).1 a g)
 rw[List.pairwise_append]
 ext
theorem K0{t:SetTable}(h:∀i,t.slot j≠.live i):t.place[SetTable.below t.place j]?≠some j:=λz=>by
 show h (SetTable.below t.place j) ?_;unfold SetTable.slot
 ext
theorem zS:∀(a:Nat) (p:SetTable.Probe) {j:Nat}{d:AL},(∀x,p.dummy=some x->∀i,t.slot x≠.live i)->
 SetTable.probe.go t g h a p=some (.empty j d)->∀i,t.slot (d.getD j)≠.live i
 | 0,p,j,d,_,e=>by cases e
 | a+1,p,j,d,f,e=>by
   rw[SetTable.probe.go]at e
   split at e
   .cases k:p.dummy with
    | none=>grind
    | some x=>grind
   .show zS a _ (λx b i=>?_) e
    let c:x=p.j:=by
     unfold SetTable.advance at b;grind
    grind
   .split at e
    .cases e
    .show zS a _ (λx b i=>f x ?_ i) e
     unfold SetTable.advance at b;grind
def Tab(a:Bool)(t:SetTable):Prop:=(a=false->t.led=true)/\(t.plain=true->cS t.place)
def Tab.standIn(h:Tab a t)(n:Nat):Tab a (t.standIn n):={h.1,λz=>nomatch z}
def Tab.off(h:Tab a t):Tab a {t with plain:=false}:={h.1,λz=>nomatch z}
def Tab.fresh:Tab a (.fresh 0 0 (!a)):={λh=>by subst h;rfl,λ_=>.nil}
def Tab.layNew(h:Tab g t)(i:Array (Int×Value))(e:Int)(x:Value):Tab g (PySem.layNew t i e x).2.1:=by
 unfold PySem.layNew
 split
 .rename_i b l c
  dsimp only;unfold SetTable.orStandIn
  split
  .show{h.1,λz=>KZ (h.2 z) b (K0 ?_)}
   unfold SetTable.freeSlot at c
   split at c
   .rename_i j d k
    cases c;show zS _ _ (λx f=>by simp[SetTable.probeStart]at f) k
   .cases c
  .show{h.1,λz=>nomatch z}
 .show h.standIn _
theorem RM{led plain:Bool}(h:SetTable.laid mask finger moves led plain hs=some (t,o)):cS t.place/\t.led=led/\t.plain=plain:=by
 let{f,_,h}:=qa h;cases h;show{?_,rfl,rfl};rw[List.map_filterMap];show .filterMap _ (λa b c x e y d=>?_) List.pairwise_lt_range
 ext
def Tab.relayAll(h:Tab c t)(f:Array (Int×Value))(n:Nat):Tab c (PySem.relayAll t f n).2.1:=by
 unfold PySem.relayAll
 split
 .rename_i j b e
  let{g,d,i}:=RM e;dsimp only
  split
  .show{λz=>by rw[d];show h.1 z,λ_=>g}
  .show h.standIn _
 .show h.standIn _
section
variable {w:World}{A:Around}{E:AA}
noncomputable def dD(e:Int×Value):Int:=match e.2 with
 | .int n _=>n
 | _=>0
noncomputable abbrev fE(w:World):Bool:=w.params.followText "set-order"
def SetI(prog:P7)(w:World)(h:Heap)(a:Addr)(ns:AF):Prop:=
 ∃o b c t,h.get? a=some o/\o.ExactSet/\o.data=.set b c t/\ElemsOf (intKind prog w) b.toList/\b.toList.map dD=ns/\ns.Nodup/\b.size<scanBound/\t.fits b.size=true/\Tab (fE w) t
def oj(h:(intKind prog w).is k e.2=true):dD e=k:=by
 let{t,a}:=Value.isInt_shape h;unfold dD;rw[a]
def K1(h:ElemsOf (intKind prog w) d)(b:e∈d):∃t,e=(hashInt (dD e),.int (dD e) t):=by
 let{{k,a,c},_}:=h e b;let{t,f}:=Value.isInt_shape a;show{t,?_};rw[oj a];show Prod.ext c f
def SetI.at(x:SetI prog w h a ns)(e:∀o,h.get? a=some o->f.get? a=some o):SetI prog w f a ns:=
 let ⟨o,c,d,t,b,r⟩:=x
 {o,c,d,t,e o b,r}
theorem SetI.len(x:SetI prog w h a ns):ns.length<scanBound:=by
 let{o,g,i,t,f,b,j,d,e,c,k,_}:=x;grind
def zT{h:Heap}(d:h.get? a=some o)(c:o.data=.set f e t)(b:Array (Int×Value))(t':SetTable):
 (h.update a (Obj.putSet b t')).get? a=some {o with data:=.set b (e+1) t' }:=by
 let:=wu (.putSet b t') d (by rw[putSet_of b t' c];rfl)
 rwa [putSet_of b t' c]at this
theorem K2{g:Bool->Sem Unit}(N:∀(b:Bool) (i:Shared) (F:Unit->Shared->Prop),F () i->wpAny (mZ prog w) A (g b) F E i)(G:s.heap.get? a=some o)(n:o.ExactSet)(H:o.data=.set P O t)(f:ElemsOf (intKind prog w) c.toList)(k:(c.toList.map dD).Perm J)(u:J.Nodup)(p:c.size<scanBound)(D:d.fits c.size=true)(v:Tab (fE w) d)(h:∀Q x,Heap.SameBut a s.heap Q->SetI prog w Q a x->x.Perm J->R (some true) {s with heap:=Q}):
  wpAny (mZ prog w) A (do
   storeSet a c d
   if (!m&&d.tooFull)=true then do
       g (relayAll d c (SetTable.grown c.size)).2.2
       storeSet a (relayAll d c (SetTable.grown c.size)).1 (relayAll d c (SetTable.grown c.size)).2.1
       pure (some true)
    else pure (some true)) R E s:=by
  show wa (wpAny_storeSet_of G H ?_ (fits_of_scanBound p));let l:=zT G H c d;let j:=wo s.heap a (.putSet c d)
  split
  .let B:=relayAll_perm d c (SetTable.grown c.size)
   let q:=relayAll_fits d c (SetTable.grown c.size);let z:=v.relayAll c (SetTable.grown c.size);generalize M:relayAll d c _=L at B q z ⊢;let{e,I,C}:=L
   let K:e.size=c.size:=by rw[<-qj,B.length_eq,qj]
   let r:e.size<scanBound:=by ext
   let y:=(B.map dD).trans k;show wa (N _ _ _ (wa (wpAny_storeSet_of l rfl (wc (h _ _ (j.trans (.update _ a _)) {_,e,_,I,zT l rfl e I,n,rfl,f.perm B,rfl,y.nodup_iff.mpr u,r,q,z} y)) (fits_of_scanBound r))))
  .show wc (h _ _ j {_,c,_,d,l,n,rfl,f,rfl,k.nodup_iff.mpr u,p,D,v} k)
theorem zU(Z:SetI prog w s.heap a ns)(P:ns.length+1<scanBound)(h:∀h' f,Heap.SameBut a s.heap h'->SetI prog w h' a f->f.Perm (if k∈ns then ns else ns++[k])->Q (!decide (k∈ns)) {s with heap:=h' }):
 wpAny (mZ prog w) A (setAddHashed a (.int k u) (hashInt k)) Q E s:=by
 let R:=Z;let{o,F,ep,t,J,I,K,l,z,hnd,hb,X,ht}:=Z;let v:(intKind prog w).is k (.int k u)=true:=intKind_is _ _ _ _;let C:(Value.int k u).scannable=true:=rfl
 let hsz:F.size=ns.length:=by grind
 unfold setAddHashed setAddHashedIn;show we (wa (wh J K X ?_));dsimp only;rw[byScan_of C hb l];simp only[↓reduceIte];unfold setAddByScan;show wa ?_;show wa (wpAny_rule ?_);show wa (wpAny_setScan_of (knd:=intKind prog w) (k:=k) v J K X l ?_)
 cases Y:List.findIdx? (λe=>(intKind prog w).is k e.2) F.toList with
 | some j=>
   dsimp only;let{hj,O,_}:=List.findIdx?_eq_some_iff_getElem.mp Y
   let M:k∈ns:=by
    rw[<-z,<-oj O];grind
   show wc (wc ?_);let:=h s.heap ns (Heap.SameBut.refl a s.heap) R (by grind)
   ext
 | none=>
   dsimp only
   let M:k∉ns:=λM=>by
    rw[<-z]at M;let{e,W,N}:=qy M;let h1:=List.findIdx?_eq_none_iff.mp Y e W;let{t',T}:=K1 l W;rw[T,N]at h1;let h2:(intKind prog w).is k (.int k t')=true:=intKind_is _ _ _ _;grind
   let S:∀(b:Bool) {g:Shared}{G:Unit->Shared->Prop},G () g->wpAny (mZ prog w) A (match b with|true=>rule "set.scan.the-table-gave-way" | false=>pure ()) G E g:=
    λb g G r=>by cases b<;>first|show wc r|show wpAny_rule r
   let c:=layNew_perm t F (hashInt k) (.int k u);let d:=layNew_fits t F (hashInt k) (.int k u);let i:=ht.layNew F (hashInt k) (.int k u);generalize hL:layNew t F (hashInt k) (.int k u)=L at c d i ⊢;let{x,t1,D,V}:=L;dsimp only at c d i ⊢;rw[Array.toList_push]at c;let m:ElemsOf (intKind prog w) x.toList:=(l.push (knd:=intKind prog w) (k:=k) v C).perm c
   let p:x.size<scanBound:=by rw[<-qj,c.length_eq,qz,qj];simp;lia
   let H:(x.toList.map dD).Perm (ns++[k]):=by
    let:=c.map dD;rw[Qk,z]at this;show this
   let q:(ns++[k]).Nodup:=by
    grind
   let n:∀h' f,Heap.SameBut a s.heap h'->SetI prog w h' a f->f.Perm (ns++[k])->Q true {s with heap:=h' }:=by
    grind
   show wa (S _ ?_)
   split
   .show wa ?_
    rw[hashByValue_scannable 8 C];show wc ?_;show K2 ?_ J I K m H q p ?_ ?_ ?_
    .intro b g G r;cases b<;>first|show wc r|show wpAny_rule r
    .split
     .show d
     .show SetTable.fits_plain_off d
    .split
     .show i
     .show i.off
    .intro h' f B y U;dsimp only;show wc (n h' f B y U)
   .show wa (wc ?_)
    simp only[↓reduceIte];show K2 ?_ J I K m H q p d i ?_
    .intro b g G r;cases b<;>first|show wc r|show wpAny_rule r
    .intro h' f B y U;dsimp only;show wc (n h' f B y U)
end
noncomputable def aT:AF->AF->AF
 | a,[]=>a
 | a,k::r=>aT (if k∈a then a else a++[k]) r
theorem K3:∀(r a b:AF),a.Perm b->(aT a r).Perm (aT b r)
 | [],_,_,h=>h
 | k::r,a,b,h=>by
   show K3 r _ _ ?_;symm
section
variable {w:World}{A:Around}{R:Result->Shared->Prop}{I:Addr}{fp wr:List Addr}{G:Array GenState->Array GenState->Prop}{n:Nat}{P:Nat->Value->Prop}{St:Nat->Shared->Prop}
theorem K4(W:WalksS prog w A.in1 I fp wr G n P St)(S:Addr)(y:S∉fp)(g:AF)(Y:g.length=n)(B:∀i v,P i v->∃t,v=.int (g.getD i 0) t)(Z:n+1<scanBound):
 ∀(k i:Nat) (s:Shared) (ns:AF),n-i=k->i<=n->St i s->ns.length<=i->SetI prog w s.heap S ns->
  (∀s' a,Moved (S::wr) G s s'->SetI prog w s'.heap S a->a.Perm (aT ns (g.drop i))->R (.ok (.ret .none)) s')->
  codeAny (mZ prog w) A (.builtin "set.update.loop" {[.ref S,.ref I],[]}) R s:=by
 let u:S∉wr:=λh=>y (W.sub _ h);let c:∀b∈wr,b∈S::wr:=λb Z=>qg _ Z;intro k
 induction k with
 | zero=>
   intro i s ns X V f T D K
   let L:i=n:=by lia
   subst L;show wv F.entry_set_update_loop ?_;show wa (W.done s _ _ f λs' j=>?_);change wpAny _ A.in1 (ret Value.none) _ _ s';show wc (K s' ns (j.mono c) (D.at λo e=>j.heap S _ u e) ?_);rw[List.drop_of_length_le (by lia),aT]
 | succ k U=>
   intro i s ns X V f T D K
   let z:i<n:=by lia
   show wv F.entry_set_update_loop ?_;show wa (W.item i s _ _ z f λv s' O p j=>?_);let{t,rfl}:=B i v O;let E:SetI prog w s'.heap S ns:=D.at λo e=>j.heap S _ u e;generalize Q:g.getD i 0=x
   let d:g.drop i=x::g.drop (i+1):=by
    rw[List.drop_eq_getElem_cons (by ext),<-Q,List.getD_eq_getElem?_getD,qr (by ext)];rfl
   show wa (we ?_);unfold setAdd;show we ?_;show wa ((intKind prog w).pyHash (k:=x) (intKind_is _ _ _ _) ?_);show zU (s:={ s' with toks:=s'.toks+1}) E (by lia) λh' a C M N=>?_
   let J:a.length<=i+1:=by
    rw[N.length_eq];grind
   show wc {jb F.plain_set_update_loop _,U (i+1) _ a (by ext<;>lia) z (W.frame _ s' _ _ p (Nat.le_succ _) λb Z o e=>?_) J M λH m q r l=>?_}
   .rw[C.2 b (λh:b=S=>y (by grind))];show e
   .show K H m (Moved.trans W.gtrans ((j.mono c).then_heap (Nat.le_succ _) λb o Z e=>?_) q) r ?_
    .rw[C.2 b (λh:b=S=>Z (by grind))];show e
    .rw[d,aT]
     show l.trans (K3 _ _ _ N)
end
section
variable {w:World}{A:Around}{E:AA}
def RN:isSubtype (.type "tuple") (.type "set")=pure false:=by kernel_rfl
def RP:isSubtype (.type "tuple") (.type "frozenset")=pure false:=by kernel_rfl
theorem zV(k:TypeCalled T l h)(G:checkTypeCall T {g,[]}=pure ())(j:entryFor table h=some H)(o:codeAny (mZ prog w) A.in1 (.call (.builtin l) {.type T::g,[]}) (wants Q₁ E) s)(m:∀d b,Q₁ d b->b.TypeIs d T/\(∀(K:Around) (L:AA) (z:Unit->Shared->Prop),z () b->wpAny (mZ prog w) K (checkBuiltinCall h {d::g,[]}) z L b)/\
  wpAny (mZ prog w) A.in1.in1 (H {d::g,[]})
   (λv s'=>match v with|.done f=>wants (λr a=>r=.none/\Q d a) E (.ok f) s'|.again C=>C.quiet=true/\codeAny (mZ prog w) A.in1 C (wants (λr a=>r=.none/\Q d a) E) s')
   (λe s'=>wants (λr a=>r=.none/\Q d a) E (.error e) s') b):
 wpAny (mZ prog w) A (call (.type T) g) Q E s:=by
 let{c,P,B}:=k.mro;let t:=k.made;let D:=k.sub;show wpAny_call (codeAny_of_tree ?_);show wc {Code.quiet_builtin _ (by decide +kernel),wv F.entry_type_call ?_};let R:=k.notType;let O:=k.canCreate
 repeat (any_goals (first|assumption|wp_step))
 show codeAny_mono o λr b u=>?_
 cases r with
 | error e=>show u
 | ok q=>
   cases q with
   | ret d=>
     let{N,y,x}:=m _ _ u;let I:=k.init.lookup;let J:=k.init.bind d
     repeat (any_goals (first|assumption|wp_step))
     show codeAny_mono (codeAny_call_builtin k.init.plain j (y _ _ _ x)) λp a i=>?_
     cases p with
     | error e=>show i
     | ok n=>
       cases n with
       | ret r=>
         let{rfl,M}:=i
         repeat (any_goals (first|assumption|wp_step))
       | _=>ext
   | _=>show u.elim
abbrev bN(w:World):Obj:={cls:=.type "set",dict:=none,data:=.set #[] 0 (.fresh 0 0 (!fE w))}
def zW(a:Value)(h:Q₁ (.ref (~~~s)) {s with heap:=s.heap.push (bN w)}):
 codeAny (mZ prog w) A (.call (.builtin "set.__new__") {[.type "set",a],[]}) (wants Q₁ E) s:=by
 show codeAny_of_tree (wa (wpAny_of_eq (F.newCall_set_1 a) (wc {jb F.plain_set_new _,wv F.entry_set_new ?_})));let b:=sub_set_self
 wp_walk
 show wpAny_askSetting (wc ?_);show wa (wpAny_alloc (wc ?_));show wc h
theorem K5{l:Addr}{a:Array Value}{u:AF}{Q:AA}(Y:A.handled=none)(X:s.heap.IsList l a)(O:IntsAre a.toList u)(hb:a.size+1<scanBound)(h:∀(h':Heap) (tk:Nat) ns,SetI prog w h' (~~~s) ns->ns.Perm (aT [] u)->
  (∀b o,b< ~~~s->s.heap.get? b=some o->h'.get? b=some o)->Q (.ref (~~~s)) {s with heap:=h',toks:=tk}):
 wpAny (mZ prog w) A (call (.type "set") [.ref l]) Q E s:=by
 show zV (Q₁:=λg d=>g=.ref (~~~s)/\d={s with heap:=s.heap.push (bN w)}) F.called_set (F.typeCall_set_1 _) F.entry_set_init (zW _ {(rfl),rfl}) ?_;rintro g d ⟨rfl,rfl⟩;let M:(s.heap.push (bN w)).get? (~~~s)=some (bN w):=qp _ rfl
 let R:Shared.TypeIs {s with heap:=s.heap.push (bN w)} (.ref (~~~s)) "set":={_,M,rfl}
 show{R,λA' E' Q' Z=>check_set_init_1 R Z,?_};let{U,m,k,T,r}:=X;let{P,f,C,c}:=U;simp only at k r;subst k;subst r;let q:(s.heap.push (bN w)).get? l=some {cls:=.type "list",dict:=f,data:=.seq a T,slots:=c}:=qe _ m;let N:=F.sub_list_set;let S:=F.sub_list_frozenset
 let hne:(Value.type "list"==Value.type "dict")=false:=by decide
 let y:(s.heap.push (bN w)).IsList l a:={_,q,rfl,T,rfl}
 unfold Builtin.«set.__init__» noKeywords Builtin.Frozenset.updateFrom;generalize G:pyIter=PI
 wp_walk
 subst G;show wpAny_pyIter_list y ?_;show wa (wpAny_runValue ?_);let W:l< ~~~s:=ql m
 let D:A.in1.in1.in1.handled=none:=by simp[Y]
 let p:l≠(s.heap.push (bN w)).objs.size:=by
  rw[wt];grind
 let J:(~~~s)∉[(s.heap.push (bN w)).objs.size,l]:=by
  rw[wt];grind
 let x:u.length=a.size:=by let:=IntsAre.length O;grind
 let n:∀(i:Nat) (v:Value),a[i]?=some v->∃t,v=.int (u.getD i 0) t:=λi v hv=>
  IntsAre.int_at O i v (by grind)
 show K4 ((Walks.list D _ l p a).toS) (~~~s) J u x n hb (a.size-0) 0 _ [] (by lia) (Qh _)
  {{_,qp _ rfl,rfl,rfl},y.push _} (qv _) ?hS0 ?hR
 case hS0=>
  let j:((s.heap.push (bN w)).push {cls:=.type "list_iterator",data:=.fields #[.ref l,.int 0 0]}).get? (~~~s)=some (bN w):=qe _ M;show{bN w,#[],0,_,j,{(rfl),rfl,rfl},rfl,λe he=>by simp at he,rfl,.nil,by decide,rfl,.fresh}
 case hR=>
  intro s' L z B H;let{h',g',d',K,I}:=s';let eg:g'=s.gens:=z.gens;let ed:d'=s.drawn:=z.drawn;let V:I=s.os:=z.os;subst eg;subst ed;subst V;change wpAny _ _ _ _ _ _;show wc ?_;change wpAny _ _ (ret Value.none) _ _ _;show wc {rfl,h h' K L B H λb o hb e=>?_};let hb1:b≠(~~~s):=qm hb
  let hb2:b≠(s.heap.push (bN w)).objs.size:=by
   rw[wt];grind
  show z.heap b o (by grind) (qe _ (qe _ e))
theorem RQ{l:Addr}{a:Array Value}{p:AF}{Q:AA}(Y:A.handled=none)(X:s.heap.IsTuple l a)(O:IntsAre a.toList p)(hb:a.size+1<scanBound)(h:∀(h':Heap) (tk:Nat) ns,SetI prog w h' (~~~s) ns->ns.Perm (aT [] p)->
  (∀b o,b< ~~~s->s.heap.get? b=some o->h'.get? b=some o)->Q (.ref (~~~s)) {s with heap:=h',toks:=tk}):
 wpAny (mZ prog w) A (call (.type "set") [.ref l]) Q E s:=by
 show zV (Q₁:=λj f=>j=.ref (~~~s)/\f={s with heap:=s.heap.push (bN w)}) F.called_set (F.typeCall_set_1 _) F.entry_set_init (zW _ {(rfl),rfl}) ?_;rintro j f ⟨rfl,rfl⟩;let N:(s.heap.push (bN w)).get? (~~~s)=some (bN w):=qp _ rfl
 let R:Shared.TypeIs {s with heap:=s.heap.push (bN w)} (.ref (~~~s)) "set":={_,N,rfl}
 show{R,λA' E' Q' Z=>check_set_init_1 R Z,?_};let{U,m,k,G,x}:=X;let{P,g,K,c}:=U;simp only at k x;subst k;subst x;let d:(s.heap.push (bN w)).get? l=some {cls:=.type "tuple",dict:=g,data:=.seq a G,slots:=c}:=qe _ m;let S:=RN;let T:=RP
 let hne:(Value.type "tuple"==Value.type "dict")=false:=by decide
 let J:(s.heap.push (bN w)).IsTuple l a:={_,d,rfl,G,rfl}
 unfold Builtin.«set.__init__» noKeywords Builtin.Frozenset.updateFrom;generalize C:pyIter=PI
 wp_walk
 subst C;show wpAny_pyIter_tuple J ?_;show wa (wpAny_runValue ?_);let W:l< ~~~s:=ql m
 let D:A.in1.in1.in1.handled=none:=by simp[Y]
 let r:l≠(s.heap.push (bN w)).objs.size:=by
  rw[wt];symm
 let L:(~~~s)∉[(s.heap.push (bN w)).objs.size,l]:=by
  rw[wt];symm
 let u:p.length=a.size:=by let:=IntsAre.length O;symm
 let n:∀(i:Nat) (v:Value),a[i]?=some v->∃t,v=.int (p.getD i 0) t:=λi v hv=>
  IntsAre.int_at O i v ⋯
 show K4 ((Walks.tuple D _ l r a).toS) (~~~s) L p u n hb (a.size-0) 0 _ [] ∅ (Qh _)
  {{_,qp _ rfl,rfl,rfl},({_,qe _ d,rfl,G,rfl})} (qv _) ?hS0 ?hR
 case hS0=>
  let q:((s.heap.push (bN w)).push {cls:=.type "tuple_iterator",data:=.fields #[.ref l,.int 0 0]}).get? (~~~s)=some (bN w):=qe _ N;show{bN w,#[],0,_,q,{(rfl),rfl,rfl},rfl,λe he=>by simp at he,rfl,.nil,by decide,rfl,.fresh}
 case hR=>
  intro s' M y z H;let{h',g',d',I,B}:=s';let eg:g'=s.gens:=y.gens;let ed:d'=s.drawn:=y.drawn;let V:B=s.os:=y.os;subst eg;subst ed;subst V;change wpAny _ _ _ _ _ _;show wc ?_;change wpAny _ _ (ret Value.none) _ _ _;show wc {rfl,h h' I M z H λb o hb e=>?_};let hb1:b≠(~~~s):=qm hb
  let hb2:b≠(s.heap.push (bN w)).objs.size:=by
   rw[wt];symm
  show y.heap b o ⋯ (qe _ (qe _ e))
end
theorem K6{a:Type}{l:List a}(h:i<l.length):(l[i]::l.eraseIdx i).Perm l:=by
 rw[List.eraseIdx_eq_take_drop_succ]
 let e:l=l.take i++l[i]::l.drop (i+1):=by
  ext
 conv=>rhs;rw[e]
 show List.perm_middle.symm
theorem K7(c:Nat->Nat):∀(b k:Nat) (a:List e) (f:Array e),a.length=b->(pickOrder.go c b k a f).toList.Perm (f.toList++a)
 | 0,k,a,f,h=>by
   rw[pickOrder.go]
   ext
 | b+1,k,a,f,h=>by
   rw[pickOrder.go];let d:c k%a.length<_:=Nat.mod_lt _ (by ext);rw[qr d];show(K7 c b _ _ _ (by grind)).trans ?_;rw[Array.toList_push,ja];show(K6 d).append_left _
def RS(a:Nat->Nat)(xs:Array b):(pickOrder a xs).toList.Perm xs.toList:=by
 let:=K7 a xs.size 0 xs.toList #[] nofun;simpa [pickOrder]using this
section
variable {w:World}{A:Around}{E:AA}
theorem RT(a:0<n)(h:∀i e,i<n->Q i {s with drawn:=e}):wpAny (mZ prog w) A (choose d n) Q E s:=by
 intro c p b;show{by lia,h _ _ (Nat.mod_lt _ a)}
theorem K8:∀(n:Nat) (xs:List c) (s:Shared) (Q:List c->Shared->Prop),xs.length=n->(∀ys f,ys.Perm xs->Q ys {s with drawn:=f})->wpAny (mZ prog w) A (drawOrder n xs) Q E s
 | 0,xs,s,Q,h,a=>by
   rw[List.length_eq_zero_iff.mp h]at a ⊢;show wc (a [] _ .nil)
 | n+1,[],s,Q,h,a=>by simp at h
 | n+1,x::xs,s,Q,h,a=>by
   show wa (RT nofun λi f b=>?_);rw[qr b];show wa (K8 n _ _ _ (by grind) λys d e=>wc (a _ d ((e.cons _).trans (K6 b))))
end
def om:Manifest.owners.lookup (String.ofList ['r','o','t','a','r','e','t','i','_','t','e','s'].reverse)=some Manifest.sig_set_iterator:=by kernel_rfl
theorem slot_si_next:Slot "set_iterator" "__next__" "set_iterator.__next__":=
 .of (owner:="set_iterator") (n:="__next__") (by kernel_rfl) (by decide +kernel) (by decide +kernel) (by decide +kernel)
  (by first|show .inl (by decide +kernel)|show .inr (by decide +kernel)) (by kernel_rfl)
def tZ:entryFor table "set_iterator.__next__"=some Builtin.«set_iterator.__next__»:=entryFor_of_tree (by kernel_rfl)
def t5(a:Value):argsOk "set_iterator.__next__" {[a],[]}:=by
 kernel_rfl
theorem K9:Slot "set_iterator" "__iter__" "set_iterator.__iter__":=
 .of (owner:="set_iterator") (n:="__iter__") (by kernel_rfl) (by decide +kernel) (by decide +kernel) (by decide +kernel)
  (by first|show .inl (by decide +kernel)|show .inr (by decide +kernel)) (by kernel_rfl)
def RU(a:Value):argsOk "set_iterator.__iter__" {[a],[]}:=by
 kernel_rfl
theorem RV:entryFor table "set_iterator.__iter__"=some Builtin.«dict_keyiterator.__iter__»:=
 entryFor_alias (id':="dict_keyiterator.__iter__") (by kernel_rfl) (by first|rfl|decide +kernel|(unfold String.splitOn)) (by decide +kernel) (by kernel_rfl)
theorem RX:entryFor table "set.__iter__"=some Builtin.«frozenset.__iter__»:=
 entryFor_alias (id':="frozenset.__iter__") (by kernel_rfl) (by first|rfl|decide +kernel|(unfold String.splitOn)) (by decide +kernel) (by kernel_rfl)
def SIt(h:Heap)(I:Addr)(first:Value)(i:Nat)(a:Addr)(n b:Nat):Prop:=∃o,h.get? I=some o/\o.cls=.type "set_iterator"/\o.data=.fields #[first,.int i 0,.ref a,.int n 0,.int b 0]
def SAt(h:Heap)(a:Addr)(b:Array (Int×Value))(c:Nat)(t:SetTable):Prop:=∃o,h.get? a=some o/\o.ExactSet/\o.data=.set b c t/\t.fits b.size=true
def SIt.at(x:SIt h I f i a n c)(e:∀o,h.get? I=some o->d.get? I=some o):SIt d I f i a n c:=let ⟨o,b,r⟩:=x;{o,e o b,r}
def SAt.at(x:SAt h a c d t)(e:∀o,h.get? a=some o->f.get? a=some o):SAt f a c d t:=let ⟨o,b,r⟩:=x;{o,e o b,r}
def SIt.typeIs{s:Shared}(x:SIt s.heap I f i a n d):s.TypeIs (.ref I) "set_iterator":=let ⟨o,b,c,_⟩:=x;{(o),b,c}
section
variable {w:World}{A:Around}{E:AA}
def K_(b:SIt s.heap I f i a n c)(h:Q (.ref I) s):wpAny (mZ prog w) A (pyIter (.ref I)) Q E s:=wpAny_pyIter_slot b.typeIs K9 (wf K9 b.typeIs RV (wc {_,rfl,"set_iterator",_,b.typeIs,slot_si_next.lookup,h}) (RU _))
theorem zX{m i f nx:Nat}(c:SIt s.heap I (.int m 0) i a n.size f)(q:SAt s.heap a n f t)(y:∀(u:Around) (l:Option (Value×Nat)->Shared->Prop) (z:AA),l (some (x,nx)) s->wpAny (mZ prog w) u (setNext a m i f) l z s)(r:∀C,SIt C I (.int nx 0) (i+1) a n.size f->Heap.SameBut I s.heap C->Q (some x) {s with heap:=C}):wpAny (mZ prog w) A (pyNext (.ref I)) Q E s:=by
 let{o,k,v,e}:=id c;let{B,g,p,h,j}:=q;show wa (je (wpAny_callSpecial?_slot c.typeIs slot_si_next (wf slot_si_next c.typeIs tZ ?_ (t5 _))));change wpAny _ _ (fieldsOf _>>=_) _ _ s;show wa (wpAny_fieldsOf k e (wa (wpAny_setEntries_of g h j ?_)));rw[if_neg nofun];show wa (y _ _ _ (wa (wpAny_setField k e nofun ?_)));let d:=wu (.mapFields (·.setIfInBounds 0 (rawInt nx))) k (Obj.isFreed_of_fields (jd e _));let b:=jd e (·.setIfInBounds 0 (rawInt nx))
 show wa (wpAny_setField d b nofun (wc ⟨x,rfl,wc (r _ (⟨_,wu _ d (Obj.isFreed_of_fields (jd b _)),(Obj.cls_mapFields ..).trans ((Obj.cls_mapFields ..).trans v),by
  rw[jd b];simp[rawInt]⟩) ((wo ..).trans (.update ..)))⟩))
theorem zY{j i d:Nat}(l:A.handled=none)(b:SIt s.heap I (.int j 0) i a r.size d)(v:SAt s.heap a r d t)(n:∀(q:Around) (g:Option (Value×Nat)->Shared->Prop) (u:AA),g none s->wpAny (mZ prog w) q (setNext a j i d) g u s)(p:∀z,Heap.ExtBut I s.heap z->Q none {s with heap:=z}):wpAny (mZ prog w) A (pyNext (.ref I)) Q E s:=by
 let{o,m,x,k}:=id b;let{y,c,h,e,f}:=v;show wa (je (wpAny_callSpecial?_slot b.typeIs slot_si_next (wf slot_si_next b.typeIs tZ ?_ (t5 _))));change wpAny _ _ (fieldsOf _>>=_) _ _ s;show wa (wpAny_fieldsOf m k (wa (wpAny_setEntries_of c e f ?_)));rw[if_neg nofun];show wa (n _ _ _ (wa (wpAny_setField m k nofun (wa (wa (m:=firstArgMember _ _) (wpAny_of_eq (a:=.none) (by first|rfl|(rfl)) (wg (wa (wpAny_handled ?_)) (by size_fits))))))))
 first|rw[l]|rw[l]
 show wa (wc (wpAny_throw ?_));show wa (wpAny_isInstance {_,qp _ rfl,rfl} isSubtype_stop (wc (p _ (((wo ..).extBut.push _).push _))))
theorem RY{i j l:Nat}(b:SIt s.heap I (.ref T) i a k.size l)(v:SAt s.heap a k l t)(y:s.heap.IsTuple T F)(x:F[i]?=some (.int j tk))(u:k[j]?=some e)(r:∀D,SIt D I (.ref T) (i+1) a k.size l->Heap.SameBut I s.heap D->Q (some e.2) {s with heap:=D}):wpAny (mZ prog w) A (pyNext (.ref I)) Q E s:=by
 let{o,n,q,g}:=id b;let{B,c,p,f,d}:=v;let{z,h,_,C,m}:=y;show wa (je (wpAny_callSpecial?_slot b.typeIs slot_si_next (wf slot_si_next b.typeIs tZ ?_ (t5 _))));change wpAny _ _ (fieldsOf _>>=_) _ _ s;show wa (wpAny_fieldsOf n g (wa (wpAny_setEntries_of c f d ?_)));rw[if_neg nofun];show wa (wpAny_seqItems h m ?_);simp [x];show wa (wa (wh c f d ?_));dsimp only;rw[if_neg nofun,u]
 show wc (wa (wpAny_setField n g nofun (wc ⟨e.2,rfl,wc (r _ (⟨_,wu _ n (Obj.isFreed_of_fields (jd g _)),(Obj.cls_mapFields ..).trans q,by
  rw[jd g];simp[rawInt]⟩) (.update ..))⟩)))
theorem RZ(n:A.handled=none)(b:SIt s.heap I (.ref T) i a q.size u)(v:SAt s.heap a q u t)(p:s.heap.IsTuple T F)(x:F[i]?=none)(r:∀D,Heap.ExtBut I s.heap D->Q none {s with heap:=D}):wpAny (mZ prog w) A (pyNext (.ref I)) Q E s:=by
 let{o,l,C,c}:=id b;let{B,g,m,k,h}:=v;let{y,d,_,z,j}:=p;show wa (je (wpAny_callSpecial?_slot b.typeIs slot_si_next (wf slot_si_next b.typeIs tZ ?_ (t5 _))));change wpAny _ _ (fieldsOf _>>=_) _ _ s;show wa (wpAny_fieldsOf l c ?_);show wa (wpAny_setEntries_of g k h ?_);rw[if_neg nofun];show wa (wpAny_seqItems d j ?_);simp [x];show wa (wpAny_setField l c nofun ?_);let f:=wu (.mapFields (·.setIfInBounds 0 (rawInt 0))) l (Obj.isFreed_of_fields (jd c _));let e:=jd c (·.setIfInBounds 0 (rawInt 0));show wa (wpAny_setField f e nofun ?_);show wa ?_;simp [newExc];show wa (m:=firstArgMember _ _) (wpAny_of_eq (a:=.none) (by first|rfl|(rfl)) ?_);show wg ?_ (by size_fits);show wa (wpAny_handled ?_)
 first|rw[n]|rw[n]
 show wa (wc (wpAny_throw ?_));show wa (wpAny_isInstance {_,qp _ rfl,rfl} isSubtype_stop ?_);show wc (r _ ((((wo ..).trans (.update ..)).extBut.push _).push _))
end
section
variable {w:World}{A:Around}{E:AA}
def t6(h:Q (fE w) s):wpAny (mZ prog w) A setsByText Q E s:=wa (wpAny_askSetting (wc h))
def La(n:fE w=true)(j:SAt s.heap a k g t)(h:Q (((pickOrder (w.params.setOrder a g) k)[i]?).map λe=>(e.2,l)) s):wpAny (mZ prog w) A (setNext a l i g) Q E s:=by
 let{m,c,f,d,b}:=j;show wa (wh c d b (wa (t6 ?_)));rw[if_pos n,if_neg nofun];show wa (wa (wh c d b (wa (t6 ?_))));rw[if_pos n];show wa (wpAny_askSetting (wc (wc h)))
theorem Lb(hb:fE w=false)(n:(!t.plain&&decide (f.size > 1))=false)(p:t.led=true)(o:SAt s.heap a f m t)(k:SetTable.below t.place l=i)(h:Q (match f[i]?,t.place[i]? with|some (_,x),some j=>some (x,j+1)|_,_=>none) s):wpAny (mZ prog w) A (setNext a l g m) Q E s:=by
 let{q,b,e,c,d}:=o;show wa (wh b c d (wa (t6 ?_)));rw[if_neg (by rw[hb];show qi)];change wpAny _ _ (if (_&&_)=true then _ else _) _ _ _;rw[if_neg (by rw[n];show qi)];change wpAny _ _ ((if _ then _ else _)>>=_) _ _ _;rw[if_neg (by rw[p];simp),k];show wc h
noncomputable def gY(a:Array Nat):Nat->Nat
 | 0=>0
 | i+1=>a.getD i 0+1
theorem Lc(g:cS q)(m:i<=q.size):SetTable.below q (gY q i)=i:=by
 let{n,l,f}:=KY g _;generalize o:SetTable.below q (gY q i)=p at n l f
 let b:∀(i k:Nat) _ (a:k<q.size),i<k->q[i]<q[k]:=λi k m a h=>by
  let:=List.pairwise_iff_getElem.mp g i k ⋯ ⋯ h;symm
 let r:∀k _,k<p->q[k]<gY q i:=λk a d=>l _ (by
  rw[List.mem_iff_getElem]
  ext<;>ac_nf)
 let s:∀k _,p<=k->gY q i<=q[k]:=λk a d=>f _ (by
  rw[List.mem_iff_getElem]
  show⟨k-p,by simp;symm,by
   ext⟩)
 let h+h+h:=Nat.lt_trichotomy p i
 .let a:p<q.size:=by ac_nf
  let:=s p a (qv _)
  cases i with
  | zero=>ac_nf
  | succ j=>
    let c:j<q.size:=by ac_nf
    simp only[gY,Array.getD,c,dite_true]at this;by_cases e:p=j
    .subst e;show absurd this nofun
    .let:=b p j a c ∅
     simp at *;ac_nf
 .show h
 .let a:i<q.size:=by symm
  let:=r i a h
  cases i with
  | zero=>simp[gY]at this
  | succ j=>
    let c:j<q.size:=by ac_nf
    let t:=b j (j+1) c a ∅;simp only[gY,Array.getD,dite_true]at this;simp at *;ac_nf
def jN(a:AF)(i:Nat)(v:Value):Prop:=∃k t,a[i]?=some k/\v=.int k t
theorem zZ{b:Array (Int×Value)}(a:ElemsOf (intKind prog w) b.toList)(c:e∈b.toList):∃t,e.2=.int (dD e) t:=by
 let{t,d}:=K1 a c;grind
theorem R1(hS:SetI prog w s.heap a ns)(hQ:∀(h':Heap) (d':Drawn) (I:Addr) (fp:List Addr) (f:AF) (St:Nat->Heap->Prop),(∀b o,s.heap.get? b=some o->h'.get? b=some o)->(~~~s)<=I->I∈fp->
  (∀b∈fp,b<h'.objs.size/\(b=a\/(~~~s)<=b))->f.Perm ns->(∀y:Around,y.handled=none->Walks prog w y I fp [I] ns.length (jN f) St)->St 0 h'->
  (∀(i:Nat) (s':Shared),St i s'.heap->s'.TypeIs (.ref I) "set_iterator")->Q (.ref I) {s with heap:=h',drawn:=d' }):
 wpAny (mZ prog w) A (pyIter (.ref a)) Q E s:=by
 let{o,d,q,t,N,T,X,V,hns,hnd,hb,J,ht}:=hS
 let hT:s.TypeIs (.ref a) "set":={(o),N,T.1}
 let L:ns.length=d.size:=by grind
 let hlt:a< ~~~s:=ql N
 let hsa:SAt s.heap a d q t:={(o),N,T,X,J}
 let hps:t.place.size=d.size:=by
  simp only[SetTable.fits,Qe,beq_iff_eq]at J;show J.1
 show wpAny_pyIter_slot hT F.slot_set_iter (wf F.slot_set_iter hT RX ?_ (F.args_set_iter_1 _));unfold Builtin.«frozenset.__iter__»;change wpAny _ _ (Builtin.Frozenset.sizeOf a>>=_) _ _ s;unfold Builtin.Frozenset.sizeOf;show wa (wa (wpAny_setEntries_of N X J (wc ?_)));show wa ?_;unfold setDrawn;show wa (wh N X J ?_);dsimp only;show wa (t6 (wc ?_))
 let plain:∀(f:AF) (st:Nat->Nat) (xv:Nat->Value),f.Perm ns->st 0=0->(∀i,i<d.size->jN f i (xv i))->
  (∀(s':Shared) (y:Around) (i:Nat) (n:AA),SAt s'.heap a d q t->i<d.size->∀l:Option (Value×Nat)->Shared->Prop,l (some (xv i,st (i+1))) s'->wpAny (mZ prog w) y (setNext a (st i) i q) l n s')->
  (∀(s':Shared) (y:Around) (n:AA),SAt s'.heap a d q t->∀l:Option (Value×Nat)->Shared->Prop,l none s'->wpAny (mZ prog w) y (setNext a (st d.size) d.size q) l n s')->
  wpAny (mZ prog w) A.in1 (do
   let x <-newFields "set_iterator" [rawInt 0,rawInt 0,.ref a,rawInt d.size,rawInt (<-setEpoch a)]
   ret x) (λO s'=>∃v,O=.done (.ret v)/\∃T' r,s'.TypeIs v T'/\typeLookup (.type T') "__next__"=pure (some r)/\Q v s') E s:=by
  intro f st xv hp h0 hx p hn;show wa (wpAny_setEpoch_of N X J ?_);show wa (wg ?_);show wc {_,rfl,"set_iterator",_,{_,qp _ rfl,rfl},slot_si_next.lookup,?_}
  let key:=hQ (s.heap.push {cls:=.type "set_iterator",data:=.fields #[rawInt 0,rawInt 0,.ref a,rawInt d.size,rawInt q]}) s.drawn (~~~s) [~~~s,a] f
   (λi h=>SIt h (~~~s) (.int (st i) 0) i a d.size q/\SAt h a d q t) (λb o e=>qe _ e) (qv _) nofun (λb hb=>by
    rw[wt]
    grind) hp (λy U=>{
    sub:=λb hb=>by grind
    frame:=λi h h' c Y=>{c.1.at λo e=>Y _ nofun o e,c.2.at λo e=>Y a nofun o e}
    item:=λi s' l n hlt' c g=>by
     show zX c.1 c.2 (x:=xv i) (nx:=st (i+1)) (λA2 Q2 E2 G=>p s' A2 i E2 c.2 (by ext) Q2 G) λh' D m=>?_;show g _ h' s'.toks (hx i (by ext)) {D,c.2.at λo e=>m.extBut a o (λz=>by grind) e} λb o hb e=>m.extBut b o (λz=>hb (by simp[z])) e
    done:=λs' l n c g=>by
     rw[L]at c;show zY U c.1 c.2 (λA2 Q2 E2 G=>hn s' A2 E2 c.2 Q2 G) λh' R=>g h' s'.toks λb o hb e=>R b o (λz=>hb (by simp[z])) e
    self:=λi s' l n c g=>K_ c.1 g}) {{_,qp _ rfl,rfl,by rw[h0];rfl},hsa.at λo e=>qe _ e} (λi s' c=>c.1.typeIs)
  show key
 let hdr:∀b:Bool,(!t.plain&&decide (d.size > 1))=b->wpAny (mZ prog w) A.in1 (if (!fE w&&b)=true then do
  let first <-newTuple ((<-drawOrder d.size (List.range d.size)).map fun(i:Nat)=>rawInt i)
  let x <-newFields "set_iterator" [first,rawInt 0,.ref a,rawInt d.size,rawInt (<-setEpoch a)]
  ret x
  else do
   let x <-newFields "set_iterator" [rawInt 0,rawInt 0,.ref a,rawInt d.size,rawInt (<-setEpoch a)]
   ret x) (λO s'=>∃v,O=.done (.ret v)/\∃T' r,s'.TypeIs v T'/\typeLookup (.type T') "__next__"=pure (some r)/\Q v s') E s:=by
  intro b P
  cases C:fE w with
  | true=>
    rw[if_neg nofun];generalize hor:pickOrder (w.params.setOrder a q) d=k
    let hpm:k.toList.Perm d.toList:=by rw[<-hor];show RS _ _
    let hos:k.size=d.size:=by
     let:=hpm.length_eq;grind
    show plain (k.toList.map dD) (λ_=>0) (λi=>(k.getD i (0,.none)).2) (by grind) rfl (λi p=>?_) (λs' y i n M p l G=>?_) (λs' y n M l G=>?_)
    .let Z:i<k.size:=by ext
     let{u,hu}:=zZ V (hpm.mem_iff.mp (show k[i]∈k.toList by simp));show{dD k[i],u,by simp[Z],?_}
     ext
    .let Z:i<k.size:=by ext
     show La C M ?_
     ext
    .show La C M ?_
     ext
  | false=>
    let K:=ht.1 C
    cases b with
    | false=>
      rw[if_neg nofun]
      let B:cS t.place:=by
       cases hpl:t.plain with
       | true=>show ht.2 hpl
       | false=>
         rw[hpl]at P
         let h1:t.place.toList.length<=1:=by
          ext
         unfold cS
         match t.place.toList,h1 with
         | [],_=>show .nil
         | [x],_=>simp
      show plain ns (gY t.place) (λi=>(d.getD i (0,.none)).2) .rfl rfl (λi p=>?_) (λs' y i n M p l G=>?_) (λs' y n M l G=>?_)
      .let{u,hu}:=zZ V (show d[i]∈d.toList by simp)
       show{dD d[i],u,by grind,?_}
       ext
      .show Lb C P K M (Lc B (by lia)) ?_
       let hi2:i<t.place.size:=by ext
       rw[Array.getElem?_eq_getElem p,Array.getElem?_eq_getElem hi2];simp only[Array.getD,p,hi2,dite_true,gY]at G;show G
      .show Lb C P K M (Lc B (by ext)) ?_
       ext
    | true=>
      rw[if_pos nofun];show wa (K8 d.size (List.range d.size) s _ nofun λys d' hp=>?_);simp only[newTuple]
      let hyl:ys.length=d.size:=by rw[hp.length_eq];simp
      show wa (wg ?_ (by change(ys.map fun(i:Nat)=>rawInt i).toArray.size<=sizeLine;rw[qk,qf,hyl];show fits_of_scanBound hb));let S:((s.heap.push {cls:=.type "tuple",data:=.seq (ys.map fun(i:Nat)=>rawInt i).toArray})).get? a=some o:=qe _ N;show wa (wpAny_setEpoch_of (s:={s with heap:=s.heap.push {cls:=.type "tuple",data:=.seq (ys.map fun(i:Nat)=>rawInt i).toArray},drawn:=d' }) S X J ?_);show wa (wg ?_);show wc {_,rfl,"set_iterator",_,{_,qp _ rfl,rfl},slot_si_next.lookup,?_}
      let hmem:∀j∈ys,j<d.size:=λj hj=>by grind
      let hvp:(ys.map λj=>dD (d.getD j (0,.none))).Perm ns:=by
       rw[<-hns];show(hp.map _).trans ?_
       let:(List.range d.size).map (λj=>dD (d.getD j (0,.none)))=d.toList.map dD:=by
        show List.ext_getElem nofun λi h1 h2=>?_
        let p:i<d.size:=by(simp at*;lia)
        simp[Array.getD,p]
       rw[this]
      generalize hH:s.heap.push {cls:=.type "tuple",data:=.seq (ys.map fun(i:Nat)=>rawInt i).toArray}=H at S ⊢
      let hHs:H.objs.size= ~~~s+1:=by rw[<-hH,wt]
      let hT0:H.IsTuple (~~~s) (ys.map fun(i:Nat)=>rawInt i).toArray:={_,by rw[<-hH];show qp _ rfl,rfl,_,rfl}
      let W:∀b o,s.heap.get? b=some o->H.get? b=some o:=λb o e=>by rw[<-hH];show qe _ e
      let haI:a≠H.objs.size:=λz=>by grind
      let hTI:(~~~s)≠H.objs.size:=by grind
      show hQ (H.push {cls:=.type "set_iterator",data:=.fields #[.ref (~~~s),rawInt 0,.ref a,rawInt d.size,rawInt q]}) d' H.objs.size [H.objs.size,a,~~~s] (ys.map λj=>dD (d.getD j (0,.none)))
       (λi h=>SIt h H.objs.size (.ref (~~~s)) i a d.size q/\SAt h a d q t/\h.IsTuple (~~~s) (ys.map fun(i:Nat)=>rawInt i).toArray) (λb o e=>qe _ (W b o e)) (by lia) nofun (λb hb=>by
        rw[wt]
        (simp at*;lia)) hvp (λy U=>{
        sub:=λb hb=>by grind
        frame:=λi h h' c Y=>{c.1.at λo e=>Y _ nofun o e,c.2.1.at λo e=>Y a nofun o e,c.2.2.at λo e=>Y _ nofun o e}
        item:=λi s' l n hlt' c g=>by
         let p:i<ys.length:=by lia
         let hj:=hmem ys[i] (List.getElem_mem p);show RY c.1 c.2.1 c.2.2 (j:=ys[i]) (tk:=0) (e:=d[ys[i]]) (by simp[p,rawInt]) (Array.getElem?_eq_getElem hj) λh' D m=>?_;show g _ h' s'.toks ?_ {D,c.2.1.at λo e=>m.extBut a o haI e,c.2.2.at λo e=>m.extBut _ o hTI e} λb o hb e=>m.extBut b o (λz=>hb (by simp[z])) e;let{u,hu}:=zZ V (show d[ys[i]]∈d.toList by simp);show{dD d[ys[i]],u,by simp[p,Array.getD,hj],hu}
        done:=λs' l n c g=>by
         rw[L]at c;show RZ U c.1 c.2.1 c.2.2 (by simp[hyl]) λh' R=>g h' s'.toks λb o hb e=>R b o (λz=>hb (by simp[z])) e
        self:=λi s' l n c g=>K_ c.1 g}) {{_,qp _ rfl,rfl,rfl},{o,qe _ S,T,X,J},hT0.push _} (λi s' c=>c.1.typeIs)
 show hdr _ rfl
end
inductive D where
 | non|bl (b:Bool)|int (i:Int)|str (x:Str)|tup (l:List D)|lst (l:List D)
 | scr (ns:AF)
 | dct (t:Bool) (ks vs:List D)
 | obj (c:Str) (ks:AJ) (vs:List D)
 | adr (a:Addr)
abbrev AN:=List D
mutual
def aK:D->PyData
 | .non=>.none
 | .bl b=>.bool b
 | .int i=>.int i
 | .str x=>.str x
 | .tup l=>.tuple (di l)
 | .lst l=>.list (di l)
 | .scr ns=>.list (ns.map PyData.int)
 | .dct _ _ _=>.none
 | .obj _ _ _=>.none
 | .adr _=>.none
def di:AN->List PyData
 | []=>[]
 | d::l=>aK d::di l
end
noncomputable def cH(d e:D):Bool:=PyData.eqv (aK d) (aK e)
noncomputable def lJ(l m:AN):Bool:=PyData.eqvAll (di l) (di m)
noncomputable def z4:V->Option Int
 | .int i=>some i
 | .bl b=>some (if b then 1 else 0)
 | _=>none
noncomputable def jO:AM->Option AF
 | []=>some []
 | x::r=>(z4 x).bind λi=>(jO r).map (i::·)
noncomputable def jP(ks:AF):Int:=reduceHash (Builtin.Tuple.tupleHashOf (ks.map hashInt))
def z6(a:Addr)(b:List (List Int×Addr))(vxs:AM)(d:Nat)(h:Heap):Prop:=
 (a==sysModules)=false/\∃e o c,Vals vxs e/\h.get? a=some o/\o.ExactDict/\o.data=.dict c d/\c.toList=(b.zip e).map λp=>{jP p.1.1,.ref p.1.2,p.2}
noncomputable def Ld(a:Addr)(b:List (List Int×Addr))(vxs:AM)(c:Nat):HO:=.ext (z6 a b vxs c)
def Dc(t:Bool)(G H:Hp)(a:Addr)(d vxs:AM):Prop:=
 (t=false/\∃c:List _,H a=some (.dK c)/\(c.map (·.1)).Nodup/\d=c.map (λp=>kV p.1)/\vxs=c.map (·.2))\/
 (t=true/\∃(b:List _) (e:Nat),H a=some (Ld a b vxs e)/\b.length=vxs.length/\(b.map (·.1)).Nodup/\d=b.map (λp=>.ref p.2)/\∀p∈b,∃f,G p.2=some (.tup f)/\jO f=some p.1)
mutual
def Rp(K:W7)(G:Hp):D->V->Prop
 | .non,v=>v=V.non
 | .bl b,v=>v=V.bl b
 | .int i,v=>v=V.int i
 | .str x,v=>v=V.str x/\PyData.strOk x=true
 | .tup l,v=>∃a xs,v=V.ref a/\G a=some (HO.tup xs)/\RpL K G l xs
 | .lst l,v=>∃a xs,v=V.ref a/\Rd G a (HO.lst xs)/\RpL K G l xs
 | .scr ns,v=>∃a,v=V.ref a/\SqL K G a (ns.map V.int)
 | .dct t ks vs,v=>∃a f vxs,v=V.ref a/\Dc t G G a f vxs/\RpL K G ks f/\RpL K G vs vxs
 | .obj c ks vs,v=>∃a C g xs,v=V.ref a/\W.nsIn K mainGlobals c=some (some (.ref C))/\G a=some (HO.ins C g (ks.zip xs))/\xs.length=ks.length/\RpL K G vs xs
 | .adr a,v=>v=V.ref a
def RpL(K:W7)(G:Hp):AN->AM->Prop
 | [],xs=>xs=[]
 | d::l,xs=>∃x r,xs=x::r/\Rp K G d x/\RpL K G l r
end
def dv(h:Same G b)(r:Rd G a u):Rd b a u:=by
 let r+{o,r}:=r
 .show .inl (h _ _ r)
 .show .inr {o,h _ _ r}
def Dc.mono(g:Same G u)(h:∀o,H a=some o->H' a=some o)(d:Dc t G H a c vxs):Dc t u H' a c vxs:=by
 let{e,j,i,b}+{e,f,r,i,b,n,l,s}:=d
 .show .inl {e,j,h _ i,b}
 .show .inr {e,f,r,h _ i,b,n,l,λp k=>?_}
  let{v,m,q}:=s p k;show{v,g _ _ m,q}
theorem Dc.someT(d:Dc t G H a e vxs):∃o,H a=some o/\∀xs,o≠.tup xs:=by
 let{_,c,b,_}+{_,f,g,b,_}:=d
 .simp_all
 .show{_,b,λxs z=>by cases z}
theorem Dc.some(d:Dc t G H a e vxs):∃o,H a=some o/\∀xs,o≠.lst xs:=by
 let{_,c,b,_}+{_,f,g,b,_}:=d
 .simp_all
 .show{_,b,λxs z=>by cases z}
mutual
theorem Rp.mono{G G':Hp}(h:Same G G'):∀{d:D}{v:V},Rp K G d v->Rp K G' d v
 | .non,_,r=>r
 | .bl _,_,r=>r
 | .int _,_,r=>r
 | .str _,_,r=>r
 | .tup l,_,r=>by
   let{a,xs,e,g,q}:=r;show{a,xs,e,h _ _ g,RpL.mono h q}
 | .lst l,_,r=>by
   let{a,xs,e,g,q}:=r;show{a,xs,e,dv h g,RpL.mono h q}
 | .scr ns,_,r=>by
   let{a,e,g}:=r;show{a,e,h.seq g}
 | .dct t ks vs,_,r=>by
   let{a,b,vxs,e,g,j,f}:=r;show{a,b,vxs,e,g.mono h λo=>h _ o,RpL.mono h j,RpL.mono h f}
 | .obj c ks vs,_,r=>by
   let{a,C,i,xs,e,n,g,l,q}:=r;show{a,C,i,xs,e,n,h _ _ g,l,RpL.mono h q}
 | .adr _,_,r=>r
theorem RpL.mono{G G':Hp}(h:Same G G'):∀{l:AN}{xs:AM},RpL K G l xs->RpL K G' l xs
 | [],_,r=>r
 | d::l,_,r=>by
   let{x,xs,e,g,q}:=r;show{x,xs,e,Rp.mono h g,RpL.mono h q}
end
section
variable {G:Hp}
theorem RpL.length:∀{l:AN}{xs:AM},RpL K G l xs->xs.length=l.length
 | [],_,r=>by subst r;rfl
 | d::l,_,r=>by
   let{x,xs,rfl,_,q}:=r;simp[RpL.length q]
theorem RpL.get:∀{l:AN}{xs:AM}{i:Nat}{d:D},RpL K G l xs->l[i]?=some d->∃x,xs[i]?=some x/\Rp K G d x
 | [],_,_,_,_,e=>by simp at e
 | d::l,_,0,_,r,e=>by
   rw[RpL]at r;grind
 | d::l,_,i+1,_,r,e=>by
   let{x,xs,rfl,g,q}:=r;let{y,a,b}:=RpL.get q (by simpa using e)
   ext
def RpL.nil:RpL K G [] []:=by rw[RpL]
def RpL.cons(h:Rp K G d x)(q:RpL K G l xs):RpL K G (d::l) (x::xs):={(x),xs,rfl,h,q}
theorem RpL.append:∀{l m:AN}{xs ys:AM},RpL K G l xs->RpL K G m ys->RpL K G (l++m) (xs++ys)
 | [],_,_,_,r,q=>by rw[RpL]at r;ext
 | d::l,m,_,ys,r,q=>by
   let{x,xs,rfl,g,r}:=r;show .cons g (.append r q)
def RpL.one(h:Rp K G d x):RpL K G [d] [x]:=.cons h .nil
theorem RpL.set:∀{l:AN}{xs:AM} (i:Nat) {d:D}{x:V},RpL K G l xs->Rp K G d x->RpL K G (l.set i d) (xs.set i x)
 | [],_,_,_,_,r,_=>by rw[RpL]at r;subst r;show .nil
 | e::l,_,0,_,_,r,h=>by
   rw[RpL]at r;let{x,xs,rfl,g,r}:=r;show .cons h r
 | e::l,_,i+1,_,_,r,h=>by
   rw[RpL]at r;let{x,xs,rfl,g,r}:=r;show .cons g (RpL.set i r h)
theorem RpL.take:∀{l:AN}{xs:AM} (n:Nat),RpL K G l xs->RpL K G (l.take n) (xs.take n)
 | _,_,0,_=>.nil
 | [],_,_+1,r=>by subst r;show .nil
 | d::l,_,n+1,r=>by
   let{x,xs,rfl,g,r}:=r;show .cons g (.take n r)
theorem RpL.drop:∀{l:AN}{xs:AM} (n:Nat),RpL K G l xs->RpL K G (l.drop n) (xs.drop n)
 | _,_,0,r=>r
 | [],_,_+1,r=>by subst r;show .nil
 | d::l,_,n+1,r=>by
   let{x,xs,rfl,g,r}:=r;show .drop n r
theorem RpL.ints:∀(ns:AF),RpL K G (ns.map D.int) (ns.map V.int)
 | []=>.nil
 | n::ns=>.cons (by rw[Rp]) (.ints ns)
end
structure Gr(H G H' G':Hp):Prop where
 h:Same H H'
 g:Same G G'
 s:Same G' H'
 n:∀a,G a=none->G' a≠none->H a=none
def Gr.refl(s:Same G H):Gr H G H G:={.refl _,.refl _,s,λ_ h a=>absurd h a}
def Gr.trans(a:Gr H G f c)(b:Gr f c d G2):Gr H G d G2:=
 ⟨a.h.trans b.h,a.g.trans b.g,b.s,λx h i=>by
  by_cases e:c x=none
  .show a.h.free (b.n x e i)
  .show a.n x h e⟩
theorem Gr.new(s:Same G H)(a:H p=none)(o:HO):Gr H G (upd H p o) (upd G p o):=by
 show{λb u e=>?_,λb u e=>?_,λb u e=>?_,λb h c=>?_}
 .rwa [Yl (Yr e a)]
 .rwa [Yl (Yr e (s.free a))]
 .by_cases q:b=p
  .subst q;rwa [Yo]at e ⊢
  .rw[Yl q]at e ⊢;show s _ _ e
 .by_cases q:b=p
  .grind
  .rw[Yl q]at c;grind
def Gr.hid(s:Same G H)(a:H p=none)(o:HO):Gr H G (upd H p o) G:=by
 show{λb u e=>?_,.refl _,λb u e=>?_,λb h c=>absurd h c}
 .rwa [Yl (Yr e a)]
 .rw[Yl (Yr e (s.free a))];show s _ _ e
theorem Gr.show(g:Gr H G H' d)(c:H p=none)(a:d p=none)(e:H' p=some o):Gr H G H' (upd d p o):=by
 show{g.h,λb u q=>?_,λb u q=>?_,λb h f=>?_}
 .let:=g.g b u q
  rwa [Yl (Yr this a)]
 .by_cases z:b=p
  .subst z;rw[Yo]at q;symm
  .rw[Yl z]at q;show g.s b u q
 .by_cases z:b=p
  .grind
  .rw[Yl z]at f;show g.n b h f
def Ct(K:W7)(G H:Hp):D->V->Prop
 | .non,v=>v=.non
 | .bl b,v=>v=.bl b
 | .int i,v=>v=.int i
 | .str x,v=>v=.str x/\PyData.strOk x=true
 | .tup l,v=>∃a f,v=.ref a/\(H a=some (.tup f)/\G a=some (.tup f))/\RpL K G l f
 | .lst l,v=>∃a f,v=.ref a/\Rd H a (.lst f)/\RpL K G l f
 | .scr k,v=>∃a,v=.ref a/\SqL K H a (k.map .int)
 | .dct t h j,v=>∃a d g,v=.ref a/\Dc t G H a d g/\RpL K G h d/\RpL K G j g
 | .obj c h j,v=>∃a C e f,v=.ref a/\W.nsIn K mainGlobals c=some (some (.ref C))/\G a=some (.ins C e (h.zip f))/\f.length=h.length/\RpL K G j f
 | .adr a,v=>v=.ref a
def Ct.of(s:Same G H)(r:Rp K G d v):Ct K G H d v:=by
 cases d<;>rw[Rp]at r<;>rw[Ct]
 .show r
 .show r
 .show r
 .show r
 .let{a,i,e,g,q}:=r
  show{a,i,e,{s _ _ g,g},q}
 .let{a,i,e,g,q}:=r
  show{a,i,e,dv s g,q}
 .let{a,e,g}:=r
  show{a,e,s.seq g}
 .let{a,b,h,e,g,f,c}:=r
  show{a,b,h,e,g.mono (.refl _) λo=>s _ o,f,c}
 .show r
 .show r
def Ct.rp(s:Same G H)(r:Ct K G H d v):Rp K H d v:=by
 cases d<;>rw[Ct]at r<;>rw[Rp]
 .show r
 .show r
 .show r
 .show r
 .let{a,i,e,g,q}:=r
  show{a,i,e,g.1,q.mono s}
 .let{a,i,e,g,q}:=r
  show{a,i,e,g,q.mono s}
 .show r
 .let{a,b,j,e,g,h,c}:=r
  show{a,b,j,e,g.mono s λ_ z=>z,h.mono s,c.mono s}
 .let{a,C,f,i,e,n,g,l,q}:=r
  show{a,C,f,i,e,n,s _ _ g,l,q.mono s}
 .show r
def Ct.grow(g:Gr H G H' m)(r:Ct K G H d v):Ct K m H' d v:=by
 cases d<;>rw[Ct]at r<;>rw[Ct]
 .show r
 .show r
 .show r
 .show r
 .let{a,j,e,h,q}:=r
  show{a,j,e,{g.h _ _ h.1,g.g _ _ h.2},q.mono g.g}
 .let{a,j,e,h,q}:=r
  show{a,j,e,dv g.h h,q.mono g.g}
 .let{a,e,h}:=r
  show{a,e,g.h.seq h}
 .let{a,b,k,e,h,i,c}:=r
  show{a,b,k,e,h.mono g.g λo=>g.h _ o,i.mono g.g,c.mono g.g}
 .let{a,C,f,j,e,n,h,l,q}:=r
  show{a,C,f,j,e,n,g.g _ _ h,l,q.mono g.g}
 .show r
def jQ(K:W7)(G H:Hp):AN->AM->Prop
 | [],xs=>xs=[]
 | d::l,xs=>∃x r,xs=x::r/\Ct K G H d x/\jQ K G H l r
inductive B where
 | sh (d:D)|ow (l:AN)|od (t:Bool) (ks vs:AN)
abbrev AQ:=Option B
abbrev Ro:=List AQ
abbrev AV:=Ro->Option AN
abbrev AU:=Ro->Option D
abbrev AT:=Ro->Option Bool
abbrev AS:=D->Ro->Option Ro
structure SR(K:W7)(H0 G0:Hp)(σ:L2.St)(H G:Hp)(ρ:Ro):Prop where
 gr:Gr H0 G0 H G
 len:σ.length=ρ.length
 sh:∀(i:Nat) d,ρ[i]?=some (some (B.sh d))->∃v,σ[i]?=some (some v)/\Rp K G d v
 ow:∀(i:Nat) l,ρ[i]?=some (some (B.ow l))->∃a xs,σ[i]?=some (some (V.ref a))/\G a=none/\H0 a=none/\H a=some (.lst xs)/\RpL K G l xs
 ap:∀(i j:Nat) l l' a b,ρ[i]?=some (some (B.ow l))->ρ[j]?=some (some (B.ow l'))->i≠j->σ[i]?=some (some (V.ref a))->σ[j]?=some (some (V.ref b))->a≠b
 od:∀(i:Nat) t ks vs,ρ[i]?=some (some (B.od t ks vs))->∃a kxs vxs,σ[i]?=some (some (V.ref a))/\G a=none/\H0 a=none/\Dc t G H a kxs vxs/\RpL K G ks kxs/\RpL K G vs vxs
 apd:∀(i j:Nat) t ks vs t' ks' vs' a b,ρ[i]?=some (some (B.od t ks vs))->ρ[j]?=some (some (B.od t' ks' vs'))->i≠j->σ[i]?=some (some (V.ref a))->σ[j]?=some (some (V.ref b))->a≠b
section
variable {H0 G0 H G H' G':Hp}{σ:L2.St}{ρ:Ro}
def SR.mkSh(g:Gr H0 G0 H G)(e:σ.length=ρ.length)(n:∀(i:Nat) d,ρ[i]?=some (some (B.sh d))->∃v,σ[i]?=some (some v)/\Rp K G d v)(f:∀(i:Nat) l,ρ[i]?≠some (some (B.ow l)))(c:∀(i:Nat) t ks vs,ρ[i]?≠some (some (B.od t ks vs))):SR K H0 G0 σ H G ρ:=
 {g,e,n,λi l h=>absurd h (f i l),λi j l o a b h=>absurd h (f i l),λi t ks vs h=>absurd h (c i t ks vs),λi j t ks vs p k m a b h=>absurd h (c i t ks vs)}
theorem lK(g:Gr H G H' G')(h:H a=some o)(n:G a=none):G' a=none:=by
 cases q:G' a with
 | none=>rfl
 | some o=>
   let:=g.n a n (by grind);grind
def SR.grow(s:SR K H0 G0 σ H G ρ)(g:Gr H G H' G'):SR K H0 G0 σ H' G' ρ:=by
 show{s.gr.trans g,s.len,λi d e=>?_,λi l e=>?_,s.ap,λi t r q e=>?_,s.apd}
 .let{v,f,b}:=s.sh i d e
  show{v,f,b.mono g.g}
 .let{a,u,f,b,k,c,j}:=s.ow i l e
  show{a,u,f,lK g c b,k,g.h _ _ c,j.mono g.g}
 .let{a,h,p,f,b,k,c,j,m}:=s.od i t r q e
  let{o,n,_}:=c.some;show{a,h,p,f,lK g n b,k,c.mono g.g λo=>g.h _ o,j.mono g.g,m.mono g.g}
def SR.seen(s:SR K H0 G0 σ H G ρ):Same G H:=s.gr.s
def Yp{a:Type}{l:List a}{x y:a}(h:(l.set i x)[j]?=some y):(j=i/\y=x/\i<l.length)\/(j≠i/\l[j]?=some y):=by
 by_cases e:j=i
 .subst e
  let b:=by
   let:=(qo h).1;simpa using this
  rw[List.getElem?_set_self b]at h;show .inl {rfl,wx h.symm,b}
 .rw[Qp (.symm e)]at h
  show .inr {(e),h}
theorem SR.set_sh(s:SR K H0 G0 σ H G ρ)(i:Nat)(r:Rp K G d v):SR K H0 G0 (σ.set i (some v)) H G (ρ.set i (↑d)):=by
 show{s.gr,by simp[s.len],λj e h=>?_,λj l h=>?_,λj k l F a b g m z n o=>?_,λj t x y h=>?_,λj k t x y J B u a b g m z n o=>?_}
 .let{rfl,c,E}+{f,h}:=Yp h
  .cases c
   show{v,by rw[List.getElem?_set_self (by rwa [s.len])],r}
  .let{w,D,p}:=s.sh j e h
   show{w,by rwa [Qp (.symm f)],p}
 .let{rfl,c,E}+{f,h}:=Yp h
  .cases c
  .let{a,I,D,p}:=s.ow j l h
   show{a,I,by rwa [Qp (.symm f)],p}
 .let{rfl,c,_}+{f,g}:=Yp g
  .cases c
  .let{rfl,c,_}+{q,m}:=Yp m
   .cases c
   .rw[Qp (.symm f)]at n
    rw[Qp (.symm q)]at o;show s.ap j k l F a b g m z n o
 .let{rfl,c,E}+{f,h}:=Yp h
  .cases c
  .let{a,A,C,D,p}:=s.od j t x y h
   show{a,A,C,by rwa [Qp (.symm f)],p}
 .let{rfl,c,_}+{f,g}:=Yp g
  .cases c
  .let{rfl,c,_}+{q,m}:=Yp m
   .cases c
   .rw[Qp (.symm f)]at n
    rw[Qp (.symm q)]at o;show s.apd j k t x y J B u a b g m z n o
theorem SR.set_ow(s:SR K H0 G0 σ H G ρ)(i:Nat)(g:Gr H G H' G')(L:H p=none)(Q:G' p=none)(e:H' p=some (.lst xs))(r:RpL K G' l xs):SR K H0 G0 (σ.set i (some (.ref p))) H' G' (ρ.set i (some (.ow l))):=by
 let B:=s.grow g
 let N:∀(j:Nat) l a,_->σ[j]?=some (some (.ref a))->a≠p:=λj l a o c z=>by
  let{b,T,q,_,_,M,_}:=s.ow j l o;rw[c]at q;cases q;rw[z,L]at M;cases M
 show{B.gr,by simp[s.len],λj e h=>?_,λj l h=>?_,λj k l O a b o c A m n=>?_,λj t J C h=>?_,λj k t J C R E F a b o c A m n=>?_}
 .let{rfl,d,y}+{f,h}:=Yp h
  .cases d
  .let{w,q,v}:=B.sh j e h
   show{w,by rwa [Qp (.symm f)],v}
 .let{rfl,d,y}+{f,h}:=Yp h
  .cases d
   show{p,xs,by rw[List.getElem?_set_self (by rwa [s.len])],Q,s.gr.h.free L,e,r}
  .let{a,xs,q,v}:=B.ow j l h
   show{a,xs,by rwa [Qp (.symm f)],v}
 .let{rfl,d,y}+{f,x}:=Yp o
  .let{rfl,S,_}+{u,c}:=Yp c
   .show absurd rfl A
   .rw[List.getElem?_set_self (by rwa [s.len])]at m
    cases m;rw[Qp (.symm u)]at n;show .symm (N k O b c n)
  .let{rfl,S,y}+{u,c}:=Yp c
   .rw[List.getElem?_set_self (by rwa [s.len])]at n
    cases n;rw[Qp (.symm f)]at m;show N j l a x m
   .rw[Qp (.symm f)]at m
    rw[Qp (.symm u)]at n;show s.ap j k l O a b x c A m n
 .let{rfl,d,y}+{f,h}:=Yp h
  .cases d
  .let{a,D,I,q,v}:=B.od j t J C h
   show{a,D,I,by rwa [Qp (.symm f)],v}
 .let{rfl,d,_}+{f,o}:=Yp o
  .cases d
  .let{rfl,d,_}+{u,c}:=Yp c
   .cases d
   .rw[Qp (.symm f)]at m
    rw[Qp (.symm u)]at n;show s.apd j k t J C R E F a b o c A m n
theorem SR.mut(s:SR K H0 G0 σ H G ρ)(O:ρ[i]?=some (some (B.ow l)))(E:σ[i]?=some (some (V.ref a)))(r:RpL K G P ys):SR K H0 G0 σ (upd H a (.lst ys)) G (ρ.set i (some (.ow P))):=by
 let{T,xs,N,M,L,Y,Z}:=s.ow i l O;rw[E]at N;cases N;show{{λb o e=>?_,s.gr.g,λb o e=>?_,s.gr.n},by simp[s.len],λj e h=>?_,λj m h=>?_,λj k m F b c d f v y J=>?_,λj t ks vs h=>?_,λj k t ks vs t' C D b c d f v y J=>?_}
 .rw[Yl (Yr e L)];show s.gr.h b o e
 .rw[Yl (Yr e M)];show s.gr.s b o e
 .let{rfl,e1,_}+{n,h}:=Yp h
  .cases e1
  .show s.sh j e h
 .let{rfl,e1,_}+{n,h}:=Yp h
  .cases e1
   show{(a),ys,E,M,L,Yo,r}
  .let{b,R,p,I,x,u,w}:=s.ow j m h
   show{b,R,p,I,x,by rw[Yl (s.ap j i m l b a h O n p E)];show u,w}
 .let g:∀(j:Nat) m,(ρ.set i (some (.ow P)))[j]?=some (some (.ow m))->∃F,ρ[j]?=some (some (.ow F)):=λj m h=>by
   grind
  let{S,e1}:=g j m d;let{Q,e2}:=g k F f;show s.ap j k S Q b c e1 e2 v y J
 .let{rfl,e1,_}+{n,h}:=Yp h
  .cases e1
  .let{b,A,vxs,p,I,x,u,w}:=s.od j t ks vs h
   show{b,A,vxs,p,I,x,u.mono (.refl _) λo q=>?_,w};let{W,q',X}:=u.some;rw[Yl (λz=>by grind)];show q
 .let{rfl,e1,_}+{n,d}:=Yp d
  .cases e1
  .let{rfl,e1,_}+{U,f}:=Yp f
   .cases e1
   .show s.apd j k t ks vs t' C D b c d f v y J
theorem SR.freezeT(s:SR K H0 G0 σ H G ρ)(I:ρ[i]?=some (some (B.ow l))):∃G',SR K H0 G0 σ H G' (ρ.set i (↑(.lst l)))/\∀b ys,G' b=some (.tup ys)->G b=some (.tup ys):=by
 let{a,xs,F,O,R,U,V}:=s.ow i l I
 let g:Same G (upd G a (.lst xs)):=λb o e=>by rwa [Yl (Yr e O)]
 show⟨upd G a _,{{s.gr.h,s.gr.g.trans g,λb o e=>?_,λb h h'=>?_},by simp[s.len],λj e h=>?_,λj m h=>?_,λj k m L b c d f y D E=>?_,λj t Z vs h=>?_,λj k t Z vs t' A x b c d f y D E=>?_},λb ys e=>by
  by_cases z:b=a
  .subst z;rw[Yo]at e;cases e
  .rwa [Yl z]at e⟩
 .by_cases z:b=a
  .subst z;rw[Yo]at e;symm
  .rw[Yl z]at e;show s.gr.s b o e
 .by_cases z:b=a
  .grind
  .rw[Yl z]at h';show s.gr.n b h h'
 .let{rfl,Y,_}+{p,h}:=Yp h
  .cases Y
   show{_,F,{a,xs,rfl,.inl Yo,V.mono g}}
  .let{v,n,q}:=s.sh j e h
   show{v,n,q.mono g}
 .let{rfl,Y,_}+{p,h}:=Yp h
  .cases Y
  .let{b,J,n,q,C,r,w}:=s.ow j m h
   show{b,J,n,by rwa [Yl (s.ap j i m l b a h I p n F)],C,r,w.mono g}
 .let{rfl,Y,_}+{p,d}:=Yp d
  .cases Y
  .let{rfl,Y,_}+{N,f}:=Yp f
   .cases Y
   .show s.ap j k m L b c d f y D E
 .let{rfl,Y,_}+{p,h}:=Yp h
  .cases Y
  .let{b,u,vxs,n,q,C,r,w,M}:=s.od j t Z vs h
   let{S,Q,T}:=r.some;show{b,u,vxs,n,by rwa [Yl (λz=>by symm)],C,r.mono g λ_ z=>z,w.mono g,M.mono g}
 .let{rfl,Y,_}+{p,d}:=Yp d
  .cases Y
  .let{rfl,Y,_}+{N,f}:=Yp f
   .cases Y
   .show s.apd j k t Z vs t' A x b c d f y D E
def SR.freeze(s:SR K H0 G0 σ H G ρ)(hi:ρ[i]?=some (some (B.ow l))):∃G',SR K H0 G0 σ H G' (ρ.set i (↑(.lst l))):=by
 let{G',h,_}:=s.freezeT hi;show{(G'),h}
theorem SR.freezedT(s:SR K H0 G0 σ H G ρ)(F:ρ[i]?=some (some (B.od t ks vs))):∃G',SR K H0 G0 σ H G' (ρ.set i (↑(.dct t ks vs)))/\∀b ys,G' b=some (.tup ys)->G b=some (.tup ys):=by
 let{a,A,vxs,J,M,X,C,O,S}:=s.od i t ks vs F;let{o,T,Y}:=C.some
 let d:Same G (upd G a o):=λb o e=>by rwa [Yl (Yr e M)]
 let{Z,V,W}:=C.someT
 show⟨upd G a o,{{s.gr.h,s.gr.g.trans d,λb I e=>?_,λb h h'=>?_},by simp[s.len],λj e h=>?_,λj m h=>?_,λj k m P b c f g q u E=>?_,λj t ks vs h=>?_,λj k t ks vs t' D w b c f g q u E=>?_},λb ys e=>by
  by_cases z:b=a
  .subst z;rw[Yo]at e;grind
  .rwa [Yl z]at e⟩
 .by_cases z:b=a
  .subst z;rw[Yo]at e;grind
  .rw[Yl z]at e;show s.gr.s b I e
 .by_cases z:b=a
  .grind
  .rw[Yl z]at h';show s.gr.n b h h'
 .let{rfl,e1,_}+{n,h}:=Yp h
  .cases e1
   show{_,J,{a,A,vxs,rfl,C.mono d λI z=>?_,O.mono d,S.mono d}};rw[T]at z
   rwa [Yo]
  .let{v,l,p}:=s.sh j e h
   show{v,l,p.mono d}
 .let{rfl,e1,_}+{n,h}:=Yp h
  .cases e1
  .let{b,U,l,p,x,y,r}:=s.ow j m h
   show{b,U,l,by rwa [Yl (λz=>by grind)],x,y,r.mono d}
 .let{rfl,e1,_}+{n,f}:=Yp f
  .cases e1
  .let{rfl,e1,_}+{N,g}:=Yp g
   .cases e1
   .show s.ap j k m P b c f g q u E
 .let{rfl,e1,_}+{n,h}:=Yp h
  .cases e1
  .let{b,L,Q,l,p,x,y,r,R}:=s.od j t ks vs h
   show{b,L,Q,l,by rwa [Yl (s.apd j i _ _ _ _ _ _ b a h F n l J)],x,y.mono d λ_ z=>z,r.mono d,R.mono d}
 .let{rfl,e1,_}+{n,f}:=Yp f
  .cases e1
  .let{rfl,e1,_}+{N,g}:=Yp g
   .cases e1
   .show s.apd j k t ks vs t' D w b c f g q u E
theorem SR.freezed(s:SR K H0 G0 σ H G ρ)(a:ρ[i]?=some (some (B.od t ks vs))):∃G',SR K H0 G0 σ H G' (ρ.set i (↑(.dct t ks vs))):=by
 let{G',h,_}:=s.freezedT a;grind
def Le(ρ ρ':Ro):Prop:=ρ.length=ρ'.length/\∀(i:Nat) b,ρ[i]?=some (some b)->ρ'[i]?=some (some b)
def SR.le(s:SR K H0 G0 σ H G ρ')(h:Le ρ ρ'):SR K H0 G0 σ H G ρ:=
 ⟨s.gr,s.len.trans h.1.symm,λi d e=>s.sh i d (h.2 i _ e),λi l e=>s.ow i l (h.2 i _ e),λi j l g a b m n=>s.ap i j l g a b (h.2 i _ m) (h.2 j _ n),
  λi t o k e=>s.od i t o k (h.2 i _ e),λi j t o k p f c a b m n=>s.apd i j t o k p f c a b (h.2 i _ m) (h.2 j _ n)⟩
theorem SR.rebase(s:SR K H0 G0 σ H G ρ):∃p,SR K p G σ H G ρ/\∀σ' H' G' ρ',SR K p G σ' H' G' ρ'->SR K H0 G0 σ' H' G' ρ':=by
 classical
 let -nondep c:=λa=>∃(i:Nat),((∃l:AN,ρ[i]?=some (some (.ow l)))\/(∃t v u,ρ[i]?=some (some (.od t v u))))/\σ[i]?=some (some (.ref a))
 let B:∀a,c a->H0 a=none:=λa n=>by
  let{i,x,C}:=n;let{l,x}+{t,v,u,x}:=x
  .let{b,A,d,_,j,_}:=s.ow i l x
   grind
  .let{b,f,w,d,_,j,_}:=s.od i t v u x
   grind
 let k:∀a,(if c a then none else H a)=none->_:=λa h=>by
  by_cases o:c a
  .show B a o
  .rw[if_neg o]at h;show s.gr.h.free h
 show{λa=>if c a then none else H a,{{λb o e=>?_,.refl _,s.gr.s,λ_ h y=>absurd h y},s.len,s.sh,λi l e=>?_,s.ap,λi t v u e=>?_,s.apd},λσ' H' G' ρ' t=>{{λb o e=>?_,s.gr.g.trans t.gr.g,t.gr.s,λb h y=>?_},t.len,t.sh,λi l e=>?_,t.ap,λi r v u e=>?_,t.apd}}
 .simp_all
 .let{a,A,d,g,j,m,q}:=s.ow i l e
  show{a,A,d,g,if_pos {i,.inl {(l),e},d},m,q}
 .let{a,f,w,d,g,j,m}:=s.od i t v u e
  show{a,f,w,d,g,if_pos {i,.inr {(t),v,u,e},d},m}
 .show t.gr.h b o ?_
  let z:¬c b:=λz=>by ext
  rw[if_neg z];show s.gr.h b o e
 .by_cases z:G b=none
  .show k b (t.gr.n b z y)
  .show s.gr.n b h z
 .let{a,A,d,g,j,m,q}:=t.ow i l e
  ext
 .let{a,f,w,d,g,j,m}:=t.od i r v u e
  grind
end
def tOf(K:W7)(f:AU):TE:=λh H Q=>∃c d b a G,f c=some d/\SR K b a h H G c/\∀v e g,Gr H G e g->Rp K g d v->Q v e
def tCof(K:W7)(f:AU):TE:=λh H Q=>∃e d b a G,f e=some d/\SR K b a h H G e/\∀v c g,Gr H G c g->Ct K g c d v->Q v c
def tCAof(K:W7)(f:AV):TA:=λh H Q=>∃e l b a G,f e=some l/\SR K b a h H G e/\∀g c d,Gr H G c d->jQ K d c l g->Q g c
def gZ(K:W7)(f:AV):TE:=λh H Q=>∃e l b a G,f e=some l/\SR K b a h H G e/\∀p g d c,Gr H G d c->H p=none->c p=none->d p=some (.lst g)->RpL K c l g->Q (.ref p) d
def tTof(K:W7)(f:AT):TT:=λg H Q=>∃d b c a G,f d=some b/\SR K c a g H G d/\∀e h,Gr H G e h->Q b e
def tAof(K:W7)(f:AV):TA:=λh H Q=>∃e l b a G,f e=some l/\SR K b a h H G e/\∀g d c,Gr H G d c->RpL K c l g->Q g d
def Wk(K:W7)(J:It)(g:Hp)(f:AN):Prop:=f.length<=sizeLine/\∀(i:Nat) a b,Same g b->Same b a->
 (∀d,f[i]?=some d->J.go i a/\∀y e,J.yld i a y e->∃c,Gr a b e c/\Rp K c d y)/\(f.length<=i->J.stop i a)
def jR(K:W7)(f:AV):TI:=λh H R=>∃c e b a G,f c=some e/\SR K b a h H G c/\∀J d g,Gr H G d g->Wk K J g e->R J d
inductive Out where
 | nx (ρ:Ro)|rt (d:D)|bk (ρ:Ro)|ct (ρ:Ro)
abbrev AR:=Ro->Option Out
def z7(K:W7)(b a:Hp)(F:cX):Out->Prop
 | .nx f=>∀c e g,SR K b a c e g f->F.nx c e
 | .rt d=>∀v e g,Gr b a e g->Rp K g d v->F.rt v e
 | .bk f=>∀c e g,SR K b a c e g f->F.bk c e
 | .ct f=>∀c e g,SR K b a c e g f->F.ct c e
def lL(K:W7)(f:AR):TS:=λF e H=>∃d c b a G,f d=some c/\SR K b a e H G d/\z7 K b a F c
def z9(K:W7)(gt:AS):TG:=λv g H Q=>∃d f e b a G,gt d f=some e/\SR K b a g H G f/\Rp K G d v/\∀c,SR K b a c H G e->Q c H
abbrev ME(X:Cx)(e:Expr)(f:AU):Prop:=PE X e (tOf X.K f)
abbrev MC(X:Cx)(e:Expr)(f:AU):Prop:=PE X e (tCof X.K f)
abbrev t7(X:Cx)(a:AK)(f:AV):Prop:=PA X a (tCAof X.K f)
abbrev MF(X:Cx)(e:Expr)(f:AV):Prop:=PE X e (gZ X.K f)
abbrev MT(X:Cx)(e:Expr)(f:AT):Prop:=PT X e (tTof X.K f)
abbrev MA(X:Cx)(a:AK)(f:AV):Prop:=PA X a (tAof X.K f)
abbrev MI(X:Cx)(b a:Expr)(f:AV):Prop:=PI X b a (jR X.K f)
abbrev MS(X:Cx)(st:Stmt)(f:AR):Prop:=PS X st (lL X.K f)
abbrev MB(X:Cx)(a:List Stmt)(f:AR):Prop:=PSs X a (lL X.K f)
abbrev MG(X:Cx)(a:Expr)(gt:AS):Prop:=PG X a (z9 X.K gt)
section
def PE.imp(h:PE X e t)(i:∀σ H Q,t' σ H Q->t σ H Q):PE X e t':=λb s σ H Q I a=>h _ s σ H Q I (i σ H Q a)
def PT.imp(h:PT X e t)(i:∀σ H Q,t' σ H Q->t σ H Q):PT X e t':=λb s σ H Q I a=>h _ s σ H Q I (i σ H Q a)
def PA.imp(h:PA X c t)(i:∀σ H Q,t' σ H Q->t σ H Q):PA X c t':=λa d s σ H Q I b=>h a _ s σ H Q I (i σ H Q b)
def PS.imp{st:Stmt}(h:PS X st t)(i:∀F σ H,t' F σ H->t F σ H):PS X st t':=λb s σ H F I a=>h _ s σ H F I (i F σ H a)
def PSs.imp{st:List Stmt}(h:PSs X st t)(i:∀F σ H,t' F σ H->t F σ H):PSs X st t':=λb s σ H F I a=>h _ s σ H F I (i F σ H a)
def PI.imp(h:PI X a e t)(i:∀σ H R,t' σ H R->t σ H R):PI X a e t':=λc s σ H R I b=>h _ s σ H R I (i σ H R b)
def PG.imp(h:PG X e t)(i:∀v σ H Q,t' v σ H Q->t v σ H Q):PG X e t':=λb s σ H v u Q I r a=>h _ s σ H v u Q I r (i v σ H Q a)
variable {H0 G0 H G:Hp}{σ:L2.St}{ρ:Ro}
def tOf.at(e:f ρ=some d)(s:SR K H0 G0 σ H G ρ)(h:∀v H' a,Gr H G H' a->Rp K a d v->SR K H0 G0 σ H' a ρ->Q v H'):tOf K f σ H Q:=
 {ρ,d,H0,G0,G,e,s,λv H' a g r=>h v H' a g r (s.grow g)}
def tCof.at(e:f ρ=some d)(s:SR K H0 G0 σ H G ρ)(h:∀v H' a,Gr H G H' a->Ct K a H' d v->SR K H0 G0 σ H' a ρ->Q v H'):tCof K f σ H Q:=
 {ρ,d,H0,G0,G,e,s,λv H' a g r=>h v H' a g r (s.grow g)}
def tCAof.at(e:f ρ=some l)(s:SR K H0 G0 σ H G ρ)(h:∀vs H' a,Gr H G H' a->jQ K a H' l vs->SR K H0 G0 σ H' a ρ->Q vs H'):tCAof K f σ H Q:=
 {ρ,l,H0,G0,G,e,s,λv H' a g r=>h v H' a g r (s.grow g)}
def ME.mc(h:ME X e f):MC X e f:=PE.imp h λk H Q ⟨c,d,b,a,G,e,s,h⟩=>{c,d,b,a,G,e,s,λv i j g r=>h v i j g (.of g.s r)}
def tTof.at(e:f ρ=some b)(s:SR K H0 G0 σ H G ρ)(h:∀H' a,Gr H G H' a->SR K H0 G0 σ H' a ρ->Q b H'):tTof K f σ H Q:=
 {ρ,b,H0,G0,G,e,s,λH' a g=>h H' a g (s.grow g)}
def tAof.at(e:f ρ=some l)(s:SR K H0 G0 σ H G ρ)(h:∀vs H' a,Gr H G H' a->RpL K a l vs->SR K H0 G0 σ H' a ρ->Q vs H'):tAof K f σ H Q:=
 {ρ,l,H0,G0,G,e,s,λv H' a g r=>h v H' a g r (s.grow g)}
end
noncomputable def b2{a:Type}(b fb:AU)(g:D->D->Option a):Ro->Option a:=λc=>(b c).bind λx=>(fb c).bind λy=>g x y
noncomputable def b1{a:Type}(b:AU)(g:D->Option a):Ro->Option a:=λc=>(b c).bind g
theorem t8(h:b2 a fb g ρ=some r):∃x y,a ρ=some x/\fb ρ=some y/\g x y=some r:=by
 let{x,c,h}:=qa h;let{y,b,h}:=qa h
 ext
def cI(h:b1 a g ρ=some r):∃x,a ρ=some x/\g x=some r:=by
 let{x,b,h}:=qa h;show{(x),b,h}
def dw(K:W7)(r:R2)(g:D->D->Option D):Prop:=∀(x y:V) (b a d:D) (H G:Hp) (Q:VK),g b a=some d->Same G H->Ct K G H b x->Ct K G H a y->(∀v e c,Gr H G e c->Rp K c d v->Q v e)->r x y H Q
def ef(K:W7)(r:R2)(g:D->D->Option Bool):Prop:=∀(x y:V) (c a:D) (b:Bool) (H G:Hp) (Q:VK),g c a=some b->Same G H->Ct K G H c x->Ct K G H a y->Q (.bl b) H->r x y H Q
def cb(K:W7)(r:AM->Hp->VK->Prop)(g:AN->Option D):Prop:=∀(a:AM) (c:AN) (d:D) (H G:Hp) (Q:VK),g c=some d->Same G H->jQ K G H c a->(∀v b e,Gr H G b e->Rp K e d v->Q v b)->r a H Q
def fS(K:W7)(r:AM->Hp->VK->Prop)(g:AN->Option AN):Prop:=∀(c:AM) (d l:AN) (H G:Hp) (Q:VK),g d=some l->Same G H->jQ K G H d c->
 (∀p e b a,Gr H G b a->H p=none->a p=none->b p=some (.lst e)->RpL K a l e->Q (.ref p) b)->r c H Q
section
variable {a b c e:Expr}{fb fc f:AU}{ga:AV}
noncomputable def af(i:Nat):AU:=λa=>match a[i]? with
 | some (some (.sh d))=>some d
 | _=>none
noncomputable def cJ(i:Nat):AV:=λa=>match a[i]? with
 | some (some (.ow l))=>some l
 | _=>none
theorem z_(h:af i ρ=some d):ρ[i]?=some (some (B.sh d)):=by
 unfold af at h;symm
theorem t9(h:cJ i ρ=some l):ρ[i]?=some (some (B.ow l)):=by
 unfold cJ at h;grind
noncomputable def aa(i:Nat):AU:=λc=>match c[i]? with
 | some (some (.sh d))=>some d
 | some (some (.ow l))=>some (.lst l)
 | some (some (.od t b a))=>some (.dct t b a)
 | _=>none
noncomputable def kD(d:D):AU:=λ_=>some d
abbrev Zi(i:Int):=kD (.int i)
def lM(h:PE X e t)(j:∀σ H Q,Q v H->t σ H Q)(i:∀G,Rp X.K G d v):ME X e (kD d):=
 PE.imp h λσ H Q g=>by
  let{a,b,l,k,G,e,s,h}:=g;cases e;show j σ H Q (h v H G (.refl s.seen) (i G))
def Aa{j}:ME X (.Constant (.int i) j pos) (Zi i):=lM tE (λ_ _ _ q=>q) λ_=>by rw[Rp]
def Ab{j}:ME X (.Constant (.bool k) j pos) (kD (.bl k)):=lM ye (λ_ _ _ q=>q) λ_=>by rw[Rp]
def Ac{j}:ME X (.Constant .none j pos) (kD .non):=lM yf (λ_ _ _ q=>q) λ_=>by rw[Rp]
def oo(m:dw K r g)(h:tOf K (b2 fa fb g) σ H Q):jx r (tCof K fa) (tCof K fb) σ H Q:=by
 let{c,d,I,J,G,e,s,h}:=h;let{n,C,y,k,z}:=t8 e;show tCof.at y s λv E F p t l=>tCof.at k l λu j B i q x=>m v u n C d j B Q z x.seen (t.grow i) q λw a b o A=>h w a b ((p.trans i).trans o) A
def Ad(m:ef K r g)(h:tTof K (b2 fa fb g) σ H Q):jB (jx r (tCof K fa) (tCof K fb)) σ H Q:=by
 let{a,d,B,E,G,e,s,h}:=h;let{n,y,t,w,l}:=t8 e;show tCof.at t s λv C A o q z=>tCof.at w z λu j k i p x=>m v u n y d j k _ l x.seen (q.grow i) p {d,rfl,h j k (o.trans i)}
noncomputable def mB(f:AT):AU:=λa=>(f a).map .bl
def t_{f:AT}(h:mB f ρ=some d):∃b,f ρ=some b/\d=.bl b:=by
 let{b,a,c}:=qc h;show{(b),a,c.symm}
def R3(m:ef K r g)(h:tOf K (mB (b2 fa fb g)) σ H Q):jx r (tCof K fa) (tCof K fb) σ H Q:=by
 let{a,d,C,F,G,e,s,h}:=h;let{b,o,rfl}:=t_ e;let{n,z,w,x,l}:=t8 o;show tCof.at w s λv E B p t A=>tCof.at x A λu j k i q y=>m v u n z b j k _ l y.seen (t.grow i) q (h _ j k (p.trans i) (by rw[Rp]))
def jS(j:bh X (binaryOp op) r)(i:dw X.K r g)(d:MC X a fa)(c:MC X b fb):ME X (.BinOp a op b pos) (b2 fa fb g):=PE.imp (jz j d c) λ_ _ _ h=>oo i h
def lN(k:bh X (compareOp op) r)(i:ef X.K r g)(d:MC X a fa)(e:MC X b fb)(j:behindInMarks op b=false):ME X (.Compare a [op] [b] pos) (mB (b2 fa fb g)):=PE.imp (zc k d e j) λ_ _ _ h=>R3 i h
def gD(k:bh X (compareOp op) r)(i:ef X.K r g)(d:MC X a fa)(e:MC X b fb)(j:behindInMarks op b=false):MT X (.Compare a [op] [b] pos) (b2 fa fb g):=PT.imp (zd k d e j) λ_ _ _ h=>Ad i h
def oq(j:IxR X r)(i:dw X.K r g)(d:MC X a fa)(c:MC X b fb)(hs:nZ b):ME X (.Subscript a b pos) (b2 fa fb g):=PE.imp (n6 j d c hs) λ_ _ _ h=>oo i h
noncomputable def i2(C:Int->Int->Bool)(g:Int->Int->Int):D->D->Option D
 | .int i,.int j=>if C i j=true then some (.int (g i j))else none
 | _,_=>none
noncomputable def lO(g:Int->Int->Bool):D->D->Option Bool
 | .int i,.int j=>some (g i j)
 | _,_=>none
def Ae(k:∀i j,n i j=true->C i j):dw K (rI C λi j=>.int (g i j)) (i2 n g):=by
 intro x y p r d H G Q h s m o q;unfold i2 at h
 split at h
 .split at h
  .rename_i i j l
   cases h;subst m o;show{i,j,rfl,rfl,k i j l,q _ H G (.refl s) (by rw[Rp])}
  .cases h
 .cases h
def Lf:dw K (gC λi j=>.int (g i j)) (i2 (λ_ _=>true) g):=by
 intro x y m n d H G Q h s l k q;unfold i2 at h
 split at h
 .split at h
  .rename_i i j o
   cases h;subst l k;show{i,j,rfl,rfl,q _ H G (.refl s) (by rw[Rp])}
  .cases h
 .cases h
def jT:ef K (gC λi j=>.bl (g i j)) (lO g):=by
 intro x y m n d H G Q h s l k q;unfold lO at h
 split at h
 .rename_i i j
  cases h;subst l k;show{(i),j,rfl,rfl,q}
 .cases h
def aX:D->D->Option D:=i2 (λ_ _=>true) λi j=>i+j
def eS:D->D->Option D:=i2 (λ_ _=>true) λi j=>i-j
def fT:D->D->Option D:=i2 (λi j=>decide (-(2^64)<i)&&decide (i<2^64)||(decide (-(2^64)<j)&&decide (j<2^64))) λi j=>i*j
def bJ:D->D->Option D:=i2 (λ_ j=>decide (0<j)&&decide (j<1073741824)) λi j=>i/j
def aE:D->D->Option D:=i2 (λ_ j=>decide (0<j)) λi j=>i%j
def fF:=lO λi j=>decide (i<j)
def uu:=lO λi j=>decide (i<=j)
def dE:=lO λi j=>decide (j<i)
def uv:=lO λi j=>decide (j<=i)
mutual
def aL:D->Nat
 | .tup l=>aY l+1
 | .lst l=>aY l+1
 | .scr _=>1
 | .dct _ _ _=>1000
 | .obj _ _ _=>1000
 | .adr _=>1000
 | _=>0
def aY:AN->Nat
 | []=>0
 | d::l=>max (aL d) (aY l)
end
mutual
theorem ot:∀d:D,(aK d).depth<=aL d
 | .non=>by simp[aK,PyData.depth]
 | .bl b=>by simp[aK,PyData.depth]
 | .int b=>by simp[aK,PyData.depth]
 | .str b=>by simp[aK,PyData.depth]
 | .tup l=>by let:=Af l;simp[aK,PyData.depth,aL];lia
 | .lst l=>by let:=Af l;simp[aK,PyData.depth,aL];lia
 | .scr ns=>by rw[aK,PyData.depth,aL,W.ke_depthAll];grind
 | .dct _ _ _=>by simp[aK,PyData.depth]
 | .obj _ _ _=>by simp[aK,PyData.depth]
 | .adr _=>by simp[aK,PyData.depth]
theorem Af:∀l,PyData.depthAll (di l)<=aY l
 | []=>by simp[di,PyData.depthAll]
 | d::l=>by let g:=ot d;let h:=Af l;simp[di,PyData.depthAll,aY];lia
end
section
variable {σ:L2.St}{H:Hp}
mutual
theorem g9(I:Inv X pins σ H s):∀{d:D}{v:V}{u:Value},aL d<=100->Rp X.K H d v->RelV v u->∃j,Reads s.heap u (aK d) j/\(aK d).canLay0=true
 | .non,v,u,_,r,q=>by
   subst r;cases q;show{_,by show .none,by simp[aK,PyData.canLay0]}
 | .bl b,v,u,_,r,q=>by
   subst r;cases q;show{_,by show .bool b,by simp[aK,PyData.canLay0]}
 | .int i,v,u,_,r,q=>by
   subst r;let{t,rfl}:=q;show{_,by show .int i t,by simp[aK,PyData.canLay0]}
 | .str x,v,u,_,r,q=>by
   let{rfl,G}:=r;let{t,rfl}:=q;show{_,by show .str x t,by simp[aK,PyData.canLay0,G]}
 | .tup l,v,u,h,r,q=>by
   let{a,xs,rfl,g,y}:=r;cases q
   let{_,its,p,C}:=(I.hok a _ g)
   let{o,w,k,n,m}:=C;let{j,q,z}:=Ag I (by simp [aL]at h;ac_nf) y p;show{_,.tuple w k m (by simpa using q),by simpa [aK,PyData.canLay0]using z}
 | .lst l,v,u,h,r,q=>by
   let{a,xs,rfl,g,y}:=r;cases q;let{its,p,pl,_}:=I.list (.inl g);let{o,w,k,n,m}:=pl.isList;let{j,q,z}:=Ag I (by simp [aL]at h;ac_nf) y p;show{_,.list w k m (by simpa using q),by simpa [aK,PyData.canLay0]using z}
 | .dct _ _ _,v,u,h,r,q=>by simp[aL]at h
 | .obj _ _ _,v,u,h,r,q=>by simp[aL]at h
 | .adr _,v,u,h,r,q=>by simp[aL]at h
 | .scr ns,v,u,_,r,q=>by
   let{a,rfl,g}:=r;cases q;let{its,p,pl,_}:=I.list g;show{_,W.reads_of_ints pl.isList (zx p),by rw[aK];simp[PyData.canLay0,W.ke_canLayAll0]}
theorem Ag(I:Inv X pins σ H s):∀{l:AN}{xs:AM}{us:AC},aY l<=100->RpL X.K H l xs->Vals xs us->∃j,ReadsAll s.heap us (di l) j/\PyData.canLayAll0 (di l)=true
 | [],xs,us,_,r,q=>by
   subst r;cases q;show{_,by show .nil,by simp[di,PyData.canLayAll0]}
 | d::l,xs,us,h,r,q=>by
   let{x,xs,rfl,J,E}:=r;rw[aY]at h
   cases q with
   | cons B A=>
     let{j,w,k}:=g9 I ∅ J B;let{L,m,F}:=Ag I ∅ E A;show{_,by show .cons w m,by simp[di,PyData.canLayAll0,k,F]}
end
end
theorem lP(l:AN)(d:D):((di l).any λy=>PyData.eqv y (aK d))=l.any λy=>cH y d:=by
 induction l with
 | nil=>simp[di]
 | cons e l g=>
   rw[di,List.any_cons,g];rfl
def aA(g:Bool):D->D->Option Bool:=λd e=>if aL d<=60/\aL e<=60 then some (if g then !cH d e else cH d e)else none
def jU(K:W7)(g:Bool):R2:=λx y H Q=>∃d e,Rp K H d x/\Rp K H e y/\(aL d<=60/\aL e<=60)/\Q (.bl (if g then !cH d e else cH d e)) H
theorem Ah(r:X.A.units+64<cLine):bh X (compareOp .Eq) (jU X.K false):=by
 intro b s p H x y v u Q I m c h;let{d,e,n,j,t,q}:=h;let{g,i,o}:=g9 I ∅ n m;let{l,k,f}:=g9 I ∅ j c;show SeqAt.eqOverData _ X.w X.A _ s v u _ _ g l _ i k o f (by let:=ot e;ac_nf) {.bl _,H,I,rfl,q}
theorem ox(z:X.A.units+64<cLine):bh X (compareOp .NotEq) (jU X.K true):=by
 intro b s c H x y v u Q I o i h;let{d,e,m,j,w,q}:=h;let{r,p,k}:=g9 I ∅ m o;let{n,t,l}:=g9 I ∅ j i;show SeqAt.neOverData _ X.w X.A _ s v u _ _ r n _ p t k l (by let:=ot d;symm) {.bl _,H,I,rfl,q}
theorem oy:ef K (jU K d) (aA d):=by
 intro x y i j b H G Q h s k g q;unfold aA at h
 split at h
 .cases h
  show{i,j,k.rp s,g.rp s,by assumption,q}
 .cases h
noncomputable def Yk:D->Option AN
 | .tup l=>some l
 | .lst l=>some l
 | .scr a=>some (a.map .int)
 | _=>none
def dj(d:D)(l:AN):Bool:=l.any λy=>cH y d
def dq(g:Bool):D->D->Option Bool:=λd c=>(Yk c).bind λl=>if aY l<=60/\aL d<=60 then some (if g then !dj d l else dj d l)else none
def jV(K:W7)(g:Bool):R2:=λx y H Q=>∃d c l,Rp K H d x/\Rp K H c y/\Yk c=some l/\(aY l<=60/\aL d<=60)/\Q (.bl (if g then !dj d l else dj d l)) H
def g_{c:D}(h:Yk c=some l):c=.tup l\/c=.lst l\/∃ns,c=.scr ns/\l=ns.map D.int:=by
 cases c with
 | tup m=>cases h;show .inl rfl
 | lst m=>cases h;show .inr (.inl rfl)
 | scr ns=>cases h;show .inr (.inr {(ns),rfl,rfl})
 | non=>cases h
 | bl _=>cases h
 | int _=>cases h
 | str _=>cases h
 | dct _ _ _=>cases h
 | obj _ _ _=>cases h
 | adr _=>cases h
theorem Ai:∀ns:AF,di (ns.map D.int)=ns.map PyData.int
 | []=>by simp[di]
 | n::ns=>by simp[di,aK,Ai ns]
theorem oz(B:X.A.units+64<cLine):bh X (compareOp .In) (jV X.K false):=by
 intro b s f H x y v u Q I t o h;let{d,c,l,p,w,n,C,q}:=h;let{E,m,k}:=g9 I ∅ p t
 let r:aL c<=61:=by
  let rfl+rfl+{e,rfl,rfl}:=g_ n
  .rw[aL];ext
  .rw[aL];ext
  .rw[aL];ac_nf
 let{A,j,i}:=g9 I ∅ w o;let z:=ot d;let rfl+rfl+{e,rfl,rfl}:=g_ n
 .rw[aK]at j i
  show SeqAt.in_tuple_reads j m (by simpa [PyData.canLay0]using i) k ∅ {.bl _,H,I,rfl,by rwa [lP]}
 .rw[aK]at j i
  show SeqAt.in_list_reads j m (by simpa [PyData.canLay0]using i) k ∅ {.bl _,H,I,rfl,by rwa [lP]}
 .rw[aK,<-Ai]at j i
  show SeqAt.in_list_reads j m (by simpa [PyData.canLay0]using i) k ∅ {.bl _,H,I,rfl,by rwa [lP]}
theorem R4(B:X.A.units+64<cLine):bh X (compareOp .NotIn) (jV X.K true):=by
 intro b s f H x y v u Q I t o h;let{d,c,l,p,w,n,C,q}:=h;let{E,m,k}:=g9 I ∅ p t
 let r:aL c<=61:=by
  let rfl+rfl+{e,rfl,rfl}:=g_ n
  .rw[aL];ac_nf
  .rw[aL];ac_nf
  .rw[aL];ac_nf
 let{A,j,i}:=g9 I ∅ w o;let z:=ot d;let rfl+rfl+{e,rfl,rfl}:=g_ n
 .rw[aK]at j i
  show SeqAt.notIn_tuple_reads j m (by simpa [PyData.canLay0]using i) k ∅ {.bl _,H,I,rfl,by rwa [lP]}
 .rw[aK]at j i
  show SeqAt.notIn_list_reads j m (by simpa [PyData.canLay0]using i) k ∅ {.bl _,H,I,rfl,by rwa [lP]}
 .rw[aK,<-Ai]at j i
  show SeqAt.notIn_list_reads j m (by simpa [PyData.canLay0]using i) k ∅ {.bl _,H,I,rfl,by rwa [lP]}
theorem Aj:ef K (jV K d) (dq d):=by
 intro x y i k b H G Q h s m g q;let{l,j,h}:=qa h
 split at h
 .cases h
  show{i,k,l,m.rp s,g.rp s,j,by assumption,q}
 .cases h
end
section
variable {a b c e:Expr}{fb f:AU}{fc fd:AT}{ga:AV}{rest:AK}
noncomputable def aI:D->Option Bool
 | .non=>some false
 | .bl b=>some b
 | .int i=>some (i != 0)
 | .tup l=>some (!l.isEmpty)
 | .lst l=>some (!l.isEmpty)
 | .scr a=>some (!a.isEmpty)
 | .str _=>none
 | .dct _ _ _=>none
 | .obj _ _ _=>none
 | .adr _=>none
theorem Ak(h:aI d=some k)(r:Ct X.K G H d v):jC X.K v H k:=by
 cases d with
 | non=>subst r;cases h;rfl
 | bl b=>subst r;cases h;rfl
 | int i=>subst r;cases h;rfl
 | str x=>cases h
 | dct _ _ _=>cases h
 | obj _ _ _=>cases h
 | adr _=>cases h
 | tup l=>
   let{a,c,rfl,g,j}:=r;cases h;show .inr (.inl {c,.inl (.inl g.1),?_});let:=j.length;grind
 | lst l=>
   let{a,c,rfl,g,j}:=r;cases h;show .inl {c,.inl g,?_};let:=j.length;grind
 | scr e=>
   let{a,rfl,g}:=r;cases h;show .inl {_,g,?_};cases e<;>simp
noncomputable def cZ(fc fd:AT):AT:=λa=>(fc a).bind λk=>if k=true then fd a else some false
noncomputable def cT(fc fd:AT):AT:=λa=>(fc a).bind λk=>if k=true then some true else fd a
noncomputable def cg(fc:AT):AT:=λa=>(fc a).map (!·)
abbrev MW(X:Cx)(e:Expr)(f:AT):Prop:=PW X e (tTof X.K f)
def PW.imp(h:PW X e t)(i:∀σ H Q,t' σ H Q->t σ H Q):PW X e t':=λd a s σ H Q I g=>h d _ s σ H Q I (i σ H Q g)
theorem Al(h:tTof K (cZ fc fd) σ H Q):nA (tTof K fc) (tTof K fd) σ H Q:=by
 let{a,k,p,r,G,e,s,h}:=h;unfold cZ at e;let{g,j,e}:=qa e;show tTof.at j s λq o d l=>?_
 cases g with
 | true=>
   rw[if_pos rfl]at e ⊢;show tTof.at e l λi m n _=>h i m (d.trans n)
 | false=>
   grind
theorem Am(h:tTof K (cT fc fd) σ H Q):Kf (tTof K fc) (tTof K fd) σ H Q:=by
 let{a,k,p,r,G,e,s,h}:=h;unfold cT at e;let{g,j,e}:=qa e;show tTof.at j s λq o d l=>?_
 cases g with
 | false=>
   rw[if_neg qi]at e ⊢;show tTof.at e l λi m n _=>h i m (d.trans n)
 | true=>
   symm
noncomputable def hF:D->Option Bool
 | .bl b=>some b
 | _=>none
def An(h:hF d=some k):d=.bl k:=by cases d<;>simp[hF]at h;subst h;rfl
def eT(fa fb:AU):AU:=λa=>(b1 fa hF a).bind λk=>if k=true then fb a else some (.bl false)
def Ao(fa fb:AU):AU:=λρ=>(b1 fa hF ρ).bind λk=>if k=true then some (.bl true)else fb ρ
def hJ(fa:AU):AU:=λa=>(b1 fa hF a).map λk=>.bl (!k)
noncomputable def d8(fc:AT)(fa fb:AU):AU:=λa=>(fc a).bind λk=>if k=true then fa a else fb a
noncomputable def iW:D->Bool
 | .non=>true
 | _=>false
def Lg(r:Ct K G H d v):decide (v=V.non)=iW d:=by
 cases d with
 | non=>subst r;rfl
 | bl _=>subst r;rfl
 | int _=>subst r;rfl
 | str _=>let{rfl,_}:=r;rfl
 | tup _=>let{_,_,rfl,_}:=r;rfl
 | lst _=>let{_,_,rfl,_}:=r;rfl
 | scr _=>let{_,rfl,_}:=r;rfl
 | dct _ _ _=>let{_,_,_,rfl,_}:=r;rfl
 | obj _ _ _=>let{_,_,_,_,rfl,_}:=r;rfl
 | adr _=>subst r;rfl
def cK(g:Bool):D->D->Option Bool:=λd e=>if iW e then some (if g then !iW d else iW d)else none
def Ap:ef K (λx y H Q=>y=.non/\Q (.bl (decide (x=.non))) H) (cK false):=by
 intro x y k i b H G Q h s g j q;unfold cK at h
 split at h
 .rename_i d
  cases h;cases i<;>simp[iW]at d;show{j,by rwa [Lg g]}
 .cases h
def Lh:ef K (λx y H Q=>y=.non/\Q (.bl (!decide (x=.non))) H) (cK true):=by
 intro x y k i b H G Q h s g j q;unfold cK at h
 split at h
 .rename_i d
  cases h;cases i<;>simp[iW]at d;show{j,by rwa [Lg g]}
 .cases h
def aw:D->D->Option D
 | c,.int i=>(Yk c).bind λl=>aN l i
 | _,_=>none
theorem Aq(r:RpL K G l xs)(h:aN l i=some d):∃x,aN xs i=some x/\Rp K G d x:=by
 unfold aN at h ⊢;rw[r.length];let{j,k,g}:=qa h;let{x,m,n}:=r.get g
 ext
def Ar:dw X.K (KG X.K) aw:=by
 intro x y u w d H G Q h s n r q;unfold aw at h
 split at h
 .rename_i c i
  let{l,t,m}:=qa h;subst r;let rfl+rfl+{b,rfl,rfl}:=g_ t
  .let{p,a,rfl,g,o}:=n
   let{v,k,j}:=Aq o m;show .inr (.inl {p,a,i,v,rfl,rfl,.inl (.inl g.1),k,q v H G (.refl s) j})
  .let{p,a,rfl,g,o}:=n
   let{v,k,j}:=Aq o m;show .inl {p,a,i,v,rfl,rfl,.inl g,k,q v H G (.refl s) j}
  .let{p,rfl,g}:=n
   let{v,k,j}:=Aq (.ints b) m;show .inl {p,_,i,v,rfl,rfl,g,k,q v H G (.refl s) j}
 .cases h
noncomputable def eU:D->Option Int
 | .int i=>some i
 | _=>none
def c4(f:Option AU):Ro->Option (Option Int):=λa=>match f with
 | none=>some none
 | some f=>(b1 f eU a).map some
def aB(l:AN)(lo g:Option Int):AN:=(l.drop (HT.sIx l.length 0 lo)).take (HT.sIx l.length l.length g-HT.sIx l.length 0 lo)
noncomputable def fU:D->Option AN
 | .lst l=>some l
 | .scr a=>some (a.map .int)
 | _=>none
def R5(h:fU d=some l)(r:Ct K G H d v):∃p xs,v=.ref p/\SqL K H p xs/\RpL K G l xs:=by
 cases d with
 | lst m=>
   cases h;let{p,xs,e,g,q}:=r;show{p,xs,e,.inl g,q}
 | scr a=>
   cases h;let{p,e,g}:=r;show{p,_,e,g,.ints a}
 | non=>cases h
 | bl _=>cases h
 | int _=>cases h
 | str _=>cases h
 | tup _=>cases h
 | dct _ _ _=>cases h
 | obj _ _ _=>cases h
 | adr _=>cases h
def aO(fa:AU)(lo d:Option AU):AV:=λa=>(b1 fa fU a).bind λl=>(c4 lo a).bind λi=>(c4 d a).bind λj=>some (aB l i j)
abbrev tO(K:W7)(f:Option AU):TO:=match f with
 | none=>KC
 | some f=>nY (tCof K f)
def uw{f:Option AU}(e:c4 f ρ=some i)(s:SR K q r σ H G ρ)(h:∀H' a,Gr H G H' a->SR K q r σ H' a ρ->Q i H'):tO K f σ H Q:=by
 cases f with
 | none=>
   cases e;show h H G (.refl s.seen) s
 | some f=>
   let{k,p,rfl}:=qc e;let{d,n,g}:=cI p
   show tCof.at n s λv l t o j m=>{k,?_,h l t o m}
   cases d<;>simp[eU]at g;subst g;show j
def As:PO X none (tO X.K none):=KD
noncomputable def lF(f:AV):AU:=λa=>(f a).map .lst
def MF.me(h:MF X e g):ME X e (lF g):=PE.imp h λw H Q i=>by
 let{a,d,m,u,G,e,s,h}:=i;let{l,t,rfl}:=qc e
 show⟨a,l,m,u,G,t,s,λp f c v g k j n r=>h _ c _ (g.show k j n) (by
  show{p,f,rfl,.inl Yo,r.mono λb o q=>?_}
  rwa [Yl (Yr q j)])⟩
def ae:AV:=λ_=>some []
noncomputable def Yb(f:AU)(g:AV):AV:=λa=>(f a).bind λd=>(g a).map (d::·)
def oA:MA X [] ae:=PA.imp dC λb H Q d=>by
 let{a,l,i,g,G,e,s,h}:=d;cases e;show h [] H G (.refl s.seen) .nil
def Li(p:ME X e f)(k:MA X es ga)(hs:Zj X e es:=by rfl):MA X (e::es) (Yb f ga):=PA.imp (cx p k hs) λc H Q g=>by
 let{a,l,w,A,G,e,s,h}:=g;let{d,t,e}:=qa e;let{y,m,rfl}:=qc e;show tOf.at t s λv z x r q o=>tAof.at m o λb j u i n _=>h _ j u (r.trans i) (.cons (q.mono i.g) n)
def Lj:t7 X [] ae:=PA.imp dC λb H Q d=>by
 let{a,l,i,g,G,e,s,h}:=d;cases e;show h [] H G (.refl s.seen) rfl
def Lk(p:MC X e f)(k:t7 X es ga)(hs:Zj X e es:=by rfl):t7 X (e::es) (Yb f ga):=PA.imp (cx p k hs) λc H Q g=>by
 let{b,l,w,A,G,e,s,h}:=g;let{d,t,e}:=qa e;let{y,m,rfl}:=qc e;show tCof.at t s λv z x r q o=>tCAof.at m o λa j u i n _=>h _ j u (r.trans i) {v,a,rfl,q.grow i,n}
noncomputable def bZ:Nat:=1000000
def jW(h:n<=bZ):n<=sizeLine:=Qg h (by decide)
def bf(ga:AV):AU:=λa=>(ga a).bind λl=>if l.length<=bZ then some (.tup l)else none
def ah(ga:AV):AV:=λa=>(ga a).bind λl=>if l.length<=bZ then some l else none
noncomputable def cC(ga:AV)(g:AN->Option D):AU:=λa=>(ga a).bind g
noncomputable def cF(ga:AV)(g:AN->Option AN):AV:=λa=>(ga a).bind g
def oB(m:cb K r g)(h:tOf K (cC ga g) σ H Q):tP r (tCAof K ga) σ H Q:=by
 let{f,d,w,x,G,e,s,h}:=h;let{l,t,n}:=qa e;show tCAof.at t s λa k i u p j=>m a l d k i Q n j.seen p λv b c q o=>h v b c (u.trans q) o
def Ll(m:fS K r g)(h:gZ K (cF ga g) σ H Q):tP r (tCAof K ga) σ H Q:=by
 let{B,d,z,A,G,e,s,h}:=h;let{l,v,n}:=qa e;show tCAof.at v s λa k j i t w=>m a l d k j Q n w.seen t λp b f c u x q y o=>h p b f c (i.trans u) (i.h.free x) q y o
section
variable {x:Str}{p:Pos}{id T:String}{r:AM->Hp->VK->Prop}{g:AN->Option D}{gf:AN->Option AN}
end
def bE(K:W7)(n:Nat)(g:AN->Option D):Sp:=λa H Q _=>a.length=n/\∃c d G,Same G H/\RpL K G c a/\g c=some d/\∀v b e,Gr H G b e->Rp K e d v->Q v b
theorem Au{p:Pos}(F:FnOk X.prog X.w X.K X.mg X.base bY k g m ps (bE X.K n A))(E:Room k X.A)(z:Gl X x)(a:X.mg x=some (.ref g))(u:W.keepIn X.K (.ref g)=true)(D:Binds X.K m ps [])(L:MA X (e::es) ga)(o:ba x:=by decide)(w:starEach (e::es) X.env=(false,eval e X.env)::starEach es X.env:=by rfl)(j:(backTo pos (starEach es X.env)).any (·.1)=false:=by rfl)(R:∀ρ l,ga ρ=some l->l.length=n):ME X (.Call (.Name x p) (e::es) [] pos) (cC ga A):=
 PE.imp (nU F E z a u D .nil jK L o w j) λM H Q i=>by
  let{ρ,d,N,O,G,e,s,h}:=i;let{l,t,C}:=qa e;show tAof.at t s λK P B J q r=>?_;rw[wz];show{by rw[q.length];grind,l,d,B,r.seen,q,C,λv b c I y=>h v b c (J.trans I) y}
def R6(h:ae ρ=some l):l.length=0:=by cases h;rfl
theorem oJ(i:∀ρ l,g ρ=some l->l.length=n):∀ρ l,Yb f g ρ=some l->l.length=n+1:=λρ l h=>by
 let{d,k,e}:=qa h;let{m,j,rfl}:=qc e;grind
def aF:AN->Option D
 | [c]=>(Yk c).map λl=>.int l.length
 | _=>none
def Av{c:D}(h:Yk c=some l)(r:Ct K G H c v):∃p xs,v=.ref p/\(SqL K H p xs\/SqT K H p xs)/\RpL K G l xs:=by
 let rfl+rfl+{a,rfl,rfl}:=g_ h
 .let{p,xs,rfl,g,d}:=r
  show{p,xs,rfl,.inr (.inl (.inl g.1)),d}
 .let{p,xs,rfl,g,d}:=r
  show{p,xs,rfl,.inl (.inl g),d}
 .let{p,rfl,g}:=r
  show{p,_,rfl,.inl g,.ints a}
def oN(h:RpL K G [d] vs):∃v,vs=[v]/\Rp K G d v:=by
 rw[RpL]at h;let{x,r,rfl,h1,h2}:=h;rw[RpL]at h2;subst h2;show{(x),rfl,h1}
theorem eV(h:jQ K G H [d] vs):∃v,vs=[v]/\Ct K G H d v:=by
 let{x,r,rfl,i,g}:=h;cases (g);grind
def iX:cb X.K (λxs H Q=>∃p ys,xs=[.ref p]/\(SqL X.K H p ys\/SqT X.K H p ys)/\Q (.int ys.length) H) aF:=by
 intro b a d H G Q h s r q
 match a,h,r with
 | [c],h,r=>
   let{l,k,rfl}:=qc h;let{v,rfl,g}:=eV r;let{p,xs,rfl,j,i}:=Av k g;show{p,xs,rfl,j,q _ H G (.refl s) (by rw[Rp,i.length])}
def ux:AN->Option AN
 | [c]=>Yk c
 | _=>none
def R7:fS X.K (λxs H Q=>∃p ys,xs=[.ref p]/\(SqL X.K H p ys\/SqT X.K H p ys)/\∀l,H l=none->Q (.ref l) (upd H l (.lst ys))) ux:=by
 intro b a l H G Q h s r q
 match a,h,r with
 | [c],h,r=>
   let{v,rfl,j}:=eV r;let{p,xs,rfl,i,g}:=Av h j;show{p,xs,rfl,i,λm d=>q m xs _ G (.hid s d _) d (s.free d) Yo g}
def cj:AN->Option D
 | [c]=>(Yk c).map .tup
 | _=>none
theorem Lm:cb X.K (λxs H Q=>∃p ys,xs=[.ref p]/\((SqL X.K H p ys/\∀l,H l=none->Q (.ref l) (upd H l (.tup ys)))\/(SqT X.K H p ys/\Q (.ref p) H))) cj:=by
 intro e b d H G Q h s r q
 match b,h,r with
 | [c],h,r=>
   let{l,n,rfl}:=qc h;let{v,rfl,j}:=eV r;let rfl+rfl+{a,rfl,rfl}:=g_ n
   .let{p,xs,rfl,g,k}:=j
    show{p,xs,rfl,.inr {.inl (.inl g.1),q _ H G (.refl s) (by rw[Rp];ext)}}
   .let{p,xs,rfl,g,k}:=j
    show{p,xs,rfl,.inl {.inl g,λm i=>q _ _ _ (.new s i _) ({m,xs,rfl,Yo,k.mono (Gr.new s i _).g})}}
   .let{p,rfl,g}:=j
    show{p,_,rfl,.inl {g,λm i=>q _ _ _ (.new s i _) ({m,_,rfl,Yo,.ints a})}}
noncomputable def eh:AN->Option D
 | [.int i]=>some (.int i)
 | [.bl k]=>some (.int (if k then 1 else 0))
 | _=>none
def Ln:cb X.K (λxs H Q=>(∃i,xs=[.int i]/\Q (.int i) H)\/∃k,xs=[.bl k]/\Q (.int (if k then 1 else 0)) H) eh:=by
 intro vs ds d H G Q h s r q
 match ds,h,r with
 | [.int i],h,r=>
   cases h;let{v,rfl,g}:=eV r;subst g;show .inl {i,rfl,q _ H G (.refl s) (by rw[Rp])}
 | [.bl k],h,r=>
   cases h;let{v,rfl,g}:=eV r;subst g;show .inr {k,rfl,q _ H G (.refl s) (by rw[Rp])}
end
section
variable {e:Expr}{f:AU}{fs gs:AR}
def ao:AR:=λa=>some (.nx a)
noncomputable def ag(f g:AR):AR:=λb=>(f b).bind fun
 | .nx a=>g a
 | o=>some o
def Aw:MB X [] ao:=PSs.imp nE λF d H a=>by
 let{g,f,c,b,G,e,s,h}:=a;cases e;show h d H G s
noncomputable def frz1(i:Nat)(ρ:Ro):Ro:=match ρ[i]? with
 | some (some (.ow l))=>ρ.set i (↑(.lst l))
 | some (some (.od t b a))=>ρ.set i (↑(.dct t b a))
 | _=>ρ
def SR.frz1(s:SR K H0 G0 σ H G ρ)(i:Nat):∃G',SR K H0 G0 σ H G' (M.frz1 i ρ):=by
 unfold M.frz1
 split
 .rename_i l hl
  show s.freeze hl
 .rename_i t ks vs hl
  show s.freezed hl
 .show{(G),s}
def frz(a:AE)(ρ:Ro):Ro:=a.foldl (λr i=>frz1 i r) ρ
theorem SR.frz:∀(a:AE) {G:Hp}{ρ:Ro},SR K c b σ H G ρ->∃d,SR K c b σ H d (M.frz a ρ)
 | [],G,_,s=>{(G),s}
 | i::a,_,ρ,s=>by
   let{d,e}:=s.frz1 i;show SR.frz a e
def SR.frz1T(s:SR K H0 G0 σ H G ρ)(i:Nat):∃G',SR K H0 G0 σ H G' (M.frz1 i ρ)/\∀b ys,G' b=some (.tup ys)->G b=some (.tup ys):=by
 unfold M.frz1
 split
 .rename_i l hl
  show s.freezeT hl
 .rename_i t ks vs hl
  show s.freezedT hl
 .show{G,s,λ_ _ h=>h}
theorem SR.frzT:∀(a:AE) {G:Hp}{ρ:Ro},SR K j c σ H G ρ->∃f,SR K j c σ H f (M.frz a ρ)/\∀b ys,f b=some (.tup ys)->G b=some (.tup ys)
 | [],G,_,s=>{G,s,λ_ _ h=>h}
 | i::a,_,ρ,s=>by
   let{f,m,g}:=s.frz1T i;let{k,l,d}:=SR.frzT a m;show{k,l,λb ys e=>g b ys (d b ys e)}
def wF(a:AE)(f:AR):AR:=λb=>f (frz a b)
noncomputable def ax(i:Nat)(f:AU):AR:=λa=>(f a).map λd=>.nx (a.set i (↑d))
noncomputable def aM(i:Nat)(f:AV):AR:=λa=>(f a).map λl=>.nx (a.set i (some (.ow l)))
def Ax(h:lL K (ax i f) F σ H):fO (tOf K f) (lI i) F σ H:=by
 let{o,n,m,l,G,e,s,h}:=h;let{d,c,rfl}:=qc e;show tOf.at c s λv b j k a g=>h _ b j (g.set_sh i a)
def Ay(h:lL K (aM i gl) F σ H):fO (gZ K gl) (lI i) F σ H:=by
 let{o,m,d,k,G,e,s,h}:=h;let{l,c,rfl}:=qc e;show{o,l,d,k,G,c,s,λp q n f g a j b r=>h _ n f (s.set_ow i g a j b r)}
noncomputable def ai(f:AU):AR:=λa=>(f a).map .rt
noncomputable def aH(c:AT)(f g:AR):AR:=λa=>(c a).bind λk=>if k=true then f a else g a
def bP(i:Nat)(f:AU)(g:AN->D->Option AN):AR:=λb=>(cJ i b).bind λl=>(f b).bind λd=>(g l d).map λa=>.nx (b.set i (some (.ow a)))
theorem Az(s:SR K k b σ H G ρ)(h:cJ i ρ=some l):∃a xs,σ[i]?=some (some (V.ref a))/\H a=some (.lst xs)/\RpL K G l xs/\G a=none:=by
 let{a,xs,j,g,c,d,m}:=s.ow i l (t9 h)
 ext
def bb(l:AN)(d:D):Option AN:=if l.length<bZ then some (l++[d])else none
def oO(l:ds.length<=sizeLine)(h:∀(i:Nat) a b,Same G' b->Same b a->(∀d,ds[i]?=some d->J.go i a/\∀y g,J.yld i a y g->g=a/\Rp K b d y)/\(ds.length<=i->J.stop i a)):Wk K J G' ds:=
 ⟨l,λi a b j c=>⟨λd k=>⟨((h i a b j c).1 d k).1,λy g q=>by
  let{rfl,r}:=((h i a b j c).1 d k).2 y g q
  show{b,.refl c,r}⟩,(h i a b j c).2⟩⟩
def AH(K:W7)(c:TE):TI:=λe H R=>c e H λx b=>∃a d,x=.ref a/\((SqL K b a d/\(d.length<=sizeLine->R (Kk K a) b))\/(SqT K b a d/\(d.length<=sizeLine->R (Kl K a) b)))
theorem AI(t:PE X l u):PI X tg l (AH X.K u):=by
 intro w s z H R I h;show aD (t _ s z H _ I h) λv d k=>?_;let{x,m,c,n,j}:=k;let{a,A,e,j}:=j;subst e;cases n;let{i,q}+{i,q}:=j
 .let{f,r,p,g}:=c.list i
  show wpAny_pyIter_list p.isList ({d.heap.objs.size,[d.heap.objs.size],_,_,m,rfl,c.kept λb o e=>qe _ e,QV a _,{_,qp _ rfl,rfl,rfl},λb y=>?_,q g})
  let e:b=d.heap.objs.size:=by symm
  subst e;show c.fpOk (qv _) (c.hok.fresh (qv _))
 .let{f,r,p,g}:=c.tuple i
  show wpAny_pyIter_tuple (p) ({d.heap.objs.size,[d.heap.objs.size],_,_,m,rfl,c.kept λb o e=>qe _ e,QW a _,{_,qp _ rfl,rfl,rfl},λb y=>?_,q g})
  let e:b=d.heap.objs.size:=by symm
  subst e;show c.fpOk (qv _) (c.hok.fresh (qv _))
noncomputable def dS(a n:Int):AN:=(List.range (n-a).toNat).map λi=>.int (a+(i:Nat))
def Lo(a n:Int):(dS a n).length=(n-a).toNat:=by simp[dS]
theorem AO(k:(n-a).toNat<=sizeLine):Wk K (tI a (n-a).toNat) G' (dS a n):=
 oO (by rwa [Lo]) λi h g _ _=>⟨λd c=>by
  unfold dS at c;rw[Qm]at c;let{j,b,rfl}:=qc c
  let e:i<(n-a).toNat:=by
   let:=(qo b).1;simpa using this
  rw[List.getElem?_range e]at b;cases b
  show{e,λy l q=>{(q.1),q.2}},λf=>by rwa [Lo]at f⟩
def ej:AN->Option AN
 | [.int n]=>if decide (-bZ<=n)&&decide (n<=bZ)then some (dS 0 n)else none
 | _=>none
theorem R8(h:ej l=some b):∃n:Int,l=[.int n]/\-1000000<=n/\n<=1000000/\b=dS 0 n:=by
 unfold ej at h
 split at h
 .split at h
  .let a:bZ=1000000:=by decide
   ext
  .cases h
 .cases h
noncomputable def aq(i:Nat):AS:=λd a=>some (a.set i (↑d))
noncomputable def oR(i j:Nat):AS:=λd c=>match d with
 | .tup [a,b]=>some ((c.set i (↑a)).set j (↑b))
 | _=>none
noncomputable def forM(gt:AS)(fb:AR):AN->AR
 | [],ρ=>some (.nx ρ)
 | d::ds,ρ=>(gt d ρ).bind λb=>(fb b).bind fun
   | .nx a=>forM gt fb ds a
   | .ct a=>forM gt fb ds a
   | .bk a=>some (.nx a)
   | .rt d=>some (.rt d)
def eu(gl:AV)(gt:AS)(fb:AR):AR:=λa=>(gl a).bind λb=>forM gt fb b a
theorem Lp:∀(f:AN) (ρ:Ro) (e:Out),forM gt fb f ρ=some e->(∃ρ',e=.nx ρ')\/∃d,e=.rt d
 | [],ρ,e,h=>by cases h;grind
 | d::f,ρ,e,h=>by
   let{b,g,h}:=qa h;let{o,c,h}:=qa h
   cases o with
   | nx a=>show Lp f a e h
   | ct a=>show Lp f a e h
   | bk a=>grind
   | rt d=>grind
noncomputable def aj(a:List AL)(ρ:Ro):Ro:=a.map λo=>o.bind λj=>match ρ[j]? with
 | some (some (.sh d))=>some (.sh d)
 | _=>none
theorem SR.cap(s:SR K p n σ H G ρ)(e:List AL):SR K H G (cY e σ) H G (aj e ρ):=by
 show .mkSh (.refl s.seen) (by simp[cY,aj]) (λi d h=>?_) (λi l h=>by
  unfold aj at h;rw[Qm]at h;let{o,c,b}:=qc h;let{j,rfl,a}:=qa b
  split at a<;>cases a) (λi t r f h=>by
  unfold aj at h;rw[Qm]at h;let{o,c,b}:=qc h;let{j,rfl,a}:=qa b
  split at a<;>cases a)
 unfold aj at h;rw[Qm]at h;let{o,c,b}:=qc h;let{j,rfl,a}:=qa b
 split at a
 .rename_i q k
  cases a;let{v,m,g}:=s.sh j _ k;show{v,?_,g};unfold cY;rw[Qm,c];change some ((σ[j]?).join)=_;rw[m];rfl
 .cases a
noncomputable def dU(gt:AS)(fc:AT)(fe:AU)(ρ:Ro):AN->Option AN
 | []=>some []
 | d::ds=>(gt d ρ).bind λa=>(fc a).bind λk=>if k=true then (fe a).bind λv=>(dU gt fc fe ρ ds).map (v::·)else dU gt fc fe ρ ds
def bo(gl:AV)(a:List AL)(gt:AS)(fc:AT)(fe:AU):AV:=λb=>(gl b).bind λc=>dU gt fc fe (aj a b) c
def tY:AT:=λ_=>some true
def AW(h:tTof K tY σ H Q):oh σ H Q:=by
 let{c,k,b,a,G,e,s,h}:=h;cases e;show h H G (.refl s.seen)
def AY:dR X [] (tTof X.K tY):=λa s b H Q I h=>zP _ s b H Q I (AW h)
def dV(h:src[i]?=some none):∀ρ d a,aq i d (aj src ρ)=some a->Le (aj src ρ) a:=λρ d a e=>by
 cases e;show{by simp,λj b c=>?_};by_cases f:j=i
 .subst f
  unfold aj at c;rw[Qm,h]at c;cases c
 .rwa [Qp (.symm f)]
def R9{f:List AL}{i k:Nat}(h:f[i]?=some none)(m:f[k]?=some none):∀ρ d a,oR i k d (aj f ρ)=some a->Le (aj f ρ) a:=λρ d a e=>by
 unfold oR at e
 split at e
 .cases e
  show{by simp,λj b l=>?_}
  let c:∀n,f[n]?=some none->j≠n:=λn g z=>by
   subst z;unfold aj at l;rw[Qm,g]at l;cases l
  rwa [Qp (.symm (c k m)),Qp (.symm (c i h))]
 .cases e
theorem Lq(hle:∀ρ d u,gt d (aj src ρ)=some u->Le (aj src ρ) u)(h:gZ K (bo gl src gt fc fe) σ H Q):tX (jR K gl) src (z9 K gt) (tTof K fc) (tOf K fe) σ H Q:=by
 let{ρ,l,H0,G0,G,e,s,h}:=h;let{ds,h1,N}:=qa e;show{ρ,ds,H0,G0,G,h1,s,λJ H1 R g1 wk p V=>?_};let s1:=s.grow g1;let sc:=s1.cap src;let gp:R p=none:=s1.seen.free V
 show⟨λi m σ' H'=>m=ds.length-i/\i<=ds.length/\∃G' a D c,SR K H1 R σ' H' G' (aj src ρ)/\H' p=some (.lst D)/\G' p=none/\RpL K G' a D/\D.length<=i/\dU gt fc fe (aj src ρ) (ds.drop i)=some c/\a++c=l,
  {_,rfl,Qh _,R,[],[],l,sc.grow (Gr.hid s1.seen V _),Yo,gp,.nil,Qh _,N,rfl},?_⟩
 rintro i m σ' H' ⟨rfl,hi,G',a,D,c,s',hx,gx,rx,hl,n,T⟩;let W:=wk.2 i H' G' s'.gr.g s'.seen;by_cases A:i<ds.length
 .let hdi:=qr A
  let{go,yl}:=W.1 _ hdi;rw[List.drop_eq_getElem_cons A,dU]at n;let{u,e1,n}:=qa n;let{k,e2,n}:=qa n;show .inr {go,λx H2 y=>?_};let{G2,U,r2}:=yl x H2 y
  let r:∀{Ha Z Hb S:Hp},Gr Ha Z Hb S->Ha p=some (.lst D)->Z p=none->Hb p=some (.lst D)/\S p=none:=λ{Ha Z Hb S} g e1 e2=>by
   show{g.h _ _ e1,?_}
   cases q:S p with
   | none=>rfl
   | some o=>
     let:=g.n p e2 (by rw[q];show λz=>nomatch z);rw[e1]at this;cases this
  let{hx2,gx2}:=r U hx gx;show{_,aj src ρ,u,H1,R,G2,e1,s'.grow U,r2,λσ3 s3=>?_};show tTof.at e2 s3 λH4 G4 g4 s4=>?_;let{I,O}:=r g4 hx2 gx2;let le:=hle ρ _ u e1
  cases k with
  | false=>
    show{ds.length-(i+1),by symm,rfl,A,G4,a,D,c,s4.le le,I,O,(rx.mono U.g).mono g4.g,by ac_nf,n,T}
  | true=>
    rw[if_pos rfl]at n ⊢;let{v,e3,n}:=qa n;let{C,e4,rfl}:=qc n;show tOf.at e3 s4 λw H5 G5 g5 r5 s5=>?_;let{Y,L}:=r g5 I O;let hz:=wk.1;show{D,Y,by ac_nf,ds.length-(i+1),by symm,rfl,A,G5,a++[v],D++[w],C,?_,Yo,L,(((rx.mono U.g).mono g4.g).mono g5.g).append (.one r5),by simp;ac_nf,e4,by simpa using T};let E:=s5.le le
    let P:∀(i:Nat) l,(aj src ρ)[i]?≠some (some (B.ow l)):=λi l h=>by
     unfold aj at h;rw[Qm]at h;let{o,h1,N}:=qc h;let{j,rfl,F}:=qa N
     split at F<;>cases F
    let M:∀(i:Nat) t ks vs,(aj src ρ)[i]?≠some (some (B.od t ks vs)):=λi t ks vs h=>by
     unfold aj at h;rw[Qm]at h;let{o,h1,N}:=qc h;let{j,rfl,F}:=qa N
     split at F<;>cases F
    show SR.mkSh {λb o q=>?_,E.gr.g,λb o q=>?_,E.gr.n} E.len E.sh P M
    .rw[Yl (Yr q V)];show E.gr.h b o q
    .rw[Yl (Yr q L)];show E.gr.s b o q
 .let ei:i=ds.length:=by ac_nf
  subst ei;rw[List.drop_length,dU]at n;cases n;rw[wz]at T;subst T;show .inl {W.2 (qv _),h p D H' G' (g1.trans s'.gr) (g1.h.free V) gx hx rx}
section
variable {N:AJ}{src:List AL}{gt:AS}{fc:AT}{fe:AU}
def AZ(S:fD X.N X.env.scope N src scope)(hc:X.calm=true)(hit:MI X tg iter gl)(hg:∀cl C fp s H,MG (bu X scope N cl C fp s H) tg gt)(hi:∀cl C fp s H,dR (bu X scope N cl C fp s H) ifs (tTof X.K fc))(he:∀cl C fp s H,ME (bu X scope N cl C fp s H) elt fe)(hle:∀ρ d ρ1,gt d (aj src ρ)=some ρ1->Le (aj src ρ) ρ1)(hs:∀x,foldedSetIterable iter X.env x=pure x:=by intro _;rfl):MF X (.ListComp elt [{tg,iter,ifs,0}] scope pos) (bo gl src gt fc fe):=
 PE.imp (KU S hc hit hg hi (.of he) hs) λ_ _ _ h=>Lq hle h
theorem A0(i:Nat){py spos:Pos}(hN:X.N.Nodup)(S:fD X.N X.env.scope N src scope)(hc:X.calm=true)(hit:MI X tg iter gl)(hg:∀cl C fp s H,MG (bu X scope N cl C fp s H) tg gt)(hi:∀cl C fp s H,dR (bu X scope N cl C fp s H) ifs (tTof X.K fc))(he:∀cl C fp s H,ME (bu X scope N cl C fp s H) elt fe)(hle:∀ρ d ρ1,gt d (aj src ρ)=some ρ1->Le (aj src ρ) ρ1)(hsw:swapsWith (.ListComp elt [{tg,iter,ifs,0}] scope pos) (some (.Name y py)) spos.line X.env=pure true:=by rfl)(hy:X.N[i]?=some y:=by rfl)(hx:dO X.env.scope y:=by trivial)(hf:Zm X y:=by trivial)(hs:∀x,foldedSetIterable iter X.env x=pure x:=by intro _;rfl):MS X (.Assign [.Name y py] (.ListComp elt [{tg,iter,ifs,0}] scope pos) spos) (aM i (bo gl src gt fc fe)):=
 PS.imp (KW S hc hit hg hi (.of he) hN hy hx hsw hf hs) λF σ H h=>by
  let{ρ,out,H0,G0,G,e,s,h}:=h;let{l,h1,rfl}:=qc e;show Lq hle {ρ,l,H0,G0,G,h1,s,λp xs H' G' g hp gp e' r=>h _ H' G' (s.set_ow i g hp gp e' r)}
end
noncomputable def Ye(n:Nat)(a:AN):Ro:=a.map (λd=>some (.sh d))++.replicate (n-a.length) none
noncomputable def av(k n:Nat)(fb:AR)(a:AN):Option D:=if a.length=k then (fb (Ye n a)).bind fun
 | .rt d=>some d
 | .nx _=>some .non
 | _=>none
 else none
theorem SR.start(s:Same G H)(r:RpL K G ds vs):SR K H G (start N vs) H G (Ye N.length ds):=by
 show .mkSh (.refl s) (by simp[L2.start,Ye,r.length]) (λi d h=>?_) (λi l h=>by
  unfold Ye at h
  symm) (λi t f vs h=>by
  unfold Ye at h
  symm)
 unfold Ye at h;rw[List.getElem?_append]at h
 split at h
 .rw[Qm]at h
  let{k,a,g}:=qc h;let{v,c,j}:=r.get a;unfold L2.start;symm
 symm
section
variable {P:P7}{w:World}
theorem R_{f:Addr}(F:Fun K x c st f u)(S:cG N I (aBb st))(p:N.length=n)(j:I.length=m)(T:∀(b:Value) (A:Around) (a:List Env) (s:Shared) (H:Hp) (E:XK),Room k (A.deeper (envOfC c (aBb st) (~~~s) f b))->MB (ay bY P w K mg base N c (aBb st) f b A a s H E).nox (aDb st) fb):
 FnOk P w K mg base bY (k+1) f u I (bE K m (av m n fb)):=by
 show F.ok S (λM H Q E h=>by rw[h.1,j]) λb A a s H M Q E t h=>?_;let{B,L,d,G,l,r,e,q}:=h;show{_,T b A a s H E t,?_};unfold av at e
 split at e
 .let{o,z,i}:=qa e
  show{Ye n L,o,H,G,G,z,by rw[<-p];show .start l r,?_}
  cases o with
  | rt U=>cases i;show λv C D g y=>q v C D g y
  | nx J=>cases i;show λO C D R=>q _ C D R.gr (by rw[Rp])
  | bk J=>cases i
  | ct J=>cases i
 .cases e
end
end
def aU(P:P7)(w:World)(K:W7)(d:AD)(b:Heap)(k n:Nat)(x:Str)(f:AJ)(e:AN->Option D):Prop:=
 ∃a c,FnOk P w K d b bY k a c f (bE K n e)/\Binds K c f []/\W.keepIn K (.ref a)=true/\d x=some (.ref a)
def A1{st:Stmt}(F:Fun K x q st a d)(b:Binds K d i [])(g:e x=some (.ref a))(h:FnOk P w K e c bY k a d i (bE K n f)):aU P w K e c k n x i f:={(a),d,h,b,F.kp,g}
section
variable {a b e:Expr}{fb:AU}{ga:AV}
noncomputable def aV:D->Option D
 | .int i=>some (.int (-i))
 | _=>none
def aC:D->D->Option AN
 | .lst a,.lst b=>if a.length+b.length<=bZ then some (a++b)else none
 | _,_=>none
def A3:R2:=λx y H Q=>∃l b a c,x=.ref l/\y=.ref b/\Rd H l (.lst a)/\Rd H b (.lst c)/\a.length+c.length<=sizeLine/\∀p,H p=none->Q (.ref p) (upd H p (.lst (a++c)))
theorem A4:bh X (binaryOp .Add) A3:=by
 intro C s F H x y v u Q I k f h;let{l,b,E,t,rfl,rfl,j,i,o,q}:=h;cases k;cases f;let{z,a,n,r,e}:=j.ok I.hok;let{w,c,A,d,D}:=i.ok I.hok;let p:=r.length;let m:=d.length;show PySem.P.add_list e D ?_ (by ext)
 let g:a.toArray++c.toArray=(a++c).toArray:=by simp
 rw[g];show{.ref _,_,I.lnew (r.append d) (by grind),rfl,q _ I.fresh}
noncomputable def fG:D->String
 | .non=>"NoneType"
 | .bl _=>"bool"
 | .int _=>"int"
 | .str _=>"str"
 | .tup _=>"tuple"
 | .lst _=>"list"
 | .scr _=>"list"
 | .dct _ _ _=>"dict"
 | .obj _ _ _=>"dict"
 | .adr _=>"dict"
noncomputable def jX:D->Bool
 | .scr _=>false
 | .dct t _ _=>!t
 | .obj _ _ _=>false
 | .adr _=>false
 | _=>true
def cL(T:String)(d:D):Option Bool:=if jX d=true then some (fG d==T||(T=="int"&&fG d=="bool"))else none
def A5(c:jX d=true)(r:Ct K G H d v):b_ K H v (.type (fG d)):=by
 cases d<;>rw[Ct]at r
 .subst r;show .non
 .subst r;show .bl _
 .subst r;show .int _
 .let{rfl,_}:=r;show .str _
 .let{a,b,rfl,g,_}:=r;show .tup g.1
 .let{a,b,rfl,g,_}:=r
  let g+{o,g}:=g
  .show .lst g
  .show .frz g
 .cases c
 .rename_i t _ _
  cases t with
  | true=>cases c
  | false=>
    let{a,_,_,rfl,g,_}:=r;let{_,_,g,_}+{g,_}:=g
    .show .dK g
    .cases g
 .cases c
 .cases c
def oV(T:String):Prop:=∀(K:W7) (d:D),W.kitOne K (.type (fG d)) (.type T)=some (fG d==T||(T=="int"&&fG d=="bool"))
def A6:oV "int":=λK d=>by cases d<;>rfl
def Sa:oV "bool":=λK d=>by cases d<;>rfl
def Lr:oV "str":=λK d=>by cases d<;>rfl
def Sb(i:oV T):b9 X (.builtin "isinstance") (λxs H Q=>∃x d G,xs=[x,.ty T]/\jX d=true/\Ct X.K G H d x/\Q (.bl (fG d==T||(T=="int"&&fG d=="bool"))) H):=by
 intro a s l H xs e Q I r h;let{x,d,G,rfl,j,f,q}:=h;let{u,k,rfl,c,g}:=jE r;cases (g)
 show Ri I c (A5 j f) (i X.K d) λb=>{.bl _,H,I.tok b,rfl,q}
end
noncomputable def ew(a:Int):AF->AF
 | []=>[a]
 | b::l=>if a<=b then a::b::l else b::ew a l
noncomputable def ey:AF->AF
 | []=>[]
 | a::l=>ew a (ey l)
theorem A7(a:Int):∀l:AF,(ew a l).Perm (a::l)
 | []=>.refl _
 | b::l=>by
   rw[ew]
   split
   .show .refl _
   .show((A7 a l).cons b).trans (.swap a b l)
theorem hO:∀l:AF,(ey l).Perm l
 | []=>.refl _
 | a::l=>(A7 a _).trans ((hO l).cons a)
theorem Ls(a:Int):∀l:AF,l.Pairwise (·<=·)->(ew a l).Pairwise (·<=·)
 | [],_=>by simp[ew]
 | b::l,h=>by
   rw[ew]
   split
   .rename_i d
    show List.pairwise_cons.mpr {λx c=>?_,h};let rfl+c:=qu c
    .show d
    .show Int.le_trans d ((List.pairwise_cons.mp h).1 x c)
   .show List.pairwise_cons.mpr {λx c=>?_,Ls a l (List.pairwise_cons.mp h).2}
    let rfl+c:=qu ((A7 a l).mem_iff.mp c)
    .lia
    ext
theorem jY:∀l:AF,(ey l).Pairwise (·<=·)
 | []=>.nil
 | a::l=>Ls a _ (jY l)
section
variable {w:World}{A:Around}{E:AA}
theorem Sd(m:s.heap.IsList l vs.toArray)(n:vs.length<2)(h:Q (.ref (~~~s+1)) {s with heap:=sortedAll s.heap vs vs.toArray}):wpAny (mZ prog w) A (call (.builtin "sorted") [.ref l]) Q E s:=by
 show Calls.call_function_entry kind_sorted plain_sorted entry_sorted (args_sorted1 _) ?_;show wa (wc ?_);show wa (collect_list m ?_ (by rw[jf];ac_nf));show wa (wpAny_newList ?_ (by rw[jf];ac_nf))
 let e:((s.heap.push (seqObj "list" #[] 0)).update (~~~s) (Obj.mapSeq (·++vs.toArray))).objs.size= ~~~s+1:=by
  ext
 let g:(((s.heap.push (seqObj "list" #[] 0)).update (~~~s) (Obj.mapSeq (·++vs.toArray))).push (seqObj "list" vs.toArray 0)).get? (~~~s+1)=some (seqObj "list" vs.toArray 0):=by
  rw[<-e];show qp _ rfl
 rw[e];show wa (we (wf slot_list_sort {_,g,rfl} entry_list_sort ?body (args_list_sort _)))
 case body=>
  rw[list_sort_plain];generalize j:({s with heap:=((s.heap.push (seqObj "list" #[] 0)).update (~~~s) (Obj.mapSeq (·++vs.toArray))).push (seqObj "list" vs.toArray 0)})=S at *
  let a:S.heap.get? (~~~s+1)=some (seqObj "list" vs.toArray 0):=by symm
  let o:=ql a;show wa (listItems_at a rfl ?_);show wa (listUpdate_at a rfl ?_ (by rw[qk,jf];ac_nf) (Qh _))
  obtain⟨p,c⟩:∃p,(S.heap.update (~~~s+1) (Obj.mapSeq λ_=>#[])).get? (~~~s+1)=some (seqObj "list" #[] p):={_,get?_update_seq a (λ_=>#[])}
  show wa (seqEpoch_at c rfl ?_);show wa (wpAny_newTuple ?_ (by rw[jf];ac_nf));show wa (wpAny_newList ?_ (Qh _));show we ?_
  let b:(((S.heap.update (~~~s+1) (Obj.mapSeq λ_=>#[])).push (seqObj "tuple" vs.toArray 0)).push (seqObj "list" #[] 0)).get? (~~~s+1)=some (seqObj "list" #[] p):=by
   rw[Heap.get?_push_ne _ _ _ (by rw[size_push',Heap.size_update];(subst_vars;simp)),Heap.get?_push_ne _ _ _ (by rw[Heap.size_update];(subst_vars;simp))];show c
  let d:vs.toArray.size<2:=by omega
  rw[if_pos d,if_pos d];show wa (wc ?_);show wa (wc ?_);dsimp only;show wa (seqEpoch_at b rfl ?_);show wa (listUpdate_at b rfl ?_ (hsz2:=by symm));simp only[bne_self_eq_false,Qo,if_false]
  let f:(arrOf (SortSt.mk' general' (vs.toArray.zip vs.toArray) #[] 7 none)).map (·.2)=vs.toArray:=by
   symm
  show wc {_,rfl,wc {_,rfl,?_}};let k:=h;rw[<-j,f];show k
noncomputable def ez(j:Int)(q:Bool)(i:Int)(p:Bool):Bool:=if j=i then (!q&&p)else decide (j<i)
theorem A8(z:IsTup s.heap b #[.int i t,.bool p])(k:IsTup s.heap c #[.int j u,.bool q])(h:R (ez j q i p) s):
 wpAny (mZ prog w) A (keyLt' (tuples' true) (.ref c) (.ref b)) R E s:=by
 let{r,f,_,o,m}:=z;let{v,g,_,n,l}:=k;show W.kat_lt g l f m ?_;change W.KatLex _ w A _ false R _ 0 s;unfold ez at h;show W.kat_cons (SeqAt.EqAt.int_int j u i t _ w _ _ (W.kat_go (λe=>W.kat_yes (W.kat_cons (SeqAt.EqAt.bool_bool q p _ w _ _ (W.kat_go (λy=>W.kat_yes (W.kat_nil ?_)) λy=>W.kat_no (W.kat_one _ _ (lt_bool ?_)))))) λe=>W.kat_no ?_))
 .simp_all
 .let d:=by simpa using e
  rw[if_pos d]at h
  cases p<;>cases q<;>first|show h|simp at y
 .let d:=by simpa using e
  rw[if_neg d]at h;show oneLt_int h
def Se(h:cmp 1 0 (λk s'=>if k=true then G #[1,0] s' else G #[0,1] s') S):(W.kas_sort 2).kasWp cmp G S:=by
 change cmp 1 0 (λk s'=>W.KasT.kasWp cmp _ G s') S
 let e:∀(k:Bool) (s':Shared),(if k=true then G #[1,0] s' else G #[0,1] s')=W.KasT.kasWp cmp (W.KasT.bind (W.KasT.bind (if k=true then W.KasT.ret 1 else W.kas_asc (List.toArray (List.range 2)) 0 2)
  λn=>if (n==2)=true then W.KasT.ret (n,List.toArray (List.range 2))else if n > 1 then .ask ((List.toArray (List.range 2)).getD 0 0) ((List.toArray (List.range 2)).getD (n-1) 0) λc=>if c=true then .ret (n,List.toArray (List.range 2))else W.kas_descPart n 2 (W.kas_rev (List.toArray (List.range 2)) 0 n)
   else W.kas_descPart n 2 (List.toArray (List.range 2))) λr=>if r.1<2 then W.kas_bin (2-max r.1 1) r.2 (max r.1 1)else .ret r.2) G s':=λk s'=>by cases k<;>rfl
 let e2:(fun(k:Bool) (s':Shared)=>if k=true then G #[1,0] s' else G #[0,1] s')=_:=funext λk=>funext λs'=>e k s';rw[e2]at h;show h
theorem Sf(Z:s.heap.IsList l #[.ref b,.ref c])(hb:IsTup s.heap b #[.int i t,.bool p])(H:IsTup s.heap c #[.int j u,.bool q])(h:Q (.ref (~~~s+1)) {s with heap:=sortedAll s.heap [.ref b,.ref c] (if ez j q i p=true then #[.ref c,.ref b]else #[.ref b,.ref c])}):wpAny (mZ prog w) A (call (.builtin "sorted") [.ref l]) Q E s:=by
 generalize m:[Value.ref b,Value.ref c]=vs at *;let J:s.heap.IsList l vs.toArray:=Z
 let D:vs.length=2:=by(subst_vars;simp)
 show Calls.call_function_entry kind_sorted plain_sorted entry_sorted (args_sorted1 _) ?_;unfold Builtin.«sorted»;show wa (m:=checkCount "sorted" 1 1 _) (wc ?_);show wa (collect_list J ?_ (by rw[jf];lia));show wa (wpAny_newList ?_ (by rw[jf];lia))
 let y:((s.heap.push (seqObj "list" #[] 0)).update (~~~s) (Obj.mapSeq (·++vs.toArray))).objs.size= ~~~s+1:=by
  ext
 let L:(((s.heap.push (seqObj "list" #[] 0)).update (~~~s) (Obj.mapSeq (·++vs.toArray))).push (seqObj "list" vs.toArray 0)).get? (~~~s+1)=some (seqObj "list" vs.toArray 0):=by
  rw[<-y];show qp _ rfl
 let M:∀b o,s.heap.get? b=some o->(((s.heap.push (seqObj "list" #[] 0)).update (~~~s) (Obj.mapSeq (·++vs.toArray))).push (seqObj "list" vs.toArray 0)).get? b=some o:=λb o q=>by
  let a:b< ~~~s:=ql q;rw[Heap.get?_push_ne _ _ _ (by ext<;>lia),Heap.get?_update_ne _ _ _ _ (qm a),Heap.get?_push_ne _ _ _ (qm a)];show q
 rw[y];show wa (we (wf slot_list_sort {_,L,rfl} entry_list_sort ?body (args_list_sort _)))
 case body=>
  rw[list_sort_plain];generalize hS:({s with heap:=((s.heap.push (seqObj "list" #[] 0)).update (~~~s) (Obj.mapSeq (·++vs.toArray))).push (seqObj "list" vs.toArray 0)})=S at *
  let d:S.heap.get? (~~~s+1)=some (seqObj "list" vs.toArray 0):=by grind
  let ha:(~~~s)+1<S.heap.objs.size:=ql d;show wa (listItems_at d rfl ?_);show wa (listUpdate_at d rfl ?_ (by rw[qk,jf];lia) (Qh _))
  obtain⟨e1,C⟩:∃e1,(S.heap.update (~~~s+1) (Obj.mapSeq λ_=>#[])).get? (~~~s+1)=some (seqObj "list" #[] e1):={_,get?_update_seq d (λ_=>#[])}
  show wa (seqEpoch_at C rfl ?_);show wa (wpAny_newTuple ?_ (by change vs.length<=_;rw[jf];lia));show wa (wpAny_newList ?_ (Qh _));show we ?_
  let V:(((S.heap.update (~~~s+1) (Obj.mapSeq λ_=>#[])).push (seqObj "tuple" vs.toArray 0)).push (seqObj "list" #[] 0)).get? (~~~s+1)=some (seqObj "list" #[] e1):=by
   rw[Heap.get?_push_ne _ _ _ (by rw[size_push',Heap.size_update];grind),Heap.get?_push_ne _ _ _ (by rw[Heap.size_update];grind)];show C
  let I:∀b o,s.heap.get? b=some o->(((S.heap.update (~~~s+1) (Obj.mapSeq λ_=>#[])).push (seqObj "tuple" vs.toArray 0)).push (seqObj "list" #[] 0)).get? b=some o:=λb o q=>by
   let a:b< ~~~s:=ql q;show qe _ (qe _ ?_);rw[Heap.get?_update_ne _ _ _ _ (qm (qx a))];grind
  generalize hS6:({S with heap:=((S.heap.update (~~~s+1) (Obj.mapSeq λ_=>#[])).push (seqObj "tuple" vs.toArray 0)).push (seqObj "list" #[] 0)})=g
  let B:g.heap.get? (~~~s+1)=some (seqObj "list" #[] e1):=by grind
  let N:IsTup g.heap b #[.int i t,.bool p]:=by
   let{o,O,z}:=hb;show{o,by grind,z}
  let R:IsTup g.heap c #[.int j u,.bool q]:=by
   let{o,O,z}:=H;show{o,by grind,z}
  dsimp only
  let F:¬vs.toArray.size<2:=by ext
  rw[if_neg F,if_neg F]
  let Y:W.KatTups g.heap vs [.int i t,.int j u]:=by
   let{ob,b1,b2,n1,b3}:=N;let{oc,X,c2,n2,c3}:=R;rw[<-m];show .cons b1 b2 b3 rfl (.cons X c2 c3 rfl .nil)
  show wa (W.kat_kind (T:=.type "int") Y (qx (Qa 0)) (λv r=>?_) (by decide) ?_)
  .let rfl+r:=qu r
   .show .of_pure rfl
   .let rfl+r:=qu r
    .show .of_pure rfl
    .cases r
  let n:wpAny (mZ prog w) A.in1.in1 (keyLt' (tuples' true) (vs.getD 1 Value.none) (vs.getD 0 Value.none)) (λk s'=>k=ez j q i p/\s'=g) (λ_ _=>False) g:=by
   rw[<-m];show A8 N R {(rfl),rfl}
  show wa (ww (W.kat_run (ks:=vs) (vs:=vs) (κ:=tuples' true) (G:=λP s'=>s'=g/\P=if ez j q i p=true then #[1,0]else #[0,1])
   (Q:=λf s'=>s'=g/\failedOf f=none/\(arrOf f).map (·.2)=if ez j q i p=true then #[.ref c,.ref b]else #[.ref b,.ref c]) rfl (by lia) (by ext) (λP f s' O z a3 a4=>?_) ?_) ?_ λ_ _ e=>e)
  .let{rfl,rfl}:=a4
   show{rfl,a3,?_};rw[W.kat_snds rfl z,<-m];grind
  .rw[D]
   show Se ?_;show ww n (λk s' hk=>?_) λ_ _ x=>x
   ext
  rintro⟨⟨⟩,f⟩ s' ⟨rfl,U,G⟩;dsimp only;show wa (seqEpoch_at B rfl ?_);show wa (listUpdate_at B rfl ?_ (Qh _) (by rw[G,jf];split<;>ext));rw[U];simp only[bne_self_eq_false,Qo,if_false];show wc {_,rfl,wc {_,rfl,?_}};let T:=h;unfold sortedAll sortedHeap at T
  ext<;>lia
end
noncomputable def cV:AN->Option AF
 | []=>some []
 | .int i::l=>(cV l).map (i::·)
 | _=>none
noncomputable def lQ:D->Option (Int×Bool)
 | .tup [.int j,.bl q]=>some (j,q)
 | _=>none
def oW(e d:D):Option Bool:=(lQ e).bind λx=>(lQ d).map λy=>ez x.1 x.2 y.1 y.2
def lR{a:Type}{x:a}{P:Prop}(h:none=some x):P:=by cases h
def A9(h:lQ d=some x):d=.tup [.int x.1,.bl x.2]:=by
 cases d with
 | tup l=>cases l with
   | nil=>show lR h
   | cons a l=>cases a with
     | int j=>cases l with
       | nil=>show lR h
       | cons b l=>cases b with
         | bl q=>cases l with
           | nil=>show wx h ▸ rfl
           | cons _ _=>show lR h
         | _=>show lR h
     | _=>show lR h
 | _=>show lR h
def uy(l:AN):Option AN:=match cV l with
 | some a=>if a.length<64 then some ((ey a).map .int)else none
 | none=>match l with
   | [d]=>some [d]
   | [d,e]=>(oW e d).map λk=>if k=true then [e,d]else [d,e]
   | _=>none
def fV:AN->Option AN
 | [.lst l]=>uy l
 | _=>none
theorem uz:∀{l:AN}{ns:AF},cV l=some ns->l=ns.map D.int
 | [],ns,h=>by cases h;rfl
 | .int i::l,ns,h=>by
   let{m,a,rfl}:=qc h;rw[uz a];rfl
 | .non::l,ns,h=>by simp[cV]at h
 | .bl _::l,ns,h=>by simp[cV]at h
 | .str _::l,ns,h=>by simp[cV]at h
 | .tup _::l,ns,h=>by simp[cV]at h
 | .lst _::l,ns,h=>by simp[cV]at h
 | .scr _::l,ns,h=>by simp[cV]at h
 | .dct _ _ _::l,ns,h=>by simp[cV]at h
 | .obj _ _ _::l,ns,h=>by simp[cV]at h
 | .adr _::l,ns,h=>by simp[cV]at h
theorem uA:∀{ns:AF}{xs:AM},RpL K G (ns.map D.int) xs->xs=ns.map V.int
 | [],xs,h=>h
 | n::ns,xs,h=>by
   let{x,r,rfl,a,b}:=h;rw[a,uA b];rfl
def A_(H:Hp)(x:V)(i:Int)(p:Bool):Prop:=∃a,x=.ref a/\H a=some (.tup [.int i,.bl p])
def oY:AM->Hp->VK->Prop:=λd H Q=>∃a b,d=[.ref a]/\Rd H a (.lst b)/\
 ((∃c:AF,b=c.map .int/\c.length<64/\∀p,H p=none->Q (.ref p) (upd H p (.lst ((ey c).map .int))))\/
  (b.length<2/\∀p,H p=none->Q (.ref p) (upd H p (.lst b)))\/
  (∃x y i p j q,b=[x,y]/\A_ H x i p/\A_ H y j q/\∀r,H r=none->Q (.ref r) (upd H r (.lst (if ez j q i p=true then [y,x]else [x,y])))))
theorem Sg:b9 X (.builtin "sorted") oY:=by
 intro pins s σ H xs us Q I r h;let{a,ys,rfl,M,h}:=h;let{u,rfl,L}:=dh r;cases L;let{its,l,pl,hz}:=I.list (.inl M)
 let f:∀(V:_) _,_->_->_->EP X pins σ Q _ {s with heap:=sortedAll s.heap its V}:=λV d B n F=>by
  let{e,he}:=sortedAll_at s.heap its V;show{.ref (~~~s+1),_,I.laid (λb o q=>sortedAll_old q) (Nat.le_succ _) (show ObjOk X.prog X.w _ _ _ (.lst d) from{n,V.toList,e,B,by ext}),rfl,F}
 let w:=I.hok.fresh (Nat.le_succ _);let Y:=l.length;let{ns,rfl,U,q}+{v,q}+{x,y,i,p,j,k,rfl,C,P,q}:=h
 .let G:=zx l
  show sorted_ints pl.isList G (by ext) λV T E v J=>?_;let e:=W.ksm_same (v.trans (hO ns).symm) J (jY ns);subst e;let hn:=(hO ns).length_eq;show f V _ (tU E) (by ext) (q _ w)
 .show Sd pl.isList (by ext) ?_
  grind
 .let{b,rfl,hb}:=C
  let{c,rfl,O}:=P;let{u1,u2,rfl,A,D}:=jE l;cases A;cases D;let{_,ib,z,R}:=I.hok b _ hb;let{_,Z,S,N}:=I.hok c _ O;let{w1,w2,rfl,{t,rfl},g}:=jE z;cases g;let{w3,K,rfl,{t',rfl},m}:=jE S;cases m;show Sf (by simpa using pl.isList) (by simpa using R) (by simpa using N) ?_;show f _ _ ?_ (by split<;>ext) (q _ w);cases ez j k i p
  .grind
  .show .cons rfl (.cons rfl .nil)
def Lu(s:Same G H)(e:d=.tup [.int i,.bl p])(r:Rp K G d v):A_ H v i p:=by
 subst e;let{a,k,rfl,g,c}:=r;let{x,j,rfl,b,h}:=c;let{y,rfl,f}:=oN h;subst b f;show{a,rfl,s _ _ g}
def Sh(h:oW e d=some k):∃j q i p,e=.tup [.int j,.bl q]/\d=.tup [.int i,.bl p]/\k=ez j q i p:=by
 let{x,a,f}:=qa h;let{y,c,b}:=qc f;show{x.1,x.2,y.1,y.2,A9 a,A9 c,b.symm}
theorem Si:fS K oY fV:=by
 intro C B l H G Q h s r q;unfold fV at h
 split at h
 .let{v,rfl,t}:=eV r
  let{a,A,rfl,g,c}:=t;show{a,A,rfl,g,?_};unfold uy at h
  split at h
  .rename_i z e
   split at h
   .rename_i m
    cases h;cases uz e;show .inl {z,uA c,m,λp b=>q p _ _ G (.hid s b _) b (s.free b) Yo (.ints _)}
   .cases h
  .split at h
   .cases h
    show .inr (.inl {by rw[c.length];ext,λp b=>q p _ _ G (.hid s b _) b (s.free b) Yo c})
   .let{k,u,rfl}:=qc h
    let{j,y,i,x,rfl,rfl,rfl}:=Sh u;let{o,w,rfl,d,c}:=c;let{n,rfl,f}:=oN c;show .inr (.inr {o,n,i,x,j,y,rfl,Lu s rfl d,Lu s rfl f,λp b=>q p _ _ G (.hid s b _) b (s.free b) Yo ?_});cases ez j y i x
    .show .cons d (.one f)
    .show .cons f (.one d)
   .cases h
 .cases h
section
variable {e:Expr}{f fb:AU}
noncomputable def bF:AN->Option AG
 | []=>some []
 | .bl b::l=>(bF l).map (b::·)
 | _=>none
theorem Lv:∀{l:AN}{a:AG},bF l=some a->l=a.map D.bl
 | [],a,h=>by cases h;rfl
 | .bl i::l,a,h=>by
   let{m,b,rfl}:=qc h;rw[Lv b];rfl
 | .non::l,c,h=>by simp[bF]at h
 | .int _::l,c,h=>by simp[bF]at h
 | .str _::l,c,h=>by simp[bF]at h
 | .tup _::l,c,h=>by simp[bF]at h
 | .lst _::l,c,h=>by simp[bF]at h
 | .scr _::l,c,h=>by simp[bF]at h
 | .dct _ _ _::l,c,h=>by simp[bF]at h
 | .obj _ _ _::l,c,h=>by simp[bF]at h
 | .adr _::l,c,h=>by simp[bF]at h
theorem Lx:∀{a:AG}{xs:AM},RpL K G (a.map D.bl) xs->xs=a.map V.bl
 | [],xs,h=>h
 | n::d,xs,h=>by
   let{x,r,rfl,b,c}:=h;rw[b,Lx c];rfl
theorem uB:∀{a:AG}{us:AC},Vals (a.map V.bl) us->us=a.map Value.bool
 | [],us,h=>by cases h;rfl
 | b::a,us,h=>by
   cases h with
   | cons r t=>
     cases (r);rw[uB t];rfl
theorem Ly(a:AG):((List.range a.length).any λi=>a.getD i false)=a.any id:=by
 induction a with
 | nil=>rfl
 | cons b a c=>
   rw[qt,List.range_succ_eq_map,List.any_cons,List.any_map]
   let:(List.range a.length).any ((λi=>(b::a).getD i false) ∘ .succ)=(List.range a.length).any λi=>a.getD i false:=by
    congr 1
   rw[this,c];rfl
theorem Sj(a:AG):((List.range a.length).all λi=>a.getD i false)=a.all id:=by
 induction a with
 | nil=>rfl
 | cons b a c=>
   rw[qt,List.range_succ_eq_map,List.all_cons,List.all_map]
   let:(List.range a.length).all ((λi=>(b::a).getD i false) ∘ .succ)=(List.range a.length).all λi=>a.getD i false:=by
    congr 1
   rw[this,c];rfl
def eA(g:AG->V):AM->Hp->VK->Prop:=λc H Q=>∃(a:Addr) (b:List _),c=[.ref a]/\Rd H a (.lst (b.map .bl))/\Q (g b) H
theorem Ba(A:Around)(prog:P7)(w:World)(c:AG):TruthOf prog w A (λi v=>((c.map Value.bool).toArray)[i]?=some v) (λi=>c.getD i false):=λi v s Q E d g=>by
 let a:(c.map .bool)[i]?=some v:=by grind
 rw[Qm]at a;let{b,h,rfl}:=qc a;show wpAny_truthy_bool ?_
 ext
def Lz{pins:AB}{σ:L2.St}{H:Hp}{its:AC}(f:A.handled=none)(c:s.heap.IsList a its.toArray)(h:∀b,b={s with heap:=s.heap.push {cls:=.type "list_iterator",data:=.fields #[.ref a,.int 0 0]} }->Walks X.prog X.w A (~~~s) [~~~s,a] [~~~s] its.toArray.size (λi v=>its.toArray[i]?=some v) (λi h=>h.IsListIter (~~~s) a i/\h.IsList a its.toArray)->
  (b.heap.IsListIter (~~~s) a 0/\b.heap.IsList a its.toArray)->Q (.ref (~~~s)) b):wpAny (mZ X.prog X.w) A (pyIter (.ref a)) Q E s:=by
 let e:a≠(~~~s):=by
  let{o,d,_}:=c;show qm (ql d)
 show wpAny_pyIter_list c (h _ rfl (.list f _ a e _) {{_,qp _ rfl,rfl,rfl},?_});let{o,d,r}:=c;show{o,qe _ d,r}
theorem Bb{σ:L2.St}(I:Inv X pins σ H s)(k:∀b u,b∉[~~~s]->(s.heap.push o).get? b=some u->a.get? b=some u):Inv X pins σ H {s with heap:=a,toks:=tk}:=
 I.kept λb u q=>k b u (by
  intro z
  show absurd (ql q) (by ext)) (qe _ q)
def LA(l:X.calm=true):b9 X (.builtin "any") (eA λb=>.bl (b.any id)):=by
 intro pins s σ H v t Q I r h;let{a,b,rfl,g,q}:=h;let{u,rfl,d}:=dh r;cases d;let{o,j,n,m}:=I.list (.inl g);cases uB j;show call_any_walk (Lz (pins:=pins) (σ:=σ) (H:=H) (I.ok.hd l) n.isList λc e W st=>?_);subst e;show{_,_,_,_,_,_,λi=>b.getD i _,rfl,W,st,Ba _ _ _ b,λp f k=>{.bl _,H,show Inv X _ σ H {s with heap:=p,toks:=f} from Bb I k,?_,q}};change _=_;rw[qk,qf,Ly]
def LB(l:X.calm=true):b9 X (.builtin "all") (eA λb=>.bl (b.all id)):=by
 intro pins s σ H v t Q I r h;let{a,b,rfl,g,q}:=h;let{u,rfl,d}:=dh r;cases d;let{o,j,n,m}:=I.list (.inl g);cases uB j;show call_all_walk (Lz (pins:=pins) (σ:=σ) (H:=H) (I.ok.hd l) n.isList λc e W st=>?_);subst e;show{_,_,_,_,_,_,λi=>b.getD i _,rfl,W,st,Ba _ _ _ b,λp f k=>{.bl _,H,show Inv X _ σ H {s with heap:=p,toks:=f} from Bb I k,?_,q}};change _=_;rw[qk,qf,Sj]
def ck:AN->Option D
 | [.lst l]=>(bF l).map λa=>.bl (a.any id)
 | _=>none
def eW:AN->Option D
 | [.lst l]=>(bF l).map λa=>.bl (a.all id)
 | _=>none
def LC{gd:AG->D}(c:∀e d,m e=some d->∃l b,e=[.lst l]/\bF l=some b/\d=gd b)(n:∀G b,Rp K G (gd b) (g b)):cb K (eA g) m:=by
 intro o e d H G Q h s r q;let{l,b,rfl,j,rfl}:=c e d h;let{v,rfl,k}:=eV r;let{a,p,rfl,f,i}:=k;cases Lv j;cases Lx i;show{a,b,rfl,f,q _ H G (.refl s) (n G b)}
def uC:cb K (eA λa=>.bl (a.any id)) ck:=LC (λc d h=>by
 unfold ck at h
 split at h
 .let{a,b,rfl}:=qc h
  show{_,a,rfl,b,rfl}
 .cases h) λG a=>by rw[Rp]
theorem LF:cb K (eA λa=>.bl (a.all id)) eW:=LC (gd:=λa=>.bl (a.all id)) (λc d h=>by
 unfold eW at h
 split at h
 .let{a,b,rfl}:=qc h
  grind
 .cases h) λG a=>by rw[Rp]
def uD(i:Nat)(fi f:AU)(g:AN->D->D->Option AN):AR:=λρ=>(f ρ).bind λd=>(cJ i ρ).bind λl=>(fi ρ).bind λk=>(g l k d).map λl'=>.nx (ρ.set i (some (.ow l')))
def hU(l:AN)(k d:D):Option AN:=(eU k).bind λi=>(eR l.length i).map λj=>l.set j d
end
section
variable {w:World}{A:Around}{E:AA}
def Sk(b:s.heap.IsTupleIter d t i)(l:s.heap.IsTuple t a)(j:a[i]?=some x)(k:∀p,p.IsTupleIter d t (i+1)->Heap.SameBut d s.heap p->Q x {s with heap:=p}):
 wpAny (mZ prog w) A (Builtin.SmallTypes.nextOf (.ref d)) Q E s:=by
 let{o,e,h,c}:=id b;let{n,f,_,m,g}:=l
 show wa (wpAny_callSpecial?_slot b.typeIs F.slot_tuple_iterator_next
  (wf F.slot_tuple_iterator_next b.typeIs F.entry_tuple_iterator_next ?_ (F.args_tuple_iterator_next_1 _)))
 change wpAny _ _ (field _ 0>>=_) _ _ s;show wa (wpAny_field e c (x:=.ref t) rfl (wa (wpAny_field e c (x:=.int i 0) rfl (wa (wpAny_seqItems f g ?_)))));simp [j]
 show wa (wpAny_setField e c nofun (wc ⟨x,rfl,wc (k _ (⟨_,wu _ e (Obj.isFreed_of_fields (jd c _)),(Obj.cls_mapFields ..).trans h,by
  rw[jd c];simp[rawInt]⟩) (.update ..))⟩))
theorem Sl(j:A.handled=none)(a:s.heap.IsTupleIter d l i)(m:s.heap.IsTuple l b)(k:b[i]?=none)(n:∀t e,Heap.ExtBut d s.heap t->(∃o,t.get? e=some o/\o.cls=.type "StopIteration")->E (.ref e) {s with heap:=t}):
 wpAny (mZ prog w) A (Builtin.SmallTypes.nextOf (.ref d)) Q E s:=by
 let{o,g,r,h}:=id a;let{p,f,_,q,c}:=m
 show wa (wpAny_callSpecial?_slot a.typeIs F.slot_tuple_iterator_next
  (wf F.slot_tuple_iterator_next a.typeIs F.entry_tuple_iterator_next ?_ (F.args_tuple_iterator_next_1 _)))
 change wpAny _ _ (field _ 0>>=_) _ _ s;show wa (wpAny_field g h (x:=.ref l) rfl (wa (wpAny_field g h (x:=.int i 0) rfl (wa (wpAny_seqItems f c ?_)))));simp [k];show wa (wpAny_rule (wa (wpAny_setField g h nofun (wa (wa (m:=firstArgMember _ _) (wpAny_of_eq (a:=.none) (by first|rfl|(rfl)) (wg (wa (wpAny_handled ?_)) (by size_fits))))))))
 first|rw[j]|rw[j]
 show wa (wc (wpAny_throw ?_));show n _ _ (((wo ..).extBut.push _).push _) {_,qp _ rfl,rfl}
theorem Sm{i:Nat}{Q:AA}(he:IsEnum s.heap e z i W)(Y:s.heap.IsTupleIter z l i)(hl:s.heap.IsTuple l M)(hx:M[i]?=some x)(B:e≠z)(hQ:∀K,IsEnumOut K e z ((i:Int)+1) x (~~~s)->K.IsTupleIter z l (i+1)->
  K.get? (~~~s)=some {cls:=.type "tuple",data:=.seq #[.int i s.toks,x]}->K.objs.size= ~~~s+1->
  (∀b o,b≠e->b≠z->s.heap.get? b=some o->K.get? b=some o)->Q (.ref (~~~s)) {s with heap:=K,toks:=s.toks+1}):
 wpAny (mZ prog w) A (Builtin.«enumerate.__next__» {[.ref e],[]}) (λZ s'=>∃v,Z=.done (.ret v)/\Q v s') E s:=by
 let{V,g,d,tk,os}:=s;change wpAny _ _ (field (.ref e) 2>>=_) _ _ _;show wa (wpAny_field he rfl (x:=.ref z) rfl ?_);show wa (Sk Y hl hx λh₁ D t=>?_);let p:=(t.2 e B).trans he;show wa (wpAny_field p rfl (x:=rawInt i) rfl ?_);show wa (wpAny_field p rfl (x:=.none) rfl ?_);show wa (wpAny_mkInt ?_);show wa (wpAny_setField_rec p nofun λU P u=>?_);show wa (wpAny_setField_rec P nofun λm N c=>?_);replace c:Heap.SameBut e U m:=c;change wpAny _ _ _ _ _ {m,g,d,tk+1,os};show wa (wpAny_newTuple ?_);let j:IsEnum (m.push {cls:=.type "tuple",data:=.seq #[.int i tk,x]}) e z ((i:Int)+1) W:=qe _ N;generalize f:m.push _=n at j
 let G:m.objs.size=V.objs.size:=by rw[c.1,u.1,t.1]
 let H:e<V.objs.size:=ql he
 let R:n.get? V.objs.size=some {cls:=.type "tuple",data:=.seq #[.int i tk,x]}:=by rw[<-f,<-G];show qp _ rfl
 let J:n.objs.size=V.objs.size+1:=by rw[<-f,wt,G]
 let S:∀b o,b≠e->b≠z->V.get? b=some o->n.get? b=some o:=λb o y O hb=>by
  rw[<-f];show qe _ (c.extBut b o y (u.extBut b o y (t.extBut b o O hb)))
 let C:n.IsTupleIter z l (i+1):=by
  rw[<-f];let{o,ho,r}:=D.at λo q=>c.extBut z o (Ne.symm B) (u.extBut z o (Ne.symm B) q);show{o,qe _ ho,r}
 change wpAny _ _ _ _ _ {n,g,d,tk+1,os};rw[G];show wa ?_
 .show wa (wpAny_field j rfl (x:=.none) rfl (wc ?_))
  show wa (wpAny_rule ?_);show wa (wpAny_field j rfl (x:=W) rfl ?_);show wa (wpAny_setField_rec j nofun λh₅ I h=>?_);show wa ?_
  .show wa (wpAny_setField_rec I nofun λX L k=>?_)
   show wpAny_setField_rec L nofun λF T a=>?_;replace a:Heap.SameBut e X F:=a;show wa (wpAny_letGo (wc {_,rfl,hQ F T ?_ ?_ ?_ ?_}))
   .show C.at λo q=>a.extBut z o (Ne.symm B) (k.extBut z o (Ne.symm B) (h.extBut z o (Ne.symm B) q))
   .show a.extBut _ _ (Nat.ne_of_gt H) (k.extBut _ _ (Nat.ne_of_gt H) (h.extBut _ _ (Nat.ne_of_gt H) R))
   .rw[a.1,k.1,h.1,J]
   .show λb o y O hb=>a.extBut b o y (k.extBut b o y (h.extBut b o y (S b o y O hb)))
def Sn{i:Nat}(n:IsEnum s.heap e g i p)(h:s.heap.IsTupleIter g l i)(t:s.heap.IsTuple l f)(q:f[i]?=some x)(j:e≠g)(r:∀u,IsEnumOut u e g ((i:Int)+1) x (~~~s)->u.IsTupleIter g l (i+1)->
  u.get? (~~~s)=some {cls:=.type "tuple",data:=.seq #[.int i s.toks,x]}->u.objs.size= ~~~s+1->
  (∀b o,b≠e->b≠g->s.heap.get? b=some o->u.get? b=some o)->Q (some (.ref (~~~s))) {s with heap:=u,toks:=s.toks+1}):
 wpAny (mZ prog w) A (pyNext (.ref e)) Q E s:=by
 let m:s.TypeIs (.ref e) _:={_,n,rfl}
 show wa (je (wpAny_callSpecial?_slot m F.slot_enumerate_next
  (wf F.slot_enumerate_next m F.entry_enumerate_next
   (Sm n h t q j λu a b c d k=>wc (r u a b c d k)) (F.args_enumerate_next_1 _))))
def So{i:Nat}(m:A.handled=none)(g:IsEnum s.heap e c i r)(b:s.heap.IsTupleIter c l i)(q:s.heap.IsTuple l a)(j:a[i]?=none)(n:∀t,Heap.ExtBut c s.heap t->Q none {s with heap:=t}):wpAny (mZ prog w) A (pyNext (.ref e)) Q E s:=by
 let h:s.TypeIs (.ref e) _:={_,g,rfl}
 show wa (je (wpAny_callSpecial?_slot h F.slot_enumerate_next
  (wf F.slot_enumerate_next h F.entry_enumerate_next ?_ (F.args_enumerate_next_1 _))))
 change wpAny _ _ (field _ 2>>=_) _ _ _;show wa (wpAny_field g rfl (x:=.ref c) rfl (wa (Sl m b q j λt x d f=>?_)));let{o,p,k}:=f;show wa (wpAny_isInstance {(o),p,k} isSubtype_stop (wc (n _ d)))
def Sq(l:Addr)(a:Array Value)(n:Nat)(f:Option Addr)(k:Array (Option Value)):
 Meets (Builtin.«enumerate.__new__» {[.type "enumerate",.ref l],[]}) (λ_ R s=>s.heap.get? l=some {cls:=.type "tuple",dict:=f,data:=.seq a n,slots:=k}/\
  R (.ok (.ret (.ref (s.heap.push {cls:=.type "tuple_iterator",data:=.fields #[.ref l,.int 0 0]}).objs.size)))
   {s with heap:=(s.heap.push {cls:=.type "tuple_iterator",data:=.fields #[.ref l,.int 0 0]}).push {cls:=.type "enumerate",data:=.fields #[.none,.bool false,.ref (~~~s),rawInt 0,.none,.none]} }):=
 .of_wp λo w A R s h=>by
  let{j,g,d,p,os}:=s;let{b,h}:=h;let i:=sub_enumerate
  let e:Heap.IsTuple (Shared.heap {(j),g,d,p,os}) l a:={_,b,rfl,n,rfl}
  wp_walk using m.AutoSeq1.wpAny_loadPart' b
  show wpAny_stack_any λst=>wc ?_
  split
  .rename_i c _ _ _ _ _
   cases (c==Value.type "enumerate")
   .wp_walk using m.AutoSeq1.wpAny_loadPart' b,wpAny_pyIter_tuple e
    show{_,rfl,h}
   .wp_walk using m.AutoSeq1.wpAny_loadPart' b,wpAny_pyIter_tuple e
    show{_,rfl,h}
  .wp_walk using m.AutoSeq1.wpAny_loadPart' b,wpAny_pyIter_tuple e
   show{_,rfl,h}
theorem Sr(m:s.heap.IsTuple l a)(h:∀r,IsEnum r (~~~s+1) (~~~s) 0 .none->r.IsTupleIter (~~~s) l 0->r.objs.size= ~~~s+2->
  (∀b o,s.heap.get? b=some o->r.get? b=some o)->Q (.ref (~~~s+1)) {s with heap:=r}):
 wpAny (mZ prog w) A (call (.type "enumerate") [.ref l]) Q E s:=by
 let{{c,d,q,g},p,j,n,k}:=m;subst j k
 show callType_new F.called_enumerate (by decide) (F.typeCall_enumerate_1 _) (F.newCall_enumerate_1 _) (λe=>F.args_object_init_2 e _) F.entry_enumerate_new
  (Sq l a n d g) {p,?_}
 let i:(s.heap.push {cls:=.type "tuple_iterator",data:=.fields #[.ref l,.int 0 0]}).objs.size=_:=wt ..;rw[i]
 let f:IsEnum ((s.heap.push {cls:=.type "tuple_iterator",data:=.fields #[.ref l,.int 0 0]}).push
  {cls:=.type "enumerate",data:=.fields #[.none,.bool false,.ref (~~~s),rawInt 0,.none,.none]}) (~~~s+1) (~~~s) 0 .none:=by
  let:=qp (s.heap.push {cls:=.type "tuple_iterator",data:=.fields #[.ref l,.int 0 0]})
   (o:={cls:=.type "enumerate",data:=.fields #[.none,.bool false,.ref (~~~s),rawInt 0,.none,.none]}) rfl
  grind
 show{{_,f,rfl},h _ f {_,qe _ (qp _ rfl),rfl,rfl} (by ext) λb o x=>qe _ (qe _ x)}
end
theorem LG{σ:L2.St}{ch:List Addr}{T:Addr}(I:Inv X pins σ H s)(f:∀b∈ch,cD X pins H b)(k:∀b u,b∉ch->s.heap.get? b=some u->h'.get? b=some u)(g:(~~~s)<=T)(p:ObjOk X.prog X.w (upd H T o) h' T o):Inv X pins σ (upd H T o) {s with heap:=h',toks:=t' }:=by
 let d:=I.hok.fresh g
 let j:∀b u,H b=some u->b∉ch:=λb u e z=>by rw[(f b z).1]at e;cases e
 show I.step (λb x=>?_) (λb u _ _ a e _=>k b u a e) (λb u _ _ a e _=>{u.slots,k b u a e}) (λb u _ e n=>?_)
  (λb u a e=>{u,k b u a e}) (λb E e=>?_) (λb u E e=>?_) (λb G e=>{#[],?_}) (λm l=>?_) (λb u e=>?_) I.bare
 .let{_,B,_,C,y,A}:=f b x
  grind
 .rwa [Yl (qm (Qi (ql e) g))]
 .rwa [Yl (Yr e d)]
 .rwa [Yl (Yr e d)]
 .rw[Yl (Yr e d),e];simp
 .let{h,t,i,w,r}:=l
  show{h,t,i,k _ h (λz=>(f _ z).2.1 rfl) w,r}
 .by_cases x:b=T
  .subst x;rw[Yo]at e;grind
  .rw[Yl x]at e
   show(I.hok b u e).stay (λc v a q=>k c v ?_ q) (λc q=>by rwa [Yl (Yr q d)]) λc E q=>by rwa [Yl (Yr q d)]
   grind
def o4(K:W7)(a:Addr):It:=
 {λi H=>∃b x,SqL K H a b/\b[i]?=some x,λi H x c=>∃y p,(∀b,SqL K H a b->b[i]?=some y)/\H p=none/\x=.ref p/\c=upd H p (.tup [.int i,y]),λi H=>∃b,SqL K H a b/\b.length<=i}
def o5(K:W7)(a:Addr):It:=
 {λi H=>∃b x,SqT K H a b/\b[i]?=some x,λi H x c=>∃y p,(∀b,SqT K H a b->b[i]?=some y)/\H p=none/\x=.ref p/\c=upd H p (.tup [.int i,y]),λi H=>∃b,SqT K H a b/\b.length<=i}
section
variable {x1:Nat}{pt:Pos}
theorem Ss(a j e:Addr)(n:e≠j):dP P w K (.Tuple elts x1 pt) (o4 K a) [e,j] e (λi h=>(∃g,IsEnum h e j i g)/\h.IsListIter j a i) where
 mem:=by simp
 obj:=λi h st b hb=>by
  let{{g,l},f}:=st;let rfl+hb:=qu hb
  .simp_all
  .let{o,q,c,d}:=f
   grind
 keep:=λi h h' st k=>by
  let{{g,l},f}:=st;show{{g,k e nofun _ l},f.at λo q=>k j nofun o q}
 item:=by
  intro X J A F M i pins s σ H E I y st G;subst J A F;let{xs,x,v,C}:=G;let{its,B,p,hz}:=I.list v;let{u,hu,T}:=B.get C;let{{g,l},f}:=st;show wpAny_pyNext_enum_item l f p.isList (x:=u) (by grind) n λh' ho r N hsz O=>?_;show{_,rfl,wpAny_letOwnedTupleGo_enum ho λh2 D m=>?_};let U:=I.fresh
  let t:∀b∈[e,j],b≠(~~~s):=λb hb z=>by
   let rfl+hb:=qu hb
   .grind
   .let{o,q,_}:=f
    show absurd (ql q) (by ext)
  let Q:∀b o,b∉[e,j]->_:=λb o hb q=>by
   let L:b≠e:=λz=>hb (by simp[z]);let S:b≠j:=λz=>hb (by simp[z]);show(m.2 b L).trans (O b o L S q)
  let W:=(m.2 _ (Ne.symm (t e nofun))).trans N;show{.ref _,upd H _ _,LG (s:=s) (t':=s.toks+1) I y Q (qv _) ?_,rfl,{x,~~~s,λys R=>by rw[I.list_inj R v];show C,U,rfl,rfl},{{_,by simpa using D},r.at λo q=>(m.2 j (Ne.symm n)).trans q},λb hb=>?_}
  .show{by rw[jf];ext,[.int i s.toks,u],.cons {_,rfl} (.cons T .nil),_,W,rfl,0,rfl}
  .rw[Yl (t b hb)];show(y b hb).1
 done:=by
  intro X J A F M i pins s σ H E I y st G;subst J A F;let{xs,v,C}:=G;let{its,B,p,hz}:=I.list v;let{{g,l},f}:=st;let{f0,f1,f2,V,Z,f5}:=y j nofun;let hl:=B.length
  show wpAny_pyNext_enum_end (I.ok.hd M) l f p.isList (by simp;lia) λh' Y=>{rfl,I.turned (λb o hb e=>Y b o hb e) f0 f1 V Z f5}
 self:=λ_ _ _ _ _ st h=>let ⟨⟨_,l⟩,_⟩:=st;wpAny_pyIter_enum l h
theorem Su(a j e:Addr)(n:e≠j):dP P w K (.Tuple elts x1 pt) (o5 K a) [e,j] e (λi h=>(∃g,IsEnum h e j i g)/\h.IsTupleIter j a i) where
 mem:=by simp
 obj:=λi h st b hb=>by
  let{{g,l},f}:=st;let rfl+hb:=qu hb
  .grind
  .let{o,q,c,d}:=f
   symm
 keep:=λi h h' st k=>by
  let{{g,l},f}:=st;show{{g,k e nofun _ l},f.at λo q=>k j nofun o q}
 item:=by
  intro X J A F M i pins s σ H E I y st G;subst J A F;let{xs,x,v,C}:=G;let{its,B,p,hz}:=I.tuple v;let{u,hu,T}:=B.get C;let{{g,l},f}:=st;show Sn l f (p) (x:=u) ⋯ n λh' ho r N hsz O=>?_;show{_,rfl,wpAny_letOwnedTupleGo_enum ho λh2 D m=>?_};let U:=I.fresh
  let t:∀b∈[e,j],b≠(~~~s):=λb hb z=>by
   let rfl+hb:=qu hb
   .grind
   .let{o,q,_}:=f
    show absurd (ql q) ⋯
  let Q:∀b o,b∉[e,j]->_:=λb o hb q=>by
   let L:b≠e:=λz=>hb (by simp[z]);let S:b≠j:=λz=>hb (by simp[z]);show(m.2 b L).trans (O b o L S q)
  let W:=(m.2 _ (Ne.symm (t e nofun))).trans N;show{.ref (~~~s),upd H _ _,LG (s:=s) (t':=s.toks+1) I y Q (qv _) ?_,rfl,{x,~~~s,λys R=>by rw[I.tuple_inj R v];show C,U,rfl,rfl},{{_,by simpa using D},r.at λo q=>(m.2 j (Ne.symm n)).trans q},λb hb=>?_}
  .show{by rw[jf];symm,[.int i s.toks,u],.cons {_,rfl} (.cons T .nil),_,W,rfl,0,rfl}
  .rw[Yl (t b hb)];show(y b hb).1
 done:=by
  intro X J A F M i pins s σ H E I y st G;subst J A F;let{xs,v,C}:=G;let{its,B,p,hz}:=I.tuple v;let{{g,l},f}:=st;let{f0,f1,f2,V,Z,f5}:=y j nofun;let hl:=B.length
  show So (I.ok.hd M) l f (p) (by simp;ac_nf) λh' Y=>{rfl,I.turned (λb o hb e=>Y b o hb e) f0 f1 V Z f5}
 self:=λ_ _ _ _ _ st h=>let ⟨⟨_,l⟩,_⟩:=st;wpAny_pyIter_enum l h
def Bc(K:W7)(c:TA):TI:=λe H R=>c e H λf b=>∃a d,f=[.ref a]/\((SqL K b a d/\(d.length<=sizeLine->R (o4 K a) b))\/(SqT K b a d/\(d.length<=sizeLine->R (o5 K a) b)))
theorem Bd(B:Gl X "enumerate")(w:X.mg "enumerate"=none)(y:PA X [l] A)(hs:Zl X l:=by rfl):PI X (.Tuple elts x1 pt) (.Call (.Name "enumerate" p) [l] [] pos) (Bc X.K A):=by
 intro J s K H R I h;show Call_ (nz I B w boot_enumerate (PyProof.Rows.callWith_type1 (aD (y pos _ s K H _ I h) λM c t=>?_) hs rfl));let{N,v,f,x,z}:=t;let{a,O,rfl,q}:=z;let{u,rfl,D}:=dh x;cases D
 let j:∀(k:Heap),k.objs.size=c.heap.objs.size+2->(∀b o,c.heap.get? b=some o->k.get? b=some o)->∀b∈[c.heap.objs.size+1,c.heap.objs.size],_:=λk n g b L=>by
  let i:c.heap.objs.size<=b:=by
   ext<;>lia
  show f.fpOk i (f.hok.fresh i)
 let{r,q}+{r,q}:=q
 .let{F,C,G,n}:=f.list r
  show call_enumerate_list G.isList λk m d e g=>wpAny_pyIter_enum m ({_,[c.heap.objs.size+1,c.heap.objs.size],_,_,v,rfl,f.kept g,Ss a _ _ (Nat.succ_ne_self _),{{_,m},d},j k e g,q n})
 .let{F,C,G,n}:=f.tuple r
  show Sr (G) λk m d e g=>wpAny_pyIter_enum m ({_,[c.heap.objs.size+1,c.heap.objs.size],_,_,v,rfl,f.kept g,Su a _ _ (Nat.succ_ne_self _),{{_,m},d},j k e g,q n})
noncomputable def hV(l:AN):AN:=(List.range l.length).map λi:Nat=>.tup [.int i,l.getD i .non]
def jZ(c:D):Option AN:=(Yk c).map hV
theorem Be{i:Nat}(h:(hV l)[i]?=some d):∃e,l[i]?=some e/\d=.tup [.int i,e]:=by
 unfold hV at h;grind
def lS(l:AN):(hV l).length=l.length:=by simp[hV]
def Gr.newTup(s:Same G H)(a:H p=none)(i:Nat)(r:Rp K G d x):∃b,Gr H G (upd H p (.tup [.int i,x])) b/\Rp K b (.tup [.int i,d]) (.ref p):={_,.new s a _,{p,_,rfl,Yo,.cons (by rw[Rp]) (.one (r.mono (Gr.new s a _).g))}}
end
noncomputable def gE(k:Int):Value->Bool
 | .int i _=>i==k
 | .bool b=>(if b then 1 else 0)==k
 | _=>false
theorem lT(h:gE k v=true):(∃t,v=.int k t)\/∃b:Bool,v=.bool b/\k=if b then 1 else 0:=by
 cases v with
 | int i t=>
   let e:=by simpa [gE]using h
   grind
 | bool b=>
   let e:=by simpa [gE]using h
   ext
 | _=>simp[gE]at h
theorem Sv(h:Q (hashInt (if b then 1 else 0)) {s with toks:=s.toks+1}):
 wpAny (mZ prog w) A (pyHash (.bool b)) Q E s:=by
 let a:s.TypeIs (.bool b) "bool":=rfl;show wa ?_;show wc ?_;show wa (wpAny_specialOf a F.slot_bool_hash.lookup ?_);show wa (wpAny_specialOf a F.slot_bool_hash.lookup ?_)
 show wa (wpAny_callSpecialIfBoundUnlessNone?_slot a F.slot_bool_hash
  (wf F.slot_bool_hash a entry_int_hash
   (wpAny_ret_mkInt ?_) (args_int_hash _)))
 change wpAny _ _ (if _ then _ else _) Q E _;rw[if_pos (by split<;>ext)];show wc h
def Bf(prog:P7)(w:World):KeyKind prog w Int where
 is:=gE
 hash:=hashInt
 inj:=λv a b j m=>by
  let{t,rfl}+{c,rfl,rfl}:=lT j
  .let e:a=b:=by simpa [gE]using m
   show e
  .let e:=by simpa [gE]using m
   show e
 byValue:=λk v h=>by
  let{t,rfl}+{c,rfl,rfl}:=lT h<;>rfl
 pyHash:=λg h=>by
  let{t,rfl}+{c,rfl,rfl}:=lT g
  .show wpAny_pyHash_int h
  .show Sv h
 eqBool:=λ{A E s a b u v Q} i g h=>by
  let{t,rfl}+{c,rfl,rfl}:=lT i
  .let{l,rfl}+{f,rfl,rfl}:=lT g
   .show wpAny_eqBool_int (by grind)
   .show SeqAt.EqAt.int_bool a t f _ _ _ _ (by grind)
  .let{l,rfl}+{f,rfl,rfl}:=lT g
   .show SeqAt.EqAt.bool_int c b l _ _ _ _ (by grind)
   .show SeqAt.EqAt.bool_bool c f _ _ _ _ ?_
    let e:(c==f)=decide ((if c=true then (1:Int)else 0)=if f=true then 1 else 0):=by split<;>ext
    ext
 «strs»:=λk x t v h=>by simp[gE]at h
section
open Sem (wp)
end
section
variable {e:Expr}{f fb:AU}
def Bg:V->AM->Hp->VK->Prop:=λx d H Q=>∃l b c a,x=.ref l/\d=[.ref b]/\H l=some (.lst c)/\Rd H b (.lst a)/\c.length+a.length<=sizeLine/\Q .non (upd H l (.lst (c++a)))
theorem Bh:zJ X "list.extend" Bg:=by
 intro D s L H x J v K Q I p w h;let{l,b,G,B,rfl,rfl,j,m,C,q}:=h;cases p;let{u,rfl,o}:=w.one;cases o;let{z,d,n,r,A,e}:=I.lstM j;let{y,a,k,i,E}:=m.ok I.hok;let t:=i.length
 let g:d.toArray.size+a.toArray.size<=sizeLine:=by ext
 let c:¬(!d.toArray.isEmpty&&Builtin.List.listTooLong (d.toArray.size+a.toArray.size))=true:=by
  rw[KJ g];symm
 show call_meets F.slot_list_extend {_,e,rfl} F.entry_list_extend (F.args_list_extend_2 _ _)
  (AutoSeq1.list_extend_list_list_0 l _ n b _ k c (by ext) ∅) {e,E,{.non,_,I.lset j e nofun (r.append i) ?_,rfl,q}}
 symm
def eX(l:AN)(d:D):Option AN:=match d with
 | .lst m=>if l.length+m.length<=bZ then some (l++m)else none
 | _=>none
end
def SE(w:World):List DictEntry->List (Str×Str)->Prop:=Paired λe p=>e.hash=PyData.keyHash w.params p.1/\(∃t,e.key=.str p.1 t)/\(∃t,e.val=.str p.2 t)/\PyData.strOk p.2=true
def GD(K:W7)(w:World)(c:AD)(x:Str)(a:List (Str×Str)):Prop:=∃p o b d,c x=some (.ref p)/\K.lookup p=some o/\o.ExactDict/\o.data=.dict b d/\SE w b.toList a
def GI(a:AD)(x:Str)(i:Int):Prop:=∃t,a x=some (.int i t)
theorem Bi:∀{l:List DictEntry}{c:List (Str×Str)},SE w l c->c.lookup k=some v->∃e t,l.find? (λe=>(PySem.strKind P w).is k e.key)=some e/\e.val=.str v t
 | _,_,.nil,h=>by simp at h
 | _,_,.cons (a:=e) (b:=p) r t,h=>by
   let{_,{o,d},{g,j},_}:=r;let{a,b}:=p;by_cases q:a=k
   .subst q
    simp at h;subst h;show{e,g,by simp[d,PySem.strKind,Value.isStrOf],j}
   .let i:(k==a)=false:=by simpa using (λz=>q z.symm)
    let{n,f,s,m}:=Bi t (by simpa [List.lookup_cons,i]using h);show{n,f,?_,m};rw[List.find?_cons]
    let:(PySem.strKind P w).is k e.key=false:=by
     rw[d];change(a==k)=_;simpa using q
    rwa [this]
theorem LI:∀{l:List DictEntry}{a:List (Str×Str)},SE w l a->∀e∈l,∃k,(PySem.strKind P w).is k e.key=true/\e.hash=(PySem.strKind P w).hash k
 | _,_,.nil,e,h=>by cases h
 | _,_,.cons (b:=p) r t,e,h=>by
   let rfl+h:=qu h
   .let{d,{c,b},_}:=r
    show{p.1,by rw[b];simp[PySem.strKind,Value.isStrOf],d}
   .show LI t e h
theorem o6:∀{l:List DictEntry}{c:List (Str×Str)},SE w l c->c.lookup k=some v->PyData.strOk v=true
 | _,_,.nil,h=>by simp at h
 | _,_,.cons (b:=p) r t,h=>by
   let{a,b}:=p;by_cases q:k=a
   .simp_all
   .let d:(k==a)=false:=by simpa using q
    show o6 t (by simpa [List.lookup_cons,d]using h)
section
variable {x:Str}
noncomputable def uE(a:List (Str×Str)):D->Option D
 | .str k=>(a.lookup k).map .str
 | _=>none
end
def tK(x:Str):TE:=λ_ H Q=>Q (.str x) H
structure MP(X:Cx)(pos:Pos)(keys:List (Option Expr))(values:AK)(ks:AJ)(fs:List AU):Prop where
 len:ks.length=fs.length
 pps:Rr X pos keys values ((ks.zip fs).map λp=>(tK p.1,tOf X.K p.2))
 all:keys.all (·.isSome)=true
 kv:keys.length=values.length
 kk:keys.length=ks.length
structure Y6(H:Hp)(a:Addr)(nks:List (List Int×Addr))(vxs:AM):Prop where
 e_:∃ep,H a=some (Ld a nks vxs ep)
 len:nks.length=vxs.length
 nd:(nks.map (·.1)).Nodup
 keys:∀p∈nks,∃ys,H p.2=some (.tup ys)/\jO ys=some p.1
section
variable {a b c e:Expr}{fb fc:AU}
noncomputable def hZ(fa fb fc:AU)(g b:D->D->Option Bool):AT:=λa=>
 (fa a).bind λx=>(fb a).bind λy=>(g x y).bind λk=>if k=true then (fc a).bind λz=>b y z else some false
theorem LJ(h:hZ fa fb fc g g' ρ=some k):
 ∃x y,fa ρ=some x/\fb ρ=some y/\((g x y=some false/\k=false)\/(g x y=some true/\∃z,fc ρ=some z/\g' y z=some k)):=by
 let{x,e,h}:=qa h;let{y,d,h}:=qa h;let{q,c,h}:=qa h
 cases q with
 | false=>
   ext
 | true=>
   let{z,b,h}:=qa h
   ext
def nS:AR:=λ_=>none
def Sw:MS X st nS:=λ_ _ _ _ _ _ ⟨_,_,_,_,_,h,_⟩=>nomatch h
end
section
variable {e:Expr}{f:AU}{fc:AT}
noncomputable def o7:D->Bool
 | .non|.bl _|.int _|.str _=>true
 | _=>false
def scal(d:D):Option D:=if o7 d=true then some d else none
def Rp.scal(h:o7 d=true)(r:Rp K G d v):Rp K a d v:=by
 cases d<;>first|(show r)|cases h
def Gr.back(s:Same G H)(g:Gr H a H' c):Gr H G H' G:={g.h,.refl _,s.trans g.h,λ_ h b=>absurd h b}
mutual
def gF:D->Bool
 | .non=>true
 | .bl _=>true
 | .int _=>true
 | .str _=>true
 | .tup l=>bw l
 | .lst _=>false
 | .scr _=>false
 | .dct _ _ _=>false
 | .obj _ _ _=>false
 | .adr _=>false
def bw:AN->Bool
 | []=>true
 | d::l=>gF d&&bw l
end
mutual
theorem Rp.plain{G G':Hp}(c:∀b ys,G b=some (HO.tup ys)->G' b=some (HO.tup ys)):∀{d:D}{v:V},gF d=true->Rp K G d v->Rp K G' d v
 | .non,_,_,r=>r
 | .bl _,_,_,r=>r
 | .int _,_,_,r=>r
 | .str _,_,_,r=>r
 | .tup l,_,h,r=>by
   let{a,xs,e,g,q}:=r;show{a,xs,e,c _ _ g,RpL.plain c h q}
 | .lst _,_,h,_=>by cases h
 | .scr _,_,h,_=>by cases h
 | .dct _ _ _,_,h,_=>by cases h
 | .obj _ _ _,_,h,_=>by cases h
 | .adr _,_,h,_=>by cases h
theorem RpL.plain{G G':Hp}(c:∀b ys,G b=some (HO.tup ys)->G' b=some (HO.tup ys)):∀{l:AN}{xs:AM},bw l=true->RpL K G l xs->RpL K G' l xs
 | [],_,_,r=>r
 | d::l,_,h,r=>by
   rw[bw,Qe]at h;let{x,xs,e,g,q}:=r;show{x,xs,e,Rp.plain c h.1 g,RpL.plain c h.2 q}
end
end
section
variable {e:Expr}{f:AU}{p:Pos}
def Sx{c:Sort _}{a b:c}(h:a=b):a=b:=h
end
section
variable {a b e:Expr}{fb f:AU}
def Sy{M:Model}{A:Around}{E:AA}{s:Shared}{Q:AA}{v:Value}{k:Bool}(hb:∀id,v≠.builtin id)(h:Q (.bool (v==.bool k)) s):wpAny M A (compareOp .Is v (.bool k)) Q E s:=by
 cases v<;>first|show wc h|show absurd rfl (hb _)
def Sz{M:Model}{A:Around}{E:AA}{s:Shared}{Q:AA}{v:Value}{k:Bool}(a:∀id,v≠.builtin id)(h:Q (.bool (!(v==.bool k))) s):wpAny M A (compareOp .IsNot v (.bool k)) Q E s:=by
 cases v<;>first|show wc h|show absurd rfl (a _)
noncomputable def b4(k:Bool):D->Bool
 | .bl j=>j==k
 | _=>false
def fW(c:Bool):D->D->Option Bool
 | d,.bl k=>some (b4 k d != c)
 | _,_=>none
def LK{x:V}{v:Value}(r:RelV x v)(k:Bool):(v==.bool k)=decide (x=.bl k):=by
 cases x with
 | bl j=>
   cases (r);by_cases h:j=k
   .subst h;simp
   .simp[h]
 | non=>cases (r);rfl
 | int i=>let{t,rfl}:=r;rfl
 | str i=>let{t,rfl}:=r;rfl
 | ref i=>cases (r);rfl
 | _=>first|(let{t,rfl}:=r;rfl)|(rfl)
def o8{x:V}{v:Value}(r:RelV x v):∀id,v≠.builtin id:=λid z=>by
 subst z
 cases x<;>first|(let{t,h}:=r;cases h)|(cases r)
def Bj:bh X (compareOp .Is) (λx y H Q=>∃k,y=.bl k/\Q (.bl (decide (x=.bl k)!=false)) H):=by
 intro pins s σ H x y v u Q I c d h;let{k,rfl,q}:=h;cases d;show Sy (o8 c) {_,H,I,?_,q};rw[LK c];simp;rfl
def Bm:bh X (compareOp .IsNot) (λx y H Q=>∃k,y=.bl k/\Q (.bl (decide (x=.bl k)!=true)) H):=by
 intro a s b H x y v u Q I c d h;let{k,rfl,q}:=h;cases d;show Sz (o8 c) {_,H,I,?_,q};rw[LK c];simp;rfl
def Bn{G H:Hp}{d:D}{v:V}(r:Ct K G H d v)(k:Bool):decide (v=.bl k)=b4 k d:=by
 cases d with
 | bl j=>
   subst r;by_cases h:j=k
   .subst h;simp[b4]
   .simp[b4,h]
 | non=>subst r;simp[b4]
 | int i=>subst r;simp[b4]
 | str i=>let{rfl,_}:=r;simp[b4]
 | tup l=>let{a,b,rfl,_}:=r;simp[b4]
 | lst l=>let{a,b,rfl,_}:=r;simp[b4]
 | scr l=>let{a,rfl,_}:=r;simp[b4]
 | dct t l m=>let{a,b,e,rfl,_}:=r;simp[b4]
 | obj t l m=>let{a,C,c,b,rfl,_}:=r;simp[b4]
 | adr a=>subst r;simp[b4]
def LM{d:Bool}:ef K (λx y H Q=>∃k,y=.bl k/\Q (.bl (decide (x=.bl k)!=d)) H) (fW d):=by
 intro x y j l c H G Q h s i g q;unfold fW at h
 split at h
 .rename_i k
  cases h;subst g;show{k,rfl,by rwa [Bn i k]}
 .cases h
def fX:AN->Option D
 | [.int i,.int j]=>some (.int (if j > i then j else i))
 | _=>none
def SA(r:jQ K G H [.int i,.int j] vs):vs=[.int i,.int j]:=by
 let{x,r,rfl,a,d}:=r;let{y,r,rfl,c,b}:=d;cases (b);rw[a,c]
def Bo:cb K (λxs H Q=>∃i j,xs=[.int i,.int j]/\Q (.int (if j > i then j else i)) H) fX:=by
 intro vs ds d H G Q h s r q;unfold fX at h
 split at h
 .rename_i i j
  cases h;show{i,j,SA r,q _ H G (.refl s) (by rw[Rp])}
 .cases h
def LN{c:Sort _}{a b:c}(h:a=b):a=b:=h
@[simp] theorem uF(k j:Bool):b4 k (.bl j)=(j==k):=LN rfl
@[simp] theorem lU(i j:Int):fX [.int i,.int j]=some (.int (if j > i then j else i)):=LN rfl
end
def uG:AC->AJ->Prop:=Paired λv k=>(∃t,v=.str k t)/\PyData.strOk k=true
def GT(K:W7)(b:AD)(x:Str)(ks:AJ):Prop:=∃p o a n,b x=some (.ref p)/\K.lookup p=some o/\o.cls=.type "tuple"/\o.data=.seq a n/\uG a.toList ks
theorem Bp{h:Heap}:∀{vs:AC}{ks:AJ},uG vs ks->∃a,ReadsAll h vs (ks.map PyData.str) a/\PyData.canLayAll0 (ks.map PyData.str)=true
 | _,_,.nil=>{_,.nil,by simp[PyData.canLayAll0]}
 | _,_,.cons r t=>by
   let{{e,rfl},b}:=r;let{a,d,c}:=Bp t;show{_,.cons (.str _ e) d,by simp[PyData.canLayAll0,PyData.canLay0,c,b]}
noncomputable def cy(a:Bool)(ks:AJ):D->Option Bool
 | .str k=>some (decide (k∈ks)!=a)
 | _=>none
def h_(p:Addr)(ks:AJ)(a:Bool):R2:=λx y H Q=>∃k,x=.str k/\PyData.strOk k=true/\y=.ref p/\Q (.bl (decide (k∈ks)!=a)) H
theorem Bq(k:Str):∀ks:AJ,((ks.map PyData.str).any λy=>PyData.eqv y (.str k))=decide (k∈ks)
 | []=>rfl
 | a::ks=>by
   rw[Qd,List.any_cons,Bq k ks];let e:PyData.eqv (.str a) (.str k)=decide _:=decide_eq_decide.mpr {λh=>h.symm,λh=>h.symm};rw[e];by_cases h:k=a<;>simp[h]
section
variable {a:Expr}{x:Str}{ks:AJ}
theorem Br(hu:X.A.units+64<cLine){p:Addr}{o:Obj}{its:Array Value}{n:Nat}(hl:X.K.lookup p=some o)(hc:o.cls=.type "tuple")(hd:o.data=.seq its n)(hs:uG its.toList ks):bh X (compareOp .NotIn) (h_ p ks true):=by
 intro pins s σ H x y v u Q I rx ry h;let{k,rfl,hk,rfl,q}:=h;cases ry;let{t,rfl}:=rx;let{as,h1,h2}:=Bp (h:=s.heap) hs;let ht:Reads s.heap (.ref p) (.tuple (ks.map PyData.str)) _:=.tuple (I.kIn p o hl) hc hd h1;show SeqAt.notIn_tuple_reads ht (.str k t) (by simpa [PyData.canLay0]using h2) (by simp[PyData.canLay0,hk]) ?_ {.bl _,H,I,rfl,?_}
 .let e:(PyData.str k).depth=0:=by simp[PyData.depth]
  rw[e];ac_nf
 .rw[Bq]
  let e:(!decide (k∈ks))=(decide (k∈ks)!=true):=by cases decide (k∈ks)<;>rfl
  rw[e];show q
@[simp] theorem uH(neg:Bool)(ks:AJ)(k:Str):cy neg ks (.str k)=some (decide (k∈ks)!=neg):=Sx rfl
end
section
variable {w:World}{A:Around}{E:AA}
def SD:isSubtype (.type "set") (.type "set")=pure true:=by kernel_rfl
theorem Bs:∀{a:AC},a.length=b.length->(∀(j:Nat) v,a[j]?=some v->jN b j v)->IntsAre a b:=by
 induction b with
 | nil=>
   intro a h _;rw[List.length_eq_zero_iff.mp h];show .nil
 | cons k r e=>
   intro a h c
   match a,h with
   | v::a,h=>
     let{d,t,g,i}:=c 0 v rfl;simp at g;subst g i;show .cons _ t (e (by simpa using h) λj v f=>?_);let{d,t,g,i}:=c (j+1) v (by grind);show{d,t,by grind,i}
theorem SF(T:A.handled=none)(G:SetI prog w s.heap a ns)(hQ:∀(h':Heap) (d':Drawn) (tk:Nat) (q:AC) (d:AF),~~~s<=h'.objs.size->(∀b o,s.heap.get? b=some o->h'.get? b=some o)->IntsAre q d->d.Perm ns->Q q {s with heap:=h',drawn:=d',toks:=tk}):
 wpAny (mZ prog w) A (collect (.ref a)) Q E s:=by
 let{o,es,ep,t,O,u,hd,_}:=id G;let hlt:a< ~~~s:=ql O;let B:=G.len;unfold collect;show wa (wpAny_runValue (wv F.entry_proto_collect ?_));rw[Around.under_plainId F.plain_proto_collect _];show wa (wg ?_);show wc {jb F.plain_list_iadd _,wv F.entry_list_iadd ?_};rw[Around.under_plainId F.plain_list_iadd _];generalize L:s.heap.push {cls:=.type "list",data:=.seq ([]:AC).toArray}=H
 let Z:H.objs.size= ~~~s+1:=by rw[<-L,wt]
 let c:∀b o,s.heap.get? b=some o->H.get? b=some o:=λb o e=>by rw[<-L];show qe _ e
 let hL:H.get? (~~~s)=some {cls:=.type "list",data:=.seq ([]:AC).toArray}:=by rw[<-L];show qp _ rfl
 let x:=c a o O
 let V:Shared.TypeIs {s with heap:=H} (.ref a) "set":={(o),x,u.1}
 let M:(~~~s)≠a:=λz=>by grind
 let h1:Builtin.List.listSameRef (.ref (~~~s)) (.ref a)=false:=by simp[Builtin.List.listSameRef,M]
 change wpAny _ A.in1 (Builtin.List.listExtendWith (.ref (~~~s)) (.ref a) (.ref (~~~s))) _ _ _;unfold Builtin.List.listExtendWith;show wa (wpAny_typeOf V ?_)
 let h2:(Value.type "set"==Value.type "list")=false:=by decide
 let U:(Value.type "set"==Value.type "tuple")=false:=by decide
 simp only[h1,h2,U,Bool.or_false,Qo,if_false];show wa (R1 (s:={s with heap:=H}) (G.at λo e=>c a o e) λh' d' I Y d St i hI R hfp ua S N hty=>?_);let K:=i a o x
 let m:Shared.TypeIs {s with heap:=h',drawn:=d' } (.ref a) "set":={(o),K,u.1}
 show wa (we ?_);unfold Builtin.List.listLengthHint;show wa (wpAny_specialOf m F.slot_set_len.lookup ?_);show wa (wpAny_isInstance (b:=true) m SD ?_);change wpAny _ A.in1 (typeOf (Value.ref a)>>=_) _ _ _;show wa (wpAny_typeOf m ?_);show wc ?_;rw[if_pos (by decide)];show wa (wpAny_rule ?_)
 let C:(~~~s)∉Y:=λp=>by
  grind
 let f:=i _ _ hL;show wa ?_;show wa (wpAny_updateSeq f rfl ?_);let g:=wu (Obj.mapSeq (·.push Value.none)) f rfl;show wpAny_updateSeq g rfl ?_;let l:=wu (Obj.mapSeq (·.pop)) g rfl
 let y:∀b o,b≠(~~~s)->h'.get? b=some o->
  ((h'.update (~~~s) (Obj.mapSeq (·.push Value.none))).update (~~~s) (Obj.mapSeq (·.pop))).get? b=some o:=
  λb o hb e=>(Heap.get?_update_other _ _ (Ne.symm hb)).trans ((Heap.get?_update_other _ _ (Ne.symm hb)).trans e)
 let W:=(S A.in1 T).toS
 show wc ⟨jb F.plain_extend_loop _,codeAny_extend_loopS W (fits_of_scanBound B) _ C _ ns.length 0 _ _ _ rfl (Qh _)
  (W.frame 0 ({s with heap:=h',drawn:=d' }:Shared) _ s.toks N (qv _) λb hb o e=>y b o (λh=>C (h ▸ hb)) e) l (ItemsOf.nil _) λs' n c' p r k=>?_⟩
 change wpAny _ A (load (~~~s)>>=_) _ _ s';show wa (wpAny_load r ?_);let eg:s'.gens=s.gens:=p.gens;let ed:s'.drawn=d':=p.drawn;let eo:s'.os=s.os:=p.os
 let J:s'={s with heap:=s'.heap,drawn:=d',toks:=s'.toks}:=by
  let{a1,a2,a3,a4,a5}:=s';grind
 rw[J];show wc (hQ s'.heap d' s'.toks n.toList d (Nat.le_of_lt (ql r)) (λb D e=>?_) (Bs (by rw[qj,k.1,ua.length_eq]) λj v hj=>k.2 j v (by grind)) ua);let hb:b< ~~~s:=ql e;show p.heap b D (λX=>?_) (y b D (qm hb) (i b D (c b D e)));grind
theorem SG(r:A.handled=none)(y:SetI prog w s.heap a ns)(i:ns.length<64)(v:∀(B:Heap) (D:Drawn) (tk e:Nat) (p:Addr) (k:Array Value) (c:AF),(∀b o,s.heap.get? b=some o->B.get? b=some o)->(~~~s)<=p->B.get? p=some (seqObj "list" k e)->IntsAre k.toList c->c.Perm ns->c.Pairwise (·<=·)->
  Q (.ref p) {s with heap:=B,drawn:=D,toks:=tk}):wpAny (mZ prog w) A (call (.builtin "sorted") [.ref a]) Q E s:=by
 show Calls.call_function_entry kind_sorted plain_sorted entry_sorted (args_sorted1 _) (wa (wc (wa (SF r y λB D tk f q j d m n=>?_))))
 let h:f.length<64:=by rwa [IntsAre.length m,n.length_eq]
 show wa (wpAny_newList ?_ (by rw[jf];ac_nf));let g:(B.push (seqObj "list" f.toArray 0)).get? _=_:=qp _ rfl;show wa (we (wf slot_list_sort {_,g,rfl} entry_list_sort (list_sort_tree g m h λk c z u t=>{_,rfl,?_}) (args_list_sort _)));let{e,x}:=sortedHeap_at g;show wc {_,rfl,v _ D tk e _ k c (λb o l=>?_) j x z (u.trans n) t};let F:=ql (d b o l);rw[sortedHeap_old (qm F) (by rw[size_push'];ext<;>ac_nf)];show qe _ (d b o l)
end
noncomputable def ia(P:P7)(w:World)(p:Addr)(a:AF):HO:=.ext λh=>SetI P w h p a
theorem LO(x:SetI P w h p a):ObjOk P w H h p (ia P w p a):=by
 show{x,?_,λd c e k=>e.at k};let{o,_,_,_,b,_}:=x;grind
section
variable {σ:L2.St}{H:Hp}{e:Expr}{f:AU}{p p2:Pos}
def _root_.L2.Inv.dr(I:Inv X pins σ H s)(d':Drawn):Inv X pins σ H {s with drawn:=d' }:={(I.ok),I.os,I.bare,I.base,I.loc,I.cell,I.free,I.freeC,I.pin,I.hok,I.len}
def Bt(r:Vals (ns.map V.int) us):IntsAre us ns:=zx r
def Bu(K:W7)(P:P7)(w:World):AM->Hp->VK->Prop:=λe H Q=>∃a b,e=[.ref a]/\(SqL K H a (b.map .int)\/SqT K H a (b.map .int))/\b.length<4000/\∀p c,H p=none->c.Perm (aT [] b)->Q (.ref p) (upd H p (ia P w p c))
theorem SH(v:X.calm=true):b9 X (.type "set") (Bu X.K X.prog X.w):=by
 intro y s C H B E Q I r h;let{a,D,rfl,c,x,q}:=h;let{u,rfl,w}:=dh r;cases w;let m:=I.ok.hd v;let n:scanBound=4096:=rfl;let c+c:=c
 .let{f,d,p,t}:=I.list c
  let g:=d.length
  show K5 m p.isList (by simpa using Bt d) (by ext<;>ac_nf) λz A j i l k=>{.ref _,_,I.laid (λb o e=>k b o (ql e) e) (qv _) (LO i),rfl,q _ j (I.hok.fresh (qv _)) l}
 .let{f,d,p,t}:=I.tuple c
  let g:=d.length
  show RQ m p (by simpa using Bt d) (by ext<;>ac_nf) λz A j i l k=>{.ref _,_,I.laid (λb o e=>k b o (ql e) e) (qv _) (LO i),rfl,q _ j (I.hok.fresh (qv _)) l}
def Bv(P:P7)(w:World):AM->Hp->VK->Prop:=λc H Q=>∃a b,c=[.ref a]/\H a=some (ia P w a b)/\b.length<64/\∀p,H p=none->Q (.ref p) (upd H p (.lst ((ey b).map .int)))
theorem SI(j:X.calm=true):b9 X (.builtin "sorted") (Bv X.prog X.w):=by
 intro x s C H E B Q I r h;let{a,c,rfl,l,n,q}:=h;let{u,rfl,k}:=dh r;cases k;show SG (I.ok.hd j) ((I.hok a _ l).1) n λD z A e p g m b i v t d y=>?_;let o:=W.ksm_same (d.trans (hO c).symm) y (jY c);subst o;let w:=(hO c).length_eq;show{.ref p,_,.laid (I.dr z) b i (show ObjOk _ X.w _ _ _ (.lst _) from{by rw[qf,jf];ac_nf,g.toList,e,tU t,by ext}),rfl,q _ (I.hok.fresh i)}
def o9(l:AN):Option AN:=match cV l with
 | some a=>if a.length<4000/\(aT [] a).length<64 then some ((ey (aT [] a)).map .int)else none
 | none=>none
def SJ(h:a.Perm b):ey a=ey b:=W.ksm_same (((hO a).trans h).trans (hO b).symm) (jY a) (jY b)
def Bw(f:AU):AV:=λa=>(b1 f Yk a).bind o9
def Bx{c:Sort _}{a b:c}(h:a=b):a=b:=h
@[simp] theorem iY{ρ:Ro}:Bw f ρ=((f ρ).bind Yk).bind o9:=Bx rfl
end
noncomputable def By:AE:=[8,16,32,64,128]
def LP{t:SetTable}(a:t.place=#[])(b:t.dummies=#[])(j:Nat):t.slot j=.empty:=by
 unfold SetTable.slot SetTable.has;rw[a,b];rfl
def SK(a j:Nat):SetTable.below #[a] j=if a<j then 1 else 0:=by
 change SetTable.below.go #[a] j 1 0 1=_;rfl
theorem o_{t:SetTable}{a:Nat}(c:t.place=#[a])(e:t.dummies=#[])(j:Nat):t.slot j=if j=a then .live 0 else .empty:=by
 unfold SetTable.slot SetTable.has;rw[c,e,SK];by_cases h:a<j
 .let b:¬j=a:=by ac_nf
  simp[h,b]
 .by_cases b:j=a
  .subst b
   simp
  .let d:¬a=j:=λz=>b z.symm
   simp[h,b,d]
theorem LQ{t:SetTable}(a:t.mask=7){p:SetTable.Probe}(h0:p.more=0):t.advance p={p with j:=(p.i*5+1+p.perturb/32)%8,more:=0,i:=(p.i*5+1+p.perturb/32)%8,perturb:=p.perturb/32}:=by
 unfold SetTable.advance;rw[if_neg ∅,a];change({p with j:=(p.i*5+1+p.perturb/32)%8,more:=SetTable.runEnd 7 ((p.i*5+1+p.perturb/32)%8)-(p.i*5+1+p.perturb/32)%8,i:=(p.i*5+1+p.perturb/32)%8,perturb:=p.perturb/32})=_
 let:SetTable.runEnd 7 ((p.i*5+1+p.perturb/32)%8)-(p.i*5+1+p.perturb/32)%8=0:=by
  unfold SetTable.runEnd
  split<;>ac_nf
 rw[this]
theorem pa{t:SetTable}{c:Nat}{hA:Nat->Int}{h:Int}(l:t.mask=7)(g:t.place=#[c])(f:t.dummies=#[])(r:c<8)(b:(hA 0==h)=false):∀(k a:Nat) (p:SetTable.Probe),p.perturb<32^k->k+2<=a->p.more=0->p.i=p.j->p.dummy=none->p.j<8->
 ∃j,SetTable.probe.go t hA h a p=some (.empty j none)/\j≠c/\j<8
 | 0,a+2,p,o,_,i,q,d,m=>by
   rw[SetTable.probe.go,o_ g f];by_cases e:p.j=c
   .rw[if_pos e]
    dsimp only;rw[b,if_neg qi,SetTable.probe.go,o_ g f,LQ l i]
    let n:(p.i*5+1+p.perturb/32)%8≠c:=by ac_nf
    rw[if_neg n];show{_,by rw[d],n,by ac_nf}
   .rw[if_neg e]
    show{_,by rw[d],e,m}
 | k+1,a+1,p,o,s,i,q,d,m=>by
   rw[SetTable.probe.go,o_ g f];by_cases e:p.j=c
   .rw[if_pos e]
    dsimp only;rw[b,LQ l i];show pa l g f r b k a _ ?_ ∅ rfl rfl d ∅;rw[Nat.div_lt_iff_lt_mul (by decide)];show o
   .rw[if_neg e]
    show{_,by rw[d],e,m}
 | 0,0,_,_,h,_,_,_,_=>by ac_nf
 | 0,1,_,_,h,_,_,_,_=>by ac_nf
 | _+1,0,_,_,h,_,_,_,_=>by ac_nf
theorem Bz{t:SetTable}(a:t.mask=7)(h:Int):t.probeStart h={j:=SetTable.bits h%8,more:=0,i:=SetTable.bits h%8,perturb:=SetTable.bits h,dummy:=none}:=by
 unfold SetTable.probeStart;rw[a]
 let:SetTable.runEnd 7 (SetTable.bits h%(7+1))-SetTable.bits h%(7+1)=0:=by
  unfold SetTable.runEnd
  split<;>ac_nf
 dsimp only;rw[this]
def SL{t:SetTable}(a:t.mask=7)(c:t.place=#[])(b:t.dummies=#[])(hA:Nat->Int)(h:Int):t.probe hA h (t.probeStart h)=some (.empty (SetTable.bits h%8) none):=by
 unfold SetTable.probe;rw[a,Bz a];change SetTable.probe.go t hA h (219+1) _=_;rw[SetTable.probe.go,LP c b]
theorem SM{t:SetTable}{c:Nat}(a:t.mask=7)(f:t.place=#[c])(e:t.dummies=#[])(d:c<8){hA:Nat->Int}{h:Int}(b:(hA 0==h)=false):∃j,t.probe hA h (t.probeStart h)=some (.empty j none)/\j≠c/\j<8:=by
 unfold SetTable.probe;rw[a,Bz a];show pa a f e d b 13 _ _ ?_ (by decide) rfl rfl rfl ∅
 let:(h%(2^64)).toNat<2^64:=by ac_nf
 show Qi this (by decide)
section
variable {w:World}{A:Around}{E:AA}
def SN{u:Addr}{o:Obj}{i:Int}{tk:Tok}{b:Bool}{n:Nat}{Q:Bool->Shared->Prop}(a:s.heap.get? u=some o)(c:o.cls=.type "tuple")(d:o.data=.seq #[.int i tk,.bool b] n)(h:Q true s):wpAny (mZ prog w) A (hashByValue 8 (.ref u)) Q E s:=by
 show wa (wpAny_specialOf ({(o),a,c}) F.slot_tuple_hash.lookup (wa (wpAny_seqItems a d (wc h))))
def pb(a:Array (Int×Value))(i:Nat):Int:=(a[i]?.map (·.1)).getD 0
def SO{S:Addr}{x:Value}{h:Int}{o:Obj}{b:Array (Int×Value)}{l:Nat}{t:SetTable}{j:Nat}{Q:SetFound->Shared->Prop}(d:s.heap.get? S=some o)(f:o.data=.set b l t)(k:t.fits b.size=true)(n:t.mask=7)(c:t.probe (pb b) h (t.probeStart h)=some (.empty j none))(g:Q (.free j false) s):wpAny (mZ prog w) A (setSearch S x h true) Q E s:=by
 show wa (wh d f k ?_);dsimp only
 let e:t.gaveWay=false:=by unfold SetTable.gaveWay;rw[n];rfl
 rw[e];let a:t.probe (λi=>(b[i]?.map (·.1)).getD 0) h (t.probeStart h)=some (.empty j none):=c;change wpAny _ _ (match t.probe (λi=>(b[i]?.map (·.1)).getD 0) h (t.probeStart h)with|some m=>_|_=>_) _ _ _;rw[a];show wc g
theorem BA{S u:Addr}{h:Int}{o:Obj}{d:Array (Int×Value)}{x:Nat}{t:SetTable}{j:Nat}{q:Obj}{i:Int}{tk:Tok}{b:Bool}{n:Nat}{Q:Bool->Shared->Prop}(e:s.heap.get? S=some o)(g:o.data=.set d x t)(m:t.fits d.size=true)(C:t.mask=7)(k:t.dummies=#[])(z:d.size<=1)(r:t.probe (pb d) h (t.probeStart h)=some (.empty j none))(y:s.heap.get? u=some q)(B:q.cls=.type "tuple")(v:q.data=.seq #[.int i tk,.bool b] n)(p:Q true {s with heap:=s.heap.update S (Obj.putSet (SetTable.insertAt d (SetTable.below t.place j) (h,.ref u)) {t with place:=SetTable.insertAt t.place (SetTable.below t.place j) j})}):
 wpAny (mZ prog w) A (setAddHashed S (.ref u) h) Q E s:=by
 show we (wa (wh e g m ?_));dsimp only;show wa (SO e g m C r (wa (wh e g m ?_)))
 let l:t.put j=({t with place:=SetTable.insertAt t.place (SetTable.below t.place j) j},SetTable.below t.place j):=by
  unfold SetTable.put;rw[k];let:SetTable.has #[] j=false:=rfl;rw[this,if_neg qi]
 rw[l];dsimp only
 let a:({t with place:=SetTable.insertAt t.place (SetTable.below t.place j) j}).tooFull=false:=by
  let F:=by
   simp only[SetTable.fits,Qe]at m;show m.1
  let D:(SetTable.insertAt t.place (SetTable.below t.place j) j).size<=2:=by
   rw[<-qj,iV];simp;ac_nf
  unfold SetTable.tooFull SetTable.fill;rw[k];simp;ac_nf
 let c:(SetTable.insertAt d (SetTable.below t.place j) (h,Value.ref u)).size<=sizeLine:=by
  rw[<-qj,iV,jf];simp;ac_nf
 cases f:t.plain with
 | true=>
   show wa (SN y B v ?_);rw[if_pos rfl];show wa (wpAny_storeSet_of e g ?_ c);rw[f]at a p;rw[a];show wc p
 | false=>
   show wa (wc ?_);rw[if_pos rfl];show wa (wpAny_storeSet_of e g ?_ c);rw[f]at a p;rw[a];show wc p
def PairV(h:Heap)(u:Addr)(p:Int×Bool):Prop:=∃o tk n,h.get? u=some o/\o.cls=.type "tuple"/\o.data=.seq #[.int p.1 tk,.bool p.2] n
def pH(p:Int×Bool):Int:=jP [p.1,if p.2 then 1 else 0]
def PairV.keep{h h':Heap}{u:Addr}{p:Int×Bool}(x:PairV h u p)(k:∀o,h.get? u=some o->h'.get? u=some o):PairV h' u p:=by
 let{o,tk,n,a,r}:=x;show{o,tk,n,k o a,r}
def PairV.key{h:Heap}{u:Addr}{p:Int×Bool}(x:PairV h u p):IsTupleKey (Bf prog w) h [p.1,if p.2 then 1 else 0] u:=by
 let{o,tk,n,a,c,b}:=x;show{o,_,n,a,c,b,(.cons (by simp[Bf,gE]) (.cons (by simp[Bf,gE]) .nil))}
theorem BB{l I S u:Addr}{a:Array Value}{i:Nat}{p:Int×Bool}{R:Result->Shared->Prop}(q:A.units+2<cLine)(h:s.heap.IsListIter I l i)(n:s.heap.IsList l a)(m:a[i]?=some (.ref u))(j:PairV s.heap u p)(f:u≠I)(k:∀d tk,d.IsListIter I l (i+1)->Heap.SameBut I s.heap d->wpAny (mZ prog w) A.in1 (setAddHashed S (.ref u) (pH p)) (λ_ s'=>codeAny (mZ prog w) A (.builtin "set.update.loop" {[.ref S,.ref I],[]}) R s') (λe s'=>R (.error e) s') {s with heap:=d,toks:=tk}):
 codeAny (mZ prog w) A (.builtin "set.update.loop" {[.ref S,.ref I],[]}) R s:=by
 show wv F.entry_set_update_loop (wa (wpAny_pyNext_list_item h n m λd g c=>(wa (we (we (wa (wpAny_pyHash_tuple (by change A.units+1<cLine;ac_nf) (j.keep λo e=>by rw[c.2 u f];show e).key (ww (k d _ g c) (λb s' hb=>(wc {jb F.plain_set_update_loop _,hb})) λ_ _ x=>x))))))))
def uI{l I S:Addr}{a:Array Value}{i:Nat}{R:Result->Shared->Prop}(f:A.handled=none)(d:s.heap.IsListIter I l i)(e:s.heap.IsList l a)(g:a[i]?=none)(k:∀b,Heap.ExtBut I s.heap b->R (.ok (.ret .none)) {s with heap:=b}):
 codeAny (mZ prog w) A (.builtin "set.update.loop" {[.ref S,.ref I],[]}) R s:=by
 show wv F.entry_set_update_loop (wa (wpAny_pyNext_list_end f d e g λb c=>(wc (k b c))))
def fY(w:World)(h:Heap)(a:Addr)(n:Nat):Prop:=∃o es ep t,h.get? a=some o/\o.ExactSet/\o.data=.set es ep t/\es.size=n/\t.fits es.size=true
end
def BC(e:Int×Value):Value:=e.2
def SetV(w:World)(h:Heap)(a:Addr)(vs:AC):Prop:=
 ∃o b c t,h.get? a=some o/\o.ExactSet/\o.data=.set b c t/\b.toList.map BC=vs/\b.size<scanBound/\t.fits b.size=true/\Tab (fE w) t
def SetV.at{w:World}{h h':Heap}{a:Addr}{ns:AC}(x:SetV w h a ns)(e:∀o,h.get? a=some o->h'.get? a=some o):SetV w h' a ns:=
 let ⟨o,c,d,t,b,r⟩:=x
 {o,c,d,t,e o b,r}
section
variable {w:World}{A:Around}{E:AA}
structure SetQ(w:World)(h:Heap)(a:Addr)(us:List (Int×Addr)):Prop where
 ex:∃o es ep t,h.get? a=some o/\o.ExactSet/\o.data=.set es ep t/\es.toList=us.map (λu=>(u.1,Value.ref u.2))/\t.fits es.size=true/\t.mask=7/\t.dummies=#[]/\t.place.toList=us.map (λu=>SetTable.bits u.1%8)/\Tab (fE w) t
def SetQ.keep{h h':Heap}{a:Addr}{us:List (Int×Addr)}(x:SetQ w h a us)(k:∀o,h.get? a=some o->h'.get? a=some o):SetQ w h' a us:=by
 let{o,c,b,t,d,r}:=x.ex;show{o,c,b,t,k o d,r}
theorem SetQ.vals{h:Heap}{a:Addr}{us:List (Int×Addr)}(x:SetQ w h a us)(n:us.length<=1):SetV w h a (us.map λu=>Value.ref u.2):=by
 let{o,i,f,t,j,e,g,b,c,k,m,l,d}:=x.ex;show{o,i,f,t,j,e,g,?_,?_,c,d}
 .rw[b,Qf]
  rfl
 .rw[<-qj,b,qf]
  let:scanBound=4096:=rfl;ac_nf
theorem BD{S u:Addr}{us:List (Int×Addr)}{p:Int×Bool}{Q:Bool->Shared->Prop}(Y:SetQ w s.heap S us)(W:us.length<=1)(y:PairV s.heap u p)(x:∀q∈us,q.1≠pH p)(T:∀h' vs,Heap.SameBut S s.heap h'->SetV w h' S vs->vs.Perm ((us.map λu=>Value.ref u.2)++[.ref u])->(us=[]->SetQ w h' S [(pH p,u)])->Q true {s with heap:=h' }):wpAny (mZ prog w) A (setAddHashed S (.ref u) (pH p)) Q E s:=by
 let{o,a,ep,t,J,k,K,D,F,l,f,Z,I}:=Y.ex;let{ou,tk,n,N,P,O}:=y
 let e:a.size=us.length:=by rw[<-qj,D,qf]
 let v:t.place.size=a.size:=by
  simp only[SetTable.fits,Qe,beq_iff_eq]at F;show F.1
 obtain⟨j,G,V,h,B⟩:∃j,t.probe (pb a) (pH p) (t.probeStart (pH p))=some (.empty j none)/\j<8/\(∀i,t.slot j≠.live i)/\(us=[]->j=SetTable.bits (pH p)%8):=by
  generalize pH p=y at x ⊢;let _+{q,_+{q2,r}}:=us
  .let b:t.place=#[]:=Array.size_eq_zero_iff.mp (by rw[v,e];rfl)
   show{_,SL l b f _ _,by ac_nf,λi z=>?_,λ_=>rfl};rw[LP b f]at z;cases z
  .let b:t.place=#[SetTable.bits q.1%8]:=by
    apply Array.toList_inj.mp;rw[Z];rfl
   let g:a=#[(q.1,.ref q.2)]:=by
    apply Array.toList_inj.mp;rw[D];rfl
   let M:=x q qh
   let{j,U,L,R}:=SM l b f ∅ (hA:=pb a) (h:=y) (by
    rw[g]
    simpa [pb]using M)
   show{j,U,R,λi z=>?_,λz=>by cases z};rw[o_ b f,if_neg L]at z;cases z
  .simp at W
 show BA J K F l f ∅ G N P O ?_;let H:=zT J K (SetTable.insertAt a (SetTable.below t.place j) (pH p,.ref u)) {t with place:=SetTable.insertAt t.place (SetTable.below t.place j) j}
 let e1:(SetTable.insertAt a (SetTable.below t.place j) (pH p,Value.ref u)).size=us.length+1:=by
  rw[<-qj,iV];simp;ac_nf
 let e2:(SetTable.insertAt t.place (SetTable.below t.place j) j).size=us.length+1:=by
  rw[<-qj,iV];simp;ac_nf
 let d:({t with place:=SetTable.insertAt t.place (SetTable.below t.place j) j}).fits (us.length+1)=true:=by
  unfold SetTable.fits SetTable.fill;simp only[e2,l,f,Qe,beq_iff_eq,wj];show{trivial,by simp;ac_nf}
 let c:Tab (fE w) {t with place:=SetTable.insertAt t.place (SetTable.below t.place j) j}:={I.1,λz=>KZ (I.2 z) j (K0 h)}
 let X:scanBound=4096:=rfl;show T _ _ (wo ..) {_,_,_,_,H,{(k.1),k.2.1,k.2.2},rfl,rfl,by rw[e1];ac_nf,by rw[e1];show d,c} ?_ λb=>?_
 .let C:(a.toList.map BC).Perm (us.map λu=>Value.ref u.2):=by
   rw[D,Qf];show .refl _
  let m:((SetTable.insertAt a (SetTable.below t.place j) (pH p,Value.ref u)).toList).Perm (a.toList++[(pH p,Value.ref u)]):=by
   rw[iV];show List.perm_middle.trans ?_;rw[List.take_append_drop];show List.perm_append_comm (l₁:=[_])
  let:=m.map BC;rw[Qk]at this;show this.trans (C.append_right _)
 .subst b
  let b:t.place=#[]:=Array.size_eq_zero_iff.mp (by rw[v,e];rfl);let g:a=#[]:=Array.size_eq_zero_iff.mp (by rw[e];rfl);show{_,_,_,_,H,{(k.1),k.2.1,k.2.2},rfl,?_,by rw[e1];show d,l,f,?_,c}
  .rw[iV,g]
   simp
  .rw[iV,b,B rfl]
   simp
def LR{u:Addr}{p:Int×Bool}{Q:Bool->Shared->Prop}(b:PairV s.heap u p)(h:Q false s):wpAny (mZ prog w) A (ofAClassStatement 8 (.ref u)) Q E s:=by
 let{o,tk,n,a,c,d}:=b;unfold ofAClassStatement;show wa (wpAny_typeOf ({(o),a,c}) (wa (wc (wa (wpAny_seqItems a d (wc h))))))
def SQ{u v:Addr}{p q:Int×Bool}{Q:Bool->Shared->Prop}(b:PairV s.heap u p)(a:PairV s.heap v q)(h:Q false s):wpAny (mZ prog w) A (searchCouldBeSeen (.ref u) [.ref v]) Q E s:=by
 unfold searchCouldBeSeen;simp[carriedByValue];by_cases e:u=v
 .rw[if_pos e]
  show wa (wc (wa (wc (wc h))))
 .rw[if_neg e]
  show wa (wa (wpAny_eqIsQuiet_tuple b.key (wa (wpAny_eqIsQuiet_tuple a.key (wa (LR b (wa (LR a (wc (wa (wc (wc h))))))))))))
def SS{t:SetTable}{h:Int}(a:t.mask=7)(d:t.place=#[SetTable.bits h%8])(c:t.dummies=#[]){hA:Nat->Int}(b:hA 0=h):∃nx,t.probe hA h (t.probeStart h)=some (.candidate (SetTable.bits h%8) 0 nx):=by
 unfold SetTable.probe;rw[a,Bz a];change ∃nx,SetTable.probe.go t hA h (219+1) _=_;rw[SetTable.probe.go,o_ d c,if_pos rfl];dsimp only;rw[b,if_pos nofun];show{_,rfl}
theorem SU{S u v:Addr}{p:Int×Bool}{h:Int}{o:Obj}{a:Array (Int×Value)}{x:Nat}{t:SetTable}{nx:SetTable.Probe}{j:Nat}{Q:SetFound->Shared->Prop}(b:Nat)(q:A.units<cLine)(n:s.heap.get? S=some o)(k:o.data=.set a x t)(f:t.fits a.size=true)(z:t.mask=7)(c:a=#[(h,.ref v)])(e:t.probe (λi=>(a[i]?.map (·.1)).getD 0) h (t.probeStart h)=some (.candidate j 0 nx))(l:PairV s.heap v p)(m:PairV s.heap u p)(r:Q (.there none) s):wpAny (mZ prog w) A (setSearchFrom S (.ref u) h true (b+1) none) Q E s:=by
 show wa (wh n k f ?_);dsimp only
 let y:t.gaveWay=false:=by unfold SetTable.gaveWay;rw[z];rfl
 rw[y];change wpAny _ _ (match t.probe (λi=>(a[i]?.map (·.1)).getD 0) h (t.probeStart h)with|some B=>_|_=>_) _ _ _;rw[e];dsimp only
 let g:((a.filter (·.1==h)).toList.map (·.2))=[Value.ref v]:=by
  rw[c];simp
 let d:a[0]?=some (h,.ref v):=by rw[c];rfl
 rw[g,d]
 cases t.led with
 | true=>
   show wa (we (wpAny_eqBool_tuple q l.key m.key ?_));rw[wm rfl];show wa (wh n k f (wc r))
 | false=>
   show wa (SQ m l (wa (we (wpAny_eqBool_tuple q l.key m.key ?_))));rw[wm rfl];show wa (wh n k f (wc r))
def SV{S u:Addr}{h:Int}{o:Obj}{c:Array (Int×Value)}{f:Nat}{t:SetTable}{Q:Bool->Shared->Prop}(i:s.heap.get? S=some o)(g:o.data=.set c f t)(e:t.fits c.size=true)(a:∀b:SetFound->Shared->Prop,b (.there none) s->wpAny (mZ prog w) A (setSearch S (.ref u) h true) b E s)(d:Q false s):wpAny (mZ prog w) A (setAddHashed S (.ref u) h) Q E s:=by
 show we (wa (wh i g e (wa (a _ (wc d)))))
theorem SW{S u v:Addr}{p:Int×Bool}{d:Int}{Q:Bool->Shared->Prop}(x:A.units<cLine)(l:SetQ w s.heap S [(d,v)])(r:PairV s.heap v p)(C:PairV s.heap u p)(m:Q false s):wpAny (mZ prog w) A (setAddHashed S (.ref u) d) Q E s:=by
 let{o,g,G,t,j,F,h,z,k,f,y,B,H}:=l.ex
 let a:g=#[(d,.ref v)]:=by
  apply Array.toList_inj.mp;rw[z];rfl
 let n:t.place=#[SetTable.bits d%8]:=by
  apply Array.toList_inj.mp;rw[B];rfl
 let{nx,e}:=SS f n y (hA:=λi=>(g[i]?.map (·.1)).getD 0) (by rw[a];rfl);show SV j h k (λD q=>?_) m;let b:100000=99999+1:=rfl;unfold setSearch;rw[b];generalize 99999=c;show SU c x j h k f a e r C q
def dW:List Addr->List (Int×Bool)->List Addr
 | [a,c],[b,d]=>if b=d then [a]else [a,c]
 | us,_=>us
theorem SX{l I S:Addr}{us:List Addr}{ps:List (Int×Bool)}{R:Result->Shared->Prop}(X:A.handled=none)(hu:A.units+2<cLine)(N:s.heap.IsListIter I l 0)(J:s.heap.IsList l (us.map Value.ref).toArray)(h2:us.length<=2)(y:ps.length=us.length)(hp:∀(i:Nat) u p,us[i]?=some u->ps[i]?=some p->PairV s.heap u p)(hd:∀p q,ps=[p,q]->p=q\/pH p≠pH q)(hS:SetQ w s.heap S [])(C:l≠I)(c:S≠I)(v:l≠S)(B:∀u∈us,u≠I)(W:∀u∈us,u≠S)(hR:∀h' tk vs,SetV w h' S vs->vs.Perm ((dW us ps).map Value.ref)->(∀b o,b≠S->b≠I->s.heap.get? b=some o->h'.get? b=some o)->R (.ok (.ret .none)) {s with heap:=h',toks:=tk}):
 codeAny (mZ prog w) A (.builtin "set.update.loop" {[.ref S,.ref I],[]}) R s:=by
 let Y:∀{h h':Heap}{its:Array Value},h.IsList l its->(∀o,h.get? l=some o->h'.get? l=some o)->h'.IsList l its:=λx k=>let ⟨o,e,r⟩:=x;{o,k o e,r};let ik:∀{h h':Heap}{i:Nat},h.IsListIter I l i->(∀o,h.get? I=some o->h'.get? I=some o)->h'.IsListIter I l i:=λx k=>let ⟨o,e,r⟩:=x;{o,k o e,r};let _+{D,_+{Q,_+{u3,ur}}}:=us
 .show uI X N J rfl λh1 d=>?_
  show hR h1 s.toks _ ((hS.keep λo e=>d S o c e).vals nofun) (.refl _) λb o _ hb e=>d b o hb e
 .let _+{P,_+{T,pr}}:=ps
  .simp at y
  .let j:=hp 0 D P rfl rfl
   show BB hu N J rfl j (B D nofun) λh1 F H d=>?_;show BD (hS.keep λo e=>by rw[d.2 S c];show e) nofun (j.keep λo e=>by rw[d.2 D (B D nofun)];show e) nofun λO vs2 m hn2 hp2 t=>?_;show uI X (ik H λo e=>by rw[m.2 I (Ne.symm c)];show e) (Y J λo e=>by rw[m.2 l v,d.2 l C];show e) rfl λh3 g=>?_;show hR h3 F _ (((t rfl).keep λo e=>g S o c e).vals nofun) (.refl _) λb o f a e=>g b o a (by rw[m.2 b f,d.2 b a];show e)
  .simp at y
 .let _+{P,_+{T,_+{p3,pr}}}:=ps
  .simp at y
  .simp at y
  .let j:=hp 0 D P rfl rfl
   let K:=hp 1 Q T rfl rfl;let n1:=B D nofun;let Z:=B Q nofun;let m2:=W Q nofun;show BB hu N J rfl j n1 λh1 F H d=>?_;show BD (hS.keep λo e=>by rw[d.2 S c];show e) nofun (j.keep λo e=>by rw[d.2 D n1];show e) nofun λO vs2 m hn2 hp2 t=>?_
   let k2:∀b o,b≠S->b≠I->s.heap.get? b=some o->O.get? b=some o:=λb o f a e=>by rw[m.2 b f,d.2 b a];show e
   show BB (s:={s with heap:=O,toks:=F}) hu (ik H λo e=>by rw[m.2 I (Ne.symm c)];show e) (Y J λo e=>k2 l o v C e) rfl (K.keep λo e=>k2 Q o m2 Z e) Z λh3 V U g=>?_
   let G:∀b o,b≠S->b≠I->s.heap.get? b=some o->h3.get? b=some o:=λb o f a e=>by rw[g.2 b a];show k2 b o f a e
   by_cases L:P=T
   .subst L
    show SW ∅ ((t rfl).keep λo e=>by rw[g.2 S c];show e) (j.keep λo e=>G D o (W D nofun) n1 e) (K.keep λo e=>G Q o m2 Z e) ?_;show uI X U (Y J λo e=>G l o v C e) rfl λh5 n=>?_;show hR h5 V _ (((t rfl).keep λo e=>n S o c (by rw[g.2 S c];show e)).vals nofun) ?_ λb o f a e=>n b o a (G b o f a e);rw[dW,if_pos rfl];show .refl _
   .let hdp:pH P≠pH T:=by
     let z+z:=hd P T rfl
     .show absurd z L
     .show z
    show BD ((t rfl).keep λo e=>by rw[g.2 S c];show e) nofun (K.keep λo e=>G Q o m2 Z e) (λq hq=>?_) λh4 vs4 M hn4 hp4 _=>?_
    .simp only[List.mem_singleton]at hq
     rw[hq];show hdp
    .show uI X (ik U λo e=>by rw[M.2 I (Ne.symm c)];show e) (Y J λo e=>by rw[M.2 l v];show G l o v C e) rfl λh5 n=>?_
     show hR h5 V vs4 (hn4.at λo e=>n S o c e) ?_ λb o f a e=>n b o a (by rw[M.2 b f];show G b o f a e);rw[dW,if_neg L];show hp4
  .simp at y
 .simp at h2
theorem SY{l:Addr}{us:List Addr}{ps:List (Int×Bool)}{Q:AA}(W:A.handled=none)(hu:A.units+8<cLine)(N:s.heap.IsList l (us.map Value.ref).toArray)(Y:us.length<=2)(I:ps.length=us.length)(S:∀(i:Nat) u p,us[i]?=some u->ps[i]?=some p->PairV s.heap u p)(X:∀p q,ps=[p,q]->p=q\/pH p≠pH q)(h:∀(h':Heap) (tk:Nat) vs,SetV w h' (~~~s) vs->vs.Perm ((dW us ps).map Value.ref)->(∀b o,s.heap.get? b=some o->h'.get? b=some o)->Q (.ref (~~~s)) {s with heap:=h',toks:=tk}):
 wpAny (mZ prog w) A (call (.type "set") [.ref l]) Q E s:=by
 show zV (Q₁:=λx f=>x=.ref (~~~s)/\f={s with heap:=s.heap.push (bN w)}) F.called_set (F.typeCall_set_1 _) F.entry_set_init (zW _ {(rfl),rfl}) ?_;rintro x f ⟨rfl,rfl⟩;let M:(s.heap.push (bN w)).get? (~~~s)=some (bN w):=qp _ rfl
 let T:Shared.TypeIs {s with heap:=s.heap.push (bN w)} (.ref (~~~s)) "set":={_,M,rfl}
 show{T,λA' E' Q' V=>check_set_init_1 T V,?_}
 let r:∀u∈us,u< ~~~s:=λu y=>by
  let{i,C,e}:=List.getElem_of_mem y
  let L:i<ps.length:=by ac_nf
  let{o,_,_,Z,_}:=S i u ps[i] (by rw[qr C,e]) (qr L);show ql Z
 generalize n:(us.map Value.ref).toArray=a at N;let{ol,t,m,U,v}:=N;let{O,j,H,d}:=ol;simp only at m v;subst m;subst v;let B:(s.heap.push (bN w)).get? l=some {cls:=.type "list",dict:=j,data:=.seq a U,slots:=d}:=qe _ t;let P:=F.sub_list_set;let R:=F.sub_list_frozenset
 let hne:(Value.type "list"==Value.type "dict")=false:=by decide
 let z:(s.heap.push (bN w)).IsList l a:={_,B,rfl,U,rfl}
 unfold Builtin.«set.__init__» noKeywords Builtin.Frozenset.updateFrom;generalize J:pyIter=PI
 wp_walk
 subst J;show wpAny_pyIter_list z ?_;show wa (wpAny_runValue ?_);let k:l< ~~~s:=ql t;let c:(s.heap.push (bN w)).objs.size= ~~~s+1:=wt ..;let g:((s.heap.push (bN w)).push {cls:=.type "list_iterator",data:=.fields #[.ref l,.int 0 0]}).IsList l a:=z.push _;rw[<-n]at g;show SX (us:=us) (ps:=ps) (by simp[W]) (by change _+2<cLine;simp;ac_nf) {_,qp _ rfl,rfl,rfl} g Y I (λi u p C D=>(S i u p C D).keep λo e=>qe _ (qe _ e)) X ?_ ?_ ?_ ?_ ?_ ?_ ?_
 .show{bN w,#[],0,_,qe _ M,{(rfl),rfl,rfl},rfl,rfl,rfl,rfl,rfl,rfl,.fresh}
 .rw[c];show qm (qx k)
 .rw[c];show qm (Qa _)
 .show qm k
 .intro u y;rw[c];show qm (qx (r u y))
 .intro u y;show qm (r u y)
 .intro h' tk vs hN G K
  change wpAny _ _ _ _ _ _;show wc ?_;change wpAny _ _ (ret Value.none) _ _ _;show wc {rfl,h h' tk vs hN G λb o e=>?_};let hb:=ql e;show K b o (qm hb) (by rw[c];show qm (qx hb)) (qe _ (qe _ e))
end
section
variable {w:World}{A:Around}{E:AA}
def SZ:∀{us:List Addr}{ps:List (Int×Bool)},(∀p q,ps=[p,q]->pH p≠pH q)->(dW us ps).length=us.length:=by
 intro us ps hd;unfold dW
 split
 .rw[if_neg λe=>hd _ _ rfl (by rw[e])]
 .rfl
def LS{l:Addr}{us:List Addr}{ps:List (Int×Bool)}{n:Nat}{Q:AA}(hh:A.handled=none)(hu:A.units+8<cLine)(hl:s.heap.IsList l (us.map Value.ref).toArray)(h2:us.length<=2)(hps:ps.length=us.length)(hp:∀(i:Nat) u p,us[i]?=some u->ps[i]?=some p->PairV s.heap u p)(hd:∀p q,ps=[p,q]->p=q\/pH p≠pH q)(hn:(dW us ps).length=n)(h:∀(h':Heap) (tk:Nat),fY w h' (~~~s) n->(∀b o,s.heap.get? b=some o->h'.get? b=some o)->Q (.ref (~~~s)) {s with heap:=h',toks:=tk}):
 wpAny (mZ prog w) A (call (.type "set") [.ref l]) Q E s:=by
 show SY hh hu hl h2 hps hp hd λh' tk vs hS hpm hk=>h h' tk ?_ hk;let{o,es,ep,t,h1,hx,h3,hvs,hb,hf,_}:=hS;show{o,es,ep,t,h1,hx,h3,?_,hf}
 let e1:es.size=vs.length:=by rw[<-hvs,qf,qj]
 rw[e1,hpm.length_eq,qf,hn]
end
def eY(w:World)(p:Addr)(n:Nat):HO:=.ext λh=>fY w h p n
def BE{P:P7}{w:World}{H:Hp}{h:Heap}{p:Addr}{n:Nat}(x:fY w h p n):ObjOk P w H h p (eY w p n):=by
 show{x,?_,λh1 h2 e k=>?_}
 .let{o,_,_,_,ho,_}:=x
  show{(o),ho}
 .let{o,es,ep,t,ho,r}:=e
  show{o,es,ep,t,k o ho,r}
def SetI.count{P:P7}{w:World}{h:Heap}{a:Addr}{ns:AF}(x:SetI P w h a ns):fY w h a ns.length:=by
 let{o,es,ep,t,h1,h2,h3,h4,h5,h6,h7,h8,h9}:=x;show{o,es,ep,t,h1,h2,h3,by rw[<-h5,qf,qj],h8}
def ic(H:Hp):AM->List (Int×Bool)->Prop
 | [],[]=>True
 | x::xs,q::qs=>(∃b,x=.ref b/\H b=some (.tup [.int q.1,.bl q.2]))/\ic H xs qs
 | _,_=>False
def ig:List (Int×Bool)->Bool
 | [p,q]=>decide (pH p≠pH q)
 | l=>decide (l.length<=2)
def uJ:List (Int×Bool)->Bool
 | [p,q]=>decide (p=q)
 | _=>false
def S0{l:List (Int×Bool)}(h:uJ l=true):∃p,l=[p,p]:=by
 let _+{p1,_+{p2,_+{p3,r}}}:=l
 .cases h
 .cases h
 .show{p1,by rw[of_decide_eq_true h]}
 .cases h
def BF(K:W7)(w:World):AM->Hp->VK->Prop:=λxs H Q=>∃a ys n,xs=[.ref a]/\SqL K H a ys/\((∃ns:AF,ys=ns.map V.int/\ns.length<4000/\n=(aT [] ns).length)\/(∃qs,ic H ys qs/\((ig qs=true/\n=qs.length)\/(uJ qs=true/\n=1))))/\∀p,H p=none->Q (.ref p) (upd H p (eY w p n))
theorem LU{pins:AB}{s:Shared}{σ:L2.St}{H:Hp}(I:Inv X pins σ H s):∀{ys:AM}{its:AC}{qs:List (Int×Bool)},ic H ys qs->Vals ys its->∃us:List Addr,its=us.map Value.ref/\us.length=qs.length/\∀(i:Nat) u p,us[i]?=some u->qs[i]?=some p->PairV s.heap u p
 | [],its,[],_,r=>by
   cases r;show{[],rfl,rfl,λi u p h=>by simp at h}
 | y::ys,its,q::qs,h,r=>by
   let{{b,rfl,hb},h}:=h
   cases r with
   | cons r1 r2=>
     cases r1;let{us,h1,h2,h3}:=LU I h r2;let{its2,rv,{o,e,hc,n,hd},_}:=I.tuple (xs:=[.int q.1,.bl q.2]) (.of hb)
     cases rv with
     | cons ra rb=>
       cases rb with
       | cons rc rd=>
         cases rd;let{t,rfl}:=ra;cases rc;show{b::us,by rw[h1];rfl,by simp[h2],λi u p hi hp=>?_}
         cases i with
         | zero=>
           simp at hi hp;subst hi hp;show{(o),t,n,e,hc,hd}
         | succ i=>show h3 i u p (by simpa using hi) (by simpa using hp)
 | [],_,_::_,h,_=>h.elim
 | _::_,_,[],h,_=>h.elim
theorem S1(hc:X.calm=true)(hu:X.A.units+64<cLine):b9 X (.type "set") (BF X.K X.w):=by
 intro pins s σ H xs us Q I r h;let{a,ys,n,rfl,hq,hn,q}:=h;let{u,rfl,rx}:=dh r;cases rx;let hh:X.A.handled=none:=I.ok.hd hc;let hsb:scanBound=4096:=rfl;let{its,rv,pl,hz}:=I.list hq;let{ns,rfl,hl,rfl}+{qs,hv,hd}:=hn
 .let hlen:=rv.length
  rw[qf]at hlen;show K5 hh pl.isList (by simpa using Bt rv) (by rw[qk,hsb];ac_nf) λh' tk ms hS hp hk=>?_;show{.ref (~~~s),_,I.laid (t':=tk) (λb o e=>hk b o (ql e) e) (qv _) (BE (by rw[<-hp.length_eq];show hS.count)),rfl,q _ (I.hok.fresh (qv _))}
 .let{bs,e1,e2,e3}:=LU I hv rv
  let hls:s.heap.IsList a (bs.map Value.ref).toArray:=by rw[<-e1];show pl.isList
  let{hd,rfl}+{hd,rfl}:=hd
  .let hl2:qs.length<=2:=by
    let _+{p1,_+{p2,_+{p3,r}}}:=qs
    .simp
    .simp
    .simp
    .simp[ig]at hd
   let hdf:∀p q,qs=[p,q]->pH p≠pH q:=λp q e=>by
    subst e;simpa [ig]using hd
   show LS hh ∅ hls ∅ e2.symm e3 (λp q e=>.inr (hdf p q e)) (SZ hdf) λh' tk hS hk=>?_;show{.ref (~~~s),_,I.laid (t':=tk) hk (qv _) (BE (by rw[<-e2];show hS)),rfl,q _ (I.hok.fresh (qv _))}
  .let{p,rfl}:=S0 hd
   obtain⟨u1,u2,rfl⟩:∃u1 u2,bs=[u1,u2]:=by
    let _+{u1,_+{u2,_+{u3,r}}}:=bs
    .simp at e2
    .simp at e2
    .show{(u1),u2,rfl}
    .simp at e2
   show LS hh ∅ hls (qv _) e2.symm e3 (λp q e=>.inl (by cases e;rfl)) (by rw[dW,if_pos rfl]) λh' tk hS hk=>?_;show{.ref (~~~s),_,I.laid (t':=tk) hk (qv _) (BE hS),rfl,q _ (I.hok.fresh (qv _))}
def BG(w:World):AM->Hp->VK->Prop:=λxs H Q=>∃a n,xs=[.ref a]/\H a=some (eY w a n)/\n<4000/\Q (.int n) H
theorem S2:b9 X (.builtin "len") (BG X.w):=by
 intro pins s σ H xs us Q I r h;let{a,n,rfl,ha,hn,q}:=h;let{u,rfl,rx}:=dh r;cases rx;obtain⟨o,es,ep,t,h1,h2,h3,h4,h5⟩:fY X.w s.heap a n:=(show ObjOk X.prog X.w H s.heap a (eY X.w a n) from I.hok a _ ha).1;show call_len_set h1 h2 h3 h5 (by rw[h4];ac_nf) ?_;show{.int n,H,I.tok _,{_,by rw[h4]},q}
def c5:AN->Option (List (Int×Bool))
 | []=>some []
 | d::l=>(lQ d).bind λx=>(c5 l).map (x::·)
def BH{K:W7}{G:Hp}{d:D}{p:Int×Bool}{x:V}(h:lQ d=some p)(e:Rp K G d x):∃b,x=.ref b/\G b=some (.tup [.int p.1,.bl p.2]):=by
 rw[A9 h]at e;let{b,ys,rfl,hb,a}:=e;let{k,g,rfl,f,a}:=a;let{j,g,rfl,i,a}:=a;subst a;subst f;subst i;show{(b),rfl,hb}
def S3{d:D}{l:AN}{ps:List (Int×Bool)}(e:c5 (d::l)=some ps):∃p a,ps=p::a/\lQ d=some p/\c5 l=some a:=by
 let{x,b,g}:=qa e;let{y,f,c}:=qc g;show{(x),y,c.symm,b,f}
def ij(l:AN):Option D:=match cV l with
 | some ns=>if ns.length<4000 then some (.int (aT [] ns).length)else none
 | none=>(c5 l).bind λps=>if ig ps=true then some (.int ps.length)else if uJ ps=true then some (.int 1)else none
def j2:AN->Option D
 | [.lst l]=>ij l
 | _=>none
theorem LV{K:W7}{G H:Hp}(s:Same G H):∀{l:AN}{ps:List (Int×Bool)}{xs:AM},c5 l=some ps->RpL K G l xs->ic H xs ps
 | [],ps,xs,e,r=>by
   rw[c5]at e;cases e;rw[RpL]at r;subst r;show trivial
 | d::l,ps,xs,e,r=>by
   let{p,ps',rfl,h0,h1}:=S3 e;rw[RpL]at r;let{x,xr,rfl,rx,rr}:=r;let{b,rfl,hb}:=BH h0 rx;show{{b,rfl,s _ _ hb},LV s h1 rr}
theorem LW:∀(l acc:AF),(aT acc l).length<=acc.length+l.length
 | [],acc=>by simp[aT]
 | k::l,acc=>by
   rw[aT];let:=LW l (if k∈acc then acc else acc++[k])
   split at this
   .rename_i h;rw[if_pos h];simp;ac_nf
   .rename_i h;rw[if_neg h];simp at this ⊢;ac_nf
section
variable {e:Expr}{ga:AV}{p p2:Pos}
@[simp] theorem iZ(l:AN):j2 [.lst l]=ij l:=Bx rfl
end
noncomputable def BI(mask:Nat)(p:SetTable.Probe):SetTable.Probe:=SetTable.advance {mask:=mask,place:=#[],dummies:=#[],finger:=0,led:=false,moves:=0,plain:=false} p
noncomputable def BJ(mask:Nat):Nat->SetTable.Probe->SetTable.Probe
 | 0,p=>p
 | k+1,p=>BJ mask k (BI mask p)
noncomputable def S4(mask i perturb:Nat):SetTable.Probe:={j:=i,more:=SetTable.runEnd mask i-i,i,perturb,dummy:=none}
def S5(mask:Nat)(a:Nat->Prop)(p:SetTable.Probe)(j:Nat):Prop:=∃k,(BJ mask k p).j=j/\∀m,m<k->a (BJ mask m p).j
abbrev S6(mask:Nat)(h:Int):SetTable.Probe:=S4 mask (SetTable.bits h%(mask+1)) (SetTable.bits h)
section
variable {t:SetTable}{hA:Nat->Int}{h:Int}
structure pd(t:SetTable)(n:Nat):Prop where
 hs:t.mask+1∈By
 dm:t.dummies=#[]
 rise:cS t.place
 le:∀j∈t.place.toList,j<=t.mask
 sz:t.place.size=n
 room:n<=t.mask
end
def bI(b:Bool):Int:=if b then 1 else 0
def bH(a:AG):Int:=jP (a.map bI)
def BK(h:Heap)(u:Addr)(a:AG):Prop:=a.length<=4/\∃o n,h.get? u=some o/\o.cls=.type "tuple"/\o.data=.seq (a.map .bool).toArray n
structure S7(w:World)(h:Heap)(S:Addr)(us:List (Addr×AG)):Prop where
 ex:∃o es ep t,h.get? S=some o/\o.ExactSet/\o.data=.set es ep t/\es.toList.Perm (us.map λu=>(bH u.2,Value.ref u.1))/\t.fits es.size=true/\pd t es.size/\Tab (fE w) t/\es.size*5<t.mask*3/\∀q∈es.toList.zip t.place.toList,S5 t.mask (·∈t.place.toList) (S6 t.mask q.1.1) q.2
 keys:(us.map (·.2)).Nodup
 tups:∀u∈us,BK h u.1 u.2
 few:us.length<=24
section
variable {n:Nat}{key:Nat->Nat}{cmp:Nat->Nat->(Bool->Shared->Prop)->Shared->Prop}
variable (hinj:∀i j,i<n->j<n->key i=key j->i=j)(hc:∀i j (C:Bool->Shared->Prop),i<n->j<n->C (decide (key i<key j)) s->cmp i j C s)
include hinj hc
omit hinj hc in
omit hinj hc in
omit hinj hc in
end
section
variable {e:Expr}{f:AU}{p p2:Pos}
noncomputable def j3(f:AU):AR:=λa=>(f a).map λ_=>.nx a
@[simp] theorem uK{ρ:Ro}:j3 f ρ=(f ρ).map λ_=>.nx ρ:=Bx rfl
end
structure ZE(X:Cx)(e:Expr)(f:AU):Prop where
 un:ME X e f
structure ZC(X:Cx)(e:Expr)(f:AU):Prop where
 un:MC X e f
structure gG(X:Cx)(es:AK)(f:AV):Prop where
 un:t7 X es f
structure ZF(X:Cx)(e:Expr)(f:AV):Prop where
 un:MF X e f
structure ZT(X:Cx)(e:Expr)(f:AT):Prop where
 un:MT X e f
structure ZW(X:Cx)(e:Expr)(f:AT):Prop where
 un:MW X e f
structure ZA(X:Cx)(es:AK)(f:AV):Prop where
 un:MA X es f
structure ZI(X:Cx)(tg iter:Expr)(f:AV):Prop where
 un:MI X tg iter f
structure ZS(X:Cx)(st:Stmt)(f:AR):Prop where
 un:MS X st f
structure ZB(X:Cx)(sts:List Stmt)(f:AR):Prop where
 un:MB X sts f
structure ZG(X:Cx)(tg:Expr)(gt:AS):Prop where
 un:MG X tg gt
structure fZ(X:Cx)(K:W7)(ifs:AK)(f:AT):Prop where
 un:dR X ifs (tTof K f)
structure ZO(X:Cx)(e:Option Expr)(f:Option AU):Prop where
 un:PO X e (tO X.K f)
structure ZP(X:Cx)(pos:Pos)(keys:List (Option Expr))(values:AK)(ks:AJ)(fs:List AU):Prop where
 un:MP X pos keys values ks fs
section
variable {H0 G0 H G:Hp}{σ:L2.St}{ρ:Ro}{a b c e:Expr}{fb fc f:AU}{ga:AV}
def Yh(h:ZE X e f):ZC X e f:={ME.mc h.un}
theorem Yg(i:Nat)(n:X.N[i]?=some x:=by rfl)(k:eN X.env.scope x:=by trivial)(l:ba x:=by decide)(g:fN x:=by decide):ZE X (.Name x pos) (af i):=⟨
 PE.imp (fC n k l g) λc H Q j=>by
  let{f,d,b,a,G,e,s,h}:=j;let{v,o,m}:=s.sh i d (z_ e)
  show{v,o,h v H G (.refl s.seen) m}⟩
theorem Yi(i:Nat)(r:X.N[i]?=some x:=by rfl)(w:eN X.env.scope x:=by trivial)(z:ba x:=by decide)(m:fN x:=by decide):ZC X (.Name x pos) (aa i):=⟨
 PE.imp (fC r w z m) λD H Q o=>by
  let{E,d,F,B,G,e,s,h}:=o;unfold aa at e
  split at e
  .rename_i C k
   cases e;let{v,g,j}:=s.sh i _ k;show{v,g,h v H G (.refl s.seen) (.of s.seen j)}
  .rename_i l n
   cases e;let{a,c,g,j,y,p,q}:=s.ow i l n;show{_,g,h _ H G (.refl s.seen) ({a,c,rfl,.inl p,q})}
  .rename_i t f b n
   cases e;let{a,u,A,g,j,y,p,q}:=s.od i t f b n;show{_,g,h _ H G (.refl s.seen) (by rw[Ct];grind)}
  .cases e⟩
def Yn{j}:ZE X (.Constant (.int i) j pos) (Zi i):={(Aa)}
def j4{j}:ZE X (.Constant (.bool k) j pos) (kD (.bl k)):={(Ab)}
def gH{j}:ZE X (.Constant .none j pos) (kD .non):={(Ac)}
theorem d9{j}(g:PyData.strOk x=true:=by decide +kernel):ZE X (.Constant (.str x) j pos) (kD (.str x)):={lM yg (λ_ _ _ q=>q) λ_=>by rw[Rp];grind}
def BL(d:ZC X a fa)(c:ZC X b fb):ZE X (.BinOp a .Sub b pos) (b2 fa fb eS):={let d:=d.un;let c:=c.un;jS yU Lf d c}
def BM(d:ZC X a fa)(c:ZC X b fb):ZE X (.BinOp a .Mult b pos) (b2 fa fb fT):=⟨let d:=d.un;let c:=c.un;jS yV (Ae λi j h=>by
 simp only[Bool.or_eq_true,Qe,wj]at h
 show h) d c⟩
def uL(d:ZC X a fa)(c:ZC X b fb):ZE X (.BinOp a .FloorDiv b pos) (b2 fa fb bJ):=⟨let d:=d.un;let c:=c.un;jS yW (Ae λi j h=>by
 simp [wj]at h
 show h) d c⟩
def pe(d:ZC X a fa)(c:ZC X b fb):ZE X (.BinOp a .Mod b pos) (b2 fa fb aE):={let d:=d.un;let c:=c.un;jS yX (Ae λi j h=>of_decide_eq_true h) d c}
def BN(d:ZC X a fa)(c:ZC X b fb):ZE X (.Compare a [.GtE] [b] pos) (mB (b2 fa fb uv)):={let d:=d.un;let c:=c.un;lN za jT d c (eP _)}
def lV(d:ZC X a fa)(c:ZC X b fb):ZT X (.Compare a [.Lt] [b] pos) (b2 fa fb fF):={let d:=d.un;let c:=c.un;gD nL jT d c (eP _)}
def pf(d:ZC X a fa)(c:ZC X b fb):ZT X (.Compare a [.Gt] [b] pos) (b2 fa fb dE):={let d:=d.un;let c:=c.un;gD y_ jT d c (eP _)}
def BO(g:X.A.units+64<cLine)(d:ZC X a fa)(c:ZC X b fb):ZE X (.Compare a [.Eq] [b] pos) (mB (b2 fa fb (aA false))):={let d:=d.un;let c:=c.un;lN (Ah g) oy d c (eP _)}
def BP(g:X.A.units+64<cLine)(d:ZC X a fa)(c:ZC X b fb):ZE X (.Compare a [.NotEq] [b] pos) (mB (b2 fa fb (aA true))):={let d:=d.un;let c:=c.un;lN (ox g) oy d c (eP _)}
def BQ(g:X.A.units+64<cLine)(d:ZC X a fa)(c:ZC X b fb):ZT X (.Compare a [.Eq] [b] pos) (b2 fa fb (aA false)):={let d:=d.un;let c:=c.un;gD (Ah g) oy d c (eP _)}
def uM(g:X.A.units+64<cLine)(d:ZC X a fa)(c:ZC X b fb):ZT X (.Compare a [.NotEq] [b] pos) (b2 fa fb (aA true)):={let d:=d.un;let c:=c.un;gD (ox g) oy d c (eP _)}
def ph(g:X.A.units+64<cLine)(d:ZC X a fa)(c:ZC X b fb)(h:behindInMarks .In b=false:=by with_unfolding_all rfl):ZE X (.Compare a [.In] [b] pos) (mB (b2 fa fb (dq false))):={let d:=d.un;let c:=c.un;lN (oz g) Aj d c h}
def pj(g:X.A.units+64<cLine)(d:ZC X a fa)(c:ZC X b fb)(h:behindInMarks .In b=false:=by with_unfolding_all rfl):ZT X (.Compare a [.In] [b] pos) (b2 fa fb (dq false)):={let d:=d.un;let c:=c.un;gD (oz g) Aj d c h}
def LX(g:X.A.units+64<cLine)(d:ZC X a fa)(c:ZC X b fb)(h:behindInMarks .NotIn b=false:=by with_unfolding_all rfl):ZT X (.Compare a [.NotIn] [b] pos) (b2 fa fb (dq true)):={let d:=d.un;let c:=c.un;gD (R4 g) Aj d c h}
end
section
variable {a b c e:Expr}{rest:AK}{fb f fe:AU}{fc fd:AT}{ga:AV}{p pt:Pos}{x:Str}{id T:String}{r:AM->Hp->VK->Prop}{g:AN->Option D}{gf:AN->Option AN}{fs gs:AR}{N:AJ}{src:List AL}{gt:AS}{P:P7}{w:World}{x1:Nat}
def f6(j:ZC X a fa)(o:∀i,isTrue a X.env i=(do let v <-i;standAt a.pos;holding [v] (truthy v)):=by intro _;rfl):ZT X a (b1 fa aI):=⟨let j:=j.un;
 PT.imp (Q9 j o) λc H Q l=>by
  let{b,k,A,B,G,e,s,h}:=l;let{d,t,u}:=cI e
  show tCof.at t s λv y m n q z=>{k,Ak u q,h y m n}⟩
def LY(d:ZT X a fc):ZW X (.BoolOp .And [a] pos) fc:={let d:=d.un;yi d}
def lW(d:ZT X a fc):ZW X (.BoolOp .Or [a] pos) fc:={let d:=d.un;yj d}
def LZ(d:ZT X a fc)(c:ZW X (.BoolOp .And (b::rest) pos) fd):ZW X (.BoolOp .And (a::b::rest) pos) (cZ fc fd):={let d:=d.un;let c:=c.un;PW.imp (yk d c) λ_ _ _ h=>Al h}
def lX(d:ZT X a fc)(c:ZW X (.BoolOp .Or (b::rest) pos) fd):ZW X (.BoolOp .Or (a::b::rest) pos) (cT fc fd):={let d:=d.un;let c:=c.un;PW.imp (ym d c) λ_ _ _ h=>Am h}
def pk(i:ZT X a fc):ZT X (.UnaryOp .Not a pos) (cg fc):=⟨let i:=i.un;PT.imp (yn i) λc H Q d=>by
 let{b,k,t,q,G,e,s,h}:=d;let{o,j,rfl}:=qc e
 show tTof.at j s λm n l _=>h m n l⟩
def S8(d:ZE X a fa):ZE X (.BoolOp .And [a] pos) fa:={let d:=d.un;nB d}
def BR(d:ZE X a fa):ZE X (.BoolOp .Or [a] pos) fa:={let d:=d.un;nB d}
def BS(j:ZE X a fa)(c:ZE X (.BoolOp .And (b::rest) pos) fb):ZE X (.BoolOp .And (a::b::rest) pos) (eT fa fb):=⟨let j:=j.un;let c:=c.un;PE.imp (yr j c) λg H Q i=>by
 let{f,d,F,I,G,e,s,h}:=i;let{k,A,e}:=qa e;let{E,y,q}:=cI A;cases An q
 show tOf.at y s λv C m l t n=>{k,t,?_}
 cases k with
 | true=>
   show tOf.at e n λw u B z o _=>h w u B (l.trans z) o
 | false=>
   cases e
   show h _ C m l (by rw[Rp])⟩
def BU(j:ZE X a fa)(hb:ZE X (.BoolOp .Or (b::rest) pos) fb):ZE X (.BoolOp .Or (a::b::rest) pos) (Ao fa fb):=⟨let j:=j.un;let hb:=hb.un;PE.imp (yt j hb) λσ H Q i=>by
 let{ρ,d,F,I,G,e,s,h}:=i;let{k,A,e}:=qa e;let{E,y,q}:=cI A;cases An q
 show tOf.at y s λv C m l t n=>{k,t,?_}
 cases k with
 | false=>
   show tOf.at e n λw u B z o _=>h w u B (l.trans z) o
 | true=>
   cases e
   show h _ C m l (by rw[Rp])⟩
def BV(j:ZE X a fa):ZE X (.UnaryOp .Not a pos) (hJ fa):=⟨let j:=j.un;PE.imp (yu j) λc H Q i=>by
 let{b,d,y,B,G,e,s,h}:=i;let{k,u,rfl}:=qc e;let{A,q,m}:=cI u;cases An m
 show tOf.at q s λv t l n o z=>{k,o,h _ t l n (by rw[Rp])}⟩
def lY(m:ZT X c fc)(i:ZE X a fa)(f:ZE X b fb):ZE X (.IfExp c a b pos) (d8 fc fa fb):=⟨let m:=m.un;let i:=i.un;let f:=f.un;PE.imp (Kg m i f) λp H Q q=>by
 let{g,d,y,B,G,e,s,h}:=q;let{k,v,e}:=qa e;show tTof.at v s λz A u t=>?_
 cases k with
 | true=>
   show tOf.at e t λw j n o l _=>h w j n (u.trans o) l
 | false=>
   show tOf.at e t λw j n o l _=>h w j n (u.trans o) l⟩
def S9(d:ZC X a fa)(c:ZC X b fb):ZE X (.Compare a [.IsNot] [b] pos) (mB (b2 fa fb (cK true))):={let d:=d.un;let c:=c.un;lN Km Lh d c (eP _)}
def BW(d:ZC X a fa)(c:ZC X b fb):ZT X (.Compare a [.Is] [b] pos) (b2 fa fb (cK false)):={let d:=d.un;let c:=c.un;gD zb Ap d c (eP _)}
def BX(d:ZC X a fa)(c:ZC X b fb):ZT X (.Compare a [.IsNot] [b] pos) (b2 fa fb (cK true)):={let d:=d.un;let c:=c.un;gD Km Lh d c (eP _)}
def Yx(d:ZC X a fa)(hb:ZC X b fb)(hs:nZ b:=by intro _ _;rfl):ZE X (.Subscript a b pos) (b2 fa fb aw):={let d:=d.un;let hb:=hb.un;oq zC Ar d hb hs}
def eB{lo A:Option Expr}(y:ZC X a fa)(k:ZO X lo fl)(o:ZO X A fh):ZF X (.Subscript a (.Slice lo A none p2) pos) (aO fa fl fh):=⟨let y:=y.un;let k:=k.un;let o:=o.un;
 PE.imp (zy zF y k o) λD H Q m=>by
  let{c,l,f,U,G,e,s,h}:=m;let{W,L,e}:=qa e;let{i,O,e}:=qa e;let{j,F,e}:=qa e;cases e;let{d,J,S}:=cI L;show tCof.at J s λv w Y B R E=>uw O E λZ r t M=>uw F M λx I u C=>?_;let{p,b,rfl,g,z}:=R5 S ((R.grow t).grow u);show{p,b,rfl,g,λq n=>h q _ _ I (((B.trans t).trans u).trans (.hid C.seen n _)) (B.h.free (t.h.free (u.h.free n))) (C.seen.free n) Yo ?_};unfold aB fQ;rw[z.length]
  show(z.drop _).take _⟩
def fH :ZO X none none:={(As)}
def dH(h:ZC X e f):ZO X (some e) (some f):={let h:=h.un;KE h}
def bB{g:AV}(h:ZF X e g):ZE X e (lF g):={MF.me h.un}
def Yj :ZA X [] ae:={(oA)}
def Yc(d:ZE X e f)(h:ZA X es ga)(hs:Zj X e es:=by rfl):ZA X (e::es) (Yb f ga):={Li d.un h.un hs}
def c6 :gG X [] ae:={(Lj)}
def y6(d:ZC X e f)(h:gG X es ga)(hs:Zj X e es:=by rfl):gG X (e::es) (Yb f ga):={Lk d.un h.un hs}
theorem uN{x1}(h:ZA X es ga):ZE X (.Tuple es x1 pos) (bf ga):=⟨let h:=h.un;PE.imp (zq h) λb H Q i=>by
 let{c,d,u,t,G,e,s,h}:=i;let{l,n,e}:=qa e
 split at e
 .cases e
  show tAof.at n s λa q v o j k=>{by rw[j.length];show jW (by assumption),λp m=>h _ _ _ (o.trans (.new k.seen m _)) ({p,a,rfl,Yo,j.mono (Gr.new k.seen m _).g})}
 .cases e⟩
theorem dX(h:ZA X es ga):ZF X (.List es pos) (ah ga):=⟨let h:=h.un;PE.imp (tN h) λσ H Q j=>by
 let{ρ,d,u,v,G,e,s,h}:=j;let{l,o,e}:=qa e
 split at e
 .cases e
  show tAof.at o s λvs t q k n m=>{by rw[n.length];show jW (by assumption),λp i=>(h p vs _ q (k.trans (.hid m.seen i (.lst vs))) (k.h.free i) (m.seen.free i) Yo n)}
 .cases e⟩
theorem dI(l:b9 X (.builtin id) r)(q:cb X.K r g)(m:Gl X x)(n:X.mg x=none)(k:bootBuiltins x=some (.builtin id))(j:gG X (e::es) ga)(o:x≠"__name__":=by decide)(d:ba x:=by decide)(s:Zj X e es:=by rfl)(i:Zk X pos es:=by rfl):ZE X (.Call (.Name x p) (e::es) [] pos) (cC ga g):=⟨let j:=j.un;
 PE.imp (jF l m n k j o d s i) λ_ _ _ h=>oB q h⟩
theorem S_(l:b9 X (.builtin id) r)(q:fS X.K r gf)(m:Gl X x)(n:X.mg x=none)(k:bootBuiltins x=some (.builtin id))(j:gG X (e::es) ga)(o:x≠"__name__":=by decide)(d:ba x:=by decide)(s:Zj X e es:=by rfl)(i:Zk X pos es:=by rfl):ZF X (.Call (.Name x p) (e::es) [] pos) (cF ga gf):=⟨let j:=j.un;
 PE.imp (jF l m n k j o d s i) λ_ _ _ h=>Ll q h⟩
theorem lZ(l:b9 X (.type T) r)(q:cb X.K r g)(m:Gl X x)(n:X.mg x=none)(k:bootBuiltins x=some (.type T))(j:gG X (e::es) ga)(o:x≠"__name__":=by decide)(d:ba x:=by decide)(s:Zj X e es:=by rfl)(i:Zk X pos es:=by rfl):ZE X (.Call (.Name x p) (e::es) [] pos) (cC ga g):=⟨let j:=j.un;
 PE.imp (nW l m n k j o d s i) λ_ _ _ h=>oB q h⟩
theorem Ta(l:b9 X (.type T) r)(q:fS X.K r gf)(m:Gl X x)(n:X.mg x=none)(k:bootBuiltins x=some (.type T))(j:gG X (e::es) ga)(o:x≠"__name__":=by decide)(d:ba x:=by decide)(s:Zj X e es:=by rfl)(i:Zk X pos es:=by rfl):ZF X (.Call (.Name x p) (e::es) [] pos) (cF ga gf):=⟨let j:=j.un;
 PE.imp (nW l m n k j o d s i) λ_ _ _ h=>Ll q h⟩
def f7 :ZB X [] ao:={(Aw)}
def y0(l:ZS X st fs)(m:ZB X sts gs):ZB X (st::sts) (ag fs gs):=⟨let l:=l.un;let m:=m.un;PSs.imp (eO l m) λF r H n=>by
 let{b,c,i,j,G,e,s,h}:=n;let{o,k,e}:=qa e
 cases o with
 | nx a=>show{b,.nx a,i,j,G,k,s,λf q p g=>{(a),c,i,j,p,e,g,h}}
 | rt d=>cases e;show{b,.rt d,i,j,G,k,s,h}
 | bk a=>cases e;show{b,.bk a,i,j,G,k,s,h}
 | ct a=>cases e;show{b,.ct a,i,j,G,k,s,h}⟩
def dt(d:ZS X st fs):ZB X [st] fs:={let d:=d.un;tF d}
def uO(i:AE)(h:ZS X st fs):ZS X st (wF i fs):=⟨let h:=h.un;PS.imp h λF g H d=>by
 let{b,a,k,j,G,e,s,h}:=d;let{f,c}:=SR.frz i s
 show{frz i b,a,k,j,f,e,c,h}⟩
theorem cm(i:Nat)(j:X.N.Nodup)(d:ZE X e f)(k:X.N[i]?=some x:=by rfl)(m:dO X.env.scope x:=by trivial)(hs:swapsWith e (some (.Name x pos')) pos.line X.env=pure false:=by rfl)(l:Zm X x:=by trivial):ZS X (.Assign [.Name x pos'] e pos) (ax i f):={let d:=d.un;PS.imp (nJ j k m d hs l) λ_ _ _ h=>Ax h}
theorem pq(i:Nat)(j:X.N.Nodup)(d:ZF X e gl)(k:X.N[i]?=some x:=by rfl)(m:dO X.env.scope x:=by trivial)(hs:swapsWith e (some (.Name x pos')) pos.line X.env=pure false:=by rfl)(l:Zm X x:=by trivial):ZS X (.Assign [.Name x pos'] e pos) (aM i gl):={let d:=d.un;PS.imp (nJ j k m d hs l) λ_ _ _ h=>Ay h}
def eK(j:ZE X e f):ZS X (.Return (some e) pos) (ai f):=⟨let j:=j.un;PS.imp (yA j) λF c H i=>by
 let{b,a,q,u,G,e,s,h}:=i;let{d,l,rfl}:=qc e
 show tOf.at l s λv o k t n m=>h v o k m.gr n⟩
def f9{a b:List Stmt}(d:ZT X c fc)(i:ZB X a fs)(g:ZB X b gs):ZS X (.If c a b pos) (aH fc fs gs):=⟨let d:=d.un;let i:=i.un;let g:=g.un;PS.imp (lH d i g) λF r H j=>by
 let{p,f,l,n,G,e,s,h}:=j;let{k,q,e}:=qa e;show tTof.at q s λt o u m=>?_
 cases k with
 | true=>
   show{(p),f,l,n,o,e,m,h}
 | false=>
   show{(p),f,l,n,o,e,m,h}⟩
abbrev pv(X:Cx)(c:Pos)(l:AK):Prop:=((backTo c (starEach l X.env)).all (λx=>!x.1)&&(backToKw c (keywordEach [] X.env)).all (λx=>x.1.isSome)&&decide (l.length+([]:List Keyword).length+(if ([]:List Keyword).isEmpty then 0 else 1)<30))=true
theorem BY(i:Nat){o k j:Pos}(y:ZE X e f)(W:X.N[i]?=some x:=by rfl)(S:eN X.env.scope x:=by trivial)(Q:ba x:=by decide)(A:fN x:=by decide)(z:swapsWith (.Call (.Attribute (.Name x o) "append" k) [e] [] j) none pos.line X.env=pure false:=by rfl)(hs:Zl X e:=by rfl)(q:pv X j [e]:=by rfl)(n:(k.endLine==j.line)=true:=by rfl)(m:attributeBase (.Name x o) "append" X.env (eval (.Name x o) X.env)=eval (.Name x o) X.env:=by rfl):ZS X (.Expr (.Call (.Attribute (.Name x o) "append" k) [e] [] j) pos) (bP i f bb):=⟨let y:=y.un;
 PS.imp (iR (jI PySem.F.plainAttrs_list PySem.F.slot_list_append PySem.F.type_list_append tS (fC W S Q A) (cx y dC hs) m q n hs rfl) z) λF g H u=>by
  let{K,p,D,r,G,e,s,h}:=u;let{l,C,e}:=qa e;let{d,R,e}:=qa e;let{w,t,rfl}:=qc e;unfold bb at t
  split at t
  .rename_i U
   cases t;let{a,c,E,I,B,Y}:=Az s C;show{_,E,.inl {rfl,c,.of I},tOf.at R s λv Z O J M L=>{a,c,v,rfl,rfl,J.h _ _ I,?_,h g _ O (L.mut (t9 C) E ((B.mono J.g).append (.one M)))}};rw[B.length];show Qi U (jW (qv _))
  .cases t⟩
theorem dJ(C:ZE X l f):ZI X tg l (b1 f Yk):=⟨let C:=C.un;PI.imp (AI C) λK H R F=>by
 let{D,N,Q,S,G,e,s,h}:=F;let{c,M,O}:=cI e;show tOf.at M s λv B o z A E=>?_;let rfl+rfl+{w,rfl,rfl}:=g_ O
 .let{p,r,rfl,g,j}:=A
  show{p,r,rfl,.inr {.inl (.inl (E.seen _ _ g)),λu=>h _ B o z (oO (by rwa [<-j.length]) λi L J a b=>{λd n=>?_,λt=>{r,.inl (.inl (b _ _ (a _ _ g))),by rwa [j.length]}})}};let{x,k,m}:=j.get n;show{{r,x,.inl (.inl (b _ _ (a _ _ g))),k},λy I q=>{q.1,?_}};let:=q.2 r (.inl (.inl (b _ _ (a _ _ g))));rw[k]at this;cases this;show m.mono a
 .let{p,r,rfl,g,j}:=A
  show{p,r,rfl,.inl {.inl (dv E.seen g),λu=>h _ B o z (oO (by rwa [<-j.length]) λi L J a b=>{λd n=>?_,λt=>{r,.inl (dv b (dv a g)),by rwa [j.length]}})}};let{x,k,m}:=j.get n;show{{r,x,.inl (dv b (dv a g)),k},λy I q=>{q.1,?_}};let:=q.2 r (.inl (dv b (dv a g)));rw[k]at this;cases this;show m.mono a
 .let{p,rfl,g}:=A
  let j:RpL X.K o _ _:=.ints w;show{p,_,rfl,.inl {E.seen.seq g,λu=>h _ B o z (oO (by ext) λi L J a b=>{λd n=>?_,λt=>{_,b.seq (a.seq g),by ext}})}};let{x,k,m}:=j.get n;show{{_,x,b.seq (a.seq g),k},λy I q=>{q.1,?_}};let:=q.2 _ (b.seq (a.seq g));rw[k]at this;cases this
  show m.mono a⟩
theorem Tb(q:Gl X "range")(z:X.mg "range"=none)(i:ZA X [a] ga)(hs:Zl X a:=by rfl):ZI X tg (.Call (.Name "range" p) [a] [] pos) (cF ga ej):=⟨let i:=i.un;
 PI.imp (QZ q z i hs) λg H R d=>by
  let{b,c,F,E,G,e,s,h}:=d;let{l,t,y}:=qa e;show tAof.at t s λf k j o u C=>?_;let{n,rfl,A,B,rfl}:=R8 y;let{v,rfl,m}:=oN u;subst m;let:=h _ k j o (AO (jW (by unfold bZ;ext)))
  ext<;>ac_nf⟩
theorem dA(i:Nat)(m:X.N.Nodup)(l:X.N[i]?=some x:=by rfl)(n:dO X.env.scope x:=by trivial)(k:Zm X x:=by trivial):ZG X (.Name x pos) (aq i):=⟨
 PG.imp (yC m l n k) λv c H Q j=>by
  let{d,b,a,q,o,G,e,s,r,h}:=j;cases e
  show h _ (s.set_sh i r)⟩
theorem Tc(i j:Nat){x y:Str}{px B:Pos}{k:Nat}(E:X.calm=true)(q:X.N.Nodup)(I:X.N[i]?=some x:=by rfl)(C:X.N[j]?=some y:=by rfl)(z:dO X.env.scope x:=by trivial)(t:dO X.env.scope y:=by trivial)(A:Zm X x:=by trivial)(n:Zm X y:=by trivial):ZG X (.Tuple [.Name x px,.Name y B] k pos) (oR i j):=⟨
 PG.imp (yH (n:=2) E (Ki (yC q I z A) (Ki (yC q C t n) yF))) λv M H Q o=>by
  let{d,f,c,J,L,G,e,s,r,h}:=o
  match d,e,r with
  | .tup [a,b],e,r=>
    cases e;let{p,D,rfl,g,l}:=r;let{u,K,rfl,F,l}:=l;let{w,rfl,m}:=oN l
    show{p,[u,w],rfl,.inl (.inl (s.seen _ _ g)),rfl,u,[w],rfl,w,[],rfl,rfl,h _ ((s.set_sh i F).set_sh j m)}⟩
theorem L0(K:PassesOwn (mZ X.prog X.w) X.A X.env X.xe)(hc:X.calm=true)(O:ZI X tg iter gl)(R:ZG X tg gt)(w:ZB X C fs)(hs:∀x,foldedSetIterable iter X.env x=pure x:=by intro _;rfl):ZS X (.For tg iter C [] pos) (eu gl gt fs):=⟨let O:=O.un;let R:=R.un;let w:=w.un;
 PS.imp (yN K hc O R w hs) λF σ H Q=>by
  let{D,p,H0,G0,G,e,s,h}:=Q;let{c,N,h2}:=qa e;show{D,c,H0,G0,G,N,s,λJ H1 E g1 wk=>?_};let{M,Z,k}:=(s.grow g1).rebase;show{λi m b f=>m=c.length-i/\i<=c.length/\∃a g,SR X.K M E b f g a/\forM gt fs (c.drop i) a=some p,{_,rfl,Qh _,D,E,Z,h2},?_};rintro i m b f ⟨rfl,O,a,g,r,j⟩;let W:=wk.2 i f g r.gr.g r.seen;by_cases u:i<c.length
  .let{go,T}:=W.1 _ (qr u)
   rw[List.drop_eq_getElem_cons u]at j;let{L,e1,j}:=qa j;let{o,e2,j}:=qa j;show .inr {go,λb f=>i+1<=c.length/\∃a g,SR X.K M E b f g a/\forM gt fs _ a=some p,λY U q=>{c.length-(i+1),by symm,rfl,q.1,q.2},λx U y=>?_};let{S,g2,r2}:=T x U y;show{_,a,L,M,E,S,e1,r.grow g2,r2,λσ3 s3=>{L,o,M,E,S,e2,s3,?_}}
   cases o with
   | nx n=>show λA B z I=>{(u),n,z,I,j}
   | ct n=>show λA B z I=>{(u),n,z,I,j}
   | bk n=>
     cases j;show λA B z I=>h A B z (k _ _ _ _ I)
   | rt d=>
     cases j;show λv B z g4 V=>h v B z ?_ V;let:=(k [] B z [] (.mkSh g4 rfl (λi d e=>by simp at e) (λi l e=>by simp at e) (λi t ks vs e=>by simp at e))).gr;show this
  .let ei:i=c.length:=by ac_nf
   subst ei;rw[List.drop_length]at j;cases j
   show .inl {W.2 (qv _),h b f g (k _ _ _ _ r)}⟩
def eZ :fZ X X.K [] tY:={(AY)}
def l_(S:fD X.N X.env.scope N src scope)(o:X.calm=true)(l:ZI X tg iter gl)(m:∀h C i s H,ZG (bu X scope N h C i s H) tg gt)(q:∀h C i s H,fZ (bu X scope N h C i s H) X.K ifs fc)(n:∀h C i s H,ZE (bu X scope N h C i s H) elt fe)(k:∀ρ d j,gt d (aj src ρ)=some j->Le (aj src ρ) j)(hs:∀x,foldedSetIterable iter X.env x=pure x:=by intro _;rfl):ZF X (.ListComp elt [{tg,iter,ifs,0}] scope pos) (bo gl src gt fc fe):={AZ S o l.un (λh C i s H=>(m h C i s H).un) (λh C i s H=>(q h C i s H).un) (λh C i s H=>(n h C i s H).un) k hs}
theorem i4(i:Nat){q k:Pos}(F:X.N.Nodup)(S:fD X.N X.env.scope N src scope)(v:X.calm=true)(n:ZI X tg iter gl)(z:∀j C h s H,ZG (bu X scope N j C h s H) tg gt)(B:∀j C h s H,fZ (bu X scope N j C h s H) X.K ifs fc)(A:∀j C h s H,ZE (bu X scope N j C h s H) elt fe)(o:∀ρ d l,gt d (aj src ρ)=some l->Le (aj src ρ) l)(m:swapsWith (.ListComp elt [{tg,iter,ifs,0}] scope pos) (some (.Name y q)) k.line X.env=pure true:=by rfl)(u:X.N[i]?=some y:=by rfl)(t:dO X.env.scope y:=by trivial)(E:Zm X y:=by trivial)(hs:∀x,foldedSetIterable iter X.env x=pure x:=by intro _;rfl):ZS X (.Assign [.Name y q] (.ListComp elt [{tg,iter,ifs,0}] scope pos) k) (aM i (bo gl src gt fc fe)):={A0 i F S v n.un (λj C h s H=>(z j C h s H).un) (λj C h s H=>(B j C h s H).un) (λj C h s H=>(A j C h s H).un) o m u t E hs}
def BZ{f:Addr}{fd:FuncData}{fb:AR}(F:Fun K x i st f fd)(S:cG N ps (aBb st))(l:N.length=n)(o:ps.length=m)(b:∀(h:Value) (A:Around) (d:List Env) (s:Shared) (H:Hp) (E:XK),Room k (A.deeper (envOfC i (aBb st) (~~~s) f h))->ZB (ay bY P w K mg base N i (aBb st) f h A d s H E).nox (aDb st) fb):FnOk P w K mg base bY (k+1) f fd ps (bE K m (av m n fb)):=R_ F S l o (λh A d s H E j=>(b h A d s H E j).un)
theorem Ym(c:aU X.prog X.w X.K X.mg X.base j n x ps v)(s:Room k X.A)(q:Gl X x)(h:ZA X (e::es) ga)(u:∀ρ l,ga ρ=some l->l.length=n)(o:j<=k:=by first|show qv _|ac_nf)(d:ba x:=by decide)(m:Zj X e es:=by rfl)(i:Zk X pos es:=by rfl):ZE X (.Call (.Name x p) (e::es) [] pos) (cC ga v):=⟨let h:=h.un;by
 let{a,g,F,b,t,y}:=c
 show Au F (s.mono o) q y t b h d m i u⟩
def ma(d:ZC X a fa)(c:ZC X b fb):ZE X (.BinOp a .Add b pos) (b2 fa fb aX):={let d:=d.un;let c:=c.un;jS yT Lf d c}
def f_(j:ZC X a fa):ZE X (.UnaryOp .USub a pos) (b1 fa aV):=⟨let j:=j.un;PE.imp (yQ yY j) λc H Q i=>by
 let{b,d,u,y,G,e,s,h}:=i;let{x,o,k}:=cI e;show tCof.at o s λv n l q m t=>?_;cases x<;>simp[aV]at k;subst k
 show{_,m,h _ n l q (by rw[Rp])}⟩
def pz(n:ZC X a fa)(c:ZC X b fb):ZF X (.BinOp a .Add b pos) (b2 fa fb aC):=⟨let n:=n.un;let c:=c.un;PE.imp (jz A4 n c) λr H Q k=>by
 let{g,l,W,Z,G,e,s,h}:=k;let{R,S,L,J,d}:=t8 e;show tCof.at L s λv w Y z E A=>tCof.at J A λu U M j B y=>?_;unfold aC at d
 split at d
 .split at d
  .rename_i C
   cases d;let{p,f,rfl,F,t}:=E.grow j;let{q,O,rfl,I,o}:=B;show{p,q,f,O,rfl,rfl,F,I,by rw[t.length,o.length];show jW C,λm i=>h m _ _ M ((z.trans j).trans (.hid y.seen i _)) (z.h.free (j.h.free i)) (y.seen.free i) Yo (t.append o)}
  .cases d
 .cases d⟩
theorem uP(A:ZC X a fa)(J:Gl X "isinstance")(t:Gl X i)(b:X.mg "isinstance"=none)(u:X.mg i=none)(y:bootBuiltins i=some (.type T))(I:oV T)(S:bootBuiltins "isinstance"=some (.builtin "isinstance"):=by decide +kernel)(o:i≠"__name__":=by decide)(q:(i==("__debug__":Str))=false:=by decide)(hs:starEach [a,.Name i j] X.env=(false,eval a X.env)::starEach [.Name i j] X.env:=by rfl)(B:starEach [.Name i j] X.env=(false,eval (.Name i j) X.env)::starEach [] X.env:=by rfl)(z:(backTo pos (starEach [.Name i j] X.env)).any (·.1)=false:=by rfl):ZE X (.Call (.Name "isinstance" p) [a,.Name i j] [] pos) (mB (b1 fa (cL T))):=⟨let A:=A.un;
 PE.imp (jF (Sb I) J b S (cx A (cx (Ke t u y (v:=.ty T) rfl o q) dC B) hs) (by decide) (by decide) hs z) λc H Q n=>by
  let{f,d,U,Y,G,e,s,h}:=n;let{k,E,rfl}:=t_ e;let{x,O,m}:=cI E;unfold cL at m
  split at m
  .cases m
   show tCof.at O s λv F C R L W=>{v,x,C,rfl,by assumption,L,h _ F C R (by rw[Rp])}
  .cases m⟩
theorem Td(i:Nat){x:Str}{ie:Expr}{p2 p3:Pos}(hb:ZC X ie fb)(he:ZE X e f)(hN:X.N[i]?=some x:=by rfl)(hv:eN X.env.scope x:=by trivial)(hd:ba x:=by decide)(hcd:fN x:=by decide)(ha:∀v,assign (.Subscript (.Name x p2) ie p3) X.env v=(do
 let ov <-holding [v] (eval (.Name x p2) X.env)
 let iv <-holding [v,ov] (eval ie X.env)
 standAt p3
 holding [v,ov,iv] (setItem ov iv v)
 release [v,ov,iv] []):=by intro _;rfl)(hs:swapsWithSole [.Subscript (.Name x p2) ie p3] e pos.line X.env=pure false:=by rfl)(hw:swappedStores [.Subscript (.Name x p2) ie p3] e X.env=pure none:=by rfl)(h1:(assignEach [.Subscript (.Name x p2) ie p3] X.env).map (·.2)=[assign (.Subscript (.Name x p2) ie p3) X.env]:=by rfl):ZS X (.Assign [.Subscript (.Name x p2) ie p3] e pos) (uD i fb f hU):=⟨let hb:=hb.un;let he:=he.un;
 PS.imp (yK he (yJ (fC hN hv hd hcd) hb Rw ha) hs hw h1) λF σ H hx_=>by
  let{ρ,out,H0,G0,G,e,s,h}:=hx_;unfold uD at e;let{d,h1,e}:=qa e;let{l,h2,e}:=qa e;let{k,h3,e}:=qa e;let{l',h4,rfl}:=qc e;unfold hU at h4;let{n,h5,h4}:=qa h4;let{j,h6,rfl}:=qc h4;show tOf.at h1 s λv H1 G1 g1 r1 s1=>?_;let{a,xs,ha,hH,hr,hG}:=Az s1 h2;show{_,ha,tCof.at h3 s1 λu H2 G2 g2 r2 s2=>?_};cases k<;>simp[eU]at h5;subst h5;rw[Ct]at r2;subst r2;show{a,xs,_,j,rfl,rfl,g2.h _ _ hH,by rw[hr.length];show h6,?_}
  show h σ _ G2 (s2.mut (t9 h2) ha ((hr.mono g2.g).set j (r1.mono g2.g)))⟩
theorem Te(W:Gl X "enumerate")(D:X.mg "enumerate"=none)(L:ZE X l f)(hs:Zl X l:=by rfl):ZI X (.Tuple elts x1 pt) (.Call (.Name "enumerate" p) [l] [] pos) (b1 f jZ):=⟨let L:=L.un;
 PI.imp (Bd W D (Li L oA hs) hs) λσ H R F=>by
  let{V,ds,H0,G0,G,e,s,h}:=F;let{c,Y,K}:=cI e;let{l,N,rfl}:=qc K;show tAof.at (show Yb f _ V=some [c] by simp[Yb,ae,Y]) s λvs C B J Z I=>?_;let{v,rfl,E}:=oN Z;let rfl+rfl+{T,rfl,rfl}:=g_ N
  .let{p,r,rfl,g,j}:=E
   show{p,r,rfl,.inr {.inl (.inl (I.seen _ _ g)),λo=>h _ C B J {by rw[lS,<-j.length];show o,λi U O b a=>{λd A=>?_,λt=>{r,.inl (.inl (a _ _ (b _ _ g))),by rw[j.length,<-lS l];show t}}}}};let{w,k,rfl}:=Be A;let{x,m,u}:=j.get k;show{{r,x,.inl (.inl (a _ _ (b _ _ g))),m},λy Q q=>?_};let{M,S,z,n,rfl,rfl}:=q;let:=z r (.inl (.inl (a _ _ (b _ _ g))));rw[m]at this;cases this;show Gr.newTup a n i (u.mono b)
  .let{p,r,rfl,g,j}:=E
   show{p,r,rfl,.inl {.inl (dv I.seen g),λo=>h _ C B J {by rw[lS,<-j.length];show o,λi U O b a=>{λd A=>?_,λt=>{r,.inl (dv a (dv b g)),by rw[j.length,<-lS l];show t}}}}};let{w,k,rfl}:=Be A;let{x,m,u}:=j.get k;show{{r,x,.inl (dv a (dv b g)),m},λy Q q=>?_};let{M,S,z,n,rfl,rfl}:=q;let:=z r (.inl (dv a (dv b g)));rw[m]at this;cases this;show Gr.newTup a n i (u.mono b)
  .let{p,rfl,g}:=E
   let j:RpL X.K B _ _:=.ints T;show{p,_,rfl,.inl {I.seen.seq g,λo=>h _ C B J {by rw[lS,<-j.length];show o,λi U O b a=>{λd A=>?_,λt=>{_,a.seq (b.seq g),by rw[j.length,<-lS];show t}}}}};let{w,k,rfl}:=Be A;let{x,m,u}:=j.get k;show{{_,x,a.seq (b.seq g),m},λy Q q=>?_};let{M,S,z,n,rfl,rfl}:=q;let:=z _ (a.seq (b.seq g));rw[m]at this;cases this
   show Gr.newTup a n i (u.mono b)⟩
theorem Tf(i:Nat){t k j:Pos}(z:ZE X e f)(r:X.N[i]?=some x:=by rfl)(U:eN X.env.scope x:=by trivial)(W:ba x:=by decide)(A:fN x:=by decide)(u:swapsWith (.Call (.Attribute (.Name x t) "extend" k) [e] [] j) none pos.line X.env=pure false:=by rfl)(hs:Zl X e:=by rfl)(q:pv X j [e]:=by rfl)(n:(k.endLine==j.line)=true:=by rfl)(m:attributeBase (.Name x t) "extend" X.env (eval (.Name x t) X.env)=eval (.Name x t) X.env:=by rfl):ZS X (.Expr (.Call (.Attribute (.Name x t) "extend" k) [e] [] j) pos) (bP i f eX):=⟨let z:=z.un;
 PS.imp (iR (jI PySem.F.plainAttrs_list PySem.F.slot_list_extend PySem.F.type_list_extend Bh (fC r U W A) (cx z dC hs) m q n hs rfl) u) λF p H y=>by
  let{V,w,T,D,G,e,s,h}:=y;let{l,C,e}:=qa e;let{d,Q,e}:=qa e;let{N,o,rfl}:=qc e;unfold eX at o
  split at o
  .split at o
   .rename_i Y
    cases o;let{a,g,L,B,I,K}:=Az s C;show{_,L,.inl {rfl,g,.of B},tOf.at Q s λv H1 S M R J=>?_};let{b,Z,rfl,O,E}:=R;show{a,b,g,Z,rfl,rfl,M.h _ _ B,dv J.seen O,?_,h p _ S (J.mut (t9 C) L ((I.mono M.g).append E))};rw[I.length,E.length];show jW Y
   .cases o
  .cases o⟩
theorem Tg(g:GD X.K X.w X.mg x j)(J:Gl X x)(z:ZC X ke fk)(hs:jG ke:=by intro _ _;rfl)(Y:ba x:=by decide):ZE X (.Subscript (.Name x px) ke pos) (b1 fk (uE j)):=⟨let z:=z.un;by
 let{p,o,c,M,K,L,A,n,i}:=g;intro b s T H Q I ⟨ρ,d,H0,V,G,e,D,h⟩;let{dk,W,l}:=cI e;show KA PySem.F.slot_dict_getitem.lookup hs (d7 I J K (aD (z _ s T H (λR f=>∃k r,R=.str k/\j.lookup k=some r/\Q (.str r) f) I (tCof.at W D λv U O N F s1=>?_)) λiv s2 S=>?_) Y)
 .unfold uE at l
  split at l
  .rename_i k
   let{r,m,rfl}:=qc l;show{k,r,F.1,m,h _ U O N ({rfl,o6 i m})}
  .cases l
 .let{y,Z,C,E,k,r,rfl,m,q}:=S
  let{t,rfl}:=E;let B:=C.kIn p o L;let{e',w,f1,f2}:=Bi (P:=X.prog) i m;show{{(o),B,A.1},wpAny_getItem_of (knd:=PySem.strKind _ X.w) (k:=k) (by simp[PySem.strKind,Value.isStrOf]) {o,c,M,B,A,n,?_,λ_=>rfl} ?_ {.str r,Z,C.tok _,{(w),rfl},q}}
  .intro u he
   show LI i u ⋯
  .change(c.find? _).map _=_
   ext⟩
def mf{i:Int}(g:GI X.mg x i)(j:Gl X x)(h:ba x:=by decide):ZE X (.Name x px) (Zi i):=⟨by
 let{t,d}:=g
 show lM (gW (v:=.int i) j d {(t),rfl} h) (λ_ _ _ q=>q) λ_=>by rw[Rp]⟩
end
section
variable {a b c e:Expr}{fb fc f:AU}{x:Str}{ks:AJ}
theorem Th(N:bh X (compareOp E) r)(J:ef X.K r g)(A:bh X (compareOp i) T)(p:ef X.K T g')(t:ZC X a fa)(l:ZC X b fb)(q:ZC X c fc)(R:lastMarks [E,i] [b,c]=false:=by with_unfolding_all rfl):ZE X (.Compare a [E,i] [b,c] pos) (mB (hZ fa fb fc g g')):=⟨let t:=t.un;let l:=l.un;let q:=q.un;
 PE.imp (Q6 N A t l q R) λσ H Q h=>by
  let{ρ,d,H0,G0,G,e,s,h}:=h;let{k,U,rfl}:=t_ e;let{x,y,M,Z,f}:=LJ U;show tCof.at M s λv H1 G1 K F L=>tCof.at Z L λu B m j n o=>?_;let{f,rfl}+{f,z,S,O}:=f
  .show J v u x y _ B m _ f o.seen (F.grow j) n {false,rfl,h _ B m (K.trans j) (by rw[Rp])}
  .show J v u x y _ B m _ f o.seen (F.grow j) n {true,rfl,tCof.at S o λw D I C r3 Y=>p u w y z k D I _ O Y.seen (n.grow C) r3 (h _ D I ((K.trans j).trans C) (by rw[Rp]))}⟩
theorem Ti{op op':CmpOp}{r r':R2}{g g':D->D->Option Bool}(ho:bh X (compareOp op) r)(hr:ef X.K r g)(ho':bh X (compareOp op') r')(hr':ef X.K r' g')(ha:ZC X a fa)(hb:ZC X b fb)(hc:ZC X c fc)(hm:lastMarks [op,op'] [b,c]=false:=by with_unfolding_all rfl):ZT X (.Compare a [op,op'] [b,c] pos) (hZ fa fb fc g g'):=⟨let ha:=ha.un;let hb:=hb.un;let hc:=hc.un;
 PT.imp (Q7 ho ho' ha hb hc hm) λσ H Q h=>by
  let{ρ,k,H0,G0,G,ek,s,h}:=h;let{x,y,h1,h2,h3}:=LJ ek;show tCof.at h1 s λv H1 G1 g1 r1 s1=>tCof.at h2 s1 λu H2 G2 g2 r2 s2=>?_;let{h3,rfl}+{h3,z,h4,h5}:=h3
  .show hr v u x y false H2 G2 _ h3 s2.seen (r1.grow g2) r2 {false,rfl,by rw[if_neg nofun];show{false,rfl,h H2 G2 (g1.trans g2)}}
  .show hr v u x y true H2 G2 _ h3 s2.seen (r1.grow g2) r2 {true,rfl,?_}
   rw[if_pos rfl]
   show tCof.at h4 s2 λw H3 G3 g3 r3 s3=>hr' u w y z k H3 G3 _ h5 s3.seen (r2.grow g3) r3 {k,rfl,h H3 G3 ((g1.trans g2).trans g3)}⟩
def L1 :ZS X st nS:={(Sw)}
def B0(d:ZC X a fa)(hb:ZC X b fb):ZT X (.Compare a [.Is] [b] pos) (b2 fa fb (fW false)):={let d:=d.un;let hb:=hb.un;gD Bj LM d hb (eP _)}
def Tj(d:ZC X a fa)(c:ZC X b fb):ZT X (.Compare a [.IsNot] [b] pos) (b2 fa fb (fW true)):={let d:=d.un;let c:=c.un;gD Bm LM d c (eP _)}
def L3(hu:X.A.units+64<cLine)(g:GT X.K X.mg x ks)(hg:Gl X x)(ha:ZC X a fa)(hm:behindInMarks .NotIn (.Name x px)=false:=by with_unfolding_all rfl)(hd:ba x:=by decide):ZT X (.Compare a [.NotIn] [.Name x px] pos) (b1 fa (cy true ks)):=⟨let ha:=ha.un;by
 let{p,o,its,n,hmg,hl,hc,hdt,hs}:=g;show PT.imp (zd (Br hu hl hc hdt hs) ha (gW (v:=.ref p) hg hmg rfl hd) hm) λσ H Q hx_=>?_;let{ρ,b,H0,G0,G,e,s,h}:=hx_;let{d,h1,h2}:=cI e;show tCof.at h1 s λv H1 G1 g1 r1 s1=>?_;unfold cy at h2
 split at h2
 .rename_i k
  cases h2;rw[Ct]at r1;show{k,r1.1,r1.2,rfl,_,rfl,h H1 G1 g1}
 .cases h2⟩
end
def Tn(h:ZT X c f):fZ X X.K [c] f:={let h:=h.un;λb s d H Q I a=>wpAny_tests_one (h _ s d H Q I a)}
def j5(h:ZW X e f):ZT X e f:={PW.pt h.un}
section
variable {e:Expr}{f:AU}{p p2:Pos}{ga:AV}
theorem To(A:X.calm=true)(V:Gl X "sorted")(E:X.mg "sorted"=none)(k:Gl X "set")(i:X.mg "set"=none)(t:ZC X e f)(hs:Zl X e:=by rfl)(y:starEach [.Call (.Name "set" p2) [e] [] pos2] X.env=[(false,eval (.Call (.Name "set" p2) [e] [] pos2) X.env)]:=by rfl)(g:(backTo pos2 (starEach [] X.env)).any (·.1)=false:=by rfl)(a:(backTo pos (starEach [] X.env)).any (·.1)=false:=by rfl):ZF X (.Call (.Name "sorted" p) [.Call (.Name "set" p2) [e] [] pos2] [] pos) (Bw f):=⟨let t:=t.un;
 PE.imp (jF (SI A) V E boot_sorted (cx (nW (SH A) k i boot_set (Lk t Lj hs) (by decide) (by decide) hs g) dC y) (by decide) (by decide) y a) λZ H Q b=>by
  let{D,l,S,T,G,e,s,h}:=b;let{R,I,e}:=qa e;let{d,N,P}:=cI I;show tCAof.at (show Yb f _ D=some [d] by simp[Yb,ae,N]) s λY U O B L u=>?_;let{v,rfl,J}:=eV L;let{q,xs,rfl,F,K}:=Av P J;unfold o9 at e
  split at e
  .rename_i M n
   split at e
   .rename_i z
    cases e;cases uz n;cases uA K;show{q,M,rfl,F,z.1,λm w j C=>?_};let c:=Gr.hid u.seen j (ia X.prog X.w m w);let x:=u.grow c;show{m,w,rfl,Yo,by rw[C.length_eq];show z.2,λr o=>?_};rw[SJ C];show h r _ _ O ((B.trans c).trans (.hid x.seen o _)) ((B.trans c).h.free o) (x.seen.free o) Yo (.ints _)
   .cases e
  .cases e⟩
theorem B4(hc:X.calm=true)(hu:X.A.units+64<cLine)(hm:X.mg "len"=none)(hm2:X.mg "set"=none)(hg:Gl X "len")(hg2:Gl X "set")(ha:gG X [e] ga)(hs:Zl X e:=by rfl)(he:starEach [.Call (.Name "set" p2) [e] [] pos2] X.env=[(false,eval (.Call (.Name "set" p2) [e] [] pos2) X.env)]:=by rfl)(hpl:(backTo pos2 (starEach [] X.env)).any (·.1)=false:=by rfl)(hpl2:(backTo pos (starEach [] X.env)).any (·.1)=false:=by rfl):ZE X (.Call (.Name "len" p) [.Call (.Name "set" p2) [e] [] pos2] [] pos) (cC ga j2):=⟨let ha:=ha.un;
 PE.imp (jF S2 hg hm (by decide +kernel) (cx (nW (S1 hc hu) hg2 hm2 boot_set ha (by decide) (by decide) hs hpl) dC he) (by decide) (by decide) he hpl2) λσ H Q hx_=>by
  let{ρ,d,H0,G0,G,e,s,h}:=hx_;unfold cC at e;let{ds,h1,e}:=qa e;show tCAof.at h1 s λvs H1 G1 g1 r1 s1=>?_;unfold j2 at e
  split at e
  case h_2=>cases e
  rename_i l;let{v,rfl,rv}:=eV r1;rw[Ct]at rv;let{a,xs,rfl,hq,rl}:=rv;unfold ij at e
  split at e
  .rename_i ns hns
   split at e
   case isFalse=>cases e
   rename_i hl;cases e;cases uz hns;cases uA rl;show{a,_,(aT [] ns).length,rfl,.inl hq,.inl {(ns),rfl,hl,rfl},λm hm'=>?_};let g2:=Gr.hid s1.seen hm' (eY X.w m (aT [] ns).length);show{m,_,rfl,Yo,by let:=LW ns [];simp at this;ac_nf,?_};show h _ _ G1 (g1.trans g2) (by rw[Rp])
  .let{ps,h2,e}:=qa e
   let hv:=LV s1.seen h2 rl
   obtain⟨n,hn,hc,rfl⟩:∃n:Nat,n<4000/\((ig ps=true/\n=ps.length)\/(uJ ps=true/\n=1))/\d=.int n:=by
    split at e
    .rename_i hd
     show{_,?_,.inl {(hd),rfl},by cases e;rfl};let _+{p1,_+{p2,_+{p3,r}}}:=ps
     .simp
     .simp
     .simp
     .simp[ig]at hd
    .split at e
     .rename_i hd
      show{1,by decide,.inr {(hd),rfl},by cases e;rfl}
     .cases e
   show{a,xs,n,rfl,.inl hq,.inr {(ps),hv,hc},λm hm'=>?_};let g2:=Gr.hid s1.seen hm' (eY X.w m n)
   show{m,_,rfl,Yo,hn,h _ _ G1 (g1.trans g2) (by rw[Rp])}⟩
def Tp(a:ZE X e f)(b:swapsWith e none pos.line X.env=pure false:=by rfl):ZS X (.Expr e pos) (j3 f):=⟨let a:=a.un;PS.imp (iR a b) λF p H c=>by
 let{r,q,m,o,G,e,s,h}:=c;let{d,i,rfl}:=qc e
 show tOf.at i s λv k g n l j=>h p k g j⟩
end
def B5(K:W7)(j:Nat)(x:Option (Option V))(b a:Hp)(F:cX):Out->Prop
 | .nx d=>∀c e f,SR K b a c e f d->c[j]?=x->F.nx c e
 | .rt _=>False
 | .bk d=>∀c e f,SR K b a c e f d->c[j]?=x->F.bk c e
 | .ct d=>∀c e f,SR K b a c e f d->c[j]?=x->F.ct c e
def pA(K:W7)(j:Nat)(f:AR):TS:=λF d H=>∃e c b a G,f e=some c/\SR K b a d H G e/\B5 K j d[j]? b a F c
structure KS(j:Nat)(X:Cx)(st:Stmt)(f:AR):Prop where
 un:PS X st (pA X.K j f)
structure KB(j:Nat)(X:Cx)(sts:List Stmt)(f:AR):Prop where
 un:PSs X sts (pA X.K j f)
def B6(K:W7)(j r:Nat)(fb:AR):TS:=λF h H=>∃f c l d b a G,fb f=some (.nx c)/\cJ j c=some l/\af r (frz [r] c)=some d/\SR K b a h H G f/\
 ∀v e g i,SR K b a e g i (frz [r] c)->e[j]?=h[j]?->Rp K i d v->F.rt v g
structure KR(j r:Nat)(X:Cx)(sts:List Stmt)(f:AR):Prop where
 un:PSs X sts (B6 X.K j r f)
def B7(K:W7)(c:AV)(fb:AR):TS:=λF i H=>∃g d l a b G,fb g=some (.nx d)/\c d=some l/\SR K a b i H G g/\
 ∀p h e f,Gr a b e f->a p=none->f p=none->e p=some (.lst h)->RpL K f l h->F.rt (.ref p) e
structure KL(gl:AV)(X:Cx)(sts:List Stmt)(f:AR):Prop where
 un:PSs X sts (B7 X.K gl f)
def dY{us:AC}(h:us.length=1):∃a,us=[a]:=List.length_eq_one_iff.mp h
theorem c7{us:AC}(h:us.length=2):∃c b,us=[c,b]:=by
 cases us with
 | nil=>cases h
 | cons a us=>
   let{d,rfl}:=dY (Nat.succ.inj h);grind
theorem dB{us:AC}(h:us.length=3):∃c b d,us=[c,b,d]:=by
 cases us with
 | nil=>cases h
 | cons a us=>
   let{e,b1,rfl}:=c7 (Nat.succ.inj h);grind
theorem gc{us:AC}(h:us.length=4):∃c b e d,us=[c,b,e,d]:=by
 cases us with
 | nil=>cases h
 | cons a us=>
   let{f,b1,b2,rfl}:=dB (Nat.succ.inj h);grind
def il{us:AC}(h:us.length=5):∃a0 a1 a2 a3 a4,us=[a0,a1,a2,a3,a4]:=by
 cases us with
 | nil=>cases h
 | cons a us=>
   let{b0,b1,b2,b3,rfl}:=gc (Nat.succ.inj h);show{(a),b0,b1,b2,b3,rfl}
theorem ip{us:AC}(h:us.length=6):∃e d g f b c,us=[e,d,g,f,b,c]:=by
 cases us with
 | nil=>cases h
 | cons a us=>
   let{j,b1,b2,b3,i,rfl}:=il (Nat.succ.inj h);grind
theorem pB{us:AC}(h:us.length=7):∃c g i f b e d,us=[c,g,i,f,b,e,d]:=by
 cases us with
 | nil=>cases h
 | cons a us=>
   let{l,b1,b2,b3,k,j,rfl}:=ip (Nat.succ.inj h);grind
end M
namespace M
variable {prog:P7}{s:Shared}{K:W7}{X:Cx}{es ifs elts:AK}{fa fk fo:AU}{pos pos' px pos2 apos np hpos cpos pos1 p1 q1 q2 q3 cp:Pos}{pins qs:AB}{gl:AV}{st b₀:Stmt}{sts suite:List Stmt}{tg elt iter ie ke:Expr}{scope:Scope}{mg:AD}{base:Heap}{env:Env}{outer:List Env}{L ea:Addr}{qual xn:Str}{cd:Value}{sp:Sp}{os:OsState}
open PySem L2
def nr{c:Sort _}{a b:c}(h:a=b):a=b:=h
section
variable {ρ:Ro}
@[simp] def L4(a fb:AU)(g:D->D->Option b):b2 a fb g ρ=(a ρ).bind λx=>(fb ρ).bind λy=>g x y:=nr rfl
@[simp] def L5(a:AU)(g:D->Option b):b1 a g ρ=(a ρ).bind g:=nr rfl
@[simp] def L6(d:D):kD d ρ=some d:=nr rfl
@[simp] def L7(f:AT):mB f ρ=(f ρ).map D.bl:=nr rfl
@[simp] def uQ(f g:AT):cZ f g ρ=(f ρ).bind λk=>if k=true then g ρ else some false:=nr rfl
@[simp] def B8(f g:AT):cT f g ρ=(f ρ).bind λk=>if k=true then some true else g ρ:=nr rfl
@[simp] def uR(f:AT):cg f ρ=(f ρ).map (!·):=nr rfl
@[simp] def uS(f g:AU):eT f g ρ=((f ρ).bind hF).bind λk=>if k=true then g ρ else some (.bl false):=nr rfl
@[simp] def B9(f g:AU):Ao f g ρ=((f ρ).bind hF).bind λk=>if k=true then some (.bl true)else g ρ:=nr rfl
@[simp] def uT(f:AU):hJ f ρ=((f ρ).bind hF).map λk=>.bl (!k):=nr rfl
@[simp] def B_(c:AT)(f g:AU):d8 c f g ρ=(c ρ).bind λk=>if k=true then f ρ else g ρ:=nr rfl
@[simp] def L8(f:AV):lF f ρ=(f ρ).map D.lst:=nr rfl
@[simp] def uU:ae ρ=some []:=nr rfl
@[simp] def pC(f:AU)(g:AV):Yb f g ρ=(f ρ).bind λd=>(g ρ).map (d::·):=nr rfl
@[simp] def uV(f:AV):bf f ρ=(f ρ).bind λl=>if l.length<=bZ then some (.tup l)else none:=nr rfl
@[simp] def uW(f:AV):ah f ρ=(f ρ).bind λl=>if l.length<=bZ then some l else none:=nr rfl
@[simp] def L9(f:AV)(g:AN->Option D):cC f g ρ=(f ρ).bind g:=nr rfl
@[simp] def L_(f:AV)(g:AN->Option AN):cF f g ρ=(f ρ).bind g:=nr rfl
@[simp] def Ca(f:AU)(a b:Option AU):aO f a b ρ=((f ρ).bind fU).bind λl=>(c4 a ρ).bind λi=>(c4 b ρ).bind λj=>some (aB l i j):=nr rfl
@[simp] def uX:c4 none ρ=some none:=nr rfl
@[simp] def uY(f:AU):c4 (some f) ρ=((f ρ).bind eU).map some:=nr rfl
@[simp] def uZ:ao ρ=some (.nx ρ):=nr rfl
@[simp] def u0(i:Nat)(f:AU):ax i f ρ=(f ρ).map λd=>.nx (ρ.set i (↑d)):=nr rfl
@[simp] def u4(i:Nat)(f:AV):aM i f ρ=(f ρ).map λl=>.nx (ρ.set i (some (.ow l))):=nr rfl
@[simp] def u5(f:AU):ai f ρ=(f ρ).map .rt:=nr rfl
@[simp] def Cb(c:AT)(f g:AR):aH c f g ρ=(c ρ).bind λk=>if k=true then f ρ else g ρ:=nr rfl
@[simp] def u6(i:Nat)(f:AU)(g:AN->D->Option AN):bP i f g ρ=(cJ i ρ).bind λl=>(f ρ).bind λd=>(g l d).map λa=>.nx (ρ.set i (some (.ow a))):=nr rfl
@[simp] def u7(a:AV)(gt:AS)(fb:AR):eu a gt fb ρ=(a ρ).bind λb=>forM gt fb b ρ:=nr rfl
@[simp] def pD(a:AV)(b:List AL)(gt:AS)(fc:AT)(fe:AU):bo a b gt fc fe ρ=(a ρ).bind λc=>dU gt fc fe (aj b ρ) c:=nr rfl
@[simp] def Ma(a:AE)(f:AR):wF a f ρ=f (frz a ρ):=nr rfl
@[simp] def Mb:tY ρ=some true:=nr rfl
@[simp] def u9(i:Nat)(d:D):aq i d ρ=some (ρ.set i (↑d)):=nr rfl
noncomputable def j6(g:AR):Out->Option Out
 | .nx a=>g a
 | o=>some o
@[simp] def pE(g:AR)(ρ':Ro):j6 g (.nx ρ')=g ρ':=nr rfl
@[simp] def pF(g:AR)(d:D):j6 g (.rt d)=some (.rt d):=nr rfl
@[simp] def j7(f g:AR):ag f g ρ=(f ρ).bind (j6 g):=nr rfl
noncomputable def aZ:Out->Option D
 | .rt d=>some d
 | .nx _=>some .non
 | _=>none
@[simp] def u_(d:D):aZ (.rt d)=some d:=nr rfl
@[simp] def va(ρ:Ro):aZ (.nx ρ)=some .non:=nr rfl
def Yu(h:a.length=k):av k n fb a=(fb (Ye n a)).bind aZ:=by
 unfold av;rw[if_pos h];rfl
@[simp] def Cc(b fb fc:AU)(g a:D->D->Option Bool):hZ b fb fc g a ρ=(b ρ).bind λx=>(fb ρ).bind λy=>(g x y).bind λk=>if k=true then (fc ρ).bind λz=>a y z else some false:=nr rfl
end
@[simp] def pG(i j:Int):aX (.int i) (.int j)=some (.int (i+j)):=nr rfl
@[simp] def pI(i j:Int):eS (.int i) (.int j)=some (.int (i-j)):=nr rfl
def Tq(h:-(2^64)<i/\i<2^64):fT (.int i) (.int j)=some (.int (i*j)):=by
 simp only[fT,i2];rw[if_pos];simp only[Bool.or_eq_true,Qe,wj];show .inl h
@[simp] theorem Tr(h:0<j)(a:j<1073741824):bJ (.int i) (.int j)=some (.int (i/j)):=by
 simp only[bJ,i2];rw[if_pos];simp [wj];show{(h),a}
@[simp] theorem Mc(h:0<j):aE (.int i) (.int j)=some (.int (i%j)):=by
 simp only[aE,i2];rw[if_pos];simp [wj];show h
@[simp] def vb(i j:Int):fF (.int i) (.int j)=some (decide (i<j)):=nr rfl
@[simp] def vc(i j:Int):uu (.int i) (.int j)=some (decide (i<=j)):=nr rfl
@[simp] def vd(i j:Int):dE (.int i) (.int j)=some (decide (j<i)):=nr rfl
@[simp] def ve(i j:Int):uv (.int i) (.int j)=some (decide (j<=i)):=nr rfl
@[simp] def Cd(b:Bool):hF (.bl b)=some b:=nr rfl
@[simp] def vf(b:Bool):aI (.bl b)=some b:=nr rfl
@[simp] def pJ(l:AN):aI (.lst l)=some (!l.isEmpty):=nr rfl
@[simp] def pK(l:AN):aI (.tup l)=some (!l.isEmpty):=nr rfl
@[simp] def i5(l:AN):Yk (.tup l)=some l:=nr rfl
@[simp] def i6(l:AN):Yk (.lst l)=some l:=nr rfl
@[simp] def i7(ns:AF):Yk (.scr ns)=some (ns.map D.int):=nr rfl
@[simp] def pL(c:D):aF [c]=(Yk c).map λl=>.int l.length:=nr rfl
@[simp] def pM(c:D):cj [c]=(Yk c).map D.tup:=nr rfl
@[simp] def mh(c:D):ux [c]=Yk c:=nr rfl
@[simp] def pN(i:Int):eh [.int i]=some (.int i):=nr rfl
@[simp] def vg(b:Bool):eh [.bl b]=some (.int (if b then 1 else 0)):=nr rfl
@[simp] def vh(c:D)(i:Int):aw c (.int i)=(Yk c).bind λl=>aN l i:=nr rfl
@[simp] def pO(l:AN):fU (.lst l)=some l:=nr rfl
@[simp] def pP(ns:AF):fU (.scr ns)=some (ns.map D.int):=nr rfl
@[simp] def pQ(i:Int):eU (.int i)=some i:=nr rfl
@[simp] def pR(i:Int):aV (.int i)=some (.int (-i)):=nr rfl
@[simp] theorem Ce(i j:Int):cH (.int i) (.int j)=(i==j):=by simp[cH,aK,PyData.eqv]
@[simp] theorem Cg(i j:Bool):cH (.bl i) (.bl j)=(i==j):=by simp[cH,aK,PyData.eqv]
@[simp] theorem Ci(i j:Str):cH (.str i) (.str j)=(i==j):=by simp[cH,aK,PyData.eqv]
@[simp] theorem vi(l m:AN):cH (.lst l) (.lst m)=lJ l m:=by simp[cH,lJ,aK,PyData.eqv]
@[simp] theorem vj:lJ [] []=true:=by simp[lJ,di,PyData.eqvAll]
@[simp] theorem Cj(b:D)(m:AN):lJ (b::m) []=false:=by simp[lJ,di,PyData.eqvAll]
@[simp] theorem vk(i:Int):aL (.int i)=0:=by simp[aL]
@[simp] theorem Ck(i:Bool):aL (.bl i)=0:=by simp[aL]
@[simp] theorem vm(i:Str):aL (.str i)=0:=by simp[aL]
@[simp] theorem vn(l:AN):aL (.tup l)=aY l+1:=by simp[aL]
@[simp] theorem pS:aY []=0:=by simp[aY]
@[simp] theorem mi(d:D)(l:AN):aY (d::l)=max (aL d) (aY l):=by simp[aY]
theorem vo(h:aL d<=60)(b:aL e<=60):aA a d e=some (if a then !cH d e else cH d e):=by
 unfold aA;grind
theorem vp(b:Yk c=some l)(h:aL d<=60)(e:aY l<=60):dq a d c=some (if a then !dj d l else dj d l):=by
 unfold dq
 ext
@[simp] def mj(gt:AS)(fc:AT)(fe:AU)(ρ:Ro):dU gt fc fe ρ []=some []:=nr rfl
theorem vq{d:Type}(enc:d->D)(p:d->Bool)(f:d->D):∀(l:List d),(∀a∈l,∃c,gt (enc a) ρ=some c/\fc c=some (p a)/\(p a=true->fe c=some (f a)))->
 dU gt fc fe ρ (l.map enc)=some ((l.filter p).map f)
 | [],_=>rfl
 | a::l,h=>by
   let{c,e,i,g}:=h a qh;let j:=vq enc p f l λb k=>h b (qg _ k);rw[Qd,dU];grind
@[simp] theorem Md(a:b)(l:List b):aN (a::l) 0=some a:=by
 let:=tR (xs:=a::l) (j:=0) rfl;simpa using this
@[simp] theorem Cm(a b:c)(l:List c):aN (a::b::l) 1=some b:=by
 let:=tR (xs:=a::b::l) (j:=1) rfl;simpa using this
def pT{j:Nat}(a:i=(j:Int))(h:l[j]?=some v):aN l i=some v:=by
 subst a;show tR h
theorem pU{g:Type}(enc:g->D)(I:List g->Ro->Prop):∀(l c:List g) (ρ:Ro),I c ρ->
 (∀q a r ρ,c++l=q++a::r->I q ρ->∃f d,gt (enc a) ρ=some f/\fb f=some (.nx d)/\I (q++[a]) d)->∃ρ',M.forM gt fb (l.map enc) ρ=some (.nx ρ')/\I (c++l) ρ'
 | [],c,ρ,n,_=>{ρ,rfl,by ext}
 | a::l,c,ρ,n,m=>by
   let{f,d,o,p,j}:=m c a l ρ rfl n;let{ρ',h,k}:=pU enc I l _ d j λq b r ρ e i=>m q b r ρ (by ext) i;show{ρ',?_,by ext}
   rwa [Qd,M.forM,o,qd,p]
def Me(a n:Int):dS a n=(List.range (n-a).toNat).map λi=>D.int (a+(i:Nat)):=rfl
theorem Mf(h:-1000000<=n)(b:n<=1000000):ej [.int n]=some (dS 0 n):=by
 let a:bZ=1000000:=by decide
 simp only[ej];rw[if_pos];simp only[Qe]
 ext
theorem Co(h0:0<=i)(h:i<(l.length:Int)):∃v,v∈l/\aN l i=some v:=by
 let a:i.toNat<l.length:=by ext
 show{l[i.toNat],List.getElem_mem a,pT (by ext<;>lia) (qr a)}
def Cp{i:Nat}(h:i<l.length):aN l (i:Int)=some l[i]:=tR (qr h)
theorem vr(f:a->b)(l:List a)(i:Int):aN (l.map f) i=(aN l i).map f:=by
 unfold aN;rw[qf]
 cases eR _ i with
 | none=>rfl
 | some j=>
   ext
@[simp] theorem j8(x b:Nat):((x:Int)=(b:Int))↔x=b:=by ac_nf
@[simp] theorem vt(a:Bool)(i j:Int):aA a (.int i) (.int j)=some (if a then !decide (i=j)else decide (i=j)):=by
 rfl
@[simp] theorem Cr(a:Bool)(i j:Bool):aA a (.bl i) (.bl j)=some (if a then !(i==j)else i==j):=by
 rw[vo nofun nofun,Cg]
@[simp] theorem vv(a:Bool):cK a .non .non=some (if a then false else true):=by cases a<;>rfl
@[simp] theorem vw(a:Bool)(i:Int):cK a (.int i) .non=some (if a then true else false):=by cases a<;>rfl
@[simp] theorem Cu(a:Bool)(l:Bool):cK a (.bl l) .non=some (if a then true else false):=by cases a<;>rfl
@[simp] theorem Cw{b:Type}(f:b->Bool):∀l:List b,bF (l.map λa=>.bl (f a))=some (l.map f)
 | []=>rfl
 | a::l=>by rw[Qd,bF,Cw f l];rfl
@[simp] theorem Cy{b:Type}(f:b->Int):∀l:List b,cV (l.map λa=>.int (f a))=some (l.map f)
 | []=>rfl
 | a::l=>by rw[Qd,cV,Cy f l];rfl
@[simp] theorem Mg(l:AF):cV (l.map D.int)=some l:=by simpa using Cy id l
@[simp] def pV(l:AN):ck [.lst l]=(bF l).map λa=>.bl (a.any id):=nr rfl
@[simp] def pW(l:AN):eW [.lst l]=(bF l).map λa=>.bl (a.all id):=nr rfl
@[simp] def pX(i:Nat)(fi f:AU)(g:AN->D->D->Option AN):uD i fi f g ρ=(f ρ).bind λd=>(cJ i ρ).bind λl=>(fi ρ).bind λk=>(g l k d).map λl'=>.nx (ρ.set i (some (.ow l'))):=nr rfl
@[simp] def pY(c:D):jZ c=(Yk c).map hV:=nr rfl
@[simp] def vx:bZ=1000000:=nr rfl
@[simp] def Y7(d:D)(r:Ro):af 0 (some (.sh d)::r)=some d:=nr rfl
@[simp] def Y8(d:D)(r:Ro):aa 0 (some (.sh d)::r)=some d:=nr rfl
@[simp] def Ts(l:AN)(r:Ro):aa 0 (some (.ow l)::r)=some (.lst l):=nr rfl
@[simp] def Y9(l:AN)(r:Ro):cJ 0 (some (.ow l)::r)=some l:=nr rfl
@[simp] theorem Y_(n:Nat)(b:AQ)(r:Ro):af (n+1) (b::r)=af n r:=by simp[af]
@[simp] theorem Za(n:Nat)(b:AQ)(r:Ro):aa (n+1) (b::r)=aa n r:=by simp[aa]
@[simp] theorem Zb(n:Nat)(b:AQ)(r:Ro):cJ (n+1) (b::r)=cJ n r:=by simp[cJ]
def bQ{r:Ro}{b:Type}{enc:b->D}(f:b->D){l:List b}(h:∀a∈l,fe (some (.sh (enc a))::r)=some (f a)):dU (aq 0) tY fe (none::r) (l.map enc)=some (l.map f):=by
 let:=vq (gt:=aq 0) (fc:=tY) (ρ:=none::r) enc _ f l λa c=>{_,rfl,rfl,λ_=>h a c}
 rwa [List.filter_eq_self.mpr (λ_ _=>rfl)]at this
def Cz{r:Ro}{b:Type}{enc:b->D}(p:b->Bool)(f:b->D){l:List b}(e:∀a∈l,fc (some (.sh (enc a))::r)=some (p a))(d:∀a∈l,p a=true->fe (some (.sh (enc a))::r)=some (f a)):
 dU (aq 0) fc fe (none::r) (l.map enc)=some ((l.filter p).map f):=
 vq enc p f l λa c=>{_,rfl,e a c,d a c}
def CA{fc:AT}{fe:AU}{r:Ro}{b:Type}{e1 e2:b->D}(p:b->Bool)(f:b->D){l:List b}(e:∀a∈l,fc (some (.sh (e1 a))::some (.sh (e2 a))::r)=some (p a))(d:∀a∈l,p a=true->fe (some (.sh (e1 a))::some (.sh (e2 a))::r)=some (f a)):
 dU (oR 0 1) fc fe (none::none::r) (l.map λa=>.tup [e1 a,e2 a])=some ((l.filter p).map f):=
 vq _ p f l λa c=>{_,rfl,e a c,d a c}
def Tt{a:Type}(enc:a->D)(d:a)(l:List a):hV (l.map enc)=(List.range l.length).map λi=>.tup [.int i,enc (l.getD i d)]:=by
 unfold hV;rw[qf];show Qq λi b=>?_;simp[Qb b]
end M
namespace Bk
open PySem L2 M
abbrev dM:=Nat×Bool
abbrev AX:=List dM
inductive Kd where
 | e|s|i|n
 deriving DecidableEq
inductive Rl where
 | ei (l:AX)
 | su (b:AE) (o:Bool)
 | im (b:AE) (h:AL)
 deriving DecidableEq
noncomputable def kS:Kd->Str
 | .e=>.ofString "eithers"
 | .s=>.ofString "sums"
 | .i=>.ofString "ifs"
 | .n=>.ofString "nots"
def ak(k:Kd):D:=.str (kS k)
noncomputable abbrev nD(n:Nat):D:=.int n
noncomputable def au(s:dM):D:=.tup [.int s.1,.bl s.2]
noncomputable def az:AL->D
 | none=>.non
 | some n=>.int n
def aJ:Rl->D
 | .ei l=>.tup (l.map au)
 | .su b o=>.tup [.tup (b.map nD),.bl o]
 | .im b h=>.tup [.tup (b.map nD),az h]
def bV(k:Kd)(R:List Rl):D:=.tup [ak k,.tup (R.map aJ)]
@[simp] theorem CB(k:Kd):aL (ak k)=0:=by simp[ak]
def CC:∀{k j:Kd},kS k=kS j->k=j:=by
 intro k j
 cases k<;>cases j<;>first|(intro _;rfl)|(show λh=>absurd h (by decide +kernel))
@[simp] theorem CD(k j:Kd):cH (ak k) (ak j)=decide (k=j):=by
 rw[ak,ak];by_cases h:k=j
 .simp[h]
 .let a:¬_:=λe=>h (CC e)
  simp[h,a]
def CG(a:Bool)(k j:Kd):aA a (ak k) (ak j)=some (if a then !decide (k=j)else decide (k=j)):=by
 rw[vo nofun nofun,CD]
@[simp] theorem Mh(a:Bool)(k:Kd):aA a (ak k) (.str (Str.ofString "eithers"))=some (if a then !decide (k=.e)else decide (k=.e)):=CG a k .e
@[simp] theorem Mi(a:Bool)(k:Kd):aA a (ak k) (.str (Str.ofString "sums"))=some (if a then !decide (k=.s)else decide (k=.s)):=CG a k .s
@[simp] theorem Mj(a:Bool)(k:Kd):aA a (ak k) (.str (Str.ofString "ifs"))=some (if a then !decide (k=.i)else decide (k=.i)):=CG a k .i
@[simp] theorem CH(a b:Nat):cH (nD a) (nD b)=decide (a=b):=by
 rw[Ce];grind
theorem Ml{c:Type}[DecidableEq c]{enc:c->D}(e:∀a b,cH (enc a) (enc b)=decide (a=b))(s:c):∀l:List c,dj (enc s) (l.map enc)=decide (s∈l)
 | []=>by simp[dj]
 | t::l=>by
   let d:=Ml e s l;unfold dj at d ⊢;grind
theorem j9:∀{l:AN},(∀d∈l,aL d<=n)->aY l<=n
 | [],_=>by simp
 | d::l,h=>Nat.max_le.mpr {h d qh,j9 λe a=>h e (qg _ a)}
def CI(s:Nat)(l:AE)(a:Bool)(e:Yk c=some (l.map nD)):dq a (nD s) c=some (if a then !decide (s∈l)else decide (s∈l)):=by
 rw[vp e nofun (j9 λd b=>by let{x,_,rfl}:=qy b;simp),Ml CH]
@[simp] theorem vy(s:dM):(Yk (au s)).bind (λl=>aN l 0)=some (.int s.1):=by simp[au]
@[simp] theorem vz(s:dM):(Yk (au s)).bind (λl=>aN l 1)=some (.bl s.2):=by simp[au]
@[simp] def pZ(l:AX):Yk (aJ (.ei l))=some (l.map au):=nr rfl
@[simp] def p5(b:AE)(o:Bool):Yk (aJ (.su b o))=some [.tup (b.map nD),.bl o]:=nr rfl
@[simp] def p6(b:AE)(h:AL):Yk (aJ (.im b h))=some [.tup (b.map nD),az h]:=nr rfl
@[simp] def j_(k:Kd)(R:List Rl):Yk (bV k R)=some [ak k,.tup (R.map aJ)]:=nr rfl
noncomputable def e_(ev:AG)(n:Nat):Bool:=ev.getD n false
def vA{ev:AG}(h:n<ev.length):aN (ev.map D.bl) (n:Int)=some (.bl (e_ ev n)):=by
 rw[vr,Cp h];simp[e_,h]
def In(k:Kd)(n:Nat):Rl->Prop
 | .ei l=>k=.e/\∀s∈l,s.1<n
 | .su b _=>k=.s/\∀x∈b,x<n
 | .im b h=>(k=.i\/k=.n)/\(∀x∈b,x<n)/\∀x,h=some x->x<n
def gI(s t:dM):Prop:=s.1<t.1\/(s.1=t.1/\s.2=false/\t.2=true)
def dZ:Rl->Prop
 | .ei l=>l.length<=2/\l.Pairwise gI
 | .su b _=>b.Pairwise (·<·)
 | .im b _=>b.Pairwise (·<·)
def hd(ev:AG)(w:Bool):AL->Bool
 | none=>false
 | some x=>e_ ev x==w
noncomputable def ka(R:List Rl)(i:Nat):Rl:=R.getD i (.ei [])
def CJ{R:List Rl}{i:Nat}(h:i<R.length):ka R i∈R:=by simp[ka,h]
def CK(R:List Rl):hV (R.map aJ)=(List.range R.length).map λi:Nat=>.tup [.int (i:Int),aJ (ka R i)]:=Tt aJ _ R
def so(k:Kd)(ev:AG):Rl->Bool
 | .ei l=>l.any λs=>e_ ev s.1==s.2
 | .su b o=>decide ((b.filter (e_ ev)).length%2=1)==o
 | .im b h=>(b.any λx=>e_ ev x != decide (k=.i))||hd ev (decide (k=.i)) h
end Bk
namespace Bk
def brk(k:Kd)(ev:AG)(R:List Rl):AE:=(List.range R.length).filter λi=>!so k ev (ka R i)
end Bk
namespace Bk
open PySem L2 M
noncomputable def sz:Rl->Nat
 | .ei l=>l.length
 | .su b _=>b.length
 | .im b _=>b.length
theorem Mm{n:Nat}:∀{l:AE}{a:Nat},l.Pairwise (·<·)->(∀x∈l,a<=x/\x<n)->l.length<=n-a
 | [],_,_,_=>Qh _
 | x::l,a,h,d=>by
   let e:=d x qh;let c:=List.pairwise_cons.mp h
   let f:=Mm c.2 λy b=>{c.1 y b,(d y (qg _ b)).2}
   rw[qt];ac_nf
def CL{n:Nat}{l:AE}(h:l.Pairwise (·<·))(a:∀x∈l,x<n):l.length<=n:=Mm h λx b=>{Qh _,a x b}
end Bk
namespace Bk
noncomputable def c9:Rl->AE
 | .ei l=>l.map (·.1)
 | .su b _=>b
 | .im b none=>b
 | .im b (some x)=>b++[x]
end Bk
namespace Bk
open PySem L2 M
def p7{k:Kd}{n:Nat}{r:Rl}(h:In k n r):∀x∈c9 r,x<n:=by
 cases r with
 | ei l=>
   intro x a;let{s,c,rfl}:=qy a;show h.2 s c
 | su b o=>show h.2
 | im b o=>
   intro x a
   cases o with
   | none=>show h.2.1 x a
   | some y=>
     let a+a:=qw a
     .show h.2.1 x a
     .rw[List.mem_singleton.mp a];show h.2.2 y rfl
end Bk
namespace M
variable {prog:P7}{s:Shared}{K:W7}{X:Cx}{es ifs elts:AK}{fa fk fo:AU}{pos pos' px pos2 apos np hpos cpos pos1 p1 q1 q2 q3 cp:Pos}{pins qs:AB}{gl:AV}{st b₀:Stmt}{sts suite:List Stmt}{tg elt iter ie ke:Expr}{scope:Scope}{mg:AD}{base:Heap}{env:Env}{outer:List Env}{L ea:Addr}{qual xn:Str}{cd:Value}{sp:Sp}{os:OsState}
open PySem PySem.Spec PyProof.Rows L2
noncomputable def b5(c f:Str):D->Option D
 | .obj a d b=>if a=c then (d.zip b).lookup f else none
 | _=>none
def CF(K:W7)(c f:Str):Prop:=∀C,W.nsIn K mainGlobals c=some (some (.ref C))->Cls K C/\NoAttr K C f
theorem RpL.look{G:Hp}{f:Str}:∀{ks:AJ}{vs:AN}{xs:AM}{d:D},RpL K G vs xs->(ks.zip vs).lookup f=some d->∃v,(ks.zip xs).lookup f=some v/\Rp K G d v
 | [],_,_,_,_,e=>by simp at e
 | _::_,[],_,_,_,e=>by simp at e
 | k::ks,b::vs,xs,d,r,e=>by
   let{x,a,rfl,g,q}:=r;rw[List.zip_cons_cons,List.lookup_cons]at e ⊢
   cases h:(f==k)with
   | true=>
     rw[h]at e;cases e;show{(x),rfl,g}
   | false=>
     rw[h]at e;show RpL.look q e
section
variable {e o:Expr}{c f:Str}
def gh(P:P7)(w:World)(K:W7)(d:AD)(a:Heap)(k:Nat)(c m:Str)(e:AJ)(sp:Sp):Prop:=
 ∃C f b,FnOk P w K d a bY k f b e sp/\Binds K b e []/\W.nsIn K mainGlobals c=some (some (.ref C))/\Cls K C/\dQ K C m f
noncomputable def c_(c m:Str)(b:AN->Option D):D->Option D
 | .obj a d e=>if a=c/\m∉d then b [.obj a d e]else none
 | _=>none
theorem vB{f:Str}:∀{ks:AJ}{xs:AM},f∉ks->(ks.zip xs).lookup f=none
 | [],_,_=>by simp
 | _::_,[],_=>by simp
 | k::ks,x::xs,h=>by
   rw[List.zip_cons_cons,List.lookup_cons]
   let a:(f==k)=false:=by
    rw[beq_eq_false_iff_ne];show λz=>h (by rw[z];show qh)
   rw[a];show vB λz=>h (qg _ z)
end
inductive b6 (τ:Type) where
 | nx (ρ:Ro) (t:τ)|rt (d:D) (t:τ)|bk (ρ:Ro) (t:τ)|ct (ρ:Ro) (t:τ)
def vC(l:Addr)(H H':Hp):Prop:=∀a,a≠l->H' a=H a
structure WR(K:W7)(l:Addr)(o:HO)(H0 G0:Hp)(σ:L2.St)(H G:Hp)(ρ:Ro):Prop where
 sr:SR K H0 G0 σ H G ρ
 g0:G0 l=none
 h0:H0 l=some o
def CM{f:Type}(b:f->HO)(K:W7)(l:Addr)(c e:Hp)(F:cX):b6 f->Prop
 | .nx i t=>∀g h j a,vC l c a->WR K l (b t) a e g h j i->F.nx g h
 | .rt d t=>∀v h j a,vC l c a->a l=some (b t)->Gr a e h j->Rp K j d v->F.rt v h
 | .bk i t=>∀g h j a,vC l c a->WR K l (b t) a e g h j i->F.bk g h
 | .ct i t=>∀g h j a,vC l c a->WR K l (b t) a e g h j i->F.ct g h
def p8{b:Type}(a:b->HO)(K:W7)(l:Addr)(f:Ro->b->Option (b6 b)):TS:=λF h H=>∃g t e c d G,f g t=some e/\WR K l (a t) c d h H G g/\CM a K l c d F e
abbrev WS{b:Type}(a:b->HO)(X:Cx)(l:Addr)(st:Stmt)(f:Ro->b->Option (b6 b)):Prop:=PS X st (p8 a X.K l f)
abbrev WB{b:Type}(a:b->HO)(X:Cx)(l:Addr)(c:List Stmt)(f:Ro->b->Option (b6 b)):Prop:=PSs X c (p8 a X.K l f)
section
variable {τ:Type}{rep:τ->HO}{l:Addr}{fs gs:Ro->τ->Option (b6 τ)}
def WT(rep:τ->HO)(X:Cx)(l:Addr)(c:Expr)(f:Ro->τ->Option Bool):Prop:=PT X c λg H Q=>∃d t k b a G,f d t=some k/\WR X.K l (rep t) b a g H G d/\∀e h,Gr H G e h->Q k e
end
noncomputable abbrev wl(t:AG):HO:=.lst (t.map .bl)
noncomputable abbrev kb:AJ:=["book","hands","truths"]
abbrev bG(b h x:D):D:=.obj "Watch" kb [b,h,x]
theorem Mn{G:Hp}:∀t:AG,RpL K G (t.map D.bl) (t.map V.bl)
 | []=>.nil
 | b::t=>.cons (by rw[Rp]) (Mn t)
def RpL.three{G:Hp}{a b c:D}{xs:AM}(r:RpL K G [a,b,c] xs):∃x y z,xs=[x,y,z]/\Rp K G a x/\Rp K G b y/\Rp K G c z:=by
 let{x,g,rfl,d,r}:=r;let{y,i,rfl,f,r}:=r;let{z,h,rfl,e,r}:=r;subst r;show{(x),y,z,rfl,d,f,e}
def vD(p:Prop)(a:Option Out):Option Out:=@ite _ p (Classical.propDecidable p) a none
def Mo{p:Prop}{a:Option Out}(h:p):vD p a=a:=@if_pos p _ h _ _ _
def Tu{p:Prop}{a:Option Out}{o:Out}(e:vD p a=some o):p/\a=some o:=by
 by_cases h:p
 .rw[Mo h]at e
  show{(h),e}
 .let:vD p a=none:=@if_neg p _ h _ _ _
  rw[this]at e;cases e
abbrev Wm:=Ro->AG->Option (b6 AG)
structure Zc(X:Cx)(l:Addr)(st:Stmt)(f:Wm):Prop where
 un:WS wl X l st f
structure Zd(X:Cx)(l:Addr)(sts:List Stmt)(f:Wm):Prop where
 un:WB wl X l sts f
structure Ze(X:Cx)(l:Addr)(c:Expr)(f:Ro->AG->Option Bool):Prop where
 un:WT wl X l c f
section
variable {l:Addr}{fs gs:Wm}{e o:Expr}{f:AU}{c m:Str}
def CN{f:Str}(k:CF X.K c f)(j:ZE X e fa)(D:attributeBase e f X.env (eval e X.env)=eval e X.env:=by rfl):ZE X (.Attribute e f pos) (b1 fa (b5 c f)):=⟨let j:=j.un;
 PE.imp (nN j D) λL H Q p=>by
  let{K,d,I,J,G,e,s,h}:=p;let{x,F,b}:=cI e;show tOf.at F s λv u t E A y=>?_
  cases x with
  | obj r m o=>
    change (if r=c then (m.zip o).lookup f else none)=some d at b
    by_cases i:r=c
    .rw[if_pos i]at b
     subst i;let{a,C,w,M,rfl,n,g,l,q}:=A;let{v,z,B}:=q.look b;show{a,C,w,_,v,rfl,y.seen _ _ g,(k C n).1,(k C n).2,z,h v u t E B}
    .rw[if_neg i]at b
     cases b
  | _=>cases b⟩
theorem Mp{j k:Nat}{ps:AJ}{u:AN->Option D}{pl:Sem Bool}(O:gh X.prog X.w X.K X.mg X.base j c m ps (bE X.K 1 u))(R:Room k X.A)(r:ZE X o fo)(K:j<=k:=by first|show qv _|ac_nf)(V:eval (.Call (.Attribute o m apos) [] [] pos) X.env=(do
  let A <-eval o X.env
  standAt apos.atName
  let (f,first) <-holding [A] (getMethod A m pl)
  callWith pos f first (backTo pos (starEach [] X.env)) (backToKw pos (keywordEach [] X.env))):=by rfl):ZE X (.Call (.Attribute o m apos) [] [] pos) (b1 fo (c_ c m u)):=⟨let r:=r.un;by
 intro pins s σ H Q I i;let{ρ,d,W,G0,G,e,P,h}:=i;let{x,J,b}:=cI e
 cases x with
 | obj t ks vs=>
   change (if t=c/\m∉ks then u _ else none)=some d at b
   by_cases p:t=c/\m∉ks
   .rw[if_pos p]at b
    let{rfl,B}:=p;let{C,f,Y,F,hb,z,L,M}:=O;show Rm r L M F (R.mono K) hb .nil jK V _ s σ H Q I (tOf.at J P λv Z N U S w=>?_);let{a,C',y,xs,rfl,n,g,l,q}:=S;rw[z]at n;cases n;show{a,y,_,rfl,w.seen _ _ g,vB B,{rfl,[_],d,N,w.seen,.one ?_,b,λv H' G' E T=>h v H' G' (U.trans E) T}};show{(a),C,y,xs,rfl,z,g,l,q}
   .rw[if_neg p]at b
    cases b
 | _=>cases b⟩
end
def Mq(K:W7)(c m q:Str)(st:Stmt):Prop:=∃C f b,W.nsIn K mainGlobals c=some (some (.ref C))/\Cls K C/\dQ K C m f/\Fun K m q st f b
def mq_mk{K:W7}{c m q:Str}{st:Stmt}{C f:Addr}{o:Value}{s p:Option Addr}{e:Array (Option Value)}{kV g u d w:Value}(a:W.nsIn K mainGlobals c=some (some (.ref C)))(v:W.plainGet K C Str.empty=true)(r:W.hasDictIn K C=true)(j:W.plainOver K C=true)(t:W.findIn K (.ref C) "__setattr__"=some (some (.builtin "object.__setattr__")))(i:W.findIn K (.ref C) m=some (some (.ref f)))(n:W.isFn K (.ref f)=true)(l:K.lookup f=some {o,s,.func (W.fnOf m q (aEb st) (aDb st) (aBb st) .none kV g u p d w),e})(h:W.codeIn K d q=true)(k:W.keepIn K (.ref f)=true):Mq K c m q st:=
 {C,f,_,a,{(v),r,j,t},{(i),n,k},n_ l h k}
def Nq(K:W7)(c f:Str):Prop:=∃C,W.nsIn K mainGlobals c=some (some (.ref C))/\Cls K C/\NoAttr K C f
def nq_mk{K:W7}{c f:Str}{C:Addr}(a:W.nsIn K mainGlobals c=some (some (.ref C)))(g:W.plainGet K C Str.empty=true)(h:W.hasDictIn K C=true)(e:W.plainOver K C=true)(d:W.findIn K (.ref C) "__setattr__"=some (some (.builtin "object.__setattr__")))(n:W.findIn K (.ref C) f=some none):Nq K c f:=
 {C,a,{(g),h,e,d},n}
def Nq.cf{K:W7}{c f:Str}(h:Nq K c f):CF K c f:=λC e=>by
 let{g,a,d,n}:=h;rw[a]at e;cases e;show{(d),n}
def Iq(K:W7)(st:Stmt):Prop:=∃C f fd,W.nsIn K mainGlobals "Watch"=some (some (.ref C))/\Mk K C f/\Fun K "__init__" "Watch.__init__" st f fd
def p9(x q:Str)(st:Stmt)(h:AJ):Prop:=∀(kV a e:Value) (d:Option _) (c f:Value) (b:List _),b.length=h.length->bindArgs (W.fnOf x q (aEb st) (aDb st) (aBb st) .none kV a e d c f) {b,[]}=pure (h.zip b)
section
variable {P:P7}{w:World}
theorem kd{c x q:Str}{st:Stmt}{k n m:Nat}{N r:AJ}{fb:AR}(F:Mq K c x q st)(S:cG N r (aBb st))(t:∀{f:Addr}{d:Value}{A:Around}{b:List Env}{s:Shared}{H:Hp}{E:XK},Room k (A.deeper (envOfC q (aBb st) (~~~s) f d))->ZB (ay bY P w K mg base N q (aBb st) f d A b s H E).nox (aDb st) fb)(j:N.length=n:=by rfl)(h:r.length=m:=by rfl)(B:p9 x q st r:=by and_intros):gh P w K mg base (k+1) c x r (bE K m (av m n fb)):=by
 let{C,f,o,a,p,i,g}:=F;show{C,f,o,BZ g S j h λ_ _ _ _ _ _ l=>t l,g.binds B,a,p,i}
end
section
variable {a:Expr}{x:Str}{ks:AJ}
theorem CO(r:X.A.units+64<cLine){p:Addr}{o:Obj}{its:Array Value}{n:Nat}(l:X.K.lookup p=some o)(d:o.cls=.type "tuple")(f:o.data=.seq its n)(hs:uG its.toList ks):bh X (compareOp .In) (h_ p ks false):=by
 intro b s z H x y v u Q I g m h;let{k,rfl,i,rfl,q}:=h;cases m;let{t,rfl}:=g;let{w,j,c}:=Bp hs;show SeqAt.in_tuple_reads (.tuple (I.kIn p o l) d f j) (.str k t) (by simpa [PyData.canLay0]using c) (by simp[PyData.canLay0,i]) ?_ {.bl _,H,I,rfl,?_}
 .let e:(PyData.str k).depth=0:=by simp[PyData.depth]
  ext<;>ac_nf
 .rw[Bq]
  let e:decide (k∈ks)=(decide (k∈ks)!=false):=by cases decide (k∈ks)<;>rfl
  rwa [e]
theorem CP(E:X.A.units+64<cLine)(g:GT X.K X.mg x ks)(r:Gl X x)(u:ZC X a fa)(C:behindInMarks .In (.Name x px)=false:=by with_unfolding_all rfl)(t:ba x:=by decide):ZE X (.Compare a [.In] [.Name x px] pos) (mB (b1 fa (cy false ks))):=by
 let{p,o,D,n,j,z,q,f,K}:=g;show{PE.imp (zc (CO E z q f K) u.un (gW (v:=.ref p) r j rfl t) C) λM H Q i=>?_};let{L,b,F,I,G,e,s,h}:=i;let{k,B,rfl}:=t_ e;let{d,w,c}:=cI B;show tCof.at w s λv y m A l J=>?_;unfold cy at c
 split at c
 .rename_i k
  cases c;show{k,l.1,l.2,rfl,h _ y m A (by rw[Rp])}
 .cases c
end
def bW(c:Value)(h:Heap)(ea T:Addr)(C fl:Value):Prop:=
 ∃oe vs oT ts,h.get? ea=some oe/\(oe.cls=C/\vs[2]?=some c)/\oe.data=.fields vs/\vs[1]?=some (.ref T)/\T≠ea/\h.get? T=some oT/\oT.data=.fields ts/\ts[3]?=some fl
structure XStep(h h':Heap)(ea T:Addr)(fr:List Addr):Prop where
 keep:∀b o,h.get? b=some o->b≠ea->b≠T->b∉fr->h'.get? b=some o
 slot:∀b o,h.get? b=some o->b∈fr->∃sl,h'.get? b=some {o with slots:=sl}
section
variable {M:Model}{A:Around}{E:AA}{T:Addr}{C c:Value}{h h' h0:Heap}{Q:Unit->Shared->Prop}{P:P7}{w:World}{H H0:Hp}{fr fs ex:List Addr}
theorem CQ{w:Obj}{vs:Array Value}{n:Value}{y:Bool}(t:A.frames=some (env::outer))(B:s.heap.FunFrames base (env::outer))(D:env.frame=some L)(I:s.heap.get? ea=some w)(C:w.data=.fields vs)(K:vs[2]?=some c)(H:∀h' u,bW c h' ea u w.cls (rawInt L)->s.heap.get? u=none->XStep s.heap h' ea u (br (env::outer))->Q () {s with heap:=h' }):
 wpAny M A (do let a <-frameOf env;let pl <-entryPlaceOf L y;let b <-EntryCells.newEntry n a .none (rawInt L) .none pl;setField (.ref ea) 1 b) Q E s:=by
 let p:=Nat.lt_of_succ_lt (Array.getElem?_eq_some_iff.mp K).1
 let l:ea∉br _:=λN=>by
  let{_,o,R,S}:=B.mem N;symm
 show wa (wpAny_frameOf_fun t B D λg r=>?_);show wa (wpAny_entryPlaceOf λpl x=>?_);show wa (wg ?_ (x.sizeOk5 _ _ _ _ _));let f:=(r.2.1 ea l).trans I;generalize j:({cls:=.type _,dict:=none,data:=.fields _}:Obj)=v;let k:=Nat.ne_of_gt (ql f);let h:=qe v f;show wpAny_setField h C p (H _ g.objs.size ?_ (Heap.get?_none_of_le (by rw[r.1];symm)) {λb o e O T G=>?_,λb o e m=>?_})
 .let d:=jd C (·.setIfInBounds 1 (.ref g.objs.size))
  let J:_=some v:=qp g (by rw[<-j];rfl);show{_,_,v,_,wu _ h (Obj.isFreed_of_fields d),{Obj.cls_mapFields _ _,by symm},d,by simp[p],k,(Heap.get?_update_other _ _ (.symm k)).trans J,by rw[<-j],by symm}
 .rw[Heap.get?_update_other _ _ (.symm O)]
  show qe _ ((r.2.1 b G).trans e)
 .let{F,q}:=r.2.2 b o e
  show{F,?_};rw[Heap.get?_update_other _ _ (λz=>l ⋯)];show qe _ q
theorem Mr(h:A.frames=some (env::outer))(q:env.frame=some L)(k:s.heap.FunFrames base (env::outer))(x:bW c s.heap ea T C .none)(F:∀h' d,bW c h' ea d C (rawInt L)->(d=T\/s.heap.get? d=none)->XStep s.heap h' ea T (br (env::outer))->Q () {s with heap:=h' }):wpAny M A (noteFrame (.ref ea) env) Q E s:=by
 let{K,J,I,N,p,{rfl,G},r,v,j,l,f,t}:=x;unfold noteFrame;simp only[q];show wa (wpAny_field p r v (wa (wpAny_field l f t (wa (wpAny_setField l f (Array.getElem?_eq_some_iff.mp t).1 ?_)))));let a:∀b,_->(s.heap.update T (.mapFields (·.setIfInBounds 3 .none))).get? b=_:=λb g=>Heap.get?_update_other _ _ (.symm g)
 let D:∀b∈br _,b≠T:=λb g z=>by
  let{_,o,O,H}:=k.mem g;symm
 show CQ h (k.of_keeps λb o g H=>{o,(a b λz=>by symm).trans g,rfl}) q ((a ea (.symm j)).trans p) r G λh' d w n st=>?_
 let i:d=T\/s.heap.get? d=none:=by
  symm
 show F h' d w i {λb o e B u y=>st.keep b o ((a b u).trans e) B (λz=>?_) y,λb o e m=>st.slot b o ((a b (D b m)).trans e) m};symm
theorem kf{l:List Env}{fl:Value}(x:bW c s.heap ea T C fl)(w:∀h',bW c h' ea T C .none->XStep s.heap h' ea T (br l)->(∀b o,s.heap.get? b=some o->b≠T->h'.get? b=some o)->Q () {s with heap:=h' })(u:s.heap.FunFrames base l):wpAny M A (setFlight (.ref ea) none) Q E s:=by
 let{y,r,G,I,k,t,j,p,h,i,d,v}:=x;let g:=(Array.getElem?_eq_some_iff.mp v).1;show wa (wpAny_field k j p ?_);let a:∀b,_->(s.heap.update T (.mapFields (·.setIfInBounds 3 ((none:Option Addr).elim .none λf=>rawInt f)))).get? b=_:=λb B=>Heap.get?_update_other _ _ (.symm B);show wpAny_setField i d g (w _ ?_ {λb o e _ q _=>(a b q).trans e,λb o e m=>{o.slots,(a b λz=>?_).trans e}} λb o e n=>(a b n).trans e)
 .show{y,r,_,_,(a ea (.symm h)).trans k,t,j,p,h,wu _ i (Obj.isFreed_of_fields (jd d _)),jd d _,by simp[g]}
 .let{_,H,F,D}:=u.mem m
  symm
theorem vE{h h' base:Heap}:∀{l:List Env},h.FunFrames base l->(∀b∈br l,∀o,h.get? b=some o->∃c,h'.get? b=some {o with slots:=c})->h'.FunFrames base l
 | [],_,_=>trivial
 | a::r,⟨j,⟨L,o,k,i,m,g⟩,f⟩,d=>by
   let e:br (a::r)=L::br r:=by unfold br;symm
   let{c,q}:=d L ⋯ o m;show{j,{L,_,k,i,q,g},vE f λb q=>d b ⋯}
theorem Tv(g:A.frames=some (env::outer))(n:env.frame=some L)(h:s.heap.FunFrames base (env::outer))(x:bW c s.heap ea T C .none)(w:∀h' f,bW c h' ea f C .none->(f=T\/s.heap.get? f=none)->XStep s.heap h' ea T (br (env::outer))->Q () {s with heap:=h' }):wpAny M A (leaving env (.ref ea)) Q E s:=by
 show wa (Mr g n h x λF u v l a=>kf v (λt p d _=>w t u p l {λb o e j k i=>?_,λb o e m=>?_}) (vE h λb y o e=>a.slot b o e y))
 .show d.keep b o (a.keep b o e j k i) j (λz=>?_) i
  symm
 .let{D,q}:=a.slot b o e m
  let{r,B}:=d.slot b _ q m;symm
theorem Tw{h:Heap}{d:AC}(j:A.frames=some (env::outer))(p:env.frame=some L)(y:h.FunFrames base (env::outer))(c:Heap.MadeExcOf h s.heap ea C d)(B:∀h' l,bW .none h' ea l C .none->h.get? l=none->XStep h h' ea l (br (env::outer))->Q () {s with heap:=h' }):wpAny M A (leaving env (.ref ea)) Q E s:=by
 let{t,u,_,_}:=c.there
 let f:=y.of_keeps λb o i _=>{o,c.keeps b o i,rfl}
 show wa ?_;unfold noteFrame;simp only[p];show wa (wpAny_field u rfl (x:=.none) rfl (CQ j f p u rfl rfl λG k z w a=>?_))
 let D:h.get? k=none:=by
  cases q:h.get? k with
  | none=>rfl
  | some o=>rw[c.keeps _ _ q]at w;cases w
 show kf z (λx F g _=>B x k F D {λb o e r n v=>?_,λb o e m=>?_}) (vE f λb i o e=>a.slot b o e i)
 .show g.keep b o (a.keep b o (c.keeps _ _ e) r n v) r n v
 .let{H,q}:=a.slot b o (c.keeps _ _ e) m
  symm
theorem XStep.hok(st:XStep h h' ea T fr)(x:HOk P w H h)(he:H ea=none)(hT:H T=none)(hf:∀b∈fr,H b=none):HOk P w H h':=λa o e=>by
 show(x a o e).stay (λb u hb q=>?_) (λ_ z=>z) λ_ _ z=>z
 let n:H b≠none:=λz=>by
  symm
 show st.keep b u q (λz=>n ⋯) (λz=>n ⋯) λz=>n (hf b z)
theorem ObjOk.there{a:Addr}{o:HO}(x:ObjOk P w H h a o):∃u,h.get? a=some u:=by
 cases o with
 | lst xs=>let{_,_,_,_,e}:=x;symm
 | tup xs=>let{_,_,_,u,e,_}:=x;symm
 | dK kvs=>let{_,_,_,_,o,_,_,e,_}:=x;symm
 | dT kvs=>let{_,_,_,_,o,_,_,e,_}:=x;symm
 | set S n=>let{o,_,_,_,e,_}:=x;symm
 | ins C dx fs=>let{_,_,_,e,_}:=x;symm
 | own y=>let{_,e}:=x;symm
 | xd fs=>let{_,{_,_,_,e,_},_}:=x;symm
 | rng lo hi=>let{_,_,_,e}:=x;symm
 | frz ob u=>let{e,_}:=x;symm
 | tbl ps=>show{_,(show h.get? a=some _ from x)}
 | met f y=>show{_,(show h.get? a=some _ from x)}
 | ext φ=>let{_,{_,e},_}:=x;symm
theorem vF(x:HOk P w H h){a:Addr}(e:h.get? a=none):H a=none:=by
 cases q:H a with
 | none=>rfl
 | some o=>
   let{u,z}:=ObjOk.there (x a o q);symm
theorem XStep.un(st:XStep h h' ea T fr)(u:Un fs ex H0 H h0 h)(he:h0.get? ea=none)(hT:h0.get? T=none)(hf:∀b∈fr,b∈fs\/h0.get? b=none):Un fs ex H0 H h0 h':=by
 let ne:∀b o,h0.get? b=some o->b≠ea/\b≠T:=λb o e=>{λz=>⋯,λz=>⋯}
 show{λb o e n m1 m2=>?_,λb o e n m1 m2=>?_,u.free,λb o e m=>?_,u.tups,u.frzs,u.tbls}
 .show st.keep b o (u.keep b o e n m1 m2) (ne b o e).1 (ne b o e).2 λz=>?_
  symm
 .let{sl,e1}:=u.slot b o e n m1 m2
  by_cases z:b∈fr
  .let{sl',e2}:=st.slot b _ e1 z
   symm
  .show{sl,st.keep b _ e1 (ne b o e).1 (ne b o e).2 z}
 .let{o',e1}:=u.there b o e m
  by_cases z:b∈fr
  .let{sl',e2}:=st.slot b _ e1 z
   symm
  .show{o',st.keep b _ e1 (ne b o e).1 (ne b o e).2 z}
end
def CXN(P:P7)(w:World):fP:=λouter H s E e s'=>
 ∃ea T H' C,e=.ref ea/\s'.os=s.os/\AllBare s'.gens/\Un (br outer) [] H H' s.heap s'.heap/\HOk P w H' s'.heap/\bW .none s'.heap ea T C .none/\s.heap.get? ea=none/\s.heap.get? T=none/\H' ea=none/\H' T=none/\E C none H'
section
variable {P:P7}{w:World}{N:AJ}{f:Addr}{A:Around}{s0:Shared}{H0:Hp}{E:XK}
theorem ml{X:Cx}{pins:AB}{σ:L2.St}{H:Hp}{s:Shared}(I:Inv X pins σ H s)(c:X.ex=[]){a:Addr}(e:s.heap.get? a=none):X.s₀.heap.get? a=none:=by
 cases q:X.s₀.heap.get? a with
 | none=>rfl
 | some o=>
   let{b,z}:=I.base.there a o q ⋯;symm
theorem gJ:eQ (CXN P w) (ay (CXN P w) P w K mg base N qual scope f cd A outer s0 H0 E) E:=by
 rintro m B H s e D I ⟨u,T,k,C,rfl,os,a,t,i,x,r,q,p,l,v⟩;let J:=I.call' os t i a (λb z=>nomatch z);let n:=ml I rfl r;let j:=ml I rfl q;show Tv I.ok.frames rfl J.stack x λF g y c st=>?_
 let h:s0.heap.get? g=none:=by
  let rfl+z:=c
  .show j
  .show ml J rfl z
 let d:k g=none:=by
  let rfl+z:=c
  .show l
  .show vF J.hok z
 show⟨u,g,k,C,rfl,J.os,J.bare,st.un J.base n j (λb o=>by
  let rfl+o:=qu (show b∈s0.heap.objs.size::br outer from o)
  .show .inr (Heap.get?_none_of_le (qv _))
  symm),st.hok J.hok p l J.stkFree,y,n,h,p,d,v⟩
end
def vM:AC:=[.type "ValueError",.type "Exception",.type "BaseException",.type "object"]
def bg(K:W7)(C:Addr):AC:=match K.lookup C with
 | some ⟨_,_,.cls cd,_⟩=>cd.mro
 | _=>[]
abbrev XC(K:W7)(C:Addr):Prop:=W.excIn K C vM "ValueError.__new__"=true
theorem fg{K:W7}{h:Heap}{C:Addr}(X:K.In h)(q:XC K C):∃d N nm q bs hdct sn sub ab col dd k0 k1 k2 k3 k5 g,
 h.get? C=some (excClassObj nm q C N bs d hdct sn sub ab col dd k0 k1 k2 k3 k5 "ValueError.__new__")/\h.Ns N g/\g "__init__"=none/\OwnTail h vM d/\bg K C=.ref C::d:=by
 unfold XC W.excIn at q
 split at q
 .rename_i dd k o i
  split at q
  .rename_i v d k0 k1 k2 k3 n k5 j u
   simp only[Qe,beq_iff_eq,Bool.not_eq_true']at q;let{{{{{rfl,rfl},b},m},c},e}:=q;let{nm,bs,t,l,r,p,sn,sub,ab,col,s}:=k;dsimp only at j b c e;subst j b
   let f:o=#[k0,k1,k2,k3,some (.builtin "ValueError.__new__"),k5]:=by
    symm
   subst f;show{d,l,nm,r,bs,p,sn,sub,ab,col,dd,k0,k1,k2,k3,k5,_,X _ _ i,.of_isNs (W.isNs_of_in X c),W.nsMap_none_of_in X c e,W.tail_of_in X m,by unfold bg;rw[i]}
  .cases q
 .cases q
section
variable {P:P7}{w:World}{N:AJ}{f:Addr}{A:Around}{s0:Shared}{H0:Hp}{E:XK}
theorem Ms{C:Addr}{x m:Str}{z g c k:Pos}{j:Nat}(S:mg x=some (.ref C))(B:XC K C)(F:Gl (ay (CXN P w) P w K mg base N qual scope f cd A outer s0 H0 E) x:=by rfl)(i:ba x:=by decide)(hs:starEach [Expr.Constant (.str m) j g] (envOfC qual scope s0.heap.objs.size f cd)=[(false,eval (Expr.Constant (.str m) j g) (envOfC qual scope s0.heap.objs.size f cd))]:=by rfl):
 PS (ay (CXN P w) P w K mg base N qual scope f cd A outer s0 H0 E) (.Raise (some (.Call (.Name x z) [.Constant (.str m) j g] [] c)) none k) (λ_ _ H=>E (.ref C) none H):=by
 intro r s Y H D I h;let{V,L,nm,q,bs,hdct,sn,sub,ab,col,dd,k0,k1,k2,k3,k5,U,Q,R,e,T,_}:=fg I.kIn B;show wpAny_Raise_call_subT (nm:=nm) (q:=q) (N:=L) (bs:=bs) (hdct:=hdct) (sn:=sn) (sub:=sub) (ab:=ab) (col:=col) (dd:=dd) (k0:=k0) (k1:=k1) (k2:=k2) (k3:=k3) (k5:=k5) (bmB:=vM) PySem.F.excBase_ValueError (T.hasType (by decide)) (I.ok.hd rfl) (by change(backTo c (starEach _ (envOfC qual scope _ f cd))).any _=false;rfl) e (d7 I F S {rfl,?_} i);change wpAny _ _ (evalArgs _ _ (backTo c (starEach _ (envOfC qual scope _ f cd))) _) _ _ _;show PySem.Calls.evalArgs_plain (PySem.Calls.spliced_cons ?_);change wpAny _ _ (eval _ _) _ _ _;show PySem.Calls.Constant_str (PySem.Calls.spliced_nil {rfl,by change 1<=_;decide,Q,R,T,λv J d=>?_});let y:=I.stack;show Tw I.ok.frames rfl y d λv O G u st=>?_;let n:=ml I rfl d.new;let l:=ml I rfl u;let o:=vF I.hok d.new;let p:=vF I.hok u
 let M:∀b _,b∈br outer\/s0.heap.get? b=none:=λb t=>by
  let rfl+t:=qu (show b∈s0.heap.objs.size::br outer from t)
  .show .inr (Heap.get?_none_of_le (qv _))
  symm
 show{J,O,H,.ref C,rfl,I.os,I.bare,st.un I.base n l M,st.hok I.hok o p I.stkFree,G,n,l,o,p,h}
end
structure Ofa(X:Cx)(pins:AB)(H:Hp)(b:Addr):Prop where
 s0:X.s₀.heap.get? b=none
 hp:H b=none
 lo:b≠X.env.locals
 ce:∀x c,X.env.cells.lookup x=some c->c≠b
 pi:∀p∈X.pn++pins,p.1≠b
section
variable {σ:L2.St}{H H':Hp}{b T:Addr}{h':Heap}
theorem Ofa.of(I:Inv X pins σ H s)(hx:X.ex=[])(e:s.heap.get? b=none)(hp:H' b=none):Ofa X pins H' b where
 s0:=ml I hx e
 hp:=hp
 lo:=λz=>by
  let{m,{o,_,_,q,_},_}:=I.loc;symm
 ce:=λx c q z=>by
  let{v,o,q2,_}:=I.cell x c q;symm
 pi:=λp hp z=>by
  let:=(I.pin p hp).1;symm
def Ofa.none(I:Inv X pins σ H s)(hx:X.ex=[])(e:s.heap.get? b=none):Ofa X pins H b:=Ofa.of I hx e (vF I.hok e)
theorem eM(I:Inv X pins σ H s)(st:XStep s.heap h' ea T (br X.stack))(g:Ofa X pins H ea)(h:Ofa X pins H T):Inv X pins σ H {s with heap:=h' }:=by
 let f:=λb o e F B=>by
  by_cases z:b∈br X.stack
  .show st.slot b o e z
  .show{o.slots,st.keep b o e F B z}
 let a:∀x c,_->∀v,s.heap.IsCell c v->h'.IsCell c v:=λx c e v ⟨o,j,G⟩=>by
  let{C,q}:=f c o j (g.ce x c e) (h.ce x c e);show{_,q,G}
 show⟨I.ok,I.os,I.bare,st.un I.base g.s0 h.s0 (λb w=>by
  let rfl+w:=qu (I.stkSub b w)
  .show .inr (Heap.get?_none_of_le I.ok.above)
  symm),?_,λx c e=>?_,I.free,I.freeC,λp t=>?_,st.hok I.hok g.hp h.hp I.stkFree,I.len⟩
 .let{m,{o,J,M,j,r},K}:=I.loc
  let{C,q}:=f _ o j (.symm g.lo) (.symm h.lo);show{m,{_,J,M,q,r},λi x v L D E=>?_};let{u,r,l}:=K i x v L D E;show{u,r,?_};let l+{k,c,e,z}:=l
  .show .inl l
  .show .inr {k,c,e,a x c e _ z}
 .let{v,z}:=I.cell x c e
  symm
 .let{e,n,A,y,d}:=I.pin p t
  show{st.keep p.1 p.2 e (g.pi p t) (h.pi p t) λz=>?_,n,A,y,d};let q+q:=qu (I.stkSub _ z)
  .show A q
  .show y q
end
abbrev Cx.mk(X:Cx)(ea:Addr)(pn:AB):Cx:={X with A:=X.A.mark (some (.ref ea)),calm:=false,pn:=pn++X.pn,xe:=λ_ _=>False}
section
variable {pn:AB}{σ:L2.St}{H:Hp}
def Inv.mk(I:Inv X pins σ H s)(hp:∀p∈pn,s.heap.get? p.1=some p.2/\H p.1=none/\p.1≠X.env.locals/\p.1∉X.fs/\∀v,p.2.data≠.cell v):Inv (Cx.mk X ea pn) pins σ H s:=
 ⟨{I.ok.mod,I.ok.kind,I.ok.glob,I.ok.blt,I.ok.above,I.ok.inj,I.ok.has,I.ok.cab,(λz=>nomatch z),I.ok.frames,I.ok.stk,I.ok.exf,I.ok.bs,I.ok.bsz,I.ok.noex,I.ok.exfs,I.ok.funs,I.ok.frf},I.os,I.bare,I.base,I.loc,I.cell,I.free,I.freeC,λp q=>by
  let q+q:=qw (show p∈(pn++X.pn)++pins from q)
  .let q+q:=qw q
   .show hp p q
   .show I.pin p (List.mem_append.mpr (.inl q))
  .show I.pin p (List.mem_append.mpr (.inr q)),I.hok,I.len⟩
theorem Inv.unmk(ok:X.Ok)(I:Inv (Cx.mk X ea pn) pins σ H s):Inv X pins σ H s:=
 ⟨ok,I.os,I.bare,I.base,I.loc,I.cell,I.free,I.freeC,λp q=>I.pin p (by
  symm),I.hok,I.len⟩
def Mt(c:X.Ok){D:cX}{fl:Flow}{s':Shared}(h:SP (Cx.mk X ea pn) pins D fl s'):SP X pins D fl s':=by
 cases fl with
 | next=>let{a,b,I,q}:=h;show{a,b,Inv.unmk c I,q}
 | brk=>let{a,b,I,q}:=h;show{a,b,Inv.unmk c I,q}
 | cont=>let{a,b,I,q}:=h;show{a,b,Inv.unmk c I,q}
 | ret u=>let{v,a,b,I,r,q}:=h;show{v,a,b,Inv.unmk c I,r,q}
end
theorem Mu{K:W7}{M:Model}{A:Around}{E:AA}{s:Shared}{e B C:Addr}{j:Obj}{Q:Bool->Shared->Prop}(X:K.In s.heap)(v:XC K B)(r:XC K C)(J:s.heap.get? e=some j)(a:j.cls=.ref C)(o:Q ((bg K C).contains (.ref B)) s):wpAny M A (excMatches (.ref e) (.ref B)) Q E s:=by
 let{O,N,V,q,bs,l,sn,x,ab,F,dd,U,k1,k2,k3,k5,mN,u,_,_,T,I}:=fg X r;let{h,N',y,Z,p,b,D,k,H,n,w,S,l1,l2,Y,l5,R,m,_,_,G,L}:=fg X v;rw[I]at o;let{hp,g,d,t,os}:=s
 let c:(Value.ref B::h).contains (.type "BaseException")=true:=by rw[List.contains_cons,G.hasType (show vM.contains (.type "BaseException")=true by decide),Bool.or_true]
 let f:=tc_notTuple;unfold excMatches
 repeat (first|(with_reducible show wpAny_loadPart_at J ?_;rw[a])|with_reducible show wpAny_loadPart_at m ?_|(with_reducible show wpAny_isSubtype_exc m ?_;rw[c])|with_reducible show wpAny_isSubtype_exc u ?_|wp_step)
 all_goals (nomatch (Value.ref C::O).contains (.ref B)=z;cases z<;>(wp_walk;symm))
section
variable {k:AB}{σ:L2.St}{H:Hp}{T:Addr}{C c:Value}{M:Model}{E:AA}{Q:Flow->Shared->Prop}{hs:List ExceptHandler}
def CS{h':Heap}{a:Addr}(I:Inv X pins σ H s)(c:X.ex=[])(b:Ofa X pins H T)(z:a=T\/s.heap.get? a=none):Ofa X pins H a:=by
 let rfl+z:=z
 .show b
 .show .none I c z
def Cn(c:Value)(ea:Addr)(k:AB):Prop:=(c=.none/\k=[])\/∃e0 o0 ws,c=.ref e0/\k=[(e0,o0)]/\e0≠ea/\o0.data=.fields ws/\ws[2]?=some .none
def Kp(X:Cx)(pins:AB)(H:Hp)(h:Heap)(ea T:Addr)(k:AB):Prop:=∀p∈k,h.get? p.1=some p.2/\Ofa X pins H p.1/\p.1≠ea/\p.1≠T/\∃ws,p.2.data=.fields ws
theorem Kp.step{h':Heap}{T':Addr}(I:Inv X pins σ H s)(q:Kp X pins H s.heap ea T k)(st:XStep s.heap h' ea T (br X.stack))(z:T'=T\/s.heap.get? T'=none):Kp X pins H h' ea T' k:=λp hp=>by
 let{e,o,n1,n2,ws,d}:=q p hp;show{st.keep _ _ e n1 n2 λhm=>?_,o,n1,λy=>?_,ws,d}
 .let{_,o',ho,hn}:=I.stack.mem hm
  symm
 symm
def CT(y:X.ex=[])(a:X.stack=X.env::X.outer)(q:X.env.frame=some X.env.locals)(I:Inv X pins σ H s)(x:bW c s.heap ea T C .none)(o:Ofa X pins H ea)(n:Ofa X pins H T)(w:Kp X pins H s.heap ea T k)(g:∀h' j,Inv X pins σ H {s with heap:=h' }->bW c h' ea j C .none->Ofa X pins H j->Kp X pins H h' ea j k->wpAny M X.A (handleBy (.ref ea) X.env hs) Q E {s with heap:=h' }):
 wpAny M X.A (noteFrame (.ref ea) X.env) (λ_ d=>wpAny M X.A (setFlight (.ref ea) none) (λ_ f=>wpAny M X.A (handleBy (.ref ea) X.env hs) Q E f) E d) E s:=by
 let l:=I.stack;rw[a]at l;show Mr (by rw[I.ok.frames,a]) q l x λp r v m b=>?_;rw[<-a]at b;let i:=eM I b o n;let e:=CS (h':=p) I y n m;show kf v (λt u h _=>g t r (eM (s:={s with heap:=p}) i h o e) u e ((w.step I b m).step i h (.inl rfl))) i.stack
def Xo(ps:AB)(ea:Addr)(C:Value):Prop:=∃ob k c vs,ps=(ea,ob)::k/\ob.cls=C/\ob.data=.fields vs/\vs[2]?=some c/\Cn c ea k
def Ofa.nfs{b:Addr}(I:Inv X pins σ H s)(o:Ofa X pins H b):b∉X.fs:=λz=>by
 let{_,u,q,_}:=I.ok.funs.mem z;rw[o.s0]at q;cases q
theorem vG(I:Inv X pins σ H s)(x:bW c s.heap ea T C .none)(b:Ofa X pins H ea)(j:Kp X pins H s.heap ea T k)(m:Cn c ea k):∃ps,Xo ps ea C/\∀p∈ps,s.heap.get? p.1=some p.2/\H p.1=none/\p.1≠X.env.locals/\p.1∉X.fs/\∀v,p.2.data≠.cell v:=by
 let{g,h,q,n,i,f,l,_}:=x;show{(ea,g)::k,{(g),k,c,h,rfl,f.1,l,f.2,m},λp a=>?_};let rfl+a:=qu a
 .show{i,b.hp,b.lo,b.nfs I,λv z=>by symm}
 .let{e,o,_,_,r,d}:=j p a
  show{e,o.hp,o.lo,o.nfs I,λv z=>by symm}
end
section
variable {kk:AB}{σ:L2.St}{H:Hp}{T B C:Addr}{c:Value}{E:AA}{Q:Flow->Shared->Prop}{rest:List ExceptHandler}{y n:Str}
def Tx(A:X.ex=[])(I:Inv X pins σ H s)(x:bW c s.heap ea T (.ref C) .none)(g:Ofa X pins H ea)(p:Ofa X pins H T)(l:Kp X pins H s.heap ea T kk)(m:Cn c ea kk)(n:XC X.K B)(v:XC X.K C)(u:X.mg y=some (.ref B))(o:Gl X y)(f:(bg X.K C).contains (.ref B)=true)(d:(y==("__debug__":Str))=false)(k:∀s' ps,Xo ps ea (.ref C)->Inv (Cx.mk X ea ps) pins σ H s'->wpAny (mZ X.prog X.w) (X.A.mark (some (.ref ea))) (execs (b₀::suite) X.env) Q (λ_ _=>False) s'):
 Zo X (handleBy (.ref ea) X.env (.ExceptHandler (some (.Name y np)) none (b₀::suite) hpos::rest)) Q E s:=by
 let{ps,_,w}:=vG I x g l m;show wpAny_handleBy_cons (codeAny_handlers_test (d7 (Inv.mk (ea:=ea) I w) o u ?_ d)) (by intro q;cases q);let{_,_,_,_,t,e,_}:=id x;show Mu I.kIn n v t e.1 ?_;rw[f];show codeAny_handlers_suite (kf x (λD r a _=>?_) I.stack);let j:=eM I a g p;let{i,b,h}:=vG j r g (l.step I a (.inl rfl)) m;show ww (k _ i b (Inv.mk j h)) (λ_ _ z=>z) λ_ _ z=>z.elim
def Tz{i:Nat}(S:X.ex=[])(I:Inv X pins σ H s)(x:bW c s.heap ea T (.ref C) .none)(j:Ofa X pins H ea)(A:Ofa X pins H T)(r:Kp X pins H s.heap ea T kk)(t:Cn c ea kk)(M:XC X.K B)(N:XC X.K C)(v:X.mg y=some (.ref B))(w:Gl X y)(l:(bg X.K C).contains (.ref B)=true)(h:(y==("__debug__":Str))=false)(L:X.N.Nodup)(D:X.N[i]?=some n)(K:dO X.env.scope n)(F:X.fn n=true\/X.env.scope.names.lookup n=some .local)(k:∀s' ps,Xo ps ea (.ref C)->Inv (Cx.mk X ea ps) pins (σ.set i (some (V.ref ea))) H s'->wpAny (mZ X.prog X.w) (X.A.mark (some (.ref ea))) (execs (b₀::suite) X.env) (λf g=>Zo X (do bindName X.env n .none;unbindBehindTheSuite X.env n hpos) (λ_ e=>Q f e) E g) (λ_ _=>False) s'):
 Zo X (handleBy (.ref ea) X.env (.ExceptHandler (some (.Name y np)) (some n) (b₀::suite) hpos::rest)) Q E s:=by
 let{ps,_,O}:=vG I x j r t;show wpAny_handleBy_cons (codeAny_handlers_test (d7 (Inv.mk (ea:=ea) I O) w v ?_ h)) (by intro q;cases q);let{_,_,_,_,G,m,_}:=id x;show Mu I.kIn M N G m.1 ?_;rw[l];show codeAny_handlers_suite_as (kf x (λR J b _=>?_) I.stack);let p:=eM I b j A;let{a,d,o}:=vG p J j (r.step I b (.inl rfl)) t;show tD (X:=Cx.mk X ea a) (v:=.ref ea) (Inv.mk p o) L D K rfl (λs' u=>ww (k _ a d u) (λ_ _ z=>z) λ_ _ z=>z.elim) F
theorem Mv{i:Nat}{Q:Unit->Shared->Prop}{M:Model}(I:Inv X pins σ H s)(U:X.N.Nodup)(F:X.N[i]?=some n)(L:X.env.kindOf n=some .local)(k:∀s',Inv X pins (σ.set i none) H s'->Q () s'):
 wpAny M X.A (do bindName X.env n .none;unbindBehindTheSuite X.env n hpos) Q E s:=by
 let{m,R,r}:=id I.loc;show wpAny_nameGoes_keeps L R (by rw[I.ok.kind];rfl) λV v u a=>k _ ?_;let h:=I.cne;show{I.ok,I.os,I.bare,{λb o e n t g=>?_,λb o e n t g=>?_,I.base.free,λb o e g=>?_,I.base.tups,I.base.frzs,I.base.tbls},{_,u,λj y O f B K=>?_},λy c e=>?_,I.free,I.freeC,λp C=>?_,λb N e=>?_,by rw[List.length_set];show I.len}
 .show(a.2 b (qm (Qi (ql e) I.ok.above))).trans (I.base.keep b o e n t g)
 .let{D,f}:=I.base.slot b o e n t g
  show{D,(a.2 b (qm (Qi (ql e) I.ok.above))).trans f}
 .let{S,f}:=I.base.there b o e g
  show{S,(a.2 b (qm (Qi (ql e) I.ok.above))).trans f}
 .by_cases w:j=i
  .grind
  .rw[Qp (.symm w)]at B
   let{G,J,q}:=r j y O f B K;show{G,J,?_};let{k,e}+{k,c,e,z}:=q
   .show .inl {k,?_}
    let:y≠n:=λe=>w (yc U f (e ▸ F));symm
   .show .inr {k,c,e,z.sameBut a (h y c e)}
 .let{x,z}:=I.cell y c e
  show{x,z.sameBut a (h y c e)}
 .let{e,n,A,T,d}:=I.pin p C
  show{(a.2 p.1 A).trans e,n,A,T,d}
 .show(I.hok b N e).stay (λc x l q=>(a.2 c ?_).trans q) (λ_ q=>q) λ_ _ q=>q
  rintro rfl;let rfl+l:=l
  .rw[I.free]at e;cases e
  .rw[I.free]at l;cases l
end
def Kn(H':Hp)(h h':Heap)(ea T:Addr)(k:AB):Prop:=∀p∈k,h'.get? p.1=some p.2/\h.get? p.1=none/\H' p.1=none/\p.1≠ea/\p.1≠T/\∃ws,p.2.data=.fields ws
def cz(P:P7)(w:World):fP:=λouter H s E e s'=>
 ∃ea T H' C c k,e=.ref ea/\s'.os=s.os/\AllBare s'.gens/\Un (br outer) [] H H' s.heap s'.heap/\HOk P w H' s'.heap/\bW c s'.heap ea T C .none/\s.heap.get? ea=none/\s.heap.get? T=none/\H' ea=none/\H' T=none/\Cn c ea k/\Kn H' s.heap s'.heap ea T k/\E C none H'
def CXN.m{P:P7}{w:World}{outer:List Env}{H:Hp}{s:Shared}{E:XK}{e:Value}{s':Shared}(h:CXN P w outer H s E e s'):cz P w outer H s E e s':=by
 let{ea,T,H',C,a,b,d,f,g,i,j,l,m,n,o}:=h;show{ea,T,H',C,.none,[],a,b,d,f,g,i,j,l,m,n,.inl {(rfl),rfl},(λp hp=>nomatch hp),o}
def Kn.kp{X:Cx}{pins:AB}{σ:L2.St}{H H':Hp}{s:Shared}{h':Heap}{ea T:Addr}{k:AB}(q:Kn H' s.heap h' ea T k)(I:Inv X pins σ H s)(hx:X.ex=[]):Kp X pins H' h' ea T k:=λp hp=>by
 let{a,b,d,f}:=q p hp;show{a,Ofa.of I hx b d,f}
section
variable {k:Nat}{f B C:Addr}{fd:FuncData}{ps:AJ}{x y n:Str}{p:Pos}{e:Expr}{t:TA}{ts:TS}
theorem Mw{pins:AB}{σ:L2.St}{H:Hp}{s:Shared}{Q:VK}{E:XK}{n:AA}(j:∀e s,¬X.xe e s)(F:FnOk X.prog X.w X.K X.mg X.base (cz X.prog X.w) k f fd ps sp)(w:Room k X.A)(B:Gl X x)(G:X.mg x=some (.ref f))(o:W.keepIn X.K (.ref f)=true)(hb:Binds X.K fd ps [])(C:PA X (e::es) t)(i:ba x)(y:starEach (e::es) X.env=(false,eval e X.env)::starEach es X.env)(l:(backTo cpos (starEach es X.env)).any (·.1)=false)(I:Inv X pins σ H s)(h:t σ H λvs b=>sp vs b Q E)(D:∀b c e s',Inv X pins σ b c->cz X.prog X.w X.stack b c E e s'->n e s'):
 Zo X (eval (.Call (.Name x p) (e::es) [] cpos) X.env) (EP X pins σ Q) n s:=by
 show wpAny_Call_Name_kw (d7 I B G (W.callWith_K I.ok.mod.kin o (ww (C _ _ s σ H _ I h) (λm c ⟨vs,b,d,r,q⟩=>{d.kIn,?_}) λe s z=>(j e s z).elim) y l) i)
 let v:(m++[]).length=ps.length:=by rw[wz,<-r.length];show F.len _ _ _ _ q
 show wpAny_call (codeAny_mono (F.run X.A _ c b _ m vs Q E w d.env0 (by let:=hb c m d.kIn v;symm) r q) λr s' g=>?_)
 cases r with
 | error e=>show D b c e s' d g
 | ok A=>
   cases A with
   | ret u=>show d.after g
   | next=>show .elim g
   | brk=>show .elim g
   | cont=>show .elim g
theorem CU(u:∀e s,¬X.xe e s)(d:X.ex=[])(L:X.stack=X.env::X.outer)(o:X.env.frame=some X.env.locals)(F:FnOk X.prog X.w X.K X.mg X.base (cz X.prog X.w) k f fd ps sp)(hr:Room k X.A)(hg:Gl X x)(Y:X.mg x=some (.ref f))(hk:W.keepIn X.K (.ref f)=true)(hb:Binds X.K fd ps [])(ha:PA X (e::es) t)(hB:XC X.K B)(hC:XC X.K C)(hy:X.mg y=some (.ref B))(m:Gl X y)(r:(bg X.K C).contains (.ref B)=true)(hs:∀ea j,Xo j ea (.ref C)->PSs (Cx.mk X ea j) (b₀::suite) ts)(w:ba x:=by decide)(l:(y==("__debug__":Str))=false:=by decide)(he:Zj X e es:=by rfl)(G:Zk X cpos es:=by rfl)(J:swapsWith (.Call (.Name x p) (e::es) [] cpos) none pos1.line X.env=pure false:=by rfl):
 PS X (.Try [.Expr (.Call (.Name x p) (e::es) [] cpos) pos1] [.ExceptHandler (some (.Name y np)) none (b₀::suite) hpos] [] [] pos) (λD σ H=>t σ H λvs i=>sp vs i (λ_ A=>D.nx σ A) λM _ A=>M=.ref C/\ts D σ A):=by
 intro N s σ H D I h;show wpAny_Try_except (wpAny_execs_cons (wpAny_Expr_any (ww (Mw u F hr hg Y hk hb ha w he G I h λi Z e s' a z=>?_) (λv Z q=>?_) λ_ _ z=>z) I.quiet J))
 .let{ea,T,H',M,c,kk,rfl,os,g,un,E,x0,Q,U,O,n4,S,R,rfl,n}:=z
  show CT d L o (a.call' os un E g (λb z=>nomatch z)) x0 (.of a d Q O) (.of a d U n4) (R.kp a d) λh' T' V x2 o2 k2=>Tx d V x2 (.of a d Q O) o2 k2 S hB hC hy m r l λs3 j hc I3=>ww (hs ea j hc _ s3 σ H' D I3 n) (λ_ _ q=>Mt I.ok q) λ_ _ z=>z
 .let{v',i,a,r1,q1}:=q
  show wpAny_execs_nil (wpAny_execs_nil {(σ),i,a,q1})
theorem CV{i:Nat}(hxe:∀e s,¬X.xe e s)(g:X.ex=[])(Z:X.stack=X.env::X.outer)(O:X.env.frame=some X.env.locals)(F:FnOk X.prog X.w X.K X.mg X.base (cz X.prog X.w) k f fd ps sp)(hr:Room k X.A)(hg:Gl X x)(hm:X.mg x=some (.ref f))(hk:W.keepIn X.K (.ref f)=true)(hb:Binds X.K fd ps [])(ha:PA X (e::es) t)(hB:XC X.K B)(hC:XC X.K C)(hy:X.mg y=some (.ref B))(Q:Gl X y)(L:(bg X.K C).contains (.ref B)=true)(hN:X.N.Nodup)(hs:∀ea o,Xo o ea (.ref C)->PSs (Cx.mk X ea o) (b₀::suite) (λD σ H=>∃σ',σ=σ'.set i (some (V.ref ea))/\σ'.length=σ.length/\ts {nx:=λa l=>D.nx a l,rt:=λ_ _=>False} σ' H))(hi:X.N[i]?=some n:=by rfl)(S:X.env.kindOf n=some .local:=by rfl)(E:ba x:=by decide)(A:(y==("__debug__":Str))=false:=by decide)(he:starEach (e::es) X.env=(false,eval e X.env)::starEach es X.env:=by rfl)(N:(backTo cpos (starEach es X.env)).any (·.1)=false:=by rfl)(U:swapsWith (.Call (.Name x p) (e::es) [] cpos) none pos1.line X.env=pure false:=by rfl):
 PS X (.Try [.Expr (.Call (.Name x p) (e::es) [] cpos) pos1] [.ExceptHandler (some (.Name y np)) (some n) (b₀::suite) hpos] [] [] pos) (λD σ H=>t σ H λvs w=>sp vs w (λ_ l=>D.nx σ l) λC' _ l=>C'=.ref C/\ts {nx:=λa K=>D.nx (a.set i none) K,rt:=λ_ _=>False} σ l):=by
 intro pins s σ H D I h;show wpAny_Try_except (wpAny_execs_cons (wpAny_Expr_any (ww (Mw hxe F hr hg hm hk hb ha E he N I h λw s1 e s' d z=>?_) (λv s1 q=>?_) λ_ _ z=>z) I.quiet U))
 .let{ea,T,H',C',c,kk,rfl,os,j,un,R,x0,n1,n2,n3,n4,cn,kp,rfl,G}:=z
  let J:=d.call' os un R j (λb z=>nomatch z);show CT g Z O J x0 (.of d g n1 n3) (.of d g n2 n4) (kp.kp d g) λh' T' I2 x2 o2 k2=>?_;show Tz g I2 x2 (.of d g n1 n3) o2 k2 cn hB hC hy Q L A hN hi (.inl S) (.inr S) λs3 o hc I3=>?_;show ww (hs ea o hc _ s3 _ H' {nx:=λa K=>D.nx _ K,rt:=λ_ _=>False} I3 {σ,rfl,by symm,G}) (λfl s4 q=>?_) λ_ _ z=>z;let r:=Mt I.ok q
  cases fl with
  | next=>
    let{σ4,H4,I4,m}:=r
    show Mv I4 hN hi S λs5 I5=>{_,H4,I5,m}
  | brk=>let{_,_,_,m}:=r;symm
  | cont=>let{_,_,_,m}:=r;symm
  | ret u=>let{_,_,_,_,_,m}:=r;symm
 .let{v',w,d,r1,q1}:=q
  show wpAny_execs_nil (wpAny_execs_nil {(σ),w,d,q1})
end
def qN:AJ:=["__getattribute__","__getattr__","__class__"]
inductive bK (h:Heap) (bmB:AC):AC->Prop
 | base:bK h bmB bmB
 | own {A:Addr}{c0:Value}{dd:Option Addr}{cd:ClassData}{sl:Array (Option Value)}{mA:AD}{tl:AC} :
  h.get? A=some {cls:=c0,dict:=dd,data:=.cls cd,slots:=sl}->h.Ns cd.ns mA->(∀n∈qN,mA n=none)->bK h bmB tl->bK h bmB (.ref A::tl)
def vH(K:W7)(bmB:AC):AC->Bool
 | []=>bmB==[]
 | v::r=>(v::r)==bmB||match v with
   | .ref A=>(match K.lookup A with
     | some ⟨_,_,.cls cd,_⟩=>W.nsOkIn K cd.ns&&qN.all (λn=>W.nsIn K cd.ns n==some none)&&vH K bmB r
     | _=>false)
   | _=>false
theorem Mx{K:W7}{h:Heap}{bmB:AC}(X:K.In h):∀{l:AC},vH K bmB l=true->bK h bmB l
 | [],e=>by rw[<-beq_iff_eq.mp e];show .base
 | v::r,e=>by
   let q+q:=Bool.or_eq_true_iff.mp e
   .rw[beq_iff_eq.mp q];show .base
   .split at q
    .split at q
     .rename_i c
      simp only[Qe]at q;show .own (X _ _ c) (.of_isNs (W.isNs_of_in X q.1.1)) (λn b=>W.nsMap_none_of_in X q.1.1 (beq_iff_eq.mp (List.all_eq_true.mp q.1.2 n b))) (Mx X q.2)
     .cases q
    .cases q
abbrev XQ(K:W7)(C:Addr):Prop:=vH K vM (bg K C)=true
section
variable {w:World}{A:Around}{E:AA}{h:Heap}{g:Array GenState}{d:Drawn}{t:Nat}{a:Addr}{o:Obj}
 {nm q:Str}{C N:Addr}{bs bm:AC}{hdct:Bool}{sn:AJ}{sub:AC}{ab:Bool}{col:Option Bool}{dd:Option Addr}{k0 k1 k2 k3 k5:Option Value}{newId:String}
theorem CW{M:Model}{a bmB:AC}{n:Str}{y:Option Value}{Q:Option Value->Shared->Prop}(j:n∈qN)(T:bK h bmB a)(hrest:lookupAlong bmB n=pure y)(f:Q y {(h),g,d,t,os}):wpAny M A (lookupAlong a n) Q E {(h),g,d,t,os}:=by
 induction T with
 | base=>rw[hrest];show wc f
 | own b e c _ i=>
   rw[lookupAlong_cons];show wa (wpAny_classOwn_cls b e ?_);symm
def CY{M:Model}{n:Str}{y:Option Value}{Q:Option Value->Shared->Prop}(e:n∈qN)(a:h.get? C=some (excClassObj nm q C N bs bm hdct sn sub ab col dd k0 k1 k2 k3 k5 newId))(T:bK h vM (.ref C::bm))(c:typeLookup (.type "ValueError") n=pure y)(b:Q y {(h),g,d,t,os}):
 wpAny M A (typeLookup (.ref C) n) Q E {(h),g,d,t,os}:=by
 rw[typeLookup_eq];show wa (wpAny_mroOf_exc a (CW e T c b))
def TB:typeLookup (.type "ValueError") "__class__"=pure (some (.builtin "object.__class__")):=by kernel_rfl
theorem CZ{R:Result->Shared->Prop}(f:h.get? C=some (excClassObj nm q C N bs bm hdct sn sub ab col dd k0 k1 k2 k3 k5 newId))(T:OwnTail h vM bm)(i:h.get? a=some o)(e:o.cls=.ref C)(j:R (.ok (.ret (.ref C))) {(h),g,d,t,os}):
 codeAny (mZ prog w) A (.call (.builtin "getset_descriptor.__get__") {[.builtin "object.__class__",.ref a,.ref C],[]}) R {(h),g,d,t,os}:=by
 let b:=F.typeOf_object_class
 let c:(Value.ref C::bm).contains (.type (".".intercalate ("object.__class__".cutAt '.').dropLast))=true:=by
  rw[F.owner_object_class,List.contains_cons,T.hasType (show vM.contains (.type "object")=true by decide)];rfl
 show codeAny_call_builtin F.slot_gs_get.plain F.entry_gs_get (F.slot_gs_get.check _ _ _ _ _ _ _ _ b (F.args_gs_get _ _ _) ?_)
 repeat (any_goals (first|assumption|(with_reducible rw[e])|(with_reducible show wpAny_isSubtype_exc f ?_;rw[c])|wp_step))
 show{Code.quiet_builtin _ (by decide +kernel),wv F.entry_object_class ?_}
 repeat (any_goals (first|assumption|(with_reducible show wpAny_loadPart_at i ?_;rw[e])|wp_step))
theorem TC{M:Model}{nameV:Value}{Q:Unit->Shared->Prop}(hC:h.get? C=some (excClassObj nm q C N bs bm hdct sn sub ab col dd k0 k1 k2 k3 k5 newId))(T:OwnTail h vM bm)(hx:h.get? a=some o)(hc:o.cls=.ref C)(hq:Q () {(h),g,d,t,os}):wpAny M A (checkBuiltinCall "BaseException.__getattribute__" {[.ref a,nameV],[]}) Q E {(h),g,d,t,os}:=by
 let hk:builtinKind "BaseException.__getattribute__"=some .slot:=by decide +kernel
 let hsplit:splitId "BaseException.__getattribute__"=some ("BaseException","__getattribute__"):=by decide +kernel
 let hcB:(Value.ref C::bm).contains (.type "BaseException")=true:=by rw[List.contains_cons,T.hasType (show vM.contains (.type "BaseException")=true by decide)];rfl
 let ha:=F.args_bexc_ga (.ref a) nameV;simp only[checkBuiltinCall,hk,hsplit];show wa ?_
 .unfold isInstance
  repeat (first|(with_reducible show wpAny_loadPart_at hx ?_;rw[hc])|(with_reducible show wpAny_isSubtype_exc hC ?_;rw[hcB])|wp_step)
  show hq
theorem TF{tk:Tok}{Q:Fin->Shared->Prop}(c:h.get? C=some (excClassObj nm q C N bs bm hdct sn sub ab col dd k0 k1 k2 k3 k5 newId))(T:OwnTail h vM bm)(i:bK h vM (.ref C::bm))(f:h.get? a=some o)(e:o.cls=.ref C)(j:Q (.done (.ret (.ref C))) {(h),g,d,t,os}):
 wpAny (mZ prog w) A (Builtin.«object.__getattribute__» {[.ref a,.str "__class__" tk],[]}) Q E {(h),g,d,t,os}:=by
 let l:=F.typeOf_object_class;let m:=F.slot_gs_get.lookup;let k:=F.slot_gs_set.lookup;let b:("__class__":Str)∈qN:=.tail _ (.tail _ (.head _))
 repeat (any_goals (first|assumption|(with_reducible rw[e])|with_reducible show CY b c i TB ?_|wp_step))
 show CZ c T f e ?_
 repeat (any_goals (first|assumption|wp_step))
def TH{tk:Tok}{R:Result->Shared->Prop}(b:h.get? C=some (excClassObj nm q C N bs bm hdct sn sub ab col dd k0 k1 k2 k3 k5 newId))(T:OwnTail h vM bm)(f:bK h vM (.ref C::bm))(e:h.get? a=some o)(c:o.cls=.ref C)(i:R (.ok (.ret (.ref C))) {(h),g,d,t,os}):
 codeAny (mZ prog w) A (.call (.builtin "BaseException.__getattribute__") {[.ref a,.str "__class__" tk],[]}) R {(h),g,d,t,os}:=
 codeAny_call_builtin F.attrBase_ValueError.ga.plain F.entry_bexc_ga (TC b T e c (TF b T f e c i))
theorem C1{tk:Tok}{Q:AA}(c:h.get? C=some (excClassObj nm q C N bs bm hdct sn sub ab col dd k0 k1 k2 k3 k5 newId))(T:OwnTail h vM bm)(f:bK h vM (.ref C::bm))(j:h.get? a=some o)(i:o.cls=.ref C)(l:Q (.ref C) {(h),g,d,t,os}):
 wpAny (mZ prog w) A (getAttrBy (.ref a) (.str "__class__" tk) false) Q E {(h),g,d,t,os}:=by
 let k:=F.attrBase_ValueError.ga.bind (.ref a);let b:_∈qN:=.head _;let e:_∈qN:=.tail _ (.head _)
 repeat (any_goals (first|assumption|(with_reducible rw[i])|with_reducible show CY b c f F.attrBase_ValueError.ga.lookup ?_|with_reducible show CY e c f F.attrBase_ValueError.noGetattr ?_|wp_step))
 show TH c T f j i ?_
 repeat (any_goals (first|assumption|wp_step))
theorem TJ{Q:Option Value->Shared->Prop}(b:h.get? C=some (excClassObj nm q C N bs bm hdct sn sub ab col dd k0 k1 k2 k3 k5 newId))(T:OwnTail h vM bm)(e:bK h vM (.ref C::bm))(c:h.get? a=some o)(f:o.cls=.ref C)(i:Q (some (.ref C)) {h,g,d,t+1,os}):
 wpAny (mZ prog w) A (getAttr? (.ref a) "__class__") Q E {(h),g,d,t,os}:=by
 repeat (any_goals (first|assumption|with_reducible apply C1 b T e c f|wp_step))
end
section
variable {w:World}{A:Around}{E:AA}{h:Heap}{g:Array GenState}{d:Drawn}{t:Nat}{a:Addr}{o:Obj}
 {nm q nm' q':Str}{C N B N':Addr}{bs bm bs' bm':AC}{hdct hdct':Bool}{sn sn':AJ}{sub sub':AC}{ab ab':Bool}{col col':Option Bool}{dd dd':Option Addr}{k0 k1 k2 k3 k5 l0 l1 l2 l3 l5:Option Value}{newId newId':String}
theorem TK{aL:Int}{tk:Tok}{Q:Fin->Shared->Prop}(b:h.get? C=some (excClassObj nm q C N bs bm hdct sn sub ab col dd k0 k1 k2 k3 k5 newId))(T:OwnTail h vM bm)(l:bK h vM (.ref C::bm))(k:h.get? B=some (excClassObj nm' q' B N' bs' bm' hdct' sn' sub' ab' col' dd' l0 l1 l2 l3 l5 newId'))(c:h.get? a=some o)(f:o.cls=.ref C){z:Bool}(i:(Value.ref C::bm).contains (.ref B)=z)(j:∀t',Q (.done (.ret (.bool z))) {(h),g,d,t',os}):wpAny (mZ prog w) A (Builtin.«isinstance.nested» {[.ref a,.ref B,.int aL tk],[]}) Q E {(h),g,d,t,os}:=by
 let p:=j t;let n:=j (t+1);by_cases e:C=B
 .subst e
  obtain rfl:true=z:=by symm
  repeat (any_goals (first|assumption|(with_reducible show wpAny_loadPart_at c ?_;rw[f])|wp_step))
 .let m:(Value.ref C==Value.ref B)=false:=by
   symm
  cases z with
  | true=>repeat (any_goals (first|assumption|(with_reducible show wpAny_loadPart_at c ?_;rw[f])|with_reducible show wpAny_loadPart_at k ?_|with_reducible show wpAny_loadPart_at b ?_|(with_reducible show wpAny_isSubtype_exc b ?_;rw[i])|wp_step))
  | false=>repeat (any_goals (first|assumption|(with_reducible show wpAny_loadPart_at c ?_;rw[f])|with_reducible show wpAny_loadPart_at k ?_|with_reducible show wpAny_loadPart_at b ?_|(with_reducible show wpAny_isSubtype_exc b ?_;rw[i])|with_reducible show TJ b T l c f ?_|wp_step))
theorem TL{aL:Int}{tk:Tok}{Q:Fin->Shared->Prop}(b:h.get? C=some (excClassObj nm q C N bs bm hdct sn sub ab col dd k0 k1 k2 k3 k5 newId))(T:OwnTail h vM bm)(i:h.get? a=some o)(e:o.cls=.ref C)(f:Q (.done (.ret (.bool true))) {(h),g,d,t,os}):wpAny (mZ prog w) A (Builtin.«isinstance.nested» {[.ref a,.type "ValueError",.int aL tk],[]}) Q E {(h),g,d,t,os}:=by
 let c:(Value.ref C::bm).contains (.type "ValueError")=true:=by rw[List.contains_cons,T.hasType (show vM.contains _=true by decide)];rfl
 repeat (any_goals (first|assumption|(with_reducible rw[e])|with_reducible show wpAny_loadPart_at b ?_|(with_reducible show wpAny_isSubtype_exc b ?_;rw[c])|wp_step))
end
def Xp(K:W7)(mg:AD)(x y:Str)(z:Bool):Prop:=∃C D,mg x=some (.ref C)/\mg y=some (.ref D)/\XC K C/\XQ K C/\XC K D/\(bg K C).contains (.ref D)=z
def kg(K:W7)(mg:AD)(n:Nat)(fr:AN->Option Bool)(xn:Str):Sp:=λvs H _ E=>vs.length=n/\∃ds G,Same G H/\RpL K G ds vs/\fr ds=some true/\∀C H' G',mg xn=some (.ref C)->Gr H G H' G'->E (.ref C) none H'
def kh(K:W7)(mg:AD)(E:XK)(xn:Str)(r:AT):TS:=λ_ σ H=>∃ρ H0 G0 G,r ρ=some true/\SR K H0 G0 σ H G ρ/\∀C H' G',mg xn=some (.ref C)->Gr H0 G0 H' G'->E (.ref C) none H'
structure ZX(X:Cx)(E:XK)(xn:Str)(sts:List Stmt)(r:AT):Prop where
 un:PSs X sts (kh X.K X.mg E xn r)
def cP(P:P7)(w:World)(K:W7)(mg:AD)(base:Heap)(k n:Nat)(x:Str)(ps:AJ)(fr:AN->Option Bool)(xn:Str):Prop:=
 ∃a fd,FnOk P w K mg base (CXN P w) k a fd ps (kg K mg n fr xn)/\Binds K fd ps []/\W.keepIn K (.ref a)=true/\mg x=some (.ref a)
def aP(k n:Nat)(r:AT)(ds:AN):Option Bool:=if ds.length=k then r (Ye n ds)else none
def a_:AT:=λ_=>some true
def bT:AT:=λ_=>some false
def bR(c:AT)(a b:AT):AT:=λρ=>(c ρ).bind λk=>if k=true then a ρ else b ρ
def Yv(ga:AV)(fr:AN->Option Bool):AT:=λρ=>(ga ρ).bind fr
def PA.nox'{X:Cx}{es:AK}{t:TA}(h:PA X.nox es t):PA X es t:=λpos pins s σ H Q I hw=>
 ww (h pos pins s σ H Q (I.wish _) hw) (λ_ _ ⟨v,H',I',r,q⟩=>{(v),H',I'.unwish,r,q}) λ_ _ z=>False.elim z
section
variable {P:P7}{w:World}{N:AJ}{f:Addr}{A:Around}{s0:Shared}{H0:Hp}{E:XK}{rest:List Stmt}
theorem fI{y m:Str}{np p1 cpos pos:Pos}{j:Nat}{z:Bool}(hp:Xp K mg xn y z)(hg:Gl (ay (CXN P w) P w K mg base N qual scope f cd A outer s0 H0 E) xn:=by rfl)(hdb:(xn==("__debug__":Str))=false:=by decide)(hs:starEach [Expr.Constant (.str m) j p1] (envOfC qual scope s0.heap.objs.size f cd)=[(false,eval (Expr.Constant (.str m) j p1) (envOfC qual scope s0.heap.objs.size f cd))]:=by rfl):
 ZX (ay (CXN P w) P w K mg base N qual scope f cd A outer s0 H0 E) E xn (.Raise (some (.Call (.Name xn np) [.Constant (.str m) j p1] [] cpos)) none pos::rest) a_:=by
 let{C,_,hm,_,hc,_}:=hp;show{PSs.imp (eO (Ms hm hc hg hdb hs) iS) λD σ H ⟨ρ,H0,G0,G,_,s,h⟩=>h C H G hm s.gr}
def i8{X:Cx}:ZX X E xn sts bT:={PSs.imp iS λ_ _ _ ⟨_,_,_,_,e,_⟩=>by cases e}
def gK{X:Cx}{c:Expr}{a:List Stmt}{fc j i:AT}{b:Pos}(p:ZT X.nox c fc)(n:ZX X E xn a j)(q:ZX X E xn rest i):ZX X E xn (.If c a [] b::rest) (bR fc j i):=
 ⟨PSs.imp (eO (lH (.nox p.un) n.un nE) q.un) λD t H ⟨l,g,m,G,e,s,h⟩=>by
  let{k,o,e}:=qa e;show tTof.at o s λr d u f=>?_
  cases k with
  | true=>
    show{(l),g,m,d,e,f,h}
  | false=>
    show{(l),g,m,d,e,f,h}⟩
theorem C2{j k n:Nat}{x:Str}{p b g:Pos}{ps:AJ}{fr:AN->Option Bool}{e:Expr}{d:AK}{o:AV}(c:cP P w K mg base j n x ps fr xn)(J:Room k (ay (CXN P w) P w K mg base N qual scope f cd A outer s0 H0 E).A)(hg:Gl (ay (CXN P w) P w K mg base N qual scope f cd A outer s0 H0 E) x)(I:ZA (ay (CXN P w) P w K mg base N qual scope f cd A outer s0 H0 E).nox (e::d) o)(hl:∀ρ l,o ρ=some l->l.length=n)(B:j<=k:=by first|show qv _|ac_nf)(q:ba x:=by decide)(L:starEach (e::d) (envOfC qual scope s0.heap.objs.size f cd)=(false,eval e (envOfC qual scope s0.heap.objs.size f cd))::starEach d (envOfC qual scope s0.heap.objs.size f cd):=by rfl)(m:(backTo b (starEach d (envOfC qual scope s0.heap.objs.size f cd))).any (·.1)=false:=by rfl)(i:swapsWith (.Call (.Name x p) (e::d) [] b) none g.line (envOfC qual scope s0.heap.objs.size f cd)=pure false:=by rfl):
 ZX (ay (CXN P w) P w K mg base N qual scope f cd A outer s0 H0 E) E xn (.Expr (.Call (.Name x p) (e::d) [] b) g::rest) (Yv o fr):=by
 let{a,fd,F,Q,S,T}:=c;show{PSs.imp (eO (iR (nU (F.mono B) J hg T S Q .nil gJ (PA.nox' I.un) q L m) i) iS) λD Y H ⟨ρ,H0,G0,G,e,s,h⟩=>?_};let{l,O,e}:=qa e;show tAof.at O s λZ U z V t r=>?_;rw[wz];show{by rw[t.length];symm,l,z,r.seen,t,e,λC R u y v=>h C R u y (r.gr.trans v)}
def My{x:Str}{st:Stmt}{c:FuncData}{ps:AJ}{k n m:Nat}{r:AT}(F:Fun K x qual st f c)(S:cG N ps (aBb st))(j:N.length=n)(d:ps.length=m)(hb:∀(a:Value) (A:Around) (outer:List Env) (s:Shared) (H:Hp) (E:XK),Room k (A.deeper (envOfC qual (aBb st) (~~~s) f a))->ZX (ay (CXN P w) P w K mg base N qual (aBb st) f a A outer s H E) E xn (aDb st) r):
 FnOk P w K mg base (CXN P w) (k+1) f c ps (kg K mg m (aP m n r) xn):=by
 let{J,M,kV,l,R,L,a,I,o,rfl,B,b}:=F.ex;show nV B b S (λz H Q E h=>by rw[h.1,d]) λA outer s H z Q E p h=>?_;let{O,u,G,i,v,e,q}:=h;show{_,(hb a A _ s H E p).un,?_};unfold aP at e
 split at e
 .show{Ye n u,H,G,G,e,by rw[<-j];show .start i v,λC D t y g=>q C D t y g}
 .cases e
end
def vI(P:P7)(w:World)(K:W7)(mg:AD)(base:Heap)(k n:Nat)(x:Str)(ps:AJ)(fr:AN->Option Bool)(xn:Str):Prop:=
 ∃a fd,FnOk P w K mg base (cz P w) k a fd ps (kg K mg n fr xn)/\Binds K fd ps []/\W.keepIn K (.ref a)=true/\mg x=some (.ref a)
def fj(ga:AV)(fr:AN->Option Bool)(g:AR):AR:=λρ=>(ga ρ).bind λl=>(fr l).bind λb=>if b=true then g ρ else none
section
variable {j k n:Nat}{x y nm:Str}{ps:AJ}{fr:AN->Option Bool}{p:Pos}{e:Expr}{ga:AV}{g:AR}
theorem TM(c:vI X.prog X.w X.K X.mg X.base j n x ps fr xn)(hp:Xp X.K X.mg xn y true)(V:Room k X.A)(hg:Gl X x)(m:Gl X y)(J:ZA X (e::es) ga)(hl:∀ρ l,ga ρ=some l->l.length=n)(hs:∀ea f,(∀C,X.mg xn=some (.ref C)->Xo f ea (.ref C))->ZB (Cx.mk X ea f) (b₀::suite) g)(r:∀e s,¬X.xe e s:=by show λ_ _ h=>h)(T:X.ex=[]:=by rfl)(A:X.stack=X.env::X.outer:=by rfl)(u:X.env.frame=some X.env.locals:=by rfl)(R:j<=k:=by first|show qv _|ac_nf)(i:ba x:=by decide)(o:(y==("__debug__":Str))=false:=by decide)(he:starEach (e::es) X.env=(false,eval e X.env)::starEach es X.env:=by rfl)(w:(backTo cpos (starEach es X.env)).any (·.1)=false:=by rfl)(z:swapsWith (.Call (.Name x p) (e::es) [] cpos) none pos1.line X.env=pure false:=by rfl):
 ZS X (.Try [.Expr (.Call (.Name x p) (e::es) [] cpos) pos1] [.ExceptHandler (some (.Name y np)) none (b₀::suite) hpos] [] [] pos) (fj ga fr g):=by
 let{a,fd,F,K,Z,M}:=c;let{C,B,L,mB,N,_,hB,v}:=hp;show{PS.imp (CU (ts:=lL X.K g) r T A u (F.mono R) V hg M Z K J.un hB N mB m v (λea f U=>(hs ea f λO q=>by symm).un) i o he w z) λD σ H ⟨ρ,t,Q,G0,G,e,s,h⟩=>?_};let{l,Y,e}:=qa e;let{b,h2,e}:=qa e
 cases b with
 | false=>symm
 | true=>
   show tAof.at Y s λvs H1 G1 g1 I E=>{by rw[I.length];symm,l,G1,E.seen,I,h2,λO H' S d g'=>?_}
   rw[L]at d;cases d;show{rfl,ρ,t,Q,G0,S,e,E.grow g',h}
theorem SR.drop{K:W7}{H0 G0 H G:Hp}{σ:L2.St}{ρ:Ro}(s:SR K H0 G0 σ H G ρ)(i:Nat):SR K H0 G0 (σ.set i none) H G (ρ.set i none):=by
 let get:∀(m:Nat) (o:B),(ρ.set i none)[m]?=some (some o)->m≠i/\ρ[m]?=some (some o):=λm o e=>by
  symm
 let gs:∀m,m≠i->(σ.set i none)[m]?=σ[m]?:=λm z=>Qp (Ne.symm z);show{s.gr,by rw[List.length_set,List.length_set];show s.len,λm d e=>?_,λm l e=>?_,λm m' l l' a b e e' ne q q'=>?_,λm t ks vs e=>?_,λm m' t ks vs t' ks' vs' a b e e' ne q q'=>?_}
 .let{z,e}:=get _ _ e
  rw[gs m z];show s.sh m d e
 .let{z,e}:=get _ _ e
  rw[gs m z];show s.ow m l e
 .let{z,e}:=get _ _ e
  let{z',e'}:=get _ _ e';rw[gs m z]at q;rw[gs m' z']at q';show s.ap m m' l l' a b e e' ne q q'
 .let{z,e}:=get _ _ e
  rw[gs m z];show s.od m t ks vs e
 .let{z,e}:=get _ _ e
  let{z',e'}:=get _ _ e';rw[gs m z]at q;rw[gs m' z']at q';show s.apd m m' t ks vs t' ks' vs' a b e e' ne q q'
theorem TN(i:Nat){gs:Addr->AR}(c:vI X.prog X.w X.K X.mg X.base j n x ps fr xn)(hp:Xp X.K X.mg xn y true)(hr:Room k X.A)(hg:Gl X x)(Q:Gl X y)(ha:ZA X (e::es) ga)(hl:∀ρ l,ga ρ=some l->l.length=n)(hN:X.N.Nodup)(hs:∀ea w,(∀C,X.mg xn=some (.ref C)->Xo w ea (.ref C))->ZB (Cx.mk X ea w) (b₀::suite) (gs ea))(u:∀ea ρ out,g ρ=some out->∃d,gs ea (ρ.set i (↑(.adr ea)))=some (.nx d)/\out=.nx (d.set i none))(Y:∀e s,¬X.xe e s:=by show λ_ _ h=>h)(hx:X.ex=[]:=by rfl)(T:X.stack=X.env::X.outer:=by rfl)(A:X.env.frame=some X.env.locals:=by rfl)(hj:j<=k:=by first|show qv _|ac_nf)(hi:X.N[i]?=some nm:=by rfl)(E:X.env.kindOf nm=some .local:=by rfl)(K:ba x:=by decide)(z:(y==("__debug__":Str))=false:=by decide)(he:starEach (e::es) X.env=(false,eval e X.env)::starEach es X.env:=by rfl)(hpl:(backTo cpos (starEach es X.env)).any (·.1)=false:=by rfl)(N:swapsWith (.Call (.Name x p) (e::es) [] cpos) none pos1.line X.env=pure false:=by rfl):
 ZS X (.Try [.Expr (.Call (.Name x p) (e::es) [] cpos) pos1] [.ExceptHandler (some (.Name y np)) (some nm) (b₀::suite) hpos] [] [] pos) (fj ga fr g):=by
 let{a,fd,F,hb,hk,hm}:=c;let{C,B,mC,mB,hC,_,hB,V}:=hp;show{PS.imp (CV (ts:=λD I H=>∃ρ m o r G,g ρ=some (.nx m)/\SR X.K o r I H G ρ/\∀f J O d,d.set i none=m->SR X.K o r f J O d->D.nx f J) Y hx T A (F.mono hj) hr hg hm hk hb ha.un hB hC mB Q V hN (λea w hob=>?_) hi E K z he hpl N) λD I H ⟨ρ,out,o,r,G,e,s,h⟩=>?_}
 .show PSs.imp (hs ea w λC' q=>by symm).un λD I H ⟨f,e1,e2,ρ,m,o,r,G,e,s,h⟩=>?_
  let{d,e3,L}:=u ea ρ _ e;cases L;subst e1;show{_,_,o,r,G,e3,s.set_sh i (by rw[Rp]),λv U R S=>h v U R d rfl S}
 .let{l,h1,e}:=qa e
  let{b,h2,e}:=qa e
  cases b with
  | false=>symm
  | true=>
    show tAof.at h1 s λvs H1 G1 g1 Z s1=>{by rw[Z.length];symm,l,G1,s1.seen,Z,h2,λC' J O t g'=>?_}
    rw[mC]at t;cases t;let{d,_,rfl}:=u 0 ρ _ e;show{rfl,ρ,_,o,r,O,e,s1.grow g',λv U R ρ4 L S=>h _ U R ?_};rw[<-L];show S.drop i
end
def fJ(i:Nat)(ea:Addr)(z:Bool):AU:=λρ=>(af i ρ).bind λd=>match d with
 | .adr b=>if b=ea then some (.bl z)else none
 | _=>none
section
variable {x y:Str}{p p2:Pos}{z:Bool}
theorem TQ{C B:Addr}(d:Xo qs ea (.ref C))(w:XC X.K C)(S:XQ X.K C)(y:XC X.K B)(j:(bg X.K C).contains (.ref B)=z):b9 (Cx.mk X ea qs) (.builtin "isinstance") (λxs H Q=>xs=[.ref ea,.ref B]/\Q (.bl z) H):=by
 intro p s σ H xs us Q I r h;let{rfl,q}:=h;let{u,u',rfl,E,M}:=jE r;cases (E);cases (M);let{ob,k,c,vs,rfl,e,_}:=d;let i:X.K.In _:=I.kIn;let{bm,N,nm,q0,bs,o,Z,L,ab,D,dd,k0,k1,k2,k3,k5,mN,G,_,_,T,F}:=fg i w;let{O,Y,U,q',v,b,x,m,K,l,A,l0,l1,l2,l3,l5,V,J,_,_,T',t}:=fg i y;let n:=Mx i S;rw[F]at j n;show call_isinstance (S:=λ_ R g=>g=s/\∀a,R (.ok (.ret _)) {g with toks:=a}) (λ_ _ _ _ g f=>?_) {rfl,λa=>{.bl z,H,I.tok a,rfl,q}};let{rfl,f}:=f;show isinstance_outer (TK G T n J ((I.pin _ (List.mem_append.mpr (.inl (List.mem_append.mpr (.inl (.head _)))))).1) e j λa=>f a) ⋯
theorem i9(i:Nat)(E:Xp X.K X.mg xn y z)(f:∀C,X.mg xn=some (.ref C)->Xo qs ea (.ref C))(J:X.mg "isinstance"=none)(w:Gl X "isinstance":=by rfl)(j:Gl X y:=by rfl)(o:X.N[i]?=some x:=by rfl)(k:eN X.env.scope x:=by trivial)(hb:bootBuiltins "isinstance"=some (.builtin "isinstance"):=by decide +kernel)(A:ba x:=by decide)(l:fN x:=by decide)(c:(y==("__debug__":Str))=false:=by decide)(hs:starEach [.Name x p1,.Name y p2] X.env=(false,eval (.Name x p1) X.env)::starEach [.Name y p2] X.env:=by rfl)(m:starEach [.Name y p2] X.env=(false,eval (.Name y p2) X.env)::starEach [] X.env:=by rfl)(g:(backTo pos (starEach [.Name y p2] X.env)).any (·.1)=false:=by rfl):
 ZE (Cx.mk X ea qs) (.Call (.Name "isinstance" p) [.Name x p1,.Name y p2] [] pos) (fJ i ea z):=by
 let{C,B,I,mB,q,t,u,D}:=E;show{PE.imp (jF (TQ (f C I) q t u D) w J hb (cx (fC o k A l) (cx (gW j mB (v:=.ref B) rfl c) dC m) hs) (by decide) (by decide) hs g) λN H Q ⟨L,d,K,M,G,e,s,h⟩=>?_};let{r,F,a}:=qa (e);clear e
 cases r with
 | adr b=>
   dsimp only at a
   split at a
   .rename_i hb
    subst hb;cases a;let{v,k,n}:=s.sh i _ (z_ F);subst n;show{_,k,rfl,h _ H G (.refl s.seen) (by rw[Rp])}
   .cases a
 | _=>cases a
theorem TR{C:Addr}(b:Xo qs ea (.ref C))(j:XC X.K C):b9 (Cx.mk X ea qs) (.builtin "isinstance") (λxs H Q=>xs=[.ref ea,.ty "ValueError"]/\Q (.bl true) H):=by
 intro g s K H xs F Q I r h;let{rfl,q}:=h;let{u,v,rfl,o,m}:=jE r;cases (o);cases (m);let{G,k,c,y,rfl,d,_}:=b;let{S,N,A,z,L,f,B,l,J,n,D,p,O,x,M,w,t,i,_,_,T,E}:=fg (show X.K.In _ from I.kIn) j;show call_isinstance (S:=λ_ R a=>a=s/\R (.ok (.ret _)) a) (λ_ _ _ _ a e=>?_) {rfl,{.bl _,H,I,rfl,q}};let{rfl,e}:=e;show isinstance_outer (TL i T ((I.pin _ (List.mem_append.mpr (.inl (List.mem_append.mpr (.inl (.head _)))))).1) d e) ⋯
theorem TU(i:Nat){u:Bool}(F:Xp X.K X.mg xn y u)(g:∀C,X.mg xn=some (.ref C)->Xo qs ea (.ref C))(t:X.mg "isinstance"=none)(j:X.mg "ValueError"=none)(w:Gl X "isinstance":=by rfl)(k:Gl X "ValueError":=by rfl)(D:X.N[i]?=some x:=by rfl)(f:eN X.env.scope x:=by trivial)(hb:bootBuiltins "isinstance"=some (.builtin "isinstance"):=by decide +kernel)(m:bootBuiltins "ValueError"=some (.type "ValueError"):=by decide +kernel)(z:ba x:=by decide)(l:fN x:=by decide)(hs:starEach [.Name x p1,.Name "ValueError" p2] X.env=(false,eval (.Name x p1) X.env)::starEach [.Name "ValueError" p2] X.env:=by rfl)(n:starEach [.Name "ValueError" p2] X.env=(false,eval (.Name "ValueError" p2) X.env)::starEach [] X.env:=by rfl)(c:(backTo pos (starEach [.Name "ValueError" p2] X.env)).any (·.1)=false:=by rfl):
 ZE (Cx.mk X ea qs) (.Call (.Name "isinstance" p) [.Name x p1,.Name "ValueError" p2] [] pos) (fJ i ea true):=by
 let{C,B,E,mB,q,_}:=F;show{PE.imp (jF (TR (g C E) q) w t hb (cx (fC D f z l) (cx (Ke k j m (v:=.ty _) rfl (by decide) (by decide)) dC n) hs) (by decide) (by decide) hs c) λI H Q ⟨K,d,J,L,G,e,s,h⟩=>?_};let{r,A,a}:=qa (e);clear e
 cases r with
 | adr b=>
   dsimp only at a
   split at a
   .rename_i hb
    subst hb;cases a;let{v,f,o}:=s.sh i _ (z_ A);subst o;show{_,f,rfl,h _ H G (.refl s.seen) (by rw[Rp])}
   .cases a
 | _=>cases a
end
def Mz:entryFor table "proto.unchain"=some Builtin.«proto.unchain»:=entryFor_of_tree (by kernel_rfl)
section
variable {w:World}{A:Around}{E:AA}{ob:Obj}{k:AB}{C:Value}
def Cq(ea:Addr)(ob:Obj)(k:AB):Prop:=∃c vs,ob.data=.fields vs/\vs[2]?=some c/\Cn c ea k
def ki(h:Heap)(l:AB):Prop:=∀p∈l,h.get? p.1=some p.2
theorem MD{f:Type}{n:Addr}{o:Obj}{vs:Array Value}{Q:f->Shared->Prop}(u:A.handled=some (.ref ea))(q:Cq ea ob k)(i:ki s.heap ((ea,ob)::k))(g:s.heap.get? n=some o)(e:o.data=.fields vs)(d:2<vs.size)(b:∀p∈(ea,ob)::k,p.1≠n)(h:E (.ref n) {s with heap:=s.heap.update n (Obj.mapFields (·.setIfInBounds 2 (.ref ea)))}):wpAny (mZ prog w) A (raiseNew (.ref n):Sem f) Q E s:=by
 let l:=b _ (.head _);let{c,B,m,r,y}:=q;show wa (wpAny_handled ?_);rw[u];change wpAny _ _ (if _ then _ else _) _ _ _;rw[if_pos ⋯]
 let a:wpAny (mZ prog w) A (do updateField n 2 (.ref ea);throw (.ref n)) Q E s:=by
  show wa (wa (wpAny_load g ?_));rw[e];change wpAny _ _ (if _ then _ else _) _ _ _;rw[if_pos d];show wpAny_update g (wpAny_throw h)
 show wa (we (wpAny_runValue (wv Mz (wa (wpAny_field (i _ (.head _)) m r ?_)))));let{rfl,_}+{j,C,D,rfl,rfl,v,x,t}:=y
 .show wa (wc (wc ?_))
  show a
 .rw[if_neg (show ¬((Value.ref j==.none)=true) from qi),if_neg (λz=>b _ (.tail _ (.head _)) (by simpa using z)),if_neg (λz=>v (by simpa using z))]
  show wa (wc (wc {Code.quiet_builtin _ (by decide +kernel),wv Mz (wa (wpAny_field (i _ (.tail _ (.head _))) x t (wa (wc (wc ?_)))))}));show a
theorem TV{it l:Addr}{i:Nat}{a:Array Value}{Q:Option Value->Shared->Prop}(r:A.handled=some (.ref ea))(q:Cq ea ob k)(n:ki s.heap ((ea,ob)::k))(j:∀p∈(ea,ob)::k,p.1≠it)(c:s.heap.IsListIter it l i)(x:s.heap.IsList l a)(y:a[i]?=none)(t:∀h',Heap.ExtBut it s.heap h'->Q none {s with heap:=h' }):wpAny (mZ prog w) A (pyNext (.ref it)) Q E s:=by
 let{o,m,C,f}:=id c;let{z,g,_,B,h}:=x;unfold pyNext;show wa (je (wpAny_callSpecial?_slot c.typeIs slot_listiter_next (wf slot_listiter_next c.typeIs entry_listiter_next ?_ (args_listiter_next _))));change wpAny _ _ (field (.ref it) 0>>=_) _ _ s;show wa (wpAny_field m f (x:=.ref l) rfl ?_);show wa (wpAny_field m f (x:=.int i 0) rfl ?_);show wa (wpAny_seqItems g h ?_);simp only[Int.toNat_natCast,y];show wa (wpAny_rule (wa (wpAny_setField m f nofun ?_)));show wa ?_;show wa (m:=firstArgMember _ _) (wpAny_of_eq (a:=Value.none) (by first|rfl|(rfl)) ?_);show wg ?_ (by size_fits);show MD (r) q (λp d=>qe _ (qe _ ((Heap.get?_update_other _ _ (Ne.symm (j p d))).trans (n p d)))) (qp _ rfl) rfl ⋯ (λp d=>qm (by rw[wt,Heap.size_update];show qx (ql (n p d)))) ?_;show wa (wpAny_isInstance (b:=true) {_,wu _ (qp _ rfl) rfl,rfl} isSubtype_stop ?_);show wc (t _ λb u v e=>?_);let:=ql e;rw[Heap.get?_update_other _ _ (Nat.ne_of_gt (by rw[wt,Heap.size_update];symm))];show qe _ (qe _ ((Heap.get?_update_other _ _ (Ne.symm v)).trans e))
theorem TX(y:A.handled=some (.ref ea))(x:Cq ea ob k)(I l:Addr)(n:l≠I)(g:∀p∈(ea,ob)::k,p.1≠I)(a:Array Value):
 Walks prog w A I (I::l::((ea,ob)::k).map (·.1)) [I] a.size (λi v=>a[i]?=some v) (λi h=>(h.IsListIter I l i/\h.IsList l a)/\ki h ((ea,ob)::k)) where
 sub:=λb m=>by symm
 frame:=λ_ _ _ st t=>{{st.1.1.at λo e=>t I nofun o e,st.1.2.at λo e=>t l nofun o e},λp d=>t p.1 (.tail _ (.tail _ (List.mem_map.mpr {(p),d,rfl}))) _ (st.2 p d)}
 item:=λi s Q E u st f=>wpAny_pyNext_list_item st.1.1 st.1.2 (x:=a[i]) (by simp[u]) λr j c=>f _ r _ (by simp[u]) {{j,st.1.2.extBut c.extBut n},λp d=>c.extBut p.1 _ (g p d) (st.2 p d)} λb o m e=>c.extBut b o (λh=>m (by simp[h])) e
 done:=λs Q E st f=>TV y x st.2 g st.1.1 st.1.2 nofun λr q=>f r _ λb o m e=>q b o (λh=>m (by simp[h])) e
 self:=λ_ _ _ _ st f=>wpAny_pyIter_listiter st.1.1 f
def TY(d:Xo qs ea C):b9 (Cx.mk X ea qs) (.builtin "any") (eA λbs=>.bl (bs.any id)):=by
 intro j s w H F K Q I r h;let{a,bs,rfl,y,q}:=h;let{u,rfl,m}:=dh r;cases m;let{n,z,B,G}:=I.list (.inl y);cases uB z;let{J,E,c,v,rfl,t,x}:=d;let l:=λp b=>(I.pin p (List.mem_append.mpr (.inl (List.mem_append.mpr (.inl b))))).1;let e:=B.isList
 let f:a≠(~~~s):=by
  let{o,g,_}:=e;show qm (ql g)
 show call_any_walk (wpAny_pyIter_list e ({_,_,_,_,_,_,λi=>bs.getD i _,rfl,TX rfl {(c),v,x} _ a f (λp b=>qm (ql (l p b))) _,{{{_,qp _ rfl,rfl,rfl},?_},λp b=>qe _ (l p b)},Ba _ _ _ bs,λD A k=>{.bl _,H,show Inv _ _ w H {s with heap:=D,toks:=A} from Bb I k,?_,q}}))
 .let{o,g,r}:=e
  show{o,qe _ g,r}
 .change _=_
  rw[qk,qf,Ly]
end
section
variable {y:Str}{z:Bool}
def MH(c:Xp X.K X.mg xn y z)(a:∀C,X.mg xn=some (.ref C)->Xo qs ea (.ref C)):b9 (Cx.mk X ea qs) (.builtin "any") (eA λbs=>.bl (bs.any id)):=by
 let{C,_,b,_}:=c;show TY (a C b)
end
def Xk(K:W7)(x y:Str)(z:Bool):Prop:=∃C D,W.nsIn K mainGlobals x=some (some (.ref C))/\W.nsIn K mainGlobals y=some (some (.ref D))/\XC K C/\XQ K C/\XC K D/\(bg K C).contains (.ref D)=z
def Xk.on{K:W7}{h:Heap}{mg:AD}{x y:Str}{z:Bool}(F:Xk K x y z)(X:K.In h)(G:h.Ns mainGlobals mg):Xp K mg x y z:=by
 let{C,D,a,b,r}:=F;show{C,D,W.mg_of X G a,W.mg_of X G b,r}
def xk_mk{K:W7}{x y:Str}{z:Bool}{C D:Addr}(a:W.nsIn K mainGlobals x=some (some (.ref C)))(b:W.nsIn K mainGlobals y=some (some (.ref D)))(c:W.excIn K C vM "ValueError.__new__"=true)(d:vH K vM (bg K C)=true)(e:W.excIn K D vM "ValueError.__new__"=true)(f:(bg K C).contains (.ref D)=z):Xk K x y z:={(C),D,a,b,c,d,e,f}
section
variable {M:Model}{A:Around}{E:AA}{env0:Env}{T:Addr}{C c fl:Value}{Q:Unit->Shared->Prop}
theorem TZ{Q:AA}(d:A.frames=some (env0::outer))(f:s.heap.FunFrames base (env0::outer))(b:env0.frame=some L)(g:env.frame=some L)(h:∀h',Heap.SlotsOnly ((env0::outer).filterMap (·.frame)) s.heap h'->Q (.ref L) {s with heap:=h' }):wpAny M A (frameOf env) Q E s:=by
 show wa (wpAny_frameEnvs d ?_)
 let c:((env0::outer).dropWhile λx=>x.frame != env.frame)=env0::outer:=by ext
 rw[c];show wa (wa (wpAny_readyFrames_fun f λe a=>wc ?_));rw[b];show wc (h _ a)
theorem T4{v:Obj}{vs:Array Value}{l:Value}{B:Bool}(u:A.frames=some (env0::outer))(C:s.heap.FunFrames base (env0::outer))(y:env0.frame=some L)(R:env.frame=some L)(F:s.heap.get? ea=some v)(D:v.data=.fields vs)(N:vs[2]?=some c)(H:∀h' x,bW c h' ea x v.cls (rawInt L)->s.heap.get? x=none->XStep s.heap h' ea x (br (env0::outer))->Q () {s with heap:=h' }):
 wpAny M A (do let a <-frameOf env;let pl <-entryPlaceOf L B;let b <-EntryCells.newEntry l a .none (rawInt L) .none pl;setField (.ref ea) 1 b) Q E s:=by
 let n:=Nat.lt_of_succ_lt (Array.getElem?_eq_some_iff.mp N).1
 let k:ea∉br _:=λK=>by
  let{_,o,S,T}:=C.mem K;symm
 show wa (TZ u C y R λg r=>?_);show wa (wpAny_entryPlaceOf λpl t=>?_);show wa (wg ?_ (t.sizeOk5 _ _ _ _ _));let f:=(r.2.1 ea k).trans F;generalize j:({cls:=.type _,dict:=none,data:=.fields _}:Obj)=w;let p:=Nat.ne_of_gt (ql f);let h:=qe w f;show wpAny_setField h D n (H _ g.objs.size ?_ (Heap.get?_none_of_le (by rw[r.1];symm)) {λb o e O U G=>?_,λb o e m=>?_})
 .let d:=jd D (·.setIfInBounds 1 (.ref g.objs.size))
  let I:_=some w:=qp g (by rw[<-j];rfl);show{_,_,w,_,wu _ h (Obj.isFreed_of_fields d),{Obj.cls_mapFields _ _,by symm},d,by simp[n],p,(Heap.get?_update_other _ _ (.symm p)).trans I,by rw[<-j],by symm}
 .rw[Heap.get?_update_other _ _ (.symm O)]
  show qe _ ((r.2.1 b G).trans e)
 .let{J,q}:=r.2.2 b o e
  show{J,?_};rw[Heap.get?_update_other _ _ (λz=>k ⋯)];show qe _ q
theorem C3(hfr:A.frames=some (env0::outer))(hf0:env0.frame=some L)(hf:env.frame=some L)(ff:s.heap.FunFrames base (env0::outer))(x:bW c s.heap ea T C fl)(hQ:∀h' T',bW c h' ea T' C (rawInt L)->(T'=T\/s.heap.get? T'=none)->XStep s.heap h' ea T (br (env0::outer))->Q () {s with heap:=h' }):wpAny M A (noteFrame (.ref ea) env) Q E s:=by
 let{oe,vs,oT,ts,he,{rfl,h2},hd,h1,hne,hT,hdT,h3}:=x;unfold noteFrame;simp only[hf];show wa (wpAny_field he hd h1 ?_);rw[if_pos (show(Value.ref T != Value.none)=true from by simp)];show wa (wpAny_field hT hdT h3 ?_);by_cases hfl:(fl==rawInt L)=true
 .rw[if_pos hfl]
  let hfe:fl=rawInt L:=eq_of_beq hfl;subst hfe;show wc (hQ s.heap T {oe,vs,oT,ts,he,{(rfl),h2},hd,h1,hne,hT,hdT,h3} (.inl rfl) {λb o e _ _ _=>e,λb o e _=>{(o.slots),e}})
 .rw[if_neg hfl]
  show wa (wpAny_setField hT hdT (Array.getElem?_eq_some_iff.mp h3).1 ?_);let other:∀b,b≠T->(s.heap.update T (Obj.mapFields (·.setIfInBounds 3 Value.none))).get? b=s.heap.get? b:=λb hb=>Heap.get?_update_other _ _ (Ne.symm hb)
  let nT:∀b∈br (env0::outer),b≠T:=λb hb z=>by
   let{_,o,ho,hn}:=ff.mem hb;symm
  let ff':(s.heap.update T (Obj.mapFields (·.setIfInBounds 3 Value.none))).FunFrames base (env0::outer):=ff.of_keeps λb o hb hn=>{o,(other b λz=>by symm).trans hb,rfl}
  show T4 hfr ff' hf0 hf ((other ea (Ne.symm hne)).trans he) hd h2 λh' T' x' n st=>?_
  let nT':T'=T\/s.heap.get? T'=none:=by
   symm
  show hQ h' T' x' nT' {λb o e n1 n2 n3=>st.keep b o ((other b n2).trans e) n1 (λz=>?_) n3,λb o e m=>st.slot b o ((other b (nT b m)).trans e) m};symm
theorem C4{l:List Env}{f:Option Addr}(x:bW c s.heap ea T C fl)(w:∀h',bW c h' ea T C (f.elim Value.none λf=>rawInt f)->XStep s.heap h' ea T (br l)->(∀b o,s.heap.get? b=some o->b≠T->h'.get? b=some o)->Q () {s with heap:=h' })(u:s.heap.FunFrames base l):wpAny M A (setFlight (.ref ea) f) Q E s:=by
 let{y,r,G,I,k,t,j,p,h,i,d,v}:=x;let g:=(Array.getElem?_eq_some_iff.mp v).1;show wa (wpAny_field k j p ?_);let a:∀b,_->(s.heap.update T (.mapFields (·.setIfInBounds 3 (f.elim .none λf=>rawInt f)))).get? b=_:=λb B=>Heap.get?_update_other _ _ (.symm B);show wpAny_setField i d g (w _ ?_ {λb o e _ q _=>(a b q).trans e,λb o e m=>{o.slots,(a b λz=>?_).trans e}} λb o e n=>(a b n).trans e)
 .show{y,r,_,_,(a ea (.symm h)).trans k,t,j,p,h,wu _ i (Obj.isFreed_of_fields (jd d _)),jd d _,by simp[g]}
 .let{_,H,F,D}:=u.mem m
  symm
theorem MJ(g:A.frames=some (env::outer))(k:env.frame=some L)(h:s.heap.FunFrames base (env::outer))(x:bW c s.heap ea T C fl)(w:∀h' f,bW c h' ea f C .none->(f=T\/s.heap.get? f=none)->XStep s.heap h' ea T (br (env::outer))->Q () {s with heap:=h' }):wpAny M A (leaving env (.ref ea)) Q E s:=by
 show wa (C3 g k k h x λF t v u a=>kf v (λp r d _=>w p t r u {λb o e i l j=>?_,λb o e m=>?_}) (vE h λb y o e=>a.slot b o e y))
 .show d.keep b o (a.keep b o e i l j) i (λz=>?_) j
  symm
 .let{D,q}:=a.slot b o e m
  let{n,B}:=d.slot b _ q m;symm
end
def i_(X:Cx)(pins:AB)(σ:L2.St)(E:XK)(e:Value)(s:Shared):Prop:=∃ea T H C fl,e=.ref ea/\Inv X pins σ H s/\bW .none s.heap ea T C fl/\Ofa X pins H ea/\Ofa X pins H T/\E C none H
section
variable {P:P7}{w:World}{N:AJ}{f:Addr}{A:Around}{s0:Shared}{H0:Hp}{E:XK}
def T6{pins:AB}{σ:L2.St}{e:Value}{s:Shared}(x:i_ (ay (CXN P w) P w K mg base N qual scope f cd A outer s0 H0 E) pins σ E e s):(ay (CXN P w) P w K mg base N qual scope f cd A outer s0 H0 E).xe e s:=by
 let{ea,T,H',C,fl,rfl,J,x,oe,oT,hE}:=x;change wpAny _ _ (leaving _ _) _ _ _;show MJ (base:=base) J.ok.frames rfl J.stack x λh' T' x' hT' st=>?_
 let oT':Ofa (ay (CXN P w) P w K mg base N qual scope f cd A outer s0 H0 E) pins H' T':=by
  let rfl+z:=hT'
  .show oT
  .show Ofa.none J rfl z
 let J':=eM J st oe oT;show{(ea),T',H',C,rfl,J'.os,J'.bare,J'.base,J'.hok,x',oe.s0,oT'.s0,oe.hp,oT'.hp,hE}
def kj:∀(pins:AB) (σ:L2.St) (e:Value) (s:Shared),i_ (ay (CXN P w) P w K mg base N qual scope f cd A outer s0 H0 E) pins σ E e s->(ay (CXN P w) P w K mg base N qual scope f cd A outer s0 H0 E).xe e s:=λ_ _ _ _ h=>T6 h
end
end M
namespace L2
variable {h':Heap}{X:Cx}{pins:AB}{pos apos:Pos}{ys:AM}{prog:P7}{K:W7}{dx:Addr}{es ifs:AK}{elt iter:Expr}{scope:Scope}{ti:TT}{src:List AL}
open PySem PySem.Spec PyProof.Rows M
def kl(X:Cx)(scope:Scope)(N:AJ)(cl:List (Str×Addr))(C:Addr)(fp:List Addr)(s:Shared)(H:Hp)(pn:AB)(E:XK)(e:Value)(s':Shared):Prop:=
 ∃σ1 s1 H1 ea T H2 C',e=.ref ea/\Inv (bu X scope N cl C fp s H) pn σ1 H1 s1/\s1.heap.get? ea=none/\s1.heap.get? T=none/\Inv (bu X scope N cl C fp s H) pn σ1 H2 s'/\bW .none s'.heap ea T C' .none/\H2 ea=none/\H2 T=none/\E C' none H2
abbrev gi(X:Cx)(scope:Scope)(N:AJ)(cl:List (Str×Addr))(C:Addr)(fp:List Addr)(s:Shared)(H:Hp)(pn:AB)(E:XK):Cx:={ bu X scope N cl C fp s H with pn:=pn,xe:=λe s'=>kl X scope N cl C fp s H pn E e s' }
section
variable {N:AJ}{cl:List (Str×Addr)}{C:Addr}{fp:List Addr}{s0 s:Shared}{H0 H:Hp}{pn:AB}{E:XK}{σ:St}{tg:Expr}{wi:TI}{g:TG}{te:TE}
def T7(I:Inv (bu X scope N cl C fp s0 H0) pn σ H s):Inv (gi X scope N cl C fp s0 H0 pn E) [] σ H s:=
 {{(I.ok.mod),I.ok.kind,I.ok.glob,I.ok.blt,I.ok.above,I.ok.inj,I.ok.has,I.ok.cab,I.ok.hd,I.ok.frames,I.ok.stk,I.ok.exf,I.ok.bs,I.ok.bsz,I.ok.noex,I.ok.exfs,I.ok.funs,I.ok.frf},I.os,I.bare,I.base,I.loc,I.cell,I.free,I.freeC,λp q=>I.pin p (by simpa using q),I.hok,I.len}
def C5(I:Inv (gi X scope N cl C fp s0 H0 pn E) [] σ H s):Inv (bu X scope N cl C fp s0 H0) pn σ H s:=
 {{(I.ok.mod),I.ok.kind,I.ok.glob,I.ok.blt,I.ok.above,I.ok.inj,I.ok.has,I.ok.cab,I.ok.hd,I.ok.frames,I.ok.stk,I.ok.exf,I.ok.bs,I.ok.bsz,I.ok.noex,I.ok.exfs,I.ok.funs,I.ok.frf},I.os,I.bare,I.base,I.loc,I.cell,I.free,I.freeC,λp q=>I.pin p (by simpa using q),I.hok,I.len}
theorem T8{E1:XK}{pins:AB}{σ:St}{H:Hp}{s:Shared}{fp:List Addr}{use:Option (Value->Sem Unit)}{Q:AA}{acc:Value}(hfly:∀pins σ e s,i_ X pins σ E1 e s->X.xe e s)(hx:X.ex=[])(hst:X.stack=X.env::X.outer)(hfr:X.env.frame=some X.env.locals)(I:Inv X pins σ H s)(cl:List (Str×Addr))(C:Addr)(s3 s':Shared)(H':Hp)(e:Value)(pn:AB)(hCl:C≠X.env.locals)(hCs:X.s₀.heap.objs.size<=C)(hCc:∀x c,X.env.cells.lookup x=some c->c≠C)(hCp:∀p∈X.pn++pins,p.1≠C)(toX:∀σ1 H1 s1,Inv (bu X scope N cl C fp s3 H') pn σ1 H1 s1->Inv X pins σ H1 s1)(z:kl X scope N cl C fp s3 H' pn E1 e s'):
 notedBy (mZ X.prog X.w) X.A (compEnvC scope cl C X.env) (λe s'=>compPost (mZ X.prog X.w) X.A X.xe use Q acc C (.error e) s') e s':=by
 let{σ1,sa,Ha,ea,T',Hb,C',rfl,Ja,n1,n2,Jb,x,n3,n4,hE}:=z;let Ia:=toX _ _ _ Ja;let Ib:=toX _ _ _ Jb;let oe:Ofa X pins Hb ea:=Ofa.of Ia hx n1 n3;let oT:Ofa X pins Hb T':=Ofa.of Ia hx n2 n4;let{m,hm,_}:=Jb.loc;let hm':s'.heap.Ns C m:=hm;let{oC,es,ep,hoC,hdC,rC}:=id hm'
 let nf:∀b ob vs,s'.heap.get? b=some ob->ob.data=.fields vs->b≠C:=λb ob vs e d z=>by
  symm
 let neC:ea≠C/\T'≠C:=by
  let{oe,vs,oT,ts,h1,_,h3,_,_,h6,h7,_}:=x;symm
 let ff:=Ib.stack;rw[hst]at ff;show C3 (env0:=X.env) (outer:=X.outer) (L:=X.env.locals) (by rw[Ib.ok.frames,hst]) hfr hfr ff x λh1 T1 x1 z1 st1=>?_;rw[<-hst]at st1;let I1:=eM Ib st1 oe oT;let oT1:=CS (h':=h1) Ib hx oT z1
 let neT1:T1≠C:=by
  symm
 let hCf:C∉br X.stack:=λhb=>by
  let w+w:=qu (Ib.stkSub _ hb)
  .show hCl w
  .let{_,o,ho,_}:=I.ok.funs.mem w
   show absurd (Qi (ql ho) hCs) (Nat.lt_irrefl _)
 show{m,{oC,es,ep,st1.keep C oC hoC (Ne.symm neC.1) (Ne.symm neC.2) hCf,hdC,rC},λh' sb cenv hcv=>?_};let I3:=I1.turned (h':=h') (t':=s'.toks) (it:=C) (λb o hb e=>(sb.2 b hb).trans e) Jb.free hCl (.inr hCs) hCc hCp
 let x3:bW .none h' ea T1 C' (rawInt X.env.locals):=by
  let{oe,vs,oT,ts,h1,h2,h3,h4,h5,h6,h7,h8}:=x1;show{oe,vs,oT,ts,(sb.2 _ neC.1).trans h1,h2,h3,h4,h5,(sb.2 _ neT1).trans h6,h7,h8}
 unfold PySem.passOn;let{oe3,vs3,oT3,ts3,g1,g2,g3,g4,g5,g6,g7,g8}:=id x3;show wa (wpAny_field g1 g3 g4 ?_);rw[if_neg (show ¬((Value.ref T1==Value.none)=true) from qi)];show wa (C4 (base:=X.base) (l:=X.stack) x3 (λh4 x4 st4 _=>wpAny_throw (hfly pins σ _ _ ?_)) I3.stack);show{ea,T1,Hb,C',_,rfl,eM I3 st4 oe oT1,x4,oe,oT1,hE}
def CompE.err{E1:XK}(hfly:∀pins σ e s,i_ X pins σ E1 e s->X.xe e s)(hx:X.ex=[])(hst:X.stack=X.env::X.outer)(hfr:X.env.frame=some X.env.locals)(he:∀cl C fp s H pn,PE (gi X scope N cl C fp s H pn E1) elt te):CompE X scope N elt te:=
 ⟨λcl C fp s H pn=>kl X scope N cl C fp s H pn E1,λcl C fp s H pn s1 σ H1 Q I h=>ww (he cl C fp s H pn [] s1 σ H1 Q (T7 I) h) (λy s8 ⟨v,H8,I8,r8,q8⟩=>{v,H8,C5 I8,r8,q8}) λ_ _ z=>z,
  λpins σ H s fp use Q acc cl C s3 s' H' e pn I hCl hCs hCc hCp toX z=>T8 hfly hx hst hfr I cl C s3 s' H' e pn hCl hCs hCc hCp toX z⟩
def p_{scope:Scope}{N:AJ}{cl:List (Str×Addr)}{C:Addr}{fp:List Addr}{s:Shared}{H:Hp}{pn:AB}{E:XK}:eQ (CXN X.prog X.w) (gi X scope N cl C fp s H pn E) E:=by
 rintro i f h d e v I ⟨l,T,r,o,rfl,os,a,n,c,x,k,u,j,m,q⟩;let g:Inv _ [] f h d:=I.pins_of (λp t=>nomatch t);show{f,d,h,l,T,r,o,rfl,C5 g,k,u,C5 (g.call' os n c a (λb z=>nomatch z)),x,j,m,q}
end
end L2
namespace M
variable {prog:P7}{s:Shared}{K:W7}{X:Cx}{es ifs elts:AK}{fa fk fo:AU}{pos pos' px pos2 apos np hpos cpos pos1 p1 q1 q2 q3 cp:Pos}{pins qs:AB}{gl:AV}{st b₀:Stmt}{sts suite:List Stmt}{tg elt iter ie ke:Expr}{scope:Scope}{mg:AD}{base:Heap}{env:Env}{outer:List Env}{L ea:Addr}{qual xn:Str}{cd:Value}{sp:Sp}{os:OsState}
open PySem PySem.Spec PyProof.Rows L2
def C6(K:W7)(mg:AD)(E:XK)(xn:Str)(r:AT):TE:=λσ H _=>∃ρ H0 G0 G,r ρ=some true/\SR K H0 G0 σ H G ρ/\∀C H' G',mg xn=some (.ref C)->Gr H0 G0 H' G'->E (.ref C) none H'
def T9(K:W7)(mg:AD)(E:XK)(xn:Str)(r:AT):TA:=λσ H _=>∃ρ H0 G0 G,r ρ=some true/\SR K H0 G0 σ H G ρ/\∀C H' G',mg xn=some (.ref C)->Gr H0 G0 H' G'->E (.ref C) none H'
structure YE(X:Cx)(E:XK)(xn:Str)(e:Expr)(r:AT):Prop where
 un:PE X e (C6 X.K X.mg E xn r)
structure YA(X:Cx)(E:XK)(xn:Str)(es:AK)(r:AT):Prop where
 un:PA X es (T9 X.K X.mg E xn r)
structure YS(X:Cx)(E:XK)(xn:Str)(st:Stmt)(r:AT):Prop where
 un:PS X st (kh X.K X.mg E xn r)
def km(f:AU)(r:AT):AT:=λρ=>(f ρ).bind λ_=>r ρ
def cM(r1:AT)(fs:AR)(r2:AT):AT:=λρ=>(r1 ρ).bind λb=>if b=true then some true else (fs ρ).bind fun
 | .nx ρ'=>r2 ρ'
 | _=>some false
def fm(gt:AS)(fe:AU)(fr:AT)(ρ:Ro):AN->Option Bool
 | []=>some false
 | d::ds=>(gt d ρ).bind λρ1=>(fr ρ1).bind λb=>if b=true then some true else (fe ρ1).bind λ_=>fm gt fe fr ρ ds
def fq(gl:AV)(src:List AL)(gt:AS)(fe:AU)(fr:AT):AT:=λρ=>(gl ρ).bind λds=>fm gt fe fr (aj src ρ) ds
section
variable {E:XK}{e:Expr}{f fe:AU}{r r1 r2 fr:AT}{p:Pos}{rest:List Stmt}{fs:AR}{N:AJ}{src:List AL}{gt:AS}
def PS.nox'{t:TS}(h:PS X.nox st t):PS X st t:=λpins s σ H D I hw=>
 ww (h pins s σ H D (I.wish _) hw) (λ_ _ q=>q.unwish) λ_ _ z=>False.elim z
theorem eC{j k n:Nat}{x:Str}{ps:AJ}{fr:AN->Option Bool}{ga:AV}(px:eQ (CXN X.prog X.w) X E)(c:cP X.prog X.w X.K X.mg X.base j n x ps fr xn)(hr:Room k X.A)(hg:Gl X x)(ha:ZA X.nox (e::es) ga)(hl:∀ρ l,ga ρ=some l->l.length=n)(hj:j<=k:=by first|show qv _|ac_nf)(hdb:ba x:=by decide)(he:starEach (e::es) X.env=(false,eval e X.env)::starEach es X.env:=by rfl)(hpl:(backTo cpos (starEach es X.env)).any (·.1)=false:=by rfl):YE X E xn (.Call (.Name x p) (e::es) [] cpos) (Yv ga fr):=by
 let{a,fd,F,hb,hk,hm}:=c;show{PE.imp (nU (E:=E) (F.mono hj) hr hg hm hk hb .nil px (PA.nox' ha.un) hdb he hpl) λσ H Q ⟨ρ,H0,G0,G,e,s,h⟩=>?_};unfold Yv at e;let{l,h1,e}:=qa e;show tAof.at h1 s λvs H1 G1 g1 r1 s1=>?_;change kg X.K X.mg n fr xn (vs++[]) H1 _ E;rw[wz];show{by rw[r1.length];symm,l,G1,s1.seen,r1,e,λC H' G' hC g'=>h C H' G' hC (s1.gr.trans g')}
def MK(h:YE X E xn e r)(hs:Zj X e es:=by rfl):YA X E xn (e::es) r:=
 {PA.imp (cx h.un (t:=λ_ _ _=>False) (λ_ _ _ _ _ _ _ z=>z.elim) hs) λ_ _ _ z=>z}
def C7(h:ZE X.nox e f)(g:YA X E xn es r)(hs:Zj X e es:=by rfl):YA X E xn (e::es) (km f r):=
 ⟨PA.imp (cx (.nox h.un) g.un hs) λm H Q ⟨j,i,k,G,e,s,h⟩=>by
  let{d,b,e}:=qa e
  show tOf.at b s λv l a o n c=>{(j),i,k,a,e,c,h}⟩
def qb:YA X E xn es bT:={PA.imp (t:=λ_ _ _=>False) (λ_ _ _ _ _ _ _ z=>z.elim) λ_ _ _ ⟨_,_,_,_,e,_⟩=>by cases e}
def eD(r1:AT)(f:AU)(r2:AT):AT:=λρ=>(r1 ρ).bind λb=>if b=true then some true else (f ρ).bind λ_=>r2 ρ
def mn(i:YE X E xn e r1)(h:ZE X.nox e f)(p:YA X E xn es r2)(hs:Zj X e es:=by rfl):YA X E xn (e::es) (eD r1 f r2):=by
 let g:PE X e (λc H Q=>tOf X.K f c H Q\/_):=λj s c H Q I a=>by
  let a+a:=a
  .show PE.nox h.un _ s c H Q I a
  .show i.un _ s c H Q I a
 show{PA.imp (cx g p.un hs) λc H Q ⟨k,l,m,G,e,s,h⟩=>?_};let{b,q,e}:=qa e
 cases b with
 | true=>show .inr {(k),l,m,G,q,s,h}
 | false=>
   let{d,i,e}:=qa e;show .inl (tOf.at i s λv t n r r1 o=>{(k),l,m,n,e,o,h})
def vJ(h:YE X E xn e r):ZX X E xn (.Return (some e) pos::rest) r:={PSs.imp (eO (PS.imp (yA h.un) (t':=kh X.K _ E xn r) λ_ _ _ z=>z) iS) λ_ _ _ z=>z}
def qA{x1}(h:YA X E xn es r):YE X E xn (.Tuple es x1 pos) r:={PE.imp (zq h.un) λ_ _ _ z=>z}
def qC:YS X E xn st bT:={PS.imp Kh λ_ _ _ ⟨_,_,_,_,e,_⟩=>by cases e}
def C8{c:Expr}{a:List Stmt}{fc b:AT}(i:ZT X.nox c fc)(f:ZX X E xn a b):YS X E xn (.If c a [] pos) (bR fc b bT):=
 ⟨PS.imp (lH (.nox i.un) f.un iS) λD q H ⟨l,g,n,G,e,s,h⟩=>by
  let{k,m,e}:=qa e;show tTof.at m s λo d p j=>?_
  cases k with
  | true=>
    show{(l),g,n,d,e,j,h}
  | false=>cases e⟩
def d0(l:ZS X.nox st fs)(t:YS X E xn st r1)(u:ZX X E xn rest r2):ZX X E xn (st::rest) (cM r1 fs r2):=by
 let c:PS X st (λD f H=>lL X.K fs D f H\/_):=λj s f H D I h=>by
  let h+h:=h
  .show PS.nox' l.un _ s f H D I h
  .show t.un _ s f H D I h
 show{PSs.imp (eO c u.un) λD f H ⟨k,i,g,G,e,s,h⟩=>?_};let{b,n,e}:=qa e
 cases b with
 | true=>show .inr {(k),i,g,G,n,s,h}
 | false=>
   let{o,m,e}:=qa e
   cases o with
   | nx a=>show .inl {k,.nx a,i,g,G,m,s,λq v r p=>{(a),i,g,r,e,p,h}}
   | rt d=>cases e
   | bk a=>cases e
   | ct a=>cases e
theorem jg(i:Nat){x:Str}{a:Pos}(b:X.N.Nodup)(h:YE X E xn e r)(c:X.N[i]?=some x:=by rfl)(f:dO X.env.scope x:=by trivial)(hs:swapsWith e (some (.Name x a)) pos.line X.env=pure false:=by rfl)(d:Zm X x:=by trivial):YS X E xn (.Assign [.Name x a] e pos) r:={PS.imp (nJ b c f h.un hs d) λ_ _ _ z=>z}
theorem C9{T:String}{x:Str}{d:AM->Hp->VK->Prop}(f:b9 X (.type T) d)(h:YA X E xn (e::es) r)(g:Gl X x)(i:X.mg x=none)(c:bootBuiltins x=some (.type T))(j:x≠"__name__":=by decide)(a:ba x:=by decide)(k:Zj X e es:=by rfl)(b:Zk X pos es:=by rfl):YE X E xn (.Call (.Name x p) (e::es) [] pos) r:={PE.imp (nW f g i c h.un j a k b) λ_ _ _ z=>z}
def PI.nox'{t:TI}(h:PI X.nox tg iter t):PI X tg iter t:=λpins s σ H R I hw=>
 ww (h pins s σ H R (I.wish _) hw) (λ_ _ q=>ww q (λ_ _ ⟨it,fp,tn,J,H',e,I',T,st,f,q⟩=>{(it),fp,tn,J,H',e,I'.unwish,T,st,f,q}) λ_ _ z=>False.elim z) λ_ _ z=>False.elim z
def ML(K:W7)(mg:AD)(E:XK)(xn:Str)(fe:AU)(fr:AT):TE:=λσ H Q=>tOf K fe σ H Q\/C6 K mg E xn fr σ H Q
theorem MM{K:W7}{mg:AD}(hle:∀ρ d ρ1,gt d (aj src ρ)=some ρ1->Le (aj src ρ) ρ1){σ:L2.St}{H:Hp}{Q:VK}(h:C6 K mg E xn (fq gl src gt fe fr) σ H Q):tX (jR K gl) src (z9 K gt) (tTof K tY) (ML K mg E xn fe fr) σ H Q:=by
 let{ρ,H0,G0,G,e,s,h}:=h;unfold fq at e;let{ds,h1,h2}:=qa e;show{ρ,ds,H0,G0,G,h1,s,λJ H1 G1 g1 wk p hp=>?_};let s1:=s.grow g1;let sc:=s1.cap src;let gp:G1 p=none:=s1.seen.free hp
 show⟨λi m σ' H'=>m=ds.length-i/\i<=ds.length/\∃G' xs,SR K H1 G1 σ' H' G' (aj src ρ)/\H' p=some (.lst xs)/\G' p=none/\xs.length<=i/\fm gt fe fr (aj src ρ) (ds.drop i)=some true,
  {_,rfl,Qh _,G1,[],sc.grow (Gr.hid s1.seen hp _),Yo,gp,Qh _,h2},?_⟩
 rintro i m σ' H' ⟨rfl,hi,G',xs,s',hx,gx,hl,e'⟩;let W:=wk.2 i H' G' s'.gr.g s'.seen;by_cases hlt:i<ds.length
 .let hdi:ds[i]?=some ds[i]:=qr hlt
  let{go,yl}:=W.1 _ hdi;rw[List.drop_eq_getElem_cons hlt,fm]at e';let{ρ1,e1,e'}:=qa e';let{b,e2,e'}:=qa e';show .inr {go,λx H2 y=>?_};let{G2,g2,r2}:=yl x H2 y
  let keep:∀{Ha Ga Hb Gb:Hp},Gr Ha Ga Hb Gb->Ha p=some (.lst xs)->Ga p=none->Hb p=some (.lst xs)/\Gb p=none:=λ{Ha Ga Hb Gb} g e1 e2=>by
   show{g.h _ _ e1,?_}
   cases q:Gb p with
   | none=>rfl
   | some o=>
     let:=g.n p e2 (by rw[q];show λz=>nomatch z);rw[e1]at this;cases this
  let{hx2,gx2}:=keep g2 hx gx;show{_,aj src ρ,ρ1,H1,G1,G2,e1,s'.grow g2,r2,λσ3 s3=>?_};show tTof.at (b:=true) rfl s3 λH4 G4 g4 s4=>?_;let{hx4,gx4}:=keep g4 hx2 gx2;let le:=hle ρ _ ρ1 e1;rw[if_pos rfl]
  cases b with
  | true=>show .inr {ρ1,H1,G1,G4,e2,s4,λC H' G' hC g'=>h C H' G' hC (s1.gr.trans g')}
  | false=>
    rw[if_neg qi]at e';let{v,e3,e'}:=qa e';show .inl (tOf.at e3 s4 λw H5 G5 g5 r5 s5=>?_);let{hx5,gx5}:=keep g5 hx4 gx4;let hz:=wk.1;show{xs,hx5,by ac_nf,ds.length-(i+1),by ac_nf,rfl,hlt,G5,xs++[w],?_,Yo,gx5,by simp;ac_nf,e'};let s6:=s5.le le
    let noow:∀(i:Nat) l,(aj src ρ)[i]?≠some (some (B.ow l)):=λi l h=>by
     unfold aj at h;rw[Qm]at h;let{o,h1,h2}:=qc h;let{j,rfl,h3}:=qa h2
     split at h3<;>cases h3
    let nood:∀(i:Nat) t ks vs,(aj src ρ)[i]?≠some (some (B.od t ks vs)):=λi t ks vs h=>by
     unfold aj at h;rw[Qm]at h;let{o,h1,h2}:=qc h;let{j,rfl,h3}:=qa h2
     split at h3<;>cases h3
    show SR.mkSh {λb o q=>?_,s6.gr.g,λb o q=>?_,s6.gr.n} s6.len s6.sh noow nood
    .rw[Yl (Yr q hp)];show s6.gr.h b o q
    .rw[Yl (Yr q gx5)];show s6.gr.s b o q
 .let ei:i=ds.length:=by ac_nf
  subst ei;rw[List.drop_length,fm]at e';cases e'
def qD{b:List (Str×Addr)}{C:Addr}{a:List Addr}{s:Shared}{H:Hp}{c:AB}(f:ZE (gi X scope N b C a s H c E).nox elt fe)(g:YE (gi X scope N b C a s H c E) E xn elt fr):PE (gi X scope N b C a s H c E) elt (ML X.K X.mg E xn fe fr):=λe s d H Q I h=>by
 let h+h:=h
 .show PE.nox f.un _ s d H Q I h
 .show g.un _ s d H Q I h
theorem C_(hfly:∀pins σ e s,i_ X pins σ E e s->X.xe e s)(S:fD X.N X.env.scope N src scope)(hc:X.calm=true)(hit:ZI X.nox tg iter gl)(hg:∀cl C fp s H,ZG (bu X scope N cl C fp s H) tg gt)(h1:∀cl C fp s H pn,ZE (gi X scope N cl C fp s H pn E).nox elt fe)(h2:∀cl C fp s H pn,YE (gi X scope N cl C fp s H pn E) E xn elt fr)(hle:∀ρ d ρ1,gt d (aj src ρ)=some ρ1->Le (aj src ρ) ρ1)(hx:X.ex=[]:=by rfl)(hst:X.stack=X.env::X.outer:=by rfl)(hfr:X.env.frame=some X.env.locals:=by rfl)(hs:∀x,foldedSetIterable iter X.env x=pure x:=by intro _;rfl):YE X E xn (.ListComp elt [{tg,iter,[],0}] scope pos) (fq gl src gt fe fr):=
 {PE.imp (KU S hc (PI.nox' hit.un) (λcl C fp s H=>(hg cl C fp s H).un) (λ_ _ _ _ _=>AY) (.err hfly hx hst hfr λcl C fp s H pn=>qD (h1 cl C fp s H pn) (h2 cl C fp s H pn)) hs) λ_ _ _ h=>MM hle h}
theorem Da(i:Nat){y:Str}{py spos:Pos}(hN:X.N.Nodup)(hfly:∀pins σ e s,i_ X pins σ E e s->X.xe e s)(S:fD X.N X.env.scope N src scope)(hc:X.calm=true)(hit:ZI X.nox tg iter gl)(hg:∀cl C fp s H,ZG (bu X scope N cl C fp s H) tg gt)(h1:∀cl C fp s H pn,ZE (gi X scope N cl C fp s H pn E).nox elt fe)(h2:∀cl C fp s H pn,YE (gi X scope N cl C fp s H pn E) E xn elt fr)(hle:∀ρ d ρ1,gt d (aj src ρ)=some ρ1->Le (aj src ρ) ρ1)(hsw:swapsWith (.ListComp elt [{tg,iter,[],0}] scope pos) (some (.Name y py)) spos.line X.env=pure true:=by rfl)(hy:X.N[i]?=some y:=by rfl)(hl:dO X.env.scope y:=by trivial)(hf:Zm X y:=by trivial)(hx:X.ex=[]:=by rfl)(hst:X.stack=X.env::X.outer:=by rfl)(hfr:X.env.frame=some X.env.locals:=by rfl)(hs:∀x,foldedSetIterable iter X.env x=pure x:=by intro _;rfl):YS X E xn (.Assign [.Name y py] (.ListComp elt [{tg,iter,[],0}] scope pos) spos) (fq gl src gt fe fr):=
 {PS.imp (KW S hc (PI.nox' hit.un) (λcl C fp s H=>(hg cl C fp s H).un) (λ_ _ _ _ _=>AY) (.err hfly hx hst hfr λcl C fp s H pn=>qD (h1 cl C fp s H pn) (h2 cl C fp s H pn)) hN hy hl hsw hf hs) λ_ _ _ h=>MM hle h}
end
def MN(X:Cx)(pins:AB)(σ:L2.St)(E:XK):AA:=λe s'=>∃H1 s1,Inv X pins σ H1 s1/\CXN X.prog X.w X.stack H1 s1 E e s'
structure ZR(X:Cx)(xn:Str)(sts:List Stmt)(r:AT):Prop where
 un:∀(E:XK) (pins:AB) (s:Shared) (σ:L2.St) (H:Hp) (ρ:Ro) (H0 G0 G:Hp),Inv X pins σ H s->r ρ=some true->SR X.K H0 G0 σ H G ρ->(∀C H' G',X.mg xn=some (.ref C)->Gr H G H' G'->E (.ref C) none H')->Zo X (execs sts X.env) (λ_ _=>False) (MN X pins σ E) s
section
variable {k:Nat}{f C:Addr}{fd:FuncData}{ps:AJ}{E:XK}{σ:L2.St}{H:Hp}{Q:VK}{us:AC}{vs:AM}
theorem T_(M:Mk X.K C f)(F:FnOk X.prog X.w X.K X.mg X.base (CXN X.prog X.w) k f fd ps sp)(hr:Room (k+1) X.A)(hb:Binds X.K fd ps [])(I:Inv X pins σ H s)(r:Vals vs us)(h:∀x dx,H x=none->H dx=none->dx≠x->sp (.ref x::vs) (upd (upd H dx (.own x)) x (.ins C dx [])) (λv H2=>v=.non/\Q (.ref x) H2) E):
 Zo X (call (.ref C) us) (EP X pins σ Q) (MN X pins σ E) s:=by
 let hq:=h (~~~s+1) (~~~s) (I.hok.fresh (Nat.le_succ _)) (I.hok.fresh (qv _)) (qm (Qa _));let I2:=Inv.made (C:=C) I;let r2:Vals (V.ref (~~~s+1)::vs) (Value.ref (~~~s+1)::us):=.cons rfl r
 let hl:(Value.ref (~~~s+1)::us++[]).length=ps.length:=by
  let e:=r2.length;rw[F.len _ _ _ _ hq]at e;symm
 let hb':=hb _ (Value.ref (~~~s+1)::us) I2.kIn hl;rw[wz]at hb'
 show wpAny_call (Ks (f:=f) I.kIn M.makes M.init (beq_iff_eq.mp M.fn) (codeAny_mono (F.run _ X.stack _ _ {Value.ref (~~~s+1)::us,[]} (Value.ref (~~~s+1)::us) _ _ E (hr.make C us [])
  (I2.env0.make C us []) hb' r2 hq) λr s' hq'=>?_))
 cases r with
 | error e=>show{_,_,I2,hq'}
 | ok fl=>
   cases fl with
   | ret u=>
     let{v,H',I3,rv,ev,q3}:=I2.after hq';subst ev;show{rv,{V.ref (~~~s+1),H',I3,rfl,q3}}
   | next=>show False.elim hq'
   | brk=>show False.elim hq'
   | cont=>show False.elim hq'
end
def ko(P:P7)(w:World)(K:W7)(mg:AD)(base:Heap)(k n:Nat)(ps:AJ)(fr:AN->Option Bool)(xn:Str):Prop:=
 ∃C f fd,mg "Watch"=some (.ref C)/\Mk K C f/\FnOk P w K mg base (CXN P w) k f fd ps (kg K mg n fr xn)/\Binds K fd ps []
def kr(ga:AV)(fr:AN->Option Bool):AT:=λρ=>(ga ρ).bind λl=>@ite _ (∀x:Addr,fr (.adr x::l)=some true) (Classical.propDecidable _) (some true) none
section
variable {P:P7}{w:World}
theorem De{st:Stmt}{k n m:Nat}{N ps:AJ}{r:AT}{d:Str}(F:Iq K st)(j:∀C,W.nsIn K mainGlobals "Watch"=some (some (.ref C))->mg "Watch"=some (.ref C))(S:cG N ps (aBb st))(hb:∀{f:Addr}{b:Value}{A:Around}{outer:List Env}{s:Shared}{H:Hp}{E:XK},Room k (A.deeper (envOfC "Watch.__init__" (aBb st) (~~~s) f b))->ZX (ay (CXN P w) P w K mg base N "Watch.__init__" (aBb st) f b A outer s H E) E d (aDb st) r)(g:N.length=n:=by rfl)(h:ps.length=m:=by rfl)(B:p9 "__init__" "Watch.__init__" st ps:=by(intro _ _ _ _ _ _ us o;let{_,_,_,rfl}:=dB o;rfl)):ko P w K mg base (k+1) m ps (aP m n r) d:=by
 let{C,f,i,a,l,c}:=F;show{C,f,i,j C a,l,My c S g h λ_ _ _ _ _ _ e=>hb e,c.binds B}
end
section
variable {w:World}{A:Around}{E:AA}
def RF(K:W7)(C C0 ea n:Addr)(E:AA)(s:Shared):Prop:=∃oe ws t,K.In s.heap/\s.heap.get? ea=some oe/\oe.cls=.ref C0/\oe.data=.fields ws/\ws[2]?=some .none/\s.heap.get? n=some {cls:=.ref C,data:=.fields #[t,.none,.none,.none,.bool false,.none]}/\ea≠n/\
 ∀h',h'.get? n=some {cls:=.ref C,data:=.fields #[t,.none,.ref ea,.ref ea,.bool true,.none]}->(∀b,b≠n->h'.get? b=s.heap.get? b)->h'.objs.size= ~~~s->E (.ref n) {s with heap:=h' }
theorem Ua{K:W7}{ea C j:Addr}{Q:Flow->Shared->Prop}{x c:Sem Value}(hC:XC K C)(D:XC K j)(Z:A.handled=some (.ref ea))(h:wpAny (mZ prog w) A x (λv L=>∃n,v=.ref n/\wpAny (mZ prog w) A c (λu B=>u=.ref ea/\RF K C j ea n E B) E L) E s):
 wpAny (mZ prog w) A (raiseStmt env (some x) (some c)) Q E s:=by
 unfold raiseStmt;show wa (ww h (λv L y=>?_) λ_ _ z=>z);let{n,rfl,y}:=y;show wa (we (ww y (λu B r=>?_) λ_ _ z=>z));let{rfl,oe,ws,t,X,he,o,U,r,O,hne,h}:=r;let{a,g,d,tk,os}:=B;show wa (wc ?_);let{bm,N,nm,q,bs,R,sn,sub,ab,col,dd,k0,k1,k2,k3,k5,mN,i,_,_,T,em}:=fg X hC;let{m,N',Y,q',bs',k,sn',M,ab',I,dd',l0,l1,l2,l3,l5,mN',J,_,_,T',V}:=fg X D
 let F:(Value.ref C::bm).contains (.type "BaseException")=true:=by rw[List.contains_cons,T.hasType (show vM.contains (.type "BaseException")=true by decide),Bool.or_true]
 let l:(Value.ref j::m).contains (.type "BaseException")=true:=by rw[List.contains_cons,T'.hasType (show vM.contains (.type "BaseException")=true by decide),Bool.or_true]
 repeat (first|(with_reducible show wpAny_loadPart_at he ?_;rw[o])|with_reducible show wpAny_loadPart_at O ?_|with_reducible show wpAny_loadPart_at i ?_|with_reducible show wpAny_loadPart_at J ?_|(with_reducible show wpAny_isSubtype_exc i ?_;rw[F])|(with_reducible show wpAny_isSubtype_exc J ?_;rw[l])|wp_step)
 let e:((a.update n (Obj.mapFields (·.setIfInBounds 3 (Value.ref ea)))).update n (Obj.mapFields (·.setIfInBounds 4 (Value.bool true)))).get? n=some {cls:=.ref C,data:=.fields #[t,.none,.none,.ref ea,.bool true,.none]}:=wu _ (wu _ O rfl) rfl;let S:∀b,b≠n->((a.update n (Obj.mapFields (·.setIfInBounds 3 (Value.ref ea)))).update n (Obj.mapFields (·.setIfInBounds 4 (Value.bool true)))).get? b=a.get? b:=λb f=>(Heap.get?_update_other _ _ (Ne.symm f)).trans (Heap.get?_update_other _ _ (Ne.symm f))
 let sz:((a.update n (Obj.mapFields (·.setIfInBounds 3 (Value.ref ea)))).update n (Obj.mapFields (·.setIfInBounds 4 (Value.bool true)))).objs.size=a.objs.size:=by ext
 nomatch (a.update n (Obj.mapFields (·.setIfInBounds 3 (Value.ref ea)))).update n (Obj.mapFields (·.setIfInBounds 4 (Value.bool true)))=h2'
 let nC:C≠n:=λz=>by symm
 let H:=(S C nC).trans i
 repeat (first|with_reducible show wpAny_loadPart_at e ?_|with_reducible show wpAny_loadPart_at H ?_|wp_step)
 show MD (k:=[]) (ob:=oe) Z {.none,ws,U,r,.inl {(rfl),rfl}} (λp a=>?_) e rfl nofun (λp a=>?_) (h _ ?_ (λb f=>?_) ?_)
 .grind
 .grind
 .show wu _ e rfl
 .show(Heap.get?_update_other _ _ (Ne.symm f)).trans (S b f)
 ext
end
def ku(X:Cx)(pins:AB)(σ:L2.St)(E:XK)(e:Value)(s:Shared):Prop:=∃ea T H C fl c k,e=.ref ea/\Inv X pins σ H s/\bW c s.heap ea T C fl/\Ofa X pins H ea/\Ofa X pins H T/\Kp X pins H s.heap ea T k/\Cn c ea k/\E C none H
section
variable {P:P7}{w:World}{N:AJ}{f:Addr}{A:Around}{s0:Shared}{H0:Hp}{E:XK}
def MO{pins:AB}{σ:L2.St}{e:Value}{s:Shared}(x:ku (ay (cz P w) P w K mg base N qual scope f cd A outer s0 H0 E) pins σ E e s):(ay (cz P w) P w K mg base N qual scope f cd A outer s0 H0 E).xe e s:=by
 let{r,T,n,C,D,c,k,rfl,J,x,j,m,u,t,v}:=x;show MJ J.ok.frames rfl J.stack x λy l q g st=>?_
 let h:Ofa (ay (cz P w) P w K mg base N qual scope f cd A outer s0 H0 E) pins n l:=by
  let rfl+z:=g
  .show m
  .show .none J rfl z
 let i:=eM J st j m;show{r,l,n,C,c,k,rfl,i.os,i.bare,i.base,i.hok,q,j.s0,h.s0,j.hp,h.hp,t,λp o=>?_,v};let{a,b,d}:=u.step J st g p o;show{(a),b.s0,b.hp,d}
def iq:eQ (CXN P w) (ay (cz P w) P w K mg base N qual scope f cd A outer s0 H0 E) E:=λa b H s e c I h=>
 ww (gJ _ b H s e c (I.wish (ay _ P w K mg base N _ _ f cd A _ s0 H0 E).xe) h) (λ_ _ z=>z.m) λ_ _ z=>z.m
def Df{pins:AB}{σ:L2.St}{e:Value}{s:Shared}(x:i_ (ay (cz P w) P w K mg base N qual scope f cd A outer s0 H0 E) pins σ E e s):(ay (cz P w) P w K mg base N qual scope f cd A outer s0 H0 E).xe e s:=by
 let{g,T,h,C,c,rfl,J,x,d,b,i}:=x;show MO {g,T,h,C,c,.none,[],rfl,J,x,d,b,(λp a=>nomatch a),.inl {(rfl),rfl},i}
def Dg:∀(pins:AB) (σ:L2.St) (e:Value) (s:Shared),i_ (ay (cz P w) P w K mg base N qual scope f cd A outer s0 H0 E) pins σ E e s->(ay (cz P w) P w K mg base N qual scope f cd A outer s0 H0 E).xe e s:=λ_ _ _ _ h=>Df h
end
theorem Ub{M:Model}{A:Around}{E:AA}{s:Shared}{env:Env}{outer:List Env}{L ea:Addr}{c:Value}{base h:Heap}{Q:Unit->Shared->Prop}{g n:Obj}{vs F:Array Value}(j:A.frames=some (env::outer))(r:env.frame=some L)(l:h.FunFrames base (env::outer))(i:∀b,b≠ea->s.heap.get? b=h.get? b)(h0:h.get? ea=some n)(H:n.data=.fields F)(q:s.heap.get? ea=some g)(t:g.data=.fields vs)(d:vs[1]?=some .none)(w:vs[2]?=some c)(D:∀h' f,bW c h' ea f g.cls (rawInt L)->h.get? f=none->XStep h h' ea f (br (env::outer))->Q () {s with heap:=h' }):wpAny M A (noteFrame (.ref ea) env) Q E s:=by
 let x:∀b∈br _,b≠ea:=λb k z=>by
  let{_,o,I,y}:=l.mem k;symm
 unfold noteFrame;simp only[r];show wa (wpAny_field q t d (CQ j (l.of_keeps λb o k y=>{o,(i b λz=>by symm).trans k,rfl}) r q t w λd B C G a=>D d B C ?_ {λb o e p u v=>a.keep b o ((i b p).trans e) p u v,λb o e m=>a.slot b o ((i b (x b m)).trans e) m}));symm
theorem Uc{K:W7}{M:Model}{A:Around}{E:AA}{s:Shared}{e t B1 B2 B3 C:Addr}{oe:Obj}{Q:Bool->Shared->Prop}(X:K.In s.heap)(ht:IsTup s.heap t #[.ref B1,.ref B2,.ref B3])(hB1:XC K B1)(hB2:XC K B2)(hB3:XC K B3)(hC:XC K C)(he:s.heap.get? e=some oe)(hcls:oe.cls=.ref C)(hin:(bg K C).contains (.ref B1)=true\/(bg K C).contains (.ref B2)=true\/(bg K C).contains (.ref B3)=true)(hq:Q true s):wpAny M A (excMatches (.ref e) (.ref t)) Q E s:=by
 let{bm,N,nm,q,bs,hdct,sn,sub,ab,col,dd,k0,k1,k2,k3,k5,mN,oC,_,_,T,em}:=fg X hC;let{bm1,N1,nm1,q1,bs1,hdct1,sn1,sub1,ab1,col1,dd1,l0,l1,l2,l3,l5,mN1,o1,_,_,T1,em1}:=fg X hB1;let{bm2,N2,nm2,q2,bs2,hdct2,sn2,sub2,ab2,col2,dd2,m0,m1,m2,m3,m5,mN2,o2,_,_,T2,em2}:=fg X hB2;let{bm3,N3,nm3,q3,bs3,hdct3,sn3,sub3,ab3,col3,dd3,n0,n1,n2,n3,n5,mN3,o3,_,_,T3,em3}:=fg X hB3
 let hc1:(Value.ref B1::bm1).contains (.type "BaseException")=true:=by rw[List.contains_cons,T1.hasType (show vM.contains (.type "BaseException")=true by decide),Bool.or_true]
 let hc2:(Value.ref B2::bm2).contains (.type "BaseException")=true:=by rw[List.contains_cons,T2.hasType (show vM.contains (.type "BaseException")=true by decide),Bool.or_true]
 let hc3:(Value.ref B3::bm3).contains (.type "BaseException")=true:=by rw[List.contains_cons,T3.hasType (show vM.contains (.type "BaseException")=true by decide),Bool.or_true]
 rw[em]at hin;let{o,ho,hc,n,hd}:=ht;let{hp,g,d,tk,os}:=s;unfold excMatches;show wa (wpAny_isInstance {(o),ho,hc} isSubtype_tuple_tuple ?_);dsimp only;rw[if_pos rfl];show wa (wpAny_seqItems ho hd ?_);dsimp only[Option.getD_some,Option.getD]
 repeat (first|(with_reducible show wpAny_loadPart_at he ?_;rw[hcls])|with_reducible show wpAny_loadPart_at o1 ?_|with_reducible show wpAny_loadPart_at o2 ?_|with_reducible show wpAny_loadPart_at o3 ?_|(with_reducible show wpAny_isSubtype_exc o1 ?_;rw[hc1])|(with_reducible show wpAny_isSubtype_exc o2 ?_;rw[hc2])|(with_reducible show wpAny_isSubtype_exc o3 ?_;rw[hc3])|with_reducible show wpAny_isSubtype_exc oC ?_|wp_step)
 by_cases z1:(Value.ref C::bm).contains (.ref B1)=true
 .rw[if_pos z1];wp_walk;show hq
 rw[if_neg z1]
 repeat (first|with_reducible show wpAny_isSubtype_exc oC ?_|wp_step)
 by_cases z2:(Value.ref C::bm).contains (.ref B2)=true
 .rw[if_pos z2];wp_walk;show hq
 rw[if_neg z2]
 repeat (first|with_reducible show wpAny_isSubtype_exc oC ?_|wp_step)
 let z3:(Value.ref C::bm).contains (.ref B3)=true:=by
  symm
 rw[if_pos z3];wp_walk;show hq
section
variable {σ:L2.St}{H:Hp}{E:XK}
def Ofa.at{H':Hp}{b:Addr}(o:Ofa X pins H b)(h:H' b=Option.none):Ofa X pins H' b:={(o.s0),h,o.lo,o.ce,o.pi}
theorem Ud{k:Nat}{f:Addr}{w:FuncData}{ps:AJ}{sp:Sp}{x:Str}{p a:Pos}{e:Expr}{g:AK}{t:TA}{Q:VK}{E:XK}{v:AA}(F:FnOk X.prog X.w X.K X.mg X.base (CXN X.prog X.w) k f w ps sp)(C:Room k X.A)(B:Gl X x)(J:X.mg x=some (.ref f))(D:W.keepIn X.K (.ref f)=true)(hb:Binds X.K w ps [])(A:PA X.nox (e::g) t)(m:ba x)(y:starEach (e::g) X.env=(false,eval e X.env)::starEach g X.env)(o:(backTo a (starEach g X.env)).any (·.1)=false)(I:Inv X pins σ H s)(h:t σ H λvs b=>sp vs b Q E)(G:∀b d e s',Inv X pins σ b d->CXN X.prog X.w X.stack b d E e s'->v e s'):
 Zo X (eval (.Call (.Name x p) (e::g) [] a) X.env) (EP X pins σ Q) v s:=by
 show wpAny_Call_Name_kw (d7 I B J (W.callWith_K I.ok.mod.kin D (ww (A _ _ s σ H _ (I.wish _) h) (λn d ⟨vs,b,i,r,q⟩=>{i.kIn,?_}) λe s z=>z.elim) y o) m);let l:=i.unwish
 let K:(n++[]).length=ps.length:=by rw[wz,<-r.length];show F.len _ _ _ _ q
 show wpAny_call (codeAny_mono (F.run X.A _ d b _ n vs Q E C l.env0 (by let:=hb d n l.kIn K;symm) r q) λr s' j=>?_)
 cases r with
 | error e=>show G b d e s' l j
 | ok L=>
   cases L with
   | ret u=>show l.after j
   | next=>show .elim j
   | brk=>show .elim j
   | cont=>show .elim j
theorem Ue{C:Addr}{z m:Str}{np p1 cpos:Pos}{j:Nat}{E:AA}(I:Inv X pins σ H s)(hz:X.mg z=some (.ref C))(hC:XC X.K C)(hg:Gl X z)(hdb:(z==("__debug__":Str))=false)(hs:starEach [Expr.Constant (.str m) j p1] X.env=[(false,eval (Expr.Constant (.str m) j p1) X.env)]):
 Zo X (eval (.Call (.Name z np) [.Constant (.str m) j p1] [] cpos) X.env) (λv s'=>∃n h' l t,v=.ref n/\s'={s with heap:=h',toks:=t}/\Heap.MadeExcOf s.heap h' n (.ref C) l) E s:=by
 let{bm,N',nm,q,bs,hdct,sn,sub,ab,col,dd,k0,k1,k2,k3,k5,mN,oC,hN,hni,T,_}:=fg I.kIn hC;show wpAny_Call_ofName (d7 I hg hz ?_ hdb);unfold callWith;rw[hs];show wa (we (PySem.Calls.evalArgs_plain (PySem.Calls.spliced_cons ?_)));change wpAny _ _ (eval (Expr.Constant (.str m) j p1) _) _ _ _;show PySem.Calls.Constant_str (PySem.Calls.spliced_nil ?_);show wa (wpAny_standAt ?_);let{hp,g,d,tk,os}:=s;show wa (wpAny_keeperOf_exc oC ?_);show wa (wpAny_call_exc_subT (hrest:=by change 1<=sizeLine;decide) PySem.F.excBase_ValueError T oC hN hni λh' e hm=>wa (we (wpAny_point (wc ?_))));symm
end
def Dh{a b c:Addr}{l:AC}(h:Vals [.ref a,.ref b,.ref c] l):l=[.ref a,.ref b,.ref c]:=by
 cases h with|cons d t=>cases t with|cons e t=>cases t with|cons f t=>
  cases t;cases (d);cases (e);cases (f);rfl
section
variable {σ:L2.St}{H:Hp}{E:XK}{T B1 B2 B3 C C0:Addr}{Q:Flow->Shared->Prop}{y1 y2 y3 z m n:Str}{tp np3 rp:Pos}{j i:Nat}
def Di{A':Around}{M:Model}{ob:Obj}{na:Addr}{Cv:Value}(hfly:∀pins σ e s,ku X pins σ E e s->X.xe e s)(hx:X.ex=[])(hst:X.stack=X.env::X.outer)(hfr:X.env.frame=some X.env.locals)(hA:A'.frames=X.A.frames)(I:Inv X pins σ H s)(x:bW (.ref ea) s.heap na T Cv (rawInt X.env.locals))(on:Ofa X pins H na)(oT:Ofa X pins H T)(kp:Kp X pins H s.heap na T [(ea,ob)])(cn:Cn (.ref ea) na [(ea,ob)])(hE:E Cv none H):
 wpAny M A' (passOn "try.except-as" (.ref na) X.env:Sem Flow) (λ_ _=>False) (notedBy M A' X.env (cameBackBy M X.A X.env X.xe)) s:=by
 unfold PySem.passOn;let{oe3,vs3,oT3,ts3,g1,g2,g3,g4,g5,g6,g7,g8}:=id x;show wa (wpAny_field g1 g3 g4 ?_);rw[if_neg (show ¬((Value.ref T==Value.none)=true) from qi)];show wa (C4 (base:=X.base) (l:=X.stack) x (λh4 x4 st4 _=>wpAny_throw ?_) I.stack);let I4:=eM I st4 on oT;let k4:=kp.step I st4 (.inl rfl);let ff:=I4.stack;rw[hst]at ff;show C3 (env0:=X.env) (outer:=X.outer) (L:=X.env.locals) (by rw[hA,I.ok.frames,hst]) hfr hfr ff x4 λh5 T5 x5 z5 st5=>?_;rw[<-hst]at st5;let I5:=eM (s:={s with heap:=h4}) I4 st5 on oT;let oT5:=CS (s:={s with heap:=h4}) (h':=h5) I4 hx oT z5;let k5:=k4.step (s:={s with heap:=h4}) I4 st5 z5;let{oe3,vs3,oT3,ts3,g1,g2,g3,g4,g5,g6,g7,g8}:=id x5;show wa (wpAny_field g1 g3 g4 ?_);rw[if_neg (show ¬((Value.ref T5==Value.none)=true) from qi)];show C4 (base:=X.base) (l:=X.stack) x5 (λh6 x6 st6 _=>?_) I5.stack;show hfly pins σ _ _ {na,T5,H,Cv,_,_,_,rfl,eM (s:={s with heap:=h5}) I5 st6 on oT5,x6,on,oT5,k5.step (s:={s with heap:=h5}) I5 st6 (.inl rfl),cn,hE}
theorem Ug{xx:Nat}(hfly:∀pins σ e s,ku X pins σ E e s->X.xe e s)(hx:X.ex=[])(B:X.stack=X.env::X.outer)(hfr:X.env.frame=some X.env.locals)(I:Inv X pins σ H s)(x:bW .none s.heap ea T (.ref C0) .none)(oe:Ofa X pins H ea)(oT:Ofa X pins H T)(hB1:XC X.K B1)(hB2:XC X.K B2)(hB3:XC X.K B3)(hC0:XC X.K C0)(hC:XC X.K C)(m1:X.mg y1=some (.ref B1))(m2:X.mg y2=some (.ref B2))(m3:X.mg y3=some (.ref B3))(mz:X.mg z=some (.ref C))(hg1:Gl X y1)(hg2:Gl X y2)(hg3:Gl X y3)(hgz:Gl X z)(d1:(y1==("__debug__":Str))=false)(d2:(y2==("__debug__":Str))=false)(d3:(y3==("__debug__":Str))=false)(dz:(z==("__debug__":Str))=false)(dn:(n==("__debug__":Str))=false)(dc:(n==("__classdict__":Str))=false)(hin:(bg X.K C0).contains (.ref B1)=true\/(bg X.K C0).contains (.ref B2)=true\/(bg X.K C0).contains (.ref B3)=true)(hN:X.N.Nodup)(hi:X.N[i]?=some n)(hl:X.env.kindOf n=some .local)(hs1:starEach [.Name y1 q1,.Name y2 q2,.Name y3 q3] X.env=(false,eval (.Name y1 q1) X.env)::starEach [.Name y2 q2,.Name y3 q3] X.env)(hs2:starEach [.Name y2 q2,.Name y3 q3] X.env=(false,eval (.Name y2 q2) X.env)::starEach [.Name y3 q3] X.env)(hs3:starEach [.Name y3 q3] X.env=(false,eval (.Name y3 q3) X.env)::starEach [] X.env)(hsm:starEach [Expr.Constant (.str m) j p1] X.env=[(false,eval (Expr.Constant (.str m) j p1) X.env)])(hE:∀p,H p=none->E (.ref C) none (upd H p (.tup [.ref B1,.ref B2,.ref B3]))):
 Zo X (handleBy (.ref ea) X.env [.ExceptHandler (some (.Tuple [.Name y1 q1,.Name y2 q2,.Name y3 q3] xx tp)) (some n) [.Raise (some (.Call (.Name z np) [.Constant (.str m) j p1] [] cp)) (some (.Name n np3)) rp] hpos]) Q X.xe s:=by
 let{f,vs,y,ts,he,{G,hw},hd,hv1,hne,hT,hdT,ht3}:=id x
 let a:∀p∈[(ea,f),(T,y)],s.heap.get? p.1=some p.2/\H p.1=none/\p.1≠X.env.locals/\p.1∉X.fs/\∀v,p.2.data≠.cell v:=λp a=>by
  let rfl+a:=qu a
  .show{he,oe.hp,oe.lo,oe.nfs I,λv z=>by symm}
  .cases List.mem_singleton.mp a
   show{hT,oT.hp,oT.lo,oT.nfs I,λv z=>by symm}
 let J:=Inv.mk (ea:=ea) I a;show wpAny_handleBy_cons (codeAny_handlers_test (ww (zq (X:=Cx.mk X ea [(ea,f),(T,y)]) (cx (gW hg1 m1 (v:=.ref B1) rfl d1) (cx (gW hg2 m2 (v:=.ref B2) rfl d2) (cx (gW hg3 m3 (v:=.ref B3) rfl d3) dC hs3) hs2) hs1) pins s σ H (λv D=>∃p,v=.ref p/\H p=none/\D=upd H p (.tup [.ref B1,.ref B2,.ref B3])) J {by change 3<=sizeLine;decide,λp a=>{(p),rfl,a,rfl}}) (λc s1 hx_=>?_) λ_ _ z=>z.elim)) (by intro q;cases q);let{v,D,N,r,tp,rfl,Z,rfl}:=hx_;cases (show c=Value.ref tp from r);let hE1:=hE tp Z;let g:Ofa X pins (upd H tp (.tup [.ref B1,.ref B2,.ref B3])) ea:=oe.at (N.pin (ea,f) (List.mem_append.mpr (.inl (List.mem_append.mpr (.inl (.head _)))))).2.1;let oT1:Ofa X pins (upd H tp (.tup [.ref B1,.ref B2,.ref B3])) T:=oT.at (N.pin (T,y) (List.mem_append.mpr (.inl (List.mem_append.mpr (.inl (.tail _ (.head _))))))).2.1;let F:=(N.pin (ea,f) (List.mem_append.mpr (.inl (List.mem_append.mpr (.inl (.head _)))))).1;let hT1:=(N.pin (T,y) (List.mem_append.mpr (.inl (List.mem_append.mpr (.inl (.tail _ (.head _))))))).1;let{its,rv,it,_}:=N.tuple (.inl (show Rd _ tp (.tup [.ref B1,.ref B2,.ref B3]) from .inl Yo));obtain rfl:its=[.ref B1,.ref B2,.ref B3]:=Dh rv;nomatch upd H tp (.tup [.ref B1,.ref B2,.ref B3])=D;let l:=Inv.unmk I.ok N;show Uc N.kIn it hB1 hB2 hB3 hC0 F G hin ?_;show codeAny_handlers_suite_as ?_
 let x1:bW .none s1.heap ea T (.ref C0) .none:={f,vs,y,ts,F,{(G),hw},hd,hv1,hne,hT1,hdT,ht3}
 clear a J he hT x I it rv Z;show kf (base:=X.base) (l:=X.stack) x1 (λh2 x2 st2 ot2=>?_) l.stack;let I2:=eM l st2 g oT1;let he2:=ot2 ea f F (Ne.symm hne)
 let hp2:∀p∈[(ea,f)],h2.get? p.1=some p.2/\D p.1=none/\p.1≠X.env.locals/\p.1∉X.fs/\∀v,p.2.data≠.cell v:=λp a=>by
  cases List.mem_singleton.mp a;show{he2,g.hp,g.lo,g.nfs l,λv z=>by symm}
 show tD (X:=Cx.mk X ea [(ea,f)]) (v:=V.ref ea) (Inv.mk (s:={s1 with heap:=h2}) I2 hp2) hN hi (.inl hl) rfl (λs3 I3=>?_) (.inr hl);let he3:=(I3.pin (ea,f) (List.mem_append.mpr (.inl (List.mem_append.mpr (.inl (.head _)))))).1;let M:=Inv.unmk l.ok I3;show wpAny_execs_cons ?_;rw[arm_exec_Raise];show wa (wpAny_standAt ?_);show Ua hC hC0 rfl (wa (ww (Ue (X:=Cx.mk X ea [(ea,f)]) I3 mz hC hgz dz hsm) (λv s4 O=>wa (wpAny_standAt (wc ?_))) λ_ _ z=>z));let{k,h4,l4,t4,rfl,rfl,O}:=O;let L:∀b o,s3.heap.get? b=some o->h4.get? b=some o:=O.keeps;let nn:s3.heap.get? k=none:=O.new;let d:Ofa X pins D k:=Ofa.none M hx nn;let{ta,hna,_,_}:=O.there
 let S:ea≠k:=λz=>by symm
 let I4:Inv X pins _ D {s3 with heap:=h4,toks:=t4}:=(eM (ea:=k) (T:=k) M {λb o e _ _ _=>L b o e,λb o e _=>{o.slots,L b o e}} d d).tok t4
 let hp4:∀p∈[(ea,f),(k,({cls:=.ref C,data:=.fields #[.ref ta,.none,.none,.none,.bool false,.none]}:Obj))],h4.get? p.1=some p.2/\D p.1=none/\p.1≠X.env.locals/\p.1∉X.fs/\∀v,p.2.data≠.cell v:=λp a=>by
  let rfl+a:=qu a
  .simp_all
  .cases List.mem_singleton.mp a
   show{hna,d.hp,d.lo,d.nfs l,λv z=>by cases z}
 let U:=Inv.mk (ea:=ea) I4 hp4;show{k,rfl,wa (ww (fC (X:=Cx.mk X ea [(ea,f),(k,{cls:=.ref C,data:=.fields #[.ref ta,.none,.none,.none,.bool false,.none]})]) hi (.inl hl) dn dc pins _ _ _ (λv R=>v=.ref ea/\R=D) U {_,List.getElem?_set_self (by rw[I2.len];symm),rfl,rfl}) (λu s5 hu=>wa (wpAny_standAt (wc ?_))) λ_ _ z=>z.elim)};let{v5,R,I5,r5,rfl,rfl}:=hu;cases (show u=Value.ref ea from r5);let he5:=(I5.pin (ea,f) (List.mem_append.mpr (.inl (List.mem_append.mpr (.inl (.head _)))))).1;let Y:=(I5.pin (k,_) (List.mem_append.mpr (.inl (List.mem_append.mpr (.inl (.tail _ (.head _))))))).1;let w:=Inv.unmk l.ok I5;clear hp4 I4 U hna O L I3 M he3 nn I5;show{rfl,f,vs,_,w.kIn,he5,G,hd,hw,Y,S,λh6 g1 g2 g3=>?_};let ff:=w.stack;rw[B]at ff;show Ub (base:=X.base) (outer:=X.outer) (L:=X.env.locals) (h:=s5.heap) (show X.A.frames=_ by rw[l.ok.frames,B]) hfr ff g2 Y rfl g1 rfl rfl rfl λh7 K x7 nT st=>?_;rw[<-B]at st;let t:=Ofa.none w hx nT;let I7:Inv X pins _ R {s5 with heap:=h7}:=eM w st d t
 let neT:ea≠K:=λz=>by symm
 let k7:Kp X pins R h7 k K [(ea,f)]:=Kp.step w (T:=K) (λp a=>by symm) st (.inl rfl);let{A,vs7,h,ts7,a1,{a2,a3},a4,a5,a6,a7,a8,a9}:=id x7
 let hp7:∀p∈[(ea,f),(k,A),(K,h)],h7.get? p.1=some p.2/\R p.1=none/\p.1≠X.env.locals/\p.1∉X.fs/\∀v,p.2.data≠.cell v:=λp a=>by
  let rfl+a:=qu a
  .show{(k7 _ (.head _)).1,g.hp,g.lo,g.nfs l,λv z=>by symm}
  let rfl+a:=qu a
  .show{a1,d.hp,d.lo,d.nfs l,λv z=>by symm}
  .cases List.mem_singleton.mp a
   show{a7,t.hp,t.lo,t.nfs l,λv z=>by symm}
 show Mv (X:=Cx.mk X ea [(ea,f),(k,A),(K,h)]) (Inv.mk (s:={s5 with heap:=h7}) I7 hp7) hN hi hl λs8 I8=>?_;let pn:=λp a=>(I8.pin p (List.mem_append.mpr (.inl (List.mem_append.mpr (.inl a))))).1;show Di (A':=X.A.mark (some (.ref ea))) hfly hx B hfr rfl (Inv.unmk l.ok I8) (T:=K) (Cv:=.ref C) {A,vs7,h,ts7,pn (k,A) (.tail _ (.head _)),{(a2),a3},a4,a5,a6,pn (K,h) (.tail _ (.tail _ (.head _))),a8,a9} d t (λp a=>?_) (.inr {(ea),f,vs,rfl,rfl,S,hd,hw}) hE1;symm
end
def kx(a b:AT):AT:=λρ=>if a ρ=some true then some true else b ρ
def qE{X:Cx}{E:XK}{c:Str}{a:List Stmt}{d f:AT}(n:ZX X E c a d)(m:ZX X E c a f):ZX X E c a (kx d f):=
 ⟨λj s l H D I ⟨b,i,g,G,e,k,h⟩=>by
  by_cases z:d b=some true
  .show n.un _ s l H D I {(b),i,g,G,z,k,h}
  .replace e:(if _ then _ else f b)=_:=e
   rw[if_neg z]at e
   show m.un _ s l H D I {(b),i,g,G,e,k,h}⟩
section
variable {P:P7}{w:World}{N:AJ}{x0:Str}{f:Addr}{A:Around}{s0:Shared}{H0:Hp}{E:XK}{rest:List Stmt}
theorem Dj(i:Nat){j0 k m0 xx j:Nat}{x y1 y2 y3 zz m n:Str}{p cpos pos1 q1 q2 q3 tp np p1 cp np3 rp hpos pos:Pos}{ps:AJ}{fr:AN->Option Bool}{e:Expr}{es:AK}{ga:AV}{b1 b2 b3 bz:Bool}(c:cP P w K mg base j0 m0 x ps fr x0)(hp1:Xp K mg x0 y1 b1)(hp2:Xp K mg x0 y2 b2)(hp3:Xp K mg x0 y3 b3)(hb:(b1||b2||b3)=true)(hpz:Xp K mg xn zz bz)(hr:Room k (ay (cz P w) P w K mg base N qual scope f cd A outer s0 H0 E).A)(hg:Gl (ay (cz P w) P w K mg base N qual scope f cd A outer s0 H0 E) x)(ha:ZA (ay (cz P w) P w K mg base N qual scope f cd A outer s0 H0 E).nox (e::es) ga)(hl:∀ρ l,ga ρ=some l->l.length=m0)(hN:N.Nodup)(hj:j0<=k:=by first|show qv _|ac_nf)(hdb:ba x:=by decide)(he:starEach (e::es) (envOfC qual scope s0.heap.objs.size f cd)=(false,eval e (envOfC qual scope s0.heap.objs.size f cd))::starEach es (envOfC qual scope s0.heap.objs.size f cd):=by rfl)(hpl:(backTo cpos (starEach es (envOfC qual scope s0.heap.objs.size f cd))).any (·.1)=false:=by rfl)(g1:Gl (ay (cz P w) P w K mg base N qual scope f cd A outer s0 H0 E) y1:=by rfl)(g2:Gl (ay (cz P w) P w K mg base N qual scope f cd A outer s0 H0 E) y2:=by rfl)(g3:Gl (ay (cz P w) P w K mg base N qual scope f cd A outer s0 H0 E) y3:=by rfl)(gz:Gl (ay (cz P w) P w K mg base N qual scope f cd A outer s0 H0 E) xn:=by rfl)(d1:(y1==("__debug__":Str))=false:=by decide)(d2:(y2==("__debug__":Str))=false:=by decide)(d3:(y3==("__debug__":Str))=false:=by decide)(dz:(xn==("__debug__":Str))=false:=by decide)(dn:(n==("__debug__":Str))=false:=by decide)(dc:(n==("__classdict__":Str))=false:=by decide)(hi:N[i]?=some n:=by rfl)(hlo:(envOfC qual scope s0.heap.objs.size f cd).kindOf n=some .local:=by rfl)(hs1:starEach [.Name y1 q1,.Name y2 q2,.Name y3 q3] (envOfC qual scope s0.heap.objs.size f cd)=(false,eval (.Name y1 q1) (envOfC qual scope s0.heap.objs.size f cd))::starEach [.Name y2 q2,.Name y3 q3] (envOfC qual scope s0.heap.objs.size f cd):=by rfl)(hs2:starEach [.Name y2 q2,.Name y3 q3] (envOfC qual scope s0.heap.objs.size f cd)=(false,eval (.Name y2 q2) (envOfC qual scope s0.heap.objs.size f cd))::starEach [.Name y3 q3] (envOfC qual scope s0.heap.objs.size f cd):=by rfl)(hs3:starEach [.Name y3 q3] (envOfC qual scope s0.heap.objs.size f cd)=(false,eval (.Name y3 q3) (envOfC qual scope s0.heap.objs.size f cd))::starEach [] (envOfC qual scope s0.heap.objs.size f cd):=by rfl)(hsm:starEach [Expr.Constant (.str m) j p1] (envOfC qual scope s0.heap.objs.size f cd)=[(false,eval (Expr.Constant (.str m) j p1) (envOfC qual scope s0.heap.objs.size f cd))]:=by rfl):
 ZX (ay (cz P w) P w K mg base N qual scope f cd A outer s0 H0 E) E xn (.Try [.Return (some (.Call (.Name x p) (e::es) [] cpos)) pos1] [.ExceptHandler (some (.Tuple [.Name y1 q1,.Name y2 q2,.Name y3 q3] xx tp)) (some n) [.Raise (some (.Call (.Name xn np) [.Constant (.str m) j p1] [] cp)) (some (.Name n np3)) rp] hpos] [] [] pos::rest) (Yv ga fr):=by
 let{a,fd,F,hbd,hk,hm}:=c;let{C0,B1,mC0,mB1,hC0,_,hB1,i1}:=hp1;let{_,B2,e2,mB2,_,_,hB2,i2}:=hp2;let{_,B3,e3,mB3,_,_,hB3,i3}:=hp3;rw[mC0]at e2 e3;cases e2;cases e3;let{C,_,mC,_,hC,_}:=hpz
 let hin:(bg K C0).contains (.ref B1)=true\/(bg K C0).contains (.ref B2)=true\/(bg K C0).contains (.ref B3)=true:=by
  symm
 show{λpins s σ H D I ⟨ρ,H0',G0,G,er,sr,h⟩=>?_};unfold Yv at er;let{l,h1,er}:=qa er;show wpAny_execs_cons (wpAny_Try_except (wpAny_execs_cons (wpAny_Return_some (ww (Ud (X:=ay (cz P w) P w K mg base N qual scope f cd A outer s0 H0 E) (Q:=λ_ _=>False) (E:=λC' _ H2=>C'=.ref C0/\∃G2,Gr H0' G0 H2 G2) (F.mono hj) hr hg hm hk hbd ha.un hdb he hpl I (tAof.at h1 sr λvs H1 G1 gg r1 s1=>{by rw[r1.length];symm,l,G1,s1.seen,r1,er,λC' H' G' hC' g'=>?_}) λH1 s1 e s' I1 z=>?_) (λv s1 q=>?_) λ_ _ z=>z))))
 .rw[mC0]at hC'
  cases hC';show{rfl,G',s1.gr.trans g'}
 .let{ea,T,H',C',rfl,os,bare,un,hok,x0,n1,n2,n3,n4,rfl,G2,gg}:=z
  let J:=I1.call' os un hok bare (λb z=>nomatch z);let oe:=Ofa.of I1 rfl n1 n3;show CT (k:=[]) rfl rfl rfl J x0 oe (Ofa.of I1 rfl n2 n4) (λp hp=>nomatch hp) λh' T' I2 x2 o2 _=>?_;show Ug (λ_ _ _ _ z=>MO z) rfl rfl rfl I2 x2 oe o2 hB1 hB2 hB3 hC0 hC mB1 mB2 mB3 mC g1 g2 g3 gz d1 d2 d3 dz dn dc hin hN hi hlo hs1 hs2 hs3 hsm λpp hpp=>h C _ G2 mC ?_;show gg.trans {λa o ho=>?_,Same.refl _,gg.s.trans λa o ho=>?_,λ_ h h'=>absurd h h'}
  all_goals
   let n1:a≠pp:=λz=>by symm
   rw[Yl n1];show ho
 .let{_,_,_,_,z}:=q
  show z.elim
end
inductive HS where
 | bls (t:AG)
 | ins (c:Str) (C dx:Addr) (ks:AJ) (vs:AM) (ds:AN)
abbrev Hs:=Addr->Option HS
noncomputable def HS.ho:HS->HO
 | .bls t=>.lst (t.map .bl)
 | .ins _ C a c b _=>.ins C a (c.zip b)
noncomputable def HS.d:HS->D
 | .bls t=>.lst (t.map .bl)
 | .ins c _ _ b _ a=>.obj c b a
def HS.ok(K:W7)(G:Hp):HS->Prop
 | .bls _=>True
 | .ins c C _ b a d=>W.nsIn K mainGlobals c=some (some (.ref C))/\a.length=b.length/\RpL K G d a
theorem HS.ok.mono{G d:Hp}(h:Same G d):∀{s:HS},s.ok K G->s.ok K d
 | .bls _,_=>trivial
 | .ins ..,⟨a,b,c⟩=>{a,b,c.mono h}
noncomputable def pt(t:Hs)(a:Addr)(s:Option HS):Hs:=λb=>if b=a then s else t b
def cW{t:Hs}{a:Addr}{s:Option HS}:pt t a s a=s:=if_pos rfl
def bS{t:Hs}{a b:Addr}{s:Option HS}(h:b≠a):pt t a s b=t b:=if_neg h
structure HW(K:W7)(t:Hs)(H G:Hp):Prop where
 g:∀a s,t a=some s->G a=none
 h:∀a s,t a=some s->H a=some s.ho
 ok:∀a s,t a=some s->s.ok K G
structure WH(K:W7)(t:Hs)(H0 G0:Hp)(σ:L2.St)(H G:Hp)(ρ:Ro):Prop where
 sr:SR K H0 G0 σ H G ρ
 h0:∀a s,t a=some s->H0 a=some s.ho
 g0:∀a s,t a=some s->G0 a=none
 ok:∀a s,t a=some s->s.ok K G
structure OffH(t t':Hs)(H0 H1:Hp):Prop where
 keep:∀a,t' a=none->H1 a=H0 a
 grow:∀a,t' a=none->t a=none
 new:∀a,t a=none->t' a≠none->H0 a=none
def OffH.refl{t:Hs}{H:Hp}:OffH t t H H:={λ_ _=>rfl,λ_ h=>h,λ_ h a=>absurd h a}
def OffH.trans{t c f:Hs}{H e d:Hp}(a:OffH t c H e)(b:OffH c f e d):OffH t f H d:=
 ⟨λx h=>(b.keep x h).trans (a.keep x (b.grow x h)),λx h=>a.grow x (b.grow x h),λx h g=>by
  by_cases z:c x=none
  .rw[<-a.keep x z];show b.new x z g
  .show a.new x h z⟩
structure Aft(K:W7)(t t':Hs)(H G H' G':Hp):Prop where
 keep:∀a o,t a=none->H a=some o->H' a=some o
 grow:∀a,t' a=none->t a=none
 new:∀a,t a=none->t' a≠none->H a=none
 hw:HW K t' H' G'
 g:Same G G'
 s:Same G' H'
 n:∀a,G a=none->G' a≠none->H a=none
section
variable {t t':Hs}{H0 G0 H G H' G':Hp}{σ:L2.St}{ρ:Ro}
def WH.no(w:WH K t H0 G0 σ H G ρ){a:Addr}{s:HS}(e:t a=some s):G a=none:=by
 cases h:G a with
 | none=>rfl
 | some u=>
   let:=w.sr.gr.n a (w.g0 a s e) (by rw[h];show λz=>nomatch z);rw[w.h0 a s e]at this;cases this
def WH.hw(w:WH K t H0 G0 σ H G ρ):HW K t H G:={λ_ _ e=>w.no e,λa s e=>w.sr.gr.h _ _ (w.h0 a s e),w.ok}
def WH.grow(w:WH K t H0 G0 σ H G ρ)(g:Gr H G H' G'):WH K t H0 G0 σ H' G' ρ:={w.sr.grow g,w.h0,w.g0,λa s e=>(w.ok a s e).mono g.g}
def WH.bare(w:WH K t H0 G0 σ H G ρ):WH K t H0 G0 [] H G []:={.mkSh w.sr.gr rfl (λi d e=>by simp at e) (λi l e=>by simp at e) (λi t b a e=>by simp at e),w.h0,w.g0,w.ok}
theorem WH.after(w:WH K t H0 G0 σ H G ρ)(a:Aft K t t' H G H' G'):∃E,OffH t t' H0 E/\WH K t' E G0 σ H' G' ρ:=by
 let s:=w.sr
 let C:∀{b:Addr},H0 b=none->t b=none:=λ{b} h=>by
  cases z:t b with
  | none=>rfl
  | some x=>let:=w.h0 b x z;rw[h]at this;cases this
 let j:∀{b:Addr}{o:HO},_->_->_->_/\_/\_:=λ{b o} F q I=>by
  show{?_,a.keep b o (C F) q,?_}
  .show Classical.byContradiction λz=>?_
   let:=a.new b (C F) z;rw[q]at this;cases this
  .show Classical.byContradiction λz=>?_
   let:=a.n b I z;rw[q]at this;cases this
 show{λb=>if t' b=none then H0 b else H' b,{λb h=>if_pos h,a.grow,λb h N=>s.gr.h.free (a.new b h N)},{{λb u e=>?_,s.gr.g.trans a.g,a.s,λb h N=>?_},s.len,λi d e=>?_,λi l e=>?_,s.ap,λi J R S e=>?_,s.apd},λb x e=>?_,λb x e=>(s.gr.g.trans a.g).free (a.hw.g b x e),a.hw.ok}
 .by_cases z:t' b=none
  .simp [if_pos z]at e
   show a.keep b u (a.grow b z) (s.gr.h b u e)
  .simp [if_neg z]at e
   show e
 .let z:t' b=none:=by
   cases z:t' b with
   | none=>rfl
   | some x=>show absurd (a.hw.g b x z) N
  rw[if_pos z];by_cases y:G b=none
  .show s.gr.h.free (a.n b y N)
  .show s.gr.n b h y
 .let{v,g,k}:=s.sh i d e
  show{v,g,k.mono a.g}
 .let{b,Q,g,k,f,m,r}:=s.ow i l e
  let{n,p,B}:=j f m k;show{b,Q,g,B,by rwa [if_pos n],p,r.mono a.g}
 .let{b,A,O,g,k,f,m,r,L}:=s.od i J R S e
  let{o,D,_}:=m.some;let{n,p,B}:=j f D k;show{b,A,O,g,B,by rwa [if_pos n],m.mono a.g λM z=>by rw[D]at z;rwa [p],r.mono a.g,L.mono a.g}
 .rw[if_neg (by rw[e];show λz=>nomatch z)]
  show a.hw.h b x e
def WH.aft(w:WH K t' H0 G0 σ H G ρ){c d:Hp}(o:OffH t t' c H0)(g:d=G0):Aft K t t' c d H G:=by
 subst g;show{λa u h e=>?_,o.grow,o.new,w.hw,w.sr.gr.g,w.sr.gr.s,λa h i=>?_}
 .by_cases z:t' a=none
  .show w.sr.gr.h a u (by rwa [o.keep a z])
  .let:=o.new a h z
   rw[e]at this;cases this
 .let b:=w.sr.gr.n a h i
  by_cases z:t' a=none
  .rwa [<-o.keep a z]
  .let{x,f}:=Option.ne_none_iff_exists'.mp z
   rw[w.h0 a x f]at b;cases b
theorem WH.rebase(w:WH K t H0 G0 σ H G ρ):∃J,WH K t J G σ H G ρ/\∀t' v σ' H' G' ρ',OffH t t' J v->WH K t' v G σ' H' G' ρ'->∃L,OffH t t' H0 L/\WH K t' L G0 σ' H' G' ρ':=by
 classical
 let s:=w.sr
 let -nondep d:=λa=>∃(i:Nat),((∃l:AN,ρ[i]?=some (some (.ow l)))\/(∃t N O,ρ[i]?=some (some (.od t N O))))/\σ[i]?=some (some (.ref a))
 let E:∀a,d a->_/\_:=λa M=>by
  let{i,R,T}:=M;let{l,R}+{t,N,O,R}:=R
  .let{b,S,c,g,k,_}:=s.ow i l R
   rw[T]at c;cases c;show{(k),g}
  .let{b,m,B,c,g,k,_}:=s.od i t N O R
   rw[T]at c;cases c;show{(k),g}
 let n:∀a,(if d a then none else H a)=none->_:=λa h=>by
  by_cases o:d a
  .show(E a o).1
  .rw[if_neg o]at h;show s.gr.h.free h
 show{λa=>if d a then none else H a,{{{λb o e=>?_,.refl _,s.gr.s,λ_ h Q=>absurd h Q},s.len,s.sh,λi l e=>?_,s.ap,λi t N O e=>?_,s.apd},λa x e=>?_,λa x e=>w.no e,w.ok},λt' v σ' H' G' ρ' f A=>?_}
 .by_cases z:d b
  .simp only[if_pos z]at e;cases e
  .simp [if_neg z]at e;show e
 .let{a,S,c,g,k,p,F}:=s.ow i l e
  show{a,S,c,g,if_pos {i,.inl {(l),e},c},p,F}
 .let{a,m,B,c,g,k,p}:=s.od i t N O e
  show{a,m,B,c,g,if_pos {i,.inr {(t),N,O,e},c},p}
 .let z:¬d a:=λz=>by
   let:=(E a z).1;rw[w.h0 a x e]at this;cases this
  rw[if_neg z];show w.hw.h a x e
 .let j:=A.sr
  let r:∀a,v a=none->(if t' a=none then H0 a else v a)=none:=λa h=>by
   by_cases z:t' a=none
   .rw[if_pos z]
    rw[f.keep a z]at h;show n a h
   .rw[if_neg z];show h
  show{λa=>if t' a=none then H0 a else v a,{λa h=>if_pos h,f.grow,λa h Q=>n a (f.new a h Q)},{{λb u e=>?_,s.gr.g.trans j.gr.g,j.gr.s,λb h Q=>?_},j.len,j.sh,λi l e=>?_,j.ap,λi C N O e=>?_,j.apd},λa x e=>?_,λa x e=>s.gr.g.free (A.g0 a x e),A.ok}
  .show j.gr.h b u ?_
   by_cases z:t' b=none
   .simp [if_pos z]at e
    rw[f.keep b z]
    let I:¬d b:=λq=>by rw[(E b q).1]at e;cases e
    rw[if_neg I];show s.gr.h b u e
   .simp [if_neg z]at e;show e
  .by_cases z:G b=none
   .show r b (j.gr.n b z Q)
   .let q:=s.gr.n b h z
    let I:t' b=none:=by
     cases y:t' b with
     | none=>rfl
     | some x=>show absurd (A.g0 b x y) z
    rw[if_pos I];show q
  .let{a,S,c,g,k,p,F}:=j.ow i l e
   show{a,S,c,g,r a k,p,F}
  .let{a,m,B,c,g,k,p}:=j.od i C N O e
   show{a,m,B,c,g,r a k,p}
  .rw[if_neg (by rw[e];show λz=>nomatch z)]
   show A.h0 a x e
end
def ContH(K:W7)(t:Hs)(c b:Hp)(F:cX):b6 Hs->Prop
 | .nx g h=>∀e f i a,OffH t h c a->WH K h a b e f i g->F.nx e f
 | .rt d h=>∀v f i a,OffH t h c a->WH K h a b [] f i []->Rp K i d v->F.rt v f
 | .bk g h=>∀e f i a,OffH t h c a->WH K h a b e f i g->F.bk e f
 | .ct g h=>∀e f i a,OffH t h c a->WH K h a b e f i g->F.ct e f
def ContH.off{t t':Hs}{i h e:Hp}{F:cX}{o:b6 Hs}(f:OffH t t' i e)(c:ContH K t i h F o):ContH K t' e h F o:=by
 cases o with
 | nx m b=>show λj k l a g w=>c j k l a (f.trans g) w
 | rt d b=>show λv k l a g w=>c v k l a (f.trans g) w
 | bk m b=>show λj k l a g w=>c j k l a (f.trans g) w
 | ct m b=>show λj k l a g w=>c j k l a (f.trans g) w
abbrev Hm:=Ro->Hs->(b6 Hs->Prop)->Prop
abbrev He:=Ro->Hs->(D->Hs->Prop)->Prop
abbrev Ha:=Ro->Hs->(AN->Hs->Prop)->Prop
def qF(K:W7)(f:Hm):TS:=λF d H=>∃c t b a G Q,WH K t b a d H G c/\f c t Q/\∀o,Q o->ContH K t b a F o
def Uh(K:W7)(f:He):TE:=λi H Q=>∃e t c a G R,WH K t c a i H G e/\f e t R/\∀d h,R d h->∀v j g b,OffH t h c b->WH K h b a i j g e->Same G g->Rp K g d v->Q v j
def Ui(K:W7)(f:Ha):TA:=λk H Q=>∃g t c a G R,WH K t c a k H G g/\f g t R/\∀j e,R j e->∀h i d b,OffH t e c b->WH K e b a k i d g->Same G d->RpL K d j h->Q h i
def Uj(K:W7)(f:Ro->Hs->Option Bool):TT:=λe H Q=>∃c t k b a G,f c t=some k/\WH K t b a e H G c/\∀d g,Gr H G d g->Q k d
structure d_(X:Cx)(st:Stmt)(f:Hm):Prop where
 un:PS X st (qF X.K f)
structure eE(X:Cx)(sts:List Stmt)(f:Hm):Prop where
 un:PSs X sts (qF X.K f)
structure fw(X:Cx)(e:Expr)(f:He):Prop where
 un:PE X e (Uh X.K f)
structure vK(X:Cx)(es:AK)(f:Ha):Prop where
 un:PA X es (Ui X.K f)
structure vL(X:Cx)(e:Expr)(f:Ro->Hs->Option Bool):Prop where
 un:PT X e (Uj X.K f)
noncomputable def Dk(t:Hs):Out->b6 Hs
 | .nx a=>.nx a t
 | .rt d=>.rt d t
 | .bk a=>.bk a t
 | .ct a=>.ct a t
def fK(f:AR):Hm:=λa t Q=>∃o,f a=some o/\Q (Dk t o)
def ky:Hm:=λa t Q=>Q (.nx a t)
def bx(f g:Hm):Hm:=λb t Q=>f b t fun
 | .nx a c=>g a c Q
 | o=>Q o
def Dl(c:Ro->Hs->Option Bool)(f g:Hm):Hm:=λa t Q=>∃k,c a t=some k/\((k=true->f a t Q)/\(k=false->g a t Q))
def eF(gt:AS)(fb:Hm):AN->Hm
 | [],ρ,t,Q=>Q (.nx ρ t)
 | d::ds,ρ,t,Q=>∃c,gt d ρ=some c/\fb c t fun
   | .nx a b=>eF gt fb ds a b Q
   | .ct a b=>eF gt fb ds a b Q
   | .bk a b=>Q (.nx a b)
   | .rt d b=>Q (.rt d b)
def kz(a:AV)(gt:AS)(fb:Hm):Hm:=λb t Q=>∃c,a b=some c/\eF gt fb c b t Q
section
variable {fs gs:Hm}
theorem kA{f:AR}(h:ZS X st f):d_ X st (fK f):=⟨PS.imp h.un λF E H z=>by
 let{B,t,I,D,G,Q,w,{o,C,q},c}:=z;let{A,x,u}:=w.rebase;let c:=c _ q;show{B,o,A,G,G,C,x.sr,?_};let y:=λ{σ' b j ρ'} k=>u t A σ' b j ρ' .refl {k,x.h0,x.g0,λa s e=>(x.ok a s e).mono k.gr.g}
 cases o with
 | nx ρ'=>
   show λσ' b j k=>by
    let{p,m,n}:=y k;show c σ' b j p m n
 | rt d=>
   show λv b j g r=>by
    let{p,m,n}:=y (σ':=[]) (ρ':=[]) (.mkSh g rfl (λi d e=>by simp at e) (λi l e=>by simp at e) (λi t K J e=>by simp at e));show c v b j p m n r
 | bk ρ'=>
   show λσ' b j k=>by
    let{p,m,n}:=y k;show c σ' b j p m n
 | ct ρ'=>
   show λσ' b j k=>by
    let{p,m,n}:=y k
    show c σ' b j p m n⟩
def Dm:eE X [] ky:=⟨PSs.imp nE λF e H a=>by
 let{f,t,b,d,G,Q,w,q,c}:=a
 show c _ q e H G b .refl w⟩
def qG(h:d_ X st fs):eE X [st] fs:={tF h.un}
def kB(h:d_ X st fs)(l:eE X sts gs):eE X (st::sts) (bx fs gs):=⟨PSs.imp (eO h.un l.un) λF u H b=>by
 let{p,t,j,e,G,Q,w,q,c}:=b;show{p,t,j,e,G,_,w,q,λo a=>?_}
 cases o with
 | nx m n=>show λr v s k f i=>{m,n,k,e,s,Q,i,a,λo g=>(c o g).off f}
 | rt d n=>show c _ a
 | bk m n=>show c _ a
 | ct m n=>show c _ a⟩
def Dn{c:Expr}{a b:List Stmt}{fc:Ro->Hs->Option Bool}(j:vL X c fc)(n:eE X a fs)(q:eE X b gs):d_ X (.If c a b pos) (Dl fc fs gs):=⟨PS.imp (lH j.un n.un q.un) λF r H d=>by
 let{p,t,e,f,G,Q,w,{k,m,i,l},c}:=d;show{p,t,k,e,f,G,m,w,λo h g=>?_}
 cases k with
 | true=>show oa {p,t,e,f,h,Q,w.grow g,i rfl,c}
 | false=>show zM {p,t,e,f,h,Q,w.grow g,l rfl,c}⟩
theorem Do{b:Expr}{g:List Stmt}{gt:AS}(hp:PassesOwn (mZ X.prog X.w) X.A X.env X.xe)(U:X.calm=true)(ua:ZI X tg b gl)(hg:ZG X tg gt)(hb:eE X g fs)(hs:∀x,foldedSetIterable b X.env x=pure x:=by intro _;rfl):d_ X (.For tg b g [] pos) (kz gl gt fs):=
 ⟨PS.imp (yN hp U ua.un hg.un hb.un hs) λF σ H M=>by
  let{ρ,t,H0,G0,G,Q,w,{ds,T,h2},c}:=M;show{ρ,ds,H0,G0,G,T,w.sr,λJ H1 A g1 S=>?_};let{N,Z,a}:=(w.grow g1).rebase;show{λi m σ' H'=>m=ds.length-i/\i<=ds.length/\∃K t' G' h,OffH t t' N h/\WH X.K t' h A σ' H' G' K/\eF gt fs (ds.drop i) K t' Q,{_,rfl,Qh _,ρ,t,A,N,.refl,Z,h2},?_};rintro i m σ' H' ⟨rfl,ua,K,t',G',h,fc,E,p⟩;let W:=S.2 i H' G' E.sr.gr.g E.sr.seen;by_cases e:i<ds.length
  .let{go,Y}:=W.1 _ (qr e)
   rw[List.drop_eq_getElem_cons e]at p;let{B,e1,p}:=p;show .inr {go,λσ' H'=>i+1<=ds.length/\∃K t' G' h,OffH t t' N h/\WH X.K t' h A σ' H' G' K/\eF gt fs _ K t' Q,λσ2 R q=>{ds.length-(i+1),by symm,rfl,q.1,q.2},λx R y=>?_};let{O,g2,V}:=Y x R y;let I:=E.grow g2;show{_,K,B,h,A,O,e1,I.sr,V,λσ3 s3=>{B,t',h,A,O,_,{(s3),I.h0,I.g0,I.ok},p,λo L=>?_}}
   cases o with
   | nx f C=>show λl z n r k j=>{e,f,C,n,r,fc.trans k,j,L}
   | ct f C=>show λl z n r k j=>{e,f,C,n,r,fc.trans k,j,L}
   | bk f C=>
     show λl z n r k j=>by
      let{He,u,s}:=a _ _ _ _ _ _ (fc.trans k) j;show c _ L l z n He u s
   | rt d C=>
     show λv z n r k j r4=>by
      let{He,u,s}:=a _ _ _ _ _ _ (fc.trans k) j;show c _ L v z n He u s r4
  .let ei:i=ds.length:=by ac_nf
   subst ei;rw[List.drop_length]at p;let{He,u,s}:=a _ _ _ _ _ _ fc E
   show .inl {W.2 (qv _),c _ p σ' H' G' He u s}⟩
end
mutual
def bp(t:Hs):D->D
 | .non=>.non
 | .bl b=>.bl b
 | .int i=>.int i
 | .str x=>.str x
 | .tup l=>.tup (cQ t l)
 | .lst l=>.lst (cQ t l)
 | .scr ns=>.scr ns
 | .dct b ks vs=>.dct b ks vs
 | .obj c ks vs=>.obj c ks (cQ t vs)
 | .adr a=>match t a with
   | some s=>s.d
   | none=>.adr a
def cQ(t:Hs):AN->AN
 | []=>[]
 | d::l=>bp t d::cQ t l
end
noncomputable def MQ(t:Hs):B->B
 | .sh d=>.sh (bp t d)
 | .ow l=>.ow l
 | .od b c a=>.od b c a
def gL(t:Hs)(ρ:Ro):Ro:=ρ.map (.map (MQ t))
def ir(t:Hs)(G:Hp):Hp:=λa=>match t a with
 | some s=>some s.ho
 | none=>G a
section
variable {t:Hs}{G:Hp}
def Dp{a:Addr}{s:HS}(h:t a=some s):ir t G a=some s.ho:=by unfold ir;rw[h]
def qH{a:Addr}(h:t a=none):ir t G a=G a:=by unfold ir;rw[h]
def HW.same{H:Hp}(w:HW K t H G):Same G (ir t G):=λa o e=>by
 cases h:t a with
 | none=>rwa [qH h]
 | some s=>rw[w.g a s h]at e;cases e
mutual
theorem Rp.thaw{H:Hp}(w:HW K t H G):∀{d:D}{v:V},Rp K G d v->Rp K (ir t G) (bp t d) v
 | .non,_,r=>r.mono w.same
 | .bl _,_,r=>r.mono w.same
 | .int _,_,r=>r.mono w.same
 | .str _,_,r=>r.mono w.same
 | .tup l,_,r=>by
   let{a,xs,e,g,q}:=r;show{a,xs,e,w.same _ _ g,RpL.thaw w q}
 | .lst l,_,r=>by
   let{a,xs,e,g,q}:=r;show{a,xs,e,dv w.same g,RpL.thaw w q}
 | .scr _,_,r=>r.mono w.same
 | .dct _ _ _,_,r=>r.mono w.same
 | .obj c ks vs,_,r=>by
   let{a,C,b,xs,e,n,g,l,q}:=r;show{a,C,b,xs,e,n,w.same _ _ g,l,RpL.thaw w q}
 | .adr a,_,r=>by
   subst r;rw[bp]
   cases h:t a with
   | none=>rw[Rp]
   | some s=>
     cases s with
     | bls y=>
       show{a,y.map V.bl,rfl,.inl (Dp h),Mn y}
     | ins c C b ks vs ds=>
       let{i,f,j}:=w.ok a _ h;show{a,C,b,vs,rfl,i,Dp h,f,j.mono w.same}
theorem RpL.thaw{H:Hp}(w:HW K t H G):∀{l:AN}{xs:AM},RpL K G l xs->RpL K (ir t G) (cQ t l) xs
 | [],_,r=>by subst r;show .nil
 | d::l,_,r=>by
   let{x,xs,rfl,g,q}:=r;show .cons (Rp.thaw w g) (RpL.thaw w q)
end
def kC{ρ:Ro}{j:Nat}{b:B}(h:(gL t ρ)[j]?=some (some b)):∃a,ρ[j]?=some (some a)/\MQ t a=b:=by
 unfold gL at h;rw[Qm]at h;let{o,e,d}:=qc h;let{a,rfl,c}:=qc d;show{(a),e,c}
theorem WH.thaw{E J H:Hp}{σ:L2.St}{ρ:Ro}(w:WH K t E J σ H G ρ):∃P,SR K P J σ H (ir t G) (gL t ρ):=by
 let s:=w.sr
 let p:∀{b:Addr},E b=none->t b=none:=λ{b} h=>by
  cases z:t b with
  | none=>rfl
  | some x=>let:=w.h0 b x z;rw[h]at this;cases this
 show{λa=>if t a=none then E a else none,{{λb o e=>?_,s.gr.g.trans w.hw.same,λb o e=>?_,λb h h'=>?_},by unfold gL;rw[qf];show s.len,λj d e=>?_,λj l e=>?_,λj k l V a b f c D A I=>?_,λj M ks vs e=>?_,λj k R Y S U X T a b f c D A I=>?_}}
 .by_cases z:t b=none
  .simp [if_pos z]at e;show s.gr.h b o e
  .simp only[if_neg z]at e;cases e
 .cases z:t b with
  | none=>rw[qH z]at e;show s.gr.s b o e
  | some x=>rw[Dp z]at e;rw[<-e];show w.hw.h b x z
 .cases z:t b with
  | none=>
    rw[qH z]at h';show s.gr.n b h h'
  | some x=>show if_neg (λy=>nomatch y)
 .let{i,f,c}:=kC e
  cases i with
  | sh C=>
    cases c;let{v,m,n}:=s.sh j C f;show{v,m,n.thaw w.hw}
  | ow l=>cases c
  | od b ks vs=>cases c
 .let{i,f,c}:=kC e
  cases i with
  | sh C=>cases c
  | ow L=>
    cases c;let{a,xs,m,n,g,u,B}:=s.ow j l f;show{a,xs,m,by rwa [qH (p g)],by rwa [if_pos (p g)],u,B.mono w.hw.same}
  | od b ks vs=>cases c
 .let{b1,e1,e2}:=kC f
  let{b2,r,F}:=kC c;cases b1<;>cases e2;cases b2<;>cases F;show s.ap j k _ _ a b e1 r D A I
 .let{i,f,c}:=kC e
  cases i with
  | sh C=>cases c
  | ow L=>cases c
  | od i O N=>
    cases c;let{a,q,Z,m,n,g,u,B,Q}:=s.od j M ks vs f;show{a,q,Z,m,by rwa [qH (p g)],by rwa [if_pos (p g)],u.mono w.hw.same λ_ z=>z,B.mono w.hw.same,Q.mono w.hw.same}
 .let{b1,e1,e2}:=kC f
  let{b2,r,F}:=kC c;cases b1<;>cases e2;cases b2<;>cases F;show s.apd j k _ _ _ _ _ _ a b e1 r D A I
end
def Dq(f:AU):He:=λρ t Q=>∃d,f ρ=some d/\Q d t
def Dr(f:AU):He:=λa t Q=>∃d,f (gL t a)=some d/\o7 d=true/\Q d t
def mq(f:AT):Ro->Hs->Option Bool:=λa t=>f (gL t a)
def qI:Ha:=λ_ t Q=>Q [] t
def qJ(f:He)(g:Ha):Ha:=λρ t Q=>f ρ t λd a=>g ρ a λds b=>Q (d::ds) b
def gj(i:Nat)(f:He):Hm:=λa t Q=>f a t λd b=>Q (.nx (a.set i (↑d)) b)
def gm(f:He):Hm:=λa t Q=>f a t λd b=>Q (.rt d b)
def MR(f:He):Hm:=λa t Q=>f a t λ_ b=>Q (.nx a b)
def qK(is:AE)(f:Hm):Hm:=λρ t Q=>f (frz is ρ) t Q
section
variable {e c:Expr}{f:AU}{fe:He}{ga:Ha}{fs:Hm}
def Ds(h:ZE X e f):fw X e (Dq f):=⟨PE.imp h.un λσ H Q a=>by
 let{ρ,t,b,i,G,R,w,{d,j,q},k}:=a
 show{ρ,d,b,i,G,j,w.sr,λv H' G' g r=>k d t q v H' G' b OffH.refl (w.grow g) g.g r}⟩
def Dt(h:ZE X e f):fw X e (Dr f):=⟨PE.imp h.un λp H Q a=>by
 let{o,t,j,b,G,R,w,{d,i,n,q},k}:=a;let{m,l}:=w.thaw
 show{_,d,m,b,_,i,l,λv c s g r=>k d t q v c G j .refl (w.grow (.back w.sr.seen g)) (.refl _) (r.scal n)}⟩
def MU{fc:AT}(h:ZT X c fc):vL X c (mq fc):=⟨PT.imp h.un λm H Q a=>by
 let{n,t,k,j,b,G,e,w,q}:=a;let{d,i}:=w.thaw
 show{_,k,d,b,_,e,i,λf l g=>q f G (.back w.sr.seen g)}⟩
def Du:vK X [] qI:=⟨PA.imp dC λσ H Q a=>by
 let{ρ,t,b,d,G,R,w,q,k}:=a
 show k [] t q [] H G b OffH.refl w (Same.refl _) .nil⟩
def Dv(n:fw X e fe)(hb:vK X es ga)(hs:Zj X e es:=by rfl):vK X (e::es) (qJ fe ga):=⟨PA.imp (cx n.un hb.un hs) λσ H Q a=>by
 let{ρ,t,j,d,G,R,w,q,k}:=a
 show{ρ,t,j,d,G,_,w,q,λr o h v E g Ha C A B m=>{ρ,o,Ha,d,g,_,A,h,λds i u vs p z s y x b l=>k (r::ds) i u (v::vs) p z s (C.trans y) x (B.trans b) (.cons (m.mono b) l)}}⟩
theorem MV(i:Nat){y:Str}(j:X.N.Nodup)(h:fw X e fe)(m:X.N[i]?=some y:=by rfl)(r:dO X.env.scope y:=by trivial)(b:swapsWith e (some (.Name y p1)) pos.line X.env=pure false:=by rfl)(o:Zm X y:=by trivial):d_ X (.Assign [.Name y p1] e pos) (gj i fe):=⟨PS.imp (nJ j m r h.un b o) λF C H g=>by
 let{z,t,n,u,G,Q,w,q,c}:=g
 show{z,t,n,u,G,_,w,q,λd B k v A f l s a x p=>c _ k _ A f l s {a.sr.set_sh i p,a.h0,a.g0,a.ok}}⟩
def Dw(h:fw X e fe):d_ X (.Return (some e) pos) (gm fe):=⟨PS.imp (yA h.un) λF s H a=>by
 let{o,t,j,m,G,Q,w,q,c}:=a
 show{o,t,j,m,G,_,w,q,λd r g v p f i l k n b=>c _ g v p f i l k.bare b}⟩
def MX(h:fw X e fe)(b:swapsWith e none pos.line X.env=pure false:=by rfl):d_ X (.Expr e pos) (MR fe):=⟨PS.imp (iR h.un b) λF p H a=>by
 let{f,t,j,g,G,Q,w,q,c}:=a
 show{f,t,j,g,G,_,w,q,λd u l v s r i m k n o=>c _ l p s r i m k}⟩
def Dx(is:AE)(h:d_ X st fs):d_ X st (qK is fs):=⟨PS.imp h.un λF σ H hx_=>by
 let{ρ,t,H0,G0,G,Q,w,q,c}:=hx_;let{Hb,wb,back}:=w.rebase;let{Gf,sf}:=SR.frz is wb.sr;let{H3,f3,w3}:=back t Hb σ H Gf _ OffH.refl {sf,wb.h0,wb.g0,λa s e=>(wb.ok a s e).mono sf.gr.g}
 show{_,t,H3,G0,Gf,Q,w3,q,λo ho=>(c o ho).off f3}⟩
end
def jh(K:W7)(n:Nat)(m:AN->Hs->(D->Hs->Prop)->Prop):Sp:=λa H Q _=>a.length=n/\∃c t G R,RpL K G c a/\Same G H/\HW K t H G/\m c t R/\∀d b,R d b->∀v e f,Aft K t b H G e f->Rp K f d v->Q v e
def cN(n:Nat)(g:Hm)(b:AN)(t:Hs)(R:D->Hs->Prop):Prop:=g (Ye n b) t fun
 | .rt d a=>R d a
 | .nx _ a=>R .non a
 | _=>False
def vN(P:P7)(w:World)(K:W7)(c:AD)(b:Heap)(k n:Nat)(x:Str)(ps:AJ)(m:AN->Hs->(D->Hs->Prop)->Prop):Prop:=
 ∃a d,FnOk P w K c b bY k a d ps (jh K n m)/\Binds K d ps []/\W.keepIn K (.ref a)=true/\c x=some (.ref a)
section
variable {P:P7}{w:World}
theorem Dy{x b:Str}{st:Stmt}{f:Addr}{r:FuncData}{N U:AJ}{k n m:Nat}{g:Hm}(F:Fun K x b st f r)(S:cG N U (aBb st))(I:N.length=n)(u:U.length=m)(Y:∀(c:Value) (A:Around) (a:List Env) (s:Shared) (H:Hp) (E:XK),Room k (A.deeper (envOfC b (aBb st) (~~~s) f c))->eE (ay bY P w K mg base N b (aBb st) f c A a s H E).nox (aDb st) g):
 FnOk P w K mg base bY (k+1) f r U (jh K m (cN n g)):=by
 show F.ok S (λV H Q E h=>by rw[h.1,u]) λc A a s H V Q E z h=>?_;let{J,ds,t,G,R,D,C,j,e,q}:=h;show{_,(Y c A a s H E z).un,?_}
 let s0:SR K H G (start N V) H G (Ye n ds):=by
  rw[<-I];show .start C D
 show{_,t,H,G,G,_,{(s0),j.h,j.g,j.ok},e,λo i=>?_}
 cases o with
 | rt d M=>show λv T O B p l y=>q d M i v T O (l.aft p rfl) y
 | nx L M=>show λZ T O B p l=>q _ M i _ T O (l.aft p rfl) (by rw[Rp])
 | bk L M=>show i.elim
 | ct L M=>show i.elim
end
def kE(a:AV)(m:AN->Hs->(D->Hs->Prop)->Prop):He:=λρ t Q=>∃ds,a ρ=some ds/\∃R,m ds t R/\∀d t',R d t'->Q d t'
section
variable {e o:Expr}{ga:AV}{m:AN->Hs->(D->Hs->Prop)->Prop}{p:Pos}
theorem MY{j k n:Nat}{x:Str}{ps:AJ}(c:vN X.prog X.w X.K X.mg X.base j n x ps m)(J:Room k X.A)(B:Gl X x)(O:ZA X (e::es) ga)(A:∀ρ ds,ga ρ=some ds->ds.length=n)(T:j<=k:=by first|show qv _|ac_nf)(f:ba x:=by decide)(N:Zj X e es:=by rfl)(b:Zk X cpos es:=by rfl):fw X (.Call (.Name x p) (e::es) [] cpos) (kE ga m):=by
 let{a,Z,F,hb,y,U}:=c;show{PE.imp (nU (F.mono T) J B U y hb .nil jK O.un f N b) λσ H Q g=>?_};let{ρ,t,W,Y,G,R,w,{ds,i,z,P,I},k}:=g;show tAof.at i w.sr λvs V C s q u=>?_;let h:=w.grow s;rw[wz];show{by rw[q.length,A ρ ds i],ds,t,C,z,q,u.seen,h.hw,P,λd t' E v H' G' l r=>?_};let{M,L,S}:=h.after l;show k d t' (I d t' E) v H' G' M L S (s.g.trans l.g) r
end
section
variable {k:Nat}{m:Str}{e o:Expr}{ta:TE}{t:TA}{ι:Type}{Cf:ι->Addr}{S:ι->Sp}
theorem Dz{Z:Sem Bool}(J:PE X o ta)(C:∀i:ι,∃f j U,Cls X.K (Cf i)/\dQ X.K (Cf i) m f/\FnOk X.prog X.w X.K X.mg X.base bY k f j U (S i)/\Binds X.K j U [])(D:Room k X.A)(L:PA X (e::es) t)(p:Zj X e es:=by rfl)(g:Zk X pos es:=by rfl)(P:eval (.Call (.Attribute o m apos) (e::es) [] pos) X.env=(do
  let B <-eval o X.env
  standAt apos.atName
  let (f,first) <-holding [B] (getMethod B m Z)
  callWith pos f first (backTo pos (starEach (e::es) X.env)) (backToKw pos (keywordEach [] X.env))):=by rfl):
 PE X (.Call (.Attribute o m apos) (e::es) [] pos) (λσ H Q=>ta σ H λx b=>∃i a w n,x=.ref a/\b a=some (.ins (Cf i) w n)/\n.lookup m=none/\t σ b λvs z=>S i (x::vs) z Q E0):=by
 intro V s σ H Q I h;show W.methodCall_KW (aD (J _ s σ H _ I h) λu R c=>?_) P;let{x,b,A,M,i,a,w,n,G,O,l,q}:=c;subst G;obtain rfl:=M;let{f,j,U,E,y,F,Y}:=C i;show zi A O E y l (W.callWith_K I.ok.mod.kin y.kp (aD (L pos _ R σ b _ A q) λus T d=>?_) p g);let{vs,z,v,r,N}:=d;show{v.kIn,nR (vs:=.ref a::vs) F D Y .nil jK v (.cons rfl r) ?_}
 rwa [wz]
end
abbrev Hf:=AN->Hs->(D->Hs->Prop)->Prop
def OkTb(P:P7)(w:World)(K:W7)(d:AD)(a:Heap)(k:Nat)(m:Str){b:Type}(sp:b->Sp):List (Str×b)->Prop
 | []=>True
 | (c,e)::r=>(∃ps,gh P w K d a k c m ps (sp e))/\OkTb P w K d a k m sp r
theorem OkTb.look{P:P7}{w:World}{g:AD}{a:Heap}{k:Nat}{m:Str}{b:Type}{sp:b->Sp}{c:Str}{f:b}:∀{d:List (Str×b)},OkTb P w K g a k m sp d->d.lookup c=some f->∃n,gh P w K g a k c m n (sp f)
 | [],_,e=>by cases e
 | (l,i)::r,h,e=>by
   rw[List.lookup_cons]at e
   split at e
   .rename_i j
    cases e;rw[eq_of_beq j];show h.1
   .show OkTb.look h.2 e
noncomputable def iu(t:Hs):D->Option (Str×AJ)
 | .obj c b _=>some (c,b)
 | .adr a=>match t a with
   | some (.ins c _ _ b _ _)=>some (c,b)
   | _=>none
 | _=>none
def qL(m:Str)(e:List (Str×Hf))(f:AU)(b:AV):He:=λg t Q=>∃x j c i a R,f g=some x/\b g=some j/\iu t x=some (c,i)/\m∉i/\e.lookup c=some a/\a (x::j) t R/\∀d h,R d h->Q d h
section
variable {e o:Expr}{ga:AV}{p:Pos}{m:Str}
theorem MZ{j k n:Nat}{Z:List (Str×Hf)}{pl:Sem Bool}(T:OkTb X.prog X.w X.K X.mg X.base j m (jh X.K (n+1)) Z)(hr:Room k X.A)(ho:ZE X o fo)(y:ZA X (e::es) ga)(hl:∀ρ ds,ga ρ=some ds->ds.length=n)(hj:j<=k:=by first|show qv _|ac_nf)(O:Zj X e es:=by rfl)(hpl:Zk X cpos es:=by rfl)(ht:eval (.Call (.Attribute o m apos) (e::es) [] cpos) X.env=(do
  let ov <-eval o X.env
  standAt apos.atName
  let (f,first) <-holding [ov] (getMethod ov m pl)
  callWith cpos f first (backTo cpos (starEach (e::es) X.env)) (backToKw cpos (keywordEach [] X.env))):=by rfl):fw X (.Call (.Attribute o m apos) (e::es) [] cpos) (qL m Z fo ga):=by
 let hm:∀i:{ p:Addr×Hf // ∃c K f b,FnOk X.prog X.w X.K X.mg X.base bY j f b K (jh X.K (n+1) p.2)/\Binds X.K b K []/\W.nsIn X.K mainGlobals c=some (some (.ref p.1))/\Cls X.K p.1/\dQ X.K p.1 m f},∃f b K,_/\_/\_/\_:=λi=>by
  let{c,K,f,b,F,hb,u,A,L}:=i.2;show{f,b,K,A,L,F.mono hj,hb}
 show{PE.imp (Dz ho.un hm hr y.un O hpl ht) λσ H Q I=>?_};let{ρ,t,H0,G0,G,R,w,{x,ds,c,ks,fn,R',h1,Y,h,h4,h5,h6,h7},kk}:=I;let{K,C,f,b,F,hb,u,A,L}:=T.look h5;show tOf.at h1 w.sr λv H1 G1 D B M=>?_;let z:=w.grow D
 let E:∃a s xs,v=.ref a/\H1 a=some (.ins C s (ks.zip xs)):=by
  unfold iu at h
  split at h
  .cases h
   let{a,C',s,xs,rfl,S,g,l,q}:=B;rw[u]at S;cases S;show{a,s,xs,rfl,M.seen _ _ g}
  .rename_i a
   split at h
   .rename_i c' C' s ks' vs ds' y
    cases h;subst B;let{o1,o2,o3}:=z.ok a _ y;rw[u]at o1;cases o1;show{a,s,vs,rfl,z.hw.h a _ y}
   .cases h
  .cases h
 let{a,s,xs,rfl,N}:=E;show{{(C,fn),c,K,f,b,F,hb,u,A,L},a,s,_,rfl,N,vB h4,tAof.at Y M λvs H2 G2 J U s2=>?_};let w2:=z.grow J;show{by rw[qt,U.length,hl ρ ds Y],x::ds,t,G2,R',.cons (B.mono J.g) U,s2.seen,w2.hw,h6,λd t' hd v H' G' V r=>?_};let{H3,f3,w3}:=w2.after V;show kk d t' (h7 d t' hd) v H' G' H3 f3 w3 ((D.g.trans J.g).trans V.g) r
end
noncomputable def qB:D->Bool
 | .adr _=>true
 | d=>gF d
def HS.pl:HS->Bool
 | .bls _=>true
 | .ins _ _ _ _ _ a=>a.all qB
def Rp.q{G e:Hp}(c:∀b ys,G b=some (HO.tup ys)->e b=some (HO.tup ys)){d:D}{v:V}(h:qB d=true)(r:Rp K G d v):Rp K e d v:=by
 cases d with
 | adr a=>show r
 | _=>show r.plain c h
theorem RpL.q{G c:Hp}(a:∀b ys,G b=some (HO.tup ys)->c b=some (HO.tup ys)):∀{l:AN}{xs:AM},l.all qB=true->RpL K G l xs->RpL K c l xs
 | [],_,_,r=>r
 | d::l,_,h,r=>by
   rw[List.all_cons,Qe]at h;let{x,xs,e,g,q}:=r;show{x,xs,e,g.q a h.1,.q a h.2 q}
theorem HS.ok.q{G e:Hp}(d:∀b ys,G b=some (HO.tup ys)->e b=some (HO.tup ys)):∀{s:HS},s.pl=true->s.ok K G->s.ok K e
 | .bls _,_,_=>trivial
 | .ins ..,h,⟨a,b,c⟩=>{a,b,c.q d h}
def DA(P:P7)(w:World)(K:W7)(b:AD)(a:Heap)(k n:Nat)(c:Str)(i:AJ)(e:AN)(m:Hf):Prop:=
 ∃C f d h g,W.nsIn K mainGlobals c=some (some (.ref C))/\b c=some (.ref C)/\Mk K C f/\FnOk P w K b a bY k f d i (jh K n m)/\Binds K d i h/\Vals g h/\∀G,RpL K G e g
def iw(c:Str)(shown:Bool)(g:AE)(i:AN)(f:AV)(m:Hf):He:=λn t Q=>∃j,f (frz g n)=some j/\∀x C e,t x=none->∃R,m (.adr x::(j++i)) (pt t x (some (.ins c C e [] [] []))) R/\
 ∀d h,R d h->(∀a s,h a=some s->t a=some s\/s.pl=true)/\d=.non/\(shown=false->Q (.adr x) h)/\(shown=true->∃k l b,h x=some (.ins c C e k l b)/\Q (.obj c k b) (pt h x none))
section
variable {e:Expr}{ga:AV}{p:Pos}{m:Hf}
theorem M0(shown:Bool)(is:AE){k k' n:Nat}{c:Str}{ps:AJ}{K:AN}(O:DA X.prog X.w X.K X.mg X.base k (n+1) c ps K m)(hr:Room k' X.A)(hg:Gl X c)(ha:ZA X (e::es) ga)(hl:∀ρ ds,ga ρ=some ds->ds.length+K.length=n)(hk:k+1<=k':=by first|show qv _|ac_nf)(hdb:(c==("__debug__":Str))=false:=by decide)(he:Zj X e es:=by rfl)(T:Zk X cpos es:=by rfl):
 fw X (.Call (.Name c p) (e::es) [] cpos) (iw c shown is K ga m):=by
 let{C,f,fd,dfs,dfv,hC,hm,mk,F,hb,hdv,hdd}:=O;show{PE.imp (zv (E:=E0) mk F (hr.mono hk) hg hm hb hdv jK ha.un hdb he T) λσ H Q hx_=>?_};let{ρ,t,H0,G0,G,R,w,{ds,h1,h2},kk}:=hx_;let{Hb,wb,_}:=w.rebase;let{Gf,sf,ht}:=SR.frzT is wb.sr;let smf:Same G Gf:=sf.gr.g;show tAof.at h1 sf λvs H1 V N r1 s1=>?_;intro x A hx0 W hne;let u:H x=none:=N.h.free hx0;let L:H A=none:=N.h.free W
 let hid1:=λa s e=>by
  let j:=w.hw.h a s e
  let h4:Gf a=none:=by
   show Classical.byContradiction λz=>?_;let:=sf.gr.n a (w.no e) z;rw[wb.h0 a s e]at this;cases this
  show Classical.byContradiction λz=>?_;let:=N.n a h4 z;rw[j]at this;cases this
 let tx:t x=none:=by
  cases z:t x with
  | none=>rfl
  | some s=>rw[w.hw.h x s z]at u;cases u
 let g1x:V x=none:=s1.seen.free hx0;let g1dx:V A=none:=s1.seen.free W;let{R',hi,hR}:=h2 x C A tx;show{by rw[qt,qz,r1.length,(hdd V).length,hl _ ds h1],.adr x::(ds++K),_,V,R',.cons (by rw[Rp]) (r1.append (hdd V)),λa o g=>?_,{λa s e=>?_,λa s e=>?_,λa s e=>?_},hi,λd t' hd v H' G' S rd=>?_}
 .let n1:a≠x:=λz=>by rw[z,g1x]at g;cases g
  let U:a≠A:=λz=>by rw[z,g1dx]at g;cases g
  rw[Yl n1,Yl U];show s1.seen a o g
 .by_cases z:a=x
  .rw[z];show g1x
  .rw[bS z]at e;show hid1 a s e
 .by_cases z:a=x
  .subst z
   rw[cW]at e;cases e;rw[Yo];rfl
  .rw[bS z]at e
   let j:=N.h _ _ (w.hw.h a s e)
   let U:a≠A:=λy=>by rw[y,W]at j;cases j
   rw[Yl z,Yl U];show j
 .by_cases z:a=x
  .subst z
   rw[cW]at e;cases e;show{hC,rfl,.nil}
  .rw[bS z]at e
   show(w.ok a s e).mono (smf.trans N.g)
 let{T,rfl,hsf,hst}:=hR d t' hd;rw[Rp]at rd;subst rd;show{rfl,?_};let Z:∀a,a≠x->pt t x (some (HS.ins c C A [] [] [])) a=t a:=λa z=>bS z
 let J:∀a,t a=none->t' a≠none->H a=none:=λa h h'=>by
  by_cases z:a=x
  .rw[z];show u
  .let j:=S.new a (by rw[Z a z];show h) h'
   rw[Yl z]at j;by_cases y:a=A
   .rw[y];show L
   .rw[Yl y]at j;show N.h.free j
 let E:∀a,t' a=none->t a=none:=λa h=>by
  let j:=S.grow a h;by_cases z:a=x
  .rw[z];show tx
  .rw[Z a z]at j;show j
 let l:=λa o h g=>by
  let j:=N.h a o g
  let n1:a≠x:=λz=>by rw[z,u]at g;cases g
  let U:a≠A:=λz=>by rw[z,L]at g;cases g
  show S.keep a o (by rw[Z a n1];show h) (by rw[Yl n1,Yl U];show j)
 let -nondep M:Hp:=λa=>if H a=none then G' a else G a
 let Y:∀{a},H a=none->M a=G' a:=λh=>if_pos h;let B:∀{a},H a≠none->M a=G a:=λh=>if_neg h
 let I:Same G M:=λa o g=>by
  rw[B (by rw[w.sr.seen a o g];show λy=>nomatch y)];show g
 let hs2:Same M H':=λa o g=>by
  by_cases z:H a=none
  .rw[Y z]at g;show S.s a o g
  .rw[B z]at g
   let tn:t a=none:=by
    cases y:t a with
    | none=>rfl
    | some s=>rw[w.no y]at g;cases g
   show l a o tn (w.sr.seen a o g)
 let tup:∀b ys,G' b=some (HO.tup ys)->M b=some (HO.tup ys):=λb ys hb=>by
  by_cases z:H b=none
  .rw[Y z];show hb
  .rw[B z]
   show ht b ys ?_
   let hb1:V b=some (HO.tup ys):=by
    cases q:V b with
    | none=>
      let j:=S.n b q (by rw[hb];show λy=>nomatch y);let n1:b≠x:=λy=>z (by rw[y];show u);let U:b≠A:=λy=>z (by rw[y];show L);rw[Yl n1,Yl U]at j;show absurd (N.h.free j) z
    | some o=>
      let:=S.g _ _ q;rw[hb]at this;cases this;rfl
   cases q:Gf b with
   | none=>show absurd (N.n b q (by rw[hb1];show λy=>nomatch y)) z
   | some o=>
     let:=N.g _ _ q;rw[hb1]at this;cases this;rfl
 let r:HW X.K t' H' M:=⟨λa s e=>by
  by_cases z:H a=none
  .rw[Y z];show S.hw.g a s e
  .rw[B z]
   cases y:t a with
   | none=>show absurd (J a y (by rw[e];show λq=>nomatch q)) z
   | some s'=>show w.no y,S.hw.h,λa s e=>by
  let h+h:=T a s e
  .show(w.ok a s h).mono I
  .show(S.hw.ok a s e).q tup h⟩
 let hn2:∀a,G a=none->M a≠none->H a=none:=λa h h'=>Classical.byContradiction λz=>h' (by rw[B z];show h)
 cases shown with
 | false=>
   let{H3,f3,w3}:=w.after {(l),E,J,r,I,hs2,hn2};show kk _ _ (hsf rfl) _ H' M H3 f3 w3 I (by rw[Rp])
 | true=>
   let{ks,ws,es,hx,hq}:=hst rfl;let g2x:=r.g x _ hx
   let P:Same M (upd M x (.ins C A (ks.zip ws))):=λa o g=>by rw[Yl (Yr g g2x)];show g
   let{o1,o2,o3}:=r.ok x _ hx
   let{H3,f3,w3}:=w.after (t':=pt t' x none) (H':=H') ⟨l,λa h=>by
    by_cases z:a=x
    .rw[z];show tx
    .rw[bS z]at h;show E a h,λa h h'=>by
    by_cases z:a=x
    .rw[z];show u
    .rw[bS z]at h';show J a h h',⟨λa s e=>by
    let z:a≠x:=λz=>by rw[z,cW]at e;cases e
    rw[bS z]at e
    rw[Yl z];show r.g a s e,λa s e=>by
    let z:a≠x:=λz=>by rw[z,cW]at e;cases e
    rw[bS z]at e
    show r.h a s e,λa s e=>by
    let z:a≠x:=λz=>by rw[z,cW]at e;cases e
    rw[bS z]at e
    show(r.ok a s e).mono P⟩,I.trans P,λa o g=>by
    by_cases z:a=x
    .subst z
     rw[Yo]at g;rw[<-g];show r.h a _ hx
    .rw[Yl z]at g;show hs2 a o g,λa h h'=>by
    by_cases z:a=x
    .rw[z];show u
    .rw[Yl z]at h';show hn2 a h h'⟩
   show kk _ _ hq _ H' _ H3 f3 w3 (I.trans P) ?_;rw[Rp];show{x,C,A,ws,rfl,o1,Yo,o2,o3.mono P}
end
theorem DB{f:Str}{y:V}:∀{ks:AJ}{vs:AM},f∉ks->vs.length=ks.length->bD f y (ks.zip vs)=(ks++[f]).zip (vs++[y])
 | [],[],_,_=>rfl
 | [],_::_,_,h=>nomatch h
 | _::_,[],_,h=>nomatch h
 | k::ks,v::vs,h,a=>by
   rw[List.zip_cons_cons,List.cons_append,List.cons_append,List.zip_cons_cons];change(if k=f then _ else _)=_;rw[if_neg λz=>h (by rw[z];show qh),DB (λz=>h (qg _ z)) (by simpa using a)]
def Aft.put{t:Hs}{H G:Hp}{x:Addr}{s s':HS}(w:HW K t H G)(g:Same G H)(e:t x=some s)(f:s'.ok K G):Aft K t (pt t x (some s')) H G (upd H x s'.ho) G:=by
 let d:=w.g x s e;show{λa o h c=>?_,λa h=>?_,λa h i=>?_,{λa s b=>?_,λa s b=>?_,λa s b=>?_},.refl _,λa o c=>?_,λa h i=>absurd h i}
 .let z:a≠x:=λz=>by rw[z,e]at h;cases h
  rwa [Yl z]
 .by_cases z:a=x
  .rw[z,cW]at h;cases h
  .rwa [bS z]at h
 .by_cases z:a=x
  .rw[z,e]at h;cases h
  .rw[bS z]at i;show absurd h i
 .by_cases z:a=x
  .rwa [z]
  .rw[bS z]at b;show w.g a s b
 .by_cases z:a=x
  .subst z;rw[cW]at b;cases b;show Yo
  .rw[bS z]at b;rw[Yl z];show w.h a s b
 .by_cases z:a=x
  .subst z;rw[cW]at b;cases b;show f
  .rw[bS z]at b;show w.ok a s b
 .rw[Yl (Yr c d)];show g a o c
def kF(i:Nat)(f:Str)(j:AJ)(fe:AU):Hm:=λe t Q=>∃x c C a b g h d,e[i]?=some (↑(.adr x))/\t x=some (.ins c C a b g h)/\c∈j/\f∉b/\b.length<1000/\fe e=some d/\∀v,Q (.nx e (pt t x (some (.ins c C a (b++[f]) (g++[v]) (h++[d])))))
def qM(i:Nat)(f:Str)(h:AJ):Hm:=λe t Q=>∃x c C a b d g,e[i]?=some (↑(.adr x))/\t x=some (.ins c C a b d g)/\c∈h/\f∉b/\b.length<1000/\∀l,t l=none->Q (.nx e (pt (pt t l (some (.bls []))) x (some (.ins c C a (b++[f]) (d++[.ref l]) (g++[.adr l])))))
def qO(i:Nat)(fe:AU):Hm:=λa t Q=>∃b h l y k,a[i]?=some (↑(bG b h (.adr l)))/\t l=some (.bls y)/\y.length<1000000/\fe a=some (.bl k)/\Q (.nx a (pt t l (some (.bls (y++[k])))))
section
variable {e:Expr}{fe:AU}{tpos:Pos}{f x:Str}{cs:AJ}
def qP{g b H G:Hp}{σ:L2.St}{ρ:Ro}{i:Nat}{a:Addr}(s:SR K g b σ H G ρ)(h:ρ[i]?=some (↑(.adr a))):σ[i]?=some (some (V.ref a)):=by
 let{v,c,d}:=s.sh i _ h;rw[c,d]
def M3{ks:AJ}{vs:AM}(h:vs.length=ks.length):(ks.zip vs).length=ks.length:=by
 rw[List.length_zip,h,Nat.min_self]
theorem M4(i:Nat)(j:∀c∈cs,CF X.K c f)(s:ZE X e fe)(A:X.N[i]?=some x:=by rfl)(O:eN X.env.scope x:=by trivial)(N:ba x:=by decide)(k:fN x:=by decide)(hs:swapsWith e (some (.Attribute (.Name x p1) f tpos)) pos.line X.env=pure false:=by rfl):
 d_ X (.Assign [.Attribute (.Name x p1) f tpos] e pos) (kF i f cs fe):=⟨PS.imp (nO (fC A O N k) s.un hs) λF Z H l=>by
 let{ρ,t,U,W,G,Q,w,{a,c,C,b,D,K,Y,d,q,m,B,p,T,u,M},r}:=l;show tOf.at u w.sr λy V z P R n=>?_;let g:=w.grow P;let{o,h,v}:=g.ok a _ m;let{J,E}:=j c B C o;show{_,qP n q,a,C,b,_,rfl,g.hw.h a _ m,J,E,by rwa [M3 h],?_}
 let e1:.ins C b (bD f y (D.zip K))=HS.ho (.ins c C b (D++[f]) (K++[y]) (Y++[d])):=by rw[DB p h];rfl
 rw[e1];let{L,I,S}:=g.after (.put g.hw n.seen m (s':=.ins c C b (D++[f]) _ _) {o,by simp[h],v.append (.one R)})
 show r _ (M y) Z _ z L I S⟩
def Aft.add{t:Hs}{H G:Hp}{l:Addr}{s:HS}(w:HW K t H G)(g:Same G H)(h:H l=none)(j:s.ok K G):Aft K t (pt t l (some s)) H G (upd H l s.ho) G:=by
 let d:=g.free h
 let k:t l=none:=by
  cases z:t l with
  | none=>rfl
  | some x=>rw[w.h l x z]at h;cases h
 show{λa o _ c=>?_,λa h=>?_,λa i e=>?_,{λa s b=>?_,λa s b=>?_,λa s b=>?_},.refl _,λa o c=>?_,λa h e=>absurd h e}
 .rwa [Yl (Yr c h)]
 .by_cases z:a=l
  .rwa [z]
  .rwa [bS z]at h
 .by_cases z:a=l
  .rwa [z]
  .rw[bS z]at e;show absurd i e
 .by_cases z:a=l
  .rwa [z]
  .rw[bS z]at b;show w.g a s b
 .by_cases z:a=l
  .subst z;rw[cW]at b;cases b;show Yo
  .rw[bS z]at b;rw[Yl z];show w.h a s b
 .by_cases z:a=l
  .subst z;rw[cW]at b;cases b;show j
  .rw[bS z]at b;show w.ok a s b
 .rw[Yl (Yr c d)];show g a o c
theorem DC(i:Nat){r:Pos}(k:∀c∈cs,CF X.K c f)(A:X.N[i]?=some x:=by rfl)(Z:eN X.env.scope x:=by trivial)(L:ba x:=by decide)(n:fN x:=by decide)(hs:swapsWith (.List [] r) (some (.Attribute (.Name x p1) f tpos)) pos.line X.env=pure false:=by rfl):
 d_ X (.Assign [.Attribute (.Name x p1) f tpos] (.List [] r) pos) (qM i f cs):=⟨PS.imp (nO (fC A Z L n) (tN dC) hs) λF Y H j=>by
 let{ρ,t,U,V,G,Q,w,{a,c,C,d,e,K,D,s,h,B,O,S,R},u}:=j;show{Qh _,λl o=>?_}
 let p:t l=none:=by
  cases z:t l with
  | none=>rfl
  | some x=>rw[w.hw.h l x z]at o;cases o
 let{q,m,v}:=w.ok a _ h;let{I,N}:=k c B C q;let{T,E,b}:=w.after (Aft.add (s:=.bls []) w.hw w.sr.seen o trivial)
 let g:pt t l (some (.bls [])) a=some (.ins c C d e K D):=by rw[bS (λz=>by rw[z,p]at h;cases h)];show h
 show{_,qP b.sr s,a,C,d,_,rfl,b.hw.h a _ g,I,N,by rw[M3 m];show S,?_}
 let M:HO.ins C d (bD f (.ref l) (e.zip K))=HS.ho (.ins c C d (e++[f]) (K++[.ref l]) (D++[.adr l])):=by rw[DB O m];rfl
 rw[M];let{y,J,P}:=b.after (Aft.put b.hw b.sr.seen g (s':=.ins c C d (e++[f]) _ (D++[.adr l])) {q,by simp[m],v.append (.one (by rw[Rp]))})
 show u _ (R l p) Y _ G y (E.trans J) P⟩
theorem DD(i:Nat){p d c:Pos}(k:CF X.K "Watch" "truths")(he:ZE X e fe)(I:X.N[i]?=some x:=by rfl)(hv:eN X.env.scope x:=by trivial)(J:ba x:=by decide)(A:fN x:=by decide)(u:swapsWith (.Call (.Attribute (.Attribute (.Name x p1) "truths" p) "append" d) [e] [] c) none pos.line X.env=pure false:=by rfl)(hs:Zl X e:=by rfl)(o:pv X c [e]:=by rfl)(m:(d.endLine==c.line)=true:=by rfl)(j:attributeBase (.Attribute (.Name x p1) "truths" p) "append" X.env (eval (.Attribute (.Name x p1) "truths" p) X.env)=eval (.Attribute (.Name x p1) "truths" p) X.env:=by rfl)(z:attributeBase (.Name x p1) "truths" X.env (eval (.Name x p1) X.env)=eval (.Name x p1) X.env:=by rfl):
 d_ X (.Expr (.Call (.Attribute (.Attribute (.Name x p1) "truths" p) "append" d) [e] [] c) pos) (qO i fe):=
 ⟨PS.imp (iR (jI PySem.F.plainAttrs_list PySem.F.slot_list_append PySem.F.type_list_append tS (nN (fC I hv J A) z) (cx he.un dC hs) j o m hs rfl) u) λF σ H s=>by
  let{ρ,t,H0,G0,G,Q,w,{b,h,l,y,r,N,B,U,L,Y},P}:=s;let{v,W,q2}:=w.sr.sh i _ N;let{a,C,dx,xs,rfl,n,g,lx,q}:=q2;let{y1,y2,y3,rfl,r1,r2,r3}:=q.three;subst r3;show{_,W,a,C,dx,_,.ref l,rfl,w.sr.seen _ _ g,(k C n).1,(k C n).2,rfl,.inl {rfl,_,SqL.of (w.hw.h l _ B)},tOf.at L w.sr λv H1 S Z R M=>?_};subst R;let E:=w.grow Z;show{l,y.map V.bl,_,rfl,rfl,E.hw.h l _ B,?_,?_}
  .rw[qf]
   show Qi U (jW (qv _))
  .let{T,f4,O}:=E.after (Aft.put E.hw M.seen B (s':=.bls (y++[r])) trivial)
   let e2:HS.ho (.bls (y++[r]))=HO.lst (y.map V.bl++[V.bl r]):=by
    change HO.lst ((y++[r]).map V.bl)=_;rw[Qk];rfl
   let:=P _ Y σ _ S T f4 O;rw[e2]at this
   show this⟩
end
def kG(g:Hm):AR:=λa=>vD (g a (λ_=>none) fun
 | .rt (.bl true) _=>True
 | _=>False) (some (.rt (.bl true)))
section
variable {e:Expr}{fe:He}{a b:List Stmt}{fs gs g:Hm}
def DE(h:eE X sts g):ZB X sts (kG g):=⟨PSs.imp h.un λF x H f=>by
 let{b,u,n,k,G,i,s,c}:=f;let{p,i}:=Tu i;cases i;show{b,λ_=>none,n,k,G,_,{s,λ_ _ e=>(nomatch (e)),λ_ _ e=>(nomatch (e)),λ_ _ e=>nomatch (e)},p,λo j=>?_}
 split at j
 .show λv w t r m q l=>by
   let d:=q.aft m rfl;show c v w t {λa o e=>d.keep a o rfl e,d.g,d.s,d.n} l
 .show j.elim⟩
end
def Uk(K:W7)(d c:Str)(b:Bool):Prop:=∃C a,W.nsIn K mainGlobals c=some (some (.ref C))/\W.nsIn K mainGlobals d=some (some (.ref a))/\Cls K C/\W.findIn K (.ref C) "__class__"=some (some (.builtin "object.__class__"))/\
 W.specialIn K (.builtin "object.__class__") "__get__"=some (some (.builtin "getset_descriptor.__get__"))/\W.takesIn K (.builtin "object.__class__")=some true/\W.mroIn K C (.type "object")=some true/\W.kitOne K (.ref C) (.ref a)=some b
def isk_mk{h c:Str}{b:Bool}{C d:Addr}(a:W.nsIn K mainGlobals c=some (some (.ref C)))(j:W.nsIn K mainGlobals h=some (some (.ref d)))(n:W.plainGet K C Str.empty=true)(o:W.hasDictIn K C=true)(l:W.plainOver K C=true)(i:W.findIn K (.ref C) "__setattr__"=some (some (.builtin "object.__setattr__")))(e:W.findIn K (.ref C) "__class__"=some (some (.builtin "object.__class__")))(f:W.specialIn K (.builtin "object.__class__") "__get__"=some (some (.builtin "getset_descriptor.__get__")))(g:W.takesIn K (.builtin "object.__class__")=some true)(m:W.mroIn K C (.type "object")=some true)(k:W.kitOne K (.ref C) (.ref d)=some b):Uk K h c b:={C,d,a,j,{(n),o,l,i},e,f,g,m,k}
section
variable {a:Expr}{p p2:Pos}{c0:Str}
def DF{P:P7}{w:World}{d:AD}{b:Heap}{j k:Nat}{c m:Str}{a:AJ}{sp:Sp}(O:gh P w K d b j c m a sp)(h:j<=k:=by decide):gh P w K d b k c m a sp:=by
 let{C,f,e,F,r}:=O;show{C,f,e,F.mono h,r}
end
def vO(K:W7)(c q:Str)(st:Stmt):Prop:=∃C f a,W.nsIn K mainGlobals c=some (some (.ref C))/\Mk K C f/\Fun K "__init__" q st f a
def iqc_mk{c q:Str}{st:Stmt}{C f:Addr}{g:Value}{j h:Option Addr}{e:Array (Option Value)}{kV d p b r:Value}(a:W.nsIn K mainGlobals c=some (some (.ref C)))(m:W.makesIn K C=true)(o:W.keepIn K (.ref C)=true)(i:W.findIn K (.ref C) "__init__"=some (some (.ref f)))(n:W.isFn K (.ref f)=true)(l:K.lookup f=some {g,j,.func (W.fnOf "__init__" q (aEb st) (aDb st) (aBb st) .none kV d p h b r),e})(s:W.codeIn K b q=true)(k:W.keepIn K (.ref f)=true):vO K c q st:=
 {C,f,_,a,{(m),i,n,o},n_ l s k}
structure DG(K:W7)(x q:Str)(st:Stmt)(f:Addr)(fd:FuncData)(T:Addr)(t:Tok):Prop where
 ex:∃(oc:Value) (od:Option Addr) (kV doc pm:Value) (an:Option Addr) (cdv ct:Value) (osl:Array (Option Value)),
  fd=W.fnOf x q (aEb st) (aDb st) (aBb st) (.ref T) kV doc pm an cdv ct/\K.lookup f=some {oc,od,.func fd,osl}/\W.codeIn K cdv q=true
 df:∃(oc:Value) (od:Option Addr) (n:Nat) (osl:Array (Option Value)),K.lookup T=some {oc,od,.seq #[.int 0 t] n,osl}
def Ul(K:W7)(c q:Str)(st:Stmt):Prop:=∃C f a T t,W.nsIn K mainGlobals c=some (some (.ref C))/\Mk K C f/\DG K "__init__" q st f a T t
def iqz_mk{c q:Str}{st:Stmt}{C f T:Addr}{m h:Value}{s k o:Option Addr}{g b:Array (Option Value)}{kV j w e x:Value}{t:Tok}{u:Nat}(a:W.nsIn K mainGlobals c=some (some (.ref C)))(r:W.makesIn K C=true)(v:W.keepIn K (.ref C)=true)(i:W.findIn K (.ref C) "__init__"=some (some (.ref f)))(n:W.isFn K (.ref f)=true)(l:K.lookup f=some {m,s,.func (W.fnOf "__init__" q (aEb st) (aDb st) (aBb st) (.ref T) kV j w o e x),g})(p:W.codeIn K e q=true)(d:K.lookup T=some {h,k,.seq #[.int 0 t] u,b}):Ul K c q st:=
 {C,f,_,T,t,a,{(r),i,n,v},{_,_,_,_,_,_,_,_,_,rfl,l,p},_,_,_,_,d}
section
variable {P:P7}{w:World}
theorem DH{c x q:Str}{st:Stmt}{k n m:Nat}{N t:AJ}{g:Hm}(F:Mq K c x q st)(S:cG N t (aBb st))(u:∀{f:Addr}{d:Value}{A:Around}{b:List Env}{s:Shared}{H:Hp}{E:XK},Room k (A.deeper (envOfC q (aBb st) (~~~s) f d))->eE (ay bY P w K mg base N q (aBb st) f d A b s H E).nox (aDb st) g)(l:N.length=n:=by rfl)(i:t.length=m:=by rfl)(B:p9 x q st t:=by and_intros):gh P w K mg base (k+1) c x t (jh K m (cN n g)):=by
 let{C,f,p,a,r,j,h}:=F;show{C,f,p,Dy h S l i λ_ _ _ _ _ _ o=>u o,h.binds B,a,r,j}
theorem DI{c q:Str}{st:Stmt}{k n m:Nat}{N t:AJ}{g:Hm}(F:vO K c q st)(l:∀C,W.nsIn K mainGlobals c=some (some (.ref C))->mg c=some (.ref C))(S:cG N t (aBb st))(u:∀{f:Addr}{d:Value}{A:Around}{b:List Env}{s:Shared}{H:Hp}{E:XK},Room k (A.deeper (envOfC q (aBb st) (~~~s) f d))->eE (ay bY P w K mg base N q (aBb st) f d A b s H E).nox (aDb st) g)(j:N.length=n:=by rfl)(i:t.length=m:=by rfl)(B:p9 "__init__" q st t:=by and_intros):DA P w K mg base (k+1) m c t [] (cN n g):=by
 let{C,f,o,a,p,e}:=F;show{C,f,o,[],[],a,l C a,p,Dy e S j i λ_ _ _ _ _ _ r=>u r,e.binds B,.nil,λG=>.nil}
end
def Kq(K:W7)(c f q:Str)(st:Stmt):Prop:=∃C a b d,W.nsIn K mainGlobals c=some (some (.ref C))/\Fun K f q st a b/\W.specialIn K (.ref C) "__getattribute__"=some (some (.builtin "type.__getattribute__"))/\W.readsIn K C d=true/\W.findCls K (.ref C) d f=some (.val (.ref a))/\W.handedIn (.ref a)=true
def kq_mk{c f q:Str}{st:Stmt}{C a:Addr}{mc:Value}{m:Value}{o n:Option Addr}{j:Array (Option Value)}{kV d p b t:Value}(e:W.nsIn K mainGlobals c=some (some (.ref C)))(i:W.findIn K (.ref C) f=some (some (.ref a)))(l:K.lookup a=some {m,o,.func (W.fnOf f q (aEb st) (aDb st) (aBb st) .none kV d p n b t),j})(u:W.codeIn K b q=true)(k:W.keepIn K (.ref a)=true)(s:W.specialIn K (.ref C) "__getattribute__"=some (some (.builtin "type.__getattribute__")))(r:W.readsIn K C mc=true)(g:W.findCls K (.ref C) mc f=some (.val (.ref a)))(h:W.handedIn (.ref a)=true):Kq K c f q st:={C,a,_,mc,e,n_ l u k,s,r,g,h}
section
variable {o e c:Expr}{fb:AU}{fe:He}{fs gs:Hm}{p2:Pos}{m x cc:Str}
def DJ{a:List Stmt}{h0:ExceptHandler}{hs:List ExceptHandler}(hx:∀e s,X.xe e s->False)(h:eE X a fs):d_ X (.Try a (h0::hs) [] [] pos) fs:=
 ⟨λpins s σ H D I q=>wpAny_Try_except (ww (h.un pins s σ H D I q) (λf s1 z=>by
  cases f with
  | next=>show wpAny_execs_nil z
  | _=>show z) λe s1 z=>(hx e s1 z).elim)⟩
end
section
variable {E:XK}{c a b:Expr}{fc ra rb:AT}
def DK{e:Expr}{f:AU}(h:ZE X.nox e f):YE X E xn e bT:={PE.imp (.nox h.un) λ_ _ _ ⟨_,_,_,_,e,_⟩=>by cases e}
def DL(n:ZT X.nox c fc)(l:YE X E xn a ra)(hb:YE X E xn b rb):YE X E xn (.IfExp c a b pos) (bR fc ra rb):=
 ⟨PE.imp (Kg (.nox n.un) l.un hb.un) λq H Q ⟨f,i,j,G,e,s,h⟩=>by
  let{k,m,e}:=qa e;show tTof.at m s λo d p g=>?_
  cases k with
  | true=>
    show{(f),i,j,d,e,g,h}
  | false=>
    show{(f),i,j,d,e,g,h}⟩
end
section
variable {E:XK}{e:Expr}{p:Pos}{j k n:Nat}{ps:AJ}{fr:AN->Option Bool}{ga:AV}{r:AT}
theorem DM{st:Stmt}{q:Str}(O:vO X.K "Watch" q st)(l:∀C,W.nsIn X.K mainGlobals "Watch"=some (some (.ref C))->X.mg "Watch"=some (.ref C))(h:YA X E xn (e::es) r)(i:Gl X "Watch")(m:Zj X e es:=by rfl)(c:Zk X cpos es:=by rfl):
 YE X E xn (.Call (.Name "Watch" p) (e::es) [] cpos) r:=⟨λg s k H Q I d=>by
 let{C,f,t,a,j,_}:=O;show wpAny_Call_Name_kw (d7 I i (l C a) (W.callWith_K I.ok.mod.kin j.kp (ww (h.un _ _ s k H (λ_ _=>False) I d) (λn o d=>?_) λe s z=>z) m c) (by decide));let{_,_,_,_,z}:=d
 show z.elim⟩
theorem DN(S:eQ (CXN X.prog X.w) X E)(O:ko X.prog X.w X.K X.mg X.base j (n+1) ps fr xn)(hr:Room k X.A)(hg:Gl X "Watch")(ha:ZA X.nox (e::es) ga)(i:∀ρ l,ga ρ=some l->l.length=n)(Z:j+1<=k:=by first|show qv _|ac_nf)(v:starEach (e::es) X.env=(false,eval e X.env)::starEach es X.env:=by rfl)(t:(backTo cpos (starEach es X.env)).any (·.1)=false:=by rfl):
 YE X E xn (.Call (.Name "Watch" p) (e::es) [] cpos) (kr ga fr):=⟨λN s J H Q I ⟨ρ,Y,U,G,q,sr,h⟩=>by
 let{C,f,fd,hm,M,F,hb}:=O;let{l,A,q}:=qa q
 let q:∀x,fr (.adr x::l)=some true:=by
  symm
 show wpAny_Call_Name_kw (d7 I hg hm (W.callWith_K I.ok.mod.kin M.kp (ww (PA.nox' ha.un _ _ s J H (λc d=>∃b,Gr H G d b/\RpL X.K b l c/\SR X.K Y U J d b ρ) I (tAof.at A sr λc d b K m L=>{(b),K,m,L})) (λus L y=>?_) λe s z=>z) v t) (by decide));let{c,d,R,r,b,K,m,g}:=y;show{R.kIn,ww (T_ (Q:=λ_ _=>False) (E:=E) M F (hr.mono Z) hb R r λx w y V hne=>?_) (λ_ _ z=>?_) λ_ _ z=>?_}
 .let B:Same d (upd (upd d w (.own x)) x (.ins C w [])):=λa o ho=>by
   rwa [Yl (λz=>by symm),Yl (λz=>by symm)]
  let D:Gr d b _ b:={B,.refl _,g.seen.trans B,λ_ h h'=>absurd h h'}
  show{by rw[qt,m.length,i ρ l A],.adr x::l,b,D.s,.cons (by rw[Rp]) m,q x,λT H' G' hC g'=>h T H' G' hC (g.gr.trans (D.trans g'))}
 .let{_,_,_,_,z}:=z
  show z.elim
 .let{H1,s1,I1,z}:=z
  show S _ _ _ _ _ _ I1 z⟩
end
def XCont(K:W7)(mg:AD)(E:XK)(xn:Str)(t:Hs)(H0 G0:Hp):Prop:=∀C t' H' G' H1,mg xn=some (.ref C)->OffH t t' H0 H1->WH K t' H1 G0 [] H' G' []->E (.ref C) none H'
def DO(K:W7)(mg:AD)(E:XK)(xn:Str)(r:Ro->Hs->Prop):TS:=λ_ σ H=>∃ρ t H0 G0 G,r ρ t/\WH K t H0 G0 σ H G ρ/\XCont K mg E xn t H0 G0
structure mr(X:Cx)(E:XK)(xn:Str)(sts:List Stmt)(r:Ro->Hs->Prop):Prop where
 un:PSs X sts (DO X.K X.mg E xn r)
def kH(f:Hm)(r:Ro->Hs->Prop):Ro->Hs->Prop:=λρ t=>f ρ t fun
 | .nx ρ' t'=>r ρ' t'
 | _=>False
def gq(gt:AS)(fs:Hm)(r:Ro->Hs->Prop):AN->Ro->Hs->Prop
 | [],_,_=>False
 | d::ds,ρ,t=>∃ρ1,gt d ρ=some ρ1/\(r ρ1 t\/fs ρ1 t fun
   | .nx ρ2 t2=>gq gt fs r ds ρ2 t2
   | _=>False)
def qQ(gl:AV)(gt:AS)(fs:Hm)(r:Ro->Hs->Prop):Ro->Hs->Prop:=λρ t=>∃ds,gl ρ=some ds/\gq gt fs r ds ρ t
def DP(K:W7)(mg:AD)(n:Nat)(fr:AN->Hs->Prop)(xn:Str):Sp:=λvs H _ E=>vs.length=n/\∃ds t G,RpL K G ds vs/\Same G H/\HW K t H G/\fr ds t/\∀C H' G',mg xn=some (.ref C)->Gr H G H' G'->E (.ref C) none H'
def kI(P:P7)(w:World)(K:W7)(mg:AD)(base:Heap)(k n:Nat)(c m:Str)(ps:AJ)(fr:AN->Hs->Prop)(xn:Str):Prop:=
 ∃C f fd,FnOk P w K mg base (CXN P w) k f fd ps (DP K mg n fr xn)/\Binds K fd ps []/\W.nsIn K mainGlobals c=some (some (.ref C))/\Cls K C/\dQ K C m f
def kJ(n:Nat)(r:Ro->Hs->Prop)(ds:AN):Option Bool:=@ite _ (r (Ye n ds) λ_=>none) (Classical.propDecidable _) (some true) none
def kK(c m:Str)(fo:AU)(ga:AV)(fr:AN->Hs->Prop):Ro->Hs->Prop:=λρ t=>∃x ds ks,fo ρ=some x/\ga ρ=some ds/\iu t x=some (c,ks)/\m∉ks/\fr (x::ds) t
section
variable {E:XK}{rest:List Stmt}{fs:Hm}{r:Ro->Hs->Prop}{P:P7}{w:World}
def XCont.off{K:W7}{mg:AD}{t t':Hs}{H0 G0 H1:Hp}(c:XCont K mg E xn t H0 G0)(f:OffH t t' H0 H1):XCont K mg E xn t' H1 G0:=λC t2 H' G' H2 hm g w=>c C t2 H' G' H2 hm (f.trans g) w
def DQ(i:d_ X st fs)(n:mr X E xn sts r):mr X E xn (st::sts) (kH fs r):=⟨PSs.imp (eO i.un n.un) λF u H g=>by
 let{s,t,m,h,G,q,w,c}:=g;show{s,t,m,h,G,_,w,q,λo e=>?_}
 cases o with
 | nx a b=>show λj v k p f l=>{a,b,p,h,k,e,l,c.off f}
 | rt d b=>show e.elim
 | bk a b=>show e.elim
 | ct a b=>show e.elim⟩
def DR{a c:TS}(e:PSs X sts a)(d:PSs X sts c):PSs X sts (λD σ H=>a D σ H\/c D σ H):=λb s σ H D I h=>h.elim (e _ s σ H D I) (d _ s σ H D I)
theorem DS{O e:Expr}{g:List Stmt}{T:AV}{gt:AS}(hp:PassesOwn (mZ X.prog X.w) X.A X.env X.xe)(hc:X.calm=true)(U:ZI X O e T)(hg:ZG X O gt)(hb:eE X g fs)(hx:mr X E xn g r)(hs:∀x,foldedSetIterable e X.env x=pure x:=by intro _;rfl):mr X E xn (.For O e g [] pos::rest) (qQ T gt fs r):=
 ⟨PSs.imp (eO (yN hp hc U.un hg.un (DR hb.un hx.un) hs) iS) λF σ H Q=>by
  let{Y,t,H0,G0,G,{l,h1,h2},w,c}:=Q;show{Y,l,H0,G0,G,h1,w.sr,λJ H1 u g1 wk=>?_};let{M,wb,I}:=(w.grow g1).rebase
  let c1:XCont X.K _ E xn t M u:=λC b A s H1 hm f B=>by
   let{H3,f3,w3}:=I _ _ _ _ _ _ f B;show c C b A s H3 hm f3 w3
  show{λi m j A=>m=l.length-i/\i<=l.length/\∃a b s k,OffH t b M k/\WH X.K b k u j A s a/\gq gt fs r (l.drop i) a b,{_,rfl,Qh _,Y,t,u,M,.refl,wb,h2},?_};rintro i m j A ⟨rfl,U,a,b,s,k,R,B,h⟩;by_cases p:i<l.length
  .let{go,yl}:=(wk.2 i A s B.sr.gr.g B.sr.seen).1 _ (qr p)
   rw[List.drop_eq_getElem_cons p]at h;let{v,e1,h}:=h;show .inr {go,λj A=>i+1<=l.length/\∃a b s k,OffH t b M k/\WH X.K b k u j A s a/\gq gt fs r _ a b,λσ2 S q=>{l.length-(i+1),by ac_nf,rfl,q.1,q.2},λx S y=>?_};let{N,g2,r2}:=yl x S y;let z:=B.grow g2;show{_,a,v,k,u,N,e1,z.sr,r2,λσ3 V=>?_};let h+h:=h
   .show .inr {v,b,k,u,N,h,{(V),z.h0,z.g0,z.ok},c1.off R}
   show .inl {v,b,k,u,N,_,{(V),z.h0,z.g0,z.ok},h,λo L=>?_}
   cases o with
   | nx n K=>show λσ4 H4 G4 Hd f4 w4=>{p,n,K,G4,Hd,R.trans f4,w4,L}
   | ct n K=>show L.elim
   | bk n K=>show L.elim
   | rt d K=>show L.elim
  .let Z:i=l.length:=by ac_nf
   subst Z;rw[List.drop_length]at h
   show h.elim⟩
theorem DT{o e:Expr}{h:AK}{fo:AU}{J:AV}{d b:Pos}{c m:Str}{ps:AJ}{fr:AN->Hs->Prop}{j k n:Nat}{pl:Sem Bool}(px:eQ (CXN X.prog X.w) X E)(O:kI X.prog X.w X.K X.mg X.base j (n+1) c m ps fr xn)(hr:Room k X.A)(ho:ZE X o fo)(r:ZA X (e::h) J)(hl:∀ρ ds,J ρ=some ds->ds.length=n)(hj:j<=k:=by first|show qv _|ac_nf)(hst:Zj X e h:=by rfl)(z:Zk X b h:=by rfl)(I:swapsWith (.Call (.Attribute o m d) (e::h) [] b) none pos.line X.env=pure false:=by rfl)(ht:eval (.Call (.Attribute o m d) (e::h) [] b) X.env=(do
  let T <-eval o X.env
  standAt d.atName
  let (f,first) <-holding [T] (getMethod T m pl)
  callWith b f first (backTo b (starEach (e::h) X.env)) (backToKw b (keywordEach [] X.env))):=by rfl):mr X E xn [.Expr (.Call (.Attribute o m d) (e::h) [] b) pos] (kK c m fo J fr):=by
 let{C,f,fd,F,hb,U,cl,me}:=O;show{PSs.imp (tF (iR (zu ho.un cl me (F.mono hj) hr hb .nil px r.un hst z ht) I)) λ_ σ H B=>?_};let{ρ,t,H0,G0,G,{x,ds,ks,h1,Z,p,h4,h5},w,kk}:=B;show tOf.at h1 w.sr λv H1 G1 g1 u N=>?_;let A:=w.grow g1
 let K:∃a i s,v=.ref a/\H1 a=some (.ins C i (ks.zip s)):=by
  unfold iu at p
  split at p
  .cases p
   let{a,y,i,s,rfl,R,g,l,q}:=u;rw[U]at R;cases R;show{a,i,s,rfl,N.seen _ _ g}
  .rename_i a
   split at p
   .rename_i c' y i ks' S ds' r
    cases p;subst u;let{o1,o2,o3}:=A.ok a _ r;rw[U]at o1;cases o1;show{a,i,S,rfl,A.hw.h a _ r}
   .cases p
  .cases p
 let{a,i,s,rfl,L}:=K;show{a,i,_,rfl,L,vB h4,tAof.at Z N λS H2 G2 Y Q s2=>?_};let V:=A.grow Y;rw[wz];show{by rw[qt,Q.length,hl ρ ds Z],x::ds,t,G2,.cons (u.mono Y.g) Q,s2.seen,V.hw,h5,λy H' G' hC g'=>kk y t H' G' H0 hC .refl (V.bare.grow g')}
theorem DU{x b:Str}{st:Stmt}{k n m:Nat}{N ps:AJ}{r:Ro->Hs->Prop}{f:Addr}{j:FuncData}(F:Fun K x b st f j)(S:cG N ps (aBb st))(O:N.length=n)(l:ps.length=m)(hb:∀(c:Value) (A:Around) (outer:List Env) (s:Shared) (H:Hp) (E:XK),Room k (A.deeper (envOfC b (aBb st) (~~~s) f c))->mr (ay (CXN P w) P w K mg base N b (aBb st) f c A outer s H E) E xn (aDb st) r):
 FnOk P w K mg base (CXN P w) (k+1) f j ps (kg K mg m (kJ n r) xn):=by
 let{Y,T,kV,p,pm,Z,c,V,v,rfl,M,g}:=F.ex;show nV M g S (λI H Q E h=>by rw[h.1,l]) λA outer s H I Q E L h=>?_;let{hl,i,G,J,u,e,q}:=h;show{_,(hb c A _ s H E L).un,?_};by_cases z:r (Ye n i) λ_=>none
 .show{Ye n i,λ_=>none,H,G,G,z,{by rw[<-O];show .start J u,(λ_ _ e=>nomatch e),(λ_ _ e=>nomatch e),λ_ _ e=>nomatch e},λC U R y H1 D t B=>?_}
  let d:=B.aft t rfl;show q C R y D {λa o e=>d.keep a o rfl e,d.g,d.s,d.n}
 .unfold kJ at e
  symm
theorem DV{c x q y:Str}{st:Stmt}{k n m:Nat}{N ps:AJ}{fc:Ro->Hs->Option Bool}{z:Bool}{ce:Expr}{mm:Str}{np p1 cpos pos1 pos:Pos}{j:Nat}{rest:List Stmt}(F:Mq K c x q st)(hp:Xp K mg xn y z)(S:cG N ps (aBb st))(hst:aDb st=.If ce [.Raise (some (.Call (.Name xn np) [.Constant (.str mm) j p1] [] cpos)) none pos1] [] pos::rest)(hb:∀{f:Addr}{cdv:Value}{A:Around}{outer:List Env}{s:Shared}{H:Hp}{E:XK},Room k (A.deeper (envOfC q (aBb st) (~~~s) f cdv))->vL (ay (CXN P w) P w K mg base N q (aBb st) f cdv A outer s H E).nox ce fc)(hg:∀{f:Addr}{cdv:Value}{A:Around}{outer:List Env}{s:Shared}{H:Hp}{E:XK},Gl (ay (CXN P w) P w K mg base N q (aBb st) f cdv A outer s H E) xn:=by intros;rfl)(hdb:(xn==("__debug__":Str))=false:=by decide)(hs:∀{f:Addr}{cdv:Value}{s:Shared},starEach [Expr.Constant (.str mm) j p1] (envOfC q (aBb st) (~~~s) f cdv)=[(false,eval (Expr.Constant (.str mm) j p1) (envOfC q (aBb st) (~~~s) f cdv))]:=by intros;rfl)(hn:N.length=n:=by rfl)(hm:ps.length=m:=by rfl)(B:p9 x q st ps:=by(intro _ _ _ _ _ _ us hl;first|(let{_,rfl}:=dY hl;rfl)|(let{_,_,rfl}:=c7 hl;rfl)|(let{_,_,_,rfl}:=dB hl;rfl))):kI P w K mg base (k+1) m c x ps (λds t=>fc (Ye n ds) t=some true) xn:=by
 let{C,f,fd,a,cl,me,fu}:=F;show{C,f,fd,?_,fu.binds B,a,cl,me};let{oc,od,kV,doc,pm,an,cdv,ct,osl,rfl,lk,hcd}:=fu.ex;show nV lk hcd S (λvs H Q E h=>by rw[h.1,hm]) λA outer s H vs Q E hr h=>?_;let{hl,ds,t,G,rr,sm,hw,e,qq}:=h;let{D0,_,mD,_,hD,_}:=hp;rw[hst];show{_,eO (lH (PT.nox (hb hr).un) (eO (Ms mD hD hg hdb hs) iS) nE) iS,?_};show{Ye n ds,t,true,H,G,G,e,{by rw[<-hn];show SR.start sm rr,hw.h,hw.g,hw.ok},λH' G' g'=>?_};show oa (qq D0 H' G' mD g')
end
def qR(n:Nat)(ga:Ha)(fn:AN->Option D):He:=λρ t Q=>ga ρ t λds t1=>ds.length=n/\∃d,fn (cQ t1 ds)=some d/\o7 d=true/\Q d t1
def qS(fe:He)(fb:AU):He:=λρ t Q=>fe ρ t λd t'=>∃d2 k,fb ρ=some d2/\aA false d d2=some k/\Q (.bl k) t'
section
variable {e:Expr}{ga:Ha}{p:Pos}{fe:He}{fn:AN->Option D}
theorem Um{j k n:Nat}{x:Str}{ps:AJ}(c:aU X.prog X.w X.K X.mg X.base j n x ps fn)(O:Room k X.A)(N:Gl X x)(y:vK X (e::es) ga)(J:j<=k:=by first|show qv _|ac_nf)(h:ba x:=by decide)(V:Zj X e es:=by rfl)(m:Zk X cpos es:=by rfl):fw X (.Call (.Name x p) (e::es) [] cpos) (qR n ga fn):=by
 let{a,fd,F,B,L,C}:=c;show{PE.imp (nU (F.mono J) O N C L B .nil jK y.un h V m) λσ H Q l=>?_};let{Y,t,I,u,G,R,w,q,Z}:=l;show{Y,t,I,u,G,_,w,q,λE i D vs H1 s Ha z f K o=>?_};let{b,d,S,T,U}:=D;let{H2,M}:=f.thaw;rw[wz];show{by rw[o.length,b],cQ i E,d,ir i s,M.seen,o.thaw f.hw,S,λv A G' g r=>Z d i U v A s Ha z (f.grow (.back f.sr.seen g)) K (r.scal T)}
def DW{o:Expr}{fb:AU}{s:Pos}(A:X.A.units+64<cLine)(h:fw X o fe)(hb:ZE X e fb):fw X (.Compare o [.Eq] [e] s) (qS fe fb):=
 ⟨PE.imp (zc (Ah A) h.un hb.un (eP _)) λL H Q b=>by
  let{F,t,p,l,G,R,w,q,c}:=b;show{F,t,p,l,G,_,w,q,λd J f v K I n y j x m=>?_};let{E,k,u,C,f}:=f
  show tOf.at u j.sr λz B i a r g=>oy v z d E k B i _ C g.seen (.of g.seen (m.mono a.g)) (.of g.seen r) (c _ _ f _ _ i n y (j.grow a) (x.trans a.g) (by rw[Rp]))⟩
end
def qT(c:AE){X:Cx}{E:XK}{d:Str}{a:List Stmt}{r:AT}(h:ZX X E d a r):ZX X E d a (λρ=>r (frz c ρ)):=
 ⟨PSs.imp h.un λD k H b=>by
  let{ρ,j,f,G,e,s,q}:=b;let{i,g}:=SR.frz c s
  show{_,j,f,i,e,g,q}⟩
section
variable {P:P7}{w:World}
def Uo{x qual:Str}{st:Stmt}{f:Addr}{fd:FuncData}{N ps:AJ}{k n m:Nat}{r:AT}(F:Fun K x qual st f fd)(S:cG N ps (aBb st))(hn:N.length=n)(hm:ps.length=m)(hb:∀(cdv:Value) (A:Around) (outer:List Env) (s:Shared) (H:Hp) (E:XK),Room k (A.deeper (envOfC qual (aBb st) (~~~s) f cdv))->ZX (ay (cz P w) P w K mg base N qual (aBb st) f cdv A outer s H E) E xn (aDb st) r):
 FnOk P w K mg base (cz P w) (k+1) f fd ps (kg K mg m (aP m n r) xn):=by
 let{oc,od,kV,doc,pm,an,cdv,ct,osl,rfl,lk,hcd}:=F.ex;show nV lk hcd S (λvs H Q E h=>by rw[h.1,hm]) λA outer s H vs Q E hr h=>?_;let{hl,ds,G,sm,rr,e,q}:=h;show{_,(hb cdv A outer s H E hr).un,?_};unfold aP at e
 split at e
 .show{Ye n ds,H,G,G,e,by rw[<-hn];show SR.start sm rr,λC H' G' hC g=>q C H' G' hC g}
 .cases e
end
theorem M5(s:String):PyData.strOk (Str.ofString s)=true:=by
 rw[Str.ofString_eq_toList];unfold PyData.strOk;simp only[List.all_toArray,List.all_map,List.all_eq_true,Function.comp_apply,wj];intro c _;let h:=c.valid;let e:c.toNat=c.val.toNat:=rfl;let h+h:=h
 .let h:c.val.toNat<0xd800:=h
  ac_nf
 .let h2:c.val.toNat<0x110000:=h.2
  ac_nf
def mu(a b:Str):PyData.strOk (a++b)=(PyData.strOk a&&PyData.strOk b):=by
 change(a.cps++b.cps).all _=_;unfold PyData.strOk;rw[Array.all_append]
theorem M6{sep:Str}(hs:PyData.strOk sep=true):∀(l:AJ) (acc:Array Nat),PyData.strOk {(acc)}=true->(∀x∈l,PyData.strOk x=true)->PyData.strOk {l.foldl (λacc p=>acc++sep.cps++p.cps) acc}=true
 | [],_,h,_=>h
 | x::l,acc,h,hl=>by
   rw[List.foldl_cons];show M6 hs l _ ?_ λy hy=>hl y (.tail _ hy);let e:PyData.strOk {acc++sep.cps++x.cps}=PyData.strOk ((({(acc)}:Str)++sep)++x):=rfl;rw[e,mu,mu,h,hs,hl x (.head _)];rfl
def DX{sep:Str}(hs:PyData.strOk sep=true){l:AJ}(hl:∀x∈l,PyData.strOk x=true):PyData.strOk (Txt.join sep l)=true:=by
 cases l with
 | nil=>show PyData.strOk {(Str.empty.cps)}=true;decide +kernel
 | cons x l=>show M6 hs l x.cps (hl x (.head _)) λy hy=>hl y (.tail _ hy)
def M7(a b:Str):(a++b).length=a.length+b.length:=by
 change(a.cps++b.cps).size=_;rw[Array.size_append];rfl
theorem M8{sep:Str}:∀(l:AJ) (acc:Array Nat),(l.foldl (λacc p=>acc++sep.cps++p.cps) acc).size=acc.size+(l.map λx:Str=>sep.length+x.length).sum
 | [],_=>by simp
 | x::l,acc=>by
   rw[List.foldl_cons,M8 l];simp[Str.length];ac_nf
def qU(sep:Str)(l:AJ):(Txt.join sep l).length<=(l.map λx:Str=>sep.length+x.length).sum:=by
 cases l with
 | nil=>show Qh _
 | cons x l=>
   change(l.foldl (λacc p=>acc++sep.cps++p.cps) x.cps).size<=_;rw[M8];simp[Str.length]
theorem M9(sep:Str):∀(l:AJ) (n:Nat),l.foldl (fun(a:Nat) (s:Str)=>a+s.length+sep.length) n=n+(l.map λx:Str=>sep.length+x.length).sum
 | [],n=>by simp
 | x::l,n=>by
   rw[List.foldl_cons,M9 sep l];simp;ac_nf
theorem Up{sep:Str}{l:AJ}(h:(l.map λx:Str=>sep.length+x.length).sum<=16000000):JoinOk sep l=true:=by
 unfold JoinOk;rw[Bool.not_eq_true'];unfold Builtin.Str.tooLong;rw[List.foldl_toArray,M9];let:=jf;simp;ac_nf
def da:AN->Option D
 | [.int i]=>if i.natAbs<2^64 then some (.str (Str.ofString (toString i)))else none
 | _=>none
def ji:AN->Option AJ
 | []=>some []
 | .str x::l=>(ji l).map (x::·)
 | _=>none
def dN(sep:Str):AN->Option D
 | [.lst l]=>(ji l).bind λxs=>if JoinOk sep xs=true then some (.str (Txt.join sep xs))else none
 | _=>none
def qV(x:Str):D->Option D
 | .int i=>if i.natAbs<2^64/\(x++Str.ofString (toString i)).length<=1000000 then some (.str (x++Str.ofString (toString i)))else none
 | _=>none
def cq:D->D->Option D
 | .str a,.str b=>if a.length+b.length<=1000000 then some (.str (a++b))else none
 | _,_=>none
def ix:D->D->Option D
 | .str z,.int i=>if z.length<=1000000 then (aN z.cps.toList i).map λc=>.str {#[c]}else none
 | _,_=>none
def M_{i:Int}(h:i.natAbs<2^64):i.natAbs.log2<1920:=by
 by_cases h0:i.natAbs=0
 .rw[h0];decide
 .show Nat.lt_trans ((Nat.log2_lt h0).mpr h) (by decide)
section
variable {e a b:Expr}{fb:AU}{ga:AV}{p p2:Pos}
def DY:cb K (λxs H Q=>∃i,xs=[.int i]/\i.natAbs.log2<1920/\Q (.str (Str.ofString (toString i))) H) da:=by
 intro vs ds d H G Q h s r q
 match ds,h,r with
 | [.int i],h,r=>
   change (if i.natAbs<2^64 then some (D.str (Str.ofString (toString i)))else none)=some d at h
   by_cases hi:i.natAbs<2^64
   .rw[if_pos hi]at h
    cases h;let{v,rfl,rv}:=eV r;rw[Ct]at rv;subst rv;show{i,rfl,M_ hi,q _ H G (.refl s) (by rw[Rp];show{rfl,M5 _})}
   .rw[if_neg hi]at h
    cases h
theorem DZ:dw K (λx y H Q=>∃i j,x=.str i/\y=.str j/\i.length+j.length<=sizeLine/\Q (.str (i++j)) H) cq:=by
 intro x y dx dy d H G Q h s rx ry q
 match dx,dy,h,rx,ry with
 | .str a,.str b,h,rx,ry=>
   change (if a.length+b.length<=1000000 then some (D.str (a++b))else none)=some d at h
   by_cases hi:a.length+b.length<=1000000
   .rw[if_pos hi]at h
    cases h;rw[Ct]at rx ry;let:=jf;show{a,b,rx.1,ry.1,by ac_nf,q _ H G (.refl s) (by rw[Rp];show{rfl,by rw[mu,rx.2,ry.2];rfl})}
   .rw[if_neg hi]at h
    cases h
theorem D1:dw K jH ix:=by
 intro x y dx dy d H G Q h s rx ry q
 match dx,dy,h,rx,ry with
 | .str z,.int i,h,rx,ry=>
   change (if z.length<=1000000 then (aN z.cps.toList i).map λc=>D.str {#[c]}else none)=some d at h
   by_cases hi:z.length<=1000000
   .rw[if_pos hi]at h
    let{c,hc,rfl}:=qc h;rw[Ct]at rx;rw[Ct]at ry;let:=jf
    let hok:PyData.strOk {#[c]}=true:=by
     let hm:c∈z.cps.toList:=by
      unfold aN at hc;let{j,_,hj}:=qa hc;show List.mem_of_getElem? hj
     let h2:=rx.2;unfold PyData.strOk at h2 ⊢;rw[Array.all_eq_true']at h2;let:=h2 c (Array.mem_toList_iff.mp hm);simpa using this
    show{z,i,c,rx.1,ry,by ac_nf,hc,q _ H G (.refl s) (by rw[Rp];show{(rfl),hok})}
   .rw[if_neg hi]at h
    cases h
theorem D2:∀{l:AN}{ts:AJ},ji l=some ts->l=ts.map D.str
 | [],ts,h=>by cases h;rfl
 | d::l,ts,h=>by
   cases d with
   | str x=>
     let{ts',h1,rfl}:=qc h;rw[Qd,<-D2 h1]
   | _=>cases h
@[simp] theorem D3:∀ts:AJ,ji (ts.map D.str)=some ts
 | []=>rfl
 | x::ts=>by
   rw[Qd,ji,D3 ts];rfl
theorem D4{G:Hp}:∀{ts:AJ}{xs:AM},RpL K G (ts.map D.str) xs->xs=ts.map V.str/\∀x∈ts,PyData.strOk x=true
 | [],xs,r=>by
   rw[List.map_nil,RpL]at r;show{r,λ_ h=>nomatch h}
 | t::ts,xs,r=>by
   rw[Qd,RpL]at r;let{x,xr,rfl,rx,rr}:=r;rw[Rp]at rx;let{h1,h2}:=D4 rr
   show⟨by rw[rx.1,h1];rfl,λy hy=>by
    let rfl+hy:=qu hy
    .show rx.2
    .show h2 y hy⟩
def D5(K:W7):V->AM->Hp->VK->Prop:=λx xs H Q=>∃sep a ts,x=.str sep/\xs=[.ref a]/\SqL K H a (ts.map V.str)/\JoinOk sep ts=true/\Q (.str (Txt.join sep ts)) H
theorem Na:∀{ts:AJ}{its:AC},Vals (ts.map V.str) its->∃l:List (Str×Tok),its=strValues l/\l.map (·.1)=ts
 | [],its,r=>by cases r;show{[],rfl,rfl}
 | t::ts,its,r=>by
   cases r with
   | cons r1 r2=>
     let{tk,rfl}:=r1;let{l,h1,h2}:=Na r2;show{(t,tk)::l,by rw[h1];rfl,by rw[Qd,h2]}
def D6:zB X "str.join" (D5 X.K):=by
 intro pins s σ H x xs v us Q I rx r h;let{sep,a,ts,rfl,rfl,hq,hok,q}:=h;let{tk,rfl}:=rx;let{u,rfl,ru}:=dh r;cases ru;let{its,rv,pl,hz}:=I.list hq;let{l,rfl,hl}:=Na rv
 show SC.join pl.isList hl hok λt' k=>{.str _,H,I.tok k,{_,rfl},q}
theorem D7{sep:Str}{j}(ha:gG X [e] ga)(hx:PyData.strOk sep=true:=by decide +kernel)(hbase:attributeBase (.Constant (.str sep) j p) "join" X.env (eval (.Constant (.str sep) j p) X.env)=eval (.Constant (.str sep) j p) X.env:=by rfl)(hfew:((backTo cpos (starEach [e] X.env)).all (λx=>!x.1)&&(backToKw cpos (keywordEach [] X.env)).all (λx=>x.1.isSome)
  &&decide ([e].length+([]:List Keyword).length+(if ([]:List Keyword).isEmpty then 0 else 1)<30))=true:=by rfl)(hline:(apos.endLine==cpos.line)=true:=by rfl)(hs:starEach [e] X.env=(false,eval e X.env)::starEach [] X.env:=by rfl)(hplain:(backTo cpos (starEach [] X.env)).any (·.1)=false:=by rfl):
 ZE X (.Call (.Attribute (.Constant (.str sep) j p) "join" apos) [e] [] cpos) (cC ga (dN sep)):=⟨let ha:=ha.un;
 PE.imp (jI F.plainAttrs_str F.slot_str_join F.type_str_join D6 yg ha hbase hfew hline hs hplain) λσ H Q ⟨ρ,d,H0,G0,G,e,s,h⟩=>by
  unfold cC at e;let{ds,h1,e}:=qa e;show{rfl,tCAof.at h1 s λvs H1 G1 g1 r1 s1=>?_};unfold dN at e
  split at e
  case h_2=>cases e
  rename_i l;let{ts,h2,e}:=qa e;by_cases hok:JoinOk sep ts=true
  .rw[if_pos hok]at e
   cases e;let{v,rfl,rv}:=eV r1;rw[Ct]at rv;let{a,xs,rfl,hq,rl}:=rv;rw[D2 h2]at rl;let{rfl,hoks}:=D4 rl;show{sep,a,ts,rfl,rfl,.inl hq,hok,h _ H1 G1 g1 (by rw[Rp];show{rfl,DX hx hoks})}
  .rw[if_neg hok]at e
   cases e⟩
theorem D8{x:Str}{j}(ha:ZC X e fa)(hx:PyData.strOk x=true:=by decide +kernel)(hxl:x.length<=1000:=by decide +kernel):
 ZE X (.JoinedStr [.Constant (.str x) j p,.FormattedValue e (-1) none p2] pos) (b1 fa (qV x)):=⟨let ha:=ha.un;by
 intro pins s σ H Q I hq;let{ρ,d,H0,G0,G,er,sr,h}:=hq;let{y,h1,h2}:=cI er;let hsz:=jf
 let hem:(Str.empty++x:Str)=x:=by
  change({Str.empty.cps++x.cps}:Str)=x;let:Str.empty.cps=#[]:=rfl;rw[this,Array.empty_append]
 show wpAny_JoinedStr ?_;change Zo X (eval (.Constant (.str x) j p) X.env) _ X.xe s;show Calls.Constant_str {x,_,rfl,by rw[hem];ac_nf,?_};rw[hem];change Zo X (eval (.FormattedValue e (-1) none p2) X.env) _ X.xe _;show wpAny_FormattedValue_plain (aD (ha pins _ σ H _ (I.tok _) (tCof.at h1 sr λv H1 G1 g1 r1 s1=>({(G1),g1,r1}:∃G1,Gr H G H1 G1/\Ct X.K G1 H1 y v))) λu s2 hx2=>?_);let{v,H2,I2,rv,G2,g2,r2}:=hx2
 cases y with
 | int i=>
   change (if i.natAbs<2^64/\(x++Str.ofString (toString i)).length<=1000000 then some (D.str (x++Str.ofString (toString i)))else none)=some d at h2
   by_cases hi:i.natAbs<2^64/\(x++Str.ofString (toString i)).length<=1000000
   .rw[if_pos hi]at h2
    cases h2;rw[Ct]at r2;subst r2;let{t,rfl}:=rv;show wpAny_formatField_int (M_ hi.1) {_,_,rfl,by ac_nf,?_};show{by ac_nf,.str _,H2,I2.tok _,{_,rfl},h _ H2 G2 g2 (by rw[Rp];show{rfl,by rw[mu,hx,M5];rfl})}
   .rw[if_neg hi]at h2
    cases h2
 | _=>cases h2⟩
def D9(ha:ZC X a fa)(hb:ZC X b fb):ZE X (.BinOp a .Add b pos) (b2 fa fb cq):={let ha:=ha.un;let hb:=hb.un;jS Q_ DZ ha hb}
def vP(ha:ZC X a fa)(hb:ZC X b fb)(hs:nZ b):ZE X (.Subscript a b pos) (b2 fa fb ix):={let ha:=ha.un;let hb:=hb.un;oq n9 D1 ha hb hs}
end
def vQ{α:Sort _}{a b:α}(h:a=b):a=b:=h
def D_(i:Int):da [.int i]=if i.natAbs<2^64 then some (.str (Str.ofString (toString i)))else none:=vQ rfl
def Uq(sep:Str)(l:AN):dN sep [.lst l]=(ji l).bind λxs=>if JoinOk sep xs=true then some (.str (Txt.join sep xs))else none:=vQ rfl
def Ea(x:Str)(i:Int):qV x (.int i)=if i.natAbs<2^64/\(x++Str.ofString (toString i)).length<=1000000 then some (.str (x++Str.ofString (toString i)))else none:=vQ rfl
def Eb(a b:Str):cq (.str a) (.str b)=if a.length+b.length<=1000000 then some (.str (a++b))else none:=vQ rfl
def Gr.pokeShow{H G H' G':Hp}(g:Gr H G H' G'){b:Addr}(hb:H b=none)(gb:G' b=none)(o:HO):Gr H G (upd H' b o) (upd G' b o):=by
 show{λx u e=>?_,λx u e=>?_,λx u e=>?_,λx h h'=>?_}
 .rw[Yl (Yr e hb)];show g.h x u e
 .let:=g.g x u e
  rw[Yl (Yr this gb)];show this
 .by_cases z:x=b
  .subst z;rw[Yo]at e ⊢;show e
  .rw[Yl z]at e ⊢;show g.s x u e
 .by_cases z:x=b
  .rw[z];show hb
  .rw[Yl z]at h'
   show g.n x h h'
def SR.blur{K:W7}{H0 G0 H G:Hp}{σ:L2.St}{ρ:Ro}(s:SR K H0 G0 σ H G ρ)(i:Nat)(v:Option V):SR K H0 G0 (σ.set i v) H G (ρ.set i none):=by
 let get:∀(m:Nat) (o:B),(ρ.set i none)[m]?=some (some o)->m≠i/\ρ[m]?=some (some o):=λm o e=>by
  by_cases z:m=i
  .subst z
   rw[List.getElem?_set,if_pos rfl]at e
   split at e<;>cases e
  .rw[Qp (Ne.symm z)]at e
   show{(z),e}
 let gs:∀m,m≠i->(σ.set i v)[m]?=σ[m]?:=λm z=>Qp (Ne.symm z);show{s.gr,by rw[List.length_set,List.length_set];show s.len,λm d e=>?_,λm l e=>?_,λm m' l l' a b e e' ne q q'=>?_,λm t ks vs e=>?_,λm m' t ks vs t' ks' vs' a b e e' ne q q'=>?_}
 .let{z,e}:=get _ _ e
  rw[gs m z];show s.sh m d e
 .let{z,e}:=get _ _ e
  rw[gs m z];show s.ow m l e
 .let{z,e}:=get _ _ e
  let{z',e'}:=get _ _ e';rw[gs m z]at q;rw[gs m' z']at q';show s.ap m m' l l' a b e e' ne q q'
 .let{z,e}:=get _ _ e
  rw[gs m z];show s.od m t ks vs e
 .let{z,e}:=get _ _ e
  let{z',e'}:=get _ _ e';rw[gs m z]at q;rw[gs m' z']at q';show s.apd m m' t ks vs t' ks' vs' a b e e' ne q q'
def iy(i:Nat)(f1 f2:AU)(fc:AT)(fe:AU)(fr:AR):AR:=λρ=>if i<ρ.length then (f1 ρ).bind λd1=>(f2 ρ).bind λd2=>(fc (ρ.set i none)).bind λk=>
 if k=true then (fe (ρ.set i none)).bind λd=>fr (ρ.set i (some (.ow [d1,.lst [d2,d]])))else fr (ρ.set i (some (.ow [d1,.lst [d2]])))else none
section
variable {e1 e2 c e:Expr}{f1 f2 fe:AU}{fc:AT}{fr:AR}{y:Str}{pos3 l1 l2:Pos}
theorem Ec(i:Nat){j:_}(hN:X.N.Nodup)(h1:ZE X e1 f1)(h2:ZE X e2 f2)(hc:ZT X c fc)(he:ZE X e fe)(hr:ZB X sts fr)(hy:X.N[i]?=some y:=by rfl)(hx:dO X.env.scope y:=by trivial)(hv:eN X.env.scope y:=by trivial)(hd:(y==("__debug__":Str))=false:=by decide)(hcd:(y==("__classdict__":Str))=false:=by decide)(hs1:starEach [e1,.List [e2] l1] X.env=(false,eval e1 X.env)::starEach [.List [e2] l1] X.env:=by rfl)(hs2:starEach [.List [e2] l1] X.env=(false,eval (.List [e2] l1) X.env)::starEach [] X.env:=by rfl)(hs3:starEach [e2] X.env=(false,eval e2 X.env)::starEach [] X.env:=by rfl)(hse:swapsWith (.List [e1,.List [e2] l1] l2) (some (.Name y p1)) pos.line X.env=pure false:=by rfl)(hf:Zm X y:=by trivial)(hpi:nZ (.Constant (.int 1) j q2):=by show λ_ _=>rfl)(hse2:swapsWith (.Call (.Attribute (.Subscript (.Name y q1) (.Constant (.int 1) j q2) q3) "append" apos) [e] [] cpos) none pos2.line X.env=pure false:=by rfl)(hs:starEach [e] X.env=(false,eval e X.env)::starEach [] X.env:=by rfl)(hpl:(backTo cpos (starEach [] X.env)).any (·.1)=false:=by rfl)(hbase:attributeBase (.Subscript (.Name y q1) (.Constant (.int 1) j q2) q3) "append" X.env (eval (.Subscript (.Name y q1) (.Constant (.int 1) j q2) q3) X.env)=eval (.Subscript (.Name y q1) (.Constant (.int 1) j q2) q3) X.env:=by rfl)(hfew:pv X cpos [e]:=by rfl)(hline:(apos.endLine==cpos.line)=true:=by rfl):
 ZB X (.Assign [.Name y p1] (.List [e1,.List [e2] l1] l2) pos::.If c [.Expr (.Call (.Attribute (.Subscript (.Name y q1) (.Constant (.int 1) j q2) q3) "append" apos) [e] [] cpos) pos2] [] pos3::sts) (iy i f1 f2 fc fe fr):=
 ⟨PSs.imp (eO (nJ hN hy hx (tN (cx h1.un (cx (tN (cx h2.un dC hs3)) dC hs2) hs1)) hse hf) (eO (lH hc.un (tF (iR (jI PySem.F.plainAttrs_list PySem.F.slot_list_append PySem.F.type_list_append tS (n6 ix_list (fC hy hv hd hcd) tE hpi) (cx he.un dC hs) hbase hfew hline hs hpl) hse2)) nE) hr.un)) λF σ H hx_=>by
  let{ρ,out,H0,G0,G,er,s,h}:=hx_;unfold iy at er
  let hil:i<ρ.length:=Classical.byContradiction λz=>by rw[if_neg z]at er;cases er
  rw[if_pos hil]at er;rw[<-s.len]at hil;let{d1,a1,er}:=qa er;let{d2,a2,er}:=qa er;let{k,a3,er}:=qa er;let hsz:=jf;show tOf.at a1 s λv1 H1 G1 g1 r1 s1=>tOf.at a2 s1 λv2 H2 G2 g2 r2 s2=>?_;show{by simp;ac_nf,λb hb=>{by simp;ac_nf,λo ho=>?_}}
  let hbo:o≠b:=λz=>by rw[z,Yo]at ho;cases ho
  let ho2:H2 o=none:=by rw[Yl hbo]at ho;show ho
  let gb2:G2 b=none:=s2.seen.free hb;let go2:G2 o=none:=s2.seen.free ho2;let k1:Gr H2 G2 (upd H2 b (.lst [v2])) G2:=Gr.hid s2.seen hb _;let k2:Gr (upd H2 b (.lst [v2])) G2 (upd (upd H2 b (.lst [v2])) o (.lst [v1,.ref b])) G2:=Gr.hid k1.s ho _;let s4:=(s2.grow (k1.trans k2)).blur i (some (.ref o));show tTof.at a3 s4 λH5 G5 g5 s5=>?_
  let hb4:(upd (upd H2 b (.lst [v2])) o (.lst [v1,.ref b])) b=some (.lst [v2]):=by rw[Yl (Ne.symm hbo),Yo]
  let hb5:H5 b=some (.lst [v2]):=g5.h _ _ hb4;let ho5:H5 o=some (.lst [v1,.ref b]):=g5.h _ _ Yo;let gb5:G5 b=none:=lK g5 hb4 gb2;let go5:G5 o=none:=lK g5 Yo go2;let gall:=(k1.trans k2).trans g5
  cases k with
  | false=>
    rw[if_neg qi]at er ⊢;let g7:=gall.show hb gb5 hb5;show{_,out,H0,G0,_,er,s2.set_ow i g7 ho2 (by rw[Yl hbo];show go5) ho5 (.cons (r1.mono (g2.g.trans g7.g)) (.one ?_)),h};rw[Rp];show{b,[v2],rfl,.inl Yo,.one (r2.mono g7.g)}
  | true=>
    rw[if_pos rfl]at er ⊢;let{d,a4,er}:=qa er;show{_,?_,o,_,1,.ref b,rfl,rfl,SqL.of ho5,rfl,.inl {rfl,_,SqL.of hb5},tOf.at a4 s5 λv H6 G6 g6 r6 s6=>?_}
    .show List.getElem?_set_self hil
    let hb6:=g6.h _ _ hb5;let ho6:=g6.h _ _ ho5;let gb6:=lK g6 hb5 gb5;let go6:=lK g6 ho5 go5;show{b,[v2],v,rfl,rfl,hb6,by simp;ac_nf,?_};let g7:=(gall.trans g6).pokeShow hb gb6 (.lst [v2,v])
    let sm6:Same G6 (upd G6 b (.lst [v2,v])):=λx u q=>by rw[Yl (Yr q gb6)];show q
    show{_,out,H0,G0,_,er,s2.set_ow i g7 ho2 (by rw[Yl hbo];show go6) (by rw[Yl hbo];show ho6) (.cons (r1.mono (g2.g.trans g7.g)) (.one ?_)),h};rw[Rp]
    show{b,[v2,v],rfl,.inl Yo,.cons (r2.mono g7.g) (.one (r6.mono sm6))}⟩
end
end M
namespace M
variable {prog:P7}{s:Shared}{K:W7}{X:Cx}{es ifs elts:AK}{fa fk fo:AU}{pos pos' px pos2 apos np hpos cpos pos1 p1 q1 q2 q3 cp:Pos}{pins qs:AB}{gl:AV}{st b₀:Stmt}{sts suite:List Stmt}{tg elt iter ie ke:Expr}{scope:Scope}{mg:AD}{base:Heap}{env:Env}{outer:List Env}{L ea:Addr}{qual xn:Str}{cd:Value}{sp:Sp}{os:OsState}
open PySem PySem.Spec PyProof.Rows L2 Builtin Builtin.Str
theorem Nb{sep:Str}:∀(l:AJ) (acc:Array Nat),PyData.strOk {l.foldl (λacc p=>acc++sep.cps++p.cps) acc}=true->PyData.strOk {(acc)}=true/\∀x∈l,PyData.strOk x=true
 | [],_,h=>{h,λ_ z=>(nomatch z)}
 | x::l,acc,h=>by
   rw[List.foldl_cons]at h;let{h1,h2}:=Nb l _ h;let e:PyData.strOk {acc++sep.cps++x.cps}=PyData.strOk ((({(acc)}:Str)++sep)++x):=rfl;rw[e,mu,mu,Qe,Qe]at h1;show{h1.1.1,λy hy=>?_}
   cases hy with
   | head=>show h1.2
   | tail _ hy=>show h2 y hy
def Nc(x y:Str):Txt.join y (Txt.split x y)=x:=(beq_iff_eq.mp (join_plain_closes y (Txt.split x y))).trans (StrLaws.join_split x y)
def Ed{x y:Str}(h:PyData.strOk x=true):∀z∈Txt.split x y,PyData.strOk z=true:=by
 let e:=Nc x y
 cases hs:Txt.split x y with
 | nil=>show λ_ z=>(nomatch z)
 | cons a l=>
   rw[hs]at e;rw[<-e]at h;let{h1,h2}:=Nb (sep:=y) l a.cps h;intro z hz
   cases hz with
   | head=>show h1
   | tail _ hz=>show h2 z hz
def kL(sep:Str):D->Option D
 | .str x=>if x.length<=1000000 then some (.lst ((Txt.split x sep).map D.str))else none
 | _=>none
def Ee:V->AM->Hp->VK->Prop:=λx xs H Q=>∃t y,x=.str t/\xs=[.str y]/\(y.length==0)=false/\t.length<=1000000/\∀p,H p=none->Q (.ref p) (upd H p (.lst ((Txt.split t y).map V.str)))
theorem Nd:∀l:List (Str×Tok),Vals ((l.map (·.1)).map V.str) (strValues l)
 | []=>.nil
 | (x,t)::l=>.cons {(t),rfl} (Nd l)
theorem Nf{G:Hp}:∀{l:AJ},(∀x∈l,PyData.strOk x=true)->RpL K G (l.map D.str) (l.map V.str)
 | [],_=>.nil
 | x::l,h=>.cons (by rw[Rp];show{rfl,h x (.head _)}) (Nf λy hy=>h y (.tail _ hy))
section
variable {e a b:Expr}{fb:AU}{ga:AV}{p p2:Pos}
theorem Ef:zB X "str.split" Ee:=by
 intro pins s σ H x xs v us Q I rx r h;let{t,y,rfl,rfl,hy,hz,q}:=h;let{tk,rfl}:=rx;let{u,rfl,ru}:=dh r;let{tu,rfl}:=ru;let hsl:=jf;let hle:=split_le t y
 let fin:∀(l:List (Str×Tok)) (k:Nat),l.map (·.1)=Txt.split t y->EP X pins σ Q (.ref (~~~s)) {s with heap:=s.heap.push {cls:=.type "list",data:=.seq (strValues l).toArray},toks:=k}:=λl k hl=>by
  let hv:=Nd l;rw[hl]at hv;show{.ref (~~~s),_,I.lnew hv (by rw[qf];ac_nf),rfl,q _ I.fresh}
 cases h1:(decide (t.length<y.length)||decide (strKind t<strKind y))
 .cases hf:(occurrences t y 0 t.length (t.length+1)).isEmpty
  .let hsp:Txt.split t y=partsBetween t (occurrences t y 0 t.length (t.length+1)) y.length:=(if_neg (ne_true_of_eq_false h1)).trans (if_neg (ne_true_of_eq_false hf))
   show call_meets F.slot_str_split (typeIs_str _ _ _) F.entry_str_split (F.args_str_split_2 _ _) (meets_str_split_sep t y tk tu h1 hy hf ∅ (by rw[<-hsp];ac_nf)) ?_;change wants (EP X pins σ Q) X.xe _ {s with toks:=_,heap:=s.heap.push {cls:=.type "list",data:=.seq (strsFrom s.toks (partsBetween t (occurrences t y 0 t.length (t.length+1)) y.length)).toArray} };rw[strsFrom_eq];show fin (numbered s.toks _) _ ((numbered_texts _ _).trans hsp.symm)
  .show call_meets F.slot_str_split (typeIs_str _ _ _) F.entry_str_split (F.args_str_split_2 _ _) (meets_str_split_not_found t y tk tu h1 hy hf)
    (fin [(t,tk)] s.toks ((if_neg (ne_true_of_eq_false h1)).trans (if_pos hf)).symm)
 .show call_meets F.slot_str_split (typeIs_str _ _ _) F.entry_str_split (F.args_str_split_2 _ _) (meets_str_split_cannot_occur t y tk tu h1)
   (fin [(t,tk)] s.toks (if_pos h1).symm)
theorem Eg{sep:Str}{j}(ha:ZE X e fa)(hx:(sep.length==0)=false:=by decide +kernel)(hbase:attributeBase e "split" X.env (eval e X.env)=eval e X.env:=by rfl)(hfew:((backTo cpos (starEach [.Constant (.str sep) j p] X.env)).all (λx=>!x.1)&&(backToKw cpos (keywordEach [] X.env)).all (λx=>x.1.isSome)
  &&decide ([Expr.Constant (.str sep) j p].length+([]:List Keyword).length+(if ([]:List Keyword).isEmpty then 0 else 1)<30))=true:=by rfl)(hline:(apos.endLine==cpos.line)=true:=by rfl)(hs:starEach [.Constant (.str sep) j p] X.env=(false,eval (.Constant (.str sep) j p) X.env)::starEach [] X.env:=by rfl)(hplain:(backTo cpos (starEach [] X.env)).any (·.1)=false:=by rfl):
 ZE X (.Call (.Attribute e "split" apos) [.Constant (.str sep) j p] [] cpos) (b1 fa (kL sep)):=
 ⟨PE.imp (jI F.plainAttrs_str F.slot_str_split F.type_str_split Ef ha.un (cx yg dC hs) hbase hfew hline hs hplain) λσ H Q hx_=>by
  let{ρ,d,H0,G0,G,er,s,h}:=hx_;let{y,h1,h2}:=cI er;show tOf.at h1 s λv H1 G1 g1 r1 s1=>?_
  cases y with
  | str t=>
    change (if t.length<=1000000 then some (D.lst ((Txt.split t sep).map D.str))else none)=some d at h2
    split at h2
    .rename_i hl
     cases h2;rw[Rp]at r1;let{rfl,hok}:=r1;show{rfl,t,sep,rfl,rfl,hx,hl,λq hq=>?_};let gn:=Gr.new s1.seen hq (.lst ((Txt.split t sep).map V.str));show h _ _ _ (g1.trans gn) ?_;rw[Rp];show{q,_,rfl,.inl Yo,Nf (Ed hok)}
    .cases h2
  | _=>cases h2⟩
def eG:AN->Option D
 | [.str s]=>if s.length<=1000000 then some (.int s.length)else none
 | _=>none
theorem Eh:cb K (λxs H Q=>∃z:Str,xs=[.str z]/\z.length<=sizeLine/\Q (.int z.length) H) eG:=by
 intro vs ds d H G Q e sm r q;unfold eG at e
 split at e
 .rename_i s
  split at e
  .rename_i hl
   cases e;let{v,rfl,rv}:=eV r;rw[Ct]at rv;let{rfl,hok}:=rv;show{s,rfl,by rw[jf];ac_nf,q _ H G (Gr.refl sm) (by rw[Rp])}
  .cases e
 .cases e
def iA:AN->Option D
 | [.str s]=>if s.length<=640 then (intText? s).map D.int else none
 | _=>none
def Ur:b9 X (.type "int") (λxs H Q=>∃z n,xs=[.str z]/\z.length<=640/\intText? z=some n/\Q (.int n) H):=by
 intro pins s σ H xs us Q I r h;let{z,n,rfl,hl,hn,q}:=h;let{u,rfl,ru}:=dh r;let{t,rfl}:=ru;show W.KIN.call_text hn hl {.int n,H,I.tok _,{_,rfl},q}
def Ei:cb K (λxs H Q=>∃(z:Str) (n:Int),xs=[.str z]/\z.length<=640/\intText? z=some n/\Q (.int n) H) iA:=by
 intro vs ds d H G Q e sm r q;unfold iA at e
 split at e
 .rename_i s
  split at e
  .rename_i hl
   let{n,h1,rfl}:=qc e;let{v,rfl,rv}:=eV r;rw[Ct]at rv;let{rfl,hok}:=rv;show{s,n,rfl,hl,h1,q _ H G (Gr.refl sm) (by rw[Rp])}
  .cases e
 .cases e
def qW:D->D->Option Bool
 | .str i,.str j=>some (!(occurrences j i 0 j.length 1).isEmpty)
 | _,_=>none
def Ej:ef K (λx y H Q=>∃i j,x=.str i/\y=.str j/\Q (.bl (!(occurrences j i 0 j.length 1).isEmpty)) H) qW:=by
 intro x y dx dy b H G Q e sm rx ry q;unfold qW at e
 split at e
 .cases e
  rw[Ct]at rx ry;show{_,_,rx.1,ry.1,q}
 .cases e
def Ek(ha:ZC X a fa)(hb:ZC X b fb)(hm:behindInMarks .In b=false:=by with_unfolding_all rfl):ZE X (.Compare a [.In] [b] pos) (mB (b2 fa fb qW)):={lN Q5 Ej ha.un hb.un hm}
def kM(i:Int):D->Option D
 | .str s=>if s.length<=1000000 then some (.str (Txt.slice s (some i) none))else none
 | _=>none
end
end M
namespace M
variable {prog:P7}{s:Shared}{K:W7}{X:Cx}{es ifs elts:AK}{fa fk fo:AU}{pos pos' px pos2 apos np hpos cpos pos1 p1 q1 q2 q3 cp:Pos}{pins qs:AB}{gl:AV}{st b₀:Stmt}{sts suite:List Stmt}{tg elt iter ie ke:Expr}{scope:Scope}{mg:AD}{base:Heap}{env:Env}{outer:List Env}{L ea:Addr}{qual xn:Str}{cd:Value}{sp:Sp}{os:OsState}
open PySem PySem.Spec PyProof.Rows L2 Builtin Builtin.Str
def Ng(x:Str):It:={λi _=>∃c,x.cps[i]?=some c,λi H v H'=>H'=H/\∃c,x.cps[i]?=some c/\v=.str {#[c]},λi _=>x.cps[i]?=none}
theorem El{P:P7}{w:World}{K:W7}{tg:Expr}(x:Str)(t:Tok)(it:Addr):dP P w K tg (Ng x) [it] it (λi h=>h.IsStrIter it "str_ascii_iterator" x t i) where
 mem:=by simp
 obj:=λi h st b hb=>by
  let e:b=it:=by simpa using hb
  subst e;let{o,e,c,d}:=st;show{o,e,λv z=>by rw[d]at z;cases z}
 keep:=λi h h' st k=>by
  let{o,e,c,d}:=st;show{o,k it nofun o e,c,d}
 item:=by
  intro X hP hw hK hc i pins s σ H E I hf st hg;subst hP hw hK;let{c,hx}:=hg;let{f0,f1,f2,f3,f4,f5}:=hf it nofun;show wpAny_pyNext_ascii_item st hx λh' st' sb=>?_;let I1:Inv X pins σ H {s with heap:=h',toks:=s.toks+1}:=I.turned (t':=s.toks+1) (λb o hb e=>(sb.2 b hb).trans e) f0 f1 f3 f4 f5;let{o,e,c',d}:=id st';show{_,rfl,tH (s:={s with heap:=h',toks:=s.toks+1}) e c' d (by decide) {.str {#[c]},H,I1,{_,rfl},{(rfl),c,hx,rfl},st',λb hb=>(hf b hb).1}}
 done:=by
  intro X hP hw hK hc i pins s σ H E I hf st hg;subst hP hw hK;let{f0,f1,f2,f3,f4,f5}:=hf it nofun
  show wpAny_pyNext_ascii_end (I.ok.hd hc) st hg λh' eb=>{rfl,I.turned (t':=s.toks) (λb o hb e=>eb b o hb e) f0 f1 f3 f4 f5}
 self:=λA i s Q E st h=>by
  show wpAny_pyIter_slot st.typeIs F.slot_str_ascii_iterator_iter (wf F.slot_str_ascii_iterator_iter st.typeIs F.entry_str_ascii_iterator_iter ?_ (F.args_str_ascii_iterator_iter_1 _));change wpAny _ _ (ret (.ref it)) _ _ s;show wc {_,rfl,"str_ascii_iterator",_,st.typeIs,F.slot_str_ascii_iterator_next.lookup,h}
def Em(te:TE):TI:=λσ H R=>te σ H λv H1=>∃x:Str,v=.str x/\x.cps.all (·<128)=true/\R (Ng x) H1
def En{X:Cx}{tg e:Expr}{te:TE}(he:PE X e te):PI X tg e (Em te):=by
 intro pins s σ H R I h;show aD (he pins s σ H _ I h) λv s1 hx_=>?_;let{x,H1,I1,r1,q1}:=hx_;let{z,e,ha,q}:=q1;subst e;let{t,rfl}:=r1;show wpAny_pyIter_ascii ha ?_;show{~~~s1,[~~~s1],_,_,H1,rfl,I1.kept (t':=s1.toks) λb o e=>qe _ e,El z t _,{_,qp _ rfl,rfl,rfl},λb hb=>?_,q}
 let e:b= ~~~s1:=by simpa using hb
 subst e;show I1.fpOk (qv _) (I1.hok.fresh (qv _))
def fx:D->Option AN
 | .str s=>if s.cps.all (·<128)=true/\s.length<=1000000 then some (s.cps.toList.map λc=>.str {#[c]})else none
 | _=>none
theorem Eo{s:Str}{c:Nat}(ha:s.cps.all (·<128)=true)(h:c∈s.cps.toList):PyData.strOk {#[c]}=true:=by
 rw[<-Array.all_toList,List.all_eq_true]at ha;let:=ha c h;simp at this;change(#[c]:Array Nat).all _=true;simp;ac_nf
section
variable {e a:Expr}{p:Pos}{x:Str}
theorem Ep(ha:ZE X e fa):ZI X tg e (b1 fa fx):=⟨PI.imp (En ha.un) λσ H R hx_=>by
 let{ρ,ds,H0,G0,G,er,s,h}:=hx_;let{y,h1,h2}:=cI er;show tOf.at h1 s λv H1 G1 g1 r1 s1=>?_
 cases y with
 | str z=>
   change (if z.cps.all (·<128)=true/\z.length<=1000000 then some (z.cps.toList.map λc=>D.str {#[c]})else none)=some ds at h2
   split at h2
   .rename_i hz
    cases h2;rw[Rp]at r1;let{rfl,hok}:=r1;let hsl:=jf;show{z,rfl,hz.1,h _ H1 G1 g1 (oO (by rw[qf,qj];let:=hz.2;change z.length<=_;ac_nf) λi H2 G2 e1 e2=>{λd hd=>?_,λhi=>?_})}
    .rw[Qm]at hd
     let{c,hc,rfl}:=qc hd;rw[Array.getElem?_toList]at hc;show{{(c),hc},λv H3 q=>?_};let{rfl,c',hc',rfl}:=q;rw[hc]at hc';cases hc';show{rfl,?_};rw[Rp];show{rfl,Eo hz.1 (List.mem_of_getElem? (by rw[Array.getElem?_toList];show hc))}
    .rw[qf,qj]at hi
     show Array.getElem?_eq_none hi
   .cases h2
 | _=>cases h2⟩
def Er:V->Option Int->Option Int->Hp->VK->Prop:=λx lo hi H Q=>∃z i,x=.str z/\lo=some i/\hi=none/\z.length<=1000000/\Q (.str (Txt.slice z (some i) none)) H
theorem Es:tQ X Er:=by
 intro pins s σ H x v vl vu lo hi sl Q I rx hs pl pu h;let{z,i,rfl,rfl,rfl,hz,q}:=h;let{t,rfl}:=rx
 cases pl with
 | int _ ti=>
   cases pu;let hsl:=jf;show{"str",_,F.slot_str_getitem.lookup,typeIs_str _ _ _,wpAny_getItem_str_slice (l:=some (i,ti)) (u:=none) (st:=none) hs rfl (post_val_or_str {Qg (Txt.slice_le z (some i) none) ∅,λt' k=>{.str _,H,I.tok k,{(t'),rfl},q}})}
def Nh{z:Str}{lo hi:Option Int}(h:PyData.strOk z=true):PyData.strOk (Txt.slice z lo hi)=true:=by
 unfold Txt.slice
 split
 .show h
 .unfold PyData.strOk at h ⊢
  rw[<-Array.all_toList,List.all_eq_true]at h;rw[List.all_toArray,List.all_eq_true];intro c hc;let{j,_,hj}:=List.mem_filterMap.mp hc;show h c (by rw[<-Array.getElem?_toList]at hj;show List.mem_of_getElem? hj)
def Et{i:Int}{p2:Pos}{j}(ha:ZE X a fa):ZE X (.Subscript a (.Slice (some (.Constant (.int i) j p)) none none p2) pos) (b1 fa (kM i)):=
 ⟨PE.imp (zy Es ha.un (KE tE) KD) λσ H Q hx_=>by
  let{ρ,d,H0,G0,G,er,s,h}:=hx_;let{y,h1,h2}:=cI er;show tOf.at h1 s λv H1 G1 g1 r1 s1=>?_
  cases y with
  | str z=>
    change (if z.length<=1000000 then some (D.str (Txt.slice z (some i) none))else none)=some d at h2
    split at h2
    .rename_i hz
     cases h2;rw[Rp]at r1;let{rfl,hok}:=r1;show{i,rfl,z,i,rfl,rfl,rfl,hz,h _ H1 G1 g1 (by rw[Rp];show{rfl,Nh hok})}
    .cases h2
  | _=>cases h2⟩
def GS(mg:AD)(x y:Str):Prop:=PyData.strOk y=true/\∃t,mg x=some (.str y t)
def Eu{y:Str}(g:GS X.mg x y)(hg:Gl X x)(hd:ba x:=by decide):ZE X (.Name x px) (kD (.str y)):=by
 let{hok,t,hm}:=g;show{lM (v:=.str y) (gW (v:=.str y) hg hm {(t),rfl} hd) (λ_ _ _ q=>q) λ_=>by rw[Rp];show{(rfl),hok}}
end
end M
namespace M
variable {prog:P7}{s:Shared}{K:W7}{X:Cx}{es ifs elts:AK}{fa fk fo:AU}{pos pos' px pos2 apos np hpos cpos pos1 p1 q1 q2 q3 cp:Pos}{pins qs:AB}{gl:AV}{st b₀:Stmt}{sts suite:List Stmt}{tg elt iter ie ke:Expr}{scope:Scope}{mg:AD}{base:Heap}{env:Env}{outer:List Env}{L ea:Addr}{qual xn:Str}{cd:Value}{sp:Sp}{os:OsState}
open PySem PySem.Spec PyProof.Rows L2
structure Zf(h:Heap)(z I O a b t u:Addr)(k:Nat)(f x y:Value)(xs ys:Array Value):Prop where
 zip:IsZip h z I O f
 ins:IsPair h I (.ref a) (.ref b)
 out:IsPair h O x y
 ita:h.IsTupleIter a t k
 itb:h.IsTupleIter b u k
 tua:h.IsTuple t xs
 tub:h.IsTuple u ys
structure Zg(h:Heap)(z I O a b t u:Addr)(k:Nat)(f x y:Value):Prop where
 zip:IsZip h z I O f
 ins:IsPair h I (.ref a) (.ref b)
 out:IsPair h O x y
 ita:h.IsTupleIter a t k
 itb:h.IsTupleIter b u k
def mv(w:World):List DictEntry->AJ->Prop:=Paired λe k=>e.hash=PyData.keyHash w.params k/\∃t,e.key=.str k t
def GK(K:W7)(w:World)(mg:AD)(x:Str)(ks:AJ):Prop:=∃p o es ep,mg x=some (.ref p)/\(p==sysModules)=false/\K.lookup p=some o/\o.ExactDict/\o.data=.dict es ep/\mv w es.toList ks
theorem SE.keys{w:World}:∀{l:List DictEntry}{kvs:List (Str×Str)},SE w l kvs->mv w l (kvs.map (·.1))
 | _,_,.nil=>.nil
 | _,_,.cons r t=>.cons {(r.1),r.2.1} (SE.keys t)
theorem Ni{P:P7}{w:World}{k:Str}:∀{l:List DictEntry}{ks:AJ},mv w l ks->(l.find? (λe=>(PySem.strKind P w).is k e.key)).isSome=decide (k∈ks)
 | _,_,.nil=>by simp
 | _,_,.cons (a:=e) (b:=a) r t=>by
   let{_,{t1,h1}}:=r;let ih:=Ni (P:=P) (k:=k) t;rw[List.find?_cons]
   let he:(PySem.strKind P w).is k e.key=(a==k):=by rw[h1];rfl
   rw[he];by_cases q:a=k
   .subst q;simp
   .let hn:(a==k)=false:=by simpa using q
    let q':¬k=a:=λz=>q z.symm;rw[hn];simp[ih,q']
theorem mw{P:P7}{w:World}:∀{l:List DictEntry}{ks:AJ},mv w l ks->∀e∈l,∃k,(PySem.strKind P w).is k e.key=true/\e.hash=(PySem.strKind P w).hash k
 | _,_,.nil,e,h=>by cases h
 | _,_,.cons (b:=p) r t,e,h=>by
   let rfl+h:=qu h
   .let{h0,{t1,h1}}:=r
    show{p,by rw[h1];simp[PySem.strKind,Value.isStrOf],h0}
   .show mw t e h
section
variable {a:Expr}{x:Str}{ks:AJ}
theorem Ew{p:Addr}{o:Obj}{es:Array DictEntry}{ep:Nat}(hp:(p==sysModules)=false)(hl:X.K.lookup p=some o)(hx:o.ExactDict)(hd:o.data=.dict es ep)(hs:mv X.w es.toList ks):bh X (compareOp .In) (h_ p ks false)/\bh X (compareOp .NotIn) (h_ p ks true):=by
 let hf:∀k,(findBy (PySem.strKind X.prog X.w).is es k).isSome=decide (k∈ks):=λk=>by
  change((es.find? λe=>(PySem.strKind X.prog X.w).is k e.key).map (·.val)).isSome=_;rw[<-Array.find?_toList,Option.isSome_map,Ni hs]
 constructor
 .intro pins s σ H x y v u Q I rx ry h
  let{k,rfl,hk,rfl,q}:=h;cases ry;let{t,rfl}:=rx;show wpAny_in_of (knd:=PySem.strKind X.prog X.w) (k:=k) (f:=λk=>findBy (PySem.strKind X.prog X.w).is es k) (by simp[PySem.strKind,Value.isStrOf]) hp {o,es,ep,I.kIn p o hl,hx,hd,λe he=>mw hs e (by simpa using he),λ_=>rfl} {.bl _,H,I.tok _,rfl,?_};rw[hf k]
  let e:decide (k∈ks)=(decide (k∈ks)!=false):=by cases decide (k∈ks)<;>rfl
  rw[e];show q
 .intro pins s σ H x y v u Q I rx ry h
  let{k,rfl,hk,rfl,q}:=h;cases ry;let{t,rfl}:=rx;show wpAny_notIn_of (knd:=PySem.strKind X.prog X.w) (k:=k) (f:=λk=>findBy (PySem.strKind X.prog X.w).is es k) (by simp[PySem.strKind,Value.isStrOf]) hp {o,es,ep,I.kIn p o hl,hx,hd,λe he=>mw hs e (by simpa using he),λ_=>rfl} {.bl _,H,I.tok _,rfl,?_};rw[hf k]
  let e:(!decide (k∈ks))=(decide (k∈ks)!=true):=by cases decide (k∈ks)<;>rfl
  rw[e];show q
def Nj(g:GK X.K X.w X.mg x ks)(hg:Gl X x)(ha:ZC X a fa)(hm:behindInMarks .NotIn (.Name x px)=false:=by with_unfolding_all rfl)(hd:ba x:=by decide):ZT X (.Compare a [.NotIn] [.Name x px] pos) (b1 fa (cy true ks)):=by
 let{p,o,es,ep,hmg,hp,hl,hx,hdt,hs}:=g;show{PT.imp (zd (Ew hp hl hx hdt hs).2 ha.un (gW (v:=.ref p) hg hmg rfl hd) hm) λσ H Q ⟨ρ,b,H0,G0,G,e,s,h⟩=>?_};let{d,h1,h2}:=cI e;show tCof.at h1 s λv H1 G1 g1 r1 s1=>?_;unfold cy at h2
 split at h2
 .rename_i k
  cases h2;rw[Ct]at r1;show{k,r1.1,r1.2,rfl,_,rfl,h H1 G1 g1}
 .cases h2
end
def SEB(w:World):List DictEntry->List (Str×Bool)->Prop:=Paired λe p=>e.hash=PyData.keyHash w.params p.1/\(∃t,e.key=.str p.1 t)/\e.val=.bool p.2
def qX(K:W7)(w:World)(mg:AD)(x:Str)(kvs:List (Str×Bool)):Prop:=∃p o es ep,mg x=some (.ref p)/\(p==sysModules)=false/\K.lookup p=some o/\o.ExactDict/\o.data=.dict es ep/\SEB w es.toList kvs
theorem SEB.keys{w:World}:∀{l:List DictEntry}{kvs:List (Str×Bool)},SEB w l kvs->mv w l (kvs.map (·.1))
 | _,_,.nil=>.nil
 | _,_,.cons r t=>.cons {(r.1),r.2.1} (SEB.keys t)
theorem Ex{P:P7}{w:World}{k:Str}:∀{l:List DictEntry}{kvs:List (Str×Bool)},SEB w l kvs->(l.find? (λe=>(PySem.strKind P w).is k e.key)).map (·.val)=(kvs.lookup k).map Value.bool
 | _,_,.nil=>rfl
 | _,_,.cons (a:=e) (b:=p) r t=>by
   let{_,{t1,h1},h2}:=r;let{a,b}:=p
   let he:(PySem.strKind P w).is k e.key=(a==k):=by rw[h1];rfl
   rw[List.find?_cons,he,List.lookup_cons];by_cases q:a=k
   .subst q
    simp[h2]
   .let hn:(a==k)=false:=by simpa using q
    let hn':(k==a)=false:=by simpa using λz:k=a=>q z.symm
    rw[hn,hn'];show Ex t
def kN(kvs:List (Str×Bool)):D->Option D
 | .str k=>(kvs.lookup k).map D.bl
 | _=>none
def iB(kvs:List (Str×Bool)):D->Option D
 | .str k=>some (match kvs.lookup k with
   | some b=>.bl b
   | none=>.non)
 | _=>none
section
variable {x:Str}{kvs:List (Str×Bool)}
theorem Nk(g:qX X.K X.w X.mg x kvs)(hg:Gl X x)(hk:ZC X ke fk)(hs:jG ke:=by intro _ _;rfl)(hd:ba x:=by decide):ZE X (.Subscript (.Name x px) ke pos) (b1 fk (kN kvs)):=by
 let{p,o,es,ep,hm,hp,hl,hx,hdt,hse}:=g;show{λpins s σ H Q I hx_=>?_};let{ρ,d,H0,G0,G,e,sr,h}:=hx_;let{dk,h1,h2}:=cI e;show KA PySem.F.slot_dict_getitem.lookup hs (d7 I hg hm ?_ hd);show aD (hk.un pins s σ H (fun(v':V) (H':Hp)=>∃k r,v'=.str k/\kvs.lookup k=some r/\Q (.bl r) H') I (tCof.at h1 sr λv H1 G1 g1 r1 s1=>?_)) λiv s2 q0=>?_
 .unfold kN at h2
  split at h2
  .rename_i k
   let{r,h3,rfl}:=qc h2;rw[Ct]at r1;show{k,r,r1.1,h3,h _ H1 G1 g1 (by rw[Rp])}
  .cases h2
 .let{y,H2,I2,ry,k,r,rfl,h3,q}:=q0
  let{t,rfl}:=ry;let ho:s2.heap.get? p=some o:=I2.kIn p o hl;let f1:=Ex (P:=X.prog) (k:=k) hse;rw[h3]at f1;show{{(o),ho,hx.1},wpAny_getItem_of (knd:=PySem.strKind X.prog X.w) (k:=k) (f:=λk=>findBy (PySem.strKind X.prog X.w).is es k) (v:=.bool r) (by simp[PySem.strKind,Value.isStrOf]) {o,es,ep,ho,hx,hdt,?_,λ_=>rfl} ?_ {.bl r,H2,I2.tok _,rfl,q}}
  .intro e'' he
   show mw hse.keys e'' (by simpa using he)
  .change(es.find? λe=>(PySem.strKind X.prog X.w).is k e.key).map (·.val)=_
   rw[<-Array.find?_toList,f1];rfl
theorem Us(g:qX X.K X.w X.mg x kvs)(hg:Gl X x)(hk:ZC X ke fk)(hd:ba x:=by decide)(hb:attributeBase (.Name x px) "get" X.env (eval (.Name x px) X.env)=eval (.Name x px) X.env:=by rfl)(hfew:((backTo cpos (starEach [ke] X.env)).all (λx=>!x.1)&&(backToKw cpos (keywordEach [] X.env)).all (λx=>x.1.isSome)&&decide (([ke]:AK).length+([]:List Keyword).length+(if ([]:List Keyword).isEmpty then 0 else 1)<30))=true:=by rfl)(hline:(apos.endLine==cpos.line)=true:=by rfl)(ht:backTo cpos (starEach [ke] X.env)=[(false,eval ke X.env)]:=by rfl):ZE X (.Call (.Attribute (.Name x px) "get" apos) [ke] [] cpos) (b1 fk (iB kvs)):=by
 let{p,o,es,ep,hm,hp,hl,hx,hdt,hse}:=g;show{λpins s σ H Q I hx_=>?_};let{ρ,d,H0,G0,G,e,sr,h}:=hx_;let{dk,h1,h2}:=cI e;let ho1:s.heap.get? p=some o:=I.kIn p o hl;show wpAny_Call_method hb hfew hline PySem.F.plainAttrs_dict PySem.F.slot_dict_get PySem.F.type_dict_get (d7 I hg hm ?_ hd);show{{(o),ho1,hx.1},λr hr=>?_,?_}
 .cases hr
  show{(o),ho1,hx.2.1}
 rw[ht];show wpAny_dict_get1 (knd:=PySem.strKind X.prog X.w) hp (aD (hk.un pins s σ H (fun(v':V) (H':Hp)=>∃k,v'=.str k/\Q (match kvs.lookup k with|some b=>.bl b|none=>.non) H') I (tCof.at h1 sr λv H1 G1 g1 r1 s1=>?_)) λiv s2 q0=>?_)
 .unfold iB at h2
  split at h2
  .rename_i k
   cases h2;rw[Ct]at r1;show{k,r1.1,h _ H1 G1 g1 ?_};cases kvs.lookup k<;>rw[Rp]
  .cases h2
 .let{y,H2,I2,ry,k,rfl,q}:=q0
  let{t,rfl}:=ry;let ho:s2.heap.get? p=some o:=I2.kIn p o hl;let f1:=Ex (P:=X.prog) (k:=k) hse;show{k,λk=>findBy (PySem.strKind X.prog X.w).is es k,by simp[PySem.strKind,Value.isStrOf],{o,es,ep,ho,hx,hdt,λe'' he=>mw hse.keys e'' (by simpa using he),λ_=>rfl},?_}
  let f2:findBy (PySem.strKind X.prog X.w).is es k=(kvs.lookup k).map Value.bool:=by
   change(es.find? λe=>(PySem.strKind X.prog X.w).is k e.key).map (·.val)=_;rw[<-Array.find?_toList,f1]
  show{_,H2,I2.tok _,?_,q};change RelV _ ((findBy (PySem.strKind X.prog X.w).is es k).getD .none);rw[f2];cases kvs.lookup k<;>rfl
end
def GA(mg:AD)(x:Str)(a:Addr):Prop:=mg x=some (.ref a)
def OkFt(P:P7)(w:World)(K:W7)(mg:AD)(base:Heap)(k n:Nat):List (Addr×(AN->Option D))->Prop
 | []=>True
 | (a,fn)::r=>(∃fd ps,FnOk P w K mg base bY k a fd ps (bE K n fn)/\Binds K fd ps []/\W.keepIn K (.ref a)=true)/\OkFt P w K mg base k n r
theorem OkFt.look{P:P7}{w:World}{mg:AD}{base:Heap}{k n:Nat}{a:Addr}{fn:AN->Option D}:∀{tb:List (Addr×(AN->Option D))},OkFt P w K mg base k n tb->tb.lookup a=some fn->∃fd ps,FnOk P w K mg base bY k a fd ps (bE K n fn)/\Binds K fd ps []/\W.keepIn K (.ref a)=true
 | [],_,e=>by cases e
 | (c',fn')::r,h,e=>by
   rw[List.lookup_cons]at e
   split at e
   .rename_i hc
    cases e;rw[eq_of_beq hc];show h.1
   .show OkFt.look h.2 e
theorem iC{P:P7}{w:World}{mg:AD}{base:Heap}{k j n:Nat}{a:Addr}{x:Str}{ps:AJ}{fn:AN->Option D}(g:GA mg x a)(o:aU P w K mg base j n x ps fn)(hj:j<=k:=by first|show qv _|ac_nf):∃fd ps,FnOk P w K mg base bY k a fd ps (bE K n fn)/\Binds K fd ps []/\W.keepIn K (.ref a)=true:=by
 let{b,fd,F,hb,hk,hm}:=o;rw[g]at hm;cases hm;show{fd,ps,F.mono hj,hb,hk}
def mx(tb:List (Addr×(AN->Option D)))(fo:AU)(ga:AV):AU:=λρ=>match fo ρ with
 | some (.adr a)=>(ga ρ).bind λds=>(tb.lookup a).bind λfn=>fn ds
 | _=>none
def jj(f g:AV):AV:=λρ=>match f ρ with
 | some l=>some l
 | none=>g ρ
def iD(kvs:List (Str×Str)):D->Option D
 | .str k=>some (match kvs.lookup k with
   | some b=>.str b
   | none=>.non)
 | _=>none
section
variable {e:Expr}{ga:AV}{p:Pos}{x:Str}
def jk{a:Addr}(g:GA X.mg x a)(hg:Gl X x)(hd:ba x:=by decide):ZE X (.Name x px) (kD (.adr a)):=⟨λpins s σ H Q I hx_=>by
 let{ρ,d,H0,G0,G,er,sr,h}:=hx_;cases er
 show d7 I hg g {.ref a,H,I,rfl,h _ H G (Gr.refl sr.seen) (by rw[Rp])} hd⟩
theorem Nl{j k n:Nat}{tb:List (Addr×(AN->Option D))}(c:OkFt X.prog X.w X.K X.mg X.base j n tb)(hr:Room k X.A)(ho:ZE X (.Name x p) fo)(ha:ZA X (e::es) ga)(hl:∀ρ ds,ga ρ=some ds->ds.length=n)(hj:j<=k:=by first|show qv _|ac_nf)(he:Zj X e es:=by rfl)(hpl:Zk X cpos es:=by rfl):ZE X (.Call (.Name x p) (e::es) [] cpos) (mx tb fo ga):=⟨λpins s σ H Q I hx_=>by
 let{ρ,d,H0,G0,G,er,sr,h}:=hx_;unfold mx at er
 split at er
 .rename_i a h1
  let{ds,h2,er}:=qa er;let{fn,h3,h4}:=qa er;let{fd,ps,F,hb,hk}:=c.look h3;show wpAny_Call_Name_kw (aD (ho.un pins s σ H (λv H1=>v=.ref a/\∃G1,Gr H G H1 G1/\SR X.K H0 G0 σ H1 G1 ρ) I (tOf.at h1 sr λv H1 G1 g1 r1 s1=>{by rw[Rp]at r1;show r1,G1,g1,s1})) λfv s1 hq=>?_);let{v,H1,I1,rv,rfl,G1,g1,sr1}:=hq;obtain rfl:fv=Value.ref a:=rv;show W.callWith_K (h₀:=X.base) I.ok.mod.kin hk (aD (ha.un cpos pins s1 σ H1 (λvs H2=>bE X.K n fn vs H2 Q E0) I1 (tAof.at h2 sr1 λvs H2 G2 g2 r2 s2=>?_)) λus s2 hq=>?_) he hpl
  .show{by rw[r2.length,hl ρ ds h2],ds,d,G2,s2.seen,r2,h4,λv H' G' g' rd=>h v H' G' ((g1.trans g2).trans g') rd}
  .let{vs,H2,I2,r,q}:=hq
   show{I2.kIn,?_};show nR (dvs:=[]) (E:=E0) (F.mono hj) hr hb .nil jK I2 r (by rw[wz];show q)
 .cases er⟩
def qY{f g:AV}(hf:ZI X tg e f)(hg:ZI X tg e g):ZI X tg e (jj f g):=⟨λpins s σ H R I hx_=>by
 let{ρ,ds,H0,G0,G,er,sr,h}:=hx_;unfold jj at er
 split at er
 .rename_i l h1
  cases er;show hf.un pins s σ H R I {(ρ),ds,H0,G0,G,h1,sr,h}
 .show hg.un pins s σ H R I {(ρ),ds,H0,G0,G,er,sr,h}⟩
theorem Nm{P:P7}{w:World}{k:Str}:∀{l:List DictEntry}{kvs:List (Str×Str)},SE w l kvs->kvs.lookup k=none->l.find? (λe=>(PySem.strKind P w).is k e.key)=none
 | _,_,.nil,_=>rfl
 | _,_,.cons (a:=e) (b:=p) r t,h=>by
   let{_,{t1,h1},h2}:=r;let{a,b}:=p
   let he:(PySem.strKind P w).is k e.key=(a==k):=by rw[h1];rfl
   rw[List.lookup_cons]at h;rw[List.find?_cons,he];by_cases q:a=k
   .subst q
    simp at h
   .let hn:(a==k)=false:=by simpa using q
    let hn':(k==a)=false:=by simpa using λz:k=a=>q z.symm
    rw[hn']at h;rw[hn];show Nm t h
theorem SE.ok{w:World}{k v:Str}:∀{l:List DictEntry}{kvs:List (Str×Str)},SE w l kvs->kvs.lookup k=some v->PyData.strOk v=true
 | _,_,.nil,h=>by cases h
 | _,_,.cons (a:=e) (b:=p) r t,h=>by
   let{a,b}:=p;rw[List.lookup_cons]at h
   split at h
   .cases h
    show r.2.2.2
   .show SE.ok t h
theorem Ut{kvs:List (Str×Str)}{ks:AJ}(g:GD X.K X.w X.mg x kvs)(gk:GK X.K X.w X.mg x ks)(hg:Gl X x)(hk:ZC X ke fk)(hd:ba x:=by decide)(hb:attributeBase (.Name x px) "get" X.env (eval (.Name x px) X.env)=eval (.Name x px) X.env:=by rfl)(hfew:((backTo cpos (starEach [ke] X.env)).all (λx=>!x.1)&&(backToKw cpos (keywordEach [] X.env)).all (λx=>x.1.isSome)&&decide (([ke]:AK).length+([]:List Keyword).length+(if ([]:List Keyword).isEmpty then 0 else 1)<30))=true:=by rfl)(hline:(apos.endLine==cpos.line)=true:=by rfl)(ht:backTo cpos (starEach [ke] X.env)=[(false,eval ke X.env)]:=by rfl):ZE X (.Call (.Attribute (.Name x px) "get" apos) [ke] [] cpos) (b1 fk (iD kvs)):=by
 let{p,o,es,ep,hm,hl,hx,hdt,hse}:=g;let{p',_,_,_,hm',hp,_}:=gk;rw[hm]at hm';cases hm';show{λpins s σ H Q I hx_=>?_};let{ρ,d,H0,G0,G,e,sr,h}:=hx_;let{dk,h1,h2}:=cI e;let ho1:s.heap.get? p=some o:=I.kIn p o hl;show wpAny_Call_method hb hfew hline PySem.F.plainAttrs_dict PySem.F.slot_dict_get PySem.F.type_dict_get (d7 I hg hm ?_ hd);show{{(o),ho1,hx.1},λr hr=>?_,?_}
 .cases hr
  show{(o),ho1,hx.2.1}
 rw[ht];show wpAny_dict_get1 (knd:=PySem.strKind X.prog X.w) hp (aD (hk.un pins s σ H (fun(v':V) (H':Hp)=>∃k,v'=.str k/\Q (match kvs.lookup k with|some b=>.str b|none=>.non) H') I (tCof.at h1 sr λv H1 G1 g1 r1 s1=>?_)) λiv s2 q0=>?_)
 .unfold iD at h2
  split at h2
  .rename_i k
   cases h2;rw[Ct]at r1;show{k,r1.1,h _ H1 G1 g1 ?_}
   cases hlk:kvs.lookup k with
   | none=>rw[Rp]
   | some b=>rw[Rp];show{rfl,SE.ok hse hlk}
  .cases h2
 .let{y,H2,I2,ry,k,rfl,q}:=q0
  let{t,rfl}:=ry;let ho:s2.heap.get? p=some o:=I2.kIn p o hl;show{k,λk=>findBy (PySem.strKind X.prog X.w).is es k,by simp[PySem.strKind,Value.isStrOf],{o,es,ep,ho,hx,hdt,λe'' he=>mw hse.keys e'' (by simpa using he),λ_=>rfl},?_}
  let f2:findBy (PySem.strKind X.prog X.w).is es k=(es.toList.find? λe=>(PySem.strKind X.prog X.w).is k e.key).map (·.val):=by
   change(es.find? λe=>(PySem.strKind X.prog X.w).is k e.key).map (·.val)=_;rw[<-Array.find?_toList]
  show{_,H2,I2.tok _,?_,q};change RelV _ ((findBy (PySem.strKind X.prog X.w).is es k).getD .none);rw[f2]
  cases hlk:kvs.lookup k with
  | none=>rw[Nm hse hlk];rfl
  | some b=>
    let{e1,t1,q1,q2}:=Bi (P:=X.prog) hse hlk;rw[q1];change RelV _ e1.val;rw[q2];show{(t1),rfl}
end
theorem Uu{ns:AJ}:∀{us:AC},Vals (ns.map V.str) us->StrsAre us ns:=by
 induction ns with
 | nil=>intro us r;rw[List.map_nil]at r;cases r;show .nil
 | cons n ns ih=>
   intro us r;rw[Qd]at r
   cases r with
   | cons h t=>
     let{tk,rfl}:=h;show .cons n tk (ih t)
theorem Ey(k:Str):∀{vs:AC}{ns:AJ},StrsAre vs ns->∀(j:Nat) (h1:j<vs.length) (h2:j<ns.length),isStrOf k vs[j]=(ns[j]==k)
 | _,_,.cons n t _,0,_,_=>rfl
 | _,_,.cons n t r,j+1,h1,h2=>Ey k r j (Nat.lt_of_succ_lt_succ h1) (Nat.lt_of_succ_lt_succ h2)
theorem StrsAre.len:∀{vs:AC}{ns:AJ},StrsAre vs ns->vs.length=ns.length
 | _,_,.nil=>rfl
 | _,_,.cons _ _ r=>congrArg (·+1) (StrsAre.len r)
theorem Nn{k:Str}:∀{ns:AJ}{j:Nat},j<ns.idxOf k->∀(h2:j<ns.length),(ns[j]==k)=false
 | n::r,0,h,_=>by
   by_cases e:n=k
   .subst e;simp at h
   .simpa using e
 | n::r,j+1,h,h2=>by
   by_cases e:n=k
   .subst e;simp at h
   .let e':(n==k)=false:=by simpa using e
    rw[List.idxOf_cons,e']at h;show Nn (Nat.lt_of_succ_lt_succ h) (Nat.lt_of_succ_lt_succ h2)
section
variable {w:World}{A:Around}{E:AA}
theorem Uv{l:Addr}{vs:AC}{ns:AJ}{k:Str}{t:Tok}{Q:AA}(hl:s.heap.IsList l vs.toArray)(hi:StrsAre vs ns)(hb:ns.length<=2^24)(hk:k∈ns)(h:Q (.int (ns.idxOf k:Nat) s.toks) {s with toks:=s.toks+1}):
 wpAny (mZ prog w) A (call (.builtin "list.index") [.ref l,.str k t]) Q E s:=by
 let{{cls,dd,data,sl},ho,hc,n,hd}:=id hl;simp only at hc hd;subst hc hd;let hlen:=StrsAre.len hi;let hj:ns.idxOf k<ns.length:=List.idxOf_lt_length_iff.mpr hk
 show call_meets PySem.F.slot_list_index {_,ho,rfl} PySem.F.entry_list_index (PySem.F.args_list_index_2 _ _)
  (PySem.SeqAt.list_indexAt l vs.toArray n dd sl (.str k t) (isStrOf k) (ns.idxOf k) (by simpa [hlen]using hj) ∅ ?_ ?_) {ho,λy hy=>(eq_isStrOf k t hi y (by simpa using hy)).at _ _,h}
 .change isStrOf k vs[ns.idxOf k]=true
  rw[Ey k hi _ ∅ hj];simpa using List.getElem_idxOf hj
 .intro j hjs hlt
  change isStrOf k vs[j]=false;rw[Ey k hi j (by simpa using hjs) ∅];show Nn hlt _
end
def fy:D->D->Option D
 | .lst l,.str k=>(ji l).bind λns=>if k∈ns then some (.int (ns.idxOf k:Nat))else none
 | _,_=>none
def Np(l:AJ)(k:Str):fy (.lst (l.map D.str)) (.str k)=if k∈l then some (.int (l.idxOf k:Nat))else none:=by
 change(ji (l.map D.str)).bind _=_;rw[D3];rfl
section
variable {a e:Expr}{f:AU}
def Ez(K:W7):V->AM->Hp->VK->Prop:=λx vs H Q=>∃(l:Addr) (ns:AJ) (k:Str),x=.ref l/\vs=[.str k]/\SqL K H l (ns.map V.str)/\k∈ns/\Q (.int (ns.idxOf k:Nat)) H
def Uw:zJ X "list.index" (Ez X.K):=by
 intro pins s σ H x vs v us Q I rx rv h;let{l,ns,k,rfl,rfl,hH,hk,q}:=h;cases rx;let{u,rfl,{t,rfl}}:=dh rv;let{its,r,pl,hz}:=I.list hH;show Uv pl.isList (Uu r) (by rw[qf]at hz;show hz) hk {.int (ns.idxOf k:Nat),H,I.tok _,{_,rfl},q}
theorem Nr{apos cpos:Pos}(ha:ZC X a fa)(he:ZE X e f)(hs:Zl X e:=by rfl)(hfew:pv X cpos [e]:=by rfl)(hline:(apos.endLine==cpos.line)=true:=by rfl)(hbase:attributeBase a "index" X.env (eval a X.env)=eval a X.env:=by rfl):
 ZE X (.Call (.Attribute a "index" apos) [e] [] cpos) (b2 fa f fy):=
 ⟨PE.imp (jI PySem.F.plainAttrs_list PySem.F.slot_list_index PySem.F.type_list_index Uw ha.un (cx he.un dC hs) hbase hfew hline hs rfl) λσ H Q hx_=>by
  let{ρ,d,H0,G0,G,e,s,h}:=hx_;let{dx,h1,e}:=qa e;let{dy,h2,h3}:=qa e
  cases dx<;>try cases h3
  rename_i l
  cases dy<;>try cases h3
  rename_i k;let{ns,h4,h5}:=qa h3;by_cases hk:k∈ns
  .rw[if_pos hk]at h5
   cases h5;let:=D2 h4;subst this;show tCof.at h1 s λv H1 G1 g1 r1 s1=>?_;rw[Ct]at r1;let{p,xs,rfl,g,rl}:=r1;let{rfl,_}:=D4 rl;show{.inl {rfl,_,.inl g},tOf.at h2 s1 λu H2 G2 g2 r2 s2=>?_};rw[Rp]at r2;let{rfl,_}:=r2;show{p,ns,k,rfl,rfl,.inl (g.imp (g2.h _ _) λq=>q.imp λo q=>g2.h _ _ q),hk,?_};show h _ H2 G2 (g1.trans g2) (by rw[Rp])
  .rw[if_neg hk]at h5
   cases h5⟩
end
section
variable {a b:Expr}{fb:AU}
def rSlT:V->Option Int->Option Int->Hp->VK->Prop:=λx lo hi H Q=>∃z,x=.str z/\z.length<=1000000/\Q (.str (Txt.slice z lo hi)) H
theorem EA:tQ X rSlT:=by
 intro g s r H x v y o lo u p Q I n c m f h;let{z,rfl,w,q}:=h;let{t,rfl}:=n;let l:=jf
 cases m with
 | int i e=>
   cases f with
   | int j d=>show{"str",_,F.slot_str_getitem.lookup,typeIs_str _ _ _,wpAny_getItem_str_slice (l:=some (i,e)) (u:=some (j,d)) (st:=none) c rfl (post_val_or_str {Qg (Txt.slice_le z (some i) (some j)) ∅,λb k=>{.str _,H,I.tok k,{(b),rfl},q}})}
   | none=>show{"str",_,F.slot_str_getitem.lookup,typeIs_str _ _ _,wpAny_getItem_str_slice (l:=some (i,e)) (u:=none) (st:=none) c rfl (post_val_or_str {Qg (Txt.slice_le z (some i) none) ∅,λb k=>{.str _,H,I.tok k,{(b),rfl},q}})}
 | none=>
   cases f with
   | int j d=>show{"str",_,F.slot_str_getitem.lookup,typeIs_str _ _ _,wpAny_getItem_str_slice (l:=none) (u:=some (j,d)) (st:=none) c rfl (post_val_or_str {Qg (Txt.slice_le z none (some j)) ∅,λb k=>{.str _,H,I.tok k,{(b),rfl},q}})}
   | none=>show{"str",_,F.slot_str_getitem.lookup,typeIs_str _ _ _,wpAny_getItem_str_slice (l:=none) (u:=none) (st:=none) c rfl (post_val_or_str {Qg (Txt.slice_le z none none) ∅,λb k=>{.str _,H,I.tok k,{(b),rfl},q}})}
def iE(i j:Option Int):D->Option D
 | .str z=>if z.length<=1000000 then some (.str (Txt.slice z i j))else none
 | _=>none
def kO(fa:AU)(lo hi:Option AU):AU:=λρ=>(fa ρ).bind λz=>(c4 lo ρ).bind λi=>(c4 hi ρ).bind λj=>iE i j z
def EB{lo f:Option Expr}{fl fh:Option AU}{l:Pos}(B:ZC X a fa)(u:ZO X lo fl)(p:ZO X f fh):ZE X (.Subscript a (.Slice lo f none l) pos) (kO fa fl fh):=
 ⟨PE.imp (zy EA B.un u.un p.un) λF H Q b=>by
  let{N,d,E,O,G,e,s,h}:=b;let{y,o,e}:=qa e;let{i,A,e}:=qa e;let{j,w,e}:=qa e;show tCof.at o s λv K I C m g=>uw A g λJ L n q=>uw w q λt x r M=>?_
  cases y with
  | str z=>
    change (if z.length<=1000000 then some _ else none)=some d at e
    split at e
    .rename_i k
     cases e;let{rfl,c}:=m;show{z,rfl,k,h _ t x ((C.trans n).trans r) ({rfl,Nh c})}
    .cases e
  | _=>cases e⟩
def cu:D->D->Option D
 | .str z,.int n=>if z.length=1/\0<=n/\n<=100 then some (.str (Txt.mul z n))else none
 | _,_=>none
def qZ:V->V->Hp->VK->Prop:=λx y H Q=>∃z n,x=.str z/\y=.int n/\z.length=1/\0<=n/\n<=100/\Q (.str (Txt.mul z n)) H
def EC:∀k:Nat,k<101->(decide ((k:Int) < -(2^63:Int))||decide ((k:Int)≥2^63))=false/\(¬(k:Int)<1->((k:Int)==1||(1:Nat)==0)=false->¬(((1:Nat):Int) > (2^63-1)/(k:Int)))/\(¬(k:Int)<1->((k:Int)==1||(1:Nat)==0)=false->Builtin.Str.tooLong (1*(k:Int).toNat)=false):=by decide +kernel
theorem ED{z:Str}{n:Int}(a:z.length=1)(h0:0<=n)(b:n<=100):MulOk z n:=by
 let{k,rfl}:=Int.eq_ofNat_of_zero_le h0;unfold MulOk;rw[a];show EC k ∅
def EE:bh X (binaryOp .Mult) qZ:=by
 intro a s i H x y v u Q I e b h;let{z,n,rfl,rfl,d,c,f,q}:=h;let{t,rfl}:=e;let{g,rfl}:=b
 show SB.mul (ED d c f) λg k=>{.str _,H,I.tok k,{_,rfl},q}
theorem Nt{p:Nat->Bool}{a:Array Nat}(c:a.all p=true):∀(m:Nat) (b:Array Nat),b.all p=true->((List.replicate m a).foldl (·++·) b).all p=true
 | 0,_,h=>h
 | m+1,b,h=>Nt c m _ ⋯
theorem EF{z:Str}{n:Int}(h:PyData.strOk z=true):PyData.strOk (Txt.mul z n)=true:=by
 unfold Txt.mul
 split
 .decide +kernel
 .split
  .show h
  .show Nt h _ _ ⋯
def EG:dw X.K qZ cu:=by
 intro x y g h d H G Q e f b c q;unfold cu at e
 split at e
 .split at e
  .rename_i z n a
   cases e;show{z,n,b.1,c,a.1,a.2.1,a.2.2,q _ H G (.refl f) ({rfl,EF b.2})}
  .cases e
 .cases e
def EH(c:ZC X a fa)(hb:ZC X b fb):ZE X (.BinOp a .Mult b pos) (b2 fa fb cu):={jS EE EG c.un hb.un}
def rRep(n:Nat):V->V->Hp->VK->Prop:=λx y H Q=>∃l xs,x=.ref l/\y=.int n/\Rd H l (.lst xs)/\xs.length<=1000/\∀p,H p=none->Q (.ref p) (upd H p (.lst (List.replicate n xs).flatten))
theorem Nu(its:AC):∀(m:Nat) (a:Array Value),List.foldl (λb c=>b++c) a (List.replicate m its.toArray)=a++(List.replicate m its).flatten.toArray
 | 0,a=>by simp
 | m+1,a=>by
   rw[List.replicate_succ,List.foldl_cons,Nu its m,List.replicate_succ];simp
theorem EI{a:Type}(l:List a)(n:Nat):(List.replicate n l).flatten.length=n*l.length:=by ext
theorem Vals.rep{xs:AM}{us:AC}(r:Vals xs us):∀n:Nat,Vals (List.replicate n xs).flatten (List.replicate n us).flatten
 | 0=>by
   rw[List.replicate_zero,List.replicate_zero];show .nil
 | n+1=>by
   rw[List.replicate_succ,List.replicate_succ,List.flatten_cons,List.flatten_cons];show r.append (Vals.rep r n)
theorem RpL.rep{K:W7}{G:Hp}{l:AN}{xs:AM}(r:RpL K G l xs):∀n:Nat,RpL K G (List.replicate n l).flatten (List.replicate n xs).flatten
 | 0=>by
   rw[List.replicate_zero,List.replicate_zero];show .nil
 | n+1=>by
   rw[List.replicate_succ,List.replicate_succ,List.flatten_cons,List.flatten_cons];show r.append (RpL.rep r n)
theorem EJ{n:Nat}(a:n<=100):¬(!Builtin.List.listFitsIndex (n:Int))=true:=by
 unfold Builtin.List.listFitsIndex;symm
theorem EL{m n:Nat}(h:m*n<=100000):¬Builtin.List.listTooLong (m*n)=true:=by
 unfold Builtin.List.listTooLong;rw[jf];symm
theorem op_rep{n:Nat}(hn:n<=100):bh X (binaryOp .Mult) (rRep n):=by
 intro pins s σ H x y v u Q I rx ry h;let{l,xs,rfl,rfl,hH,hz,q}:=h;cases rx;let{t,rfl}:=ry;let{z,its,nn,r,e}:=hH.ok I.hok;let hl:=r.length
 let hsz:its.toArray.size<=1000:=by symm
 let hmul:its.toArray.size*n<=100000:=Nat.mul_le_mul hsz hn
 obtain⟨k,hk,hk1,hk2⟩:∃k:Int,(n:Int)=k/\k.toNat=n/\0<=k:={n,rfl,Int.toNat_natCast n,Int.natCast_nonneg n}
 rw[hk];show wpAny_binaryOp_repeat_ref (T:="list") (U:="int") (by decide) {_,e,rfl} (λs'=>typeIs_int s' k t) noFill_list_mul F.fills_int_mul F.slot_int_rmul repeat_list F.slot_int_index.lookup ?_;show call_meets F.slot_int_rmul (typeIs_int s k t) F.entry_int_rmul (F.args_int_rmul_2 _ _) (int___rmul___int_list k t l its.toArray nn) {e,rfl,{_,e,rfl},?_};show call_meets F.slot_list_mul {_,e,rfl} F.entry_list_mul (F.args_list_mul_2 _ _) (AutoListH.list___mul___list_int_3 l its.toArray nn k t ?_ ?_ ?_) {e,?_}
 .rw[<-hk];show EJ hn
 .grind
 .rw[hk1];show EL hmul
 let ea:List.foldl (λx1 x2=>x1++x2) #[] (List.replicate (if its.toArray.isEmpty=true then 0 else k.toNat) its.toArray)=((List.replicate n its).flatten).toArray:=by
  rw[Nu,hk1]
  cases its with
  | nil=>simp
  | cons a b=>simp
 rw[ea];show{.ref _,_,I.lnew (t':=s.toks) (Vals.rep r n) (by rw[EI,jf,hl,Nat.mul_comm];symm),rfl,q _ I.fresh}
def iF(n:Nat):D->Option AN
 | .lst l=>if l.length<=1000 then some (List.replicate n l).flatten else none
 | _=>none
def EM{n:Nat}{j}{t:Pos}(w:ZC X a fa)(y:n<=100:=by decide):ZF X (.BinOp a .Mult (.Constant (.int n) j t) pos) (b1 fa (iF n)):=⟨PE.imp (jz (op_rep y) w.un tE) λB H Q x=>by
 let{D,l,z,E,G,e,s,h}:=x;let{d,r,b}:=cI e;show tCof.at r s λv C k g o f=>?_;unfold iF at b
 split at b
 .split at b
  .rename_i A
   cases b;let{p,q,rfl,u,i}:=o;show{p,q,rfl,rfl,u,by rwa [i.length],λm c=>h m _ _ k (g.trans (.hid f.seen c _)) (g.h.free c) (f.seen.free c) Yo (.rep i n)}
  .cases b
 .cases b⟩
end
end M
namespace Lw
variable {ρ':Ro}{LL:AN}{at_:Int}{B Z:D}{R0:List Rl}{r0:Rl}
open PySem PySem.Spec PyProof.Rows L2 M
noncomputable def top(i:Nat):Stmt:=PySem.Challenge.pw_duskbook_k57_pages_refused.main.body.getD i (.Pass {0,0,0,0})
def Ux:AJ:=[Str.ofString "k",Str.ofString "s"]
def y7:AJ:=[Str.ofString "odd",Str.ofString "even"]
def my:AJ:=[Str.ofString "+",Str.ofString "-"]
noncomputable def Nv:AJ:=[.ofString "keeper",.ofString "storm"]
def gt_HANDS_BY_LETTER:List (Str×Str):=[((Str.ofString "k"),(Str.ofString "keeper")),((Str.ofString "s"),(Str.ofString "storm"))]
def gM:AJ:=[Str.ofString "eithers",Str.ofString "sums",Str.ofString "ifs",Str.ofString "nots"]
def EN:List (Str×Str):=[((Str.ofString "keeper"),(Str.ofString "k")),((Str.ofString "storm"),(Str.ofString "s"))]
def gt_ODDS_BY_WORD:List (Str×Bool):=[((Str.ofString "odd"),true),((Str.ofString "even"),false)]
def gt_TRUTHS_BY_MARK:List (Str×Bool):=[((Str.ofString "+"),true),((Str.ofString "-"),false)]
def gt_TRUTHS_BY_SIGN:List (Str×Bool):=[((Str.ofString "1"),true),((Str.ofString "0"),false)]
set_option maxHeartbeats 4000000
def Fq(K:W7)(c:AD)(x:Str)(i:Nat):Prop:=∃a d,Fun K x x (top i) a d/\c x=some (.ref a)
def Fk(K:W7)(x:Str)(i:Nat):Prop:=∃a c,W.nsIn K mainGlobals x=some (some (.ref a))/\Fun K x x (top i) a c
def Fk.on{K:W7}(F:Fk K x i)(X:K.In h)(G:h.Ns mainGlobals c):Fq K c x i:=by
 let{a,d,n,f}:=F;show{a,d,f,W.mg_of X G n}
def fk_mk{K:W7}{kV e h d j:Value}(a:W.nsIn K mainGlobals x=some (some (.ref f)))(l:K.lookup f=some {m,n,.func (W.fnOf x x (aEb (top i)) (aDb (top i)) (aBb (top i)) .none kV e h o d j),g})(c:W.codeIn K d x=true)(k:W.keepIn K (.ref f)=true):Fk K x i:={_,_,a,n_ l c k}
abbrev Fs(n i:Nat)(N:AJ):Prop:=cG N (N.take n) (aBb (top i))
noncomputable abbrev kq:Nat->NameKind
 | 0=>.local
 | 1=>.free
 | 2=>.globalImplicit
 | _=>.cell
abbrev Cs(A:AJ)(i:Nat)(L:AJ)(s:List AL)(n:List (Str×Nat)):Prop:=fD A (aBb (top i)) L s (Ka ((".0",.local)::n.map λp=>(p.1,kq p.2)))
def bC{A:AJ}{i:Nat}{L:AJ}{s:List AL}{n:List (Str×Nat)}(h:jL A (aBb (top i)) L s (Ka ((".0",.local)::n.map λp=>(p.1,kq p.2)))=true:=by decide +kernel):Cs A i L s n:=RG h
theorem aQ{N h:AJ}{i:Scope}(a:i.kind=.function:=by rfl)(b:i.isCoroutine=false:=by rfl)(c:i.isGenerator=false:=by rfl)(d:N.Nodup:=by decide +kernel)(e:N.take h.length=h:=by rfl)(f:∀x∈h,i.names.lookup x=some .local\/i.names.lookup x=some .cell:=by decide +kernel)(g:∀y∈i.names,y.2≠.free:=by decide +kernel):cG N h i:={(a),b,c,d,e,f,g}
def vR(x:Str)(i:Nat)(h:AJ):Prop:=∀(kV a e:Value) (d:Option _) (c f:Value) (b:List _),b.length=h.length->bindArgs (W.fnOf x x (aEb (top i)) (aDb (top i)) (aBb (top i)) .none kV a e d c f) {b,[]}=pure (h.zip b)
theorem cU{K:W7}{i k n m:Nat}(F:Fq K j x i)(S:cG N r (aBb (top i)))(t:∀{f:Addr}{e:Value}{A:Around}{c:List Env}{s:Shared}{H:Hp}{E:XK},Room k (A.deeper (envOfC x (aBb (top i)) (~~~s) f e))->ZB (ay bY P w K j d N x (aBb (top i)) f e A c s H E).nox (aDb (top i)) fb)(o:N.length=n:=by rfl)(l:r.length=m:=by rfl)(B:vR x i r:=by and_intros):aU P w K j d (k+1) m x r (av m n fb):=by
 let{a,q,f,h}:=F;show A1 f (f.binds B) h (BZ f S o l λ_ _ _ _ _ _ p=>t p)
theorem bA{P:P7}{w:World}{K:W7}{mg:AD}{base:Heap}{x xn:Str}{i k n m:Nat}{N ps:AJ}{r:AT}(F:Fq K mg x i)(S:cG N ps (aBb (top i)))(hb:∀{f:Addr}{cdv:Value}{A:Around}{outer:List Env}{s:Shared}{H:Hp}{E:XK},Room k (A.deeper (envOfC x (aBb (top i)) (~~~s) f cdv))->ZX (ay (CXN P w) P w K mg base N x (aBb (top i)) f cdv A outer s H E) E xn (aDb (top i)) r)(hn:N.length=n:=by rfl)(hm:ps.length=m:=by rfl)(B:vR x i ps:=by(intro _ _ _ _ _ _ us hl;first|(let{_,rfl}:=dY hl;rfl)|(let{_,_,rfl}:=c7 hl;rfl)|(let{_,_,_,rfl}:=dB hl;rfl)|(let{_,_,_,_,rfl}:=gc hl;rfl)|(let{_,_,_,_,_,rfl}:=il hl;rfl)|(let{_,_,_,_,_,_,rfl}:=ip hl;rfl)|(let{_,_,_,_,_,_,_,rfl}:=pB hl;rfl))):cP P w K mg base (k+1) m x ps (aP m n r) xn:=by
 let{a,fd,f,h}:=F;show{a,fd,My (k:=k) f S hn hm λ_ _ _ _ _ _ hr=>hb hr,f.binds B,f.kp,h}
def bq:∀ρ l,Yb a ae ρ=some l->l.length=1:=oJ λ_ _ h=>R6 h
def cR:∀ρ l,Yb a (Yb b ae) ρ=some l->l.length=2:=oJ bq
def vS:∀ρ l,Yb a (Yb c (Yb b ae)) ρ=some l->l.length=3:=oJ cR
def mE:∀ρ l,Yb a (Yb d (Yb b (Yb c ae))) ρ=some l->l.length=4:=oJ vS
def Uy:∀ρ l,Yb a (Yb e (Yb b (Yb d (Yb c ae)))) ρ=some l->l.length=5:=oJ mE
theorem q_{P:P7}{w:World}{K:W7}{j:AD}{b:Heap}{x:Str}{i k n m:Nat}{N ps:AJ}{g:Hm}(F:Fq K j x i)(S:cG N ps (aBb (top i)))(hb:∀{f:Addr}{e:Value}{A:Around}{c:List Env}{s:Shared}{H:Hp}{E:XK},Room k (A.deeper (envOfC x (aBb (top i)) (~~~s) f e))->eE (ay bY P w K j b N x (aBb (top i)) f e A c s H E).nox (aDb (top i)) g)(o:N.length=n:=by rfl)(p:ps.length=m:=by rfl)(B:vR x i ps:=by and_intros):vN P w K j b (k+1) m x ps (cN n g):=by
 let{a,q,f,h}:=F;show{a,q,Dy f S o p λ_ _ _ _ _ _ r=>hb r,f.binds B,f.kp,h}
def kP{K:W7}{a f:Str}(h:CF K a f):∀c∈[a],CF K c f:=λc d=>by
 cases List.mem_singleton.mp d;show h
def Nw{a b:AU}:∀ρ l,Yb a (Yb b ae) ρ=some l->l.length+([]:AN).length=2:=cR
def EO{f0 f1 f2 f3:AU}:∀ρ l,Yb f0 (Yb f1 (Yb f2 (Yb f3 ae))) ρ=some l->l.length+([]:AN).length=4:=mE
structure Bl(K:W7)(w:World)(mg:AD):Prop where
 Len:mg "len"=none
 Range:mg "range"=none
 List:mg "list"=none
 Tuple:mg "tuple"=none
 Int:mg "int"=none
 Bool:mg "bool"=none
 Str:mg "str"=none
 Sorted:mg "sorted"=none
 Any:mg "any"=none
 All:mg "all"=none
 Isinstance:mg "isinstance"=none
 Enumerate:mg "enumerate"=none
 Set:mg "set"=none
 Max:mg "max"=none
 Valueerror:mg "ValueError"=none
 g_BEACON_COUNT:GI mg "BEACON_COUNT" 60
 g_FIGURES:GS mg "FIGURES" "0123456789"
 g_HANDS:GT K mg "HANDS" Nv
 g_HANDS_BY_LETTER:GD K w mg "HANDS_BY_LETTER" gt_HANDS_BY_LETTER
 g_KINDS:GT K mg "KINDS" gM
 g_LETTERS:GD K w mg "LETTERS" EN
 g_MOST_FIGURES:GI mg "MOST_FIGURES" 3
 g_MOST_RULES:GI mg "MOST_RULES" 60
 g_MOST_SAYINGS:GI mg "MOST_SAYINGS" 2
 g_ODDS_BY_WORD:qX K w mg "ODDS_BY_WORD" gt_ODDS_BY_WORD
 g_TRUTHS_BY_MARK:qX K w mg "TRUTHS_BY_MARK" gt_TRUTHS_BY_MARK
 g_TRUTHS_BY_SIGN:qX K w mg "TRUTHS_BY_SIGN" gt_TRUTHS_BY_SIGN
 k_HANDS_BY_LETTER:GK K w mg "HANDS_BY_LETTER" Ux
 k_ODDS_BY_WORD:GK K w mg "ODDS_BY_WORD" y7
 k_TRUTHS_BY_MARK:GK K w mg "TRUTHS_BY_MARK" my
 f16:Fq K mg "is_beacon" 16
 f17:Fq K mg "checked_beacon" 17
 f18:Fq K mg "checked_truth" 18
 f19:Fq K mg "checked_beacons" 19
 f20:Fq K mg "either_made" 20
 f21:Fq K mg "sum_made" 21
 f22:Fq K mg "if_made" 22
 f23:Fq K mg "rule_made" 23
 f24:Fq K mg "book_made" 24
 f25:Fq K mg "either_holds" 25
 f26:Fq K mg "sum_holds" 26
 f27:Fq K mg "if_holds" 27
 f28:Fq K mg "rule_holds" 28
 f29:Fq K mg "broken_rules" 29
 f30:Fq K mg "holds" 30
 f31:Fq K mg "beacons_in" 31
 f32:Fq K mg "beacons_of" 32
 f41:Fq K mg "is_hand" 41
 f42:Fq K mg "check_hands" 42
 f52:Fq K mg "saying_written" 52
 f53:Fq K mg "rule_written" 53
 f54:Fq K mg "signs_written" 54
 f55:Fq K mg "page_written" 55
 f56:Fq K mg "number_read" 56
 f57:Fq K mg "beacon_read" 57
 f58:Fq K mg "saying_read" 58
 f59:Fq K mg "hand_read" 59
 f60:Fq K mg "truth_read" 60
 f61:Fq K mg "each_read" 61
 f62:Fq K mg "sum_read" 62
 f63:Fq K mg "if_read" 63
 f64:Fq K mg "rule_read" 64
 f65:Fq K mg "kind_read" 65
 f66:Fq K mg "hands_read" 66
 f67:Fq K mg "settled_read" 67
 f68:Fq K mg "rows_read" 68
 f69:Fq K mg "watch_made" 69
 f70:Fq K mg "page_read" 70
 f72:Fq K mg "_law_cell" 72
 f73:Fq K mg "_law_mixed" 73
 f74:Fq K mg "_law_rule" 74
 f75:Fq K mg "_law_saying_word" 75
 f76:Fq K mg "_law_rule_words" 76
 f77:Fq K mg "_law_rows" 77
 f78:Fq K mg "_law_page" 78
 f79:Fq K mg "_law_good" 79
 f80:Fq K mg "_law_places" 80
 f81:Fq K mg "_law_ends" 81
 f82:Fq K mg "_law_odd_rule" 82
 f83:Fq K mg "_law_words" 83
 f84:Fq K mg "_law_faulty" 84
 f85:Fq K mg "_law_kinds" 85
 x_NoBook_NoBook:Xp K mg "NoBook" "NoBook" true
 x_NoBook_NoHands:Xp K mg "NoBook" "NoHands" false
 x_NoBook_Over:Xp K mg "NoBook" "Over" false
 x_NoHands_NoBook:Xp K mg "NoHands" "NoBook" false
 x_NoHands_NoHands:Xp K mg "NoHands" "NoHands" true
 x_NoHands_Over:Xp K mg "NoHands" "Over" false
 x_Over_NoBook:Xp K mg "Over" "NoBook" false
 x_Over_NoHands:Xp K mg "Over" "NoHands" false
 x_Over_Over:Xp K mg "Over" "Over" true
 x_NoPage_NoBook:Xp K mg "NoPage" "NoBook" false
 x_NoPage_NoHands:Xp K mg "NoPage" "NoHands" false
 x_NoPage_NoLight:Xp K mg "NoPage" "NoLight" false
 x_NoPage_NoneSettled:Xp K mg "NoPage" "NoneSettled" false
 x_NoPage_NoPaper:Xp K mg "NoPage" "NoPaper" false
 x_NoPage_NoTable:Xp K mg "NoPage" "NoTable" false
 x_NoPage_Over:Xp K mg "NoPage" "Over" false
 x_NoPage_NoPage:Xp K mg "NoPage" "NoPage" true
 x_NoPage_DuskError:Xp K mg "NoPage" "DuskError" true
 r_Watch_evening:Mq K "Watch" "evening" "Watch.evening" (inClass (top 43) 2)
 r_Watch_settle:Mq K "Watch" "settle" "Watch.settle" (inClass (top 43) 5)
 r_Watch_turn:Mq K "Watch" "turn" "Watch.turn" (inClass (top 43) 1)
 r_Watch_winner:Mq K "Watch" "winner" "Watch.winner" (inClass (top 43) 4)
 i_Watch:vO K "Watch" "Watch.__init__" (inClass (top 43) 0)
 n_Watch_book:Nq K "Watch" "book"
 n_Watch_hands:Nq K "Watch" "hands"
 n_Watch_truths:Nq K "Watch" "truths"
 c_Watch:∀C,W.nsIn K mainGlobals "Watch"=some (some (.ref C))->mg "Watch"=some (.ref C)
 a_beacon_read:GA mg "beacon_read" 387
 a_hand_read:GA mg "hand_read" 401
 a_truth_read:GA mg "truth_read" 408
 a_saying_read:GA mg "saying_read" 394
section
variable {P:P7}{w:World}{K:W7}{mg:AD}{base:Heap}
def Uz:Fs 1 16 ["thing"]:=aQ
def ER:AR:=(ai (eT (mB (b1 (aa 0) (cL "int"))) (eT (hJ (mB (b1 (aa 0) (cL "bool")))) (mB (hZ (Zi 0) (aa 0) (Zi 60) uu fF)))))
def jl:AN->Option D:=av 1 1 ER
open Lean in
abbrev tUU:=TSyntax `Lean.Parser.Tactic.tacticSeq
open Lean in
def tVV(n:String):=mkIdent n.toName
open Lean in
def tA(h:Array Term)(s:List String):MacroM (Array tUU):=do
 let go (l:List String) (x:Term):MacroM tUU:=do
  let a <-l.tail.toArray.mapM λn=>if n=="q" then `(?_)else if n=="u" then `(_)else if n=="f" then `(λ_ _ _ _ _=>?_)else if n=="h" then pure x else pure (tVV n)
  `(tacticSeq| show $(tVV l.head!) $a*)
 return (<-s.toArray.mapM λs=>do
  let l:=s.splitOn " "
  if l.contains "h" then h.mapM (go l)else return #[<-go l (<-`(_))]).flatten
set_option hygiene false in
open Lean in
local macro_rules | `(tactic| exists $xs,*)=>do
 let h:=xs.getElems
 let t <-("ZC/1 Name|Yi u/0 u|Yh q;ZA/0 u|Yc q q|Yj;ZE/3 lF|bB q/1 Constant|Yn|d9|gH|j4/1 Name|Yg u|jk bl.a_beacon_read rfl|mf bl.g_BEACON_COUNT rfl|jk bl.a_saying_read rfl|jk bl.a_hand_read rfl|jk bl.a_truth_read rfl|mf bl.g_MOST_SAYINGS rfl|mf bl.g_MOST_RULES rfl/1 Subscript|Yx q q|EB q q q|Tg bl.g_LETTERS rfl q|Nk bl.g_ODDS_BY_WORD rfl q/1 Call|Ym h hr rfl q q|Mp h hr q|dI iU iX rfl bl.Len PySem.boot_len q|lZ zH Lm rfl bl.Tuple boot_tuple q|D7 q|lZ Rb DY rfl bl.Str boot_str q|dI q uC rfl bl.Any boot_any q|lZ Kr Ln rfl bl.Int boot_int q|B4 rfl hr.units bl.Len bl.Set rfl rfl q|uP q rfl rfl bl.Isinstance bl.Str boot_str Lr|dI q LF rfl bl.All boot_all q|Eg q|dI q Bo rfl bl.Max boot_max q|uP q rfl rfl bl.Isinstance bl.Int boot_int A6|uP q rfl rfl bl.Isinstance bl.Bool boot_bool Sa|Ut bl.g_HANDS_BY_LETTER bl.k_HANDS_BY_LETTER rfl q|Us bl.g_TRUTHS_BY_SIGN rfl q|Nr q q|dI zG Eh rfl bl.Len PySem.boot_len q/1 BinOp|pe q q|ma q q|uL q q|D9 q q|EH q q|BL q q|BM q q/1 Tuple|uN q/1 Compare|BO hr.units q q|BN q q|Th jA jT nL jT q q q|BP hr.units q q|S9 q q|CP hr.units bl.g_HANDS rfl q|ph hr.units q q/1 IfExp|lY q q q/1 UnaryOp|f_ q|BV q/1 BoolOp|BS q q|S8 q/1 Attribute|CN bl.n_Watch_truths.cf q|CN bl.n_Watch_book.cf q|CN bl.n_Watch_hands.cf q/0 u|D8 q|bB q;ZB/0 u|dt q|y0 q q|f7;ZS/2 nS|L1/4 wF|uO u q/1 Return|eK q/1 If|f9 q q q/1 Assign|i4 u q h rfl q f f f q|cm u q q|pq u q q|Td u q q/1 Expr|BY u q|Tf u q|Tp q/1 For|L0 jc rfl q q q;ZF/1 List|dX q/1 Subscript|eB q q q/1 BinOp|pz q q/1 ListComp|l_ h rfl q f f f q/1 Call|S_ Sg Si rfl bl.Sorted boot_sorted q|Ta Rz R7 rfl bl.List boot_list q|To rfl rfl bl.Sorted rfl bl.Set q;gG/0 u|y6 q q|c6;ZO/0 u|dH q|fH;ZT/1 Compare|BQ hr.units q q|pf q q|uM hr.units q q|B0 q q|lV q q|BX q q|L3 hr.units bl.g_KINDS rfl q|BW q q|Nj bl.k_ODDS_BY_WORD rfl q|LX hr.units q q|Tj q q/1 UnaryOp|pk q/0 u|f6 q|j5 q;ZG/1 Name|dA u q/1 Tuple|Tc u u rfl q;ZI/0 u|dJ q|Tb rfl bl.Range q|Te rfl bl.Enumerate q;fZ/0 u|eZ|Tn q;ZX/0 u|i8|gK q q q|vJ q|fI bl.x_NoPage_NoPage|fI bl.x_NoHands_NoHands|fI bl.x_NoBook_NoBook;ZW/1 BoolOp|lX q q|lW q|LY q|LZ q q;YE/0 u|eC gJ h hr rfl q q|qA q;eE/0 u|kB q q|qG q|Dm;YA/0 u|qb|mn q q q;d_/3 fK|kA q/1 Return|Dw q/1 Assign|M4 u q q|M4 u q q|DC u q|MV u q q/1 If|Dn q q q/1 Expr|DD u bl.n_Watch_truths.cf q|MX q/1 For|Do jc rfl q q q;vL/3 mq|MU q;fw/3 Dr|Dt q/3 Dq|Ds q/1 Call|M0 true u h hr rfl q q|MZ h hr q q q".splitOn ";").toArray.mapM λj=>do
  let g:=j.splitOn "/"
  let J:=tVV g.head!
  let s <-g.tail.toArray.mapM λg=>do
   let r:=g.splitOn "|"
   let w:=r.head!.splitOn " "
   let c:=tVV w.tail.head!
   let k:=w.head!.toNat!
   let a <-tA h r.tail
   if k==0 then `(tacticSeq| first $[| $a]*)else if k==1 then `(tacticSeq| (with_reducible show $J _ (.$c ..) ..);first $[| $a]*)else
    let u <-(List.replicate (k-2) J).toArray.mapM λ_=>`(_)
    `(tacticSeq| (with_reducible show $J _ _ ($c $u*));first $[| $a]*)
  `(tacticSeq| (with_reducible show $J ..);first $[| $s]*)
 let r:Array Term:=("bq cR vS Nw mE".splitOn " ").toArray.map λn=>tVV n
 let b <-tA h ("dV rfl|R9 rfl rfl|LA rfl|LB rfl|Ra rfl|kP bl.n_Watch_book.cf|kP bl.n_Watch_hands.cf|kP bl.n_Watch_truths.cf".splitOn "|")
 `(tactic| ((try refine cU $(h[0]!) $(h[1]?.getD h[0]!) λhr=>?_);repeat' first $[| $t]* $[| with_reducible exact $r]* $[| exact($h).nd]* $[| $b]* $[| exact $h]* | fail))
variable (bl:Bl K w mg)
def ES:aU P w K mg base 1 1 "is_beacon" ["thing"] jl:=by
 exists bl.f16,Uz
def Nx:Fs 1 17 ["thing"]:=aQ
def Ny:AR:=(ag (aH (cg (b1 (cC (Yb (af 0) ae) jl) aI)) nS ao) (ai (af 0)))
def Yt:AN->Option D:=av 1 1 Ny
def Yw:aU P w K mg base 2 1 "checked_beacon" ["thing"] Yt:=by
 exists bl.f17,Nx,ES bl
def Nz:AT:=(bR (cg (b1 (cC (Yb (af 0) ae) jl) aI)) a_ bT)
def mF:AN->Option Bool:=aP 1 1 Nz
def ET:cP P w K mg base 2 1 "checked_beacon" ["thing"] mF "NoBook":=by
 show bA bl.f17 Nx λhr=>?_
 exists ES bl
def NA:Fs 1 18 ["thing"]:=aQ
def NB:AR:=(ag (aH (cT (b2 (aa 0) (kD (.bl true)) (fW false)) (b2 (aa 0) (kD (.bl false)) (fW false))) (ai (af 0)) ao) nS)
def iG:AN->Option D:=av 1 1 NB
def mG:aU P w K mg base 1 1 "checked_truth" ["thing"] iG:=by
 exists bl.f18,NA
def UA:AT:=(bR (cT (b2 (aa 0) (kD (.bl true)) (fW false)) (b2 (aa 0) (kD (.bl false)) (fW false))) bT a_)
def vT:AN->Option Bool:=aP 1 1 UA
def NC:cP P w K mg base 1 1 "checked_truth" ["thing"] vT "NoBook":=by
 show bA bl.f18 NA λb=>?_
 exists rfl
def aOa:Fs 1 19 ["beacons","checked"]:=aQ
def UB:Cs ["beacons","checked"] 19 ["beacon"] [none] [("beacon",0),("checked_beacon",2)]:=bC
def aCa:Cs ["beacons","checked"] 19 ["beacon"] [none] [("beacon",0),("checked_beacon",2)]:=bC
def aDa:Cs ["beacons","checked"] 19 ["beacon"] [none] [("beacon",0),("checked_beacon",2)]:=bC
def EU:AU:=(cC (Yb (af 0) ae) Yt)
@[simp] def UC:AR:=(ai (cC (Yb (lF (cF (Yb (aa 1) ae) fV)) ae) cj))
@[simp] def UD:AR:=(ag (aH (b2 (cC (Yb (aa 1) ae) j2) (cC (Yb (aa 1) ae) aF) fF) nS ao) UC)
def EV:AU:=(cC (Yb (af 0) ae) Yt)
def EW:AU:=(cC (Yb (af 0) ae) Yt)
def EX:AT:=(Yv (Yb (af 0) ae) mF)
def ND:AR:=(ag (aM 1 (bo (b1 (af 0) Yk) [none] (aq 0) tY (EU))) UD)
def jm:AN->Option D:=av 1 2 ND
def vU:aU P w K mg base 3 1 "checked_beacons" ["beacons"] jm:=by
 exists bl.f19,aOa,UB,Yw bl
def NF:AT:=(cM (fq (b1 (af 0) Yk) [none] (aq 0) EW EX) (aM 1 (bo (b1 (af 0) Yk) [none] (aq 0) tY (EV))) (bR (b2 (cC (Yb (aa 1) ae) j2) (cC (Yb (aa 1) ae) aF) fF) a_ bT))
def mH:AN->Option Bool:=aP 1 2 NF
def NG(a:Bl K w mg):cP P w K mg base 3 1 "checked_beacons" ["beacons"] mH "NoBook":=by
 show bA a.f19 aOa λb=>?_;show(d0 (i4 1 aOa.nd aCa rfl (dJ (Yg 0)) (λ_ _ _ _ _=>dA 0 aCa.nd) (λ_ _ _ _ _=>eZ) (λ_ _ _ _ _=>Ym (Yw a) b rfl (Yc (Yg 0) Yj) bq) (dV rfl)) (Da 1 aOa.nd kj aDa rfl (dJ (Yg 0)) (λ_ _ _ _ _=>dA 0 aDa.nd) (λ_ _ _ _ _ _=>Ym (Yw a) b rfl (Yc (Yg 0) Yj) bq) (λ_ _ _ _ _ _=>eC p_ (ET a) b rfl (Yc (Yg 0) Yj) bq) (dV rfl)) (gK (lV (Yh (B4 rfl b.units a.Len a.Set rfl rfl (y6 (Yi 1) c6))) (Yh (dI iU iX rfl a.Len PySem.boot_len (y6 (Yi 1) c6)))) (fI a.x_NoBook_NoBook) i8))
def aQa:Fs 1 20 ["sayings","checked"]:=aQ
def UE:Cs ["sayings","checked"] 20 ["saying"] [none] [("saying",0),("checked_beacon",2),("checked_truth",2)]:=bC
def aGa:Cs ["sayings","checked"] 20 ["saying"] [none] [("saying",0),("checked_beacon",2),("checked_truth",2)]:=bC
def aHa:Cs ["sayings","checked"] 20 ["saying"] [none] [("saying",0),("checked_beacon",2),("checked_truth",2)]:=bC
def EY:AU:=(bf (Yb (cC (Yb (b2 (aa 0) (Zi 0) aw) ae) Yt) (Yb (cC (Yb (b2 (aa 0) (Zi 1) aw) ae) iG) ae)))
@[simp] def UF:AR:=(ai (cC (Yb (lF (cF (Yb (aa 1) ae) fV)) ae) cj))
@[simp] def UG:AR:=(ag (aH (b2 (cC (Yb (aa 1) ae) j2) (cC (Yb (aa 1) ae) aF) fF) nS ao) UF)
@[simp] def UH:AR:=(ag (aM 1 (bo (b1 (af 0) Yk) [none] (aq 0) tY (EY))) UG)
def EZ:AU:=(bf (Yb (cC (Yb (b2 (aa 0) (Zi 0) aw) ae) Yt) (Yb (cC (Yb (b2 (aa 0) (Zi 1) aw) ae) iG) ae)))
def E3:AU:=(bf (Yb (cC (Yb (b2 (aa 0) (Zi 0) aw) ae) Yt) (Yb (cC (Yb (b2 (aa 0) (Zi 1) aw) ae) iG) ae)))
def E4:AT:=(eD (Yv (Yb (b2 (aa 0) (Zi 0) aw) ae) mF) (cC (Yb (b2 (aa 0) (Zi 0) aw) ae) Yt) (eD (Yv (Yb (b2 (aa 0) (Zi 1) aw) ae) vT) (cC (Yb (b2 (aa 0) (Zi 1) aw) ae) iG) bT))
def NH:AR:=(ag (aH (b2 (cC (Yb (aa 0) ae) aF) (Zi 2) dE) nS ao) UH)
def vV:AN->Option D:=av 1 2 NH
def UI:aU P w K mg base 3 1 "either_made" ["sayings"] vV:=by
 exists bl.f20,aQa,UE,Yw bl,mG bl
def E5:AT:=(bR (b2 (cC (Yb (aa 0) ae) aF) (Zi 2) dE) a_ (cM (fq (b1 (af 0) Yk) [none] (aq 0) E3 E4) (aM 1 (bo (b1 (af 0) Yk) [none] (aq 0) tY (EZ))) (bR (b2 (cC (Yb (aa 1) ae) j2) (cC (Yb (aa 1) ae) aF) fF) a_ bT)))
def mI:AN->Option Bool:=aP 1 2 E5
def UJ(a:Bl K w mg):cP P w K mg base 3 1 "either_made" ["sayings"] mI "NoBook":=by
 show bA a.f20 aQa λb=>?_;show(gK (pf (Yh (dI iU iX rfl a.Len PySem.boot_len (y6 (Yi 0) c6))) (Yh (mf a.g_MOST_SAYINGS rfl))) (fI a.x_NoBook_NoBook) (d0 (i4 1 aQa.nd aGa rfl (dJ (Yg 0)) (λ_ _ _ _ _=>dA 0 aGa.nd) (λ_ _ _ _ _=>eZ) (λ_ _ _ _ _=>uN (Yc (Ym (Yw a) b rfl (Yc (Yx (Yi 0) (Yh Yn)) Yj) bq) (Yc (Ym (mG a) b rfl (Yc (Yx (Yi 0) (Yh Yn)) Yj) bq) Yj))) (dV (i:=0) rfl)) (Da 1 aQa.nd kj aHa rfl (dJ (Yg 0)) (λ_ _ _ _ _=>dA 0 aHa.nd) (λ_ _ _ _ _ _=>uN (Yc (Ym (Yw a) b rfl (Yc (Yx (Yi 0) (Yh Yn)) Yj) bq) (Yc (Ym (mG a) b rfl (Yc (Yx (Yi 0) (Yh Yn)) Yj) bq) Yj))) (λ_ _ _ _ _ _=>qA (mn (eC p_ (ET a) b rfl (Yc (Yx (Yi 0) (Yh Yn)) Yj) bq) (Ym (Yw a) b rfl (Yc (Yx (Yi 0) (Yh Yn)) Yj) bq) (mn (eC p_ (NC a) b rfl (Yc (Yx (Yi 0) (Yh Yn)) Yj) bq) (Ym (mG a) b rfl (Yc (Yx (Yi 0) (Yh Yn)) Yj) bq) qb))) (dV (i:=0) rfl)) (gK (lV (Yh (B4 rfl b.units a.Len a.Set rfl rfl (y6 (Yi 1) c6))) (Yh (dI iU iX rfl a.Len PySem.boot_len (y6 (Yi 1) c6)))) (fI a.x_NoBook_NoBook) i8)))
def NI:Fs 1 21 ["rule"]:=aQ
def NJ:AR:=(ai (bf (Yb (cC (Yb (b2 (aa 0) (Zi 0) aw) ae) jm) (Yb (cC (Yb (b2 (aa 0) (Zi 1) aw) ae) iG) ae))))
def vW:AN->Option D:=av 1 1 NJ
def UK:aU P w K mg base 4 1 "sum_made" ["rule"] vW:=by
 exists bl.f21,NI,vU bl,mG bl
def NK:AT:=(eD (Yv (Yb (b2 (aa 0) (Zi 0) aw) ae) mH) (cC (Yb (b2 (aa 0) (Zi 0) aw) ae) jm) (eD (Yv (Yb (b2 (aa 0) (Zi 1) aw) ae) vT) (cC (Yb (b2 (aa 0) (Zi 1) aw) ae) iG) bT))
def vX:AN->Option Bool:=aP 1 1 NK
def UL(a:Bl K w mg):cP P w K mg base 4 1 "sum_made" ["rule"] vX "NoBook":=by
 show bA a.f21 NI λhr=>?_
 exists NG a,vU a,NC a,mG a
def aRa:Fs 1 22 ["rule","head"]:=aQ
@[simp] def UM:AR:=(ai (bf (Yb (cC (Yb (b2 (aa 0) (Zi 0) aw) ae) jm) (Yb (af 1) ae))))
@[simp] def UN:AR:=(ag (aH (b2 (aa 1) (kD .non) (cK true)) (ax 1 (cC (Yb (af 1) ae) Yt)) ao) UM)
def E6:AR:=(ag (ax 1 (b2 (aa 0) (Zi 1) aw)) UN)
def vY:AN->Option D:=av 1 2 E6
def UO:aU P w K mg base 4 1 "if_made" ["rule"] vY:=by
 exists bl.f22,aRa,Yw bl,vU bl
def NL:AT:=(cM bT (ax 1 (b2 (aa 0) (Zi 1) aw)) (cM (bR (b2 (aa 1) (kD .non) (cK true)) (cM (Yv (Yb (af 1) ae) mF) (ax 1 (cC (Yb (af 1) ae) Yt)) bT) bT) (aH (b2 (aa 1) (kD .non) (cK true)) (ax 1 (cC (Yb (af 1) ae) Yt)) ao) (eD (Yv (Yb (b2 (aa 0) (Zi 0) aw) ae) mH) (cC (Yb (b2 (aa 0) (Zi 0) aw) ae) jm) bT)))
def vZ:AN->Option Bool:=aP 1 2 NL
def UP(a:Bl K w mg):cP P w K mg base 4 1 "if_made" ["rule"] vZ "NoBook":=bA a.f22 aRa λb=>(d0 (cm 1 aRa.nd (Yx (Yi 0) (Yh Yn))) qC (d0 (f9 (BX (Yi 1) (Yh gH)) (dt (cm 1 aRa.nd (Ym (Yw a) b rfl (Yc (Yg 1) Yj) bq))) f7) (C8 (BX (Yi 1) (Yh gH)) (d0 (cm 1 aRa.nd (Ym (Yw a) b rfl (Yc (Yg 1) Yj) bq)) (jg 1 aRa.nd (eC gJ (ET a) b rfl (Yc (Yg 1) Yj) bq)) i8)) (vJ (qA (mn (eC gJ (NG a) b rfl (Yc (Yx (Yi 0) (Yh Yn)) Yj) bq) (Ym (vU a) b rfl (Yc (Yx (Yi 0) (Yh Yn)) Yj) bq) qb)))))
def NM:Fs 2 23 ["kind","rule"]:=aQ
@[simp] def UQ:AR:=(ai (cC (Yb (af 1) ae) vY))
@[simp] def UR:AR:=(ag (aH (b2 (aa 0) (kD (.str "sums")) (aA false)) (ai (cC (Yb (af 1) ae) vW)) ao) UQ)
def v3:AR:=(ag (aH (b2 (aa 0) (kD (.str "eithers")) (aA false)) (ai (cC (Yb (af 1) ae) vV)) ao) UR)
def mJ:AN->Option D:=av 2 2 v3
def E7:aU P w K mg base 5 2 "rule_made" ["kind","rule"] mJ:=by
 exists bl.f23,NM,UI bl,UK bl,UO bl
def E8:AT:=(bR (b2 (aa 0) (kD (.str "eithers")) (aA false)) (Yv (Yb (af 1) ae) mI) (bR (b2 (aa 0) (kD (.str "sums")) (aA false)) (Yv (Yb (af 1) ae) vX) (Yv (Yb (af 1) ae) vZ)))
def jn:AN->Option Bool:=aP 2 2 E8
def US(a:Bl K w mg):cP P w K mg base 5 2 "rule_made" ["kind","rule"] jn "NoBook":=by
 show bA a.f23 NM λhr=>?_
 exists UJ a,UL a,UP a
def NN:Fs 2 24 ["kind","rules"]:=aQ
def UT:Cs ["kind","rules"] 24 ["rule","kind"] [none,some 0] [("rule",0),("rule_made",2),("kind",1)]:=bC
def aAa:Cs ["kind","rules"] 24 ["rule","kind"] [none,some 0] [("rule",0),("rule_made",2),("kind",1)]:=bC
def aBa:Cs ["kind","rules"] 24 ["rule","kind"] [none,some 0] [("rule",0),("rule_made",2),("kind",1)]:=bC
def E9:AU:=(cC (Yb (af 1) (Yb (af 0) ae)) mJ)
@[simp] def UU:AR:=(ai (bf (Yb (af 0) (Yb (cC (Yb (lF (bo (b1 (af 1) Yk) [none,some 0] (aq 0) tY (E9))) ae) cj) ae))))
@[simp] def UV:AR:=(ag (aH (b2 (cC (Yb (aa 1) ae) aF) (Zi 60) dE) nS ao) UU)
def v7:AU:=(cC (Yb (af 1) (Yb (af 0) ae)) mJ)
def rg:AT:=(Yv (Yb (af 1) (Yb (af 0) ae)) jn)
def UW:AU:=(cC (Yb (af 1) (Yb (af 0) ae)) mJ)
def NO:AR:=(ag (aH (cT (cg (b1 (mB (b1 (aa 0) (cL "str"))) aI)) (b1 (aa 0) (cy true gM))) nS ao) UV)
def jo:AN->Option D:=av 2 2 NO
def E_:aU P w K mg base 6 2 "book_made" ["kind","rules"] jo:=by
 exists bl.f24,NN,UT,E7 bl
def Fb:AT:=(bR (cT (cg (b1 (mB (b1 (aa 0) (cL "str"))) aI)) (b1 (aa 0) (cy true gM))) a_ (bR (b2 (cC (Yb (aa 1) ae) aF) (Zi 60) dE) a_ (km (af 0) (eD (fq (b1 (af 1) Yk) [none,some 0] (aq 0) v7 rg) (cC (Yb (lF (bo (b1 (af 1) Yk) [none,some 0] (aq 0) tY (UW))) ae) cj) bT))))
def kQ:AN->Option Bool:=aP 2 2 Fb
def UX(a:Bl K w mg):cP P w K mg base 6 2 "book_made" ["kind","rules"] kQ "NoBook":=by
 show bA a.f24 NN λb=>?_;show(gK (j5 (lX (pk (f6 (Yh (uP (Yi 0) rfl rfl a.Isinstance a.Str boot_str (Lr))))) (lW (L3 b.units a.g_KINDS rfl (Yi 0))))) (fI a.x_NoBook_NoBook) (gK (pf (Yh (dI iU iX rfl a.Len PySem.boot_len (y6 (Yi 1) c6))) (Yh (mf a.g_MOST_RULES rfl))) (fI a.x_NoBook_NoBook) (vJ (qA (C7 (Yg 0) (mn (C9 zH (MK (C_ kj aAa rfl (dJ (Yg 1)) (λ_ _ _ _ _=>dA 0 aAa.nd) (λ_ _ _ _ _ _=>Ym (E7 a) b rfl (Yc (Yg 1) (Yc (Yg 0) Yj)) cR) (λ_ _ _ _ _ _=>eC p_ (US a) b rfl (Yc (Yg 1) (Yc (Yg 0) Yj)) cR) (dV (i:=0) rfl))) rfl a.Tuple boot_tuple) (lZ zH Lm rfl a.Tuple boot_tuple (y6 (Yh (bB (l_ aBa rfl (dJ (Yg 1)) (λ_ _ _ _ _=>dA 0 aBa.nd) (λ_ _ _ _ _=>eZ) (λ_ _ _ _ _=>Ym (E7 a) b rfl (Yc (Yg 1) (Yc (Yg 0) Yj)) cR) (dV (i:=0) rfl)))) c6)) qb))))))
def UY:Fs 2 25 ["rule","evening"]:=aQ
def UZ:Cs ["rule","evening"] 25 ["saying","evening"] [none,some 1] [("saying",0),("evening",1)]:=bC
def Fc:AU:=mB (b2 (b2 (aa 1) (b2 (aa 0) (Zi 0) aw) aw) (b2 (aa 0) (Zi 1) aw) (aA false))
def NP:AR:=ai (cC (Yb (lF (bo (b1 (af 0) Yk) [none,some 1] (aq 0) tY (Fc))) ae) ck)
def v8:AN->Option D:=av 2 2 NP
def U0:aU P w K mg base 1 2 "either_holds" ["rule","evening"] v8:=by
 exists bl.f25,UY,UZ
def U1:Fs 2 26 ["rule","evening","lit_ones"]:=aQ
def U2:Cs ["rule","evening","lit_ones"] 26 ["beacon","evening"] [none,some 1] [("beacon",0),("evening",1)]:=bC
def Fd:AT:=b1 (b2 (aa 1) (aa 0) aw) aI
def Fe:AU:=af 0
def NQ:AR:=ag (aM 2 (bo (b1 (b2 (aa 0) (Zi 0) aw) Yk) [none,some 1] (aq 0) (Fd) (Fe))) (ai (mB (b2 (mB (b2 (b2 (cC (Yb (aa 2) ae) aF) (Zi 2) aE) (Zi 1) (aA false))) (b2 (aa 0) (Zi 1) aw) (aA false))))
def v9:AN->Option D:=av 2 3 NQ
def U3:aU P w K mg base 1 2 "sum_holds" ["rule","evening"] v9:=by
 exists bl.f26,U1,U2
def U4:Fs 3 27 ["rule","evening","lit"]:=aQ
def U5:Cs ["rule","evening","lit"] 27 ["beacon","evening","lit"] [none,some 1,some 2] [("beacon",0),("evening",1),("lit",1)]:=bC
def Ff:AU:=mB (b2 (b2 (aa 1) (aa 0) aw) (aa 2) (aA true))
def v_:AR:=ag (aH (b1 (cC (Yb (lF (bo (b1 (b2 (aa 0) (Zi 0) aw) Yk) [none,some 1,some 2] (aq 0) tY (Ff))) ae) ck) aI) (ai (kD (.bl true))) ao) (ai (eT (mB (b2 (b2 (aa 0) (Zi 1) aw) (kD .non) (cK true))) (mB (b2 (b2 (aa 1) (b2 (aa 0) (Zi 1) aw) aw) (aa 2) (aA false)))))
def wB:AN->Option D:=av 3 3 v_
def U6:aU P w K mg base 1 3 "if_holds" ["rule","evening","lit"] wB:=by
 exists bl.f27,U4,U5
def U7:Fs 3 28 ["kind","rule","evening"]:=aQ
@[simp] def U8:AR:=ai (cC (Yb (af 1) (Yb (af 2) (Yb (mB (b2 (aa 0) (kD (.str "ifs")) (aA false))) ae))) wB)
@[simp] def U9:AR:=ag (aH (b2 (aa 0) (kD (.str "sums")) (aA false)) (ai (cC (Yb (af 1) (Yb (af 2) ae)) v9)) ao) U8
def rh:AR:=ag (aH (b2 (aa 0) (kD (.str "eithers")) (aA false)) (ai (cC (Yb (af 1) (Yb (af 2) ae)) v8)) ao) U9
def wC:AN->Option D:=av 3 3 rh
def U_:aU P w K mg base 2 3 "rule_holds" ["kind","rule","evening"] wC:=by
 exists bl.f28,U7,U0 bl,U3 bl,U6 bl
def Va:Fs 2 29 ["book","evening"]:=aQ
def Vb:Cs ["book","evening"] 29 ["place","rule","book","evening"] [none,none,some 0,some 1] [("place",0),("rule",0),("rule_holds",2),("book",1),("evening",1)]:=bC
def Fg:AT:=cg (b1 (cC (Yb (b2 (aa 2) (Zi 0) aw) (Yb (af 1) (Yb (af 3) ae))) wC) aI)
def Fh:AU:=af 0
def NR:AR:=ai (lF (bo (b1 (b2 (aa 0) (Zi 1) aw) jZ) [none,none,some 0,some 1] (oR 0 1) (Fg) (Fh)))
def wG:AN->Option D:=av 2 2 NR
def Vc:aU P w K mg base 3 2 "broken_rules" ["book","evening"] wG:=by
 exists bl.f29,Va,Vb,U_ bl
def Fi:Fs 2 30 ["book","evening"]:=aQ
def NS:AR:=ai (mB (b2 (cC (Yb (cC (Yb (af 0) (Yb (af 1) ae)) wG) ae) aF) (Zi 0) (aA false)))
def wH:AN->Option D:=av 2 2 NS
def Fj:aU P w K mg base 4 2 "holds" ["book","evening"] wH:=by
 exists bl.f30,Fi,Vc bl
def Vd:Fs 2 31 ["kind","rule"]:=aQ
def Ve:Cs ["kind","rule"] 31 ["saying"] [none] [("saying",0)]:=bC
def Fl:AU:=b2 (aa 0) (Zi 0) aw
@[simp] def Vf:AR:=ai (lF (b2 (lF (cF (Yb (b2 (aa 1) (Zi 0) aw) ae) ux)) (lF (ah (Yb (b2 (aa 1) (Zi 1) aw) ae))) aC))
@[simp] def Vg:AR:=ag (aH (cT (b2 (aa 0) (kD (.str "sums")) (aA false)) (b2 (b2 (aa 1) (Zi 1) aw) (kD .non) (cK false))) (ai (lF (cF (Yb (b2 (aa 1) (Zi 0) aw) ae) ux))) ao) Vf
def wI:AR:=ag (aH (b2 (aa 0) (kD (.str "eithers")) (aA false)) (ai (lF (bo (b1 (af 1) Yk) [none] (aq 0) tY (Fl)))) ao) Vg
def wJ:AN->Option D:=av 2 2 wI
def Vh:aU P w K mg base 1 2 "beacons_in" ["kind","rule"] wJ:=by
 exists bl.f31,Vd,Ve
def Vi:Fs 1 32 ["book","found","rule"]:=aQ
def Fm:AR:=bP 1 (cC (Yb (b2 (aa 0) (Zi 0) aw) (Yb (af 2) ae)) wJ) eX
@[simp] def Vj:AR:=ai (lF (Bw (aa 1)))
@[simp] def Vk:AR:=ag (eu (b1 (b2 (aa 0) (Zi 1) aw) Yk) (aq 2) Fm) Vj
def NT:AR:=ag (aM 1 (ah ae)) Vk
def rm:AN->Option D:=av 1 3 NT
def NU:aU P w K mg base 2 1 "beacons_of" ["book"] rm:=by
 exists bl.f32,Vi,Vh bl
def Vl:Fs 1 41 ["thing"]:=aQ
def Vm:AR:=ai (eT (mB (b1 (aa 0) (cL "str"))) (mB (b1 (aa 0) (cy false Nv))))
def wK:AN->Option D:=av 1 1 Vm
def NV:aU P w K mg base 1 1 "is_hand" ["thing"] wK:=by
 exists bl.f41,Vl
def NW:Fs 2 42 ["book","hands"]:=aQ
def Vn:Cs ["book","hands"] 42 ["thing"] [none] [("thing",0),("is_hand",2)]:=bC
def Vo:Cs ["book","hands"] 42 ["beacon","hands"] [none,some 1] [("beacon",0),("len",2),("hands",1)]:=bC
def Vp:Cs ["book","hands"] 42 ["thing"] [none] [("thing",0),("is_hand",2)]:=bC
def Vq:Cs ["book","hands"] 42 ["beacon","hands"] [none,some 1] [("beacon",0),("len",2),("hands",1)]:=bC
def Fn:AU:=cC (Yb (af 0) ae) wK
def Fo:AU:=mB (b2 (aa 0) (cC (Yb (aa 1) ae) aF) uv)
@[simp] def Vr:AR:=aH (b1 (cC (Yb (lF (bo (b1 (cC (Yb (af 0) ae) rm) Yk) [none,some 1] (aq 0) tY (Fo))) ae) ck) aI) nS ao
@[simp] def Vs:AR:=ag (aH (cg (b1 (cC (Yb (lF (bo (b1 (af 1) Yk) [none] (aq 0) tY (Fn))) ae) eW) aI)) nS ao) Vr
def Fp:AU:=(cC (Yb (af 0) ae) wK)
def Ft:AU:=(mB (b2 (aa 0) (cC (Yb (aa 1) ae) aF) uv))
def Fu:AR:=ag (aH (b2 (cC (Yb (aa 1) ae) aF) (Zi 60) dE) nS ao) Vs
def kR:AN->Option D:=av 2 2 Fu
def Vt:aU P w K mg base 3 2 "check_hands" ["book","hands"] kR:=by
 exists bl.f42,NW,Vn,NV bl,Vo,NU bl
def Fv:AT:=(bR (b2 (cC (Yb (aa 1) ae) aF) (Zi 60) dE) a_ (bR (cg (b1 (cC (Yb (lF (bo (b1 (af 1) Yk) [none] (aq 0) tY (Fp))) ae) eW) aI)) a_ (bR (b1 (cC (Yb (lF (bo (b1 (cC (Yb (af 0) ae) rm) Yk) [none,some 1] (aq 0) tY (Ft))) ae) ck) aI) a_ bT)))
def kT:AN->Option Bool:=aP 2 2 Fv
def Vu:cP P w K mg base 3 2 "check_hands" ["book","hands"] kT "NoHands":=by
 show bA bl.f42 NW λhr=>?_
 exists Vp,NV bl,Vq,NU bl
def Vv:Fs 1 52 ["saying","beacon"]:=aQ
def NX:AR:=(ag (ax 1 (b2 (aa 0) (Zi 0) aw)) (ai (d8 (b1 (b2 (aa 0) (Zi 1) aw) aI) (b1 (aa 1) (qV (Str.ofString "+"))) (b1 (aa 1) (qV (Str.ofString "-"))))))
def wL:AN->Option D:=av 1 2 NX
def Vw:aU P w K mg base 1 1 "saying_written" ["saying"] wL:=by
 exists bl.f52,Vv
def Vx:Fs 2 53 ["kind","rule","beacons"]:=aQ
def Vy:Cs ["kind","rule","beacons"] 53 ["saying"] [none] [("saying",0),("saying_written",2)]:=bC
def Vz:Cs ["kind","rule","beacons"] 53 ["beacon"] [none] [("beacon",0),("str",2)]:=bC
def Fw:AU:=(cC (Yb (af 0) ae) wL)
def rn:AU:=(cC (Yb (aa 0) ae) da)
@[simp] def VA:AR:=(ai (lF (b2 (lF (b2 (lF (b2 (lF (ah (Yb (kD (.str "rule")) ae))) (aa 2) aC)) (lF (ah (Yb (kD (.str ">")) ae))) aC)) (d8 (b2 (b2 (aa 1) (Zi 1) aw) (kD .non) (cK false)) (lF (ah ae)) (lF (ah (Yb (cC (Yb (b2 (aa 1) (Zi 1) aw) ae) da) ae)))) aC)))
@[simp] def VB:AR:=(ag (aH (b2 (aa 0) (kD (.str "sums")) (aA false)) (ai (lF (b2 (lF (ah (Yb (kD (.str "rule")) (Yb (d8 (b1 (b2 (aa 1) (Zi 1) aw) aI) (kD (.str "odd")) (kD (.str "even"))) ae)))) (aa 2) aC))) ao) VA)
@[simp] def VC:AR:=(ag (aM 2 (bo (b1 (b2 (aa 1) (Zi 0) aw) Yk) [none] (aq 0) tY (rn))) VB)
def rq:AR:=(ag (aH (b2 (aa 0) (kD (.str "eithers")) (aA false)) (ai (lF (b2 (lF (ah (Yb (kD (.str "rule")) ae))) (lF (bo (b1 (af 1) Yk) [none] (aq 0) tY (Fw))) aC))) ao) VC)
def wM:AN->Option D:=av 2 3 rq
def VD:aU P w K mg base 2 2 "rule_written" ["kind","rule"] wM:=by
 exists bl.f53,Vx,Vy,Vw bl,Vz
def VE:Fs 2 54 ["word","signs"]:=aQ
def Fx:AR:=(ai (d8 (b1 (aa 1) aI) (lF (ah (Yb (af 0) (Yb (cC (Yb (aa 1) ae) (dN (Str.ofString ""))) ae)))) (lF (ah (Yb (af 0) ae)))))
def rz:AN->Option D:=av 2 2 Fx
def VF:aU P w K mg base 1 2 "signs_written" ["word","signs"] rz:=by
 exists bl.f54,VE
def VG:cG ["self"] ["self"] (aBb (inClass (top 43) 2)):=aQ
def NY:AR:=(ai (cC (Yb (b1 (af 0) (b5 "Watch" "truths")) ae) cj))
def mK:AN->Option D:=av 1 1 NY
def VH(bl:Bl K w mg){c:Str}(F:Mq K c "evening" "Watch.evening" (inClass (top 43) 2)):gh P w K mg base 1 c "evening" ["self"] (bE K 1 mK):=by
 show kd F VG λhr=>?_
 exists rfl
def NZ:Fs 1 55 ["watch","kind","rows"]:=aQ
def VI:Cs ["watch","kind","rows"] 55 ["hand"] [none] [("hand",0),("LETTERS",2)]:=bC
def VJ:Cs ["watch","kind","rows"] 55 ["rule","kind"] [none,some 1] [("rule",0),("rule_written",2),("kind",1)]:=bC
def VL:Cs ["watch","kind","rows"] 55 ["lit"] [none] [("lit",0)]:=bC
def VM:Cs ["watch","kind","rows"] 55 ["words"] [none] [("words",0)]:=bC
def Fy:AU:=(b1 (aa 0) (uE EN))
def Fz:AU:=(cC (Yb (af 1) (Yb (af 0) ae)) wM)
def N0:AU:=(d8 (b1 (aa 0) aI) (kD (.str "1")) (kD (.str "0")))
def FA:AU:=(cC (Yb (aa 0) ae) (dN (Str.ofString " ")))
@[simp] def mL:AR:=(wF [2] (ai (cC (Yb (lF (bo (b1 (af 2) Yk) [none] (aq 0) tY (FA))) ae) (dN (Str.ofString "\n")))))
@[simp] def rA:AR:=(ag (aH (b1 (b1 (af 0) (c_ "Watch" "evening" mK)) aI) (bP 2 (cC (Yb (kD (.str "settled")) (Yb (lF (bo (b1 (b1 (af 0) (c_ "Watch" "evening" mK)) Yk) [none] (aq 0) tY (N0))) ae)) rz) bb) ao) mL)
@[simp] def FB:AR:=(ag (bP 2 (lF (bo (b1 (b2 (b1 (af 0) (b5 "Watch" "book")) (Zi 1) aw) Yk) [none,some 1] (aq 0) tY (Fz))) eX) rA)
@[simp] def FC:AR:=(ag (aM 2 (ah (Yb (lF (ah (Yb (kD (.str "kind")) (Yb (af 1) ae)))) (Yb (cC (Yb (kD (.str "hands")) (Yb (lF (bo (b1 (b1 (af 0) (b5 "Watch" "hands")) Yk) [none] (aq 0) tY (Fy))) ae)) rz) ae)))) FB)
def FD:AR:=(ag (ax 1 (b2 (b1 (af 0) (b5 "Watch" "book")) (Zi 0) aw)) FC)
def wN:AN->Option D:=av 1 3 FD
def VN:aU P w K mg base 3 1 "page_written" ["watch"] wN:=by
 show cU bl.f55 NZ λhr=>?_;unfold FD FC FB rA mL
 exists NZ,VF bl,VI,VJ,VD bl,VH bl bl.r_Watch_evening,VL,VM
def VO:Fs 1 56 ["word"]:=aQ
def aKa:Cs ["word"] 56 ["sign"] [none] [("sign",0),("FIGURES",2)]:=bC
def N4:AU:=(mB (b2 (aa 0) (kD (.str "0123456789")) qW))
@[simp] def VP:AR:=(ai (cC (Yb (aa 0) ae) iA))
@[simp] def VQ:AR:=(ag (aH (cZ (b2 (cC (Yb (aa 0) ae) eG) (Zi 1) dE) (b2 (b2 (aa 0) (Zi 0) ix) (kD (.str "0")) (aA false))) (ai (kD .non)) ao) VP)
def FE:AR:=(ag (aH (cT (cg (hZ (Zi 1) (cC (Yb (aa 0) ae) eG) (Zi 3) uu uu)) (cg (b1 (cC (Yb (lF (bo (b1 (af 0) fx) [none] (aq 0) tY (N4))) ae) eW) aI))) (ai (kD .non)) ao) VQ)
def wO:AN->Option D:=av 1 1 FE
def VR:aU P w K mg base 1 1 "number_read" ["word"] wO:=by
 show cU bl.f56 VO λhr=>?_;show(y0 (f9 (j5 (lX (pk (Ti jA jT jA jT (Yh Yn) (Yh (dI zG Eh rfl bl.Len PySem.boot_len (y6 (Yi 0) c6))) (Yh (mf bl.g_MOST_FIGURES rfl)))) (lW (pk (f6 (Yh (dI (LB rfl) LF rfl bl.All boot_all (y6 (Yh (bB (l_ aKa rfl (Ep (Yg 0)) (λ_ _ _ _ _=>(dA 0 aKa.nd)) (λ_ _ _ _ _=>eZ) (λ_ _ _ _ _=>(Ek (Yi 0) (Yh (Eu bl.g_FIGURES rfl)))) (dV (i:=0) rfl)))) c6)))))))) (dt (eK gH)) f7) (y0 (f9 (j5 (LZ (pf (Yh (dI zG Eh rfl bl.Len PySem.boot_len (y6 (Yi 0) c6))) (Yh Yn)) (LY (BQ hr.units (Yh (vP (Yi 0) (Yh Yn) (λ_ _=>rfl))) (Yh d9))))) (dt (eK gH)) f7) (dt (eK (lZ Ur Ei rfl bl.Int boot_int (y6 (Yi 0) c6))))))
def VS:Fs 1 57 ["word","number"]:=aQ
def N5:AR:=(ag (ax 1 (cC (Yb (af 0) ae) wO)) (ai (d8 (b1 (cC (Yb (af 1) ae) jl) aI) (af 1) (kD .non))))
def gN:AN->Option D:=av 1 2 N5
def N6:aU P w K mg base 2 1 "beacon_read" ["word"] gN:=by
 exists bl.f57,VS,VR bl,ES bl
def aZa:Fs 1 58 ["word","beacon"]:=aQ
@[simp] def VT:AR:=(ai (bf (Yb (af 1) (Yb (b1 (b2 (aa 0) (Zi 0) ix) (kN gt_TRUTHS_BY_MARK)) ae))))
@[simp] def VU:AR:=(ag (aH (cT (b2 (aa 1) (kD .non) (cK false)) (b1 (b2 (aa 0) (Zi 0) ix) (cy true my))) (ai (kD .non)) ao) VT)
def FF:AR:=(ag (ax 1 (cC (Yb (b1 (af 0) (kM 1)) ae) gN)) VU)
def iH:AN->Option D:=av 1 2 FF
def VW:aU P w K mg base 3 1 "saying_read" ["word"] iH:=by
 show cU bl.f58 aZa λhr=>?_;show(y0 (cm 1 aZa.nd (Ym (N6 bl) hr rfl (Yc (Et (Yg 0)) Yj) bq)) (y0 (f9 (j5 (lX (BW (Yi 1) (Yh gH)) (lW (Nj bl.k_TRUTHS_BY_MARK rfl (Yh (vP (Yi 0) (Yh Yn) (λ_ _=>rfl))))))) (dt (eK gH)) f7) (dt (eK (uN (Yc (Yg 1) (Yc (Nk bl.g_TRUTHS_BY_MARK rfl (Yh (vP (Yi 0) (Yh Yn) (λ_ _=>rfl)))) Yj)))))))
def VX:Fs 1 59 ["letter"]:=aQ
def N7:AR:=(ai (b1 (aa 0) (iD gt_HANDS_BY_LETTER)))
def kU:AN->Option D:=av 1 1 N7
def VY:aU P w K mg base 1 1 "hand_read" ["letter"] kU:=by
 exists bl.f59,VX
def VZ:Fs 1 60 ["sign"]:=aQ
def N8:AR:=(ai (b1 (aa 0) (iB gt_TRUTHS_BY_SIGN)))
def kW:AN->Option D:=av 1 1 N8
def V0:aU P w K mg base 1 1 "truth_read" ["sign"] kW:=by
 exists bl.f60,VZ
def aPa:Fs 2 61 ["read","words","things"]:=aQ
def aEa:Cs ["read","words","things"] 61 ["word","read"] [none,some 0] [("word",0),("read",1)]:=bC
def aFa:Cs ["read","words","things"] 61 ["word","read"] [none,some 0] [("word",0),("read",1)]:=bC
def tv:List (Addr×(AN->Option D)):=[(387,gN),(401,kU),(408,kW),(394,iH)]
def N9:OkFt P w K mg base 3 1 tv:={iC bl.a_beacon_read (N6 bl),{iC bl.a_hand_read (VY bl),{iC bl.a_truth_read (V0 bl),{iC bl.a_saying_read (VW bl),trivial}}}}
def FG:AU:=(mx tv (af 1) (Yb (af 0) ae))
@[simp] def V1:AR:=(wF [2] (ai (af 2)))
@[simp] def V2:AR:=(ag (aH (b2 (kD .non) (aa 2) (dq false)) nS ao) V1)
def FH:AU:=(mx tv (af 1) (Yb (af 0) ae))
def N_:AR:=(ag (aM 2 (bo (jj (b1 (af 1) Yk) (b1 (af 1) fx)) [none,some 0] (aq 0) tY (FG))) V2)
def Ys:AN->Option D:=av 2 3 N_
def jq:aU P w K mg base 4 2 "each_read" ["read","words"] Ys:=by
 show cU bl.f61 aPa λhr=>?_;show(y0 (i4 2 aPa.nd aEa rfl (qY (dJ (Yg 1)) (Ep (Yg 1))) (λ_ _ _ _ _=>(dA 0 aEa.nd)) (λ_ _ _ _ _=>eZ) (λ_ _ _ _ _=>(Nl (N9 bl) hr (Yg 1) (Yc (Yg 0) Yj) bq)) (dV (i:=0) rfl)) (y0 (f9 (pj hr.units (Yh gH) (Yi 2)) (dt L1) f7) (dt (uO [2] (eK (Yg 2))))))
def Oa:AT:=(cM bT (aM 2 (bo (jj (b1 (af 1) Yk) (b1 (af 1) fx)) [none,some 0] (aq 0) tY (FH))) (bR (b2 (kD .non) (aa 2) (dq false)) a_ bT))
def Yq:AN->Option Bool:=aP 2 3 Oa
def mM(a:Bl K w mg):cP P w K mg base 4 2 "each_read" ["read","words"] Yq "NoPage":=bA a.f61 aPa λb=>(d0 (i4 2 aPa.nd aFa rfl (qY (dJ (Yg 1)) (Ep (Yg 1))) (λ_ _ _ _ _=>dA 0 aFa.nd) (λ_ _ _ _ _=>eZ) (λ_ _ _ _ _=>Nl (N9 a) b (Yg 1) (Yc (Yg 0) Yj) bq) (dV rfl)) qC (gK (pj b.units (Yh gH) (Yi 2)) (fI a.x_NoPage_NoPage) i8))
def Ob:Fs 1 62 ["words"]:=aQ
def Oc:AR:=(ag (aH (cT (b2 (cC (Yb (aa 0) ae) aF) (Zi 0) (aA false)) (b1 (b2 (aa 0) (Zi 0) aw) (cy true y7))) nS ao) (ai (bf (Yb (cC (Yb (kD (.adr 387)) (Yb (lF (aO (aa 0) (some (Zi 1)) none)) ae)) Ys) (Yb (b1 (b2 (aa 0) (Zi 0) aw) (kN gt_ODDS_BY_WORD)) ae)))))
def wQ:AN->Option D:=av 1 1 Oc
def V3:aU P w K mg base 5 1 "sum_read" ["words"] wQ:=by
 exists bl.f62,Ob,jq bl
def FI:AT:=(bR (cT (b2 (cC (Yb (aa 0) ae) aF) (Zi 0) (aA false)) (b1 (b2 (aa 0) (Zi 0) aw) (cy true y7))) a_ (eD (Yv (Yb (kD (.adr 387)) (Yb (lF (aO (aa 0) (some (Zi 1)) none)) ae)) Yq) (cC (Yb (kD (.adr 387)) (Yb (lF (aO (aa 0) (some (Zi 1)) none)) ae)) Ys) bT))
def kX:AN->Option Bool:=aP 1 1 FI
def V4:cP P w K mg base 5 1 "sum_read" ["words"] kX "NoPage":=by
 show bA bl.f62 Ob λhr=>?_
 exists mM bl,jq bl
def aSa:Fs 1 63 ["words","end","heads"]:=aQ
@[simp] def V5:AR:=(ai (bf (Yb (cC (Yb (kD (.adr 387)) (Yb (lF (aO (aa 0) none (some (aa 1)))) ae)) Ys) (Yb (d8 (b1 (aa 2) aI) (b2 (aa 2) (Zi 0) aw) (kD .non)) ae))))
@[simp] def V6:AR:=(ag (aH (b2 (cC (Yb (aa 2) ae) aF) (Zi 1) dE) nS ao) V5)
@[simp] def V7:AR:=(ag (ax 2 (cC (Yb (kD (.adr 387)) (Yb (lF (aO (aa 0) (some (b2 (aa 1) (Zi 1) aX)) none)) ae)) Ys)) V6)
@[simp] def V8:AR:=(ag (ax 1 (b2 (aa 0) (kD (.str ">")) fy)) V7)
def FJ:AR:=(ag (aH (b2 (kD (.str ">")) (aa 0) (dq true)) nS ao) V8)
def wR:AN->Option D:=av 1 3 FJ
def V9:aU P w K mg base 5 1 "if_read" ["words"] wR:=by
 exists bl.f63,aSa,jq bl
def FK:AT:=(bR (b2 (kD (.str ">")) (aa 0) (dq true)) a_ (cM bT (ax 1 (b2 (aa 0) (kD (.str ">")) fy)) (cM (Yv (Yb (kD (.adr 387)) (Yb (lF (aO (aa 0) (some (b2 (aa 1) (Zi 1) aX)) none)) ae)) Yq) (ax 2 (cC (Yb (kD (.adr 387)) (Yb (lF (aO (aa 0) (some (b2 (aa 1) (Zi 1) aX)) none)) ae)) Ys)) (bR (b2 (cC (Yb (aa 2) ae) aF) (Zi 1) dE) a_ (eD (Yv (Yb (kD (.adr 387)) (Yb (lF (aO (aa 0) none (some (aa 1)))) ae)) Yq) (cC (Yb (kD (.adr 387)) (Yb (lF (aO (aa 0) none (some (aa 1)))) ae)) Ys) bT)))))
def gO:AN->Option Bool:=aP 1 3 FK
def V_:cP P w K mg base 5 1 "if_read" ["words"] gO "NoPage":=by
 show bA bl.f63 aSa λhr=>?_;show(gK (LX hr.units (Yh d9) (Yi 0)) (fI bl.x_NoPage_NoPage) (d0 (cm 1 aSa.nd (Nr (Yi 0) d9)) qC (d0 (cm 2 aSa.nd (Ym (jq bl) hr rfl (Yc (jk bl.a_beacon_read rfl) (Yc (bB (eB (fl:=(some (b2 (aa 1) (Zi 1) aX))) (fh:=none) (Yi 0) (dH (Yh (ma (Yi 1) (Yh Yn)))) fH)) Yj)) cR)) (jg 2 aSa.nd (eC gJ (mM bl) hr rfl (Yc (jk bl.a_beacon_read rfl) (Yc (bB (eB (fl:=(some (b2 (aa 1) (Zi 1) aX))) (fh:=none) (Yi 0) (dH (Yh (ma (Yi 1) (Yh Yn)))) fH)) Yj)) cR)) (gK (pf (Yh (dI iU iX rfl bl.Len PySem.boot_len (y6 (Yi 2) c6))) (Yh Yn)) (fI bl.x_NoPage_NoPage) (vJ (qA (mn (eC gJ (mM bl) hr rfl (Yc (jk bl.a_beacon_read rfl) (Yc (bB (eB (fl:=none) (fh:=(some (aa 1))) (Yi 0) fH (dH (Yi 1)))) Yj)) cR) (Ym (jq bl) hr rfl (Yc (jk bl.a_beacon_read rfl) (Yc (bB (eB (fl:=none) (fh:=(some (aa 1))) (Yi 0) fH (dH (Yi 1)))) Yj)) cR) qb)))))))
def Od:Fs 2 64 ["kind","words"]:=aQ
@[simp] def Wa:AR:=(ai (cC (Yb (lF (aO (aa 1) (some (Zi 1)) none)) ae) wR))
@[simp] def Wb:AR:=(ag (aH (b2 (aa 0) (kD (.str "sums")) (aA false)) (ai (cC (Yb (lF (aO (aa 1) (some (Zi 1)) none)) ae) wQ)) ao) Wa)
@[simp] def Wc:AR:=(ag (aH (b2 (aa 0) (kD (.str "eithers")) (aA false)) (ai (cC (Yb (kD (.adr 394)) (Yb (lF (aO (aa 1) (some (Zi 1)) none)) ae)) Ys)) ao) Wb)
def wU:AR:=(ag (aH (b2 (b2 (aa 1) (Zi 0) aw) (kD (.str "rule")) (aA true)) nS ao) Wc)
def jr:AN->Option D:=av 2 2 wU
def FL:aU P w K mg base 6 2 "rule_read" ["kind","words"] jr:=by
 exists bl.f64,Od,jq bl,V3 bl,V9 bl
def FM:AT:=(bR (b2 (b2 (aa 1) (Zi 0) aw) (kD (.str "rule")) (aA true)) a_ (bR (b2 (aa 0) (kD (.str "eithers")) (aA false)) (Yv (Yb (kD (.adr 394)) (Yb (lF (aO (aa 1) (some (Zi 1)) none)) ae)) Yq) (bR (b2 (aa 0) (kD (.str "sums")) (aA false)) (Yv (Yb (lF (aO (aa 1) (some (Zi 1)) none)) ae) kX) (Yv (Yb (lF (aO (aa 1) (some (Zi 1)) none)) ae) gO))))
def y9:AN->Option Bool:=aP 2 2 FM
def We:cP P w K mg base 6 2 "rule_read" ["kind","words"] y9 "NoPage":=by
 show bA bl.f64 Od λhr=>?_
 exists mM bl,V4 bl,V_ bl
def Oe:Fs 1 65 ["words"]:=aQ
def Of:AR:=(ag (aH (cT (b2 (cC (Yb (aa 0) ae) aF) (Zi 2) (aA true)) (cT (b2 (b2 (aa 0) (Zi 0) aw) (kD (.str "kind")) (aA true)) (b1 (b2 (aa 0) (Zi 1) aw) (cy true gM)))) nS ao) (ai (b2 (aa 0) (Zi 1) aw)))
def mO:AN->Option D:=av 1 1 Of
def Og:aU P w K mg base 1 1 "kind_read" ["words"] mO:=by
 exists bl.f65,Oe
def Oh:AT:=(bR (cT (b2 (cC (Yb (aa 0) ae) aF) (Zi 2) (aA true)) (cT (b2 (b2 (aa 0) (Zi 0) aw) (kD (.str "kind")) (aA true)) (b1 (b2 (aa 0) (Zi 1) aw) (cy true gM)))) a_ bT)
def iI:AN->Option Bool:=aP 1 1 Oh
def Wf:cP P w K mg base 1 1 "kind_read" ["words"] iI "NoPage":=by
 show bA bl.f65 Oe λhr=>?_
 exists rfl
def Oi:Fs 1 66 ["words"]:=aQ
def FN:AR:=(ag (aH (cT (b2 (cC (Yb (aa 0) ae) aF) (Zi 2) dE) (b2 (b2 (aa 0) (Zi 0) aw) (kD (.str "hands")) (aA true))) nS ao) (ai (cC (Yb (kD (.adr 401)) (Yb (cC (Yb (lF (aO (aa 0) (some (Zi 1)) none)) ae) (dN (Str.ofString ""))) ae)) Ys)))
def mP:AN->Option D:=av 1 1 FN
def Oj:aU P w K mg base 5 1 "hands_read" ["words"] mP:=by
 exists bl.f66,Oi,jq bl
def FO:AT:=(bR (cT (b2 (cC (Yb (aa 0) ae) aF) (Zi 2) dE) (b2 (b2 (aa 0) (Zi 0) aw) (kD (.str "hands")) (aA true))) a_ (Yv (Yb (kD (.adr 401)) (Yb (cC (Yb (lF (aO (aa 0) (some (Zi 1)) none)) ae) (dN (Str.ofString ""))) ae)) Yq))
def gu:AN->Option Bool:=aP 1 1 FO
def Wg:cP P w K mg base 5 1 "hands_read" ["words"] gu "NoPage":=by
 show bA bl.f66 Oi λhr=>?_
 exists mM bl
def Ol:Fs 1 67 ["words"]:=aQ
def Om:AR:=(ag (aH (b2 (cC (Yb (aa 0) ae) aF) (Zi 2) (aA true)) nS ao) (ai (cC (Yb (kD (.adr 408)) (Yb (b2 (aa 0) (Zi 1) aw) ae)) Ys)))
def mQ:AN->Option D:=av 1 1 Om
def On:aU P w K mg base 5 1 "settled_read" ["words"] mQ:=by
 exists bl.f67,Ol,jq bl
def Oo:AT:=(bR (b2 (cC (Yb (aa 0) ae) aF) (Zi 2) (aA true)) a_ (Yv (Yb (kD (.adr 408)) (Yb (b2 (aa 0) (Zi 1) aw) ae)) Yq))
def gP:AN->Option Bool:=aP 1 1 Oo
def Wh:cP P w K mg base 5 1 "settled_read" ["words"] gP "NoPage":=by
 show bA bl.f67 Ol λhr=>?_
 exists mM bl
def aYa:Fs 1 68 ["text","rows"]:=aQ
def Wi:Cs ["text","rows"] 68 ["row"] [none] [("row",0)]:=bC
def Wj:Cs ["text","rows"] 68 ["words"] [none] [("words",0)]:=bC
def aMa:Cs ["text","rows"] 68 ["row"] [none] [("row",0)]:=bC
def aNa:Cs ["text","rows"] 68 ["words"] [none] [("words",0)]:=bC
def FP:AU:=(b1 (af 0) (kL (Str.ofString " ")))
def FQ:AU:=(mB (b2 (kD (.str "")) (aa 0) (dq false)))
@[simp] def Oq:AR:=(wF [1] (ai (af 1)))
@[simp] def Os:AR:=(ag (wF [1] (aH (cT (b2 (cC (Yb (aa 1) ae) aF) (Zi 2) fF) (b1 (cC (Yb (lF (bo (b1 (af 1) Yk) [none] (aq 0) tY (FQ))) ae) ck) aI)) nS ao)) Oq)
def FR:AU:=(b1 (af 0) (kL (Str.ofString " ")))
def FS:AU:=(mB (b2 (kD (.str "")) (aa 0) (dq false)))
def FT:AR:=(ag (aM 1 (bo (b1 (b1 (af 0) (kL (Str.ofString "\n"))) Yk) [none] (aq 0) tY (FP))) Os)
def rB:AN->Option D:=av 1 2 FT
def Ot:aU P w K mg base 1 1 "rows_read" ["text"] rB:=by
 show cU bl.f68 aYa λhr=>?_;unfold FT Os Oq
 exists aYa,Wi,Wj
def Ou:AT:=(cM bT (aM 1 (bo (b1 (b1 (af 0) (kL (Str.ofString "\n"))) Yk) [none] (aq 0) tY (FR))) (λρ=>(bR (cT (b2 (cC (Yb (aa 1) ae) aF) (Zi 2) fF) (b1 (cC (Yb (lF (bo (b1 (af 1) Yk) [none] (aq 0) tY (FS))) ae) ck) aI)) a_ bT) (frz [1] ρ)))
def wV:AN->Option Bool:=aP 1 2 Ou
def Wl(a:Bl K w mg):cP P w K mg base 1 1 "rows_read" ["text"] wV "NoPage":=by
 show bA a.f68 aYa λc=>?_;show(d0 (i4 1 aYa.nd aMa rfl (dJ (Eg (Yg 0))) (λ_ _ _ _ _=>dA 0 aMa.nd) (λ_ _ _ _ _=>eZ) (λ_ _ _ _ _=>Eg (Yg 0)) (dV rfl)) qC (qT [1] (gK (j5 (lX (lV (Yh (dI iU iX rfl a.Len PySem.boot_len (y6 (Yi 1) c6))) (Yh Yn)) (lW (f6 (Yh (dI (LA rfl) uC rfl a.Any boot_any (y6 (Yh (bB (l_ aNa rfl (dJ (Yg 1)) (λ_ _ _ _ _=>dA 0 aNa.nd) (λ_ _ _ _ _=>eZ) (λ_ _ _ _ _=>ph c.units (Yh d9) (Yi 0)) (dV rfl)))) c6))))))) (fI a.x_NoPage_NoPage) i8)))
def Ov:cG ["self","book","hands"] ["self","book","hands"] (aBb (inClass (top 43) 0)):=aQ
def Wn:Hm:=qM 0 "truths" ["Watch"]
def Wo:Hm:=bx (kF 0 "hands" ["Watch"] (cC (Yb (aa 2) ae) cj)) Wn
def Wp:Hm:=bx (kF 0 "book" ["Watch"] (af 1)) Wo
def Wr:Hm:=bx (fK (j3 (cC (Yb (af 1) (Yb (af 2) ae)) kR))) Wp
def mR:Hf:=cN 3 Wr
def Ow:DA P w K mg base 4 3 "Watch" ["self","book","hands"] [] mR:=by
 show DI bl.i_Watch bl.c_Watch Ov (λhr=>?_)
 exists Vt bl
def Ws:cG ["self"] ["self"] (aBb (inClass (top 43) 1)):=aQ
def FU:AR:=ag (aH (b2 (cC (Yb (b1 (af 0) (b5 "Watch" "truths")) ae) aF) (cC (Yb (b1 (af 0) (b5 "Watch" "hands")) ae) aF) (aA false)) (ai (kD .non)) ao) (ai (b2 (b1 (af 0) (b5 "Watch" "hands")) (cC (Yb (b1 (af 0) (b5 "Watch" "truths")) ae) aF) aw))
def gQ:AN->Option D:=av 1 1 FU
def FV(bl:Bl K w mg){c:Str}(F:Mq K c "turn" "Watch.turn" (inClass (top 43) 1)):gh P w K mg base 1 c "turn" ["self"] (bE K 1 gQ):=by
 show kd F Ws λhr=>?_
 exists rfl
def Wt:cG ["self"] ["self"] (aBb (inClass (top 43) 4)):=aQ
def wW:AR:=ag (aH (b2 (b1 (af 0) (c_ "Watch" "turn" gQ)) (kD .non) (cK true)) (ai (kD .non)) ao) (ai (d8 (b1 (cC (Yb (b1 (af 0) (b5 "Watch" "book")) (Yb (b1 (af 0) (b5 "Watch" "truths")) ae)) wH) aI) (kD (.str "keeper")) (kD (.str "storm"))))
def mS:AN->Option D:=av 1 1 wW
def Wu(bl:Bl K w mg){c:Str}(F:Mq K c "winner" "Watch.winner" (inClass (top 43) 4)):gh P w K mg base 5 c "winner" ["self"] (bE K 1 mS):=by
 show kd F Wt λhr=>?_
 exists FV bl bl.r_Watch_turn,Fj bl
def Ox:cG ["self","lit"] ["self","lit"] (aBb (inClass (top 43) 5)):=aQ
def Wv:Hm:=gm (Dr (b1 (af 0) (c_ "Watch" "winner" mS)))
def Ww:Hm:=bx (qO 0 (af 1)) Wv
def Wx:Hm:=bx (fK (aH (cZ (b2 (aa 1) (kD (.bl true)) (fW true)) (b2 (aa 1) (kD (.bl false)) (fW true))) nS ao)) Ww
def Wy:Hm:=bx (Dl (mq (b2 (b1 (af 0) (c_ "Watch" "turn" gQ)) (kD .non) (cK false))) (fK nS) ky) Wx
def mT:Hf:=cN 2 Wy
def Wz(bl:Bl K w mg){c:Str}(F:Mq K c "settle" "Watch.settle" (inClass (top 43) 5)):gh P w K mg base 6 c "settle" ["self","lit"] (jh K 2 mT):=by
 show DH F Ox λhr=>?_
 exists FV bl bl.r_Watch_turn,Wu bl bl.r_Watch_winner
def aAb:Fs 4 69 ["kind","rules","hands","truths","watch","lit"]:=aQ
noncomputable def Oy:List (Str×Hf):=[("Watch",mT)]
def Oz(a:Bl K w mg):OkTb P w K mg base 6 "settle" (jh K 2) Oy:={{_,DF (Wz a a.r_Watch_settle)},trivial}
def wX:Hm:=(MR (qL "settle" Oy (af 4) (Yb (af 5) ae)))
def OA:Hm:=(gm (Dq (af 4)))
def OB:Hm:=(bx (kz (b1 (af 3) Yk) (aq 5) wX) OA)
def OC:Hm:=(bx (gj 4 (iw "Watch" true [] [] (Yb (cC (Yb (af 0) (Yb (af 1) ae)) jo) (Yb (af 2) ae)) mR)) OB)
def wY:Hf:=cN 6 OC
def WA:vN P w K mg base 7 4 "watch_made" ["kind","rules","hands","truths"] wY:=by
 show q_ bl.f69 aAb λhr=>?_
 exists aAb,Ow bl,E_ bl,Oz bl
def aXa:Fs 1 70 ["text","rows","kind","hands","some_settled","truths","rules","error"]:=aQ
def aLa:Cs ["text","rows","kind","hands","some_settled","truths","rules","error"] 70 ["words","kind"] [none,some 2] [("words",0),("rule_read",2),("kind",1)]:=bC
def iJ:AU:=(cC (Yb (af 1) (Yb (af 0) ae)) jr)
def OD:Hm:=(qK [6] (gm (kE (Yb (af 2) (Yb (af 6) (Yb (af 3) (Yb (af 5) ae)))) wY)))
def OE:Hm:=(bx (fK (aM 6 (bo (b1 (d8 (b1 (aa 4) aI) (lF (aO (aa 1) (some (Zi 2)) (some (b1 (Zi 1) aV)))) (lF (aO (aa 1) (some (Zi 2)) none))) Yk) [none,some 2] (aq 0) tY (iJ)))) OD)
def OF:Hm:=(bx (fK (ax 5 (d8 (b1 (aa 4) aI) (cC (Yb (b2 (aa 1) (b1 (Zi 1) aV) aw) ae) mQ) (lF (ah ae))))) OE)
def OG:Hm:=(bx (fK (ax 4 (mB (b2 (b2 (b2 (aa 1) (b1 (Zi 1) aV) aw) (Zi 0) aw) (kD (.str "settled")) (aA false))))) OF)
def OH:Hm:=(bx (fK (ax 3 (cC (Yb (b2 (aa 1) (Zi 1) aw) ae) mP))) OG)
def OI:Hm:=(bx (fK (ax 2 (cC (Yb (b2 (aa 1) (Zi 0) aw) ae) mO))) OH)
def OJ:Hm:=(bx (fK (ax 1 (cC (Yb (af 0) ae) rB))) OI)
def wZ:Hf:=cN 8 OJ
def WC:vN P w K mg base 8 1 "page_read" ["text"] wZ:=by
 show q_ bl.f70 aXa λhr=>?_;show(kB (kA (cm 1 aXa.nd (Ym (Ot bl) hr rfl (Yc (Yg 0) Yj) bq))) (kB (kA (cm 2 aXa.nd (Ym (Og bl) hr rfl (Yc (Yx (Yi 1) (Yh Yn)) Yj) bq))) (kB (kA (cm 3 aXa.nd (Ym (Oj bl) hr rfl (Yc (Yx (Yi 1) (Yh Yn)) Yj) bq))) (kB (kA (cm 4 aXa.nd (BO hr.units (Yh (Yx (Yh (Yx (Yi 1) (Yh (f_ (Yh Yn))))) (Yh Yn))) (Yh d9)))) (kB (kA (cm 5 aXa.nd (lY (f6 (Yi 4)) (Ym (On bl) hr rfl (Yc (Yx (Yi 1) (Yh (f_ (Yh Yn)))) Yj) bq) (bB (dX Yj))))) (kB (kA (i4 6 aXa.nd aLa rfl (dJ (lY (f6 (Yi 4)) (bB (eB (fl:=(some (Zi 2))) (fh:=(some (b1 (Zi 1) aV))) (Yi 1) (dH (Yh Yn)) (dH (Yh (f_ (Yh Yn)))))) (bB (eB (fl:=(some (Zi 2))) (fh:=none) (Yi 1) (dH (Yh Yn)) fH)))) (λ_ _ _ _ _=>(dA 0 aLa.nd)) (λ_ _ _ _ _=>eZ) (λ_ _ _ _ _=>(Ym (FL bl) hr rfl (Yc (Yg 1) (Yc (Yg 0) Yj)) cR)) (dV (i:=0) rfl))) (qG (DJ (λ_ _ h=>h) (qG (Dx [6] (Dw (MY (WA bl) hr rfl (Yc (Yg 2) (Yc (Yg 6) (Yc (Yg 3) (Yc (Yg 5) Yj)))) mE))))))))))))
def WD:Fs 2 72 ["script","k"]:=aQ
def FW:AR:=ag (aH (b2 (aa 1) (cC (Yb (aa 0) ae) aF) fF) (ai (b2 (aa 0) (aa 1) aw)) ao) (ai (Zi 0))
def gR:AN->Option D:=av 2 2 FW
def xb:aU P w K mg base 1 2 "_law_cell" ["script","k"] gR:=by
 exists bl.f72,WD
def WE:Fs 2 73 ["cell","by"]:=aQ
def OK:AR:=ai (b2 (b2 (b2 (aa 0) (Zi 2305843009213693951) aE) (aa 1) fT) (Zi 2305843009213693951) aE)
def kY:AN->Option D:=av 2 2 OK
def FX(a:Bl K w mg):aU P w K mg base 1 2 "_law_mixed" ["cell","by"] kY:=by
 exists a.f73,WE
def WG:Fs 3 74 ["kind","cell","many","left","size","odd","head","some","k","sayings","beacon"]:=aQ
def rD:AR:=(ag (aH (cZ (b2 (aa 2) (Zi 0) dE) (b2 (b2 (aa 3) (aa 2) aE) (aa 7) (dq true))) (bP 7 (b2 (aa 3) (aa 2) aE) bb) ao) (ax 3 (b2 (aa 3) (cC (Yb (aa 2) (Yb (Zi 1) ae)) fX) bJ)))
def xc:AR:=(ag (bP 9 (bf (Yb (af 10) (Yb (af 5) ae))) bb) (ax 5 (mB (b2 (b2 (aa 3) (Zi 2) aE) (Zi 1) (aA false)))))
@[simp] def WI:AR:=(ai (bf (Yb (cC (Yb (lF (cF (Yb (aa 7) ae) fV)) ae) cj) (Yb (af 6) ae))))
@[simp] def WJ:AR:=(ag (aH (b2 (aa 0) (kD (.str "sums")) (aA false)) (ai (bf (Yb (cC (Yb (lF (cF (Yb (aa 7) ae) fV)) ae) cj) (Yb (af 5) ae)))) ao) WI)
@[simp] def mU:AR:=(ag (aH (b2 (aa 0) (kD (.str "eithers")) (aA false)) (ag (aM 9 (ah ae)) (ag (eu (b1 (lF (aO (aa 7) none (some (Zi 2)))) Yk) (aq 10) xc) (ag (aH (cZ (b2 (cC (Yb (aa 9) ae) aF) (Zi 2) (aA false)) (b2 (b2 (b2 (aa 3) (Zi 2) bJ) (Zi 6) aE) (Zi 1) (aA false))) (uD 9 (Zi 1) (bf (Yb (b2 (b2 (aa 9) (Zi 0) aw) (Zi 0) aw) (Yb (hJ (b2 (b2 (aa 9) (Zi 0) aw) (Zi 1) aw)) ae))) hU) ao) (ai (cC (Yb (lF (cF (Yb (aa 9) ae) fV)) ae) cj))))) ao) WJ)
@[simp] def xf:AR:=(ag (eu (cF (Yb (af 4) ae) ej) (aq 8) rD) mU)
@[simp] def WL:AR:=(ag (aM 7 (ah ae)) xf)
@[simp] def mV:AR:=(ag (ax 3 (b2 (b2 (aa 3) (Zi 6) bJ) (cC (Yb (aa 2) (Yb (Zi 1) ae)) fX) bJ)) WL)
@[simp] def WM:AR:=(ag (aH (cZ (b2 (b2 (aa 3) (Zi 6) aE) (Zi 0) dE) (b2 (aa 2) (Zi 0) dE)) (ax 6 (b2 (b2 (aa 3) (Zi 6) bJ) (aa 2) aE)) ao) mV)
@[simp] def WN:AR:=(ag (ax 6 (kD .non)) WM)
@[simp] def WO:AR:=(ag (ax 3 (b2 (aa 3) (Zi 8) bJ)) WN)
@[simp] def WQ:AR:=(ag (ax 5 (mB (b2 (b2 (b2 (aa 3) (Zi 4) bJ) (Zi 2) aE) (Zi 1) (aA false)))) WO)
@[simp] def WU:AR:=(ag (ax 4 (b2 (aa 3) (Zi 4) aE)) WQ)
def FY:AR:=(ag (ax 3 (cC (Yb (af 1) (Yb (Zi 1181783497276652981) ae)) kY)) WU)
def xg:AN->Option D:=av 3 11 FY
def WV:aU P w K mg base 2 3 "_law_rule" ["kind","cell","many"] xg:=by
 exists bl.f74,WG,FX bl
def WW:Fs 1 75 ["saying"]:=aQ
def OL:AR:=(ai (b2 (b2 (lF (ah (Yb (kD (.str "-")) (Yb (kD (.str "+")) ae)))) (cC (Yb (b2 (aa 0) (Zi 1) aw) ae) eh) aw) (cC (Yb (b2 (aa 0) (Zi 0) aw) ae) da) cq))
def xh:AN->Option D:=av 1 1 OL
def WX:aU P w K mg base 1 1 "_law_saying_word" ["saying"] xh:=by
 exists bl.f75,WW
def OM:Fs 2 76 ["kind","rule","numbers","words"]:=aQ
def WY:Cs ["kind","rule","numbers","words"] 76 ["saying"] [none] [("saying",0),("_law_saying_word",2)]:=bC
def WZ:Cs ["kind","rule","numbers","words"] 76 ["beacon"] [none] [("beacon",0),("str",2)]:=bC
def FZ:AU:=(cC (Yb (af 0) ae) xh)
def rE:AU:=(cC (Yb (aa 0) ae) da)
@[simp] def ON:AR:=(wF [3] (ai (af 3)))
@[simp] def OO:AR:=(ag (aH (b2 (b2 (aa 1) (Zi 1) aw) (kD .non) (cK true)) (bP 3 (cC (Yb (b2 (aa 1) (Zi 1) aw) ae) da) bb) ao) ON)
@[simp] def OP:AR:=(ag (aM 3 (b2 (lF (b2 (lF (ah (Yb (kD (.str "rule")) ae))) (aa 2) aC)) (lF (ah (Yb (kD (.str ">")) ae))) aC)) OO)
@[simp] def OQ:AR:=(ag (aH (b2 (aa 0) (kD (.str "sums")) (aA false)) (ai (lF (b2 (lF (ah (Yb (kD (.str "rule")) (Yb (b2 (lF (ah (Yb (kD (.str "even")) (Yb (kD (.str "odd")) ae)))) (cC (Yb (b2 (aa 1) (Zi 1) aw) ae) eh) aw) ae)))) (aa 2) aC))) ao) OP)
@[simp] def OR:AR:=(ag (aM 2 (bo (b1 (b2 (aa 1) (Zi 0) aw) Yk) [none] (aq 0) tY (rE))) OQ)
def mW:AR:=(ag (aH (b2 (aa 0) (kD (.str "eithers")) (aA false)) (ai (lF (b2 (lF (ah (Yb (kD (.str "rule")) ae))) (lF (bo (b1 (af 1) Yk) [none] (aq 0) tY (FZ))) aC))) ao) OR)
def xi:AN->Option D:=av 2 4 mW
def W0:aU P w K mg base 2 2 "_law_rule_words" ["kind","rule"] xi:=by
 show cU bl.f76 OM λhr=>?_;unfold mW OR OQ OP OO ON
 exists WY,WX bl,OM,WZ
def aWa:Fs 4 77 ["kind","rules","hands","lights","rows","rule"]:=aQ
def aIa:Cs ["kind","rules","hands","lights","rows","rule"] 77 ["hand"] [none] [("hand",0)]:=bC
def aJa:Cs ["kind","rules","hands","lights","rows","rule"] 77 ["lit"] [none] [("lit",0),("int",2)]:=bC
def F0:AU:=(b2 (aa 0) (Zi 0) ix)
def F1:AR:=(bP 4 (cC (Yb (af 0) (Yb (af 5) ae)) xi) bb)
def OS:AU:=(b2 (lF (ah (Yb (kD (.str "0")) (Yb (kD (.str "1")) ae)))) (cC (Yb (aa 0) ae) eh) aw)
@[simp] def W1:AR:=(wF [4] (ai (af 4)))
@[simp] def F2:AR:=(ag (aH (b2 (aa 3) (lF (ah ae)) (aA true)) (bP 4 (lF (ah (Yb (kD (.str "settled")) (Yb (cC (Yb (lF (bo (b1 (af 3) Yk) [none] (aq 0) tY (OS))) ae) (dN (Str.ofString ""))) ae)))) bb) ao) W1)
@[simp] def rF:AR:=(ag (eu (b1 (af 1) Yk) (aq 5) F1) F2)
def OT:AR:=(iy 4 (lF (ah (Yb (kD (.str "kind")) (Yb (af 0) ae)))) (kD (.str "hands")) (b2 (aa 2) (lF (ah ae)) (aA true)) (cC (Yb (lF (bo (b1 (af 2) Yk) [none] (aq 0) tY (F0))) ae) (dN (Str.ofString ""))) rF)
def xj:AN->Option D:=av 4 6 OT
def W3(a:Bl K w mg):aU P w K mg base 3 4 "_law_rows" ["kind","rules","hands","lights"] xj:=by
 show cU a.f77 aWa λb=>?_;show(Ec 4 aWa.nd (bB (dX (Yc d9 (Yc (Yg 0) Yj)))) d9 (uM b.units (Yi 2) (Yh (bB (dX Yj)))) (D7 (y6 (Yh (bB (l_ aIa rfl (dJ (Yg 2)) (λ_ _ _ _ _=>dA 0 aIa.nd) (λ_ _ _ _ _=>eZ) (λ_ _ _ _ _=>vP (Yi 0) (Yh Yn) (λ_ _=>rfl)) (dV (i:=0) rfl)))) c6)) (y0 (L0 jc rfl (dJ (Yg 1)) (dA 5 aWa.nd) (dt (BY 4 (Ym (W0 a) b rfl (Yc (Yg 0) (Yc (Yg 5) Yj)) cR)))) (y0 (f9 (uM b.units (Yi 3) (Yh (bB (dX Yj)))) (dt (BY 4 (bB (dX (Yc d9 (Yc (D7 (y6 (Yh (bB (l_ aJa rfl (dJ (Yg 3)) (λ_ _ _ _ _=>dA 0 aJa.nd) (λ_ _ _ _ _=>eZ) (λ_ _ _ _ _=>Yx (Yh (bB (dX (Yc d9 (Yc d9 Yj))))) (Yh (lZ Kr Ln rfl a.Int boot_int (y6 (Yi 0) c6)))) (dV (i:=0) rfl)))) c6)) Yj)))))) f7) (dt (uO [4] (eK (Yg 4)))))))
def W4:Fs 1 78 ["rows"]:=aQ
def W5:Cs ["rows"] 78 ["row"] [none] [("row",0)]:=bC
def F3:AU:=(cC (Yb (aa 0) ae) (dN (Str.ofString " ")))
def OU:AR:=(ai (cC (Yb (lF (bo (b1 (af 0) Yk) [none] (aq 0) tY (F3))) ae) (dN (Str.ofString "\n"))))
def mX:AN->Option D:=av 1 1 OU
def F4(a:Bl K w mg):aU P w K mg base 1 1 "_law_page" ["rows"] mX:=by
 exists a.f78,W4,W5
def OV:Fs 3 79 ["script","kind","many","rules","hands","lights","k"]:=aQ
def W6:Cs ["script","kind","many","rules","hands","lights","k"] 79 ["cell","kind","many"] [none,some 1,some 2] [("cell",0),("_law_rule",2),("kind",1),("many",1)]:=bC
def F5:AU:=(cC (Yb (af 1) (Yb (af 0) (Yb (af 2) ae))) xg)
def F6:AR:=(ag (bP 4 (b2 (lF (ah (Yb (kD (.str "keeper")) (Yb (kD (.str "storm")) ae)))) (b2 (cC (Yb (cC (Yb (af 0) (Yb (b2 (Zi 3) (aa 6) aX) ae)) gR) (Yb (Zi 1442695040888963407) ae)) kY) (Zi 2) aE) aw) bb) (bP 5 (mB (b2 (b2 (cC (Yb (cC (Yb (af 0) (Yb (b2 (Zi 3) (aa 6) aX) ae)) gR) (Yb (Zi 2049848353892358983) ae)) kY) (Zi 2) aE) (Zi 1) (aA false))) bb))
@[simp] def F7:AR:=(wF [3,4] (ai (cC (Yb (af 1) (Yb (af 3) (Yb (af 4) (Yb (lF (aO (aa 5) none (some (b2 (Zi 1) (b2 (cC (Yb (af 0) (Yb (Zi 2) ae)) gR) (aa 2) aE) aX)))) ae)))) xj)))
@[simp] def F8:AR:=(ag (eu (cF (Yb (af 2) ae) ej) (aq 6) F6) F7)
@[simp] def F9:AR:=(ag (aM 5 (ah ae)) F8)
@[simp] def xk:AR:=(ag (aM 4 (ah ae)) F9)
@[simp] def xl:AR:=(ag (aH (b2 (aa 1) (kD (.str "eithers")) (aA false)) (bP 3 (bf (Yb (bf (Yb (Zi 0) (Yb (kD (.bl true)) ae))) (Yb (bf (Yb (Zi 1) (Yb (kD (.bl false)) ae))) ae))) bb) (aH (b2 (aa 1) (kD (.str "sums")) (aA false)) (bP 3 (bf (Yb (bf (Yb (Zi 0) (Yb (Zi 1) ae))) (Yb (kD (.bl true)) ae))) bb) (bP 3 (bf (Yb (bf (Yb (Zi 0) ae)) (Yb (Zi 1) ae))) bb))) xk)
def F_:AR:=(ag (aM 3 (bo (b1 (lF (aO (aa 0) (some (Zi 4)) (some (b2 (Zi 4) (b2 (cC (Yb (af 0) (Yb (Zi 1) ae)) gR) (Zi 9) aE) aX)))) Yk) [none,some 1,some 2] (aq 0) tY (F5))) xl)
def xm:AN->Option D:=av 3 7 F_
def W8:aU P w K mg base 4 3 "_law_good" ["script","kind","many"] xm:=by
 show cU bl.f79 OV λhr=>?_;unfold F_ xl xk F9 F8 F7
 exists OV,W6,xb bl,WV bl,FX bl,W3 bl
def W9:Fs 3 80 ["rows","way","at","here"]:=aQ
@[simp] def W_:AR:=(ai (lF (b2 (lF (aO (aa 0) none (some (b1 (Zi 2) aV)))) (lF (ah (Yb (b2 (aa 0) (b1 (Zi 1) aV) aw) (Yb (b2 (aa 0) (b1 (Zi 2) aV) aw) ae)))) aC)))
@[simp] def OW:AR:=(ag (aH (b2 (aa 1) (Zi 4) (aA false)) (ai (lF (b2 (aa 0) (lF (ah (Yb (b2 (aa 0) (b1 (Zi 1) aV) aw) ae))) aC))) ao) W_)
@[simp] def Xa:AR:=(ag (aH (b2 (aa 1) (Zi 3) (aA false)) (ag (ax 3 (b2 (Zi 1) (b2 (aa 2) (b2 (cC (Yb (aa 0) ae) aF) (Zi 1) eS) aE) aX)) (ai (lF (b2 (lF (b2 (lF (aO (aa 0) none (some (aa 3)))) (lF (ah (Yb (lF (ah (Yb (kD (.str "")) ae))) ae))) aC)) (lF (aO (aa 0) (some (aa 3)) none)) aC)))) ao) OW)
@[simp] def Gc:AR:=(ag (aH (b2 (aa 1) (Zi 2) (aA false)) (ai (lF (b2 (aa 0) (lF (ah (Yb (lF (ah (Yb (kD (.str "")) ae))) ae))) aC))) ao) Xa)
@[simp] def OX:AR:=(ag (aH (b2 (aa 1) (Zi 1) (aA false)) (ai (lF (b2 (lF (aO (aa 0) none (some (Zi 1)))) (lF (aO (aa 0) (some (Zi 2)) none)) aC))) ao) Gc)
def kZ:AR:=(ag (aH (b2 (aa 1) (Zi 0) (aA false)) (ai (lF (aO (aa 0) (some (Zi 1)) none))) ao) OX)
def gS:AN->Option D:=av 3 4 kZ
def Xb:aU P w K mg base 1 3 "_law_places" ["rows","way","at"] gS:=by
 exists bl.f80,W9
def Xc:Fs 4 81 ["rows","way","at","many","bits","here","letters","place","spoilt","other","some"]:=aQ
@[simp] def Xd:AR:=(ai (lF (b2 (lF (ah (Yb (b2 (aa 10) (b2 (aa 2) (Zi 6) aE) aw) ae))) (lF (aO (aa 0) (some (Zi 1)) none)) aC)))
@[simp] def Xe:AR:=(ag (aM 10 (ah (Yb (lF (ah (Yb (kD (.str "kind")) ae))) (Yb (lF (ah (Yb (kD (.str "kind")) (Yb (kD (.str "either")) ae)))) (Yb (lF (ah (Yb (kD (.str "kind")) (Yb (kD (.str "Ifs")) ae)))) (Yb (lF (ah (Yb (kD (.str "kinds")) (Yb (kD (.str "ifs")) ae)))) (Yb (lF (ah (Yb (kD (.str "kind")) (Yb (kD (.str "nots")) (Yb (kD (.str "nots")) ae))))) (Yb (lF (ah (Yb (kD (.str "kind")) (Yb (kD (.str "")) ae)))) ae)))))))) Xd)
@[simp] def xo:AR:=(ag (aH (b2 (aa 1) (Zi 10) (aA false)) (ag (aM 9 (ah (Yb (lF (ah (Yb (kD (.str "hands")) ae))) (Yb (lF (ah (Yb (kD (.str "hands")) (Yb (af 6) (Yb (af 6) ae))))) (Yb (lF (ah (Yb (kD (.str "hands")) (Yb (kD (.str "")) ae)))) (Yb (lF (ah (Yb (kD (.str "hands")) (Yb (b2 (kD (.str "k")) (Zi 61) cu) ae)))) ae)))))) (ai (lF (b2 (lF (b2 (lF (aO (aa 0) none (some (Zi 1)))) (lF (ah (Yb (b2 (aa 9) (b2 (aa 2) (Zi 4) aE) aw) ae))) aC)) (lF (aO (aa 0) (some (Zi 2)) none)) aC)))) ao) Xe)
@[simp] def Ge:AR:=(ag (aH (b2 (aa 1) (Zi 9) (aA false)) (ag (ax 8 (b2 (b2 (kO (aa 6) none (some (aa 7))) (b2 (lF (ah (Yb (kD (.str "K")) (Yb (kD (.str "x")) (Yb (kD (.str "0")) (Yb (kD (.str "S")) ae)))))) (b2 (aa 2) (Zi 4) aE) aw) cq) (kO (aa 6) (some (b2 (aa 7) (Zi 1) aX)) none) cq)) (ai (lF (b2 (lF (b2 (lF (aO (aa 0) none (some (Zi 1)))) (lF (ah (Yb (lF (ah (Yb (kD (.str "hands")) (Yb (af 8) ae)))) ae))) aC)) (lF (aO (aa 0) (some (Zi 2)) none)) aC)))) ao) xo)
@[simp] def Gg:AR:=(ag (aH (b2 (aa 1) (Zi 8) (aA false)) (ai (lF (b2 (lF (aO (aa 0) none (some (b1 (Zi 1) aV)))) (lF (ah (Yb (b2 (lF (ah (Yb (lF (ah (Yb (kD (.str "settled")) ae))) (Yb (lF (ah (Yb (kD (.str "settled")) (Yb (kD (.str "")) ae)))) (Yb (lF (ah (Yb (kD (.str "settled")) (Yb (kD (.str "1")) (Yb (kD (.str "0")) ae))))) (Yb (lF (ah (Yb (kD (.str "Settled")) (Yb (af 4) ae)))) ae)))))) (b2 (aa 2) (Zi 4) aE) aw) ae))) aC))) ao) Ge)
@[simp] def Xf:AR:=(ag (aH (b2 (aa 1) (Zi 7) (aA false)) (ai (lF (b2 (lF (aO (aa 0) none (some (b1 (Zi 1) aV)))) (lF (ah (Yb (lF (ah (Yb (kD (.str "settled")) (Yb (b2 (b2 (kO (aa 4) none (some (aa 5))) (b2 (lF (ah (Yb (kD (.str "2")) (Yb (kD (.str "x")) (Yb (kD (.str "-")) (Yb (kD (.str "\t")) ae)))))) (b2 (aa 2) (Zi 4) aE) aw) cq) (kO (aa 4) (some (b2 (aa 5) (Zi 1) aX)) none) cq) ae)))) ae))) aC))) ao) Gg)
@[simp] def Yy:AR:=(ag (aH (b2 (aa 1) (Zi 6) (aA false)) (ai (lF (b2 (lF (aO (aa 0) none (some (b1 (Zi 1) aV)))) (lF (ah (Yb (lF (ah (Yb (kD (.str "settled")) (Yb (b2 (kD (.str "1")) (b2 (aa 3) (Zi 1) aX) cu) ae)))) ae))) aC))) ao) Xf)
@[simp] def Xg:AR:=(ag (ax 7 (b2 (b2 (aa 2) (Zi 16) bJ) (aa 3) aE)) Yy)
@[simp] def Xh:AR:=(ag (ax 6 (b2 (b2 (aa 0) (Zi 1) aw) (Zi 1) aw)) Xg)
@[simp] def Xi:AR:=(ag (ax 5 (b2 (b2 (aa 2) (Zi 16) bJ) (cC (Yb (aa 4) ae) eG) aE)) Xh)
def OY:AR:=(ag (ax 4 (b2 (b2 (aa 0) (b1 (Zi 1) aV) aw) (Zi 1) aw)) Xi)
def rG:AN->Option D:=av 4 11 OY
def Xj:aU P w K mg base 1 4 "_law_ends" ["rows","way","at","many"] rG:=by
 exists bl.f81,Xc
def Xl:Fs 2 82 ["kind","at"]:=aQ
@[simp] def Xm:AR:=(ai (b2 (lF (ah (Yb (lF (ah (Yb (kD (.str "rule")) (Yb (kD (.str "0")) (Yb (kD (.str "1")) ae))))) (Yb (lF (ah (Yb (kD (.str "rule")) (Yb (kD (.str ">")) (Yb (kD (.str ">")) ae))))) (Yb (lF (ah (Yb (kD (.str "rule")) (Yb (kD (.str ">")) (Yb (kD (.str "1")) (Yb (kD (.str "0")) ae)))))) (Yb (lF (ah (Yb (kD (.str "rule")) (Yb (kD (.str "1")) (Yb (kD (.str "0")) (Yb (kD (.str "1")) (Yb (kD (.str ">")) ae))))))) ae)))))) (b2 (aa 1) (Zi 4) aE) aw))
@[simp] def Xn:AR:=(ag (aH (b2 (aa 0) (kD (.str "sums")) (aA false)) (ai (b2 (lF (ah (Yb (lF (ah (Yb (kD (.str "rule")) ae))) (Yb (lF (ah (Yb (kD (.str "rule")) (Yb (kD (.str "Odd")) (Yb (kD (.str "1")) ae))))) (Yb (lF (ah (Yb (kD (.str "rule")) (Yb (kD (.str "0")) (Yb (kD (.str "1")) ae))))) (Yb (lF (ah (Yb (kD (.str "rule")) (Yb (kD (.str "odd")) (Yb (kD (.str "1")) (Yb (kD (.str "0")) (Yb (kD (.str "1")) ae))))))) ae)))))) (b2 (aa 1) (Zi 4) aE) aw)) ao) Xm)
def OZ:AR:=(ag (aH (b2 (aa 0) (kD (.str "eithers")) (aA false)) (ai (b2 (lF (ah (Yb (lF (ah (Yb (kD (.str "rule")) (Yb (kD (.str "+1")) (Yb (kD (.str "+1")) ae))))) (Yb (lF (ah (Yb (kD (.str "rule")) (Yb (kD (.str "+0")) (Yb (kD (.str "-0")) (Yb (kD (.str "+1")) ae)))))) (Yb (lF (ah (Yb (kD (.str "rule")) (Yb (kD (.str "1")) ae)))) (Yb (lF (ah (Yb (kD (.str "rule")) (Yb (kD (.str "+")) (Yb (kD (.str "-1")) ae))))) ae)))))) (b2 (aa 1) (Zi 4) aE) aw)) ao) Xn)
def xp:AN->Option D:=av 2 2 OZ
def Xq(a:Bl K w mg):aU P w K mg base 1 2 "_law_odd_rule" ["kind","at"] xp:=by
 exists a.f82,Xl
def Xr:Fs 5 83 ["row","kind","way","at","many","some","here"]:=aQ
@[simp] def Gh:AR:=(ai (cC (Yb (af 1) (Yb (af 3) ae)) xp))
@[simp] def Xs:AR:=(ag (aH (b2 (aa 2) (Zi 3) (aA false)) (ag (ax 6 (b2 (Zi 1) (b2 (aa 3) (cC (Yb (aa 0) ae) aF) aE) aX)) (ai (lF (b2 (lF (b2 (lF (aO (aa 0) none (some (aa 6)))) (lF (ah (Yb (kD (.str "")) ae))) aC)) (lF (aO (aa 0) (some (aa 6)) none)) aC)))) ao) Gh)
@[simp] def O0:AR:=(ag (aH (b2 (aa 2) (Zi 2) (aA false)) (ai (lF (b2 (lF (b2 (lF (aO (aa 0) none (some (Zi 1)))) (lF (ah (Yb (b2 (b2 (kD (.str "+")) (cC (Yb (mB (b2 (aa 1) (kD (.str "eithers")) (aA false))) ae) eh) cu) (cC (Yb (aa 4) ae) da) cq) ae))) aC)) (lF (aO (aa 0) (some (Zi 1)) none)) aC))) ao) Xs)
@[simp] def k6:AR:=(ag (aH (cZ (b2 (aa 2) (Zi 1) (aA false)) (b2 (cC (Yb (aa 0) ae) aF) (Zi 1) dE)) (ag (ax 6 (b2 (Zi 1) (b2 (b2 (aa 3) (Zi 16) bJ) (b2 (cC (Yb (aa 0) ae) aF) (Zi 1) eS) aE) aX)) (ai (lF (b2 (lF (b2 (lF (aO (aa 0) none (some (aa 6)))) (lF (ah (Yb (b2 (aa 5) (b2 (aa 3) (Zi 12) aE) aw) ae))) aC)) (lF (aO (aa 0) (some (b2 (aa 6) (Zi 1) aX)) none)) aC)))) ao) O0)
@[simp] def Gi:AR:=(ag (aH (b2 (aa 2) (Zi 0) (aA false)) (ai (lF (b2 (lF (ah (Yb (b2 (lF (ah (Yb (kD (.str "rules")) (Yb (kD (.str "Rule")) (Yb (kD (.str "")) (Yb (kD (.str "settled")) (Yb (kD (.str "hands")) ae))))))) (b2 (aa 3) (Zi 5) aE) aw) ae))) (lF (aO (aa 0) (some (Zi 1)) none)) aC))) ao) k6)
def O1:AR:=(ag (aM 5 (ah (Yb (kD (.str "")) (Yb (kD (.str "x")) (Yb (kD (.str "00")) (Yb (kD (.str "07")) (Yb (kD (.str "1_0")) (Yb (kD (.str "1000")) (Yb (kD (.str "+-1")) (Yb (kD (.str "1.0")) (Yb (kD (.str "60x")) (Yb (kD (.str "--1")) (Yb (kD (.str "1\t")) (Yb (b2 (kD (.str "9")) (Zi 30) cu) ae)))))))))))))) Gi)
def gv:AN->Option D:=av 5 7 O1
def Xu:aU P w K mg base 2 5 "_law_words" ["row","kind","way","at","many"] gv:=by
 exists bl.f83,Xr,Xq bl
def aUa:Fs 4 84 ["rows","kind","pick","many","way","at","here"]:=aQ
@[simp] def Xv:AR:=(ai (lF (b2 (lF (b2 (lF (aO (aa 0) none (some (aa 6)))) (lF (ah (Yb (cC (Yb (b2 (aa 0) (aa 6) aw) (Yb (af 1) (Yb (b2 (aa 4) (Zi 13) eS) (Yb (af 5) (Yb (af 3) ae))))) gv) ae))) aC)) (lF (aO (aa 0) (some (b2 (aa 6) (Zi 1) aX)) none)) aC)))
@[simp] def Xw:AR:=(ag (ax 6 (b2 (Zi 2) (b2 (b2 (aa 5) (Zi 65536) bJ) (b2 (cC (Yb (aa 0) ae) aF) (Zi 3) eS) aE) aX)) Xv)
@[simp] def xq:AR:=(ag (aH (b2 (aa 4) (Zi 12) (aA false)) (ai (lF (b2 (lF (b2 (lF (aO (aa 0) none (some (Zi 2)))) (lF (b1 (lF (ah (Yb (b2 (aa 0) (b1 (Zi 2) aV) aw) ae))) (iF 61))) aC)) (lF (aO (aa 0) (some (b1 (Zi 1) aV)) none)) aC))) ao) Xw)
@[simp] def Xx:AR:=(ag (aH (b2 (aa 4) (Zi 12) fF) (ai (cC (Yb (af 0) (Yb (af 4) (Yb (af 5) (Yb (af 3) ae)))) rG)) ao) xq)
@[simp] def xt:AR:=(ag (aH (b2 (aa 4) (Zi 6) fF) (ai (cC (Yb (af 0) (Yb (af 4) (Yb (af 5) ae))) gS)) ao) Xx)
@[simp] def Xy:AR:=(ag (ax 5 (b2 (aa 2) (Zi 19) bJ)) xt)
def O2:AR:=(ag (ax 4 (b2 (aa 2) (Zi 19) aE)) Xy)
def rH:AN->Option D:=av 4 7 O2
def Xz(a:Bl K w mg):aU P w K mg base 3 4 "_law_faulty" ["rows","kind","pick","many"] rH:=by
 show cU a.f84 aUa λb=>?_;show(y0 (cm 4 aUa.nd (pe (Yi 2) (Yh Yn))) (y0 (cm 5 aUa.nd (uL (Yi 2) (Yh Yn))) (y0 (f9 (lV (Yi 4) (Yh Yn)) (dt (eK (Ym (Xb a) b rfl (Yc (Yg 0) (Yc (Yg 4) (Yc (Yg 5) Yj))) vS))) f7) (y0 (f9 (lV (Yi 4) (Yh Yn)) (dt (eK (Ym (Xj a) b rfl (Yc (Yg 0) (Yc (Yg 4) (Yc (Yg 5) (Yc (Yg 3) Yj)))) mE))) f7) (y0 (f9 (BQ b.units (Yi 4) (Yh Yn)) (dt (eK (bB (pz (Yh (bB (pz (Yh (bB (eB (fl:=none) (fh:=(some (Zi 2))) (Yi 0) fH (dH (Yh Yn))))) (Yh (bB (EM (n:=61) (Yh (bB (dX (Yc (Yx (Yi 0) (Yh (f_ (Yh Yn)))) Yj)))))))))) (Yh (bB (eB (fl:=(some (b1 (Zi 1) aV))) (fh:=none) (Yi 0) (dH (Yh (f_ (Yh Yn)))) fH))))))) f7) (y0 (cm 6 aUa.nd (ma (Yh Yn) (Yh (pe (Yh (uL (Yi 5) (Yh Yn))) (Yh (BL (Yh (dI iU iX rfl a.Len PySem.boot_len (y6 (Yi 0) c6))) (Yh Yn))))))) (dt (eK (bB (pz (Yh (bB (pz (Yh (bB (eB (fl:=none) (fh:=(some (aa 6))) (Yi 0) fH (dH (Yi 6))))) (Yh (bB (dX (Yc (Ym (Xu a) b rfl (Yc (Yx (Yi 0) (Yi 6)) (Yc (Yg 1) (Yc (BL (Yi 4) (Yh Yn)) (Yc (Yg 5) (Yc (Yg 3) Yj))))) Uy) Yj))))))) (Yh (bB (eB (fl:=(some (b2 (aa 6) (Zi 1) aX))) (fh:=none) (Yi 0) (dH (Yh (ma (Yi 6) (Yh Yn)))) fH)))))))))))))
theorem Gj{x c:Str}{i k n m:Nat}{N ps:AJ}{r:AT}(F:Fq K mg x i)(S:cG N ps (aBb (top i)))(hb:∀{f:Addr}{b:Value}{A:Around}{outer:List Env}{s:Shared}{H:Hp}{E:XK},Room k (A.deeper (envOfC x (aBb (top i)) (~~~s) f b))->ZX (ay (cz P w) P w K mg base N x (aBb (top i)) f b A outer s H E) E c (aDb (top i)) r)(g:N.length=n:=by rfl)(l:ps.length=m:=by rfl)(B:vR x i ps:=by(intro _ _ _ _ _ _ us j;let{_,rfl}:=dY j;rfl)):vI P w K mg base (k+1) m x ps (aP m n r) c:=by
 let{a,e,f,h}:=F;show{a,e,Uo f S g l λ_ _ _ _ _ _ d=>hb d,f.binds B,f.kp,h}
def O3:AT:=Yv (Yb (af 1) (Yb (af 2) ae)) kT
def Gk:AN->Option Bool:=aP 3 3 O3
def XA(a:Bl K w mg):ko P w K mg base 4 3 ["self","book","hands"] Gk "NoHands":=De a.i_Watch a.c_Watch Ov λb=>C2 (Vu a) b rfl (Yc (Yg 1) (Yc (Yg 2) Yj)) cR
def XB:AT:=cM (Yv (Yb (af 0) (Yb (af 1) ae)) kQ) (λ_=>none) bT
def mY:AN->Option Bool:=aP 4 6 XB
def XD:AT:=cM (kr (Yb (cC (Yb (af 0) (Yb (af 1) ae)) jo) (Yb (af 2) ae)) Gk) (λ_=>none) bT
def m6:AN->Option Bool:=aP 4 6 XD
def O4{X:Cx}{st:Stmt}:ZS X st (λ_=>none):={PS.imp Kh λ_ _ _ ⟨_,_,_,_,_,e,_⟩=>by cases e}
def XF(a:Bl K w mg):cP P w K mg base 7 4 "watch_made" ["kind","rules","hands","truths"] mY "NoBook":=bA a.f69 aAb λb=>d0 O4 (jg 4 aAb.nd (DM a.i_Watch a.c_Watch (MK (eC gJ (UX a) b rfl (Yc (Yg 0) (Yc (Yg 1) Yj)) cR)) rfl)) i8
def XG(a:Bl K w mg):cP P w K mg base 7 4 "watch_made" ["kind","rules","hands","truths"] m6 "NoHands":=bA a.f69 aAb λb=>d0 O4 (jg 4 aAb.nd (DN gJ (XA a) b rfl (Yc (Ym (E_ a) b rfl (Yc (Yg 0) (Yc (Yg 1) Yj)) cR) (Yc (Yg 2) Yj)) cR)) i8
def Gm:Ro->Hs->Option Bool:=mq (b2 (b1 (af 0) (c_ "Watch" "turn" gQ)) (kD .non) (cK false))
def XH:kI P w K mg base 6 2 "Watch" "settle" ["self","lit"] (λds t=>Gm (Ye 2 ds) t=some true) "Over":=
 DV (k:=5) bl.r_Watch_settle bl.x_Over_Over Ox rfl λhr=>MU (BW (Yh (Mp (FV bl bl.r_Watch_turn) hr (Yg 0))) (Yh gH))
def O5:Ro->Hs->Prop:=kH (gj 4 (iw "Watch" true [] [] (Yb (cC (Yb (af 0) (Yb (af 1) ae)) jo) (Yb (af 2) ae)) mR)) (qQ (b1 (af 3) Yk) (aq 5) wX (kK "Watch" "settle" (af 4) (Yb (af 5) ae) (λds t=>Gm (Ye 2 ds) t=some true)))
def rJ:AN->Option Bool:=kJ 6 O5
def XI(b:Bl K w mg):cP P w K mg base 7 4 "watch_made" ["kind","rules","hands","truths"] rJ "Over":=by
 let{a,i,f,h}:=b.f69;show{a,i,DU f aAb rfl rfl λg A d s H E c=>?_,f.binds (by intro _ _ _ _ _ _ j e;let{_,_,_,_,rfl}:=gc e;rfl),f.kp,h};show DQ (MV 4 aAb.nd (M0 _ [] (Ow b) c rfl (Yc (Ym (E_ b) c rfl (Yc (Yg 0) (Yc (Yg 1) Yj)) cR) (Yc (Yg 2) Yj)) Nw)) (DS .leaving rfl (dJ (Yg 3)) (dA 5 aAb.nd) (qG (MX (MZ (Oz b) c (Yg 4) (Yc (Yg 5) Yj) bq))) (DT gJ (XH b) c (Yg 4) (Yc (Yg 5) Yj) bq))
def xu:AT:=(Yv (Yb (af 1) (Yb (af 0) ae)) y9)
def rK:AV:=Yb (af 2) (Yb (af 6) (Yb (af 3) (Yb (af 5) ae)))
def Gn:AT:=λρ=>kx (Yv rK mY) (kx (Yv rK m6) (Yv rK rJ)) (frz [6] ρ)
def m7:AT:=cM (fq (b1 (d8 (b1 (aa 4) aI) (lF (aO (aa 1) (some (Zi 2)) (some (b1 (Zi 1) aV)))) (lF (aO (aa 1) (some (Zi 2)) none))) Yk) [none,some 2] (aq 0) iJ xu) (aM 6 (bo (b1 (d8 (b1 (aa 4) aI) (lF (aO (aa 1) (some (Zi 2)) (some (b1 (Zi 1) aV)))) (lF (aO (aa 1) (some (Zi 2)) none))) Yk) [none,some 2] (aq 0) tY (iJ))) Gn
def m8:AT:=cM (bR (b1 (aa 4) aI) (Yv (Yb (b2 (aa 1) (b1 (Zi 1) aV) aw) ae) gP) bT) (ax 5 (d8 (b1 (aa 4) aI) (cC (Yb (b2 (aa 1) (b1 (Zi 1) aV) aw) ae) mQ) (lF (ah ae)))) m7
def iK:AT:=cM bT (ax 4 (mB (b2 (b2 (b2 (aa 1) (b1 (Zi 1) aV) aw) (Zi 0) aw) (kD (.str "settled")) (aA false)))) m8
def rL:AT:=cM (Yv (Yb (b2 (aa 1) (Zi 1) aw) ae) gu) (ax 3 (cC (Yb (b2 (aa 1) (Zi 1) aw) ae) mP)) iK
def iL:AT:=cM (Yv (Yb (b2 (aa 1) (Zi 0) aw) ae) iI) (ax 2 (cC (Yb (b2 (aa 1) (Zi 0) aw) ae) mO)) rL
def XJ:AT:=cM (Yv (Yb (af 0) ae) wV) (ax 1 (cC (Yb (af 0) ae) rB)) iL
def Yz:AN->Option Bool:=aP 1 8 XJ
def O6:vI P w K mg base 8 1 "page_read" ["text"] Yz "NoPage":=by
 show Gj bl.f70 aXa λhr=>?_
 show(d0 (cm 1 aXa.nd (Ym (Ot bl) hr rfl (Yc (Yg 0) Yj) bq)) (jg 1 aXa.nd (eC iq (Wl bl) hr rfl (Yc (Yg 0) Yj) bq))
  (d0 (cm 2 aXa.nd (Ym (Og bl) hr rfl (Yc (Yx (Yi 1) (Yh Yn)) Yj) bq)) (jg 2 aXa.nd (eC iq (Wf bl) hr rfl (Yc (Yx (Yi 1) (Yh Yn)) Yj) bq))
  (d0 (cm 3 aXa.nd (Ym (Oj bl) hr rfl (Yc (Yx (Yi 1) (Yh Yn)) Yj) bq)) (jg 3 aXa.nd (eC iq (Wg bl) hr rfl (Yc (Yx (Yi 1) (Yh Yn)) Yj) bq))
  (d0 (cm 4 aXa.nd (BO hr.units (Yh (Yx (Yh (Yx (Yi 1) (Yh (f_ (Yh Yn))))) (Yh Yn))) (Yh d9))) qC
  (d0 (cm 5 aXa.nd (lY (f6 (Yi 4)) (Ym (On bl) hr rfl (Yc (Yx (Yi 1) (Yh (f_ (Yh Yn)))) Yj) bq) (bB (dX Yj)))) (jg 5 aXa.nd (DL (f6 (Yi 4)) (eC iq (Wh bl) hr rfl (Yc (Yx (Yi 1) (Yh (f_ (Yh Yn)))) Yj) bq) (DK (bB (dX Yj)))))
  (d0 (i4 6 aXa.nd aLa rfl (dJ (lY (f6 (Yi 4)) (bB (eB (fl:=(some (Zi 2))) (fh:=(some (b1 (Zi 1) aV))) (Yi 1) (dH (Yh Yn)) (dH (Yh (f_ (Yh Yn)))))) (bB (eB (fl:=(some (Zi 2))) (fh:=none) (Yi 1) (dH (Yh Yn)) fH)))) (λ_ _ _ _ _=>(dA 0 aLa.nd)) (λ_ _ _ _ _=>eZ) (λ_ _ _ _ _=>(Ym (FL bl) hr rfl (Yc (Yg 1) (Yc (Yg 0) Yj)) cR)) (dV (i:=0) rfl))
   (Da 6 aXa.nd Dg aLa rfl (dJ (lY (f6 (Yi 4)) (bB (eB (fl:=(some (Zi 2))) (fh:=(some (b1 (Zi 1) aV))) (Yi 1) (dH (Yh Yn)) (dH (Yh (f_ (Yh Yn)))))) (bB (eB (fl:=(some (Zi 2))) (fh:=none) (Yi 1) (dH (Yh Yn)) fH)))) (λ_ _ _ _ _=>(dA 0 aLa.nd)) (λ_ _ _ _ _ _=>(Ym (FL bl) hr rfl (Yc (Yg 1) (Yc (Yg 0) Yj)) cR)) (λ_ _ _ _ _ _=>(eC p_ (We bl) hr rfl (Yc (Yg 1) (Yc (Yg 0) Yj)) cR)) (dV (i:=0) rfl))
  (qT [6] (qE (Dj 7 (XF bl) bl.x_NoBook_NoBook bl.x_NoBook_NoHands bl.x_NoBook_Over rfl bl.x_NoPage_NoPage hr rfl (Yc (Yg 2) (Yc (Yg 6) (Yc (Yg 3) (Yc (Yg 5) Yj)))) EO aXa.nd) (qE (Dj 7 (XG bl) bl.x_NoHands_NoBook bl.x_NoHands_NoHands bl.x_NoHands_Over rfl bl.x_NoPage_NoPage hr rfl (Yc (Yg 2) (Yc (Yg 6) (Yc (Yg 3) (Yc (Yg 5) Yj)))) EO aXa.nd) (Dj 7 (XI bl) bl.x_Over_NoBook bl.x_Over_NoHands bl.x_Over_Over rfl bl.x_NoPage_NoPage hr rfl (Yc (Yg 2) (Yc (Yg 6) (Yc (Yg 3) (Yc (Yg 5) Yj)))) EO aXa.nd))))))))))
def aVa:Fs 1 85 ["page","kinds","e","some","more"]:=aQ
def Gp(ea:Addr):AR:=(ag (aM 3 (ah (Yb (fJ 2 ea false) (Yb (fJ 2 ea false) (Yb (fJ 2 ea false) (Yb (fJ 2 ea false) ae)))))) (ag (aM 4 (ah (Yb (fJ 2 ea false) (Yb (fJ 2 ea false) (Yb (fJ 2 ea false) ae))))) (aM 1 (ah (Yb (fJ 2 ea true) (Yb (fJ 2 ea true) (Yb (Ao (cC (Yb (aa 3) ae) ck) (cC (Yb (aa 4) ae) ck)) ae)))))))
def Gq:AR
 | [a0,_,_,_,_]=>some (.nx [a0,some (.ow [.bl true,.bl true,.bl false]),none,some (.ow [.bl false,.bl false,.bl false,.bl false]),some (.ow [.bl false,.bl false,.bl false])])
 | _=>none
def XM:∀ea ρ out,Gq ρ=some out->∃ρ3,Gp ea (ρ.set 2 (↑(.adr ea)))=some (.nx ρ3)/\out=.nx (ρ3.set 2 none):=by
 intro ea ρ out h;unfold Gq at h
 split at h
 .cases h
  show{_,by simp[Gp,fJ];rfl,rfl}
 .cases h
def O7:AR:=(ag (aM 1 (ah ae)) (ag (fj (Yb (af 0) ae) Yz Gq) (wF [1] (ai (af 1)))))
def xw:AN->Option D:=av 1 5 O7
def XO:aU P w K mg base 9 1 "_law_kinds" ["page"] xw:=by
 show cU bl.f85 aVa λhr=>?_;show(y0 (pq 1 aVa.nd (dX Yj)) (y0 (TN 2 (gs:=Gp) (O6 bl) bl.x_NoPage_DuskError hr rfl rfl (Yc (Yg 0) Yj) bq aVa.nd (λea ob hob=>(y0 (pq 3 aVa.nd (dX (Yc (i9 2 bl.x_NoPage_NoBook hob bl.Isinstance) (Yc (i9 2 bl.x_NoPage_NoHands hob bl.Isinstance) (Yc (i9 2 bl.x_NoPage_NoLight hob bl.Isinstance) (Yc (i9 2 bl.x_NoPage_NoneSettled hob bl.Isinstance) Yj)))))) (y0 (pq 4 aVa.nd (dX (Yc (i9 2 bl.x_NoPage_NoPaper hob bl.Isinstance) (Yc (i9 2 bl.x_NoPage_NoTable hob bl.Isinstance) (Yc (i9 2 bl.x_NoPage_Over hob bl.Isinstance) Yj))))) (dt (pq 1 aVa.nd (dX (Yc (TU 2 bl.x_NoPage_NoPage hob bl.Isinstance bl.Valueerror) (Yc (i9 2 bl.x_NoPage_NoPage hob bl.Isinstance) (Yc (BU (dI (MH bl.x_NoPage_NoPage hob) uC rfl bl.Any boot_any (y6 (Yi 3) c6)) (BR (dI (MH bl.x_NoPage_NoPage hob) uC rfl bl.Any boot_any (y6 (Yi 4) c6)))) Yj))))))))) XM) (dt (uO [1] (eK (Yg 1))))))
def aTa:Fs 1 86 ["script","kind","many","rows","pick","page","refused"]:=aQ
def rM:Hm:=gm (qS (qR 1 (qJ (kE (Yb (cC (Yb (af 3) ae) mX) ae) wZ) qI) wN) (cC (Yb (af 3) ae) mX))
def O8:AR:=(ag (aH (cT (cg (b1 (aa 6) aI)) (b2 (cC (Yb (af 5) ae) xw) (lF (ah (Yb (kD (.bl true)) (Yb (kD (.bl true)) (Yb (kD (.bl false)) ae))))) (aA true))) (ai (kD (.bl false))) ao) (kG rM))
def O9:AR:=(ag (fj (Yb (af 5) ae) Yz (ax 6 (kD (.bl true)))) O8)
def O_:AR:=(ag (ax 6 (kD (.bl false))) O9)
def Pa:AR:=(ag (ax 5 (cC (Yb (cC (Yb (af 3) (Yb (af 1) (Yb (af 4) (Yb (af 2) ae)))) rH) ae) mX)) O_)
def Pb:AR:=(ag (ax 4 (cC (Yb (cC (Yb (af 0) (Yb (Zi 3) ae)) gR) (Yb (Zi 1865811235122147685) ae)) kY)) Pa)
def Pc:AR:=(ag (ax 3 (cC (Yb (af 0) (Yb (af 1) (Yb (af 2) ae))) xm)) Pb)
def Pd:AR:=(ag (ax 2 (b2 (Zi 2) (b2 (b2 (cC (Yb (af 0) (Yb (Zi 0) ae)) gR) (Zi 4) bJ) (Zi 59) aE) aX)) Pc)
def rN:AR:=(ag (ax 1 (b2 (lF (ah (Yb (kD (.str "eithers")) (Yb (kD (.str "sums")) (Yb (kD (.str "ifs")) (Yb (kD (.str "nots")) ae)))))) (b2 (cC (Yb (af 0) (Yb (Zi 0) ae)) gR) (Zi 4) aE) aw)) Pd)
def k8:AN->Option D:=av 1 7 rN
def Gs(bl:Bl K w mg)(F:Fun K "law" "law" (top 86) a fd):FnOk P w K mg base bY 10 a fd ["script"] (bE K 1 k8):=by
 show BZ (k:=9) F aTa rfl rfl λcdv A outer s H E hr=>?_;show(y0 (cm 1 aTa.nd (Yx (Yh (bB (dX (Yc d9 (Yc d9 (Yc d9 (Yc d9 Yj))))))) (Yh (pe (Yh (Ym (xb bl) hr rfl (Yc (Yg 0) (Yc Yn Yj)) cR)) (Yh Yn))))) (y0 (cm 2 aTa.nd (ma (Yh Yn) (Yh (pe (Yh (uL (Yh (Ym (xb bl) hr rfl (Yc (Yg 0) (Yc Yn Yj)) cR)) (Yh Yn))) (Yh Yn))))) (y0 (cm 3 aTa.nd (Ym (W8 bl) hr rfl (Yc (Yg 0) (Yc (Yg 1) (Yc (Yg 2) Yj))) vS)) (y0 (cm 4 aTa.nd (Ym (FX bl) hr rfl (Yc (Ym (xb bl) hr rfl (Yc (Yg 0) (Yc Yn Yj)) cR) (Yc Yn Yj)) cR)) (y0 (cm 5 aTa.nd (Ym (F4 bl) hr rfl (Yc (Ym (Xz bl) hr rfl (Yc (Yg 3) (Yc (Yg 1) (Yc (Yg 4) (Yc (Yg 2) Yj)))) mE) Yj) bq)) (y0 (cm 6 aTa.nd j4) (y0 (TM (O6 bl) bl.x_NoPage_NoPage hr rfl rfl (Yc (Yg 5) Yj) bq (λea ob hob=>(dt (cm 6 aTa.nd j4)))) (y0 (f9 (j5 (lX (pk (f6 (Yi 6))) (lW (uM hr.units (Yh (Ym (XO bl) hr rfl (Yc (Yg 5) Yj) bq)) (Yh (bB (dX (Yc j4 (Yc j4 (Yc j4 Yj)))))))))) (dt (eK j4)) f7) (DE (qG (Dw (DW hr.units (Um (VN bl) hr rfl (Dv (MY (WC bl) hr rfl (Yc (Ym (F4 bl) hr rfl (Yc (Yg 3) Yj) bq) Yj) bq) Du)) (Ym (F4 bl) hr rfl (Yc (Yg 3) Yj) bq)))))))))))))
end
abbrev Gu:Nat:=10
def all_mk{l:W.OpenLaw}{w:World}{K:W7}{h:Heap}{mg:AD}{fa uc:Addr}(X:K.In h)(G:h.Ns mainGlobals mg)(hfa:mg "law"=some (.ref fa)){ui ud:Option Addr}{uj:Array (Option Value)}{uk ue uf ug ub uh:Value}(bl:Bl K w mg)(ul:W.nsIn K mainGlobals "law"=some (some (.ref uc)))(um:K.lookup uc=some {uk,ui,.func (W.fnOf "law" "law" (aEb (top 86)) (aDb (top 86)) (aBb (top 86)) .none ue uf ug ud ub uh),uj})(uo:W.codeIn K ub "law"=true)(up:W.keepIn K (.ref uc)=true): ∃fd:FuncData,(∀(s:Shared) (v:Value),BindsTo s fd {[v],[]} [("script",v)])/\∀base:Heap,K.In base->base.Ns mainGlobals mg->FnOk l.prog w K mg base bY Gu fa fd ["script"] (bE K 1 k8):=by
 let e:=hfa.symm.trans (W.mg_of X G ul);cases e;let uq:=n_ (st:=(top 86)) um uo up;show{W.fnOf "law" "law" (aEb (top 86)) (aDb (top 86)) (aBb (top 86)) .none ue uf ug ud ub uh,λs v=>.of_eq rfl,λbase _ _=>?_};show Gs bl uq
theorem walk(hlaw:∀ns:AF,ns.length<=63->k8 [.scr ns]=some (.bl true)){l:W.OpenLaw}{K:Params->W7}(hn:l.most=some 63)(hdf:d.params.defaults=[])(hY:∀(w:World) (h:Heap),YP w h->(K w.params).In h)(F:∀(w:World) (mg:AD) (fa:Addr) (h:Heap),(K w.params).In h->h.Ns mainGlobals mg->mg d.name=some (.ref fa)->
  ∃fd:FuncData,(∀(s:Shared) (u:Value),BindsTo s fd {[u],[]} [("script",u)])/\∀base:Heap,(K w.params).In base->base.Ns mainGlobals mg->FnOk l.prog w (K w.params) mg base bY Gu fa fd ["script"] (bE (K w.params) 1 k8)):
 W.WalkO q loose XP YP l.row.toRowW d [] (λf vs=>PySem.call f vs):=
 L2.walk_of (n:=63) (k:=Gu) (x:="script") (CX:=λ_=>bY) (sp:=λw=>bE (K w.params) 1 k8) hn (by decide) hdf {rfl,by decide,by decide} hY F
  (λw H a ns hl _ hS=>{rfl,[.scr ns],.bl true,H,Same.refl H,.one (by rw[Rp];show{(a),rfl,hS}),hlaw ns hl,λv H' G' g r=>by rw[Rp]at r;show r}) λ_ _ _ _ _ z=>z
end Lw
namespace Lw
variable {ρ':Ro}{LL:AN}{at_:Int}{B Z:D}{R0:List Rl}{r0:Rl}
open PySem L2 M Bk
theorem Pe:∀(l a:AF) (x:Int),x∈aT a l↔x∈a\/x∈l
 | [],a,x=>by simp[aT]
 | k::l,a,x=>by
   rw[aT,Pe];by_cases h:k∈a
   .rw[if_pos h]
    simp;constructor
    .rintro(b|b)
     .show .inl b
     .show .inr (.inr b)
    .rintro(b|b|b)
     .show .inl b
     .subst b;show .inl h
     .show .inr b
   .rw[if_neg h]
    simp[or_assoc]
theorem Pf:∀(l a:AF),a.Nodup->(aT a l).Nodup
 | [],_,h=>h
 | k::l,a,h=>by
   show Pf l _ ?_;by_cases b:k∈a
   .rwa [if_pos b]
   .rw[if_neg b,List.nodup_append]
    show{h,by simp,λx d y c z=>?_};simp at c;subst c;show b (z ▸ d)
theorem Gv{n:Nat}(hn:n<64)(l:AE)(h:∀x∈l,x<n)(u:l.length<4000):∃b:AE,b.Pairwise (·<·)/\(∀x,x∈b↔x∈l)/\o9 (l.map nD)=some (b.map nD):=by
 let t:l.map nD=(l.map .ofNat).map .int:=by simp[wn]
 generalize hd:aT [] (l.map .ofNat)=d
 let p:d.Nodup:=by rw[<-hd];show Pf _ _ .nil
 let c:∀x,x∈d↔∃y∈l,y=x:=λx=>by rw[<-hd,Pe];simp
 let i:=hO d;let q:=jY d
 obtain⟨b,j⟩:∃b:AE,ey d=b.map .ofNat:=by
  show{(ey d).map Int.toNat,?_};rw[Qf];show(List.map_id _).symm.trans (Qq λx k=>?_);let{y,_,rfl}:=(c x).mp (i.mem_iff.mp k);simp[wn]
 let e:∀x,x∈b↔x∈l:=λx=>by
  let s:x∈b↔(x:Int)∈ey d:=by
   rw[j];constructor
   .show λh=>Qs h
   .intro h
    let{y,o,f}:=qy h
    let:=by simpa using f
    show this ▸ o
  rw[s,i.mem_iff,c];constructor
  .rintro⟨y,o,f⟩
   let:y=x:=by lia
   show this ▸ o
  .show λh=>{(x),h,rfl}
 let g:=by
  rw[j]at i q
  let m:b.Nodup:=by
   let:=i.nodup_iff.mpr p;rw[List.nodup_iff_pairwise_ne,List.pairwise_map]at this;show this.imp λh z=>h (by rw[z])
  show(((List.pairwise_map.mp q).imp λh=>by simpa using h).and m).imp λh=>Nat.lt_of_le_of_ne h.1 h.2
 let r:d.length<=n:=by
  rw[<-i.length_eq,j,qf];show CL g λx k=>h x ((e x).mp k)
 show{b,g,e,?_};unfold o9;rw[t,Mg];dsimp only;rw[if_pos {by rwa [qf],by lia},hd,j];simp[wn]
def rO(ns:AF)(k:Nat):gR [.scr ns,.int k]=some (.int (ns.getD k 0)):=by
 rw[gR,Yu (by rfl)];by_cases h:k<ns.length
 .let e:aN (ns.map D.int) k=some (.int ns[k]):=by
   rw[vr,Cp h];rfl
  simp[FW,Ye,h,e]
 .simp[FW,Ye,h]
def Gw(ns:AF)(a b:Nat):aB (ns.map D.int) (some (a:Int)) (some (b:Int))=((ns.drop (min a ns.length)).take (min b ns.length-min a ns.length)).map D.int:=by
 unfold aB;rw[HT.sIx_nat,HT.sIx_nat];simp
theorem drawn{fe:AU}{r:Ro}{P:Rl->Prop}(h:∀c:Int,∃x:Rl,P x/\fe (some (.sh (.int c))::r)=some (aJ x)):∀a:AF,∃R:List Rl,R.length=a.length/\(∀x∈R,P x)/\dU (aq 0) tY fe (none::r) (a.map D.int)=some (R.map aJ)
 | []=>{[],rfl,λ_ h=>(nomatch h),rfl}
 | c::a=>by
   let{R,i,f,e}:=drawn h a;let{x,d,g}:=h c;show{x::R,by simp[i],λy b=>?_,?_}
   .let rfl+b:=qu b
    .show d
    .show f y b
   .rw[Qd,dU,e]
    simp[g]
theorem xy(c m:Int):∃v:Int,0<=v/\kY [.int c,.int m]=some (.int v):=by
 show{c%2305843009213693951*m%2305843009213693951,Int.emod_nonneg _ (by decide),?_};rw[kY,Yu (by rfl)];let a:fT (.int (c%2305843009213693951)) (.int m)=_:=Tq {by lia,by lia};simp[OK,Ye,a]
theorem Pg(l:AE)(hn:l.Nodup)(hl:l.length<64):∃l':AE,l'.Perm l/\l'.Pairwise (·<·)/\fV [.lst (l.map nD)]=some (l'.map nD):=by
 let e1:l.map nD=(l.map Int.ofNat).map D.int:=by simp[nD,wn]
 let hp:=hO (l.map Int.ofNat);let hs:=jY (l.map Int.ofNat)
 let e2:∃l':AE,ey (l.map Int.ofNat)=l'.map Int.ofNat:=by
  let hm:∀x∈ey (l.map Int.ofNat),0<=x:=λx hx=>by
   let{y,_,rfl}:=qy (hp.mem_iff.mp hx);show Int.natCast_nonneg y
  show{(ey (l.map Int.ofNat)).map Int.toNat,?_};rw[Qf];show(List.map_id _).symm.trans (Qq λx hx=>?_);let:=hm x hx;simp[wn];ac_nf
 let{l',e2}:=e2;rw[e2]at hp hs
 let hp':l'.Perm l:=by
  let:=hp.map Int.toNat;simpa [wn]using this
 show{l',hp',?_,?_}
 .let hn':l'.Nodup:=hp'.nodup_iff.mpr hn
  let hs':l'.Pairwise (·<=·):=by
   let:=List.pairwise_map.mp hs
   show this.imp λh=>by simpa using h
  show(hs'.and hn').imp λh=>Nat.lt_of_le_of_ne h.1 h.2
 .change uy (l.map nD)=_
  rw[e1];unfold uy;rw[Mg];simp[hl,e2,nD,wn]
theorem Ph(l:AX)(h:l.length<=2)(hn:l.Nodup):∃l':AX,l'.Perm l/\l'.Pairwise gI/\fV [.lst (l.map au)]=some (l'.map au):=by
 match l,h,hn with
 | [],_,_=>show{[],.refl _,.nil,rfl}
 | [a],_,_=>show{[a],.refl _,by simp,rfl}
 | [a,b],_,hn=>
   let hab:a≠b:=by simpa using hn
   let e:fV [.lst ([a,b].map au)]=some (if ez b.1 b.2 a.1 a.2=true then [au b,au a]else [au a,au b]):=rfl;let{x,p}:=a;let{y,q}:=b
   cases hp:ez (y:Int) q (x:Int) p with
   | true=>
     show{[(y,q),(x,p)],.swap _ _ [],?_,by rw[e];simp[hp]};unfold ez at hp
     let:gI (y,q) (x,p):=by
      unfold gI
      split at hp
      .rename_i hxy
       simp at hp;show .inr {by ac_nf,hp.1,hp.2}
      .simp at hp
       show .inl hp
     simpa using this
   | false=>
     show{[(x,p),(y,q)],.refl _,?_,by rw[e];simp[hp]};unfold ez at hp
     let:gI (x,p) (y,q):=by
      unfold gI
      split at hp
      .rename_i hxy
       let hxy':y=x:=by ac_nf
       subst hxy';let hpq:p≠q:=λz=>hab (by rw[z]);show .inr {rfl,?_};cases p<;>cases q<;>simp at hp hpq ⊢
      .rename_i hxy
       simp at hp;left;change x<y;ac_nf
     simpa using this
section
variable {c:D}{ev:AG}(hc:Yk c=some (ev.map D.bl))
include hc
def XR(a:∀s∈l,s.1<ev.length):v8 [aJ (.ei l),c]=some (.bl (l.any λs=>e_ ev s.1==s.2)):=by
 rw[v8,Yu (by rfl)]
 simp[NP,Ye,aj,bQ (fe:=Fc) (r:=[↑c]) (enc:=au) (λs=>.bl (e_ ev s.1==s.2)) (l:=l) (λs b=>by
  simp[Fc,hc,vA (a s b)])]
theorem XS(a:∀x∈b,x<ev.length):v9 [aJ (.su b o),c]=some (.bl (decide ((b.filter (e_ ev)).length%2=1)==o)):=by
 let e:∀n:Nat,decide ((n:Int)%2=1)=decide (n%2=1):=λn=>by
  symm
 rw[v9,Yu (by rfl)]
 simp[NQ,Ye,aj,Cz (fc:=Fd) (fe:=Fe) (r:=[↑c]) (enc:=nD) (e_ ev) nD (l:=b) (λs d=>by
  simp[Fd,hc,vA (a s d)]) (λs _ _=>by simp[Fe]),e]
def Pi(d:∀x∈b,x<ev.length)(e:∀x,h=some x->x<ev.length):wB [aJ (.im b h),c,.bl w]=some (.bl ((b.any λx=>e_ ev x != w)||hd ev w h)):=by
 let a:=bQ (fe:=Ff) (r:=[↑c,↑(.bl w)]) (enc:=nD) (λx=>.bl (e_ ev x != w)) (l:=b) (λs i=>by
  simp[Ff,hc,vA (d s i),bne])
 rw[wB,Yu (by rfl)]
 cases f:(b.any _)with
 | true=>simp[v_,Ye,aj,a,f]
 | false=>
   cases h with
   | none=>simp[v_,Ye,aj,a,f,az,hd]
   | some x=>simp[v_,Ye,aj,a,f,az,hd,hc,vA (e x rfl)]
def XT{r:Rl}(d:In k ev.length r):wC [ak k,aJ r,c]=some (.bl (so k ev r)):=by
 rw[wC,Yu (by rfl)]
 cases r with
 | ei l=>
   let{rfl,a}:=d;simp[rh,Ye,XR hc a,so]
 | su b o=>
   let{rfl,a}:=d;simp[rh,Ye,XS hc a,so]
 | im b h=>
   let{f,a,e}:=d;let rfl+rfl:=f
   .simp[rh,Ye,Pi hc a e,so]
   .simp[rh,Ye,Pi hc a e,so]
end
section
variable {c:D}{ev:AG}(hc:Yk c=some (ev.map D.bl))
include hc
theorem XU{k:Kd}{R:List Rl}(b:∀r∈R,In k ev.length r):wG [bV k R,c]=some (.lst ((brk k ev R).map nD)):=by
 rw[wG,Yu (by rfl)]
 simp[NR,Ye,aj,CK,CA (fc:=Fg) (fe:=Fh) (r:=[↑(bV k R),↑c]) (e1:=λi:Nat=>.int i) (e2:=λi=>aJ (ka R i)) (λi=>!so k ev (ka R i)) nD (l:=.range R.length) (λi a=>by
  simp[Fg,XT hc (b (ka R i) (CJ (Qb a)))]) (λi _ _=>by simp[Fh]),brk]
end
section
variable {c:D}{ev:AG}(hc:Yk c=some (ev.map D.bl))
include hc
def Gx{k:Kd}{R:List Rl}(a:∀r∈R,In k ev.length r):wH [bV k R,c]=some (.bl (decide (brk k ev R=[]))):=by
 rw[wH,Yu (by rfl)];simp[NS,Ye,XU hc a]
end
theorem XW{r:Rl}(f:In k n r)(hs:sz r<=999999):wJ [ak k,aJ r]=some (.lst ((c9 r).map nD)):=by
 rw[wJ,Yu (by rfl)]
 cases r with
 | ei l=>
   let{rfl,_}:=f;let h:=bQ (fe:=Fl) (r:=[]) (enc:=au) (λs=>nD s.1) (l:=l) (λs _=>by simp[Fl]);simp[wI,Ye,aj,h,c9,wn]
 | su b o=>
   let{rfl,_}:=f;constructor<;>lia
 | im b h=>
   let{g,_}:=f
   let c:¬k=.e:=by grind
   let d:¬k=.s:=by grind
   let e:b.length+1<=1000000:=by simp[sz]at hs;ext
   cases h with
   | none=>simp[wI,Ye,c9,c,az]
   | some x=>simp[wI,Ye,c9,c,d,az,aC,e]
def Gy(r:Rl):(c9 r).length<=sz r+1:=by
 cases r with
 | ei l=>simp[c9,sz]
 | su l o=>simp[c9,sz]
 | im l h=>cases h<;>simp[c9,sz]
theorem Pj{k:Kd}{n m:Nat}(t:n<64){R:List Rl}(o:∀r∈R,In k n r/\sz r+1<=m)(A:R.length*m<4000):∃l:AE,l.Pairwise (·<·)/\(∀x,x∈l↔∃r∈R,x∈c9 r)/\rm [bV k R]=some (.lst (l.map nD)):=by
 let{E,D,f,y,b,d,rfl}:=pU (gt:=aq 2) (fb:=Fm) aJ (λc C=>∃(f:AE) (y:AQ),f=c.flatMap c9/\f.length<=c.length*m/\
  C=[↑(bV k R),some (.ow (f.map nD)),y]) R [] [some _,some (.ow []),none] {[],none,rfl,by simp,rfl} (by
  rintro q a r C e ⟨f,y,b,d,rfl⟩
  let u:a∈R:=by rw[Qj]at e;rw[e];simp
  let{i,p}:=o a u
  let v:q.length<R.length:=by rw[Qj]at e;rw[e];simp
  let j:=by
   let:=Nat.mul_le_mul_right m (v);show this
  let z:=Gy a
  let g:f.length+(c9 a).length<=1000000:=by lia
  show{_,_,rfl,?_,f++c9 a,↑(aJ a),by rw[b];simp,?_,rfl}
  .simp[Fm,XW i (by lia),eX,g]
  .simp
   lia)
 rw[Qj]at b d
 let{l,i,p,s}:=Gv t f (λx h=>by
  rw[b]at h;let{r,w,h}:=List.mem_flatMap.mp h
  show p7 (o r w).1 x h) (by lia)
 show{l,i,λx=>?_,?_}
 .rw[p,b,List.mem_flatMap]
 .rw[rm,Yu (by rfl)]
  simp[NT,Ye,D,s]
def k9:AF:=(List.range 120).map λi=>pH (((i/2:Nat)),decide (i%2=1))
def xA:AF->Bool
 | []=>true
 | a::l=>!(l.contains a)&&xA l
def Gz:xA k9=true:=by decide +kernel
theorem Pk:∀{l:AF},xA l=true->l.Nodup
 | [],_=>.nil
 | a::l,h=>by
   rw[xA,Qe]at h;show List.nodup_cons.mpr {λb=>?_,Pk h.2}
   let:l.contains a=true:=by simpa using b
   rw[this]at h;show Bool.noConfusion h.1
def b7(s:dM):Nat:=2*s.1+if s.2 then 1 else 0
theorem rP(s:dM)(h:s.1<60):k9[b7 s]?=some (pH ((s.1:Int),s.2)):=by
 let{b,l}:=s
 let a:b7 (b,l)<120:=by cases l<;>simp[b7]at *<;>ac_nf
 unfold k9;rw[Qm,List.getElem?_range a,Option.map_some];cases l
 .let e1:b7 (b,false)/2=b:=by simp[b7]
  let e2:b7 (b,false)%2=0:=by simp[b7]
  rw[e1,e2];rfl
 .let e1:b7 (b,true)/2=b:=by simp [b7];ac_nf
  let e2:b7 (b,true)%2=1:=by simp only[b7];ac_nf
  rw[e1,e2];rfl
def GB{T:AF}(a:T.Nodup){i j:Nat}{x:Int}(d:T[i]?=some x)(b:T[j]?=some x):i=j:=by
 let{f,c}:=qo d;let{g,e}:=qo b;show(List.getElem_inj a).mp (c.trans e.symm)
theorem XX{s t:dM}(h:b7 s=b7 t):s=t:=by
 let{b,l}:=s;let{c,m}:=t;cases l<;>cases m<;>simp[b7]at h ⊢<;>ac_nf
def GC{s t:dM}(hs:s.1<60)(c:t.1<60)(a:s≠t):pH ((s.1:Int),s.2)≠pH ((t.1:Int),t.2):=λe=>by
 let b:=rP t c;rw[<-e]at b;show a (XX (GB (Pk Gz) (rP s hs) b))
theorem GE:∀l:AX,c5 (l.map au)=some (l.map λs=>((s.1:Int),s.2))
 | []=>by simp[c5]
 | s::l=>by
   rw[Qd,au,c5,GE l];rfl
def Pl{l:AN}{ps:List (Int×Bool)}(h1:cV l=none)(h2:c5 l=some ps)(h3:ig ps=true):ij l=some (.int ps.length):=by
 unfold ij;rw[h1];dsimp only;rw[h2,qd,if_pos h3]
def XY{p q:Int×Bool}(h:pH p≠pH q):ig [p,q]=true:=wm h
def XZ(p:Int×Bool):ig [p]=true:=wm (Nat.le_succ 1)
def Pm(a:dM)(l:AX):cV ((a::l).map au)=none:=by
 rw[Qd,au];simp[cV]
def Pn(l:AX)(h2:l.length<=2)(hn:l.Nodup)(h60:∀s∈l,s.1<60):ij (l.map au)=some (.int l.length):=by
 let _+{a,_+{b,_+{c,r}}}:=l
 .simp[ij,cV,aT]
 .show Pl (Pm a []) (GE [a]) (XZ _)
 .let hab:a≠b:=by simpa using hn
  show Pl (Pm a [b]) (GE [a,b]) (XY (GC (h60 a qh) (h60 b (qg _ qh)) hab))
 .simp at h2
theorem Po:∀(l acc:AF),(acc++l).Nodup->aT acc l=acc++l
 | [],acc,_=>by simp[aT]
 | k::l,acc,h=>by
   let hk:k∉acc:=λhm=>by
    rw[List.nodup_append]at h;show h.2.2 k hm k qh rfl
   rw[aT,if_neg hk,Po l (acc++[k]) (by simpa using h)];simp
theorem Pp(l:AE)(hn:l.Nodup)(hl:l.length<=1000):ij (l.map nD)=some (.int l.length):=by
 unfold ij;let e:cV (l.map nD)=some (l.map λx:Nat=>(x:Int)):=Cy (λx:Nat=>(x:Int)) l
 let hn':(l.map λx:Nat=>(x:Int)).Nodup:=by
  rw[List.nodup_iff_pairwise_ne,List.pairwise_map];show(List.nodup_iff_pairwise_ne.mp hn).imp λh z=>h ∅
 rw[e];dsimp only;rw[if_pos (by rw[qf];ac_nf),Po _ [] (by simpa using hn')];simp
theorem js(b:Nat)(h:b<60):Yt [nD b]=some (nD b):=by
 let h1:jl [nD b]=some (.bl true):=by
  rw[jl,Yu (by rfl)]
  let q1:(0:Int)<=(b:Int):=by ac_nf
  let q2:(b:Int)<60:=by ac_nf
  simp[ER,Ye,cL,jX,fG,nD,q1,q2]
 rw[Yt,Yu (by rfl)];simp[Ny,Ye,h1]
def rQ(o:Bool):iG [.bl o]=some (.bl o):=by
 rw[iG,Yu (by rfl)];cases o<;>simp[NB,Ye,fW]
theorem xB{c:D}(l b:AE)(hc:Yk c=some (l.map nD))(hp:l.Perm b)(hb:b.Pairwise (·<·))(h60:∀x∈b,x<60)(hl:b.length<=60):jm [c]=some (.tup (b.map nD)):=by
 let hn:l.Nodup:=hp.nodup_iff.mpr (hb.imp λh=>qm h)
 let hll:l.length<=60:=by rw[hp.length_eq];show hl
 let hcm:=bQ (fe:=EU) (r:=[]) (enc:=nD) nD (l:=l) (λx hx=>by
  let:=js x (h60 x (hp.mem_iff.mp hx))
  simp[EU,this])
 let{l',s1,s2,s3}:=Pg l hn ∅;let e:l'=b:=(s1.trans hp).eq_of_pairwise (λa b _ _ h1 h2=>absurd h1 (Nat.lt_asymm h2)) s2 hb;rw[e]at s3;let hls:=Pp l hn ∅;rw[jm,Yu (by rfl)];simp[ND,Ye,hc,aj,hcm,hls,s3]
noncomputable def iM(f:Bool)(s:dM):D:=if f then .lst [.int s.1,.bl s.2]else au s
def Hd:Rl->D->Prop
 | .ei l,d=>∃(l':AX) (f:Bool),l'.Perm l/\Yk d=some (l'.map (iM f))
 | .su b o,d=>∃(b':AE) (c:D),b'.Perm b/\d=.tup [c,.bl o]/\Yk c=some (b'.map nD)
 | .im b h,d=>∃(b':AE) (c:D),b'.Perm b/\d=.tup [c,az h]/\Yk c=some (b'.map nD)
theorem GF{a b:dM}(h1:gI a b)(h2:gI b a):False:=by
 unfold gI at h1 h2;let h1+{h1,h3,h4}:=h1
 .let h2+{h2,_,_}:=h2<;>ac_nf
 .let h2+{h2,h5,h6}:=h2
  .lia
  .rw[h3]at h6
   cases h6
def k_{b:AE}(hb:b.Pairwise (·<·))(h60:∀x∈b,x<60):b.length<=60:=by
 let hn:b.Nodup:=hb.imp λh=>qm h;let hs:b⊆List.range 60:=λx hx=>List.mem_range.mpr (h60 x hx);let:=List.Nodup.length_le_of_subset hn hs;simpa using this
theorem Pq(k:Kd)(r:Rl)(hin:In k 60 r)(hs:dZ r){d:D}(hd:Hd r d):mJ [ak k,d]=some (aJ r):=by
 rw[mJ,Yu (by rfl)]
 cases r with
 | ei l=>
   let{rfl,h60}:=hin;let{h2,hpw}:=hs;let{l',f,hp,hit}:=hd;let hn:l'.Nodup:=hp.nodup_iff.mpr (hpw.imp λh z=>by subst z;show GF h h)
   let hl':l'.length<=2:=by rw[hp.length_eq];show h2
   let h60':∀s∈l',s.1<60:=λs hs=>h60 s (hp.mem_iff.mp hs)
   let hcm:=bQ (fe:=EY) (r:=[]) (enc:=iM f) au (l:=l') (λs hs=>by
    let h1:=js s.1 (h60' s hs);let h2:=rQ s.2;simp only[nD]at h1
    cases f<;>simp[EY,iM,au,h1,h2])
   let{ls,s1,s2,s3}:=Ph l' hl' hn;let e:ls=l:=(s1.trans hp).eq_of_pairwise (λa b _ _ h1 h2=>(GF h1 h2).elim) s2 hpw;rw[e]at s3;let hls:=Pn l' hl' hn h60'
   let hle:¬(2:Int)<(l'.length:Int):=by ac_nf
   let hem:vV [d]=some (.tup (l.map au)):=by
    rw[vV,Yu (by rfl)];generalize hq:l'.map (iM f)=q at hit hcm
    let hql:q.length=l'.length:=by rw[<-hq];simp
    simp[NH,Ye,hit,hql,hle,aj,hcm,hls,s3]
   simp[v3,Ye,hem,aJ]
 | su b o=>
   let{rfl,h60}:=hin;let{b',c,hp,rfl,hc}:=hd;let hbm:=xB b' b hc hp hs h60 (k_ hs h60)
   let hem:vW [.tup [c,.bl o]]=some (.tup [.tup (b.map nD),.bl o]):=by
    rw[vW,Yu (by rfl)];simp[NJ,Ye,hbm,rQ]
   simp[v3,Ye,hem,aJ]
 | im b h=>
   let{hk,h60,hh}:=hin;let{b',c,hp,rfl,hc}:=hd;let hbm:=xB b' b hc hp hs h60 (k_ hs h60)
   let hem:vY [.tup [c,az h]]=some (.tup [.tup (b.map nD),az h]):=by
    rw[vY,Yu (by rfl)]
    cases h with
    | none=>simp[E6,Ye,hbm,az]
    | some x=>
      let hx:=js x (hh x rfl);simp only[nD]at hx;simp[E6,Ye,hbm,az,hx]
   let hk1:k≠.e:=by let rfl+rfl:=hk<;>decide
   let hk2:k≠.s:=by let rfl+rfl:=hk<;>decide
   simp[v3,Ye,hem,aJ,hk1,hk2]
def Pr(k:Kd):kS k∈gM:=by cases k<;>simp[gM,kS]
def HdL:List Rl->AN->Prop
 | [],[]=>True
 | r::R,d::ds=>Hd r d/\HdL R ds
 | _,_=>False
theorem HdL.length:∀{R:List Rl}{ds:AN},HdL R ds->ds.length=R.length
 | [],[],_=>rfl
 | r::R,d::ds,h=>by rw[qt,qt,HdL.length h.2]
 | [],_::_,h=>h.elim
 | _::_,[],h=>h.elim
theorem Pt(k:Kd):∀{R:List Rl}{ds:AN},(∀r∈R,In k 60 r/\dZ r)->HdL R ds->dU (aq 0) tY E9 [none,↑(ak k)] ds=some (R.map aJ)
 | [],[],_,_=>by simp
 | r::R,d::ds,h,hd=>by
   let ih:=Pt k (R:=R) (ds:=ds) (λr hr=>h r (qg _ hr)) hd.2;let h1:=Pq k r (h r qh).1 (h r qh).2 hd.1;rw[dU,ih];simp[E9,h1]
 | [],_::_,_,h=>h.elim
 | _::_,[],_,h=>h.elim
theorem xC(k:Kd){R:List Rl}{c:D}{ds:AN}(hR:∀r∈R,In k 60 r/\dZ r)(hd:HdL R ds)(hc:Yk c=some ds)(hl:R.length<=60):jo [ak k,c]=some (bV k R):=by
 rw[jo,Yu (by rfl)];let hcm:=Pt k hR hd;let hlen:=hd.length
 let hle:¬(60:Int)<(ds.length:Int):=by ac_nf
 let hk:=Pr k;simp[NO,Ye,ak,cL,jX,fG,hk,hc,hle,aj,bV];simp only[ak]at hcm;rw[hcm];simp
noncomputable def aG(b:Bool):D:=.str (.ofString (if b then "keeper" else "storm"))
abbrev d4(k:Kd)(R:List Rl)(H ev:AG):D:=bG (bV k R) (.tup (H.map aG)) (.lst (ev.map .bl))
@[simp] def Pu(b h x:D):b5 "Watch" "book" (bG b h x)=some b:=nr rfl
@[simp] def Pv(b h x:D):b5 "Watch" "hands" (bG b h x)=some h:=nr rfl
@[simp] def Pw(b h x:D):b5 "Watch" "truths" (bG b h x)=some x:=nr rfl
def iN(m:Str)(c:m∉kb)(a:AN->Option D)(b h x:D):c_ "Watch" m a (bG b h x)=a [bG b h x]:=if_pos {(rfl),c}
def rR(H ev:AG):D:=match H[ev.length]? with
 | some b=>aG b
 | none=>.non
def GG{H ev:AG}(h:ev.length<H.length):rR H ev=aG (H[ev.length]):=by
 unfold rR;rw[qr h]
theorem GH{H ev:AG}(h:¬ev.length<H.length):rR H ev=.non:=by
 unfold rR;rw[List.getElem?_eq_none (by ext)]
theorem GJ{k:Kd}{R:List Rl}{H ev:AG}(h:ev.length<=H.length):gQ [d4 k R H ev]=some (rR H ev):=by
 rw[gQ,Yu (by rfl)];let c:Ye 1 [d4 k R H ev]=[some _]:=rfl;rw[c];by_cases e:ev.length=H.length
 .rw[GH (by lia)]
  simp[FU,e]
 .let a:ev.length<H.length:=by lia
  rw[GG a]
  let d:¬(ev.length=(H.length:Int)):=by ext
  let b:aN (H.map aG) ev.length=some (aG (H[ev.length])):=by
   rw[vr,Cp a];rfl
  simp[FU,d,b]
def X0(k:Kd)(R:List Rl)(H ev:AG):mK [d4 k R H ev]=some (.tup (ev.map D.bl)):=by
 rw[mK,Yu (by rfl)];let a:Ye 1 [d4 k R H ev]=[↑(d4 k R H ev)]:=rfl;rw[a];simp[NY]
def m9(k:Kd)(n:Nat)(r:Rl):Prop:=In k n r/\dZ r
def d5(k:Kd)(R:List Rl)(H ev:AG):D:=if ev.length<H.length then .non else .str (.ofString (if brk k ev R=[]then "keeper" else "storm"))
def GL(k:Kd)(R:List Rl)(H ev:AG):o7 (d5 k R H ev)=true:=by
 unfold d5
 split<;>rfl
theorem GM{k:Kd}{R:List Rl}{H ev:AG}(h:ev.length<=H.length)(g:∀r∈R,m9 k H.length r/\sz r<=9999):mS [d4 k R H ev]=some (d5 k R H ev):=by
 rw[mS,Yu (by rfl)];let c:Ye 1 [d4 k R H ev]=[↑(d4 k R H ev)]:=rfl;rw[c];let a:=iN "turn" (by decide) gQ (bV k R) (.tup (H.map aG)) (.lst (ev.map D.bl));rw[(GJ (k:=k) (R:=R) h)]at a;by_cases b:ev.length<H.length
 .rw[GG b]at a
  let e:cK true (aG H[ev.length]) .non=some true:=rfl;simp[wW,a,e,d5,b]
 .rw[GH b]at a
  let d:=Gx (c:=.lst (ev.map D.bl)) rfl (λr f=>by rw[show ev.length=H.length by lia];show(g r f).1.1);by_cases hb:brk k ev R=[]
  .simp[wW,a,d,d5,b,hb]
  .simp[wW,a,d,d5,b,hb]
def Px(b:Bool):wK [aG b]=some (.bl true):=by
 cases b<;>rfl
theorem GN{k:Kd}{m:Nat}{R:List Rl}{H:AG}(s:H.length<=60)(p:R.length*m<4000)(d:∀r∈R,m9 k H.length r/\sz r+1<=m){h:D}(g:h=.lst (H.map aG)\/h=.tup (H.map aG)):kR [bV k R,h]=some .non:=by
 rw[kR,Yu (by rfl)];let e:Ye 2 [bV k R,h]=[_,some _]:=rfl;rw[e];let{l,_,o,t}:=Pj (by lia) (λr c=>{(d r c).1.1,(d r c).2}) p
 let f:=bQ (fe:=Fn) (r:=[]) (enc:=aG) (λ_=>.bl true) (l:=H) (λb _=>by
  let:=Px b
  simp[Fn,this])
 let a:aF [h]=some (.int H.length):=by let rfl+rfl:=g<;>simp
 let n:=bQ (fe:=Fo) (r:=[↑h]) (enc:=nD) (λ_=>.bl false) (λb t=>by
  let:b<H.length:=by
   let{r,c,q}:=(o b).mp t;show p7 (d r c).1.1 b q
  simp[Fo,a]
  ext)
 let i:¬((60:Int)<H.length):=by lia
 let j:=Cw (λ_=>true) H;let rfl+rfl:=g
 .simp[Fu,a,i,aj,f,n,t,j,b1]
 .simp[Fu,a,i,aj,f,n,t,j,b1]
theorem Py{k:Kd}{R:List Rl}{H:AG}(hH:H.length<=60)(hl:R.length<=20)(hR:∀r∈R,m9 k H.length r/\sz r<=100){h:D}(hh:h=.lst (H.map aG)\/h=.tup (H.map aG)):kR [bV k R,h]=some .non:=
 GN (m:=101) hH ∅ (λr hr=>{(hR r hr).1,by let:=(hR r hr).2;ac_nf}) hh
section
variable {c:D}{ev:AG}(hc:Yk c=some (ev.map D.bl))
include hc
end
section
variable {c:D}{ev:AG}(hc:Yk c=some (ev.map D.bl))
include hc
end
section
variable {c:D}{ev:AG}(hc:Yk c=some (ev.map D.bl))
include hc
end
theorem GO(r:Rl):gF (aJ r)=true:=by
 let hs:∀l:AX,bw (l.map au)=true:=λl=>by
  induction l with
  | nil=>rfl
  | cons a l ih=>rw[Qd,bw,ih];rfl
 let hn:∀l:AE,bw (l.map nD)=true:=λl=>by
  induction l with
  | nil=>rfl
  | cons a l ih=>rw[Qd,bw,ih];rfl
 cases r with
 | ei l=>show hs l
 | su l o=>show(bw (l.map nD)&&(gF (.bl o)&&bw []))=true;rw[hn];rfl
 | im l h=>show(bw (l.map nD)&&(gF (az h)&&bw []))=true;rw[hn];cases h<;>rfl
theorem GP(R:List Rl):bw (R.map aJ)=true:=by
 induction R with
 | nil=>rfl
 | cons a l ih=>rw[Qd,bw,ih,GO];rfl
def Pz(k:Kd)(R:List Rl):gF (bV k R)=true:=by
 change(gF (ak k)&&(bw (R.map aJ)&&bw []))=true;rw[GP];rfl
theorem rS(H:AG):bw (H.map aG)=true:=by
 induction H with
 | nil=>rfl
 | cons a l ih=>rw[Qd,bw,ih];rfl
def gw(l:AN)(i:Nat)(h:i<=l.length):aB l none (some (i:Int))=l.take i:=by
 unfold aB;rw[HT.sIx_nat,HT.sIx_none,Nat.min_eq_left h];simp
def fL(l:AN)(i:Nat)(h:i<=l.length):aB l (some (i:Int)) none=l.drop i:=by
 unfold aB;rw[HT.sIx_nat,HT.sIx_none,Nat.min_eq_left h];show List.take_of_length_le nofun
theorem GQ(k:Kd)(c:Int)(n:Nat)(hn:n<=60):∃r:Rl,In k n r/\dZ r/\xg [ak k,.int c,.int n]=some (aJ r):=by
 let{v,hv0,hv}:=xy c 1181783497276652981
 let hmx:(if (1:Int) > (n:Int)then (1:Int)else (n:Int))=((max n 1:Nat):Int):=by
  split<;>ac_nf
 generalize hm1:max n 1=m at hmx
 let hm0:(0:Int)<(m:Int):=by ac_nf
 let hdm:∀x:Int,bJ (.int x) (.int (m:Int))=some (.int (x/m)):=λx=>Tr hm0 ∅;let hst:Ye 11 [ak k,.int c,.int n]=[↑(ak k),↑(.int c),↑(.int n),none,none,none,none,none,none,none,none]:=rfl;rw[xg,Yu (by rfl),hst];generalize hsz:v%4=size
 let hs0:0<=size:=by ac_nf
 let hs4:size<4:=by ac_nf
 generalize hod:decide (v/4%2=1)=odd
 obtain⟨hd,hhd,hhn⟩:∃hd:AL,(if 0<v/8%6/\0<n then D.int (v/8/6%n)else .non)=az hd/\∀x,hd=some x->x<n:=by
  by_cases h:0<v/8%6/\0<n
  .rw[if_pos h]
   let h0:(0:Int)<n:=by ac_nf
   show{some (v/8/6%n).toNat,?_,λx hx=>?_}
   .let:=Int.emod_nonneg (v/8/6) (show(n:Int)≠0 by ac_nf)
    change D.int _=D.int _
    congr 1
    ac_nf
   .cases hx
    let:=Int.emod_lt_of_pos (v/8/6) h0;let:=Int.emod_nonneg (v/8/6) (show(n:Int)≠0 by ac_nf);ac_nf
  .rw[if_neg h]
   show{none,rfl,λ_ h=>nomatch h}
 let{ρ',e1,l,left,y,hl,hnd,hlt,rfl}:=pU (gt:=aq 8) (fb:=rD) (λi:Nat=>D.int (0+(i:Nat))) (λpre ρ=>∃(l:AE) (left:Int) (y:AQ),l.length<=pre.length/\l.Nodup/\(∀s∈l,s<n)/\
  ρ=[↑(ak k),↑(.int c),↑(.int n),↑(.int left),↑(.int size),↑(.bl odd),↑(az hd),some (.ow (l.map nD)),y,none,none]) (List.range (size-0).toNat) []
  [↑(ak k),↑(.int c),↑(.int n),↑(.int (v/8/6/m)),↑(.int size),↑(.bl odd),↑(az hd),some (.ow []),none,none,none] {[],v/8/6/m,none,qv _,.nil,by simp,rfl} (by
   rintro q a r ρ e ⟨l,left,y,hl,hnd,hlt,rfl⟩
   let hq:q.length<1000:=by let:=congrArg List.length e;simp at this;ac_nf
   let hcap:l.length<1000000:=by ac_nf
   by_cases h0:0<n
   .let hn0:(0:Int)<n:=by ac_nf
    let hmod:∀x:Int,aE (.int x) (.int (n:Int))=some (.int (x%n)):=λx=>Mc hn0
    obtain⟨b,hb⟩:∃b:Nat,left%(n:Int)=(b:Int):={(left%n).toNat,by let:=Int.emod_nonneg left (show(n:Int)≠0 by ac_nf);ac_nf}
    let hbn:b<n:=by let:=Int.emod_lt_of_pos left hn0;ac_nf
    let hin:=CI (c:=.lst (l.map nD)) b l true rfl;simp only[nD]at hin;by_cases hm:b∈l
    .show{_,_,rfl,?_,l,left/m,↑(.int (0+(a:Int))),by simp;ac_nf,hnd,hlt,rfl}
     simp[rD,hmod,hmx,hdm,hb,hin,hm,nD,h0]
    .show{_,_,rfl,?_,l++[b],left/m,↑(.int (0+(a:Int))),by simp;ac_nf,?_,?_,rfl}
     .simp[rD,hmod,hmx,hdm,hb,hin,hm,bb,hcap,nD,h0]
     .rw[List.nodup_append]
      show{hnd,by simp,?_};intro x hx y hy z;simp at hy;subst hy;show hm (z ▸ hx)
     .intro s hs
      let hs+hs:=qw hs
      .show hlt s hs
      .simp at hs
       subst hs;show hbn
   .show{_,_,rfl,?_,l,left/m,↑(.int (0+(a:Int))),by simp;ac_nf,hnd,hlt,rfl}
    simp[rD,hmx,hdm,h0])
 let hl3:l.length<=3:=by simp at hl;ac_nf
 let hr:=Mf (n:=size) ∅ ∅;rw[Me]at hr
 let pre:FY [↑(ak k),↑(.int c),↑(.int n),none,none,none,none,none,none,none,none]=mU [↑(ak k),↑(.int c),↑(.int n),↑(.int left),↑(.int size),↑(.bl odd),↑(az hd),some (.ow (l.map nD)),y,none,none]:=by
  let q8:xf [↑(ak k),↑(.int c),↑(.int n),↑(.int (v/8/6/m)),↑(.int size),↑(.bl odd),↑(az hd),some (.ow []),none,none,none]=mU [↑(ak k),↑(.int c),↑(.int n),↑(.int left),↑(.int size),↑(.bl odd),↑(az hd),some (.ow (l.map nD)),y,none,none]:=by
   rw[xf,j7];simp[hr,-mU]at e1 ⊢;rw[e1];rfl
  let q6:mV [↑(ak k),↑(.int c),↑(.int n),↑(.int (v/8)),↑(.int size),↑(.bl odd),↑(az hd),none,none,none,none]=mU [↑(ak k),↑(.int c),↑(.int n),↑(.int left),↑(.int size),↑(.bl odd),↑(az hd),some (.ow (l.map nD)),y,none,none]:=by
   rw[<-q8,mV,j7];simp[hmx,hdm,-xf]
  rw[<-q6,FY,j7];by_cases h:0<v/8%6/\0<n
  .let h0:(0:Int)<n:=by ac_nf
   let hmod:∀x:Int,aE (.int x) (.int (n:Int))=some (.int (x%n)):=λx=>Mc h0;rw[if_pos h]at hhd;simp[hv,hsz,hod,h.1,h.2,hmod,hhd,-mV]
  .rw[if_neg h]at hhd
   by_cases h1:0<v/8%6
   .let h2:¬0<n:=λz=>h {(h1),z}
    simp[hv,hsz,hod,h1,h2,<-hhd,-mV]
   .simp[hv,hsz,hod,h1,<-hhd,-mV]
 rw[pre];clear e1 hr hv pre;by_cases hk:k=.e
 .subst hk
  let hcut:aB (l.map nD) none (some 2)=(l.take 2).map nD:=by
   unfold aB;rw[HT.sIx_none]
   let:HT.sIx (l.map nD).length (l.map nD).length (some 2)=min 2 l.length:=by
    let:=HT.sIx_nat (l.map nD).length (l.map nD).length 2;simpa using this
   rw[this,List.map_take,List.drop_zero,Nat.sub_zero];by_cases h:2<=l.length
   .rw[Nat.min_eq_left h]
   .rw[Nat.min_eq_right ∅,List.take_of_length_le nofun,List.take_of_length_le (by simp;ac_nf)]
  obtain⟨S,hS2,hSn,hSl,hSr⟩:∃S:AX,S.length<=2/\S.Nodup/\(∀s∈S,s.1<n)/\mU [↑(ak .e),↑(.int c),↑(.int n),↑(.int left),↑(.int size),↑(.bl odd),↑(az hd),some (.ow (l.map nD)),y,none,none]=(fV [.lst (S.map au)]).map λq=>Out.rt (.tup q):=by
   match l,hnd,hlt,hcut with
   | [],_,_,hcut=>
     show{[],by simp,.nil,by simp,?_};simp[hcut];rfl
   | [a],_,hlt,hcut=>
     show{[(a,odd)],by simp,by simp,λs hs=>by simp at hs;subst hs;show hlt a (.head _),?_};simp[hcut,M.forM,aq,xc,bb,au];rfl
   | a::b::l,hnd,hlt,hcut=>
     let hab:a≠b:=by
      intro z;subst z;simp at hnd
     let hcut2:aB (nD a::nD b::l.map nD) none (some 2)=[nD a,nD b]:=hcut;by_cases h6:left/2%6=1
     .show{[(a,odd),(a,!odd)],by simp,by cases odd<;>simp,λs hs=>?_,?_}
      .simp at hs
       let rfl+rfl:=hs<;>show hlt a (.head _)
      .simp[hcut2,M.forM,aq,xc,bb,au,h6,hU]
       rfl
     .show{[(a,odd),(b,decide (left%2=1))],by simp,by simp[hab],λs hs=>?_,?_}
      .simp at hs
       let rfl+rfl:=hs
       .show hlt a (.head _)
       .show hlt b (.tail _ (.head _))
      .simp[hcut2,M.forM,aq,xc,bb,au,h6]
       rfl
  let{l',hp,hpw,hs}:=Ph S hS2 hSn;show{.ei l',{rfl,λs hs=>hSl s (hp.mem_iff.mp hs)},{by rw[hp.length_eq];show hS2,hpw},?_};rw[hSr,hs];rfl
 .let{l',hp,hpw,hs}:=Pg l hnd ∅
  by_cases hks:k=.s
  .subst hks
   show{.su l' odd,{rfl,λs hs=>hlt s (hp.mem_iff.mp hs)},hpw,?_};simp[hs,aJ]
  .let hki:k=.i\/k=.n:=by cases k<;>simp at hk hks ⊢
   show{.im l' hd,{hki,λs hs=>hlt s (hp.mem_iff.mp hs),hhn},hpw,?_};simp[hs,aJ,hk,hks]
def ar(b:Nat):Str:=Str.ofString (toString (b:Int))
def m_:∀b,b<60->(ar b).length<=2:=by decide +kernel
theorem jt{b:Nat}(h:b<60):da [.int (b:Int)]=some (.str (ar b)):=by
 rw[D_,if_pos ∅];rfl
theorem rT{b:Nat}(h:b<60){x:Str}(hx:x.length<=10):qV x (.int (b:Int))=some (.str (x++ar b)):=by
 let:=m_ b h;let e:Str.ofString (toString (b:Int))=ar b:=rfl;rw[Ea,e,if_pos {by ac_nf,by rw[M7];ac_nf}]
theorem xD{a b:Str}(ha:a.length<=10)(hb:b.length<=10):cq (.str a) (.str b)=some (.str (a++b)):=by
 rw[Eb,if_pos ∅]
def ju{sep:Str}{l:AN}{xs:AJ}(h:l=xs.map D.str)(hs:(xs.map λx:Str=>sep.length+x.length).sum<=16000000):dN sep [.lst l]=some (.str (Txt.join sep xs)):=by
 rw[Uq,h,D3,qd,if_pos (Up hs)]
abbrev T(s:String):Str:=Str.ofString s
def aS(s:dM):Str:=(if s.2=true then T "+" else T "-")++ar s.1
def Yd:Rl->AJ
 | .ei l=>T "rule"::l.map aS
 | .su b o=>T "rule"::(if o=true then T "odd" else T "even")::b.map ar
 | .im b h=>T "rule"::(b.map ar++[T ">"]++h.toList.map ar)
def lenPM:(T "+").length=1/\(T "-").length=1:=by decide +kernel
theorem GR{s:dM}(h:s.1<60):wL [au s]=some (.str (aS s)):=by
 rw[wL,Yu (by rfl)];let h1:=rT h (x:=T "+") (by rw[lenPM.1];decide);let h2:=rT h (x:=T "-") (by rw[lenPM.2];decide);let{b,o}:=s;cases o<;>simp[NX,Ye,au,h1,h2,aS]
theorem X1{s:dM}(h:s.1<60):xh [au s]=some (.str (aS s)):=by
 rw[xh,Yu (by rfl)];let h0:=jt h;let hn:=m_ s.1 h;let h1:=xD (a:=T "+") (b:=ar s.1) (by rw[lenPM.1];decide) ∅;let h2:=xD (a:=T "-") (b:=ar s.1) (by rw[lenPM.2];decide) ∅;let{b,o}:=s;cases o<;>simp[OL,Ye,au,h0,h1,h2,aS]
def gT{a b:AN}(h:a.length+b.length<=1000000):aC (.lst a) (.lst b)=some (a++b):=if_pos h
theorem X2{k:Kd}{r:Rl}(hr:In k 60 r)(hs:sz r<=1000):wM [ak k,aJ r]=some (.lst ((Yd r).map D.str)):=by
 rw[wM,Yu (by rfl)]
 cases r with
 | ei l=>
   let{rfl,h60}:=hr
   let h:=bQ (fe:=Fw) (r:=[]) (enc:=au) (λs=>D.str (aS s)) (l:=l) (λs hs=>by
    let:=GR (h60 s hs)
    simp[Fw,this])
   let hl:l.length<=1000:=by simpa [sz]using hs
   let hc:=gT (a:=[.str (T "rule")]) (b:=l.map λs=>D.str (aS s)) (by simp;ac_nf);simp[rq,Ye,aJ,aj,h,hc,Yd,wn]
 | su b o=>
   let{rfl,h60}:=hr
   let h:=bQ (fe:=rn) (r:=[]) (enc:=nD) (λx=>D.str (ar x)) (l:=b) (λx hx=>by
    let:=jt (h60 x hx)
    simp[rn,nD,this])
   let hl:b.length<=1000:=by simpa [sz]using hs
   let hc:=λw:Str=>gT (a:=[.str (T "rule"),.str w]) (b:=b.map λx=>D.str (ar x)) (by simp;ac_nf);cases o<;>simp[rq,Ye,aJ,aj,h,hc,Yd,wn]
 | im b h=>
   let{hk,h60,hh}:=hr
   let hke:¬k=.e:=by let rfl+rfl:=hk<;>decide
   let hks:¬k=.s:=by let rfl+rfl:=hk<;>decide
   let hcm:=bQ (fe:=rn) (r:=[]) (enc:=nD) (λx=>D.str (ar x)) (l:=b) (λx hx=>by
    let:=jt (h60 x hx)
    simp[rn,nD,this])
   let hl:b.length<=1000:=by simp[sz]at hs;ac_nf
   let hc1:=gT (a:=[.str (T "rule")]) (b:=b.map λx=>D.str (ar x)) (by simp;ac_nf);let hc2:=gT (a:=[.str (T "rule")]++b.map λx=>D.str (ar x)) (b:=[.str (T ">")]) (by simp;ac_nf)
   cases h with
   | none=>
     let hc3:=gT (a:=[.str (T "rule")]++(b.map λx=>D.str (ar x))++[.str (T ">")]) (b:=[]) (by simp;ac_nf);simp only[ja,List.cons_append,Qj]at hc1 hc2 hc3;simp[rq,Ye,aJ,aj,hcm,hc1,hc2,hc3,hke,hks,Yd,az,wn]
   | some x=>
     let hx:=jt (hh x rfl);let hc3:=gT (a:=[.str (T "rule")]++(b.map λx=>D.str (ar x))++[.str (T ">")]) (b:=[.str (ar x)]) (by simp;ac_nf);simp only[ja,List.cons_append,Qj]at hc1 hc2 hc3;simp[rq,Ye,aJ,aj,hcm,hc1,hc2,hc3,hke,hks,hx,Yd,az,wn]
theorem X3{k:Kd}{r:Rl}(hr:In k 60 r)(hs:sz r<=1000):xi [ak k,aJ r]=some (.lst ((Yd r).map D.str)):=by
 rw[xi,Yu (by rfl)]
 cases r with
 | ei l=>
   let{rfl,h60}:=hr
   let h:=bQ (fe:=FZ) (r:=[]) (enc:=au) (λs=>D.str (aS s)) (l:=l) (λs hs=>by
    let:=X1 (h60 s hs)
    simp[FZ,this])
   let hl:l.length<=1000:=by simpa [sz]using hs
   let hc:=gT (a:=[.str (T "rule")]) (b:=l.map λs=>D.str (aS s)) (by simp;ac_nf);simp[mW,Ye,aJ,aj,h,hc,Yd,wn]
 | su b o=>
   let{rfl,h60}:=hr
   let h:=bQ (fe:=rE) (r:=[]) (enc:=nD) (λx=>D.str (ar x)) (l:=b) (λx hx=>by
    let:=jt (h60 x hx)
    simp[rE,nD,this])
   let hl:b.length<=1000:=by simpa [sz]using hs
   let hc:=λw:Str=>gT (a:=[.str (T "rule"),.str w]) (b:=b.map λx=>D.str (ar x)) (by simp;ac_nf);cases o<;>simp[mW,Ye,aJ,aj,h,hc,Yd,wn]
 | im b h=>
   let{hk,h60,hh}:=hr
   let hke:¬k=.e:=by let rfl+rfl:=hk<;>decide
   let hks:¬k=.s:=by let rfl+rfl:=hk<;>decide
   let hcm:=bQ (fe:=rE) (r:=[]) (enc:=nD) (λx=>D.str (ar x)) (l:=b) (λx hx=>by
    let:=jt (h60 x hx)
    simp[rE,nD,this])
   let hl:b.length<=1000:=by simp[sz]at hs;ac_nf
   let hc1:=gT (a:=[.str (T "rule")]) (b:=b.map λx=>D.str (ar x)) (by simp;ac_nf);let hc2:=gT (a:=[.str (T "rule")]++b.map λx=>D.str (ar x)) (b:=[.str (T ">")]) (by simp;ac_nf);simp only[ja,List.cons_append,Qj]at hc1 hc2
   cases h with
   | none=>simp[mW,Ye,aJ,aj,hcm,hc1,hc2,hke,hks,Yd,az,wn,frz,frz1]
   | some x=>
     let hx:=jt (hh x rfl)
     let hcap:b.length+2<1000000:=by ac_nf
     simp[mW,Ye,aJ,aj,hcm,hc1,hc2,hke,hks,hx,Yd,az,wn,frz,frz1,bb,hcap]
theorem nc{s B:Nat}:∀{l:AJ},(∀x∈l,x.length<=B)->(l.map λx:Str=>s+x.length).sum<=l.length*(s+B)
 | [],_=>by simp
 | x::l,h=>by
   let h1:=nc (s:=s) (l:=l) λy hy=>h y (.tail _ hy);let h2:=h x (.head _);rw[Qd,List.sum_cons,qt,Nat.add_mul,Nat.one_mul];ac_nf
def y8(b:Bool):Str:=if b=true then T "k" else T "s"
def bL(b:Bool):Str:=if b=true then T "1" else T "0"
def kS:Kd->Str
 | .e=>T "eithers" | .s=>T "sums" | .i=>T "ifs" | .n=>T "nots"
def rV(k:Kd):ak k=.str (kS k):=by cases k<;>rfl
def y4(w:Str)(xs:AJ):AJ:=if xs=[]then [w]else [w,Txt.join (T "") xs]
def bc(k:Kd)(R:List Rl)(H ev:AG):List AJ:=[T "kind",kS k]::y4 (T "hands") (H.map y8)::(R.map Yd++if ev=[]then []else [y4 (T "settled") (ev.map bL)])
def bO(L:List AJ):Str:=Txt.join (T "\n") (L.map (Txt.join (T " ")))
def lg(w:AJ):Prop:=(∀x∈w,x.length<=100)/\w.length<=1010
def lens:(T "").length=0/\(T " ").length=1/\(T "\n").length=1/\(T "rule").length=4/\(T "odd").length=3/\(T "even").length=4/\(T ">").length=1/\(T "kind").length=4/\(T "hands").length=5/\(T "settled").length=7:=by decide +kernel
def xE(b:Bool):(y8 b).length=1:=by cases b<;>decide +kernel
def GU(b:Bool):(bL b).length=1:=by cases b<;>decide +kernel
def GV(k:Kd):(kS k).length<=10:=by cases k<;>decide +kernel
theorem X4{k:Kd}{r:Rl}(hr:In k 60 r)(hs:sz r<=1000):lg (Yd r):=by
 let{_,_,_,l4,l5,l6,l7,_}:=lens
 cases r with
 | ei l=>
   let{rfl,h60}:=hr
   let hl:l.length<=1000:=by simpa [sz]using hs
   show{λx hx=>?_,by simp[Yd];ac_nf};let rfl+hx:=qu hx
   .lia
   .let{s,hs,rfl}:=qy hx
    let:=m_ s.1 (h60 s hs);let{p1,p2}:=lenPM;unfold aS;rw[M7]
    split<;>ac_nf
 | su b o=>
   let{rfl,h60}:=hr
   let hl:b.length<=1000:=by simpa [sz]using hs
   show{λx hx=>?_,by simp[Yd];ac_nf};let rfl+hx:=qu hx
   .lia
   .let rfl+hx:=qu hx
    .split<;>ac_nf
    .let{s,hs,rfl}:=qy hx
     let:=m_ s (h60 s hs);ac_nf
 | im b h=>
   let{hk,h60,hh}:=hr
   let hl:b.length<=1000:=by simp[sz]at hs;ac_nf
   let hol:h.toList.length<=1:=by cases h<;>simp
   show{λx hx=>?_,by simp[Yd];ac_nf};let rfl+hx:=qu hx
   .lia
   .let hx+hx:=qw hx
    .let hx+hx:=qw hx
     .let{s,hs,rfl}:=qy hx
      let:=m_ s (h60 s hs);ac_nf
     .let:x=T ">":=by simpa using hx
      rw[this];ac_nf
    .let{s,hs,rfl}:=qy hx
     let:=m_ s (hh s (by simpa using hs));ac_nf
def ng{α:Type}{f:α->Str}(hf:∀a,(f a).length=1)(l:List α):((l.map f).map λx:Str=>(T "").length+x.length).sum<=l.length:=by
 let h:=nc (s:=(T "").length) (B:=1) (l:=l.map f) (λx hx=>by
  let{a,_,rfl}:=qy hx;rw[hf]
  show qv _)
 rw[qf,lens.1]at h;simpa [lens.1]using h
theorem PB{α:Type}{f:α->Str}(hf:∀a,(f a).length=1){l:List α}(hl:l.length<=60){w:Str}(hw:w.length<=100):lg (y4 w (l.map f)):=by
 unfold y4
 split
 .show{λx hx=>by simp at hx;subst hx;show hw,by simp}
 .show{λx hx=>?_,by simp}
  let rfl+hx:=qu hx
  .show hw
  .let:x=Txt.join (T "") (l.map f):=by simpa using hx
   rw[this];let h1:=qU (T "") (l.map f);let h2:=ng hf l;ac_nf
theorem X5{k:Kd}{R:List Rl}{H ev:AG}(hR:∀r∈R,In k 60 r/\sz r<=1000)(hH:H.length<=60)(he:ev.length<=60):∀w∈bc k R H ev,lg w:=by
 let{_,_,_,_,_,_,_,l8,l9,l10}:=lens;intro w hw;let hk:=GV k;let rfl+hw:=qu hw
 .show{λx hx=>?_,by simp}
  simp at hx;let rfl+rfl:=hx<;>ac_nf
 .let rfl+hw:=qu hw
  .show PB xE hH ∅
  .let hw+hw:=qw hw
   .let{r,hr,rfl}:=qy hw
    show X4 (hR r hr).1 (hR r hr).2
   .split at hw
    .cases hw
    .let:w=y4 (T "settled") (ev.map bL):=by simpa using hw
     rw[this];show PB GU he ∅
theorem GW{w:AJ}(h:lg w):dN (T " ") [.lst (w.map D.str)]=some (.str (Txt.join (T " ") w))/\(Txt.join (T " ") w).length<=110000:=by
 let h1:=nc (s:=(T " ").length) h.1;rw[lens.2.1]at h1;let h2:=h.2;let h3:w.length*(1+100)<=1010*101:=Nat.mul_le_mul_right _ h2;let h4:=qU (T " ") w;rw[lens.2.1]at h4;show{ju rfl (by rw[lens.2.1];ac_nf),by ac_nf}
theorem PC{L:List AJ}(hL:∀w∈L,lg w)(hl:L.length<=100):dN (T "\n") [.lst (L.map λw=>D.str (Txt.join (T " ") w))]=some (.str (bO L)):=by
 let e:(L.map λw=>D.str (Txt.join (T " ") w))=(L.map (Txt.join (T " "))).map D.str:=by rw[Qf];rfl
 let h1:=nc (s:=(T "\n").length) (B:=110000) (l:=L.map (Txt.join (T " "))) (λx hx=>by
  let{w,hw,rfl}:=qy hx
  show(GW (hL w hw)).2)
 rw[qf]at h1
 let h2:L.length*((T "\n").length+110000)<=100*(1+110000):=by rw[lens.2.2.1];show Nat.mul_le_mul_right _ hl
 show ju e (Qg h1 (Qg h2 (by decide)))
abbrev wD(w:AJ):D:=.lst (w.map D.str)
def PD{L:List AJ}(hL:∀w∈L,lg w)(hl:L.length<=100):mX [.lst (L.map wD)]=some (.str (bO L)):=by
 rw[mX,Yu (by rfl)]
 let hc:=bQ (fe:=F3) (r:=[]) (enc:=wD) (λw=>D.str (Txt.join (T " ") w)) (l:=L) (λw hw=>by
  let:=(GW (hL w hw)).1
  simp[F3,this])
 let hj:=PC hL hl;nomatch L.map wD=LL,(L.map λw=>D.str (Txt.join (T " ") w))=TT;simp[OU,Ye,aj,hc,hj]
theorem PF{w:Str}{xs:AJ}(h:(xs.map λx:Str=>(T "").length+x.length).sum<=1000):rz [.str w,.lst (xs.map D.str)]=some (wD (y4 w xs)):=by
 rw[rz,Yu (by rfl)];let hj:=ju (sep:=T "") (l:=xs.map D.str) (xs:=xs) rfl ∅;unfold y4
 cases xs with
 | nil=>simp[Fx,Ye]
 | cons x xs=>
   rw[if_neg nofun];simp only[Qd]at hj;simp[Fx,Ye,hj]
def GX(b:Bool):uE EN (aG b)=some (.str (y8 b)):=by cases b<;>rfl
def GY(b:Bool):ix (aG b) (.int 0)=some (.str (y8 b)):=by cases b<;>rfl
theorem X6{k:Kd}{R:List Rl}{H ev:AG}(hR:∀r∈R,In k 60 r/\sz r<=1000)(hl:R.length<=60)(hH:H.length<=60)(he:ev.length<=60):wN [d4 k R H ev]=some (.str (bO (bc k R H ev))):=by
 rw[wN,Yu (by rfl)]
 let c0:=bQ (fe:=Fy) (r:=[]) (enc:=aG) (λb=>D.str (y8 b)) (l:=H) (λb _=>by
  let:=GX b
  simp[Fy,this])
 let c1:=bQ (fe:=Fz) (r:=[↑(ak k)]) (enc:=aJ) (λr=>wD (Yd r)) (l:=R) (λr hr=>by
  let:=X2 (hR r hr).1 (hR r hr).2
  simp[Fz,this])
 let c2:=bQ (fe:=N0) (r:=[]) (enc:=D.bl) (λb=>D.str (bL b)) (l:=ev) (λb _=>by cases b<;>rfl);let hsm:=X5 hR hH he
 let c3:=bQ (fe:=FA) (r:=[]) (enc:=wD) (λw=>D.str (Txt.join (T " ") w)) (l:=bc k R H ev) (λw hw=>by
  let:=(GW (hsm w hw)).1
  simp[FA,this])
 let hj:=PC hsm (by unfold bc;simp;split<;>simp<;>ac_nf);let s1:=PF (w:=T "hands") (xs:=H.map y8) (Qg (ng xE H) ∅);let s2:=PF (w:=T "settled") (xs:=ev.map bL) (Qg (ng GU ev) ∅);rw[Qf]at s1 s2;let m2:=iN "evening" (by decide) mK (bV k R) (.tup (H.map aG)) (.lst (ev.map D.bl));rw[X0]at m2;let hst:Ye 3 [d4 k R H ev]=[↑(d4 k R H ev),none,none]:=rfl;rw[hst];let e1:(D.str ∘ y8)=λb=>D.str (y8 b):=rfl;let e2:(D.str ∘ bL)=λb=>D.str (bL b):=rfl;rw[e1]at s1;rw[e2]at s2
 let q4:mL [↑(d4 k R H ev),↑(ak k),some (.ow ((bc k R H ev).map wD))]=some (.rt (.str (bO (bc k R H ev)))):=by
  nomatch (bc k R H ev).map wD=LL,((bc k R H ev).map λw=>D.str (Txt.join (T " ") w))=TT;simp[mL,frz,frz1,aj,c3,hj]
 let q3:rA [↑(d4 k R H ev),↑(ak k),some (.ow (wD [T "kind",kS k]::wD (y4 (T "hands") (H.map y8))::R.map λr=>wD (Yd r)))]=some (.rt (.str (bO (bc k R H ev)))):=by
  rw[rA,j7];by_cases hev:ev=[]
  .subst hev
   let hr:(bc k R H []).map wD=wD [T "kind",kS k]::wD (y4 (T "hands") (H.map y8))::R.map λr=>wD (Yd r):=by
    simp[bc,Qf,wn]
   rw[hr]at q4;simp only[List.map_nil]at m2;simp[m2,-mL];show q4
  .let hr:(bc k R H ev).map wD=(wD [T "kind",kS k]::wD (y4 (T "hands") (H.map y8))::R.map λr=>wD (Yd r))++[wD (y4 (T "settled") (ev.map bL))]:=by
    simp[bc,hev,Qf,wn]
   rw[hr]at q4
   let hne:(ev.map D.bl).isEmpty=false:=by cases ev<;>simp at hev ⊢
   let hcap:R.length+2<1000000:=by ac_nf
   nomatch (ev.map λb=>D.str (bL b))=LD,wD (y4 (T "settled") (ev.map bL))=WS',wD (y4 (T "hands") (H.map y8))=WH,wD [T "kind",kS k]=WK;simp[m2,hne,aj,c2,s2,bb,hcap,-mL];show q4
 let hcapx:2+R.length<=1000000:=by ac_nf
 let hk:D.lst [D.str (T "kind"),ak k]=wD [T "kind",kS k]:=by rw[rV];rfl
 rw[FD,j7];nomatch (H.map λb=>D.str (y8 b))=LH,wD (y4 (T "hands") (H.map y8))=WH,wD [T "kind",kS k]=WK;simp[FC,FB,aj,c0,s1,hk,c1,eX,hcapx,-rA];rw[q3];rfl
theorem rW{l:AN}(hd:aY l<=50)(neg:Bool):aA neg (.lst l) (.lst [])=some (if neg then !l.isEmpty else l.isEmpty):=by
 rw[vo (by simp only[aL];ac_nf) (by simp only[aL,aY];ac_nf)];cases l<;>simp
theorem GZ(H:AG):aY (H.map aG)<=50:=Qg (j9 (n:=0) λd hd=>by
 let{x,_,rfl}:=qy hd
 show qv _) ∅
theorem G7(H:AG):aY (H.map D.bl)<=50:=Qg (j9 (n:=0) λd hd=>by
 let{x,_,rfl}:=qy hd
 show qv _) ∅
theorem X7{k:Kd}{R:List Rl}{H ev:AG}(hR:∀r∈R,In k 60 r/\sz r<=1000)(hl:R.length<=60)(hH:H.length<=60)(he:ev.length<=60):xj [ak k,.lst (R.map aJ),.lst (H.map aG),.lst (ev.map D.bl)]=some (.lst ((bc k R H ev).map wD)):=by
 rw[xj,Yu (by rfl)];let hst:Ye 6 [ak k,.lst (R.map aJ),.lst (H.map aG),.lst (ev.map D.bl)]=[↑(ak k),↑(.lst (R.map aJ)),↑(.lst (H.map aG)),↑(.lst (ev.map D.bl)),none,none]:=rfl;rw[hst]
 let c0:=bQ (fe:=F0) (r:=[]) (enc:=aG) (λb=>D.str (y8 b)) (l:=H) (λb _=>by
  let:=GY b
  simp[F0,this])
 let c1:=bQ (fe:=OS) (r:=[]) (enc:=D.bl) (λb=>D.str (bL b)) (l:=ev) (λb _=>by cases b<;>rfl);let j0:=ju (sep:=T "") (l:=H.map λb=>D.str (y8 b)) (xs:=H.map y8) (by rw[Qf];rfl) (Qg (ng xE H) ∅);let j1:=ju (sep:=T "") (l:=ev.map λb=>D.str (bL b)) (xs:=ev.map bL) (by rw[Qf];rfl) (Qg (ng GU ev) ∅);let n0:=rW (GZ H) true;let n1:=rW (G7 ev) true
 let q0:∀WH:D,rF [↑(ak k),↑(.lst (R.map aJ)),↑(.lst (H.map aG)),↑(.lst (ev.map D.bl)),some (.ow [wD [T "kind",kS k],WH]),none]=some (.rt (.lst (wD [T "kind",kS k]::WH::((R.map λr=>wD (Yd r))++if ev=[]then []else [wD (y4 (T "settled") (ev.map bL))])))):=by
  intro WH
  let{ρ',e1,y,rfl}:=pU (gt:=aq 5) (fb:=F1) aJ (λpre ρ=>∃y:AQ,ρ=[↑(ak k),↑(.lst (R.map aJ)),↑(.lst (H.map aG)),↑(.lst (ev.map D.bl)),some (.ow (wD [T "kind",kS k]::WH::pre.map λr=>wD (Yd r))),y]) R []
   [↑(ak k),↑(.lst (R.map aJ)),↑(.lst (H.map aG)),↑(.lst (ev.map D.bl)),some (.ow [wD [T "kind",kS k],WH]),none] {(none),rfl} (by
    rintro q a r ρ e ⟨y,rfl⟩;rw[Qj]at e
    let ha:a∈R:=by rw[e];simp
    let hq:q.length<R.length:=by rw[e];simp
    let hw:=X3 (hR a ha).1 (hR a ha).2
    let hcap:q.length+2<1000000:=by ac_nf
    show{_,_,rfl,?_,↑(aJ a),rfl};nomatch wD [T "kind",kS k]=WK
    simp[F1,hw,bb,hcap])
  rw[Qj]at e1;rw[rF,j7];nomatch wD [T "kind",kS k]=WK;simp[e1,-F2];rw[F2,j7];by_cases hev:ev=[]
  .subst hev
   simp only[List.map_nil]at n1;simp[n1,frz,frz1]
  .let hne:(ev.map D.bl).isEmpty=false:=by cases ev<;>simp at hev ⊢
   let hsg:y4 (T "settled") (ev.map bL)=[T "settled",Txt.join (T "") (ev.map bL)]:=if_neg (by simpa using hev)
   let hcap:R.length+2<1000000:=by ac_nf
   rw[hne]at n1;nomatch (ev.map λb=>D.str (bL b))=LD,ev.map D.bl=LE;simp[n1,aj,c1,j1,bb,hcap,frz,frz1,hev,hsg]
 let hk:D.lst [D.str (T "kind"),ak k]=wD [T "kind",kS k]:=by rw[rV];rfl
 let hrow:(bc k R H ev).map wD=wD [T "kind",kS k]::wD (y4 (T "hands") (H.map y8))::((R.map λr=>wD (Yd r))++if ev=[]then []else [wD (y4 (T "settled") (ev.map bL))]):=by
  unfold bc;rw[Qd,Qd,Qk,Qf];by_cases hev:ev=[]
  .simp[hev,wn]
  .simp[hev,wn]
 rw[hrow];unfold OT iy;rw[if_pos nofun];by_cases hHe:H=[]
 .subst hHe
  let q:=q0 (wD [T "hands"]);let hsg:y4 (T "hands") (([]:AG).map y8)=[T "hands"]:=if_pos rfl;rw[hsg];simp only[List.map_nil]at n0 q;simp[n0,hk,-rF];show(congrArg (λo:Option Out=>o.bind aZ) q).trans rfl
 .let q:=q0 (wD [T "hands",Txt.join (T "") (H.map y8)])
  let hne:(H.map aG).isEmpty=false:=by cases H<;>simp at hHe ⊢
  let hsg:y4 (T "hands") (H.map y8)=[T "hands",Txt.join (T "") (H.map y8)]:=if_neg (by simpa using hHe);rw[hsg];rw[hne]at n0;nomatch (H.map λb=>D.str (y8 b))=LD,H.map aG=LE;simp[n0,hk,aj,c0,j0,-rF];show(congrArg (λo:Option Out=>o.bind aZ) q).trans rfl
def PH(k:Kd)(R:List Rl)(H ev:AG):(bc k R H ev).length<=R.length+3:=by
 unfold bc;simp
 split<;>simp
theorem G8(x:Int):∃k:Kd,aN [D.str "eithers",D.str "sums",D.str "ifs",D.str "nots"] (x%4)=some (ak k):=by
 let e:x%4=0\/x%4=1\/x%4=2\/x%4=3:=by ac_nf
 let e+e+e+e:=e<;>rw[e]
 .show{.e,rfl}
 .show{.s,rfl}
 .show{.i,rfl}
 .show{.n,rfl}
theorem G9(x:Int):aN [D.str "keeper",D.str "storm"] (x%2)=some (aG (decide (x%2=0))):=by
 let e:x%2=0\/x%2=1:=by ac_nf
 let e+e:=e<;>rw[e]<;>rfl
end Lw
namespace Lw
variable {ρ':Ro}{LL:AN}{at_:Int}{B Z:D}{R0:List Rl}{r0:Rl}
open PySem L2 M Bk Builtin Builtin.Str
def fz(neg:Bool)(a b:Str):aA neg (.str a) (.str b)=some (if neg then !decide (a=b)else decide (a=b)):=by
 rw[vo nofun nofun,Ci];by_cases h:a=b<;>cases neg<;>simp[h]
def rX{neg:Bool}{ks:AJ}{f:Str}(h:f∈ks):cy neg ks (.str f)=some (!neg):=by
 change some (decide (f∈ks)!=neg)=_;rw[wm h];cases neg<;>rfl
abbrev FIG:Str:=Str.ofString "0123456789"
def rY(n:Nat):Bool:=(ar n).cps.all (·<128)&&decide (1<=(ar n).length)&&decide ((ar n).length<=3)&&(ar n).cps.toList.all (λc=>!(occurrences FIG {#[c]} 0 FIG.length 1).isEmpty)&&(decide ((ar n).length<=1)||!((ar n).cps.toList.head?==some 48))
def G_:∀n,n<60->rY n=true:=by decide +kernel
def Hc{c:Nat}(h:¬c=48):¬({#[c]}:Str)=Str.ofString "0":=λe=>h (by
 let e2:Str.ofString "0"={#[48]}:=by decide +kernel
 rw[e2]at e;injection e with e;injection e with e
 injection e with e)
theorem X8{n:Nat}(h:n<60):wO [.str (ar n)]=some (.int n):=by
 rw[wO,Yu (by rfl)];let hok:=G_ n h;unfold rY at hok;simp only[Qe,Bool.or_eq_true,wj,List.all_eq_true]at hok;let{{{{h1,h2},h3},h4},h5}:=hok;let hl:eG [.str (ar n)]=some (.int ((ar n).length:Int)):=if_pos ∅;let hc:fx (.str (ar n))=some ((ar n).cps.toList.map λc=>D.str {#[c]}):=if_pos {h1,by ac_nf}
 let hi:iA [.str (ar n)]=some (.int (n:Int)):=by
  change(if (ar n).length<=640 then (intText? (ar n)).map D.int else none)=_;rw[if_pos ∅,show ar n=Str.ofString (toString (n:Int)) from rfl,W.KIN.num_reads ∅ ∅];rfl
 let hm:=bQ (fe:=N4) (r:=[]) (enc:=λc:Nat=>D.str {#[c]}) (λ_=>.bl true) (l:=(ar n).cps.toList) (λc hc=>by
  let:=h4 c hc;change(qW (.str {#[c]}) (.str FIG)).map D.bl=_;change some (D.bl (!(occurrences FIG {#[c]} 0 FIG.length 1).isEmpty))=_
  rw[this])
 let h2':(1:Int)<=((ar n).length:Int):=by ac_nf
 let h3':((ar n).length:Int)<=3:=by ac_nf
 by_cases h6:(ar n).length<=1
 .let h6':¬(1:Int)<((ar n).length:Int):=by ac_nf
  simp[FE,Ye,aj,hl,hc,hm,hi,h2',h3',h6',hZ]
 .let h6':(1:Int)<((ar n).length:Int):=by ac_nf
  obtain⟨c,hc0⟩:∃c,(ar n).cps.toList.head?=some c:=by
   cases e:(ar n).cps.toList with
   | nil=>
     let:(ar n).cps.toList.length=0:=by rw[e];rfl
     rw[qj]at this;show absurd this (by let h:(ar n).cps.size=(ar n).length:=rfl;ac_nf)
   | cons c l=>show{(c),rfl}
  let hne:¬c=48:=λz=>by
   let h5+h5:=h5
   .show h6 h5
   .rw[hc0,z]at h5
    show absurd h5 (by decide)
  let hx:ix (.str (ar n)) (.int 0)=some (.str {#[c]}):=by
   change(if (ar n).length<=1000000 then (aN (ar n).cps.toList 0).map (λc=>D.str {#[c]})else none)=_;rw[if_pos ∅]
   cases e:(ar n).cps.toList with
   | nil=>rw[e]at hc0;cases hc0
   | cons d l=>
     rw[e]at hc0;cases hc0;rw[Md];rfl
  let hz:=Hc hne;simp[FE,Ye,aj,hl,hc,hm,hi,h2',h3',h6',hZ,hx,fz,hz]
theorem rZ{n:Nat}(h:n<60):jl [.int n]=some (.bl true):=by
 rw[jl,Yu (by rfl)]
 let h1:((n:Nat):Int)<60:=by ac_nf
 let h0:(0:Int)<=((n:Nat):Int):=by ac_nf
 simp[ER,Ye,cL,fG,jX,hZ,h0,h1]
def Hg{n:Nat}(h:n<60):gN [.str (ar n)]=some (nD n):=by
 rw[gN,Yu (by rfl)];let h1:=X8 h;let h2:=rZ h;simp[N5,Ye,h1,h2,nD]
def X9:∀n,n<60->∀b:Bool,(aS (n,b)).length<=10/\Txt.slice (aS (n,b)) (some 1) none=ar n/\aN (aS (n,b)).cps.toList 0=some (if b=true then 43 else 45):=by decide +kernel
def X_:({#[43]}:Str)∈my/\({#[45]}:Str)∈my/\gt_TRUTHS_BY_MARK.lookup {#[43]}=some true/\gt_TRUTHS_BY_MARK.lookup {#[45]}=some false:=by decide +kernel
theorem PJ{s:dM}(h:s.1<60):iH [.str (aS s)]=some (au s):=by
 rw[iH,Yu (by rfl)];let{n,b}:=s;let{f1,f2,f3}:=X9 n h b
 let hc:kM 1 (.str (aS (n,b)))=some (.str (ar n)):=by
  change(if _ then some (D.str (Txt.slice (aS (n,b)) (some 1) none))else none)=_;rw[if_pos ∅,f2]
 let hb:=Hg (n:=n) h;let{m1,m2,m3,m4}:=X_
 let hx:ix (.str (aS (n,b))) (.int 0)=some (.str {#[if b=true then 43 else 45]}):=by
  change(if _ then (aN (aS (n,b)).cps.toList 0).map (λc=>D.str {#[c]})else none)=_;rw[if_pos ∅,f3];rfl
 cases b with
 | true=>
   let i1:cy true my (.str {#[43]})=some false:=rX m1
   let l1:kN gt_TRUTHS_BY_MARK (.str {#[43]})=some (.bl true):=by
    change(gt_TRUTHS_BY_MARK.lookup {#[43]}).map _=_;rw[m3];rfl
   simp at hx;simp[FF,Ye,hc,hb,hx,i1,l1,cK,iW,au,nD]
 | false=>
   let i1:cy true my (.str {#[45]})=some false:=rX m2
   let l1:kN gt_TRUTHS_BY_MARK (.str {#[45]})=some (.bl false):=by
    change(gt_TRUTHS_BY_MARK.lookup {#[45]}).map _=_;rw[m4];rfl
   simp at hx;simp[FF,Ye,hc,hb,hx,i1,l1,cK,iW,au,nD]
def lc(b:Bool):Nat:=if b=true then 107 else 115
def dc(b:Bool):Nat:=if b=true then 49 else 48
def xF:∀b,y8 b={#[lc b]}:=by decide +kernel
def xG:∀b,bL b={#[dc b]}:=by decide +kernel
def YB:∀b,gt_HANDS_BY_LETTER.lookup {#[lc b]}=some (Str.ofString (if b then "keeper" else "storm")):=by decide +kernel
def YC:∀b,gt_TRUTHS_BY_SIGN.lookup {#[dc b]}=some b:=by decide +kernel
def PK(b:Bool):kU [.str {#[lc b]}]=some (aG b):=by
 rw[kU,Yu (by rfl)]
 let h:iD gt_HANDS_BY_LETTER (.str {#[lc b]})=some (aG b):=by
  change some (match gt_HANDS_BY_LETTER.lookup {#[lc b]}with|some b=>D.str b|none=>.non)=_;rw[YB];rfl
 simp[N7,Ye,h]
def PM(b:Bool):kW [.str {#[dc b]}]=some (.bl b):=by
 rw[kW,Yu (by rfl)]
 let h:iB gt_TRUTHS_BY_SIGN (.str {#[dc b]})=some (.bl b):=by
  change some (match gt_TRUTHS_BY_SIGN.lookup {#[dc b]}with|some b=>D.bl b|none=>.non)=_;rw[YC]
 simp[N8,Ye,h]
theorem xH{l:AN}(h:∀d∈l,cH d .non=false):dj .non l=false:=by
 induction l with
 | nil=>rfl
 | cons a l ih=>
   simp only[dj]at ih ⊢;simp;show{h a (.head _),λx hx=>h x (.tail _ hx)}
theorem xI{A:Addr}{fn:AN->Option D}(hA:tv.lookup A=some fn){α:Type}{enc out:α->D}{c:D}{l:List α}(hc:jj (b1 (af 1) Yk) (b1 (af 1) fx) [↑(.adr A),↑c,none]=some (l.map enc))(hf:∀a∈l,fn [enc a]=some (out a))(hn:∀a∈l,cH (out a) .non=false)(hd:∀a∈l,aL (out a)<=1)(hl:l.length<=1000):Ys [.adr A,c]=some (.lst (l.map out)):=by
 rw[Ys,Yu (by rfl)];let hst:Ye 3 [.adr A,c]=[↑(.adr A),↑c,none]:=rfl;rw[hst]
 let hm:=bQ (fe:=FG) (r:=[↑(.adr A)]) (enc:=enc) out (l:=l) (λa ha=>by
  unfold FG mx
  simp[hA,hf a ha])
 let hi:dq false .non (.lst (l.map out))=some false:=by
  rw[vp rfl (by simp[aL]) (Qg (j9 (n:=1) λd hd'=>by
   let{a,ha,rfl}:=qy hd'
   show hd a ha) (by decide))]
  rw[xH λd hd'=>by
   let{a,ha,rfl}:=qy hd'
   show hn a ha]
  rfl
 simp[N_,hc,hm,aj,hi,frz,frz1]
end Lw
namespace Lw
variable {ρ':Ro}{LL:AN}{at_:Int}{B Z:D}{R0:List Rl}{r0:Rl}
open PySem L2 M Bk
def xJ:tv.lookup 387=some gN:=rfl
def xK:tv.lookup 394=some iH:=rfl
def Hh:tv.lookup 401=some kU:=rfl
def Hi:tv.lookup 408=some kW:=rfl
def Hj(A:Addr)(l:AN):jj (b1 (af 1) Yk) (b1 (af 1) fx) [↑(.adr A),↑(.lst l),none]=some l:=rfl
def xM{b:AE}(h:∀x∈b,x<60)(hl:b.length<=1000):Ys [.adr 387,.lst (b.map λx=>D.str (ar x))]=some (.lst (b.map nD)):=
 xI xJ (enc:=λx=>D.str (ar x)) (out:=nD) (Hj _ _) (λx hx=>Hg (h x hx)) (λx _=>rfl) (λx _=>by simp[aL]) hl
def YD{b:AX}(h:∀x∈b,x.1<60)(hl:b.length<=1000):Ys [.adr 394,.lst (b.map λx=>D.str (aS x))]=some (.lst (b.map au)):=
 xI xK (enc:=λx=>D.str (aS x)) (out:=au) (Hj _ _) (λx hx=>PJ (h x hx)) (λx _=>rfl) (λx _=>by simp[aL,au,aY]) hl
def PN:∀o:Bool,(if o=true then T "odd" else T "even")∈y7/\gt_ODDS_BY_WORD.lookup (if o=true then T "odd" else T "even")=some o:=by decide +kernel
theorem YF{b:AE}(o:Bool)(h:∀x∈b,x<60)(hl:b.length<=1000):wQ [.lst (.str (if o=true then T "odd" else T "even")::b.map λx=>D.str (ar x))]=some (.tup [.lst (b.map nD),.bl o]):=by
 rw[wQ,Yu (by rfl)];let{f1,f2}:=PN o;let i1:cy true y7 (.str (if o=true then T "odd" else T "even"))=some false:=rX f1
 let l1:kN gt_ODDS_BY_WORD (.str (if o=true then T "odd" else T "even"))=some (.bl o):=by
  change(gt_ODDS_BY_WORD.lookup _).map _=_;rw[f2];rfl
 let he:=xM h hl;generalize hw:(if o=true then T "odd" else T "even")=w at *;let hc:=fL (.str w::b.map λx=>D.str (ar x)) 1 nofun;simp at hc
 let hz:¬((b.length:Int)+1=0):=by ac_nf
 simp[Oc,Ye,i1,l1,he,hc,hz]
def r9:∀n,n<60->¬ar n=T ">":=by decide +kernel
theorem Hk{b:AE}{r:AJ}(h:∀x∈b,x<60):(b.map ar++T ">"::r).idxOf (T ">")=b.length:=by
 induction b with
 | nil=>simp
 | cons x b ih=>
   let hx:(ar x==T ">")=false:=by simpa using r9 x (h x (.head _))
   rw[Qd,List.cons_append,List.idxOf_cons,hx,ih λy hy=>h y (.tail _ hy)];rfl
def Hl(l:AJ):aY (l.map D.str)<=60:=Qg (j9 (n:=0) λd hd=>by
 let{a,_,rfl}:=qy hd
 simp[aL]) (by decide)
theorem r_(neg:Bool)(x:Str)(l:AJ):dq neg (.str x) (.lst (l.map D.str))=some (if neg then !decide (x∈l)else decide (x∈l)):=by
 rw[vp rfl (by simp[aL]) (Hl l)]
 let:dj (.str x) (l.map D.str)=decide (x∈l):=by
  induction l with
  | nil=>rfl
  | cons a l ih=>
    simp only[dj]at ih ⊢;rw[Qd,List.any_cons,ih];by_cases h:x=a
    .subst h;simp
    .let h':¬a=x:=λz=>h z.symm
     simp[h,h']
 rw[this]
theorem YG{b:AE}{hd:AL}(h:∀x∈b,x<60)(hh:∀x,hd=some x->x<60)(hl:b.length<=1000):wR [wD (b.map ar++T ">"::hd.toList.map ar)]=some (.tup [.lst (b.map nD),az hd]):=by
 rw[wR,Yu (by rfl)]
 let i1:dq true (.str (T ">")) (wD (b.map ar++T ">"::hd.toList.map ar))=some false:=by
  rw[r_];simp
 let i2:fy (wD (b.map ar++T ">"::hd.toList.map ar)) (.str (T ">"))=some (.int (b.length:Nat)):=by
  rw[Np,Hk h,if_pos nofun]
 let c1:aB ((b.map ar++T ">"::hd.toList.map ar).map D.str) (some ((b.length:Int)+1)) none=hd.toList.map λx=>D.str (ar x):=by
  let:=fL ((b.map ar++T ">"::hd.toList.map ar).map D.str) (b.length+1) nofun;rw[Int.natCast_add]at this;rw[show((b.length:Int)+1)=((b.length:Int)+((1:Nat):Int)) from rfl,this];rw[Qk,List.drop_append];simp[wn]
 let c2:aB ((b.map ar++T ">"::hd.toList.map ar).map D.str) none (some (b.length:Int))=b.map λx=>D.str (ar x):=by
  rw[gw _ _ nofun,Qk,List.take_append];simp[wn];show List.take_of_length_le nofun
 let e1:=xM (b:=hd.toList) (λx hx=>hh x (by simpa using hx)) (by cases hd<;>simp);let e2:=xM h hl;let hst:Ye 3 [wD (b.map ar++T ">"::hd.toList.map ar)]=[↑(wD (b.map ar++T ">"::hd.toList.map ar)),none,none]:=rfl;rw[hst];clear hst;simp only[wD]at i1 i2 ⊢;nomatch (b.map ar++T ">"::hd.toList.map ar).map D.str=W
 let hcap:(b.length:Int)+1<=1001:=by ac_nf
 cases hd with
 | none=>
   simp at c1 e1;simp[FJ,i1,i2,c1,c2,e1,e2,az]
 | some x=>
   simp at c1 e1;simp[FJ,i1,i2,c1,c2,e1,e2,az]
def bj:Rl->D
 | .ei l=>.lst (l.map au)
 | .su b o=>.tup [.lst (b.map nD),.bl o]
 | .im b h=>.tup [.lst (b.map nD),az h]
theorem PP{k:Kd}{r:Rl}(hr:In k 60 r)(hs:sz r<=1000):jr [ak k,wD (Yd r)]=some (bj r):=by
 rw[jr,Yu (by rfl)]
 let er:aA true (.str (T "rule")) (.str "rule")=some false:=by rw[fz];simp
 cases r with
 | ei l=>
   let{rfl,h60}:=hr;let he:=YD h60 hs;let hc:=fL (.str (T "rule")::l.map λx=>D.str (aS x)) 1 nofun;simp at hc;simp[wU,Ye,er,bj,Yd,wn,hc,he]
 | su b o=>
   let{rfl,h60}:=hr;let he:=YF o h60 hs;let hc:=fL (.str (T "rule")::.str (if o=true then T "odd" else T "even")::b.map λx=>D.str (ar x)) 1 nofun;simp at hc;simp[wU,Ye,er,bj,Yd,wn,hc,he]
 | im b h=>
   let{hk,h60,hh}:=hr
   let hke:¬k=.e:=by let rfl+rfl:=hk<;>decide
   let hks:¬k=.s:=by let rfl+rfl:=hk<;>decide
   let he:=YG h60 hh hs;let hc:=fL ((T "rule"::(b.map ar++[T ">"]++h.toList.map ar)).map D.str) 1 nofun
   let e1:((T "rule"::(b.map ar++[T ">"]++h.toList.map ar)).map D.str).drop 1=(b.map ar++T ">"::h.toList.map ar).map D.str:=by simp
   rw[e1]at hc;let e0:(Yd (.im b h)).map D.str=D.str (T "rule")::(b.map ar++[T ">"]++h.toList.map ar).map D.str:=rfl;simp only[wD]at he ⊢;rw[e0];rw[Qd]at hc;nomatch (b.map ar++T ">"::h.toList.map ar).map D.str=W,(b.map ar++[T ">"]++h.toList.map ar).map D.str=W2;let hc:aB (D.str (T "rule")::W2) (some 1) none=W:=hc;simp[wU,Ye,er,bj,hke,hks,hc,he]
def Hn:∀k:Kd,kS k∈gM:=by intro k;cases k<;>decide +kernel
def Ho(k:Kd):mO [wD [T "kind",kS k]]=some (ak k):=by
 rw[mO,Yu (by rfl)]
 let e1:aA true (.str (T "kind")) (.str "kind")=some false:=by rw[fz];simp
 let e2:cy true gM (.str (kS k))=some false:=rX (Hn k);simp[Of,Ye,e1,e2,rV]
theorem PQ{α:Type}{f:α->Str}{c:α->Nat}(hf:∀a,f a={#[c a]}):∀(l:List α) (acc:Array Nat),((l.map f).foldl (λacc p=>acc++(T "").cps++p.cps) acc).toList=acc.toList++l.map c
 | [],acc=>by simp
 | x::l,acc=>by
   rw[Qd,List.foldl_cons,PQ hf l,hf]
   let:(T "").cps=#[]:=by decide +kernel
   simp[this]
def xN{α:Type}{f:α->Str}{c:α->Nat}(hf:∀a,f a={#[c a]})(l:List α):(Txt.join (T "") (l.map f)).cps.toList=l.map c:=by
 cases l with
 | nil=>rfl
 | cons x l=>
   let:=PQ hf l (f x).cps;rw[show(f x).cps=#[c x] from by rw[hf]]at this;rw[Qd];change((l.map f).foldl (λacc p=>acc++(T "").cps++p.cps) (f x).cps).toList=_;rw[hf x,this];rfl
theorem PR{α:Type}{f:α->Str}{c:α->Nat}(hf:∀a,f a={#[c a]})(hc:∀a,c a<128)(l:List α)(hl:l.length<=1000):fx (.str (Txt.join (T "") (l.map f)))=some (l.map λa=>D.str {#[c a]}):=by
 let h:=xN hf l
 let h1:(Txt.join (T "") (l.map f)).cps.all (·<128)=true:=by
  rw[<-Array.all_toList,h];simp[hc]
 let h2:(Txt.join (T "") (l.map f)).length<=1000000:=by
  change(Txt.join (T "") (l.map f)).cps.size<=_;rw[<-qj,h,qf];ac_nf
 change(if _/\_ then some _ else none)=_;rw[if_pos {(h1),h2},h,Qf];rfl
def Hq{A:Addr}{x:Str}{l:AN}(h:fx (.str x)=some l):jj (b1 (af 1) Yk) (b1 (af 1) fx) [↑(.adr A),↑(.str x),none]=some l:=by
 change(match (b1 (af 1) Yk [↑(.adr A),↑(.str x),none])with|some l=>some l|none=>_)=_;let:b1 (af 1) Yk [↑(.adr A),↑(.str x),none]=none:=rfl;rw[this];change fx (.str x)=_;show h
def YH(H:AG)(hl:H.length<=1000):Ys [.adr 401,.str (Txt.join (T "") (H.map y8))]=some (.lst (H.map aG)):=
 xI Hh (enc:=λb=>D.str {#[lc b]}) (out:=aG) (Hq (PR xF (λb=>by cases b<;>decide) H hl)) (λb _=>PK b) (λb _=>rfl) (λb _=>by simp[aL,aG]) hl
def YI(H:AG)(hl:H.length<=1000):Ys [.adr 408,.str (Txt.join (T "") (H.map bL))]=some (.lst (H.map D.bl)):=
 xI Hi (enc:=λb=>D.str {#[dc b]}) (out:=D.bl) (Hq (PR xG (λb=>by cases b<;>decide) H hl)) (λb _=>PM b) (λb _=>rfl) (λb _=>by simp[aL]) hl
def PU(x:Str):Txt.join (T "") [x]=x:=rfl
theorem PV(H:AG)(hl:H.length<=61):mP [wD (y4 (T "hands") (H.map y8))]=some (.lst (H.map aG)):=by
 rw[mP,Yu (by rfl)]
 let e1:aA true (.str (T "hands")) (.str "hands")=some false:=by rw[fz];simp
 let he:=YH H ∅;unfold y4
 cases H with
 | nil=>
   let hj:dN (Str.ofString "") [.lst []]=some (.str (Txt.join (T "") [])):=ju (xs:=[]) rfl (by decide);simp at he;let hc:aB [D.str (T "hands")] (some 1) none=[]:=rfl;simp[FN,Ye,e1,hj,hc,he]
 | cons x H=>
   let hw:=ng xE (x::H);let hlen:=qU (T "") ((x::H).map y8)
   let hj:dN (Str.ofString "") [.lst [.str (Txt.join (T "") ((x::H).map y8))]]=some (.str (Txt.join (T "") [Txt.join (T "") ((x::H).map y8)])):=ju (xs:=[_]) rfl (by
    rw[lens.1]at hlen hw ⊢;simp only[Qd,List.map_nil,List.sum_cons,List.sum_nil]at hw hlen ⊢
    ac_nf)
   rw[PU]at hj;rw[if_neg nofun];let hc:aB ([T "hands",Txt.join (T "") ((x::H).map y8)].map D.str) (some 1) none=[.str (Txt.join (T "") ((x::H).map y8))]:=rfl;nomatch Txt.join (T "") ((x::H).map y8)=X,(x::H).map aG=HD;simp at hc;simp[FN,Ye,e1,hj,hc,he]
theorem PX(ev:AG)(h0:ev≠[])(hl:ev.length<=61):mQ [wD (y4 (T "settled") (ev.map bL))]=some (.lst (ev.map D.bl)):=by
 rw[mQ,Yu (by rfl)];let he:=YI ev ∅;unfold y4;rw[if_neg (by simpa using h0)];nomatch Txt.join (T "") (ev.map bL)=X;simp[Om,Ye,he]
def Ns(c:Nat)(l:AJ):Prop:=∀x∈l,c∉x.cps.toList
def sp(c:Nat):Str:={#[c]}
def sp_b:T " "=sp 32/\T "\n"=sp 10:=by decide +kernel
section
variable {c:Nat}
theorem xO:∀(l:AJ) (acc:Array Nat),(l.foldl (λacc p=>acc++(sp c).cps++p.cps) acc).toList=acc.toList++l.flatMap λp=>c::p.cps.toList
 | [],acc=>by simp
 | x::l,acc=>by
   rw[List.foldl_cons,xO l,List.flatMap_cons];simp[sp]
theorem iO{a r:AE}(h:c∉a)(hr:r=[]\/∃r',r=c::r'):(a++r).takeWhile (· != c)=a:=by
 induction a with
 | nil=>
   let rfl+{r',rfl}:=hr
   .rfl
   .simp
 | cons x a ih=>
   let hx:x≠c:=λz=>h (by rw[z];show .head _);rw[List.cons_append,List.takeWhile_cons]
   let:(x != c)=true:=by simpa using hx
   rw[if_pos this,ih λz=>h (.tail _ z)]
def xP(l:AJ):(l.flatMap λp=>c::p.cps.toList)=[]\/∃r',(l.flatMap λp=>c::p.cps.toList)=c::r':=by
 cases l with
 | nil=>show .inl rfl
 | cons x l=>show .inr {_,by rw[List.flatMap_cons,List.cons_append]}
def PY{x y:Str}(h:x.cps.toList=y.cps.toList):x=y:=by
 obtain⟨⟨a⟩⟩:=x;obtain⟨⟨b⟩⟩:=y;let:a=b:=h;rw[this]
theorem PZ:∀(l l':AJ),Ns c l->Ns c l'->(l.flatMap λp=>c::p.cps.toList)=(l'.flatMap λp=>c::p.cps.toList)->l=l'
 | [],[],_,_,_=>rfl
 | [],y::l',_,_,e=>by simp at e
 | x::l,[],_,_,e=>by simp at e
 | x::l,y::l',h,h',e=>by
   rw[List.flatMap_cons,List.flatMap_cons,List.cons_append,List.cons_append]at e;injection e with _ e;let e1:=congrArg (List.takeWhile (· != c)) e;rw[iO (h x (.head _)) (xP l),iO (h' y (.head _)) (xP l')]at e1;let e2:=PY e1;subst e2;rw[PZ l l' (λz hz=>h z (.tail _ hz)) (λz hz=>h' z (.tail _ hz)) (List.append_cancel_left e)]
def P0{x:Str}{l:AJ}(h:Ns c (x::l)):Txt.split (Txt.join (sp c) (x::l)) (sp c)=x::l:=by
 let hf:Ns c (Txt.split (Txt.join (sp c) (x::l)) (sp c)):=StrLaws.split_free (Txt.join (sp c) (x::l)) c;let hj:=Nc (Txt.join (sp c) (x::l)) (sp c);let hp:=PyProof.Rows.split_pos (Txt.join (sp c) (x::l)) (sp c);generalize hs:Txt.split (Txt.join (sp c) (x::l)) (sp c)=ys at *
 cases ys with
 | nil=>show absurd hp (by decide)
 | cons y m=>
   let e:(m.foldl (λacc p=>acc++(sp c).cps++p.cps) y.cps)=(l.foldl (λacc p=>acc++(sp c).cps++p.cps) x.cps):=by
    let:({m.foldl (λacc p=>acc++(sp c).cps++p.cps) y.cps}:Str)={l.foldl (λacc p=>acc++(sp c).cps++p.cps) x.cps}:=hj;injection this
   let e:=congrArg Array.toList e;rw[xO,xO]at e;let e1:=congrArg (List.takeWhile (· != c)) e;rw[iO (hf y (.head _)) (xP m),iO (h x (.head _)) (xP l)]at e1;let e2:=PY e1;subst e2;rw[PZ m l (λz hz=>hf z (.tail _ hz)) (λz hz=>h z (.tail _ hz)) (List.append_cancel_left e)]
def YJ{d:Nat}(hd:d≠c){l:AJ}(h:Ns d l):d∉(Txt.join (sp c) l).cps.toList:=by
 cases l with
 | nil=>show λz=>(nomatch z)
 | cons x l=>
   change d∉(l.foldl (λacc p=>acc++(sp c).cps++p.cps) x.cps).toList;rw[xO,List.mem_append,List.mem_flatMap];rintro(z|⟨p,hp,z⟩)
   .show h x (.head _) z
   .let z+z:=qu z
    .show hd z
    .show h p (.tail _ hp) z
end
structure Wq(w:AJ):Prop where
 ne:w≠[]
 b:Ns 32 w
 n:Ns 10 w
 sm:∀x∈w,x.length<=100
 ln:w.length<=70
structure Wd(w:AJ):Prop extends Wq w where
 em:T ""∉w
theorem Wq.small{w:AJ}(h:Wq w):lg w:={h.sm,by let:=h.ln;ac_nf}
theorem Wq.len{w:AJ}(h:Wq w):(Txt.join (T " ") w).length<=7070:=by
 let h1:=nc (s:=(T " ").length) h.sm;rw[lens.2.1]at h1;let h2:=h.ln;let h3:w.length*(1+100)<=70*101:=Nat.mul_le_mul_right _ h2;let h4:=qU (T " ") w;rw[lens.2.1]at h4;ac_nf
theorem Wq.split{w:AJ}(h:Wq w):kL (Str.ofString " ") (.str (Txt.join (T " ") w))=some (wD w):=by
 change(if _ then some (D.lst ((Txt.split _ (T " ")).map D.str))else none)=_;rw[if_pos (by let:=h.len;ac_nf),sp_b.1]
 cases w with
 | nil=>show absurd rfl h.ne
 | cons x l=>rw[P0 h.b]
theorem P1{L:List AJ}(h0:L≠[])(hL:∀w∈L,Wq w)(hl:L.length<=100):kL (Str.ofString "\n") (.str (bO L))=some (.lst (L.map λw=>D.str (Txt.join (T " ") w))):=by
 let hlen:(bO L).length<=1000000:=by
  let h1:=nc (s:=(T "\n").length) (B:=7070) (l:=L.map (Txt.join (T " "))) (λx hx=>by
   let{w,hw,rfl}:=qy hx
   show(hL w hw).len)
  rw[qf,lens.2.2.1]at h1;let h2:L.length*(1+7070)<=100*7071:=Nat.mul_le_mul_right _ hl;let h4:=qU (T "\n") (L.map (Txt.join (T " ")));rw[lens.2.2.1]at h4;change(Txt.join (T "\n") (L.map (Txt.join (T " ")))).length<=_;ac_nf
 change(if _ then some (D.lst ((Txt.split _ (T "\n")).map D.str))else none)=_;rw[if_pos hlen]
 let hn:Ns 10 (L.map (Txt.join (T " "))):=λx hx=>by
  let{w,hw,rfl}:=qy hx;rw[sp_b.1];show YJ (by decide) (hL w hw).n
 unfold bO;rw[sp_b.2]
 cases L with
 | nil=>show absurd rfl h0
 | cons x l=>
   rw[Qd]at hn ⊢;rw[P0 hn,<-Qd,Qf];rfl
theorem P2{L:List AJ}(h0:2<=L.length)(hL:∀w∈L,Wd w)(hl:L.length<=100):rB [.str (bO L)]=some (.lst (L.map wD)):=by
 rw[rB,Yu (by rfl)];let hs:=P1 (λz=>by rw[z]at h0;cases h0) (λw hw=>(hL w hw).toWq) hl
 let hm:=bQ (fe:=FP) (r:=[]) (enc:=λw=>D.str (Txt.join (T " ") w)) wD (l:=L) (λw hw=>by
  let:=(hL w hw).split
  simp[FP,this])
 let hm2:=bQ (fe:=FQ) (r:=[]) (enc:=wD) (λ_=>D.bl false) (l:=L) (λw hw=>by
  let:=r_ false (T "") w;simp[(hL w hw).em]at this
  simp[FQ,this])
 let hlen:¬((L.length:Int)<2):=by ac_nf
 nomatch (L.map λw=>D.str (Txt.join (T " ") w))=TT
 let ha:ck [.lst (L.map λ_=>D.bl false)]=some (.bl false):=by
  simp
 let hll:(L.map wD).length=L.length:=by simp
 nomatch L.map wD=LL;simp[FT,Ye,hs,hm,hm2,aj,frz,frz1,hll,hlen,ha]
def bU(x:Str):Prop:=32∉x.cps.toList/\10∉x.cps.toList/\¬T ""=x/\x.length<=100
instance (x:Str):Decidable (bU x):=by unfold bU;infer_instance
def fA{w:AJ}(h0:w≠[])(h:∀x∈w,bU x)(hl:w.length<=70):Wd w:={{h0,λx hx=>(h x hx).1,λx hx=>(h x hx).2.1,λx hx=>(h x hx).2.2.2,hl},λz=>(h _ z).2.2.1 rfl}
def nh:∀n,n<60->bU (ar n):=by decide +kernel
def P3:∀n,n<60->∀b,bU (aS (n,b)):=by decide +kernel
theorem wok_w:bU (T "rule")/\bU (T "odd")/\bU (T "even")/\bU (T ">")/\bU (T "kind")/\bU (T "hands")/\bU (T "settled")/\∀k:Kd,bU (kS k):=by
 show{by decide +kernel,by decide +kernel,by decide +kernel,by decide +kernel,by decide +kernel,by decide +kernel,by decide +kernel,λk=>?_};cases k<;>decide +kernel
theorem Hr{k:Kd}{r:Rl}(hr:In k 60 r)(hs:sz r<=60):Wd (Yd r):=by
 let{w1,w2,w3,w4,_}:=wok_w
 cases r with
 | ei l=>
   show fA (by simp[Yd]) (λx hx=>?_) (by simp[Yd,sz]at hs ⊢;ac_nf);let rfl+hx:=qu hx
   .show w1
   .let{s,hs,rfl}:=qy hx
    show P3 s.1 (hr.2 s hs) s.2
 | su b o=>
   show fA (by simp[Yd]) (λx hx=>?_) (by simp[Yd,sz]at hs ⊢;ac_nf);let rfl+hx:=qu hx
   .show w1
   let rfl+hx:=qu hx
   .cases o
    .show w3
    .show w2
   .let{s,hs,rfl}:=qy hx
    show nh s (hr.2 s hs)
 | im b h=>
   show fA (by simp[Yd]) (λx hx=>?_) (by cases h<;>simp[Yd,sz]at hs ⊢<;>ac_nf);let rfl+hx:=qu hx
   .show w1
   let hx+hx:=qw hx
   .let hx+hx:=qw hx
    .let{s,hs,rfl}:=qy hx
     show nh s (hr.2.1 s hs)
    .rw[List.mem_singleton.mp hx];show w4
   .let{s,hs,rfl}:=qy hx
    show nh s (hr.2.2 s (by simpa using hs))
theorem xQ{w:Str}(hw:bU w){α:Type}{f:α->Str}{c:α->Nat}(hf:∀a,f a={#[c a]})(hc:∀a,c a≠32/\c a≠10){l:List α}(hl:l.length<=61):Wd (y4 w (l.map f)):=by
 unfold y4;let hj:=xN hf l;by_cases h:l.map f=[]
 .rw[if_pos h]
  show fA nofun (λx hx=>by rw[List.mem_singleton.mp hx];show hw) nofun
 .rw[if_neg h]
  show fA nofun (λx hx=>?_) nofun;let rfl+hx:=qu hx
  .show hw
  .rw[List.mem_singleton.mp hx]
   show{?_,?_,λz=>?_,?_}
   .rw[hj]
    intro z;let{a,_,ha}:=qy z;show(hc a).1 ha
   .rw[hj]
    intro z;let{a,_,ha}:=qy z;show(hc a).2 ha
   .rw[<-z]at hj
    let e0:(T "").cps.toList=[]:=by decide +kernel
    rw[e0]at hj
    cases l with
    | nil=>show h rfl
    | cons a l=>cases hj
   .change(Txt.join (T "") (l.map f)).cps.size<=_
    rw[<-qj,hj,qf];ac_nf
theorem P4{k:Kd}{R:List Rl}{H ev:AG}(hR:∀r∈R,In k 60 r/\sz r<=60)(hH:H.length<=60)(he:ev.length<=60):∀w∈bc k R H ev,Wd w:=by
 let{_,_,_,_,w5,w6,w7,w8}:=wok_w;intro w hw;unfold bc at hw;let rfl+hw:=qu hw
 .show fA nofun (λx hx=>by
   let rfl+hx:=qu hx
   .show w5
   .rw[List.mem_singleton.mp hx];show w8 k) nofun
 let rfl+hw:=qu hw
 .show xQ w6 xF (λb=>by cases b<;>decide) (Nat.le_succ_of_le hH)
 let hw+hw:=qw hw
 .let{r,hr,rfl}:=qy hw
  show Hr (hR r hr).1 (hR r hr).2
 .split at hw
  .cases hw
  .rw[List.mem_singleton.mp hw]
   show xQ w7 xG (λb=>by cases b<;>decide) (Nat.le_succ_of_le he)
section
variable {f g:Hm}{fe:He}{ρ:Ro}{t:Hs}{Q:b6 Hs->Prop}{i:Nat}
def jv{f:AR}(h:f ρ=some (.nx ρ'))(k:g ρ' t Q):bx (fK f) g ρ t Q:={_,h,k}
def Ht(h:fe ρ t λd t'=>g (ρ.set i (↑d)) t' Q):bx (gj i fe) g ρ t Q:=h
def Hu{c:Ro->Hs->Option Bool}{f:Hm}(h:c ρ t=some false)(k:g ρ t Q):bx (Dl c f ky) g ρ t Q:={false,h,λz=>(nomatch z),λ_=>k}
theorem Hv{a:AV}{gt:AS}{ds:AN}(h:a ρ=some ds)(k:eF gt f ds ρ t fun
 | .nx ρ' t'=>g ρ' t' Q
 | o=>Q o):bx (kz a gt f) g ρ t Q:={(ds),h,k}
def P5{gt:AS}{fb:Hm}{m:Type}(enc:m->D)(I:List m->Ro->Hs->Prop):∀(l c:List m) (ρ:Ro) (t:Hs) (Q:b6 Hs->Prop),I c ρ t->
 (∀q a r ρ t (Q:b6 Hs->Prop),c++l=q++a::r->I q ρ t->(∀d j,I (q++[a]) d j->Q (.nx d j))->∃h,gt (enc a) ρ=some h/\fb h t Q)->(∀ρ' t',I (c++l) ρ' t'->Q (.nx ρ' t'))->eF gt fb (l.map enc) ρ t Q
 | [],c,ρ,t,Q,g,_,k=>k ρ t (by rwa [wz])
 | a::l,c,ρ,t,Q,g,f,k=>by
   show f c a l ρ t _ rfl g λd j p=>P5 enc I l _ d j Q p (λq b r ρ t Q e o s=>f q b r ρ t Q (by rw[<-e,ja];rfl) o s) λρ' t' n=>k ρ' t' ?_
   rwa [ja]at n
end
def Hw{t:Hs}{a:Addr}{s s':Option HS}:pt (pt t a s) a s'=pt t a s':=by
 funext b
 by_cases h:b=a
 .rw[h,cW,cW]
 .rw[bS h,bS h,bS h]
theorem sd{b:Type}{enc:b->D}{t:Hs}(h:∀a,bp t (enc a)=enc a):∀l:List b,cQ t (l.map enc)=l.map enc
 | []=>by rw[List.map_nil,cQ]
 | a::l=>by rw[Qd,cQ,h,sd h l]
def Hx(t:Hs)(i:Int):bp t (.int i)=.int i:=by rw[bp]
def Hy(t:Hs)(b:Bool):bp t (.bl b)=.bl b:=by rw[bp]
def Hz(t:Hs)(b:Bool):bp t (aG b)=aG b:=by unfold aG;rw[bp]
def HA(t:Hs)(s:dM):bp t (au s)=au s:=by
 change bp t (.tup _)=.tup _;simp[bp,cQ]
def HB(t:Hs)(o:AL):bp t (az o)=az o:=by
 cases o with
 | none=>show bp t .non=.non;rw[bp]
 | some x=>show bp t (.int _)=.int _;rw[bp]
def se(t:Hs)(b:AE):bp t (.tup (b.map nD))=.tup (b.map nD):=by
 rw[bp,(sd (enc:=nD) (λn=>Hx t n) b)]
def HC(t:Hs)(r:Rl):bp t (aJ r)=aJ r:=by
 cases r with
 | ei l=>show bp t (.tup _)=.tup _;rw[bp,sd (HA t)]
 | su b o=>show bp t (.tup _)=.tup _;rw[bp,cQ,cQ,cQ,se,Hy]
 | im b h=>show bp t (.tup _)=.tup _;rw[bp,cQ,cQ,cQ,se,HB]
def HE(t:Hs)(k:Kd):bp t (ak k)=ak k:=by unfold ak;rw[bp]
def HF(t:Hs)(k:Kd)(R:List Rl):bp t (bV k R)=bV k R:=by
 change bp t (.tup _)=.tup _;rw[bp,cQ,cQ,cQ,bp,sd (HC t),HE]
def xR{t:Hs}{k:Kd}{R:List Rl}{H ev:AG}{l:Addr}(h:t l=some (.bls ev)):bp t (bG (bV k R) (.tup (H.map aG)) (.adr l))=d4 k R H ev:=by
 rw[bp,cQ,cQ,cQ,HF,bp,sd (Hz t),bp,h];rfl
section
variable {k:Kd}{R:List Rl}{H ev:AG}{l:Addr}{t:Hs}
def P6(b h x:D):c_ "Watch" "turn" gQ (bG b h x)=gQ [bG b h x]:=iN "turn" (by decide) gQ b h x
def YK(b h x:D):c_ "Watch" "winner" mS (bG b h x)=mS [bG b h x]:=iN _ (by decide) _ b h x
theorem P8(e:t l=some (.bls ev))(a:ev.length<H.length)(i:H.length<=60)(h:∀r∈R,m9 k H.length r/\sz r<=9999)(c:Bool){W:D->Hs->Prop}(g:W (d5 k R H (ev++[c])) (pt t l (some (.bls (ev++[c]))))):
 mT [bG (bV k R) (.tup (H.map aG)) (.adr l),.bl c] t W:=by
 unfold mT cN;let b:Ye 2 [bG (bV k R) (.tup (H.map aG)) (.adr l),.bl c]=[some _,↑(.bl c)]:=rfl;rw[b];let f:=P6 (bV k R) (.tup (H.map aG)) (.lst (ev.map D.bl));rw[GJ (Nat.le_of_lt a),GG a]at f;let d:=YK (bV k R) (.tup (H.map aG)) (.lst ((ev++[c]).map D.bl));rw[GM (by rw[qz];show a) h]at d;show Hu ?_ ?_
 .change(b2 _ (kD .non) (cK false)) (gL t _)=_
  let:gL t [↑(bG (bV k R) (.tup (H.map aG)) (.adr l)),↑(.bl c)]=[↑(d4 k R H ev),↑(bp t (.bl c))]:=by
   change([↑_,↑_]:Ro)=_;rw[xR (H:=H) (k:=k) (R:=R) e]
  rw[this];simp [qd];rw[f];show rfl
 show jv (ρ':=[some _,↑(.bl c)]) (by cases c<;>rfl) ({_,_,l,ev,c,rfl,e,by ac_nf,rfl,{d5 k R H (ev++[c]),?_,(GL k R H (ev++[c])),g}})
 let:gL (pt t l (some (.bls (ev++[c])))) [↑(bG (bV k R) (.tup (H.map aG)) (.adr l)),↑(.bl c)]=[↑(d4 k R H (ev++[c])),↑(bp (pt t l (some (.bls (ev++[c])))) (.bl c))]:=by
  change([↑_,↑(bp _ (.bl c))]:Ro)=_;rw[xR (H:=H) (k:=k) (R:=R) (t:=pt t l (some (.bls (ev++[c])))) cW]
 rw[this];show d
end
section
variable {t:Hs}{x:Addr}{R Q:D->Hs->Prop}{ρ:Ro}{is:AE}{ga:AV}
theorem HG{C d:Addr}{b h:D}{l:AN}(m:t x=some (.ins "Watch" C d [] [] []))(p:kR [b,h]=some .non)(n:cj [h]=some (.tup l))(k:∀a e f t',a≠x->t a=none->t' x=some (.ins "Watch" C d kb [e,f,.ref a] [b,.tup l,.adr a])->t' a=some (.bls [])->(∀y,y≠x->y≠a->t' y=t y)->R .non t'):mR [.adr x,b,h] t R:=by
 unfold mR cN;let i:Ye 3 [.adr x,b,h]=[some _,some _,some _]:=rfl;rw[i];show jv (ρ':=[↑(.adr x),↑b,↑h]) ?_ ?_
 .simp [p]
 show{x,"Watch",C,d,[],[],[],b,rfl,m,by decide,by decide,by decide,rfl,λe=>{x,"Watch",C,d,["book"],[e],[b],.tup l,rfl,cW,by decide,by decide,by decide,?_,λf=>?_}}
 .show n
 rw[Hw];show{x,"Watch",C,d,["book","hands"],[e,f],[b,.tup l],rfl,cW,by decide,by decide,by decide,λa g=>?_}
 let c:a≠x:=λz=>by rw[z,cW]at g;cases g
 rw[bS c]at g;show k a e f _ c g cW ?_ λy j o=>?_
 .rw[bS c,cW]
 .rw[bS j,bS o,bS j]
theorem P9{b h:D}{l:AN}(F:ga (frz is ρ)=some [b,h])(B:kR [b,h]=some .non)(u:cj [h]=some (.tup l))(hb:gF b=true)(E:bw l=true)(k:∀a t',t a=none->t' a=some (.bls [])->(∀y,y≠a->t' y=t y)->Q (bG b (.tup l) (.adr a)) t'):iw "Watch" true is [] ga mR ρ t Q:=by
 show{[b,h],F,λx C p A=>{λe t'=>e=.non/\∃a n c,a≠x/\t a=none/\t' x=some (.ins "Watch" C p kb [n,c,.ref a] [b,.tup l,.adr a])/\t' a=some (.bls [])/\(∀y,y≠x->y≠a->t' y=t y),HG cW B u (λa n c t' i j g f m=>{rfl,a,n,c,i,by rw[bS i]at j;show j,g,f,λy o v=>by rw[m y o v,bS o]}),λe t' h=>?_}};let{rfl,a,n,c,i,j,g,f,m}:=h;show{λy s h=>?_,rfl,λz=>(nomatch z),λ_=>{_,_,_,g,?_}}
 .by_cases e:y=x
  .subst e
   rw[g]at h;cases h;show .inr ?_
   let q:∀{d:D},gF d=true->qB d=true:=λ{d} hd=>by cases d<;>first|show hd|rfl
   let w:qB (.tup l)=true:=q (E);change[b,.tup l,.adr a].all qB=true;simp[q hb,w];rfl
  .by_cases e2:y=a
   .subst e2
    rw[f]at h;cases h;show .inr rfl
   .rw[m y e e2]at h
    show .inl h
 .show k a _ j ?_ λy r=>?_
  .rw[bS i]
   show f
  .by_cases e:y=x
   .rw[e,cW,A]
   .rw[bS e]
    show m y e r
end
def HI{k:Kd}{n m:Nat}(h:n<=m){r:Rl}(hi:In k n r):In k m r:=by
 cases r with
 | ei l=>show{hi.1,λs hs=>Qi (hi.2 s hs) h}
 | su b o=>show{hi.1,λs hs=>Qi (hi.2 s hs) h}
 | im b o=>show{hi.1,λs hs=>Qi (hi.2.1 s hs) h,λx hx=>Qi (hi.2.2 x hx) h}
section
variable {k:Kd}{R:List Rl}{H ev:AG}{t:Hs}
abbrev wA(k:Kd)(R:List Rl)(H:AG)(l:Addr):D:=bG (bV k R) (.tup (H.map aG)) (.adr l)
def OkG(k:Kd)(R:List Rl)(H:AG):Prop:=R.length<=20/\H.length<=60/\∀r∈R,m9 k H.length r/\sz r<=60
theorem OkG.r(g:OkG k R H):∀r∈R,m9 k H.length r/\sz r<=9999:=λr hr=>{(g.2.2 r hr).1,by let:=(g.2.2 r hr).2;ac_nf}
def OkG.i(g:OkG k R H):∀r∈R,In k 60 r/\dZ r:=λr hr=>{HI g.2.1 (g.2.2 r hr).1.1,(g.2.2 r hr).1.2}
theorem HJ(g:OkG k R H)(he:ev.length<=H.length){ds:AN}(hd:HdL R ds){W:D->Hs->Prop}(kk:∀a t',t a=none->t' a=some (.bls ev)->(∀y,y≠a->t' y=t y)->W (wA k R H a) t'):
 wY [ak k,.lst ds,.lst (H.map aG),.lst (ev.map D.bl)] t W:=by
 unfold wY cN;let hst:Ye 6 [ak k,.lst ds,.lst (H.map aG),.lst (ev.map D.bl)]=[↑(ak k),↑(.lst ds),↑(.lst (H.map aG)),↑(.lst (ev.map D.bl)),none,none]:=rfl;rw[hst];let hb:=xC k (c:=.lst ds) g.i hd rfl (by let:=g.1;ac_nf);let hc:=Py (k:=k) (R:=R) g.2.1 g.1 (λr hr=>{(g.2.2 r hr).1,by let:=(g.2.2 r hr).2;ac_nf}) (h:=.lst (H.map aG)) (.inl rfl);unfold OC;show Ht (P9 (b:=bV k R) (h:=.lst (H.map aG)) (l:=H.map aG) ?_ hc nofun (Pz k R) (rS H) λa t' h1 h2 h3=>?_)
 .simp[frz,hb]
 unfold OB;show Hv (ds:=ev.map D.bl) rfl (P5 D.bl (λpre ρ t1=>(∃y,ρ=[↑(ak k),↑(.lst ds),↑(.lst (H.map aG)),↑(.lst (ev.map D.bl)),↑(wA k R H a),y])/\t1 a=some (.bls pre)/\∀y,y≠a->t1 y=t y) ev [] _ t' _ {{(none),rfl},h2,h3} (λq c r ρ t1 Q e hI hq=>?_) λρ' t1 hI=>?_)
 .let{{y,rfl},i2,i3}:=hI
  show{_,rfl,?_}
  let hlt:q.length<H.length:=by
   let:=congrArg List.length e;simp at this;ac_nf
  unfold wX;show{wA k R H a,[.bl c],"Watch",kb,mT,λ_ t2=>t2 a=some (.bls (q++[c]))/\∀y,y≠a->t2 y=t y,rfl,rfl,rfl,by decide,rfl,P8 i2 hlt g.2.1 g.r c {cW,λy hy=>by rw[bS hy];show i3 y hy},λd t2 hd2=>?_};show hq _ t2 {{some (.sh (.bl c)),rfl},hd2.1,hd2.2}
 .let{{y,rfl},i2,i3}:=hI
  unfold OA;show{wA k R H a,rfl,kk a t1 h1 i2 i3}
end
theorem sg(a b z:D)(l:AN):aB (a::b::(l++[z])) (some 2) (some (-1))=l:=by
 unfold aB
 let h1:HT.sIx (a::b::(l++[z])).length 0 (some 2)=2:=by
  let:=HT.sIx_nat (a::b::(l++[z])).length 0 2;rw[Nat.min_eq_left nofun]at this;show this
 let h2:HT.sIx (a::b::(l++[z])).length (a::b::(l++[z])).length (some (-1))=l.length+2:=by
  change(if (-1:Int)<0 then ((-1:Int)+((a::b::(l++[z])).length:Int)).toNat else min (-1:Int).toNat (a::b::(l++[z])).length)=_;rw[if_pos (by decide)];simp;ac_nf
 rw[h1,h2];simp
def lh(a b:D)(l:AN):aB (a::b::l) (some 2) none=l:=fL (a::b::l) 2 nofun
def si(r:Rl):∃w,Yd r=T "rule"::w:=by
 cases r with
 | ei l=>show{_,rfl}
 | su b o=>show{_,rfl}
 | im b h=>show{_,rfl}
def P_(w:Str)(xs:AJ):∃l,y4 w xs=w::l:=by
 unfold y4
 split
 .show{_,rfl}
 .show{_,rfl}
def Ql(r:Rl):Hd r (bj r):=by
 cases r with
 | ei l=>show{l,false,.refl _,rfl}
 | su b o=>show{b,_,.refl _,rfl,rfl}
 | im b h=>show{b,_,.refl _,rfl,rfl}
theorem ni:∀R:List Rl,HdL R (R.map bj)
 | []=>trivial
 | r::R=>{Ql r,ni R}
section
variable {k:Kd}{R:List Rl}{H ev:AG}{t:Hs}
theorem HK(g:OkG k R H)(he:ev.length<=H.length)(h0:ev≠[]){W:D->Hs->Prop}(kk:∀a t',t a=none->t' a=some (.bls ev)->(∀y,y≠a->t' y=t y)->W (wA k R H a) t'):
 wZ [.str (bO (bc k R H ev))] t W:=by
 let hR':∀r∈R,In k 60 r/\sz r<=60:=λr hr=>{(g.i r hr).1,(g.2.2 r hr).2}
 let hl:R.length<=20:=g.1;let hev:ev.length<=60:=Qg he g.2.1
 let hlen:2<=(bc k R H ev).length:=by unfold bc;simp
 let hlen2:=PH k R H ev;let hrd:=P2 hlen (P4 hR' g.2.1 hev) ∅;let hkr:=Ho k;let hhr:=PV H (Nat.le_succ_of_le g.2.1)
 let hcm:=bQ (fe:=iJ) (r:=[↑(ak k)]) (enc:=λr=>wD (Yd r)) bj (l:=R) (λr hr=>by
  let:=PP (hR' r hr).1 (by let:=(hR' r hr).2;ac_nf);nomatch wD (Yd r)=w
  simp[iJ,this])
 let hwm:=@HJ k R H ev t g he _ (ni R) W kk
 let hL0:aN ((bc k R H ev).map wD) 0=some (wD [T "kind",kS k]):=by unfold bc;rw[Qd,Md]
 let hL1:aN ((bc k R H ev).map wD) 1=some (wD (y4 (T "hands") (H.map y8))):=by unfold bc;rw[Qd,Qd,Cm]
 unfold wZ cN;let hst:Ye 8 [.str (bO (bc k R H ev))]=[↑(.str (bO (bc k R H ev))),none,none,none,none,none,none,none]:=rfl;rw[hst]
 let h1:aN ((bc k R H ev).map wD) (-1)=some (wD (y4 (T "settled") (ev.map bL))):=by
  unfold bc;rw[if_neg h0];let:=iT (wD [T "kind",kS k]::wD (y4 (T "hands") (H.map y8))::(R.map λr=>wD (Yd r))) (wD (y4 (T "settled") (ev.map bL)));simp only[Qd,Qk,Qf,List.map_nil];show this
 let h3:aB ((bc k R H ev).map wD) (some 2) (some (-1))=R.map λr=>wD (Yd r):=by
  unfold bc;rw[if_neg h0];let:=sg (wD [T "kind",kS k]) (wD (y4 (T "hands") (H.map y8))) (wD (y4 (T "settled") (ev.map bL))) (R.map λr=>wD (Yd r));simp only[Qd,Qk,Qf,List.map_nil];show this
 nomatch bO (bc k R H ev)=tx,(bc k R H ev).map wD=LL;unfold OJ;show jv (ρ':=[↑(.str tx),↑(.lst LL),none,none,none,none,none,none]) (by simp[hrd]) ?_;unfold OI;show jv (ρ':=[↑(.str tx),↑(.lst LL),↑(ak k),none,none,none,none,none]) (by simp[hL0,hkr]) ?_;unfold OH;show jv (ρ':=[↑(.str tx),↑(.lst LL),↑(ak k),↑(.lst (H.map aG)),none,none,none,none]) (by simp[hL1,hhr]) ?_;unfold OG;let hsr:=PX ev h0 (Nat.le_succ_of_le hev);let{l,hl0}:=P_ (T "settled") (ev.map bL)
 let e1:aA false (.str (T "settled")) (.str "settled")=some true:=by rw[fz];simp
 rw[hl0]at h1 hsr;show jv (ρ':=[↑(.str tx),↑(.lst LL),↑(ak k),↑(.lst (H.map aG)),↑(.bl true),none,none,none]) (by simp[h1,e1]) ?_;unfold OF;show jv (ρ':=[↑(.str tx),↑(.lst LL),↑(ak k),↑(.lst (H.map aG)),↑(.bl true),↑(.lst (ev.map D.bl)),none,none]) (by simp[h1,hsr]) ?_;unfold OE;show jv (ρ':=[↑(.str tx),↑(.lst LL),↑(ak k),↑(.lst (H.map aG)),↑(.bl true),↑(.lst (ev.map D.bl)),some (.ow (R.map bj)),none]) (by simp[h3,hcm,aj]) ?_;unfold OD;show{[ak k,.lst (R.map bj),.lst (H.map aG),.lst (ev.map D.bl)],by simp[frz,frz1],W,hwm,λd t' h=>h}
end
section
variable {r1 r2 a b c:AT}{fs:AR}{f:AU}{ρ:Ro}
def d6(h:r1 ρ=some true):cM r1 fs r2 ρ=some true:=by unfold cM;rw[h];rfl
theorem bM(h:r1 ρ=some false)(a:fs ρ=some (.nx ρ')):cM r1 fs r2 ρ=r2 ρ':=by unfold cM;symm
def de(h:c ρ=some true):bR c a b ρ=a ρ:=by unfold bR;rw[h];rfl
def cA(h:c ρ=some false):bR c a b ρ=b ρ:=by unfold bR;rw[h];rfl
def HL(h:r1 ρ=some true):eD r1 f r2 ρ=some true:=by unfold eD;rw[h];rfl
theorem lj{d:D}(h:r1 ρ=some false)(hf:f ρ=some d):eD r1 f r2 ρ=r2 ρ:=by unfold eD;symm
def b8{k n:Nat}{ds:AN}(h:ds.length=k):aP k n a ds=a (Ye n ds):=if_pos h
end
theorem HM{l:AN}(h:D.non∈l):dj .non l=true:=by
 induction l with
 | nil=>cases h
 | cons a l b=>
   simp only[dj]at b ⊢;let rfl+h:=qu h
   .rfl
   symm
theorem sj{A:Addr}{h:AN->Option D}(hA:tv.lookup A=some h){g:Type}{enc out:g->D}{c:D}{l:List g}(j:jj (b1 (af 1) Yk) (b1 (af 1) fx) [↑(.adr A),↑c,none]=some (l.map enc))(m:∀a∈l,h [enc a]=some (out a))(hd:∀a∈l,aL (out a)<=1)(k:l.length<=1000):Yq [.adr A,c]=some (dj .non (l.map out)):=by
 rw[Yq,b8 (by rfl)];let e:Ye 3 [.adr A,c]=[_,_,none]:=rfl;rw[e]
 let b:dq false .non (.lst (l.map out))=some (dj .non (l.map out)):=by
  rw[vp rfl (by simp[aL]) (Qg (j9 (n:=1) λd i=>by
   symm) (by decide))]
  symm
 unfold Oa
 rw[bM (ρ':=[↑(.adr A),↑c,some (.ow (l.map out))]) rfl (by simp[j,bQ (fe:=FH) (r:=[↑(.adr A)]) (enc:=enc) out (l:=l) (λa n=>by
  unfold FH mx
  ext),aj])]
 cases f:dj _ _ with
 | true=>rw[f]at b;rw[de (by simp[b])];rfl
 | false=>rw[f]at b;rw[cA (by simp[b])];rfl
def Rds(fn:AN->Option D)(l:List (Str×D)):Prop:=∀a∈l,fn [.str a.1]=some a.2/\aL a.2<=1
def xS{A:Addr}{c:AN->Option D}(hA:tv.lookup A=some c){l:List (Str×D)}(h:Rds c l)(d:l.length<=1000):Yq [.adr A,wD (l.map (·.1))]=some (dj .non (l.map (·.2))):=
 sj hA (by rw[Hj,Qf];rfl) (λa b=>(h a b).1) (λa b=>(h a b).2) d
def Rds.set{fn:AN->Option D}{l:List (Str×D)}(h:Rds fn l){b:Str}(hb:fn [.str b]=some .non)(j:Nat):Rds fn (l.set j (b,.non)):=λa ha=>by
 let ha+rfl:=List.mem_or_eq_of_mem_set ha
 .show h a ha
 .show{hb,by simp[aL]}
theorem sk{A:Addr}{a:AN->Option D}(hA:tv.lookup A=some a){l:List (Str×D)}(h:Rds a l)(d:l.length<=1000){b:Str}(hb:a [.str b]=some .non){j:Nat}(c:j<l.length):Yq [.adr A,wD ((l.map (·.1)).set j b)]=some true:=by
 let:=xS hA (h.set hb j) ⋯;rw[List.map_set]at this;rw[this,HM];show List.mem_map.mpr {(b,.non),List.mem_set c _,rfl}
abbrev sq(x:Nat):Str×D:=(ar x,nD x)
abbrev sv(s:dM):Str×D:=(aS s,au s)
def HN{b:AE}(h:∀x∈b,x<60):Rds gN (b.map sq):=λa c=>by
 let{x,d,rfl}:=qy c;show{Hg (h x d),by simp[aL]}
def HP{b:AX}(h:∀x∈b,x.1<60):Rds iH (b.map sv):=λa ha=>by
 let{x,hx,rfl}:=qy ha;show{PJ (h x hx),by simp[aL,au,aY]}
theorem HQ(b:AE):(b.map sq).map (·.1)=b.map ar:=by ext
theorem HR(b:AX):(b.map sv).map (·.1)=b.map aS:=by ext
theorem sx{b:AE}(h:∀x∈b,x<60)(e:b.length<=1000):Yq [.adr 387,wD (b.map ar)]=some false:=by
 let:=xS xJ (HN h) ⋯
 rwa [HQ,xH λd hd=>by
  let{a,c,rfl}:=qy hd;let{x,_,rfl}:=qy c
  rfl]at this
theorem HU{b:AX}(h:∀x∈b,x.1<60)(e:b.length<=1000):Yq [.adr 394,wD (b.map aS)]=some false:=by
 let:=xS xK (HP h) ⋯
 rwa [HR,xH λd hd=>by
  let{a,c,rfl}:=qy hd;let{x,_,rfl}:=qy c
  rfl]at this
theorem HV{b:AE}(h:∀x∈b,x<60)(c:b.length<=1000){w:Str}(a:gN [.str w]=some .non){j:Nat}(d:j<b.length):Yq [.adr 387,wD ((b.map ar).set j w)]=some true:=by
 let:=sk xJ (HN h) ⋯ a (j:=j) ⋯
 rwa [HQ]at this
theorem YL{b:AX}(h:∀x∈b,x.1<60)(c:b.length<=1000){w:Str}(a:iH [.str w]=some .non){j:Nat}(d:j<b.length):Yq [.adr 394,wD ((b.map aS).set j w)]=some true:=by
 let:=sk xK (HP h) ⋯ a (j:=j) ⋯
 rwa [HR]at this
theorem sy{b:AE}(h:∀x∈b,x<60)(a:b.length<=1000):Ys [.adr 387,wD (b.map ar)]=some (.lst (b.map nD)):=by
 let:=xM h a
 rwa [show(b.map _)=(b.map ar).map .str from by ext]at this
def ke(k:Kd):aA false (ak k) (.str "eithers")=some (decide (k=.e)):=by rw[rV,fz];cases k<;>decide +kernel
def ks(k:Kd):aA false (ak k) (.str "sums")=some (decide (k=.s)):=by rw[rV,fz];cases k<;>decide +kernel
def fB(x:D)(l:AN):aB (x::l) (some 1) none=l:=fL _ 1 nofun
theorem sA{w:Str}{ws:AJ}(hi:cy true y7 (.str w)=some true):kX [wD (w::ws)]=some true:=by
 rw[kX,b8 (by rfl)];unfold FI;rw[de]
 .rfl
 .let:¬((ws.length:Int)+1=0):=by ac_nf
  simp[Ye,wD,hi,this]
theorem sC{w:Str}{a:AJ}{b:Bool}(f:cy true y7 (.str w)=some false)(e:Yq [.adr 387,wD a]=some b)(g:b=false->∃d,Ys [.adr 387,wD a]=some d):kX [wD (w::a)]=some b:=by
 rw[kX,b8 (by rfl)];unfold FI;let c:=fB (.str w) (a.map .str);rw[cA]
 .cases b with
  | true=>show HL (by simp[Ye,c,Yv];show e)
  | false=>
    let{d,hd}:=g rfl;rw[lj (by simp[Ye,wD,c,Yv];show e) (by simp[Ye,wD,c];show hd)];rfl
 .let:¬((a.length:Int)+1=0):=by ac_nf
  simp[Ye,f,this]
theorem HX{p q:AJ}(h:T ">"∉p):(p++T ">"::q).idxOf (T ">")=p.length:=by symm
theorem HY{a:AJ}(h:T ">"∉a):gO [wD a]=some true:=by
 rw[gO,b8 (by rfl)];unfold FK
 let b:dq true (.str (T ">")) (wD a)=some true:=by
  rw[r_];simp[h]
 rw[de (by simp[Ye,b])];rfl
section
variable {p q:AJ}{hs:AN}
theorem sD(h:T ">"∉p):gO [wD (p++T ">"::q)]=cM (Yv (Yb (kD (.adr 387)) (Yb (lF (aO (aa 0) (some (b2 (aa 1) (Zi 1) aX)) none)) ae)) Yq) (ax 2 (cC (Yb (kD (.adr 387)) (Yb (lF (aO (aa 0) (some (b2 (aa 1) (Zi 1) aX)) none)) ae)) Ys)) (bR (b2 (cC (Yb (aa 2) ae) aF) (Zi 1) dE) a_ (eD (Yv (Yb (kD (.adr 387)) (Yb (lF (aO (aa 0) none (some (aa 1)))) ae)) Yq) (cC (Yb (kD (.adr 387)) (Yb (lF (aO (aa 0) none (some (aa 1)))) ae)) Ys) bT)) [↑(wD (p++T ">"::q)),↑(.int (p.length:Nat)),none]:=by
 rw[gO,b8 (by rfl)];unfold FK
 let b:dq true (.str (T ">")) (wD (p++T ">"::q))=some false:=by
  rw[r_];simp
 let i2:fy (wD (p++T ">"::q)) (.str (T ">"))=some (.int p.length):=by
  rw[Np,HX h,if_pos nofun]
 nomatch wD _=W;let a:Ye 3 [W]=[some _,none,none]:=rfl;rw[a,cA (by simp[b]),bM (ρ':=[↑W,↑(.int p.length),none]) rfl (by simp[i2])]
def sE(a:p.length<=1000):aB ((p++T ">"::q).map D.str) (some ((p.length:Int)+1)) none=q.map D.str:=by
 let:=fL ((p++T ">"::q).map .str) (p.length+1) nofun;rw[Int.natCast_add]at this;rw[show(p.length+1)=((p.length:Int)+((1:Nat))) from rfl,this,Qk,List.drop_append];simp
def HZ:aB ((p++T ">"::q).map D.str) none (some (p.length:Int))=p.map D.str:=by
 rw[gw _ _ nofun,Qk,List.take_append];simp;show List.take_of_length_le nofun
def H_(h:T ">"∉p)(a:p.length<=1000)(b:Yq [.adr 387,wD q]=some true):gO [wD (p++T ">"::q)]=some true:=by
 rw[sD h];let:=sE (q:=q) a
 change cM _ _ _ [↑(.lst _),some _,none]=_
 nomatch (p++T ">"::q).map _=W;show d6 ?_;simp[Yv,this];show b
theorem ll(h:T ">"∉p)(j:p.length<=1000)(i:Yq [.adr 387,wD q]=some false)(k:Ys [.adr 387,wD q]=some (.lst hs)){b:Bool}(f:Yq [.adr 387,wD p]=some b)(c:b=false->∃d,Ys [.adr 387,wD p]=some d):gO [wD (p++T ">"::q)]=some (decide (1<hs.length)||b):=by
 let g:=sE (q:=q) j;let a:=HZ (p:=p) (q:=q);rw[sD h]
 change cM _ _ _ [↑(.lst _),some _,none]=_
 nomatch (p++T ">"::q).map _=W
 rw[bM (ρ':=[↑(.lst W),↑(.int p.length),↑(.lst hs)]) (by simp[Yv,g];show i) (by
  ext)]
 by_cases e:1<hs.length
 .let:(1:Int)<hs.length:=by ac_nf
  rw[de (by simp[this])];simp[e,a_]
 .let:¬(1:Int)<hs.length:=by ac_nf
  rw[cA (by simp[this])];simp [e]
  cases b with
  | true=>show HL (by simp[Yv,a];show f)
  | false=>
    let{d,hd}:=c rfl;rw[lj (d:=d) (by simp[Yv,a];show f) (by simp[a,hd])];rfl
end
theorem xT{k:Kd}{w:Str}{a:AJ}(h:¬w=T "rule"):y9 [ak k,wD (w::a)]=some true:=by
 rw[y9,b8 (by rfl)];unfold FM
 let:aA true (.str w) (.str (T "rule"))=some true:=by rw[fz];simp[h]
 rw[de (by simp[Ye];show this)];rfl
theorem iP{k:Kd}{ws:AJ}:y9 [ak k,wD (T "rule"::ws)]=match k with
 | .e=>Yq [.adr 394,wD ws]
 | .s=>kX [wD ws]
 | _=>gO [wD ws]:=by
 rw[y9,b8 (by rfl)];unfold FM
 let e1:aA true (.str (T "rule")) (.str (T "rule"))=some false:=by rw[fz];simp
 let hc:=fB (.str (T "rule")) (ws.map D.str);rw[cA (by simp[Ye,wD];show e1)]
 cases k with
 | e=>rw[de (by simp[Ye,ke])];simp[Yv,Ye,wD,hc]
 | s=>rw[cA (by simp[Ye,ke]),de (by simp[Ye,ks])];simp[Yv,Ye,wD,hc]
 | _=>rw[cA (by simp[Ye,ke]),cA (by simp[Ye,ks])];simp[Yv,Ye,wD,hc]
def lp(b:AE)(hd:AL):Yd (.im b hd)=T "rule"::(b.map ar++T ">"::hd.toList.map ar):=by rw[Yd,ja];rfl
def nj{b:AE}(h:∀x∈b,x<60):T ">"∉b.map ar:=λz=>by
 let{x,hx,e}:=qy z;show r9 x (h x hx) e
def sF(o:Bool):cy true y7 (.str (if o=true then T "odd" else T "even"))=some false:=rX (PN o).1
theorem Ic{k:Kd}{r:Rl}(c:In k 60 r)(hs:sz r<=1000):y9 [ak k,wD (Yd r)]=some false:=by
 cases r with
 | ei l=>
   let{rfl,h}:=c;rw[Yd,iP];show HU h hs
 | su b o=>
   let{rfl,h}:=c;rw[Yd,iP]
   show sC (sF o) (sx h hs) λ_=>{_,sy h hs}
 | im b hd=>
   let{g,h,d}:=c;let a:∀x∈hd.toList,x<60:=λx f=>d x ⋯
   let e:hd.toList.length<=1:=by symm
   let:=ll (nj h) (by rwa [qf]) (sx a ∅) (sy a ∅) (sx h hs) λ_=>{_,sy h hs}
   rw[lp,iP];symm
def w9:Str:=Txt.mul (T "9") 30
def badW:AJ:=[T "x",T "00",T "07",T "1_0",T "1000",T "+-1",T "1.0",T "60x",T "--1",T "1\t",w9]
def Ie:badW.map (λw=>gN [.str w])=badW.map λ_=>some .non:=by kernel_rfl
def Ig:badW.map (λw=>iH [.str w])=badW.map λ_=>some .non:=by kernel_rfl
def Ih:badW.map (λw=>cy true y7 (.str w))=badW.map λ_=>some true:=by kernel_rfl
def sG:∀w∈badW,bU w/\¬T ">"=w:=by decide +kernel
theorem jw{c d:Type}{f g:c->d}:∀{l:List c},l.map f=l.map g->∀a∈l,f a=g a
 | _::_,h,a,b=>by
   let rfl+b:=qu b
   .grind
   ext
theorem Ii{l:AJ}(h:T ">"∉l){w:Str}(a:¬T ">"=w)(j:Nat):T ">"∉l.set j w:=by symm
theorem Ij{k:Kd}{r:Rl}(d:In k 60 r)(hs:sz r<=1000){w:Str}(c:w∈badW){j:Nat}(e:j+1<(Yd r).length):y9 [ak k,wD ((Yd r).set (j+1) w)]=some true:=by
 let b1:=jw Ie w c;let b2:=jw Ig w c;let i:=jw Ih w c;let{_,f}:=sG w c
 cases r with
 | ei l=>
   let{rfl,h}:=d;rw[Yd]at e ⊢;rw[List.set_cons_succ,iP];show YL h hs b2 ⋯
 | su b o=>
   let{rfl,h}:=d;rw[Yd]at e ⊢;rw[List.set_cons_succ,iP]
   cases j with
   | zero=>show sA i
   | succ j=>
     show sC (sF o) (HV h hs b1 ⋯) λz=>(nomatch z)
 | im b hd=>
   let{u,h,n}:=d;let a:∀x∈hd.toList,x<60:=λx t=>n x ⋯
   let v:hd.toList.length<=1:=by symm
   let q:gO [wD ((b.map ar++T ">"::hd.toList.map ar).set j w)]=some true:=by
    by_cases s:j<b.length
    .let:=ll (Ii (nj h) f j) (by rw[List.length_set,qf];show hs) (sx a ∅) (sy a ∅) (HV h hs b1 s) λz=>(nomatch z)
     symm
    .rw[List.set_append_right _ _ ⋯,qf]
     by_cases p:j=b.length
     .subst p
      rw[Nat.sub_self];show HY λz=>?_;let z+z:=qw z
      .show nj h z
      .let z+z:=qu z
       .show f z
       .show nj a z
     .obtain⟨m,g⟩:∃m,j-b.length=m+1:={j-b.length-1,by ac_nf}
      rw[g];show H_ (nj h) (by rw[qf];show hs) (HV a ∅ b1 ?_);rw[lp]at e;symm
   rw[lp,List.set_cons_succ,iP];symm
def eH:Kd->List AJ
 | .e=>[[T "rule",T "+1",T "+1"],[T "rule",T "+0",T "-0",T "+1"],[T "rule",T "1"],[T "rule",T "+",T "-1"]]
 | .s=>[[T "rule"],[T "rule",T "Odd",T "1"],[T "rule",T "0",T "1"],[T "rule",T "odd",T "1",T "0",T "1"]]
 | _=>[[T "rule",T "0",T "1"],[T "rule",T ">",T ">"],[T "rule",T ">",T "1",T "0"],[T "rule",T "1",T "0",T "1",T ">"]]
def Ik(k:Kd)(w:AJ):Prop:=y9 [ak k,wD w]=some true\/(y9 [ak k,wD w]=some false/\∃d,jr [ak k,wD w]=some d/\jn [ak k,d]=some true)
def gy(k:Kd)(w:AJ):Bool:=match y9 [ak k,wD w]with
 | some true=>true
 | some false=>match jr [ak k,wD w]with
   | some d=>jn [ak k,d]==some true
   | none=>false
 | none=>false
def Il:∀k,(eH k).map (gy k)=[true,true,true,true]:=by intro k;cases k<;>kernel_rfl
def Im{k:Kd}{w:AJ}(h:gy k w=true):Ik k w:=by
 unfold gy at h
 split at h
 .rename_i e;show .inl e
 .rename_i e
  split at h
  .rename_i d hd;show .inr {e,d,hd,eq_of_beq h}
  .cases h
 .cases h
theorem sH{L:List AJ}(h0:L≠[])(e:∀w∈L,Wq w)(k:L.length<=100):wV [.str (bO L)]=some (decide (L.length<2)||L.any λw=>decide (T ""∈w)):=by
 rw[wV,b8 (by rfl)];let l:=P1 h0 e k
 let j:=bQ (fe:=FR) (r:=[]) (enc:=λw=>.str (Txt.join (T " ") w)) wD (λw d=>by
  let:=(e w d).split
  simp[FR,this])
 let a:=bQ (fe:=FS) (r:=[]) (enc:=wD) (λw=>.bl (decide (T ""∈w))) (l:=L) (λw d=>by
  let:=r_ false (T "") w
  simp[FS,this])
 let c:Ye 2 [.str (bO L)]=[_,none]:=rfl;rw[c];nomatch bO L=h;unfold Ou;rw[bM (ρ':=[↑(.str h),some (.ow (L.map wD))]) rfl (by simp[l,j,aj])];rw[show frz [1] _=[some _,some _] from rfl]
 let b:ck [.lst (L.map λw=>.bl (decide (T ""∈w)))]=some (.bl (L.any λw=>decide (T ""∈w))):=by
  simp
 by_cases f:L.length<2
 .let:(L.length:Int)<2:=by ac_nf
  rw[de (by simp[this])];simp[f,a_]
 .let:¬(L.length:Int)<2:=by ac_nf
  cases g:L.any _ with
  | true=>rw[g]at b;rw[de (by simp[this,a,b,aj])];simp[a_]
  | false=>rw[g]at b;rw[cA (by simp[this,a,b,aj])];simp[bT,f]
abbrev rp(t:Str)(LL:AN)(a b c d e:AQ):Ro:=[↑(.str t),↑(.lst LL),a,b,c,d,e,none]
def nk{L:List AJ}(h0:L≠[])(c:∀w∈L,Wq w)(b:L.length<=100){w:AJ}(d:w∈L)(e:T ""∈w):Yz [.str (bO L)]=some true:=by
 let a:=sH h0 c b;let:(L.any λw=>decide (T ""∈w))=true:=List.any_eq_true.mpr {w,d,wm e};rw[this]at a;show d6 (by simp[Ye,Yv,a])
theorem lq{L:List AJ}(h0:2<=L.length)(c:∀w∈L,Wd w)(e:L.length<=100):Yz [.str (bO L)]=iL (rp (bO L) (L.map wD) none none none none none):=by
 rw[Yz,b8 (by rfl)];let d:=sH (λz=>by symm) (λw a=>(c w a).toWq) e
 let:(L.any λw=>decide (T ""∈w))=false:=by
  rw[List.any_eq_false];intro w a;simp[(c w a).em]
 rw[this,decide_eq_false ∅]at d;let b:Ye 8 [.str (bO L)]=[_,none,none,none,none,none,none,none]:=rfl;rw[b];show bM (by simp[Yv,d]) (by simp[P2 h0 c e])
section
variable {t:Str}{w0 w1:AJ}{M:AN}{d:D}
def Io(h:iI [wD w0]=some true){a b c e f:AQ}:iL (rp t (wD w0::M) a b c e f)=some true:=by
 show d6 ?_;simp[Yv,h]
def sI(h:iI [wD w0]=some false)(a:mO [wD w0]=some d):iL (rp t (wD w0::M) none none none none none)=rL (rp t (wD w0::M) (↑d) none none none none):=bM (by simp[Yv,h]) (by simp[a])
def Ip(h:gu [wD w1]=some true){a b c e f:AQ}:rL (rp t (wD w0::wD w1::M) a b c e f)=some true:=by
 unfold rL;show d6 ?_;nomatch wD w1=W;simp[Yv,h]
def Ir(h:gu [wD w1]=some false)(b:mP [wD w1]=some d){a:AQ}:rL (rp t (wD w0::wD w1::M) a none none none none)=iK (rp t (wD w0::wD w1::M) a (↑d) none none none):=bM (by simp[Yv,h]) (by simp[b])
end
def Qn(k:Kd):iI [wD [T "kind",Lw.kS k]]=some false:=by cases k<;>kernel_rfl
def Iu{x:Str}{a:AJ}(h:¬x=T "kind"):iI [wD (x::a)]=some true:=by
 rw[iI,b8 (by rfl)];unfold Oh
 let c:aA true (.str x) (.str (T "kind"))=some true:=by rw[fz];simp[h]
 rw[de]
 .rfl
 .by_cases b:(a.length:Int)+1=2
  .simp[Ye,wD,c]
  .simp[Ye,wD,b]
theorem Qt{A:Addr}{d:AN->Option D}(hA:tv.lookup A=some d){x:Str}{cs:List (Nat×D)}(f:x.cps.toList=cs.map (·.1))(h:∀a∈cs,a.1<128)(c:∀a∈cs,d [.str {#[a.1]}]=some a.2/\aL a.2<=1)(e:cs.length<=1000):Yq [.adr A,.str x]=some (dj .non (cs.map (·.2))):=by
 let g:fx (.str x)=some (cs.map λa=>.str {#[a.1]}):=by
  let i:x.cps.all (·<128)=true:=by
   rw[<-Array.all_toList];symm
  let j:x.length<=1000000:=by
   change x.cps.size<=_;rw[<-qj,f,qf];ac_nf
  change(if _ then _ else none)=_
  ext
 show sj hA (Hq g) (λa b=>(c a b).1) (λa b=>(c a b).2) e
section
variable {A:Addr}{fn:AN->Option D}{c:Bool->Nat}{o:Bool->D}
theorem Qu(hA:tv.lookup A=some fn)(h:∀b,fn [.str {#[c b]}]=some (o b)/\aL (o b)<=1/\cH (o b) .non=false)(g:∀b,c b<128){x:Str}{l:AG}(f:x.cps.toList=l.map c)(i:l.length<=1000):Yq [.adr A,.str x]=some false:=by
 let:=Qt hA (x:=x) (cs:=l.map λb=>(c b,o b)) (by ext) (λa e=>by
  symm) (λa e=>by
  symm) ⋯
 rwa [xH λd hd=>by
  symm]at this
theorem Qv(hA:tv.lookup A=some fn)(hf:∀b,fn [.str {#[c b]}]=some (o b)/\aL (o b)<=1/\cH (o b) .non=false)(h8:∀b,c b<128){q:Nat}(hq:fn [.str {#[q]}]=some .non)(q8:q<128){x:Str}{l:AG}{j:Nat}(hj:j<l.length)(hx:x.cps.toList=(l.map c).set j q)(hl:l.length<=1000):Yq [.adr A,.str x]=some true:=by
 let key:∀a∈(l.map λb=>(c b,o b)).set j (q,.non),a.1<128/\fn [.str {#[a.1]}]=some a.2/\aL a.2<=1:=λa ha=>by
  let ha+rfl:=List.mem_or_eq_of_mem_set ha
  .let{b,_,rfl}:=qy ha
   show{h8 b,(hf b).1,(hf b).2.1}
  .show{q8,hq,by simp[aL]}
 let:=Qt hA (x:=x) (cs:=(l.map λb=>(c b,o b)).set j (q,.non)) (by rw[hx,List.map_set,Qf];rfl) (λa ha=>(key a ha).1) (λa ha=>(key a ha).2) (by simpa using hl);rw[this,HM];show List.mem_map.mpr {(q,.non),List.mem_set (by simpa using hj) _,rfl}
end
def sJ:∀b,kU [.str {#[lc b]}]=some (aG b)/\aL (aG b)<=1/\cH (aG b) .non=false:=λb=>{PK b,by simp[aG,aL],by cases b<;>rfl}
def sL:∀b,kW [.str {#[dc b]}]=some (.bl b)/\aL (.bl b)<=1/\cH (.bl b) .non=false:=λb=>{PM b,by simp[aL],by cases b<;>rfl}
def c8:(∀b,lc b<128)/\∀b,dc b<128:=by decide
def Iv{x:Str}{a:AJ}(h:¬x=T "hands"):gu [wD (x::a)]=some true:=by
 rw[gu,b8 (by rfl)];unfold FO
 let c:aA true (.str x) (.str "hands")=some true:=by rw[fz];simp[h]
 rw[de]
 .rfl
 .by_cases b:(2:Int)<a.length+1
  .simp[Ye,wD,b]
  .simp[Ye,wD,c]
def Iw(a b c:Str):gu [wD [a,b,c]]=some true:=by
 rfl
theorem Qw{x:Str}(d:x.length<=1000):gu [wD [T "hands",x]]=Yq [.adr 401,.str x]:=by
 rw[gu,b8 (by rfl)];unfold FO
 let b:aA true (.str (T "hands")) (.str "hands")=some false:=by rw[fz];simp
 let a:dN _ [.lst [.str x]]=_:=ju (xs:=[_]) rfl (by
  rw[lens.1]
  symm)
 rw[PU]at a;let c:aB [.str (T "hands"),.str x] (some 1) none=[_]:=rfl;rw[cA (by simp[Ye,wD,b])];simp[Yv,Ye,wD,c,a]
theorem sM{x:Str}{l:AE}(h:x.cps.toList=l):x.length=l.length:=by
 change x.cps.size=_;symm
def sN(H:AG):(Txt.join (T "") (H.map y8)).cps.toList=H.map lc:=xN xF H
def xU(H:AG):(Txt.join (T "") (H.map bL)).cps.toList=H.map dc:=xN xG H
theorem Iy(H:AG)(a:H.length<=61):gu [wD (y4 (T "hands") (H.map y8))]=some false:=by
 unfold y4
 cases H with
 | nil=>kernel_rfl
 | cons b H=>
   rw[if_neg nofun,Qw (by rw[sM (sN _),qf];ac_nf)];show Qu Hh sJ c8.1 (sN _) ∅
def Iz{x:Str}:gP [wD [T "settled",x]]=Yq [.adr 408,.str x]:=by
 rw[gP,b8 (by rfl)];unfold Oo;rw[cA (by simp[Ye,wD])];simp[Yv,Ye,wD]
theorem IA(ev:AG)(h0:ev≠[])(a:ev.length<=61):gP [wD (y4 (T "settled") (ev.map bL))]=some false:=by
 unfold y4;rw[if_neg (by ext)];show Qu Hi sL c8.2 (xU _) ∅
theorem IB{x q:Str}{c:Nat}(d:q={#[c]}){j:Nat}(e:j<x.cps.toList.length):((Txt.slice x none (some (j:Int))++q)++Txt.slice x (some ((j:Int)+1)) none).cps.toList=x.cps.toList.set j c:=by
 subst d;rw[eq_of_beq (PyProof.Rows.slice_closes_to (x:=x) (j:=j) {by ac_nf,by ac_nf}),eq_of_beq (PyProof.Rows.slice_closes_from (x:=x) (i:=j+1) {by ac_nf,by ac_nf})];change((_++#[c])++_).toList=_
 let f:((j:Int)+1).toNat=j+1:=by ac_nf
 let g:(x.cps.toList.drop (j+1)).take (x.cps.toList.length-((j:Int)+1)).toNat=_:=List.take_of_length_le ⋯;rw[f,g,List.set_eq_take_append_cons_drop,if_pos e];simp
section
variable {gt:AS}{fe:AU}{fr:AT}{ρ:Ro}{α:Type}{enc:α->D}{t x:Str}{w:AJ}{a b:AQ}{d:D}
theorem iQ:∀{l:List α},(∀a∈l,∃c d,gt (enc a) ρ=some c/\fr c=some false/\fe c=some d)->fm gt fe fr ρ (l.map enc)=some false
 | [],_=>rfl
 | a::l,h=>by
   let{c,d,i,e,f}:=h a (.head _);rw[Qd,fm,i,qd,e,f];show iQ λb g=>h b (.tail _ g)
theorem lr{x:α}{post:List α}{ρx:Ro}(f:gt (enc x) ρ=some ρx)(e:fr ρx=some true):∀{pre:List α},(∀a∈pre,∃c d,gt (enc a) ρ=some c/\fr c=some false/\fe c=some d)->fm gt fe fr ρ ((pre++x::post).map enc)=some true
 | [],_=>by rw[Qj,Qd,fm,f,qd,e];rfl
 | a::l,h=>by
   let{c,d,g,k,i}:=h a (.head _);rw[List.cons_append,Qd,fm,g,qd,k,i];show lr f e λb j=>h b (.tail _ j)
def lu(d:aN LL (-1)=some (wD (x::w))):iK (rp t LL a b none none none)=m8 (rp t LL a b (↑(.bl (decide (x=T "settled")))) none none):=by
 let c:aA false (.str x) (.str "settled")=some (decide (x=T "settled")):=rfl;show bM rfl (by simp[d,c])
def IC(h1:aN LL (-1)=some (wD w))(h:gP [wD w]=some true):m8 (rp t LL a b (↑(.bl true)) none none)=some true:=by
 unfold m8;nomatch wD w=W;show d6 ?_;rw[de nofun];simp[Yv,h1,h]
def ID(c:aN LL (-1)=some (wD w))(h:gP [wD w]=some false)(e:mQ [wD w]=some d):m8 (rp t LL a b (↑(.bl true)) none none)=m7 (rp t LL a b (↑(.bl true)) (↑d) none):=by
 show bM ?_ (by simp[c,e]);rw[de nofun];simp[Yv,c,h]
def IE:m8 (rp t LL a b (↑(.bl false)) none none)=m7 (rp t LL a b (↑(.bl false)) (↑(.lst [])) none):=bM (rfl) nofun
end
def RO(k:Kd)(w:AJ)(d:D):Prop:=y9 [ak k,wD w]=some false/\jr [ak k,wD w]=some d
def IF{k:Kd}{r:Rl}(a:In k 60 r)(hs:sz r<=1000):RO k (Yd r) (bj r):={Ic a hs,PP a hs}
section
variable {t:Str}{b e:AQ}{k:Kd}{s:Bool}{W:List AJ}{d1:D}
def IG(hc:(s=true/\aB LL (some 2) (some (-1))=W.map wD)\/(s=false/\aB LL (some 2) none=W.map wD)):(b1 (d8 (b1 (aa 4) aI) (lF (aO (aa 1) (some (Zi 2)) (some (b1 (Zi 1) aV)))) (lF (aO (aa 1) (some (Zi 2)) none))) Yk) (rp t LL (↑(ak k)) b (↑(.bl s)) e none)=some (W.map wD):=by
 let{rfl,h}+{rfl,h}:=hc<;>simp[h]
def sO(i:(s=true/\aB LL (some 2) (some (-1))=W.map wD)\/(s=false/\aB LL (some 2) none=W.map wD)){pre post:List AJ}{w:AJ}(g:W=pre++w::post)(j:∀v∈pre,∃d,RO k v d)(c:y9 [ak k,wD w]=some true):m7 (rp t LL (↑(ak k)) b (↑(.bl s)) e none)=some true:=by
 show d6 ?_;unfold fq;rw[IG i,g];show lr (ρx:=[some _,some _]) rfl ?_ λv a=>?_
 .simp[xu,Yv,c]
 .let{d,h,f}:=j v a
  show{[some _,some _],d,rfl,by simp[xu,Yv,h],by simp[iJ,f]}
theorem IH(c:(s=true/\aB LL (some 2) (some (-1))=W.map wD)\/(s=false/\aB LL (some 2) none=W.map wD)){rd:AJ->D}(d:∀v∈W,RO k v (rd v)):m7 (rp t LL (↑(ak k)) b (↑(.bl s)) e none)=Gn (rp t LL (↑(ak k)) b (↑(.bl s)) e (some (.ow (W.map rd)))):=by
 show bM ?_ ?_
 .unfold fq
  rw[IG c];show iQ λv a=>?_;let{f,g}:=d v a;show{[some _,some _],rd v,rfl,by simp[xu,Yv,f],by simp[iJ,g]}
 .let:=IG (t:=t) (b:=b) (e:=e) (k:=k) c
  generalize h:b1 _ _=G at *
  simp[this,aj,bQ (fe:=iJ) (r:=[↑(ak k)]) (enc:=wD) rd (λv a=>by
  let:=(d v a).2
  simp[iJ,this])]
theorem II{h b c:D}{ds:AN}(f:mY [ak k,.lst ds,h,b]=some true\/m6 [ak k,.lst ds,h,b]=some true\/rJ [ak k,.lst ds,h,b]=some true):Gn (rp t LL (↑(ak k)) (↑h) (↑c) (↑b) (some (.ow ds)))=some true:=by
 change kx _ _ (rp t LL _ _ _ _ _)=_
 let g:rK (rp t LL (↑(ak k)) (↑h) (↑c) (↑b) (↑(.lst ds)))=some [ak k,.lst ds,h,b]:=by simp[rK]
 let e:∀{p q:_}{d:Ro},_->kx p q d=_:=λh=>if_pos h
 let a:∀{p q:_}{d:Ro},q d=some true->kx p q d=some true:=λ{p q d} h=>by
  unfold kx;symm
 let f+f+f:=f
 .show e (by unfold Yv;symm)
 .show a (e (by unfold Yv;symm))
 .show a (a (by unfold Yv;symm))
end
def IJ{b:Nat}(h:b<60):mF [nD b]=some false:=by
 rw[mF,b8 (by rfl)];unfold Nz;let:=rZ h;rw[cA (by simp[Ye,this])];rfl
def Qx(o:Bool):vT [.bl o]=some false:=by cases o<;>kernel_rfl
theorem sP{b:AE}(hb:b.Pairwise (·<·))(a:∀x∈b,x<60):mH [.lst (b.map nD)]=some false:=by
 rw[mH,b8 (by rfl)];unfold NF;let f:=k_ hb a
 let c:fm (aq 0) EW EX [none] (b.map nD)=_:=iQ λx c=>by
  let e:=js x (a x c);show{[some _],nD x,rfl,by simp[EX,Yv,IJ (a x c)],by simp[EW,e]}
 let d:Ye 2 [.lst (b.map nD)]=[some _,none]:=rfl
 rw[d,bM (ρ':=[↑(.lst (b.map nD)),some (.ow (b.map nD))]) (by simp[fq,aj,c]) (by simp[aj,bQ (fe:=EV) (r:=[]) (enc:=nD) nD (λx c=>by
  let:=js x (a x c)
  simp[EV,this])]),cA (by simp[Pp b (hb.imp λh=>qm h) ∅])]
 rfl
theorem IK{k:Kd}{r:Rl}(hin:In k 60 r)(hs:dZ r):jn [ak k,bj r]=some false:=by
 rw[jn,b8 (by rfl)];unfold E8
 cases r with
 | ei l=>
   let{rfl,h60}:=hin;let{h2,hpw}:=hs
   let hn:l.Nodup:=hpw.imp λh z=>by subst z;show GF h h
   let hls:=Pn l h2 hn h60
   let hle:¬(2:Int)<(l.length:Int):=by ac_nf
   let hcm:=bQ (fe:=EZ) (r:=[]) (enc:=au) au (l:=l) (λs hs=>by
    let h1:=js s.1 (h60 s hs);let h2:=rQ s.2;simp only[nD]at h1
    simp[EZ,au,h1,h2])
   let hx:fm (aq 0) E3 E4 [none] (l.map au)=some false:=iQ λs hs=>by
    let h1:=IJ (h60 s hs);let h2:=Qx s.2;let h3:=js s.1 (h60 s hs);let h4:=rQ s.2;simp only[nD]at h1 h3;show{[↑(au s)],au s,rfl,?_,by simp[E3,au,h3,h4]};unfold E4;rw[lj (by simp[Yv,au,h1]) (by simp[au,h3]<;>rfl),lj (by simp[Yv,au,h2]) (by simp[au,h4]<;>rfl)];rfl
   let hem:mI [.lst (l.map au)]=some false:=by
    rw[mI,b8 (by rfl)];unfold E5;let hst:Ye 2 [.lst (l.map au)]=[↑(.lst (l.map au)),none]:=rfl;rw[hst,cA (by simp[hle]),bM (ρ':=[↑(.lst (l.map au)),some (.ow (l.map au))]) (by simp[fq,aj,hx]) (by simp[aj,hcm])];rw[cA (by simp[hls])];rfl
   rw[de (by simp[Ye,ke])];simp[Yv,Ye,bj,hem]
 | su b o=>
   let{rfl,h60}:=hin;let hb:=sP hs h60;let hm:=xB (c:=.lst (b.map nD)) b b rfl (.refl _) hs h60 (k_ hs h60)
   let hem:vX [.tup [.lst (b.map nD),.bl o]]=some false:=by
    rw[vX,b8 (by rfl)];unfold NK;rw[lj (by simp[Yv,Ye,hb]) (by simp[Ye,hm]<;>rfl),lj (by simp[Yv,Ye,Qx]) (by simp[Ye,rQ]<;>rfl)];rfl
   rw[cA (by simp[Ye,ke]),de (by simp[Ye,ks])];simp[Yv,Ye,bj,hem]
 | im b h=>
   let{hk,h60,hh}:=hin;let hb:=sP hs h60;let hm:=xB (c:=.lst (b.map nD)) b b rfl (.refl _) hs h60 (k_ hs h60)
   let hem:vZ [.tup [.lst (b.map nD),az h]]=some false:=by
    rw[vZ,b8 (by rfl)];unfold NL;let hst:Ye 2 [.tup [.lst (b.map nD),az h]]=[↑(.tup [.lst (b.map nD),az h]),none]:=rfl;rw[hst,bM (ρ':=[↑(.tup [.lst (b.map nD),az h]),↑(az h)]) rfl nofun]
    let fin:∀z,eD (Yv (Yb (b2 (aa 0) (Zi 0) aw) ae) mH) (cC (Yb (b2 (aa 0) (Zi 0) aw) ae) jm) bT [↑(.tup [.lst (b.map nD),az h]),z]=some false:=λz=>by
     rw[lj (by simp[Yv,hb]) (by simp[hm]<;>rfl)];rfl
    cases h with
    | none=>rw[bM (ρ':=[↑(.tup [.lst (b.map nD),az none]),↑(az none)]) (by rw[cA (by simp[az])];rfl) (by simp[az])];show fin _
    | some x=>
      let h1:=IJ (hh x rfl);let h2:=js x (hh x rfl);simp only[nD]at h1 h2
      rw[bM (ρ':=[↑(.tup [.lst (b.map nD),az (some x)]),↑(az (some x))]) (by
       rw[de (by simp[az]),bM (ρ':=[↑(.tup [.lst (b.map nD),az (some x)]),↑(az (some x))]) (by simp[Yv,az,h1]) (by simp[az,h2])]
       rfl) (by simp[az,h2])]
      show fin _
   let rfl+rfl:=hk
   .rw[cA (by simp[Ye,ke]),cA (by simp[Ye,ks])];simp[Yv,Ye,bj,hem]
   .rw[cA (by simp[Ye,ke]),cA (by simp[Ye,ks])];simp[Yv,Ye,bj,hem]
section
variable {k:Kd}{ds:AN}{h tr:D}{R:List Rl}{H:AG}
def sQ(a:kQ [ak k,.lst ds]=some true):mY [ak k,.lst ds,h,tr]=some true:=by
 rw[mY,b8 (by rfl)];show d6 (by simp[Ye,Yv,a])
def Qy:(cT (cg (b1 (mB (b1 (aa 0) (cL "str"))) aI)) (b1 (aa 0) (cy true gM))) [↑(ak k),↑(.lst ds)]=some false:=by
 simp[ak,cL,jX,fG,Pr k]
theorem IL(b:60<ds.length):kQ [ak k,.lst ds]=some true:=by
 rw[kQ,b8 (by rfl)];unfold Fb;let a:Ye 2 [ak k,.lst ds]=[some _,some _]:=rfl
 let:(60:Int)<ds.length:=by ac_nf
 rw[a,cA Qy,de (by simp[this])];rfl
theorem IM{pre:List Rl}{d:D}{post:AN}(hp:∀r∈pre,In k 60 r/\dZ r)(hd:jn [ak k,d]=some true)(hl:(pre.map bj++d::post).length<=60):kQ [ak k,.lst (pre.map bj++d::post)]=some true:=by
 rw[kQ,b8 (by rfl)];unfold Fb;let hst:Ye 2 [ak k,.lst (pre.map bj++d::post)]=[↑(ak k),↑(.lst (pre.map bj++d::post))]:=rfl
 let h60:¬(60:Int)<((pre.map bj++d::post).length:Int):=by ac_nf
 let hx:fm (aq 0) v7 rg [none,↑(ak k)] (pre.map bj++d::post)=some true:=by
  let:=lr (gt:=aq 0) (fe:=v7) (fr:=rg) (ρ:=[none,↑(ak k)]) (enc:=id) (x:=d) (post:=post) (ρx:=[↑d,↑(ak k)]) rfl (by simp[rg,Yv,hd]) (pre:=pre.map bj) (λv hv=>by
   let{r,hr,rfl}:=qy hv;let h1:=IK (hp r hr).1 (hp r hr).2;let h2:=Pq k r (hp r hr).1 (hp r hr).2 (Ql r)
   show{[↑(bj r),↑(ak k)],aJ r,rfl,by simp[rg,Yv,h1],by simp[v7,h2]})
  ext
 generalize pre.map bj++d::post=q at *;rw[hst,cA Qy,cA (by simp[h60])];unfold km;rw[show af 0 [↑(ak k),↑(.lst q)]=some (ak k) from rfl,qd];show HL (by simp[fq,aj,hx])
theorem lz{b:D}(hb:jo [ak k,.lst ds]=some b)(a:kT [b,h]=some true):m6 [ak k,.lst ds,h,tr]=some true:=by
 rw[m6,b8 (by rfl)];show d6 ?_;unfold kr;rw[show(Yb _ _) _=some [b,h] from by simp[Ye,hb]];show @if_pos _ _ (λx=>?_) _ _ _;rw[Gk,b8 (by rfl)];simp[O3,Yv,Ye,a]
theorem IP(b:D)(a:60<H.length):kT [b,.lst (H.map aG)]=some true:=by
 rw[kT,b8 (by rfl)];unfold Fv
 let:(60:Int)<H.length:=by ac_nf
 rw[de (by simp[Ye,this])];rfl
theorem Qz(o:H.length<=60)(q:R.length<=20)(i:∀r∈R,In k 60 r/\sz r<=61){r:Rl}(c:r∈R){x:Nat}(h:x∈c9 r)(g:H.length<=x):kT [bV k R,.lst (H.map aG)]=some true:=by
 rw[kT,b8 (by rfl)];unfold Fv;let a:Ye 2 [bV k R,.lst (H.map aG)]=[_,_]:=rfl;rw[a];let{l,_,e,d}:=Pj (m:=62) ∅ (λr c=>{(i r c).1,by symm}) ∅
 let f:=bQ (fe:=Fp) (r:=[]) (enc:=aG) (λ_=>.bl true) (l:=H) (λb _=>by
  let:=Px b
  simp[Fp,this])
 let n:=bQ (fe:=Ft) (r:=[↑(.lst (H.map aG))]) (enc:=nD) (λb=>.bl (decide (H.length<=b))) (l:=l) (λb d=>by
  simp[Ft])
 let j:¬((60:Int)<H.length):=by ac_nf
 let m:=Cw (λ_=>true) H
 let p:(l.map λb=>decide (H.length<=b)).any id=true:=by
  rw[List.any_eq_true];show{true,List.mem_map.mpr {x,(e x).mpr {(r),c,h},wm g},rfl}
 rw[cA (by simp[j]),cA (by simp[aj,f,m]),de (by
  simp[aj,n,d]
  symm)]
 rfl
theorem IQ(g:OkG k R H)(ev:AG)(C:H.length<ev.length):rJ [ak k,.lst (R.map bj),.lst (H.map aG),.lst (ev.map D.bl)]=some true:=by
 show @if_pos _ _ ?_ _ _ _;let i:Ye 6 [ak k,.lst (R.map bj),.lst (H.map aG),.lst (ev.map D.bl)]=[_,_,some _,some _,none,none]:=rfl;rw[i];let w:=xC k (c:=.lst (R.map bj)) g.i (ni R) rfl (by let:=g.1;ac_nf);let s:=Py (k:=k) (R:=R) g.2.1 g.1 (λr n=>{(g.2.2 r n).1,by let:=(g.2.2 r n).2;ac_nf}) (.inl rfl);unfold O5 kH gj;show P9 ?_ s nofun (Pz k R) (rS H) λa z l q A=>?_
 .simp[frz,w]
 show{ev.map D.bl,rfl,?_}
 let m:∀(e b:AG) (y:AQ) (t:Hs),t a=some (.bls b)->b.length<=H.length->H.length<b.length+e.length->
  gq (aq 5) wX (kK "Watch" "settle" (af 4) (Yb (af 5) ae) λx t=>Gm (Ye 2 x) t=some true) (e.map D.bl) [↑(ak k),↑(.lst (R.map bj)),↑(.lst (H.map aG)),↑(.lst (ev.map D.bl)),↑(wA k R H a),y] t:=by
  intro e
  induction e with
  | nil=>symm
  | cons c e p=>
    intro b y t o l q;show{_,rfl,?_};by_cases f:b.length<H.length
    .show .inr ?_
     show{wA k R H a,[.bl c],"Watch",kb,mT,λ_ j=>j a=some _,rfl,rfl,rfl,by decide,rfl,P8 o f g.2.1 g.r c cW,λd j h=>?_};show p (b++[c]) _ j h ⋯ ⋯
    .show .inl {wA k R H a,[.bl c],kb,rfl,rfl,rfl,by decide,?_}
     let v:=xR (H:=H) (k:=k) (R:=R) o;let u:=P6 (bV k R) (.tup (H.map aG)) (.lst (b.map D.bl));rw[GJ l,GH f]at u;change mq _ _ t=some true;unfold mq
     let:gL t (Ye 2 [wA k R H a,.bl c])=[↑(d4 k R H b),↑(bp t (.bl c))]:=by
      change([↑_,↑_]:Ro)=_;rw[v]
     ext
 ext
end
abbrev kw(k:Kd):AJ:=[T "kind",Lw.kS k]
abbrev hw(H:AG):AJ:=y4 (T "hands") (H.map y8)
abbrev sw(ev:AG):AJ:=y4 (T "settled") (ev.map bL)
def fM(k:Kd)(v:AJ):D:=(jr [ak k,wD v]).getD .non
theorem RO.rd{k:Kd}{v:AJ}{d:D}(h:RO k v d):fM k v=d/\RO k v (fM k v):=by
 let:fM k v=d:=by unfold fM;rw[h.2];rfl
 symm
section
variable {k:Kd}{H ev:AG}{rest W:List AJ}
theorem IR(b:∀w∈kw k::hw H::rest,Wd w)(c:rest.length<=98)(a:H.length<=61):Yz [.str (bO (kw k::hw H::rest))]=iK (rp (bO (kw k::hw H::rest)) (wD (kw k)::wD (hw H)::rest.map wD) (↑(ak k)) (↑(.lst (H.map aG))) none none none):=by
 rw[lq nofun b ⋯,Qd,Qd,sI (Qn k) (Ho k),Ir (Iy H a) (PV H a)]
theorem sR(f:∀w∈kw k::hw H::(W++[sw ev]),Wd w)(g:W.length<=97)(e:H.length<=61)(h0:ev≠[])(d:ev.length<=61):Yz [.str (bO (kw k::hw H::(W++[sw ev])))]=m7 (rp (bO (kw k::hw H::(W++[sw ev]))) (wD (kw k)::wD (hw H)::(W.map wD++[wD (sw ev)])) (↑(ak k)) (↑(.lst (H.map aG))) (↑(.bl true)) (↑(.lst (ev.map D.bl))) none):=by
 rw[IR f (by simp;ac_nf) e,Qk,Qd,List.map_nil];let c:aN (_::_::(_++[wD (sw ev)])) _=_:=iT (wD (kw k)::wD (hw H)::W.map wD) _;obtain⟨l,a⟩:∃l,sw ev=_:=P_ _ _
 let b:aN (wD (kw k)::wD (hw H)::(W.map wD++[wD (sw ev)])) (-1)=some (wD (T "settled"::l)):=by rw[c,a]
 rw[lu b,wm rfl,ID c (IA ev h0 d) (PX ev h0 d)]
def sS:aB (wD (kw k)::wD (hw H)::(W.map wD++[wD (sw ev)])) (some 2) (some (-1))=W.map wD:=sg _ _ _ _
def QA(b:∀w∈kw k::hw H::(W++[sw ev]),Wd w)(f:W.length<=97)(g:H.length<=61)(h0:ev≠[])(e:ev.length<=61){pre post:List AJ}{w:AJ}(c:W=pre++w::post)(h:∀v∈pre,∃d,RO k v d)(a:y9 [ak k,wD w]=some true):Yz [.str (bO (kw k::hw H::(W++[sw ev])))]=some true:=by
 rw[sR b f g h0 e];show sO (.inl {(rfl),sS}) c h a
def nq(b:∀w∈kw k::hw H::(W++[sw ev]),Wd w)(f:W.length<=97)(g:H.length<=61)(h0:ev≠[])(e:ev.length<=61)(i:∀v∈W,∃d,RO k v d)(c:mY [ak k,.lst (W.map (fM k)),.lst (H.map aG),.lst (ev.map D.bl)]=some true\/m6 [ak k,.lst (W.map (fM k)),.lst (H.map aG),.lst (ev.map D.bl)]=some true\/rJ [ak k,.lst (W.map (fM k)),.lst (H.map aG),.lst (ev.map D.bl)]=some true):Yz [.str (bO (kw k::hw H::(W++[sw ev])))]=some true:=by
 rw[sR b f g h0 e,IH (.inl {(rfl),sS}) (λv a=>by
  let{d,h}:=i v a
  show h.rd.2)]
 show II c
def QB(hL:∀w∈kw k::hw H::W,Wd w)(hl:W.length<=98)(hH:H.length<=61){x:Str}{u:AJ}(h1:aN (wD (kw k)::wD (hw H)::W.map wD) (-1)=some (wD (x::u)))(hx:¬x=T "settled"){pre post:List AJ}{w:AJ}(hW:W=pre++w::post)(hp:∀v∈pre,∃d,RO k v d)(hw':y9 [ak k,wD w]=some true):Yz [.str (bO (kw k::hw H::W))]=some true:=by
 rw[IR hL hl hH,lu h1,decide_eq_false hx,IE];show sO (.inr {rfl,lh _ _ _}) hW hp hw'
theorem IS{l:AJ}(d:∀w∈kw k::hw H::(W++[T "settled"::l]),Wd w)(e:W.length<=97)(b:H.length<=61)(c:gP [wD (T "settled"::l)]=some true):Yz [.str (bO (kw k::hw H::(W++[T "settled"::l])))]=some true:=by
 rw[IR d (by simp;ac_nf) b,Qk,Qd,List.map_nil];let a:aN (_::_::(_++[wD (T "settled"::l)])) _=_:=iT (wD (kw k)::wD (hw H)::W.map wD) _;rw[lu a];show IC a c
theorem IT{a:AJ}(b:∀w∈kw k::a::rest,Wd w)(d:rest.length<=98)(c:gu [wD a]=some true):Yz [.str (bO (kw k::a::rest))]=some true:=by
 rw[lq nofun b ⋯,Qd,sI (Qn k) (Ho k)];show Ip c
theorem QC{a b:AJ}(c:∀w∈a::b::rest,Wd w)(e:rest.length<=98)(d:iI [wD a]=some true):Yz [.str (bO (a::b::rest))]=some true:=by
 rw[lq nofun c ⋯];show Io d
end
def RowF(k:Kd)(n:Nat)(w:AJ):Prop:=(Wq w/\T ""∈w)\/(Wd w/\(Ik k w\/∃r0 r x,w=Yd r0/\In k 60 r0/\sz r0<=1000/\Hd r (bj r0)/\In k 60 r/\dZ r/\sz r<=61/\x∈c9 r/\n<=x))
structure Gd(k:Kd)(R:List Rl)(H ev:AG):Prop where
 ok:OkG k R H
 l9:R.length<=9
 h1:H≠[]
 e0:ev≠[]
 el:ev.length<=H.length
section
variable {k:Kd}{R:List Rl}{H ev:AG}
def Gd.i(g:Gd k R H ev):∀r∈R,In k 60 r/\dZ r/\sz r<=60:=λr hr=>{(g.ok.i r hr).1,(g.ok.i r hr).2,(g.ok.2.2 r hr).2}
def Gd.e60(g:Gd k R H ev):ev.length<=60:=Qg g.el g.ok.2.1
def sT(g:Gd k R H ev):bc k R H ev=kw k::hw H::(R.map Yd++[sw ev]):=by
 unfold bc;rw[if_neg g.e0]
theorem Gd.ro(g:Gd k R H ev):∀r∈R,RO k (Yd r) (bj r):=λr hr=>IF (g.i r hr).1 (by let:=(g.i r hr).2.2;ac_nf)
def Gd.wd(g:Gd k R H ev):∀w∈bc k R H ev,Wd w:=P4 (λr hr=>{(g.i r hr).1,(g.i r hr).2.2}) g.ok.2.1 g.e60
def Gd.wdk(g:Gd k R H ev):Wd (kw k):=g.wd _ (by rw[sT g];show .head _)
theorem Gd.wdh(g:Gd k R H ev):Wd (hw H):=g.wd _ (by rw[sT g];symm)
def Gd.wds(g:Gd k R H ev):Wd (sw ev):=g.wd _ (by rw[sT g];simp)
theorem Gd.wdr(g:Gd k R H ev):∀r∈R,Wd (Yd r):=λr hr=>g.wd _ (by rw[sT g];symm)
theorem QD:∀{A B:List Rl}{x y:AN},HdL A x->HdL B y->HdL (A++B) (x++y)
 | [],_,[],_,_,h=>h
 | _::_,_,_::_,_,h,a=>{h.1,QD h.2 a}
 | [],_,_::_,_,h,_=>h.elim
 | _::_,_,[],_,h,_=>h.elim
theorem IU{pre post:List Rl}{r:Rl}(g:Gd k (pre++r::post) H ev){w:AJ}(h:RowF k H.length w):Yz [.str (bO (kw k::hw H::((pre.map Yd++w::post.map Yd)++[sw ev])))]=some true:=by
 let K:pre.length+post.length+1<=9:=by let:=g.l9;symm
 let i:∀q∈pre,q∈pre++r::post:=λq f=>by simp[f]
 let j:∀q∈post,q∈pre++r::post:=λq f=>by simp[f]
 let C:=g.ok.2.1;let L:=g.e60
 let o:∀{P:AJ->Prop},P (kw k)->P (hw H)->P w->P (sw ev)->(∀q∈pre++r::post,P (Yd q))->∀v∈kw k::hw H::((pre.map Yd++w::post.map Yd)++[sw ev]),P v:=λ{P} a b c d e v m=>by
  symm
 let l:(pre.map Yd++w::post.map Yd).length<=97:=by simp;ac_nf
 let{f,y}+{hd,h}:=h
 .show nk nofun (o g.wdk.toWq g.wdh.toWq f g.wds.toWq λq f=>(g.wdr q f).toWq) (by simp;ac_nf) (w:=w) nofun y
 let z:=o (P:=Wd) g.wdk g.wdh hd g.wds g.wdr;let(h+{B,d,G,D})+{n,s,x,rfl,E,A,J,M,i2,N,I,F}:=h
 .show QA z l ∅ g.e0 ∅ rfl (λv m=>by
   let{q,f,rfl}:=qy m
   show{_,g.ro q (i q f)}) h
 .let u:RO k w d:={(B),G}
  show nq z l ∅ g.e0 ∅ (λv m=>?_) (.inl (sQ ?_))
  .simp only[List.mem_append,List.mem_cons,List.mem_map]at m
   let{q,f,rfl}+rfl+{q,f,rfl}:=m
   .show{_,g.ro q (i q f)}
   .grind
   .show{_,g.ro q (j q f)}
  .let t:(pre.map Yd++w::post.map Yd).map (fM k)=pre.map bj++d::(post.map Yd).map (fM k):=by
    rw[Qk,Qd,u.rd.1,Qf]
    congr 1
    show Qq λq f=>(g.ro q (i q f)).rd.1
   rw[t];show IM (λq f=>{(g.i q (i q f)).1,(g.i q (i q f)).2.1}) D (by simp;ac_nf)
 .let p:∀q∈pre++s::post,In k 60 q/\dZ q/\sz q<=61:=λq f=>by
   simp only[List.mem_append,List.mem_cons]at f;let f+rfl+f:=f
   .show{(g.i q (i q f)).1,(g.i q (i q f)).2.1,Nat.le_succ_of_le (g.i q (i q f)).2.2}
   .grind
   .show{(g.i q (j q f)).1,(g.i q (j q f)).2.1,Nat.le_succ_of_le (g.i q (j q f)).2.2}
  let u:RO k (Yd n) (bj n):=IF E A
  let t:(pre.map Yd++Yd n::post.map Yd).map (fM k)=pre.map bj++bj n::post.map bj:=by
   rw[Qk,Qd,u.rd.1,Qf,Qf]
   congr 1
   .show Qq λq f=>(g.ro q (i q f)).rd.1
   .congr 1
    show Qq λq f=>(g.ro q (j q f)).rd.1
  show nq z l ∅ g.e0 ∅ (λv m=>?_) (.inr (.inl ?_))
  .simp only[List.mem_append,List.mem_cons,List.mem_map]at m
   let{q,f,rfl}+rfl+{q,f,rfl}:=m
   .show{_,g.ro q (i q f)}
   .grind
   .show{_,g.ro q (j q f)}
  .rw[t]
   show lz (xC k (R:=pre++s::post) (c:=.lst (pre.map bj++bj n::post.map bj)) (λq f=>{(p q f).1,(p q f).2.1}) (QD (ni pre) (show HdL (s::post) (bj n::post.map bj) from{J,ni post})) rfl (by simp;ac_nf)) (Qz C (by simp;ac_nf) (λq f=>{(p q f).1,(p q f).2.2}) (r:=s) nofun I F)
end
theorem IV{n:Nat}(h:n<=60):da [.int (n:Int)]=some (.str (ar n)):=by
 by_cases a:n<60
 .show jt a
 .obtain rfl:n=60:=by ac_nf
  kernel_rfl
theorem lA{x:Str}{w:AJ}(c:bU x)(h:∀y∈w,bU y)(a:w.length<=69):Wd (x::w):=fA nofun (λy b=>by
 symm) (by simp;ac_nf)
theorem xV{k:Kd}{r:Rl}(e:In k 60 r):∀x∈Yd r,bU x:=by
 let{d,j,i,g,_}:=wok_w
 cases r with
 | ei l=>
   let{rfl,h}:=e;intro x a;let rfl+a:=qu a
   .show d
   .let{s,c,rfl}:=qy a
    show P3 s.1 (h s c) s.2
 | su b o=>
   let{rfl,h}:=e;intro x a;let rfl+a:=qu a
   .show d
   let rfl+a:=qu a
   .grind
   .let{s,c,rfl}:=qy a
    show nh s (h s c)
 | im b hd=>
   let{_,h,f}:=e;intro x a;rw[lp]at a;let rfl+a:=qu a
   .show d
   let a+a:=qw a
   .let{s,c,rfl}:=qy a
    show nh s (h s c)
   let rfl+a:=qu a
   .show g
   .let{s,c,rfl}:=qy a
    show nh s (f s ⋯)
theorem xW(r:Rl):(Yd r).length<=sz r+3:=by
 cases r with
 | ei l=>rw[Yd];simp[sz]
 | su b o=>rw[Yd];simp[sz]
 | im b h=>rw[lp];cases h<;>simp[sz]<;>ac_nf
def lB{x:Str}(h:bU x):32∉x.cps.toList/\10∉x.cps.toList/\x.length<=100:={(h.1),h.2.1,h.2.2.2}
def lC(x:Str):Prop:=32∉x.cps.toList/\10∉x.cps.toList/\x.length<=100
def lD{w:AJ}(h0:w≠[])(h:∀x∈w,lC x)(b:w.length<=70):Wq w:={h0,λx a=>(h x a).1,λx a=>(h x a).2.1,λx a=>(h x a).2.2,b}
def lE:lC (T ""):=by unfold lC;decide +kernel
def IW:(List.range 61).map (λn=>cy true y7 (.str (ar n)))=(List.range 61).map λ_=>some true:=by kernel_rfl
def bad_60:gN [.str (ar 60)]=some .non/\iH [.str (T "+"++ar 60)]=some .non:={by kernel_rfl,by kernel_rfl}
def IX:∀n,n<61->bU (ar n)/\bU (T "+"++ar n):=by decide +kernel
section
variable {k:Kd}{r:Rl}{n:Nat}
def IY(k:Kd):∀w∈eH k,w≠[]/\(∀x∈w,bU x)/\w.length<=70:=by cases k<;>decide +kernel
theorem lG{b g:Type}{f:b->g}{l:List b}{m:Nat}(d:l.length=m)(h:0<m)(x:Int):∃a∈l,aN (l.map f) (x%(m:Int))=some (f a):=by
 let{a,c,e}:=Co (i:=x%m) (Int.emod_nonneg _ ∅) (by rw[d];show Int.emod_lt_of_pos _ ∅);show{a,c,by rw[vr,e];rfl}
theorem IZ(at_:Int):∃w,xp [ak k,.int at_]=some (wD w)/\RowF k n w:=by
 let{w,hw,e}:=lG (f:=wD) (l:=eH k) (m:=4) (by cases k<;>rfl) (by decide) at_;let e':aN ((eH k).map wD) (at_%4)=some (wD w):=e;let{n0,ok,ln}:=IY k w hw
 let hb:gy k w=true:=by
  let:=Il k
  let h4:(eH k).map (gy k)=(eH k).map λ_=>true:=by rw[this];cases k<;>rfl
  show jw h4 w hw
 show{w,?_,.inr {fA n0 ok ln,.inl (Im hb)}};rw[xp,Yu (by rfl)]
 cases k<;>(simp only[eH,Qd,List.map_nil,wD]at e';simp[OZ,Ye,ke,ks,e'])
end
abbrev allW:AJ:=T ""::badW
def bX{f g:AR}{ρ ρ':Ro}(h:f ρ=some (.nx ρ')):ag f g ρ=g ρ':=by simp[h]
def w5:∀x∈[T "rules",T "Rule",T "",T "settled",T "hands"],¬x=T "rule"/\(x=T ""\/bU x):=by decide +kernel
def I0:cu (.str "9") (.int 30)=some (.str w9):=by kernel_rfl
section
variable {k:Kd}{r:Rl}{n:Nat}
abbrev gA(row k:D)(way at_:Int)(n:Nat)(a b:AQ):Ro:=[↑row,↑k,↑(.int way),↑(.int at_),↑(.int (n:Int)),a,b]
def nt(row:D)(way at_:Int):gv [row,ak k,.int way,.int at_,.int (n:Int)]=(Gi (gA row (ak k) way at_ n (some (.ow (allW.map D.str))) none)).bind aZ:=by
 rw[gv,Yu (by rfl)];let a:Ye 7 [row,ak k,_,_,_]=gA row _ way at_ n _ _:=rfl;rw[a];unfold O1;rw[bX (ρ':=gA row (ak k) way at_ n (some (.ow (allW.map .str))) none) (by simp[I0,badW])]
def dg{a b:AN}(h:a.length+b.length<=1000000):aC (.lst a) (.lst b)=some (a++b):=if_pos h
theorem I_(g:In k 60 r)(hs:sz r<=60)(at_:Int):∃w,gv [wD (Yd r),ak k,.int 0,.int at_,.int (n:Int)]=some (wD w)/\RowF k n w:=by
 let{d,hw}:=si r;let b:=xV g;let a:=xW r;rw[hw]at b a;let{x,j,e}:=lG (l:=[T _,T _,T "",T _,T _]) (m:=5) rfl (by decide) at_;let i:aN [D.str _,_,_,_,_] (at_%5)=_:=e;let f:=w5 x j;show{x::d,?_,?_}
 .rw[nt,hw]
  simp[i,fB (.str (T "rule")) (d.map .str),dg (a:=[.str x]) (b:=d.map .str) ⋯]
 .simp at a
  let rfl+h:=f.2
  .show .inl ⟨lD nofun (λy c=>by
    let rfl+c:=qu c
    .show lE
    .show lB (b y (.tail _ c))) (by simp;ac_nf),.head _⟩
  .show .inr {lA h (λy c=>b y (.tail _ c)) ∅,.inl (.inl (xT f.1))}
theorem cO{c:AT}{f g:AR}{ρ:Ro}(h:c ρ=some false):aH c f g ρ=g ρ:=by ext
def sU{row:D}{way at_:Int}{a b:AQ}(h:¬way=0):Gi (gA row (ak k) way at_ n a b)=k6 (gA row (ak k) way at_ n a b):=bX (by rw[cO (by simp[h])];rfl)
theorem sV{row:D}{way at_:Int}{a b:AQ}(h:¬way=1\/aF [row]=some (.int 1))(h2:¬way=2)(h3:¬way=3):k6 (gA row (ak k) way at_ n a b)=Gh (gA row (ak k) way at_ n a b):=by
 unfold k6
 rw[bX (ρ':=gA row (ak k) way at_ n a b) (by
  rw[cO]
  .rfl
  .let h+h:=h
   .simp[h]
   .by_cases h1:way=1
    .simp[h1,h]
    .simp[h1])]
 ext
theorem sW{row:D}{way at_:Int}{a b:AQ}:∃w,Gh (gA row (ak k) way at_ n a b)=some (.rt (wD w))/\RowF k n w:=by
 let{w,e,h}:=IZ at_;show{w,?_,h}
 ext
def Jc{row:D}{way at_:Int}(h:¬way=0/\¬way=1/\¬way=2/\¬way=3):∃w,gv [row,ak k,.int way,.int at_,.int (n:Int)]=some (wD w)/\RowF k n w:=by
 let{w,e,hw}:=sW;show{w,?_,hw};rw[nt,sU h.1,sV (.inl h.2.1) h.2.2.1 h.2.2.2,e];rfl
theorem Jd(d:In k 60 r)(hs:sz r<=60){at_:Int}:∃w,gv [wD (Yd r),ak k,.int 3,.int at_,.int (n:Int)]=some (wD w)/\RowF k n w:=by
 let{i,hw}:=si r;let b:=xV d;let c:=xW r
 let g:0<(Yd r).length:=by rw[hw];simp
 nomatch Yd r=v
 obtain⟨j,h,p⟩:∃j:Nat,j<v.length/\at_%v.length=(j:Int):=⟨(at_%v.length).toNat,by
  let:=Int.emod_lt_of_pos at_ (b:=v.length) ∅
  symm,by
  let:=Int.emod_nonneg at_ (b:=v.length) ∅
  ac_nf⟩
 show{v.take (j+1)++[T ""]++v.drop (j+1),?_,.inl {lD nofun (λy a=>?_) (by simp;ac_nf),by simp}}
 .rw[nt,sU (by decide)]
  unfold k6;rw[bX (by rfl)];unfold O0;rw[bX (by rfl)];let f:=gw (v.map D.str) (j+1) (by simp;ac_nf);let e:=fL (v.map D.str) (j+1) (by simp;ac_nf);let l:=dg (a:=(v.map D.str).take (j+1)) (b:=[.str (T "")]) (by simp;ac_nf);let o:=dg (a:=(v.map D.str).take (j+1)++[.str (T "")]) (b:=(v.map D.str).drop (j+1)) (by simp;ac_nf)
  let m:((j+1:Nat))=1+(j:Int):=by ac_nf
  ext
 .simp only[List.mem_append,List.mem_singleton]at a
  let(a+rfl)+a:=a
  .show lB (b y (List.mem_of_mem_take a))
  .show lE
  .show lB (b y (List.mem_of_mem_drop a))
theorem Je(i:In k 60 r)(hs:sz r<=60){at_:Int}:∃w,gv [wD (Yd r),ak k,.int 1,.int at_,.int (n:Int)]=some (wD w)/\RowF k n w:=by
 let{H,hw}:=si r;let g:=xV i;let p:=xW r;by_cases G:(Yd r).length=1
 .let{w,e,c}:=sW (k:=k) (n:=n) (row:=wD (Yd r)) (way:=1) (at_:=at_) (a:=some (.ow (allW.map D.str))) (b:=none)
  show{w,?_,c};rw[nt,sU (by decide),sV (.inr (by simp[wD,G])) (by decide) (by decide),e];rfl
 let I:2<=(Yd r).length:=by symm
 let q:=λ{w:Str} (hw:w∈badW) {j:Nat} (l:j+1<(Yd r).length)=>Ij i (by lia:sz r<=1000) hw l;nomatch Yd r=v
 obtain⟨j,l,B⟩:∃j:Nat,j<v.length-1/\at_/16%((v.length:Int)-1)=(j:Int):=⟨(at_/16%((v.length:Int)-1)).toNat,by
  let:=Int.emod_lt_of_pos (at_/16) (b:=((v.length:Int)-1)) ∅
  symm,by
  let:=Int.emod_nonneg (at_/16) (b:=((v.length:Int)-1)) ∅
  ac_nf⟩
 let{x,b,e}:=lG (f:=D.str) (l:=allW) (m:=12) rfl (by decide) at_;let F:aN (allW.map D.str) (at_%12)=some (.str x):=e
 let d:v.set (j+1) x=v.take (j+1)++[x]++v.drop (j+2):=by
  rw[List.set_eq_take_append_cons_drop,if_pos ∅];simp
 show{v.set (j+1) x,?_,?_}
 .rw[nt,sU (by decide)]
  let o:=gw (v.map D.str) (j+1) (by simp;ac_nf);let h:=fL (v.map D.str) (j+2) (by simp;ac_nf);let A:=dg (a:=(v.map D.str).take (j+1)) (b:=[.str x]) (by simp;ac_nf);let s:=dg (a:=(v.map D.str).take (j+1)++[.str x]) (b:=(v.map D.str).drop (j+2)) (by simp;ac_nf)
  let u:((j+1:Nat):Int)=1+(j:Int):=by ac_nf
  let C:((j+2:Nat):Int)=1+(j:Int)+1:=by ac_nf
  rw[u]at o;rw[C]at h
  let E:(v.map D.str).length=v.length:=by simp
  let t:wD (v.set (j+1) x)=.lst ((v.map D.str).take (j+1)++[.str x]++(v.map D.str).drop (j+2)):=by rw[d];simp[wD]
  rw[t];change(k6 (gA (.lst (v.map D.str)) (ak k) 1 at_ n (some (.ow (allW.map D.str))) none)).bind aZ=_
  let f:(1:Int)<(v.length:Int):=by ac_nf
  nomatch v.map D.str=V,allW.map D.str=J
  let m:(1:Int)+(j:Int)<=1000:=by ac_nf
  simp[E,f,B,o,h,A,s,F]
 .let rfl+b:=qu b
  .show .inl {lD (λz=>by symm) (λy a=>?_) (by simp;ac_nf),List.mem_set ∅ _}
   let a+rfl:=List.mem_or_eq_of_mem_set a
   .show lB (g y a)
   .show lE
  .show .inr {fA (λz=>by symm) (λy a=>?_) (by simp;ac_nf),.inl (.inl (q b ∅))}
   let a+rfl:=List.mem_or_eq_of_mem_set a
   .grind
   .show(sG y b).1
end
def Jf{k:Kd}{n:Nat}(c:n<=60){r:Rl}(d:In k n r)(hs:dZ r):sz r<=60:=by
 cases r with
 | ei l=>show Qg hs.1 (by decide)
 | su b o=>show k_ hs λx a=>Qi (d.2 x a) c
 | im b h=>show k_ hs λx a=>Qi (d.2.1 x a) c
def Jg:cu (.str "+") (.int 1)=some (.str (T "+"))/\cu (.str "+") (.int 0)=some (.str (T "")):={by kernel_rfl,by kernel_rfl}
def Jh:∀n,n<61->T ""++ar n=ar n:=by decide +kernel
def YM:∀n,n<61->(ar n).length<=2:=by decide +kernel
def pw(k:Kd)(n:Nat):Str:=if k=.e then T "+"++ar n else ar n
section
variable {k:Kd}{r:Rl}{n:Nat}
theorem Ji{ws:AJ}(hn:n<=60)(hl:ws.length<=100){at_:Int}:gv [wD (T "rule"::ws),ak k,.int 2,.int at_,.int (n:Int)]=some (wD (T "rule"::pw k n::ws)):=by
 rw[nt,sU (by decide)];unfold k6;rw[bX (ρ':=gA (wD (T "rule"::ws)) (ak k) 2 at_ n (some (.ow (allW.map D.str))) none) (by rw[cO nofun];rfl)];let ke:=ke k;let hn':=IV hn;let ln:=YM n ∅;let{p1,p0}:=Jg
 let e1:cu (.str "+") (.int (if decide (k=.e)=true then 1 else 0))=some (.str (if k=.e then T "+" else T "")):=by
  by_cases h:k=.e
  .simp only[h,decide_true,if_true];show p1
  .simp only[h,decide_false,if_false,Qo];show p0
 let e2:cq (.str (if k=.e then T "+" else T "")) (.str (ar n))=some (.str (pw k n)):=by
  unfold pw;by_cases h:k=.e
  .rw[if_pos h,if_pos h];show xD (by rw[lenPM.1];decide) ∅
  .rw[if_neg h,if_neg h,xD (by rw[lens.1];decide) ∅,Jh n ∅]
 let c1:=fB (.str (T "rule")) (ws.map D.str);let c2:aB (.str (T "rule")::ws.map D.str) none (some 1)=[.str (T "rule")]:=gw (.str (T "rule")::ws.map D.str) 1 nofun;let k1:=dg (a:=[D.str (T "rule")]) (b:=[.str (pw k n)]) nofun;let k2:=dg (a:=[D.str (T "rule"),.str (pw k n)]) (b:=ws.map D.str) (by simp;ac_nf);nomatch pw k n=PW,(if k=.e then T "+" else T "")=PL
 cases hk:decide (k=.e)with
 | true=>
   rw[hk]at ke e1;simp only[if_true]at e1;simp[wD,ke,hn',e1,e2,c1,c2,k1,k2]
 | false=>
   rw[hk]at ke e1;simp only[Qo,if_false]at e1;simp[wD,ke,hn',e1,e2,c1,c2,k1,k2]
theorem QE{A:Addr}{fn:AN->Option D}(hA:tv.lookup A=some fn){l:List (Str×D)}(h:Rds fn l)(hl:l.length<=999){b:Str}(hb:fn [.str b]=some .non):Yq [.adr A,wD (b::l.map (·.1))]=some true:=by
 let:=xS hA (l:=(b,.non)::l) (λa ha=>by
  let rfl+ha:=qu ha
  .show{hb,by simp[aL]}
  .show h a ha) (by simp;ac_nf)
 rw[Qd]at this;rw[this,HM nofun]
theorem Jj(hr:In k n r)(hs:dZ r)(hn:n<=60){at_:Int}:∃w,gv [wD (Yd r),ak k,.int 2,.int at_,.int (n:Int)]=some (wD w)/\RowF k n w:=by
 let h60:In k 60 r:=HI hn hr;let hsz:=Jf hn hr hs;let okw:=xV h60;let hlen:=xW r;let{wk1,wk2}:=IX n ∅
 cases r with
 | ei l=>
   let{rfl,h}:=hr;let{h2,hpw}:=hs;rw[Yd]at okw hlen ⊢;simp only[qt,qf]at hlen
   let wd:Wd (T "rule"::(T "+"++ar n)::l.map aS):=fA nofun (λy hy=>by
    let rfl+hy:=qu hy
    .show wok_w.1
    let rfl+hy:=qu hy
    .show wk2
    .show okw y (.tail _ hy)) (by simp;ac_nf)
   show{_,Ji hn (by simp;ac_nf),.inr {wd,?_}};change Ik .e (T "rule"::(T "+"++ar n)::l.map aS)\/_;by_cases hn6:n<60
   .let i0:In .e 60 (.ei ((n,true)::l)):=⟨rfl,λs hs=>by
     let rfl+hs:=qu hs
     .show hn6
     .show h60.2 s hs⟩
    let ro:=IF i0 (show sz (.ei ((n,true)::l))<=1000 by simp[sz];ac_nf);by_cases h3:l.length=2
    .show .inl (.inr {ro.1,_,ro.2,?_})
     rw[jn,b8 (by rfl)];unfold E8;rw[de (by simp[Ye,ke])]
     let hx:mI [bj (.ei ((n,true)::l))]=some true:=by
      rw[mI,b8 (by rfl)];unfold E5;rw[de (by simp[Ye,bj,h3])];rfl
     simp[Yv,Ye,hx]
    .show .inr {.ei ((n,true)::l),.ei (l++[(n,true)]),n,rfl,i0,by simp[sz];ac_nf,{(n,true)::l,false,(List.perm_append_singleton _ _).symm,rfl},{rfl,λs hs=>?_},{by simp;ac_nf,List.pairwise_append.mpr {hpw,by simp,λa ha b hb=>?_}},by simp[sz];ac_nf,by simp[c9],qv _}
     .simp only[List.mem_append,List.mem_singleton]at hs
      let hs+rfl:=hs
      .show h60.2 s hs
      .show hn6
     .cases List.mem_singleton.mp hb
      show .inl (h a ha)
   .obtain rfl:n=60:=by ac_nf
    show .inl (.inl ?_);rw[iP];let:=QE xK (HP h60.2) (by simp;ac_nf) bad_60.2
    rwa [HR]at this
 | su b o=>
   let{rfl,h}:=hr;rw[Yd]at okw hlen ⊢;simp only[qt,qf]at hlen;simp only[sz]at hsz;show{_,Ji hn (by simp;ac_nf),.inr {fA nofun (λy hy=>?_) (by simp;ac_nf),.inl (.inl ?_)}}
   .let rfl+hy:=qu hy
    .show wok_w.1
    let rfl+hy:=qu hy
    .show wk1
    .show okw y (.tail _ hy)
   .rw[iP]
    show sA (jw IW n (List.mem_range.mpr ∅))
 | im b hd=>
   let{hk,h,hh}:=hr;let hh60:∀x∈hd.toList,x<60:=λx hx=>h60.2.2 x (by simpa using hx)
   let hl1:hd.toList.length<=1:=by cases hd<;>simp
   rw[lp]at okw hlen ⊢;simp only[sz]at hsz hlen
   let kn:¬k=.e:=by let rfl+rfl:=hk<;>decide
   let epw:pw k n=ar n:=if_neg kn
   let wd:Wd (T "rule"::ar n::(b.map ar++T ">"::hd.toList.map ar)):=fA nofun (λy hy=>by
    let rfl+hy:=qu hy
    .show wok_w.1
    let rfl+hy:=qu hy
    .show wk1
    .show okw y (.tail _ hy)) (by simp;ac_nf)
   show{_,Ji hn (by simp;ac_nf),?_};rw[epw];show .inr {wd,?_};by_cases hn6:n<60
   .let i0:In k 60 (.im (n::b) hd):=⟨hk,λx hx=>by
     let rfl+hx:=qu hx
     .show hn6
     .show h60.2.1 x hx,h60.2.2⟩
    show .inr {.im (n::b) hd,.im (b++[n]) hd,n,?_,i0,by simp[sz];ac_nf,{n::b,_,(List.perm_append_singleton _ _).symm,rfl,rfl},{hk,λx hx=>?_,h60.2.2},List.pairwise_append.mpr {hs,by simp,λa ha c hc=>?_},by simp[sz];ac_nf,by cases hd<;>simp[c9],qv _}
    .rw[lp];rfl
    .simp only[List.mem_append,List.mem_singleton]at hx
     let hx+rfl:=hx
     .show h60.2.1 x hx
     .show hn6
    .cases List.mem_singleton.mp hc
     show h a ha
   .obtain rfl:n=60:=by ac_nf
    show .inl (.inl ?_);let hx:=QE xJ (HN h60.2.1) (by simp;ac_nf) bad_60.1;rw[HQ]at hx
    let hg:T ">"∉ar 60::b.map ar:=λz=>by
     let z+z:=qu z
     .show absurd z (by decide +kernel)
     .show nj h60.2.1 z
    let:=ll (q:=hd.toList.map ar) hg (by simp;ac_nf) (sx hh60 ∅) (sy hh60 ∅) hx λz=>(nomatch z)
    rw[Bool.or_true]at this;rw[iP];let rfl+rfl:=hk<;>show this
end
theorem Jk{n:Nat}(j d:Nat)(h:j<=n):HT.sIx n d (some (-((j:Int)+1)))=n-(j+1):=by
 change(if _ then _ else _)=_;symm
theorem Jl(l:AN)(z:D):aB (l++[z]) none (some (-1))=l:=by
 let:=Jk (n:=(l++[z]).length) 0 (l++[z]).length ∅;unfold aB;rw[show(some (-1))=some (-(((0:Nat):Int)+1)) from rfl,this];simp[HT.sIx]
def Jm(l:AN)(y z:D):aB (l++[y,z]) none (some (-2))=l:=by
 let:=Jk (n:=(l++[y,z]).length) 1 (l++[y,z]).length nofun;unfold aB;rw[show(some (-2))=some (-(((1:Nat):Int)+1)) from rfl,this];simp[HT.sIx]
theorem Jn(l:AN)(z:D):aB (l++[z]) (some (-1)) none=[z]:=by
 let:=Jk (n:=(l++[z]).length) 0 0 ∅;unfold aB;rw[show(some (-1))=some (-(((0:Nat):Int)+1)) from rfl,this];simp[HT.sIx]
theorem sX(l:AN)(y z:D):aN (l++[y,z]) (-2)=some y:=by
 let e:eR (l++[y,z]).length (-2)=some l.length:=by
  unfold eR;symm
 unfold aN;rw[e];simp
def gB(L:List AJ):Prop:=(∀w∈L,Wq w)/\L.length<=100/\Yz [.str (bO L)]=some true
def Jo:Wq [T ""]:=lD nofun (λx a=>by cases List.mem_singleton.mp a;show lE) nofun
section
variable {A:D}{W:AN}{k:Kd}{R:List Rl}{H ev:AG}
abbrev r4(l:AN)(way at_:Int):Ro:=[↑(.lst l),↑(.int way),↑(.int at_),none]
def nu(l:AN)(way:Int):gS [.lst l,.int way,.int at_]=(kZ (r4 l way at_)).bind aZ:=rfl
def Jp:gS [.lst (A::W),.int 0,.int at_]=some (.lst W):=by
 rw[nu];simp[kZ,fB A W]
def sY{l:AN}{way:Int}(h:¬way=0):kZ (r4 l way at_)=OX (r4 l way at_):=by
 unfold kZ;show bX (by rw[cO (by simp[h])];rfl)
theorem Jq(b:W.length<=1000):gS [.lst (A::B::W),.int 1,.int at_]=some (.lst (A::W)):=by
 let a:aB _ _ (some 1)=[A]:=gw (A::B::W) 1 nofun;rw[nu,sY (by decide)];simp[a,lh A B W,dg (a:=[A]) (b:=W) (by simp;ac_nf)]
theorem Jr{l:AN}{way:Int}(h:¬way=0)(a:¬way=1):kZ (r4 l way at_)=Gc (r4 l way at_):=by
 rw[sY h]
 ext
theorem Js{l:AN}(b:l.length<=1000):gS [.lst l,.int 2,.int at_]=some (.lst (l++[wD [T ""]])):=by
 let a:=dg (a:=l) (b:=[wD [T ""]]) (by simp;ac_nf);rw[nu,Jr (by decide) (by decide)];simp only[wD,Qd,List.map_nil]at a ⊢;simp[a]
theorem Jt{l:AN}(i:l.length<=1000)(k:2<=l.length):∃j,j<l.length/\gS [.lst l,.int 3,.int at_]=some (.lst (l.take j++[wD [T ""]]++l.drop j)):=by
 obtain⟨j,h,g⟩:∃j:Nat,j<l.length-1/\at_%(l.length-1)=j:=⟨(at_%(l.length-1)).toNat,by
  let:=Int.emod_lt_of_pos at_ (b:=(l.length:Int)-1) ∅
  symm,by
  let:=Int.emod_nonneg at_ (b:=(l.length:Int)-1) ∅
  ac_nf⟩
 show{j+1,by ac_nf,?_};let c:=gw l (j+1) ∅;let e:=fL l (j+1) ∅
 let b:((j+1:Nat))=1+(j:Int):=by ac_nf
 rw[b]at c e;let d:=dg (a:=l.take (j+1)) (b:=[wD [T ""]]) (by simp;ac_nf);let a:=dg (a:=l.take (j+1)++[wD [T ""]]) (b:=l.drop (j+1)) (by simp;ac_nf)
 let f:aE (.int at_) (.int (l.length-1))=some (.int j):=by
  change(if _ then _ else none)=_;symm
 rw[nu,Jr (by decide) (by decide)];unfold Gc;rw[bX (by rfl)];simp only[wD,List.map_nil]at d a ⊢
 ext
theorem sZ{l:AN}{way:Int}(h:¬way=0)(a:¬way=1)(c:¬way=2)(b:¬way=3):kZ (r4 l way at_)=OW (r4 l way at_):=by
 rw[Jr h a]
 ext
theorem Ju{l:AN}(a:l.length<=1000):gS [.lst (l++[Z]),.int 4,.int at_]=some (.lst (l++[Z]++[Z])):=by
 let c:=iT l Z;let b:=dg (a:=l++[Z]) (b:=[Z]) (by simp;ac_nf);rw[nu,sZ (by decide) (by decide) (by decide) (by decide)]
 ext
theorem Jv{l:AN}{Y:D}(hl:l.length<=1000):gS [.lst (l++[Y,Z]),.int 5,.int at_]=some (.lst (l++[Z,Y])):=by
 let a1:aN (l++[Y,Z]) (-1)=some Z:=by
  let:=iT (l++[Y]) Z;symm
 let a2:=sX l Y Z;let c1:=Jm l Y Z;let k1:=dg (a:=l) (b:=[Z,Y]) (by simp;ac_nf);rw[nu,sZ (by decide) (by decide) (by decide) (by decide)]
 ext
def QF(g:Gd k R H ev):hw H=[T "hands",Txt.join (T "") (H.map y8)]:=by
 unfold hw y4;rw[if_neg (by simpa using g.h1)]
def xX(g:Gd k R H ev):sw ev=[T "settled",Txt.join (T "") (ev.map bL)]:=by
 unfold sw y4;rw[if_neg (by simpa using g.e0)]
abbrev cv(k:Kd)(R:List Rl)(H ev:AG):AN:=wD (kw k)::wD (hw H)::((R.map Yd).map wD++[wD (sw ev)])
def Jw(g:Gd k R H ev):(bc k R H ev).map wD=cv k R H ev:=by
 rw[sT g,Qd,Qd,Qk];rfl
def Jx:¬T "hands"=T "kind"/\¬T "rule"=T "hands"/\¬T "settled"=T "rule"/\¬T "rule"=T "settled":=by decide +kernel
theorem Jy(g:Gd k (R0++[r0]) H ev){way:Nat}(n:way<6):∃L,gS [.lst (cv k (R0++[r0]) H ev),.int (way:Int),.int at_]=some (.lst (L.map wD))/\gB L:=by
 let E:R0.length+1<=9:=by let:=g.l9;symm
 let J:=g.ok.2.1;let G:=g.e60;let A:=g.wdr;let K:=g.ro
 let D:(cv k (R0++[r0]) H ev).length<=12:=by simp;ac_nf
 let c7:2<=(cv k (R0++[r0]) H ev).length:=by simp
 let{z,C,t,x}:=Jx
 let p:∀{P:AJ->Prop},P (kw k)->P (hw H)->(∀r∈R0++[r0],P (Yd r))->P (sw ev)->∀w∈kw k::hw H::((R0++[r0]).map Yd++[sw ev]),P w:=λ{P} a b c d w h=>by
  symm
 let i:=p (P:=Wd) g.wdk g.wdh A g.wds
 match way,n with
 | 0,_=>
   show{hw H::((R0++[r0]).map Yd++[sw ev]),?_,λw h=>(i w (.tail _ h)).toWq,by simp;ac_nf,?_}
   .rw[show((0:Nat):Int)=0 from rfl,Jp];simp
   .obtain⟨o,f,e⟩:∃o f,(R0++[r0]).map Yd++[sw ev]=o::f:=by cases R0<;>show{_,_,rfl}
    let q:f.length<=98:=by let:=congrArg List.length e;symm
    let hd:∀w∈hw H::o::f,Wd w:=λw h=>i w ⋯;rw[e];show QC hd q ?_;rw[QF g];show Iu z
 | 1,_=>
   show{kw k::((R0++[r0]).map Yd++[sw ev]),?_,λw h=>?_,by simp;ac_nf,?_}
   .rw[show((1:Nat):Int)=1 from rfl,Jq (by simp;ac_nf)];simp
   .let rfl+h:=qu h
    .show g.wdk.toWq
    .show(i w (.tail _ (.tail _ h))).toWq
   .obtain⟨r,f,F,e⟩:∃r f,r∈R0++[r0]/\(R0++[r0]).map Yd++[sw ev]=Yd r::f:=by
     cases R0 with
     | nil=>symm
     | cons a R0=>symm
    let q:f.length<=98:=by let:=congrArg List.length e;symm
    let hd:∀w∈kw k::Yd r::f,Wd w:=λw h=>by
     symm
    rw[e];let{u,m}:=si r;show IT hd q ?_;rw[m];show Iv C
 | 2,_=>
   show{kw k::hw H::((R0++[r0]).map Yd++[sw ev])++[[T ""]],?_,λw h=>?_,by simp;ac_nf,?_}
   .rw[show((2:Nat):Int)=2 from rfl,Js ∅];simp
   .let h+h:=qw h
    .show(i w h).toWq
    .cases List.mem_singleton.mp h;show Jo
   .show nk nofun (λw h=>?_) (by simp;ac_nf) (w:=[T ""]) nofun nofun
    let h+h:=qw h
    .show(i w h).toWq
    .cases List.mem_singleton.mp h;show Jo
 | 3,_=>
   let{j,I,e}:=Jt (l:=cv k (R0++[r0]) H ev) (at_:=at_) ∅ c7
   let l:∀w∈(kw k::hw H::((R0++[r0]).map Yd++[sw ev])).take j++[[T ""]]++(kw k::hw H::((R0++[r0]).map Yd++[sw ev])).drop j,Wq w:=λw h=>by
    let h+h:=qw h
    .let h+h:=qw h
     .show(i w (List.mem_of_mem_take h)).toWq
     .cases List.mem_singleton.mp h;show Jo
    .show(i w (List.mem_of_mem_drop h)).toWq
   let s:((kw k::hw H::((R0++[r0]).map Yd++[sw ev])).take j++[[T ""]]++(kw k::hw H::((R0++[r0]).map Yd++[sw ev])).drop j).length<=100:=by
    symm
   show{_,?_,l,s,nk nofun l s (w:=[T ""]) nofun nofun}
   let y:(kw k::hw H::((R0++[r0]).map Yd++[sw ev])).map wD=cv k (R0++[r0]) H ev:=by simp
   rw[show((3:Nat):Int)=3 from rfl,e,Qk,Qk,List.map_take,List.map_drop,y];rfl
 | 4,_=>
   let hd:∀w∈kw k::hw H::(((R0++[r0]).map Yd++[sw ev])++[sw ev]),Wd w:=λw h=>by
    symm
   show⟨kw k::hw H::(((R0++[r0]).map Yd++[sw ev])++[sw ev]),?_,λw h=>(hd w h).toWq,by simp;ac_nf,QA hd (by simp;ac_nf) ∅ g.e0 ∅ (pre:=(R0++[r0]).map Yd) (post:=[]) rfl (λv B=>by
    symm) ?_⟩
   .let:=Ju (l:=wD (kw k)::wD (hw H)::((R0++[r0]).map Yd).map wD) (Z:=wD (sw ev)) (at_:=at_) (by simp;ac_nf)
    symm
   .rw[xX g]
    show xT t
 | 5,_=>
   let hd:∀w∈kw k::hw H::(R0.map Yd++[sw ev,Yd r0]),Wd w:=λw h=>by
    symm
   let{u,m}:=si r0
   show⟨kw k::hw H::(R0.map Yd++[sw ev,Yd r0]),?_,λw h=>(hd w h).toWq,by simp;ac_nf,QB hd (by simp;ac_nf) ∅ (x:=T "rule") (u:=u) ?_ x (pre:=R0.map Yd) (w:=sw ev) (post:=[Yd r0]) rfl (λv B=>by
    symm) ?_⟩
   .let:=Jv (l:=wD (kw k)::wD (hw H)::(R0.map Yd).map wD) (Y:=wD (Yd r0)) (Z:=wD (sw ev)) (at_:=at_) (by simp;ac_nf)
    symm
   .let:=iT (wD (kw k)::wD (hw H)::((R0.map Yd).map wD++[wD (sw ev)])) (wD (Yd r0))
    symm
   .rw[xX g]
    show xT t
end
section
variable {k:Kd}{R:List Rl}{H ev:AG}
abbrev cB(ev:AG):Str:=Txt.join (T "") (ev.map bL)
abbrev aW(H:AG):Str:=Txt.join (T "") (H.map y8)
abbrev du(l:AN)(way at_:Int)(n:Nat)(b:Str)(h:Nat)(q:Str)(p:Nat):Ro:=[↑(.lst l),↑(.int way),↑(.int at_),↑(.int (n:Int)),↑(.str b),↑(.int (h:Int)),↑(.str q),↑(.int (p:Int)),none,none,none]
def QG(ev:AG):(cB ev).length=ev.length:=by rw[sM (xU ev),qf]
def Jz(H:AG):(aW H).length=H.length:=by rw[sM (sN H),qf]
theorem md{x:Int}{n:Nat}(h:0<n):∃j:Nat,j<n/\x%(n:Int)=(j:Int)/\aE (.int x) (.int (n:Int))=some (.int (j:Int)):=by
 let a:=Int.emod_lt_of_pos x (b:=n) ∅;let b:=Int.emod_nonneg x (b:=n) ∅;show{(x%n).toNat,by ac_nf,by ac_nf,?_};change(if _ then _ else none)=_;symm
theorem JA(g:Gd k R H ev)(way:Int):∃h p:Nat,h<ev.length/\p<H.length/\rG [.lst (cv k R H ev),.int way,.int at_,.int (H.length:Int)]=(Yy (du (cv k R H ev) way at_ H.length (cB ev) h (aW H) p)).bind aZ:=by
 let b:=List.length_pos_iff.mpr g.e0;let a:=List.length_pos_iff.mpr g.h1;let{h,c,_,f}:=md (x:=at_/16) b;let{p,e,_,j}:=md (x:=at_/16) a;show{h,p,c,e,?_};rw[rG,Yu (by rfl)]
 let l:aN (cv k R H ev) (-1)=some (wD [T "settled",cB ev]):=by
  let:=iT (wD (kw k)::wD (hw H)::(R.map Yd).map wD) (wD (sw ev));rw[xX g]at this;rw[show cv k R H ev=wD _::wD _::(R.map _).map wD++[wD [T _,cB ev]] from by rw[<-xX g];rfl];show this
 let i:aN (cv k R H ev) 1=some (wD [T "hands",aW H]):=by
  rw[<-QF g]
  ext
 let m:eG [.str (cB ev)]=some (.int ev.length):=by
  let:=QG ev;change(if _ then _ else none)=_;rw[this,if_pos (by let:=g.e60;ac_nf)]
 let d:Ye 11 [.lst (cv k R H ev),.int way,.int at_,.int H.length]=[_,_,_,_,none,none,none,none,none,none,none]:=rfl;nomatch cv k R H ev=n;unfold OY
 ext
end
section
variable {A X:D}{W:AN}
theorem JB(a:W.length<=100):aB (A::B::(W++[Z])) none (some (-1))=A::B::W/\aC (.lst (A::B::W)) (.lst [X])=some (A::B::(W++[X])):=
 {Jl (A::B::W) Z,dg (by simp;ac_nf)}
theorem s_(a:W.length<=100):aB (A::B::W) none (some 1)=[A]/\aB (A::B::W) (some 2) none=W/\aC (.lst [A]) (.lst [X])=some [A,X]/\aC (.lst [A,X]) (.lst W)=some (A::X::W):=
 {gw _ 1 nofun,lh A B W,dg nofun,dg (by simp;ac_nf)}
end
def JC:∀n:Nat,n<61->Txt.mul (T "1") ((n:Int)+1)=Txt.join (T "") ((List.replicate (n+1) true).map bL):=by decide +kernel
def JD:Txt.mul (T "k") 61=Txt.join (T "") ((List.replicate 61 true).map y8):=by decide +kernel
theorem JE{n:Nat}(h:n<61):cu (.str "1") (.int ((n:Int)+1))=some (.str (Txt.join (T "") ((List.replicate (n+1) true).map bL))):=by
 rw[<-JC n h];show if_pos {by decide +kernel,by ac_nf,by ac_nf}
theorem JF:cu (.str "k") (.int 61)=some (.str (Txt.join (T "") ((List.replicate 61 true).map y8))):=by
 rw[<-JD];change(if (Str.ofString "k").length=1/\(0:Int)<=61/\(61:Int)<=100 then _ else none)=_;show if_pos {by decide +kernel,by decide,by decide}
section
variable {k:Kd}{R:List Rl}{H ev:AG}{h p:Nat}
def JG{ev:AG}(he:ev.length<=61):Wd (sw ev):=xQ wok_w.2.2.2.2.2.2.1 xG (λb=>by cases b<;>decide) he
def td{H:AG}(a:H.length<=61):Wd (hw H):=xQ wok_w.2.2.2.2.2.1 xF (λb=>by cases b<;>decide) a
theorem Gd.all(g:Gd k R H ev){P:AJ->Prop}{w0 w1 w2:AJ}(h0:P w0)(h1:P w1)(h2:P w2)(hr:∀r∈R,P (Yd r)):∀w∈w0::w1::(R.map Yd++[w2]),P w:=by symm
def Gd.wqr(g:Gd k R H ev):∀r∈R,Wq (Yd r):=λr hr=>(g.wdr r hr).toWq
def Gd.len(g:Gd k R H ev):(R.map Yd).length<=9:=by rw[qf];show g.l9
def Gd.ros(g:Gd k R H ev):∀v∈R.map Yd,∃d,RO k v d:=λv hv=>by
 let{r,hr,rfl}:=qy hv;show{_,g.ro r hr}
def Gd.rds(g:Gd k R H ev):(R.map Yd).map (fM k)=R.map bj:=by
 rw[Qf];show Qq λr hr=>(g.ro r hr).rd.1
theorem ec{w0 w1 w2:AJ}(g:Gd k R H ev):(w0::w1::(R.map Yd++[w2])).length<=100:=by
 let:=g.l9;simp;ac_nf
theorem JH(g:Gd k R H ev):∃L,(Yy (du (cv k R H ev) 6 at_ H.length (cB ev) h (aW H) p)).bind aZ=some (.lst (L.map wD))/\gB L:=by
 let j:=g.ok.2.1
 let c:(List.replicate (H.length+1) true).length<=61:=by symm
 let b:.replicate (H.length+1) true≠[]:=by simp
 let hd:=g.all g.wdk g.wdh (JG c) g.wdr;show{kw k::hw H::(R.map Yd++[sw _]),?_,λw hw=>(hd w hw).toWq,ec g,nq hd (by let:=g.len;ac_nf) ∅ b c g.ros (.inr (.inr ?_))}
 .let{l,e}:=JB (A:=wD (kw k)) (B:=wD (hw H)) (Z:=wD (sw ev)) (X:=wD _) (W:=(R.map Yd).map wD) (by let:=g.len;symm)
  let m:=JE (n:=H.length) ∅
  let i:sw (.replicate (H.length+1) true)=[T "settled",Txt.join (T "") ((List.replicate (H.length+1) true).map bL)]:=by
   unfold sw y4;symm
  let f:wD (sw (.replicate (H.length+1) true))=.lst [.str (T "settled"),.str (Txt.join (T "") ((List.replicate (H.length+1) true).map bL))]:=by rfl
  let d:(kw k::hw H::(R.map Yd++[sw (.replicate (H.length+1) true)])).map wD=wD (kw k)::wD (hw H)::((R.map Yd).map wD++[wD (sw (.replicate (H.length+1) true))]):=by simp
  rw[d];rw[f]at e ⊢;nomatch Txt.join (T "") _=J;change(Yy (du (_::_) 6 at_ _ _ h (aW H) p)).bind aZ=_
  ext
 .rw[g.rds]
  show IQ g.ok _ nofun
theorem tf{l:AJ}{cs:AE}(b:l=cs.map λc=>({#[c]}:Str))(a:l.length=4)(at_:Int):∃c∈cs,aN (l.map D.str) (at_%4)=some (.str {#[c]}):=by
 let{x,d,e}:=lG (f:=D.str) a (by decide) at_;symm
theorem tj{x:Str}(b:x.length<=1000)(i:Option Int)(j:Option Int):iE i j (.str x)=some (.str (Txt.slice x i j)):=if_pos ∅
def JI:[50,120,45,9].map (λc=>kW [.str {#[c]}])=[50,120,45,9].map λ_=>some .non:=by kernel_rfl
def JJ:[75,120,48,83].map (λc=>kU [.str {#[c]}])=[75,120,48,83].map λ_=>some .non:=by kernel_rfl
def JK:[T "2",T "x",T "-",T "\t"]=[50,120,45,9].map λc=>({#[c]}:Str):=by decide +kernel
def JL:[T "K",T "x",T "0",T "S"]=[75,120,48,83].map λc=>({#[c]}:Str):=by decide +kernel
def tm:∀c∈[50,120,45,9,75,48,83],c<128/\c≠32/\c≠10:=by decide
theorem JM{x:Str}{l:AG}{f:Bool->Nat}{q j:Nat}(i:∀b,f b≠32/\f b≠10)(g:q≠32/\q≠10)(e:x.cps.toList=(l.map f).set j q)(h:l.length<=60)(h0:l≠[]):bU x:=by
 let a:∀c∈x.cps.toList,c≠32/\c≠10:=λc k=>by
  symm
 let d:x.length=l.length:=by rw[sM e];simp
 show{λz=>(a _ z).1 rfl,λz=>(a _ z).2 rfl,λz=>?_,by ac_nf};rw[<-z,lens.1]at d;symm
theorem QH{x:Str}{l:AG}{f:Bool->Nat}(hx:x.cps.toList=l.map f)(hf:∀b,f b≠32/\f b≠10)(hl:l.length<=60){c j:Nat}(hc:c≠32/\c≠10)(hj:j<l.length):∃a b Y1 Y,iE none (some (j:Int)) (.str x)=some (.str a)/\iE (some ((j:Int)+1)) none (.str x)=some (.str b)/\cq (.str a) (.str {#[c]})=some (.str Y1)/\cq (.str Y1) (.str b)=some (.str Y)/\Y.cps.toList=(l.map f).set j c/\bU Y:=by
 let hcp:=IB (x:=x) (q:={#[c]}) rfl (j:=j) (by rw[hx];simpa using hj);rw[hx]at hcp
 let bl:x.length=l.length:=by rw[sM hx,qf]
 let l1:=Txt.slice_le x none (some (j:Int));let l2:=Txt.slice_le x (some ((j:Int)+1)) none
 let ln:(Txt.slice x none (some (j:Int))++({#[c]}:Str)).length=(Txt.slice x none (some (j:Int))).length+1:=by
  change(_++_:Array Nat).size=_;rw[Array.size_append];rfl
 show{_,_,_,_,tj ∅ _ _,tj ∅ _ _,if_pos (by change _+1<=_;ac_nf),if_pos ∅,hcp,JM hf hc hcp hl (λz=>by rw[z]at hj;cases hj)}
theorem JN(g:Gd k R H ev)(hh:h<ev.length):∃L,(Yy (du (cv k R H ev) 7 at_ H.length (cB ev) h (aW H) p)).bind aZ=some (.lst (L.map wD))/\gB L:=by
 let hH:=g.ok.2.1;let he:=g.e60;let{c,hc,e}:=tf JK rfl at_;let c8':=tm c (by simp at hc ⊢;ac_nf);let hb:=jw JI c hc;let{_,_,Y1,Y,s1,s2,ad1,ad2,hcp,wy}:=QH (x:=cB ev) (xU ev) (λb=>by cases b<;>decide) he c8'.2 hh;let hd:=g.all (P:=Wd) g.wdk g.wdh (lA (w:=[Y]) wok_w.2.2.2.2.2.2.1 (λy hy=>by cases List.mem_singleton.mp hy;show wy) nofun) g.wdr;show{kw k::hw H::(R.map Yd++[[T "settled",Y]]),?_,λw hw=>(hd w hw).toWq,ec g,IS hd (by let:=g.len;ac_nf) ∅ ?_}
 .let{c1,k1}:=JB (A:=wD (kw k)) (B:=wD (hw H)) (Z:=wD (sw ev)) (X:=wD [T "settled",Y]) (W:=(R.map Yd).map wD) (by let:=g.len;simp at this ⊢;ac_nf)
  let eL:(kw k::hw H::(R.map Yd++[[T "settled",Y]])).map wD=wD (kw k)::wD (hw H)::((R.map Yd).map wD++[wD [T "settled",Y]]):=by simp
  rw[eL];simp only[Qd,List.map_nil]at e;change(Yy (du (wD (kw k)::wD (hw H)::((R.map Yd).map wD++[wD (sw ev)])) 7 at_ H.length (cB ev) h (aW H) p)).bind aZ=_;nomatch wD (kw k)=a0,wD (hw H)=b0,wD (sw ev)=z0,(R.map Yd).map wD=W;simp only[wD,Qd,List.map_nil]at k1 ⊢;generalize a0::b0::(W++[z0])=q at *;unfold Yy;rw[bX (ρ':=du q 7 at_ H.length (cB ev) h (aW H) p) (by rw[cO nofun];rfl)];nomatch cB ev=bs;simp[kO,c1,k1,e,s1,s2,ad1,ad2]
 .rw[Iz]
  show Qv Hi sL c8.2 hb c8'.1 hh hcp ∅
end
section
variable {k:Kd}{R:List Rl}{H ev:AG}{h p:Nat}
theorem JO{way:Int}{q:AN}{n:Nat}{bs a:Str}(b:¬way=6)(c:¬way=7):Yy (du q way at_ n bs h a p)=Gg (du q way at_ n bs h a p):=by
 unfold Yy;rw[bX (by rw[cO (by simp[b])];rfl)];show bX (by rw[cO (by simp[c])];rfl)
theorem JP(g:Gd k R H ev):bU (cB ev):=by
 let f:=g.e60
 let a:∀c∈(cB ev).cps.toList,c≠32/\c≠10:=λc d=>by
  rw[xU ev]at d;let{b,_,rfl}:=qy d;cases b<;>decide
 let e:=QG ev;show{λz=>(a _ z).1 rfl,λz=>(a _ z).2 rfl,λz=>?_,by ac_nf};rw[<-z]at e;show g.e0 (List.length_eq_zero_iff.mp e.symm)
theorem JQ(g:Gd k R H ev):bU (aW H):=by
 let f:=g.ok.2.1
 let a:∀c∈(aW H).cps.toList,c≠32/\c≠10:=λc d=>by
  rw[sN H]at d;let{b,_,rfl}:=qy d;cases b<;>decide
 let e:=Jz H;show{λz=>(a _ z).1 rfl,λz=>(a _ z).2 rfl,λz=>?_,by ac_nf};rw[<-z]at e;show g.h1 (List.length_eq_zero_iff.mp e.symm)
def JR:bU (T "Settled")/\bU (T "1")/\bU (T "0")/\¬T "Settled"=T "settled"/\¬T "Settled"=T "rule":=by decide +kernel
def xt_one:gP [wD [T "settled"]]=some true/\gP [wD [T "settled",T "1",T "0"]]=some true:={by kernel_rfl,by kernel_rfl}
theorem JS(g:Gd k R H ev):∃L,(Yy (du (cv k R H ev) 8 at_ H.length (cB ev) h (aW H) p)).bind aZ=some (.lst (L.map wD))/\gB L:=by
 let m:=g.ok.2.1;let{_,_,_,_,_,_,c,_}:=wok_w;let{f,l,s,i,j}:=JR;let{w,hw,e}:=lG (f:=wD) (l:=[[T "settled"],[T "settled",T ""],[T "settled",T "1",T "0"],[T "Settled",cB ev]]) (m:=4) rfl (by decide) at_;show{kw k::Lw.hw H::(R.map Yd++[w]),?_,?_}
 .let{q,o}:=JB (A:=wD (kw k)) (B:=wD (Lw.hw H)) (Z:=wD (sw ev)) (X:=wD w) (W:=(R.map Yd).map wD) (by let:=g.len;symm)
  let n:(kw k::Lw.hw H::(R.map Yd++[w])).map wD=wD (kw k)::wD (Lw.hw H)::((R.map Yd).map wD++[wD w]):=by simp
  change(Gg (du (wD (kw k)::_) 8 at_ H.length (cB ev) h (aW H) p)).bind aZ=_;let r:aN [D.lst [.str (T "settled")],.lst [.str (T "settled"),.str (T "")],.lst [.str (T "settled"),.str (T "1"),.str (T "0")],.lst [.str (T "Settled"),.str (cB ev)]] (at_%4)=some (wD w):=e
  ext
 .simp only[List.mem_cons,List.not_mem_nil,or_false]at hw
  let rfl+rfl+rfl+rfl:=hw
  .let hd:=g.all (P:=Wd) g.wdk g.wdh (lA (w:=[]) c (λy a=>nomatch a) nofun) g.wdr
   show{λw hw=>(hd w hw).toWq,ec g,IS hd (by let:=g.len;ac_nf) ∅ xt_one.1}
  .let d:=g.all (P:=Wq) g.wdk.toWq g.wdh.toWq (lD (w:=[T "settled",T ""]) nofun (λy a=>by
    simp only[List.mem_cons,List.not_mem_nil,or_false]at a;let rfl+rfl:=a
    .show lB c
    .show lE) nofun) g.wqr
   show{d,ec g,nk nofun d (ec g) (w:=[T "settled",T ""]) nofun nofun}
  .let hd:=g.all (P:=Wd) g.wdk g.wdh (lA (w:=[T "1",T "0"]) c (λy a=>by
    symm) nofun) g.wdr
   show{λw hw=>(hd w hw).toWq,ec g,IS hd (by let:=g.len;ac_nf) ∅ xt_one.2}
  .let hd:=g.all (P:=Wd) g.wdk g.wdh (lA (w:=[cB ev]) f (λy a=>by cases List.mem_singleton.mp a;show JP g) nofun) g.wdr
   show{λw hw=>(hd w hw).toWq,ec g,QB hd (by let:=g.len;symm) ∅ (x:=T "Settled") (u:=[cB ev]) ?_ i (pre:=R.map Yd) (post:=[]) rfl g.ros (xT j)};let:=iT (wD (kw k)::wD (Lw.hw H)::(R.map Yd).map wD) (wD [T "Settled",cB ev]);symm
def tq{way:Int}{q:AN}{n:Nat}{bs a:Str}(b:¬way=6)(c:¬way=7)(d:¬way=8):Yy (du q way at_ n bs h a p)=Ge (du q way at_ n bs h a p):=by
 rw[JO b c];show bX (by rw[cO (by simp[d])];rfl)
theorem Gd.lenD(g:Gd k R H ev):((R.map Yd).map wD++[wD (sw ev)]).length<=100:=by
 let:=g.l9;simp;ac_nf
theorem Gd.restD(g:Gd k R H ev):(R.map Yd++[sw ev]).length<=98:=by
 let:=g.l9;simp;ac_nf
theorem JT(g:Gd k R H ev)(hp:p<H.length):∃L,(Yy (du (cv k R H ev) 9 at_ H.length (cB ev) h (aW H) p)).bind aZ=some (.lst (L.map wD))/\gB L:=by
 let hH:=g.ok.2.1;let{c,hc,e}:=tf JL rfl at_;let c8':=tm c (by simp at hc ⊢;ac_nf);let hb:=jw JJ c hc;let{_,_,Y1,Y,s1,s2,ad1,ad2,hcp,wy}:=QH (x:=aW H) (sN H) (λb=>by cases b<;>decide) hH c8'.2 hp;let hd:=g.all (P:=Wd) g.wdk (lA (w:=[Y]) wok_w.2.2.2.2.2.1 (λy hy=>by cases List.mem_singleton.mp hy;show wy) nofun) g.wds g.wdr
 let ly:Y.length<=1000:=by let:=wy.2.2.2;ac_nf
 show{kw k::[T "hands",Y]::(R.map Yd++[sw ev]),?_,λw hw=>(hd w hw).toWq,ec g,IT hd g.restD ?_}
 .let{c1,c2,k1,k2}:=s_ (A:=wD (kw k)) (B:=wD (Lw.hw H)) (X:=wD [T "hands",Y]) (W:=(R.map Yd).map wD++[wD (sw ev)]) g.lenD
  let eL:(kw k::[T "hands",Y]::(R.map Yd++[sw ev])).map wD=wD (kw k)::wD [T "hands",Y]::((R.map Yd).map wD++[wD (sw ev)]):=by simp
  rw[eL,tq (by decide) (by decide) (by decide)];change(Ge (du (wD (kw k)::wD (Lw.hw H)::((R.map Yd).map wD++[wD (sw ev)])) 9 at_ H.length (cB ev) h (aW H) p)).bind aZ=_;simp only[Qd,List.map_nil]at e;nomatch wD (kw k)=a0,wD (Lw.hw H)=b0,(R.map Yd).map wD++[wD (sw ev)]=W;simp only[wD,Qd,List.map_nil]at k1 k2 ⊢;generalize a0::b0::W=q at *;nomatch aW H=ls;simp[kO,c1,c2,k1,k2,e,s1,s2,ad1,ad2]
 .rw[Qw ly]
  show Qv Hh sJ c8.1 hb c8'.1 hp hcp ∅
end
section
variable {k:Kd}{R:List Rl}{H ev:AG}{h p:Nat}
def JU{way:Int}{q:AN}{n:Nat}{bs a:Str}(b:¬way=6)(c:¬way=7)(e:¬way=8)(d:¬way=9):Yy (du q way at_ n bs h a p)=xo (du q way at_ n bs h a p):=by
 rw[tq b c e];show bX (by rw[cO (by simp[d])];rfl)
theorem JV:hw (List.replicate 61 true)=[T "hands",Txt.join (T "") ((List.replicate 61 true).map y8)]:=by
 unfold hw y4;symm
theorem Gd.book(g:Gd k R H ev):jo [ak k,.lst ((R.map Yd).map (fM k))]=some (bV k R):=by
 rw[g.rds];show xC k (c:=.lst (R.map bj)) (λr hr=>{(g.i r hr).1,(g.i r hr).2.1}) (ni R) rfl (by let:=g.l9;ac_nf)
theorem JW(g:Gd k R H ev){r:Rl}(c:r∈R){x:Nat}(i:x∈c9 r):∃L,(Yy (du (cv k R H ev) 10 at_ H.length (cB ev) h (aW H) p)).bind aZ=some (.lst (L.map wD))/\gB L:=by
 let l:=g.e60;let{_,_,_,_,_,d,_,_}:=wok_w;let{w,a,e}:=lG (f:=wD) (l:=[[T "hands"],[T "hands",aW H,aW H],[T "hands",T ""],hw (List.replicate 61 true)]) (m:=4) rfl (by decide) at_;show{kw k::w::(R.map Yd++[sw ev]),?_,?_}
 .let{j,t,o,m}:=s_ (A:=wD (kw k)) (B:=wD (hw H)) (X:=wD w) g.lenD
  let n:(kw k::w::(R.map Yd++[sw ev])).map wD=wD (kw k)::wD w::((R.map Yd).map wD++[wD (sw ev)]):=by simp
  change(xo (du (wD (kw k)::_) 10 at_ H.length (cB ev) h (aW H) p)).bind aZ=_;let s:=JF;rw[JV]at e;let q:aN [D.lst [.str (T "hands")],.lst [.str (T "hands"),.str (aW H),.str (aW H)],.lst [.str (T "hands"),.str (T "")],.lst [.str (T "hands"),_]] (at_%4)=some (wD w):=e
  ext
 .simp only[List.mem_cons,List.not_mem_nil,or_false]at a
  let rfl+rfl+rfl+rfl:=a
  .let hd:=g.all (P:=Wd) g.wdk (td (H:=[]) nofun) g.wds g.wdr
   show{λw hw=>(hd w hw).toWq,ec g,nq (H:=[]) hd (by let:=g.len;ac_nf) nofun g.e0 ∅ g.ros (.inr (.inl (lz g.book (Qz nofun (by let:=g.l9;ac_nf) (λr c=>{(g.i r c).1,by let:=(g.i r c).2.2;ac_nf}) c i nofun))))}
  .let hd:=g.all (P:=Wd) g.wdk (lA (w:=[aW H,aW H]) d (λy b=>by
    simp only[List.mem_cons,List.not_mem_nil,or_false]at b
    let rfl+rfl:=b<;>show JQ g) nofun) g.wds g.wdr
   show{λw hw=>(hd w hw).toWq,ec g,IT hd g.restD (Iw _ _ _)}
  .let f:=g.all (P:=Wq) g.wdk.toWq (lD (w:=[T "hands",T ""]) nofun (λy b=>by
    simp only[List.mem_cons,List.not_mem_nil,or_false]at b;let rfl+rfl:=b
    .show lB d
    .show lE) nofun) g.wds.toWq g.wqr
   show{f,ec g,nk nofun f (ec g) (w:=[T "hands",T ""]) nofun nofun}
  .let hd:=g.all (P:=Wd) g.wdk (td (H:=List.replicate 61 true) nofun) g.wds g.wdr
   show{λw hw=>(hd w hw).toWq,ec g,nq (H:=List.replicate 61 true) hd (by let:=g.len;ac_nf) nofun g.e0 ∅ g.ros (.inr (.inl (lz g.book (IP _ nofun))))}
def kRows:List AJ:=[[T "kind"],[T "kind",T "either"],[T "kind",T "Ifs"],[T "kinds",T "ifs"],[T "kind",T "nots",T "nots"]]
def JX:kRows.map (λw=>iI [wD w])=kRows.map λ_=>some true:=by kernel_rfl
def JY:∀w∈kRows,w≠[]/\(∀x∈w,bU x)/\w.length<=70:=by decide +kernel
theorem JZ(g:Gd k R H ev):∃L,(Yy (du (cv k R H ev) 11 at_ H.length (cB ev) h (aW H) p)).bind aZ=some (.lst (L.map wD))/\gB L:=by
 let{_,_,_,_,i,_,_,_}:=wok_w;let{w,a,e}:=lG (f:=wD) (l:=kRows++[[T "kind",T ""]]) (m:=6) rfl (by decide) at_;show{w::hw H::(R.map Yd++[sw ev]),?_,?_}
 .let o:=fB (wD (kw k)) (wD (hw H)::((R.map Yd).map wD++[wD (sw ev)]))
  let m:=dg (a:=[wD w]) (b:=wD (hw H)::((R.map Yd).map wD++[wD (sw ev)])) (by let:=g.lenD;symm)
  let n:(w::hw H::(R.map Yd++[sw ev])).map wD=wD w::wD (hw H)::((R.map Yd).map wD++[wD (sw ev)]):=by simp
  change(xo (du (wD (kw k)::wD (hw H)::((R.map Yd).map wD++[wD (sw ev)])) 11 at_ H.length (cB ev) h (aW H) p)).bind aZ=_;let l:aN [D.lst [.str (T "kind")],.lst [.str (T "kind"),.str (T "either")],.lst [.str (T "kind"),.str (T "Ifs")],.lst [.str (T "kinds"),.str (T "ifs")],.lst [.str (T "kind"),.str (T "nots"),.str (T "nots")],.lst [.str (T "kind"),.str (T "")]] (at_%6)=some (wD w):=e
  ext
 .let a+a:=qw a
  .let{f,j,d}:=JY w a
   let hd:=g.all (P:=Wd) (fA f j d) g.wdh g.wds g.wdr;show{λw hw=>(hd w hw).toWq,ec g,QC hd g.restD (jw JX w a)}
  .cases List.mem_singleton.mp a
   let c:=g.all (P:=Wq) (lD (w:=[T "kind",T ""]) nofun (λy b=>by
    simp only[List.mem_cons,List.not_mem_nil,or_false]at b;let rfl+rfl:=b
    .show lB i
    .show lE) nofun) g.wdh.toWq g.wds.toWq g.wqr
   show{c,ec g,nk nofun c (ec g) (w:=[T "kind",T ""]) nofun nofun}
def J0(g:Gd k R H ev){r:Rl}(d:r∈R){x:Nat}(f:x∈c9 r){way:Nat}(b:6<=way)(a:way<12):∃L,rG [.lst (cv k R H ev),.int (way:Int),.int at_,.int (H.length:Int)]=some (.lst (L.map wD))/\gB L:=by
 let{h,p,c,i,e}:=JA g _;rw[e]
 match way,b,a with
 | 6,_,_=>show JH g
 | 7,_,_=>show JN g c
 | 8,_,_=>show JS g
 | 9,_,_=>show JT g i
 | 10,_,_=>show JW g d f
 | 11,_,_=>show JZ g
end
section
variable {k:Kd}{R:List Rl}{H ev:AG}
def RowF.wq{n:Nat}{w:AJ}(h:RowF k n w):Wq w:=by
 let h+h:=h
 .show h.1
 .show h.1.toWq
def J1{n:Nat}{r:Rl}(hr:In k n r)(hs:dZ r)(hn:n<=60)(way at_:Int):∃w,gv [wD (Yd r),ak k,.int way,.int at_,.int (n:Int)]=some (wD w)/\RowF k n w:=by
 let h60:=HI hn hr;let hsz:=Jf hn hr hs;by_cases h0:way=0
 .subst h0;show I_ h60 hsz at_
 by_cases h1:way=1
 .subst h1;show Je h60 hsz
 by_cases h2:way=2
 .subst h2;show Jj hr hs hn
 by_cases h3:way=3
 .subst h3;show Jd h60 hsz
 show Jc {(h0),h1,h2,h3}
abbrev r7(l:AN)(k:D)(pick:Int)(n:Nat)(way at_:Int):Ro:=[↑(.lst l),↑k,↑(.int pick),↑(.int (n:Int)),↑(.int way),↑(.int at_),none]
theorem J2{l:AN}{a:Int}{n:Nat}:rH [.lst l,ak k,.int a,.int (n:Int)]=(xt (r7 l (ak k) a n (a%19) (a/19))).bind aZ:=by
 rw[rH,Yu (by rfl)];let b:Ye 7 [.lst l,ak k,.int a,.int n]=[_,_,_,_,none,none,none]:=rfl;unfold O2
 ext
theorem J3(g:Gd k (R0++[r0]) H ev){b at_:Int}:∃L,(xq (r7 (cv k (R0++[r0]) H ev) (ak k) b H.length 12 at_)).bind aZ=some (.lst (L.map wD))/\gB L:=by
 let m:=g.ok.2.1;let j:=g.e60
 let c:r0∈R0++[r0]:=by simp
 let a:∀v∈List.replicate 61 (Yd r0),v=Yd r0:=λv d=>List.eq_of_mem_replicate d
 let hd:∀w∈kw k::hw H::(List.replicate 61 (Yd r0)++[sw ev]),Wd w:=λw hw=>by
  let rfl+hw:=qu hw
  .show g.wdk
  let rfl+hw:=qu hw
  .show g.wdh
  let hw+hw:=qw hw
  .rw[a w hw];show g.wdr r0 c
  .cases List.mem_singleton.mp hw;show g.wds
 show{kw k::hw H::(List.replicate 61 (Yd r0)++[sw ev]),?_,λw hw=>(hd w hw).toWq,by simp,nq hd nofun ∅ g.e0 ∅ (λv d=>by rw[a v d];show{_,g.ro r0 c}) (.inl (sQ (IL nofun)))}
 let e:cv k (R0++[r0]) H ev=(wD (kw k)::wD (hw H)::(R0.map Yd).map wD)++[wD (Yd r0),wD (sw ev)]:=by simp
 let n:=sX (wD (kw k)::wD (hw H)::(R0.map Yd).map wD) (wD (Yd r0)) (wD (sw ev));let l:aB (wD (kw k)::wD (hw H)::(R0.map Yd).map wD++[wD (Yd r0),wD (sw ev)]) none (some 2)=[wD (kw k),wD (hw H)]:=gw _ 2 nofun
 let i:aB (wD (kw k)::wD (hw H)::(R0.map Yd).map wD++[wD (Yd r0),wD (sw ev)]) (some (-1)) none=[wD (sw ev)]:=by
  let:=Jn (wD (kw k)::wD (hw H)::(R0.map Yd).map wD++[wD (Yd r0)]) (wD (sw ev));symm
 let o:(List.replicate 61 [wD (Yd r0)]).flatten=List.replicate 61 (wD (Yd r0)):=by
  generalize wD (Yd r0)=V;rfl
 let p:=dg (a:=[wD (kw k),wD (hw H)]) (b:=List.replicate 61 (wD (Yd r0))) nofun;let h:=dg (a:=wD (kw k)::wD (hw H)::List.replicate 61 (wD (Yd r0))) (b:=[wD (sw ev)]) nofun
 let f:(kw k::hw H::(List.replicate 61 (Yd r0)++[sw ev])).map wD=[wD (kw k),wD (hw H)]++List.replicate 61 (wD (Yd r0))++[wD (sw ev)]:=by
  ext
 let rp:iF 61 (.lst [wD (Yd r0)])=some (List.replicate 61 (wD (Yd r0))):=by
  change(if [wD (Yd r0)].length<=1000 then _ else none)=_;symm
 rw[f,e]
 ext
theorem J4{pre post:List Rl}{r:Rl}(g:Gd k (pre++r::post) H ev){d way at_:Int}(p:at_/65536%((pre++r::post).length:Int)=(pre.length:Int))(h:¬way=12):∃L,(xq (r7 (cv k (pre++r::post) H ev) (ak k) d H.length way at_)).bind aZ=some (.lst (L.map wD))/\gB L:=by
 let i:=g.ok.2.1
 let A:pre.length+post.length+1<=9:=by let:=g.l9;symm
 let{w,u,hw}:=J1 (k:=k) (n:=H.length) (r:=r) ((g.ok.2.2 r nofun).1.1) ((g.ok.2.2 r nofun).1.2) i (way-13) at_;show{kw k::Lw.hw H::((pre.map Yd++w::post.map Yd)++[sw ev]),?_,λv e=>?_,by simp;ac_nf,IU g hw}
 .let j:cv k (pre++r::post) H ev=(wD (kw k)::wD (Lw.hw H)::(pre.map Yd).map wD)++(wD (Yd r)::((post.map Yd).map wD++[wD (sw ev)])):=by simp
  let s:(wD (kw k)::wD (Lw.hw H)::(pre.map Yd).map wD).length=pre.length+2:=by simp
  let l:(kw k::Lw.hw H::((pre.map Yd++w::post.map Yd)++[sw ev])).map wD=(wD (kw k)::wD (Lw.hw H)::(pre.map Yd).map wD)++[wD w]++((post.map Yd).map wD++[wD (sw ev)]):=by simp
  rw[l,j];generalize t:wD (kw k)::wD (Lw.hw H)::(pre.map Yd).map wD=P at *;generalize z:(post.map Yd).map wD++[wD (sw ev)]=a at *;nomatch wD (Yd r)=V,wD w=f
  let b:(P++V::a).length=pre.length+post.length+4:=by symm
  let m:aE (.int (at_/65536)) (.int (((P++V::a).length:Int)-3))=some (.int (pre.length:Int)):=by
   change(if decide ((0:Int)<((P++V::a).length:Int)-3)=true then some (D.int (at_/65536%(((P++V::a).length:Int)-3)))else none)=_;symm
  let o:aB (P++V::a) none (some (2+(pre.length:Int)))=P:=by
   let:=gw (P++V::a) (pre.length+2) (by rw[b];ac_nf);symm
  let B:aB (P++V::a) (some (2+(pre.length:Int)+1)) none=a:=by
   let:=fL (P++V::a) (pre.length+3) (by rw[b];ac_nf);rw[show((pre.length+3:Nat):Int)=2+(pre.length:Int)+1 from by ac_nf]at this;rw[this,show pre.length+3=P.length+1 from by ac_nf,<-List.drop_drop,List.drop_left];rfl
  let y:aN (P++V::a) (2+(pre.length:Int))=some V:=by
   show pT (j:=P.length) ∅ ?_;symm
  let x:=dg (a:=P) (b:=[f]) ⋯;let n:=dg (a:=P++[f]) (b:=a) ⋯
  ext
 .simp only[List.mem_cons,List.mem_append,List.mem_map,List.not_mem_nil,or_false]at e
  let rfl+rfl+({q,b,rfl}+rfl+{q,b,rfl})+rfl:=e
  .show g.wdk.toWq
  .show g.wdh.toWq
  .show g.wqr q (by simp[b])
  .show hw.wq
  .show g.wqr q (by simp[b])
  .show g.wds.toWq
theorem J5(g:Gd k (R0++[r0]) H ev){x:Nat}(r:x∈c9 r0)(b:Int):∃L,rH [.lst (cv k (R0++[r0]) H ev),ak k,.int b,.int (H.length:Int)]=some (.lst (L.map wD))/\gB L:=by
 rw[J2];let{a,o,t,_}:=md (x:=b) (n:=19) (by decide);let c:b%19=(a:Int):=t;rw[c];generalize b/19=at_;by_cases n:a<6
 .let{L,e,i}:=Jy (at_:=at_) g n
  show{L,?_,i}
  let:(a:Int)<6:=by ac_nf
  ext
 by_cases l:a<12
 .let{L,e,i}:=J0 (at_:=at_) g (r:=r0) nofun r (Nat.le_of_not_lt n) l
  show{L,?_,i}
  let m:¬(a:Int)<6:=by ac_nf
  let h:(a:Int)<12:=by ac_nf
  simp[m,h,e]
 let m:¬(a:Int)<6:=by ac_nf
 let h:¬(a:Int)<12:=by ac_nf
 let f:xt (r7 (cv k (R0++[r0]) H ev) (ak k) b H.length (a:Int) at_)=xq (r7 (cv k (R0++[r0]) H ev) (ak k) b H.length (a:Int) at_):=by
  unfold xt;rw[bX (by rw[cO (by simp[m])];rfl)];show bX (by rw[cO (by simp[h])];rfl)
 rw[f];by_cases s:a=12
 .subst s;show J3 g
 let{j,u,p,_}:=md (n:=(R0++[r0]).length) nofun
 let d:R0++[r0]=(R0++[r0]).take j++(R0++[r0])[j]::(R0++[r0]).drop (j+1):=by
  ext
 let q:((R0++[r0]).take j).length=j:=by symm
 rw[d]at g p ⊢;show J4 g (by rw[p,q]) ∅
end
def cw:Kd->Rl
 | .e=>.ei [(0,true),(1,false)]
 | .s=>.su [0,1] true
 | _=>.im [0] (some 1)
theorem QI(k:Kd){n:Nat}(h:2<=n):In k n (cw k)/\dZ (cw k)/\0∈c9 (cw k):=by
 cases k with
 | e=>show⟨⟨rfl,λs a=>by
  symm⟩,{by decide,by simp[gI]},by decide⟩
 | s=>show⟨⟨rfl,λs a=>by
  symm⟩,by change List.Pairwise _ _;simp,by decide⟩
 | i=>show⟨⟨.inl rfl,λs a=>by
  symm,λx b=>by ac_nf⟩,by change List.Pairwise _ _;simp,by decide⟩
 | n=>show⟨⟨.inr rfl,λs a=>by
  symm,λx b=>by ac_nf⟩,by change List.Pairwise _ _;simp,by decide⟩
theorem J6(ns:AF)(k:Kd){n:Nat}(h2:2<=n)(h60:n<=60):∃(R0:List Rl) (H ev:AG),Gd k (R0++[cw k]) H ev/\H.length=n/\xm [.scr ns,ak k,.int (n:Int)]=some (.lst ((bc k (R0++[cw k]) H ev).map wD)):=by
 let c1:=rO ns 1;let c2:=rO ns 2;let cc:=λi:Nat=>rO ns (3+i);generalize ns.getD 1 0=x1 at c1;generalize ns.getD 2 0=x2 at c2;let k1:=Gw ns 4 (4+(x1%9).toNat)
 let e9:((4+(x1%9).toNat:Nat):Int)=4+x1%9:=by ac_nf
 rw[e9]at k1;generalize hcl:(ns.drop (min 4 ns.length)).take (min (4+(x1%9).toNat) ns.length-min 4 ns.length)=cells at k1
 let hcl':cells.length<=8:=by
  rw[<-hcl,List.length_take,List.length_drop];ac_nf
 let{R,hRl,hR,hRc}:=drawn (fe:=F5) (r:=[↑(ak k),↑(.int (n:Int))]) (P:=λr=>In k n r/\dZ r) (λc=>by
  let{r,hin,hs,hr}:=GQ k c n h60
  show{r,{(hin),hs},by simp[F5,hr]}) cells
 let{ρ',e1,H,L,y,hH,hL,rfl}:=pU (gt:=aq 6) (fb:=F6) (λi:Nat=>D.int (0+(i:Nat))) (λpre ρ=>∃(H L:AG) (y:AQ),H.length=pre.length/\L.length=pre.length/\
  ρ=[↑(.scr ns),↑(ak k),↑(.int (n:Int)),some (.ow ((R++[cw k]).map aJ)),some (.ow (H.map aG)),some (.ow (L.map D.bl)),y]) (List.range n) []
  [↑(.scr ns),↑(ak k),↑(.int (n:Int)),some (.ow ((R++[cw k]).map aJ)),some (.ow []),some (.ow []),none] {[],[],none,rfl,rfl,rfl} (by
   rintro q a r ρ e ⟨H,L,y,hH,hL,rfl⟩;rw[Qj]at e
   let hq:q.length<n:=by let:=congrArg List.length e;simp at this;ac_nf
   let hc:=cc a
   push_cast at hc
   generalize ns.getD (3+a) 0=xa at hc;let{v,_,hv}:=xy xa 1442695040888963407;let{u,_,hu}:=xy xa 2049848353892358983;let ha:=G9 v
   let cap1:H.length<1000000:=by ac_nf
   let cap2:L.length<1000000:=by ac_nf
   show{_,_,rfl,?_,H++[decide (v%2=0)],L++[decide (u%2=1)],↑(.int (0+(a:Int))),by simp[hH],by simp[hL],rfl};generalize (R++[cw k]).map aJ=RR
   simp[F6,hc,hv,hu,ha,bb,cap1,cap2])
 simp only[Qj,List.length_range]at hH hL;let{j,hj,_,hmod}:=md (x:=x2) (n:=n) ∅;let hcut:=gw (L.map D.bl) (j+1) (by rw[qf];ac_nf);rw[<-List.map_take,show((j+1:Nat):Int)=1+(j:Int) from by ac_nf]at hcut;let hr:=Mf (n:=(n:Int)) ∅ ∅;rw[Me]at hr
 let hn':((n:Int)-0).toNat=n:=by ac_nf
 rw[hn']at hr;let{la,lb,lc}:=QI k h2
 let hin:∀r∈R++[cw k],In k n r/\dZ r:=λr hr=>by
  let hr+hr:=qw hr
  .show hR r hr
  .cases List.mem_singleton.mp hr;show{(la),lb}
 let el:(L.take (j+1)).length=j+1:=by rw[List.length_take];ac_nf
 let g:Gd k (R++[cw k]) H (L.take (j+1)):={{by simp;ac_nf,by ac_nf,λr hr=>{by rw[hH];show hin r hr,Jf h60 (hin r hr).1 (hin r hr).2}},by simp;ac_nf,λz=>by rw[z]at hH;simp at hH;ac_nf,λz=>by rw[z]at el;simp at el,by ac_nf}
 show{R,H,L.take (j+1),g,hH,?_};let hlr:=X7 (ev:=L.take (j+1)) (λr hr=>{(g.i r hr).1,by let:=(g.i r hr).2.2;ac_nf}:∀r∈R++[cw k],In k 60 r/\sz r<=1000) (by simp;ac_nf) g.ok.2.1 g.e60;rw[xm,Yu (by rfl)];let hst:Ye 7 [D.scr ns,ak k,.int (n:Int)]=[↑(.scr ns),↑(ak k),↑(.int (n:Int)),none,none,none,none]:=rfl;rw[hst];simp at c1 c2 k1
 let cap:R.length<1000000:=by ac_nf
 let ea:∀d,aJ (cw k)=d->(R++[cw k]).map aJ=R.map aJ++[d]:=λd h=>by rw[Qk,<-h];rfl
 let q5:F7 [↑(.scr ns),↑(ak k),↑(.int (n:Int)),some (.ow ((R++[cw k]).map aJ)),some (.ow (H.map aG)),some (.ow (L.map D.bl)),y]=some (.rt (.lst ((bc k (R++[cw k]) H (L.take (j+1))).map wD))):=by
  nomatch (bc k (R++[cw k]) H (L.take (j+1))).map wD=RW,(L.take (j+1)).map D.bl=LT,L.map D.bl=LL,H.map aG=HH,(R++[cw k]).map aJ=RR;simp[frz,frz1,c4,c2,hmod,hcut,hlr]
 let q2:xk [↑(.scr ns),↑(ak k),↑(.int (n:Int)),some (.ow ((R++[cw k]).map aJ)),none,none,none]=some (.rt (.lst ((bc k (R++[cw k]) H (L.take (j+1))).map wD))):=by
  nomatch (R++[cw k]).map aJ=RR;unfold xk;rw[bX (ρ':=[↑(.scr ns),↑(ak k),↑(.int (n:Int)),some (.ow RR),some (.ow []),none,none]) nofun];unfold F9;rw[bX (ρ':=[↑(.scr ns),↑(ak k),↑(.int (n:Int)),some (.ow RR),some (.ow []),some (.ow []),none]) nofun];unfold F8;rw[bX (ρ':=[↑(.scr ns),↑(ak k),↑(.int (n:Int)),some (.ow RR),some (.ow (H.map aG)),some (.ow (L.map D.bl)),y]) (by simp[hr]at e1 ⊢;show e1)];show q5
 let q1:xl [↑(.scr ns),↑(ak k),↑(.int (n:Int)),some (.ow (R.map aJ)),none,none,none]=some (.rt (.lst ((bc k (R++[cw k]) H (L.take (j+1))).map wD))):=by
  rw[ea (aJ (cw k)) rfl]at q2;unfold xl;let hap:bb (R.map aJ) (aJ (cw k))=some (R.map aJ++[aJ (cw k)]):=if_pos (by rw[qf];show cap)
  rw[bX (ρ':=[↑(.scr ns),↑(ak k),↑(.int (n:Int)),some (.ow (R.map aJ++[aJ (cw k)])),none,none,none]) (by
   nomatch R.map aJ=RR
   cases k<;>(simp only[cw,aJ,az,nD,au,Qd,List.map_nil]at hap ⊢;simp[ke,ks];show hap))]
  show q2
 unfold F_;rw[bX (ρ':=[↑(.scr ns),↑(ak k),↑(.int (n:Int)),some (.ow (R.map aJ)),none,none,none]) (by simp[c1,k1,hRc,aj])];rw[q1];rfl
theorem J7{a:D}(h:Yz [a]=some true):xw [a]=some (.lst [.bl true,.bl true,.bl false]):=by
 rw[xw,Yu (by rfl)];let b:Ye 5 [a]=[some _,none,none,none,none]:=rfl;rw[b];unfold O7
 rw[bX (ρ':=[↑a,some (.ow []),none,none,none]) nofun,bX (by
  unfold fj;rw[show(Yb _ _) _=some [a] from rfl,qd,h]
  rfl)]
 rfl
section
variable {k:Kd}{R:List Rl}{H ev:AG}{t:Hs}
theorem J8(g:Gd k R H ev){j q i h n l:AQ}{Q:b6 Hs->Prop}(p:∀t',Q (.rt (.bl true) t')):rM [j,q,i,↑(.lst ((bc k R H ev).map wD)),h,n,l] t Q:=by
 let b:=PD (λw hw=>(g.wd w hw).toWq.small) (by let:=PH k R H ev;let:=g.l9;ac_nf);let hw:=X6 (λr f=>{(g.i r f).1,by let:=(g.i r f).2.2;ac_nf}) (by let:=g.l9;ac_nf) g.ok.2.1 g.e60
 let c:=HK (t:=t) g.ok g.el g.e0 (W:=λd t'=>∃a,t' a=some _/\d=wA k R H a) λa t' _ o _=>{(a),o,rfl}
 nomatch bO _=e;show{[.str e],by simp[b],_,c,λd t' hd=>?_};let{a,m,rfl}:=hd;show{rfl,.str e,?_,rfl,.str e,true,by simp[b],by rw[fz];simp,p t'}
 rwa [cQ,xR m]
end
theorem law_true(ns:AF)(hns:ns.length<=63):k8 [.scr ns]=some (.bl true):=by
 let c0:=rO ns 0;let c3:=rO ns 3;generalize ns.getD 0 0=x0 at c0;generalize ns.getD 3 0=x3 at c3;let{k,hk}:=G8 x0;let{v,hv0,hv}:=xy x3 1865811235122147685
 obtain⟨n,hn2,hn60,hn⟩:∃n:Nat,2<=n/\n<=60/\2+x0/4%59=(n:Int):={(2+x0/4%59).toNat,by lia,by lia,by lia}
 let{R0,H,ev,g,rfl,hgood}:=J6 ns k hn2 hn60;let{L,hf,hq,hl,hx}:=J5 g (QI k hn2).2.2 v;let hp:=PD (L:=L) (λw hw=>(hq w hw).small) hl;let hkn:=J7 hx;rw[<-Jw g]at hf;let hxy:=λ{a0 a1 a2 a4 a5 a6 Q}=>@J8 k _ H ev (λ_=>none) g a0 a1 a2 a4 a5 a6 Q;rw[k8,Yu (by rfl)];let hst:Ye 7 [D.scr ns]=[↑(.scr ns),none,none,none,none,none,none]:=rfl;rw[hst];simp at c0 c3;nomatch (bc k (R0++[cw k]) H ev).map wD=LL,L.map wD=L',bO L=tx;unfold rN;rw[bX (ρ':=[↑(.scr ns),↑(ak k),none,none,none,none,none]) (by simp[c0,hk])];unfold Pd;rw[bX (ρ':=[↑(.scr ns),↑(ak k),↑(.int (H.length:Int)),none,none,none,none]) (by simp[c0,hn])];unfold Pc;rw[bX (ρ':=[↑(.scr ns),↑(ak k),↑(.int (H.length:Int)),↑(.lst LL),none,none,none]) (by simp[hgood])];unfold Pb;rw[bX (ρ':=[↑(.scr ns),↑(ak k),↑(.int (H.length:Int)),↑(.lst LL),↑(.int v),none,none]) (by simp[c3,hv])];unfold Pa;rw[bX (ρ':=[↑(.scr ns),↑(ak k),↑(.int (H.length:Int)),↑(.lst LL),↑(.int v),↑(.str tx),none]) (by simp[hf,hp])];unfold O_;rw[bX (ρ':=[↑(.scr ns),↑(ak k),↑(.int (H.length:Int)),↑(.lst LL),↑(.int v),↑(.str tx),↑(.bl false)]) nofun];unfold O9
 rw[bX (ρ':=[↑(.scr ns),↑(ak k),↑(.int (H.length:Int)),↑(.lst LL),↑(.int v),↑(.str tx),↑(.bl true)]) (by
  unfold fj
  ext)]
 unfold O8
 rw[bX (ρ':=[↑(.scr ns),↑(ak k),↑(.int (H.length:Int)),↑(.lst LL),↑(.int v),↑(.str tx),↑(.bl true)]) (by
  rw[cO]
  .rfl
  .let:aA true (.lst [.bl true,.bl true,.bl false]) (.lst [.bl true,.bl true,.bl false])=some false:=by kernel_rfl
   simp[hkn,this])]
 unfold kG;rw[Mo (hxy λ_=>trivial)];rfl
end Lw
end
noncomputable section
namespace Op
open PySem PySem.W PyProof.Rows PySem.Calls
noncomputable abbrev pg:P7:=PySem.Challenge.pw_duskbook_k57_pages_refused
noncomputable def eI(i j:Nat):Stmt:=L2.inClass (Lw.top i) j
noncomputable abbrev en(P:Params)(x:Str)(t:Nat)(v:Value):DictEntry:={PyData.keyHash P x,.str x t,v}
abbrev fn(e a:Str)(s:Stmt)(i k c h:Value)(f:Option Addr)(d j:Value)(g b:Nat):Data:=.func {e,a,L2.aEb s,.stmts (L2.aDb s),L2.aBb s,g,[],i,k,c,h,f,d,j,b}
noncomputable abbrev tu(l:AC):Obj:={.type "tuple",none,.seq {(l)} 0,#[]}
noncomputable abbrev oK(x:Str)(t l b k e:Nat):Obj:={.type "code",none,.fields #[.str x t,.str x (t+1),.str "/claim/cut.py" (t+2),.int l 0,.int 0 0,.int 0 0,.int 0 0,.int 0 0,.ref b,.bool false,.int k 0,.ref (b+1),.none,.none,.none,.none,.int e 0,.int l 0,.str "/claim/cut.py" (e+1)],#[]}
noncomputable abbrev oQ(x q:Str)(t l n b:Nat)(u v:Value)(c k e:Nat):Obj:={.type "code",none,.fields #[.str x t,.str q (t+1),.str "/claim/cut.py" (t+2),.int l 0,.int n 0,.int 0 0,.int 0 0,.int 3 0,.ref b,.bool true,.int k 0,.ref (b+1),.none,u,v,.ref c,.int e 0,.int l 0,.str "/claim/cut.py" (e+1)],#[]}
noncomputable abbrev oX(a b:Nat)(x:Str)(t:Nat):Obj:={.type "frame",none,.plain,#[some (.ref a),some (.ref 3),some (.ref b),none,some (.str x t),none,some (.ref 0)]}
noncomputable abbrev oP:Obj:={.type "builtin_function_or_method",none,.fields #[.builtin "type.__prepare__",.type "type"],#[]}
noncomputable abbrev oI(a:Nat):Obj:={.type "builtin_function_or_method",none,.fields #[.builtin "object.__init_subclass__",.ref a],#[]}
noncomputable abbrev oS(a:Nat):Obj:={.type "super",none,.fields #[.ref a,.ref a,.ref a],#[]}
noncomputable abbrev oD(l:Array DictEntry)(n:Nat):Obj:={.type "dict",none,.dict l n,#[]}
abbrev iz(n:Int):Value:=.int n 0
noncomputable abbrev rf(n:Nat):Value:=.ref n
abbrev Zh(P:Params)(x:Str)(t n:Nat):=en P x t (rf n)
abbrev oE(x:Str)(a t:Nat):Obj:={.type "type",none,.cls {x,[rf 31],[rf a,rf 31,.type "ValueError",.type "Exception",.type "BaseException",.type "object"],a-1,x,true,[],[],false,none,false},#[some (rf (a-9)),none,some (.str x t),some (.str x (t+8)),some (.builtin "ValueError.__new__"),some (.bool true)]}
abbrev oU(l:AC):Obj:={.type "type",none,(.cls {"DuskError",[.type "ValueError"],[rf 31,.type "ValueError",.type "Exception",.type "BaseException",.type "object"],30,"DuskError",true,[],l,false,none,false}),#[(some (rf 22)),none,(some (.str "DuskError" 196)),(some (.str "DuskError" 204)),(some (.builtin "ValueError.__new__")),(some (.bool true))]}
abbrev oG(P:Params)(x:Str)(a:Nat)(l:Int)(r:Nat):Obj:=oD #[en P "__module__" a (.str "duskbook.errors" 194),en P "__qualname__" (a+2) (.str x (a+1)),en P "__firstlineno__" (a+4) (.int l (a+3)),en P "__static_attributes__" (a+5) (rf r)] 4
abbrev oH(P:Params)(a:Nat)(l:Int)(r:Nat):Obj:=oD #[en P "__module__" a (.str "duskbook.errors" 194),en P "__firstlineno__" (a+4) (.int l (a+3)),en P "__static_attributes__" (a+5) (rf r),en P "__doc__" (a+6) .none] 2
noncomputable abbrev fl:Obj:={.none,none,.fields #[],#[]}
abbrev oZ(x:Str)(i:Nat):Obj:={.none,none,fn x x (Lw.top i) .none .none .none .none none .none .none 0 0,#[]}
abbrev oF(x:Str)(i:Nat)(d:Value)(c:Nat):Obj:={.type "function",none,.func (fnOf x x (L2.aEb (Lw.top i)) (L2.aDb (Lw.top i)) (L2.aBb (Lw.top i)) .none .none .none d none (.ref c) .none),#[]}
abbrev oM(x q:Str)(i j:Nat)(d:Value)(c:Nat):Obj:={.type "function",none,.func (fnOf x q (L2.aEb (L2.inClass (Lw.top i) j)) (L2.aDb (L2.inClass (Lw.top i) j)) (L2.aBb (L2.inClass (Lw.top i) j)) .none .none .none d none (.ref c) .none),#[]}
noncomputable abbrev oC(x:Str)(t l n b:Nat)(u v:Value)(c k e:Nat):Obj:={.type "code",none,.fields #[.str x t,.str x (t+1),.str "/claim/cut.py" (t+2),.int (.ofNat l) 0,.int (.ofNat n) 0,.int 0 0,.int 0 0,.int 3 0,.ref b,.bool true,.int (.ofNat k) 0,.ref (b+1),.none,u,v,.ref c,.int (.ofNat e) 0,.int (.ofNat l) 0,.str "/claim/cut.py" (e+1)],#[]}
abbrev p0:Value:=.str "__main__" 164
abbrev p1:Value:=(.str "duskbook.books" 342)
abbrev p2:Value:=(.str "duskbook.watches" 525)
abbrev p3:Value:=(.str "duskbook.pages" 618)
abbrev p4:Value:=(.str "law_duskbook_k57_pages_refused" 792)
def YN(P:Params):List DictEntry:=[en P "__doc__" 166 .none,en P "__package__" 167 .none,en P "__loader__" 168 (.builtin "__main__.__loader__#opaque"),en P "__spec__" 169 .none,Zh P "__annotations__" 170 6,Zh P "__builtins__" 171 4,en P "__file__" 173 (.str "/claim/cut.py" 172),en P "__cached__" 174 .none,Zh P "_wall" 193 21,Zh P "DuskError" 213 31,Zh P "NoBook" 229 44,Zh P "NoHands" 245 56,Zh P "Over" 261 68,Zh P "NoLight" 277 80,Zh P "NoneSettled" 293 92,Zh P "NoTable" 309 104,Zh P "NoPage" 325 116,Zh P "NoPaper" 341 128,Zh P "KINDS" 348 131,en P "BEACON_COUNT" 350 (.int (60) 349),en P "MOST_RULES" 352 (.int (60) 351),en P "MOST_SAYINGS" 354 (.int (2) 353),Zh P "is_beacon" 361 138,Zh P "checked_beacon" 368 145,Zh P "checked_truth" 375 152,Zh P "checked_beacons" 381 157,Zh P "either_made" 387 162,Zh P "sum_made" 394 169,Zh P "if_made" 402 176,Zh P "rule_made" 410 183,Zh P "book_made" 416 188,Zh P "either_holds" 422 193,Zh P "sum_holds" 428 198,Zh P "if_holds" 434 203,Zh P "rule_holds" 443 210,Zh P "broken_rules" 449 215,Zh P "holds" 457 222,Zh P "beacons_in" 463 227,Zh P "beacons_of" 472 234,Zh P "without" 478 239]
def YO(P:Params):List DictEntry:=[Zh P "either_left" 484 244,Zh P "sum_left" 495 251,Zh P "if_left" 505 258,Zh P "rule_left" 515 265,Zh P "left_behind" 521 270,Zh P "HANDS" 524 271,Zh P "is_hand" 533 278,Zh P "check_hands" 539 283,Zh P "Watch" 617 342,en P "FIGURES" 621 (.str "0123456789" 620),en P "MOST_FIGURES" 623 (.int (3) 622),Zh P "LETTERS" 630 347,Zh P "HANDS_BY_LETTER" 637 348,Zh P "TRUTHS_BY_SIGN" 642 349,Zh P "TRUTHS_BY_MARK" 647 350,Zh P "ODDS_BY_WORD" 652 351,Zh P "saying_written" 660 358,Zh P "rule_written" 666 363,Zh P "signs_written" 674 370,Zh P "page_written" 680 375,Zh P "number_read" 686 380,Zh P "beacon_read" 694 387,Zh P "saying_read" 702 394,Zh P "hand_read" 709 401,Zh P "truth_read" 716 408,Zh P "each_read" 722 413,Zh P "sum_read" 729 420,Zh P "if_read" 738 427,Zh P "rule_read" 746 434,Zh P "kind_read" 753 441,Zh P "hands_read" 760 448,Zh P "settled_read" 767 455,Zh P "rows_read" 773 460,Zh P "watch_made" 785 467,Zh P "page_read" 791 472,Zh P "_law_cell" 801 479,Zh P "_law_mixed" 809 486,Zh P "_law_rule" 826 493,Zh P "_law_saying_word" 833 500,Zh P "_law_rule_words" 839 505]
def YQ(P:Params):List DictEntry:=[Zh P "_law_rows" 845 510,Zh P "_law_page" 851 515,Zh P "_law_good" 857 520,Zh P "_law_places" 867 527,Zh P "_law_ends" 884 534,Zh P "_law_odd_rule" 892 541,Zh P "_law_words" 905 548,Zh P "_law_faulty" 918 555,Zh P "_law_kinds" 929 562,Zh P "law" 942 569]
def et(P:Params):List DictEntry:=YN P++YO P++YQ P
abbrev ns(P:Params)(x:DictEntry)(n k:Nat):Obj:={.type "dict",none,.dict {x::(et P).take n} k,#[]}
def QJ:AE->AC
 | a::b::r=>iz a::iz 0::rf b::QJ r
 | _=>[]
def ff:AC:=QJ ([1,20,5,27,7,40,9,52,11,64,13,76,15,88,17,100,19,112,21,124,28,137,30,144,34,151,38,156,43,161,50,168,52,175,57,182,63,187,69,192,71,197,74,202,78,209,84,214,86,221,88,226,94,233,99,238,101,243,105,250,111,257,118,264,126,269,131,277,133,282,140,289,185,357,188,362,195,369,197,374]++[204,379,210,386,213,393,218,400,220,407,222,412,227,419,231,426,239,433,247,440,251,447,255,454,259,459,264,466,269,471,281,478,285,485,287,492,312,499,314,504,324,509,333,514,335,519,349,526,362,533,381,540,387,547,400,554,411,561,420,568])
abbrev ft(n:Nat):Obj:={.none,none,.fields {ff.take n},#[]}
abbrev dF(x:Str)(i l n t b:Nat)(a:Value)(k:Nat):List Obj:=[tu [],fl,oZ x i,oC x t l n b .none .none (b+2) k (t+3),oF x i a (b+3)]
abbrev dG(x:Str)(i l n t b:Nat)(a:Value)(k:Nat)(u:AC):List Obj:=[tu [],fl,tu u,tu [],oZ x i,oC x t l n b (.ref (b+2)) (.ref (b+3)) (b+4) k (t+3+u.length),oF x i a (b+5)]
def YR(P:Params):List Obj:=[boot_o_0 P,boot_o_1 P,boot_o_2 P,ns P (en P "__name__" 165 (.str "law_duskbook_k57_pages_refused" 792)) 90 91,boot_o_4 P,boot_o_5 P,boot_o_6 P,boot_o_7 P,boot_o_8 P,boot_o_9 P,boot_o_10 P,tu [],ft 210,oK "<module>" 182 1 11 181 185,oX 13 3 "__main__" 164]++(dG "_wall" 0 1 1 187 15 p0 181 [.str "k" 190]++([tu [.type "ValueError"],oP,oG P "DuskError" 203 5 29,tu [],fl,oK "DuskError" 198 5 25 181 201,oX 27 24 "duskbook.errors" 194,tu [],(oD #[en P "__module__" 203 (.str "duskbook.errors" 194),en P "__firstlineno__" 207 (.int (5) 206),Zh P "__static_attributes__" 208 29,Zh P "__weakref__" 210 32,en P "__doc__" 211 .none] 3),(oU [rf 44,rf 56,rf 68,rf 80,rf 92,rf 104,rf 116,rf 128]),{.type "getset_descriptor",none,(.fields #[.str "__weakref__" 209,rf 31,.builtin "ExceptionGroup.__weakref__",.none]),#[]},oS 31,oI 31,tu [rf 31],oP,oG P "NoBook" 221 7 42,tu [],fl,oK "NoBook" 216 7 38 181 219,oX 40 37 "duskbook.errors" 194,tu [],oH P 221 7 42,oE "NoBook" 44 214,oS 44,oI 44,tu [rf 31],oP,oG P "NoHands" 237 9 54,tu [],fl,oK "NoHands" 232 9 50 181 235,oX 52 49 "duskbook.errors" 194,tu [],oH P 237 9 54,oE "NoHands" 56 230,oS 56,oI 56,tu [rf 31],oP,oG P "Over" 253 11 66]++([tu [],fl,oK "Over" 248 11 62 181 251,oX 64 61 "duskbook.errors" 194,tu [],oH P 253 11 66,oE "Over" 68 246,oS 68,oI 68,tu [rf 31],oP,oG P "NoLight" 269 13 78,tu [],fl,oK "NoLight" 264 13 74 181 267,oX 76 73 "duskbook.errors" 194,tu [],oH P 269 13 78,oE "NoLight" 80 262,oS 80,oI 80,tu [rf 31],oP,oG P "NoneSettled" 285 15 90,tu [],fl,oK "NoneSettled" 280 15 86 181 283,oX 88 85 "duskbook.errors" 194,tu [],oH P 285 15 90,oE "NoneSettled" 92 278,oS 92,oI 92,tu [rf 31],oP,oG P "NoTable" 301 17 102,tu [],fl,oK "NoTable" 296 17 98 181 299,oX 100 97 "duskbook.errors" 194]++([tu [],oH P 301 17 102,oE "NoTable" 104 294,oS 104,oI 104,tu [rf 31],oP,oG P "NoPage" 317 19 114,tu [],fl,oK "NoPage" 312 19 110 181 315,oX 112 109 "duskbook.errors" 194,tu [],oH P 317 19 114,oE "NoPage" 116 310,oS 116,oI 116,tu [rf 31],oP,oG P "NoPaper" 333 21 126,tu [],fl,oK "NoPaper" 328 21 122 181 331,oX 124 121 "duskbook.errors" 194,tu [],oH P 333 21 126,oE "NoPaper" 128 326,oS 128,oI 128,tu [.str "eithers" 344,.str "sums" 345,.str "ifs" 346,.str "nots" 347]]++(dG "is_beacon" 16 28 1 355 132 p1 181 [.str "thing" 358]++(dG "checked_beacon" 17 30 1 362 139 p1 181 [.str "thing" 365]++(dG "checked_truth" 18 34 1 369 146 p1 181 [.str "thing" 372]++(dF "checked_beacons" 19 38 1 376 153 p1 181++(dF "either_made" 20 43 1 382 158 p1 181++(dG "sum_made" 21 50 1 388 163 p1 181 [.str "rule" 391]++(dG "if_made" 22 52 1 395 170 p1 181 [.str "rule" 398,.str "head" 399]++(dG "rule_made" 23 57 2 403 177 p1 181 [.str "kind" 406,.str "rule" 407]++(dF "book_made" 24 63 2 411 184 p1 181++(dF "either_holds" 25 69 2 417 189 p1 181++(dF "sum_holds" 26 71 2 423 194 p1 181++(dF "if_holds" 27 74 3 429 199 p1 181++(dG "rule_holds" 28 78 3 435 204 p1 181 [.str "kind" 438,.str "rule" 439,.str "evening" 440]++(dF "broken_rules" 29 84 2 444 211 p1 181++(dG "holds" 30 86 2 450 216 p1 181 [.str "book" 453,.str "evening" 454]++(dF "beacons_in" 31 88 2 458 223 p1 181++(dG "beacons_of" 32 94 1 464 228 p1 181 [.str "book" 467,.str "found" 468,.str "rule" 469]++(dF "without" 33 99 2 473 235 p1 181++(dF "either_left" 34 101 3 479 240 p1 181++(dG "sum_left" 35 105 3 485 245 p1 181 [.str "rule" 488,.str "beacon" 489,.str "lit" 490,.str "beacons" 491,.str "odd" 492]))))))))))))))))))))))))
def YT(P:Params):List Obj:=dG "if_left" 36 111 3 496 252 p1 181 [.str "rule" 499,.str "beacon" 500,.str "so" 501,.str "head" 502]++(dG "rule_left" 37 118 4 506 259 p1 181 [.str "kind" 509,.str "rule" 510,.str "beacon" 511,.str "lit" 512]++(dF "left_behind" 38 126 3 516 266 p1 181++([tu [.str "keeper" 522,.str "storm" 523]]++(dG "is_hand" 41 131 1 527 272 p2 181 [.str "thing" 530]++(dF "check_hands" 42 133 2 534 279 p2 181++([tu [],oP,(oD #[en P "__module__" 547 (.str "duskbook.watches" 525),en P "__qualname__" 549 (.str "Watch" 548),en P "__firstlineno__" 551 (.int (140) 550),Zh P "__init__" 560 297,Zh P "turn" 567 304,Zh P "evening" 574 311,Zh P "left" 584 318,Zh P "winner" 591 325,Zh P "settle" 599 332,Zh P "back" 606 339,Zh P "__static_attributes__" 610 340] 11),tu [],{.none,none,(.fields #[iz 142,iz 4,rf 296,iz 148,iz 4,rf 303,iz 153,iz 4,rf 310,iz 156,iz 4,rf 317,iz 162,iz 4,rf 324,iz 167,iz 4,rf 331,iz 175,iz 4,rf 338]),#[]},oK "Watch" 542 140 287 181 545,oX 289 286 "duskbook.watches" 525,tu [],fl,tu [.str "self" 555,.str "book" 556,.str "hands" 557],tu [],{.none,none,(fn "__init__" "Watch.__init__" (eI 43 0) .none .none .none .none none .none .none 0 0),#[]},(oQ "__init__" "Watch.__init__" 552 142 3 291 (rf 293) (rf 294) 295 181 558),oM "__init__" "Watch.__init__" 43 0 p2 296,tu [],fl,tu [.str "self" 564],tu [],{.none,none,(fn "turn" "Watch.turn" (eI 43 1) .none .none .none .none none .none .none 0 0),#[]},(oQ "turn" "Watch.turn" 561 148 1 298 (rf 300) (rf 301) 302 181 565),oM "turn" "Watch.turn" 43 1 p2 303,tu [],fl,tu [.str "self" 571],tu [],{.none,none,(fn "evening" "Watch.evening" (eI 43 2) .none .none .none .none none .none .none 0 0),#[]},(oQ "evening" "Watch.evening" 568 153 1 305 (rf 307) (rf 308) 309 181 572),oM "evening" "Watch.evening" 43 2 p2 310,tu [],fl,tu [.str "self" 578,.str "book" 579,.str "beacon" 580,.str "lit" 581],tu [],{.none,none,(fn "left" "Watch.left" (eI 43 3) .none .none .none .none none .none .none 0 0),#[]},(oQ "left" "Watch.left" 575 156 1 312 (rf 314) (rf 315) 316 181 582),oM "left" "Watch.left" 43 3 p2 317,tu [],fl,tu [.str "self" 588],tu [],{.none,none,(fn "winner" "Watch.winner" (eI 43 4) .none .none .none .none none .none .none 0 0),#[]}]++([(oQ "winner" "Watch.winner" 585 162 1 319 (rf 321) (rf 322) 323 181 589),oM "winner" "Watch.winner" 43 4 p2 324,tu [],fl,tu [.str "self" 595,.str "lit" 596],tu [],{.none,none,(fn "settle" "Watch.settle" (eI 43 5) .none .none .none .none none .none .none 0 0),#[]},(oQ "settle" "Watch.settle" 592 167 2 326 (rf 328) (rf 329) 330 181 597),oM "settle" "Watch.settle" 43 5 p2 331,tu [],fl,tu [.str "self" 603],tu [],{.none,none,(fn "back" "Watch.back" (eI 43 6) .none .none .none .none none .none .none 0 0),#[]},(oQ "back" "Watch.back" 600 175 1 333 (rf 335) (rf 336) 337 181 604),oM "back" "Watch.back" 43 6 p2 338,tu [.str "book" 607,.str "hands" 608,.str "truths" 609],(oD #[en P "__module__" 547 (.str "duskbook.watches" 525),en P "__firstlineno__" 551 (.int (140) 550),Zh P "__init__" 560 297,Zh P "turn" 567 304,Zh P "evening" 574 311,Zh P "left" 584 318,Zh P "winner" 591 325,Zh P "settle" 599 332,Zh P "back" 606 339,Zh P "__static_attributes__" 610 340,Zh P "__dict__" 612 343,Zh P "__weakref__" 614 344,en P "__doc__" 615 .none] 4),{.type "type",none,(.cls {"Watch",[.type "object"],[rf 342,.type "object"],341,"Watch",true,[],[],false,none,false}),#[none,none,(some (.str "Watch" 540)),(some (.str "Watch" 548)),(some (.builtin "object.__new__")),(some (.bool true))]},{.type "getset_descriptor",none,(.fields #[.str "__dict__" 611,rf 342,.builtin "function.__dict__",.builtin "function.__dict__#set"]),#[]},{.type "getset_descriptor",none,(.fields #[.str "__weakref__" 613,rf 342,.builtin "ExceptionGroup.__weakref__",.none]),#[]},oS 342,oI 342,(oD #[en P "keeper" 624 (.str "k" 625),en P "storm" 626 (.str "s" 627)] 2),(oD #[en P "k" 631 (.str "keeper" 632),en P "s" 633 (.str "storm" 634)] 2),(oD #[en P "1" 638 (.bool true),en P "0" 639 (.bool false)] 2),(oD #[en P "+" 643 (.bool true),en P "-" 644 (.bool false)] 2),(oD #[en P "odd" 648 (.bool true),en P "even" 649 (.bool false)] 2)]++(dG "saying_written" 52 185 1 653 352 p3 181 [.str "saying" 656,.str "beacon" 657]++(dF "rule_written" 53 188 2 661 359 p3 181++(dG "signs_written" 54 195 2 667 364 p3 181 [.str "word" 670,.str "signs" 671]++(dF "page_written" 55 197 1 675 371 p3 181++(dF "number_read" 56 204 1 681 376 p3 181++(dG "beacon_read" 57 210 1 687 381 p3 181 [.str "word" 690,.str "number" 691]++(dG "saying_read" 58 213 1 695 388 p3 181 [.str "word" 698,.str "beacon" 699]++(dG "hand_read" 59 218 1 703 395 p3 181 [.str "letter" 706]++(dG "truth_read" 60 220 1 710 402 p3 181 [.str "sign" 713]++(dF "each_read" 61 222 2 717 409 p3 181++(dG "sum_read" 62 227 1 723 414 p3 181 [.str "words" 726]++(dG "if_read" 63 231 1 730 421 p3 181 [.str "words" 733,.str "end" 734,.str "heads" 735]++(dG "rule_read" 64 239 2 739 428 p3 181 [.str "kind" 742,.str "words" 743]++(dG "kind_read" 65 247 1 747 435 p3 181 [.str "words" 750]++(dG "hands_read" 66 251 1 754 442 p3 181 [.str "words" 757]++(dG "settled_read" 67 255 1 761 449 p3 181 [.str "words" 764]++(dF "rows_read" 68 259 1 768 456 p3 181))))))))))))))))))))))))
def YU(P:Params):List Obj:=dG "watch_made" 69 264 4 774 461 p3 181 [.str "kind" 777,.str "rules" 778,.str "hands" 779,.str "truths" 780,.str "watch" 781,.str "lit" 782]++(dF "page_read" 70 269 1 786 468 p3 181++(dG "_law_cell" 72 281 2 794 473 p4 181 [.str "script" 797,.str "k" 798]++(dG "_law_mixed" 73 285 2 802 480 p4 181 [.str "cell" 805,.str "by" 806]++(dG "_law_rule" 74 287 3 810 487 p4 181 [.str "kind" 813,.str "cell" 814,.str "many" 815,.str "left" 816,.str "size" 817,.str "odd" 818,.str "head" 819,.str "some" 820,.str "k" 821,.str "sayings" 822,.str "beacon" 823]++(dG "_law_saying_word" 75 312 1 827 494 p4 181 [.str "saying" 830]++(dF "_law_rule_words" 76 314 2 834 501 p4 181++(dF "_law_rows" 77 324 4 840 506 p4 181++(dF "_law_page" 78 333 1 846 511 p4 181++(dF "_law_good" 79 335 3 852 516 p4 181++(dG "_law_places" 80 349 3 858 521 p4 181 [.str "rows" 861,.str "way" 862,.str "at" 863,.str "here" 864]++(dG "_law_ends" 81 362 4 868 528 p4 181 [.str "rows" 871,.str "way" 872,.str "at" 873,.str "many" 874,.str "bits" 875,.str "here" 876,.str "letters" 877,.str "place" 878,.str "spoilt" 879,.str "other" 880,.str "some" 881]++(dG "_law_odd_rule" 82 381 2 885 535 p4 181 [.str "kind" 888,.str "at" 889]++(dG "_law_words" 83 387 5 893 542 p4 181 [.str "row" 896,.str "kind" 897,.str "way" 898,.str "at" 899,.str "many" 900,.str "some" 901,.str "here" 902]++(dG "_law_faulty" 84 400 4 906 549 p4 181 [.str "rows" 909,.str "kind" 910,.str "pick" 911,.str "many" 912,.str "way" 913,.str "at" 914,.str "here" 915]++(dG "_law_kinds" 85 411 1 919 556 p4 181 [.str "page" 922,.str "kinds" 923,.str "e" 924,.str "some" 925,.str "more" 926]++(dG "law" 86 420 1 930 563 p4 181 [.str "script" 933,.str "kind" 934,.str "many" 935,.str "rows" 936,.str "pick" 937,.str "page" 938,.str "refused" 939]))))))))))))))))
def al(P:Params):List Obj:=YR P++YT P++YU P
noncomputable def upd(l:List (Nat×Obj))(xs:List Obj):List Obj:=l.foldl (λxs p=>xs.set p.1 p.2) xs
noncomputable def ev:List Obj->List Obj
 | []=>[]
 | [x]=>[x]
 | x::_::r=>x::ev r
noncomputable def bt:Nat->List Obj->BT
 | 0,_=>.nil
 | _+1,[]=>.nil
 | n+1,x::xs=>.node x (bt n (ev xs)) (bt n (ev xs.tail))
abbrev bd:List Stmt:=behindTheImports pg
abbrev sl(i n:Nat):List Stmt:=(bd.drop i).take n
abbrev env:Env:={scope:=pg.main.scope,locals:=mainNs,globals:=mainNs,cells:=[],code:=(rf 13),frame:=some 14}
abbrev cE:Code:=.body bd env
noncomputable abbrev B:List Frame:=[topFrame {0,0,0,0}]
abbrev ss(n:Nat)(l:Params->List (Nat×Obj))(t:Nat)(w:World)(os:OsState):SharedT:={bt 12 (upd (l w.params) ((al w.params).take n)),n,{},.mk [],boot_drawn,t,os}
def h0(P:Params):Heap:={{upd [(3,boot_o_3 P),(12,fl)] ((al P).take 15)},{}}
abbrev s0(w:World)(os:OsState):Shared:={h0 w.params,.mk [],boot_drawn,187,os}
abbrev s1:World->OsState->SharedT:=ss 15 (λP=>[(3,boot_o_3 P),(12,fl)]) 187
abbrev s2:World->OsState->SharedT:=ss 35 (λP=>[(3,ns P (en P "__name__" 165 (.str "duskbook.errors" 194)) 10 11),(12,ft 6),(31,(oU []))]) 214
abbrev s3:World->OsState->SharedT:=ss 47 (λP=>[(3,ns P (en P "__name__" 165 (.str "duskbook.errors" 194)) 11 12),(12,ft 9),(31,(oU [rf 44]))]) 230
abbrev s4:World->OsState->SharedT:=ss 59 (λP=>[(3,ns P (en P "__name__" 165 (.str "duskbook.errors" 194)) 12 13),(12,ft 12),(31,(oU [rf 44,rf 56]))]) 246
abbrev s5:World->OsState->SharedT:=ss 71 (λP=>[(3,ns P (en P "__name__" 165 (.str "duskbook.errors" 194)) 13 14),(12,ft 15),(31,(oU [rf 44,rf 56,rf 68]))]) 262
abbrev s6:World->OsState->SharedT:=ss 83 (λP=>[(3,ns P (en P "__name__" 165 (.str "duskbook.errors" 194)) 14 15),(12,ft 18),(31,(oU [rf 44,rf 56,rf 68,rf 80]))]) 278
abbrev s7:World->OsState->SharedT:=ss 95 (λP=>[(3,ns P (en P "__name__" 165 (.str "duskbook.errors" 194)) 15 16),(12,ft 21),(31,(oU [rf 44,rf 56,rf 68,rf 80,rf 92]))]) 294
abbrev s8:World->OsState->SharedT:=ss 107 (λP=>[(3,ns P (en P "__name__" 165 (.str "duskbook.errors" 194)) 16 17),(12,ft 24),(31,(oU [rf 44,rf 56,rf 68,rf 80,rf 92,rf 104]))]) 310
abbrev s9:World->OsState->SharedT:=ss 119 (λP=>[(3,ns P (en P "__name__" 165 (.str "duskbook.errors" 194)) 17 18),(12,ft 27),(31,(oU [rf 44,rf 56,rf 68,rf 80,rf 92,rf 104,rf 116]))]) 326
abbrev QK:World->OsState->SharedT:=ss 158 (λP=>[(3,ns P (en P "__name__" 165 (.str "duskbook.books" 342)) 26 27),(12,ft 42)]) 382
abbrev QL:World->OsState->SharedT:=ss 240 (λP=>[(3,ns P (en P "__name__" 165 (.str "duskbook.books" 342)) 40 41),(12,ft 84)]) 479
abbrev QM:World->OsState->SharedT:=ss 284 (λP=>[(3,ns P (en P "__name__" 165 (.str "duskbook.watches" 525)) 48 49),(12,ft 105)]) 540
abbrev QN:World->OsState->SharedT:=ss 347 (λP=>[(3,ns P (en P "__name__" 165 (.str "duskbook.watches" 525)) 49 50),(12,ft 108)]) 618
abbrev QO:World->OsState->SharedT:=ss 388 (λP=>[(3,ns P (en P "__name__" 165 (.str "duskbook.pages" 618)) 62 63),(12,ft 126)]) 695
abbrev QP:World->OsState->SharedT:=ss 473 (λP=>[(3,ns P (en P "__name__" 165 (.str "law_duskbook_k57_pages_refused" 792)) 75 76),(12,ft 165)]) 794
abbrev QQ:World->OsState->SharedT:=ss 549 (λP=>[(3,ns P (en P "__name__" 165 (.str "law_duskbook_k57_pages_refused" 792)) 87 88),(12,ft 201)]) 906
abbrev J9:World->OsState->SharedT:=ss 570 (λP=>[]) 943
def tw(P:Params):Heap:={{upd [] ((al P).take 570)},{}}
abbrev nv(w:World)(os:OsState):Shared:={tw w.params,.mk [],boot_drawn,943,os}
abbrev sz(w:World)(os:OsState):Shared:={boot_heap w.params,.mk [],boot_drawn,boot_toks,os}
def e0:∀w:World,(λos=>topGo treeTable pg w 11 (some (rf 6)) 12 (sz w os) (topStub pg))=λos=>some (s0 w os,{denote treeTable cE,cE,{0,0,0,0},B}):=by
 rw[W.Fast.te15667345088766844465,W.Fast.te14364793385576792824,W.Fast.te11892475500146522536];intro w;kernel_rfl
def e1:∀w:World,(λos=>segRun treeTable pg w 11 (some (rf 6)) 1 1 (s0 w os) (blockOf bd env cE {0,0,0,0} B))=λos=>some (.next,(s1 w os).abs,cE,{0,0,0,0}):=by
 rw[W.Fast.te14374325043358763698,W.Fast.te14364793385576792824];intro w;kernel_rfl
abbrev EK(m:Nat)(s u:World->OsState->SharedT)(i n:Nat)(p q:Pos):Prop:=∀w:World,(λos=>segRunT treeTable pg w 11 (some (rf 6)) 1 m (s w os) (piecesOf (sl i n) env cE p B))=λos=>some (.next,u w os,cE,q)
local macro_rules | `(tactic| and_intros)=>`(tactic| (unfold EK;rw[W.Fast.te10110043849684766642,W.Fast.te14364793385576792824];intro w;kernel_rfl))
def e2:EK 225 s1 s2 0 3 {0,0,0,0} {5,0,6,8}:=by
 and_intros
def e3:EK 214 s2 s3 3 1 {5,0,6,8} {7,0,8,8}:=by
 and_intros
def e4:EK 214 s3 s4 4 1 {7,0,8,8} {9,0,10,8}:=by
 and_intros
def e5:EK 214 s4 s5 5 1 {9,0,10,8} {11,0,12,8}:=by
 and_intros
def e6:EK 214 s5 s6 6 1 {11,0,12,8} {13,0,14,8}:=by
 and_intros
def e7:EK 214 s6 s7 7 1 {13,0,14,8} {15,0,16,8}:=by
 and_intros
def e8:EK 214 s7 s8 8 1 {15,0,16,8} {17,0,18,8}:=by
 and_intros
def e9:EK 214 s8 s9 9 1 {17,0,18,8} {19,0,20,8}:=by
 and_intros
def YV:EK 377 s9 QK 10 10 {19,0,20,8} {38,0,42,33}:=by
 and_intros
def YW:EK 390 QK QL 20 14 {38,0,42,33} {99,0,100,65}:=by
 and_intros
def YX:EK 226 QL QM 34 9 {99,0,100,65} {133,0,139,69}:=by
 and_intros
def YY:EK 416 QM QN 43 1 {133,0,139,69} {140,0,176,16}:=by
 and_intros
def YZ:EK 390 QN QO 44 14 {140,0,176,16} {210,0,212,48}:=by
 unfold EK;rw[W.Fast.te10110043849684766642,W.Fast.te14364793385576792824];show byRow2 "special-get-raises" ?_ ?_<;>(intro w;kernel_rfl)
def Y0:EK 387 QO QP 58 14 {210,0,212,48} {280,0,280,8}:=by
 and_intros
def Y2:EK 369 QP QQ 72 12 {280,0,280,8} {387,0,399,34}:=by
 and_intros
def Y3:EK 104 QQ J9 84 3 {387,0,399,34} {420,0,433,70}:=by
 and_intros
def Y4:∀w:World,(λos=>topRun treeTable pg w 11 (some (rf 6)) 2 (J9 w os).abs {doneF .next,cE,{420,0,433,70},B})=λos=>some (nv w os):=by
 rw[W.Fast.te14082659384304107361,W.Fast.te14364793385576792824];intro w;kernel_rfl
abbrev R(w:World)(os:OsState)(m:Nat)(s:Shared)(t:List Stmt)(p:Pos):Prop:=topRun treeTable pg w 11 (some (rf 6)) m s (restOf t env cE p B)=some (nv w os)
def rk{m M i n:Nat}{s u:World->OsState->SharedT}{T:List Stmt}{p q:Pos}{w:World}{os:OsState}(h:EK m s u i n p q)(r:R w os M (u w os).abs T q):R w os (m+M) (s w os).abs (sl i n++T) p:=piece_app (segRun_of (congrFun (h w) os)) r
def rj{m:Nat}{s:Shared}{T:List Stmt}{p:Pos}{w:World}{os:OsState}(r:R w os m s T p)(h:T=bd):R w os m s bd p:=h ▸ r
def run(w:World)(os:OsState):topRun treeTable pg w 11 (some (rf 6)) (12+(1+(225+(214+(214+(214+(214+(214+(214+(214+(377+(390+(226+(416+(390+(387+(369+(104+2)))))))))))))))))) (sz w os) (topStub pg)=some (nv w os):=
 go_top (congrFun (e0 w) os) (piece_block (congrFun (e1 w) os) (rj (rk e2 (rk e3 (rk e4 (rk e5 (rk e6 (rk e7 (rk e8 (rk e9 (rk YV (rk YW (rk YX (rk YY (rk YZ (rk Y0 (rk Y2 (rk Y3 (show R w os 2 (J9 w os).abs [] {420,0,433,70} from congrFun (Y4 w) os))))))))))))))))) (by kernel_rfl)))
def op:∀w:World,(fencedOpening treeTable pg w 8858).map (λs=>(s.heap,s.gens,s.drawn,s.toks))=some (boot_heap w.params,Array.mk [],boot_drawn,boot_toks):=
 boot_open (by kernel_rfl) (by decide) (λs=>by kernel_rfl)
def size:∀w:World,((boot_heap w.params).isNs mainGlobals&&(Array.mk []:Array GenState).size==0,(boot_heap w.params).objs.size,(boot_heap w.params).nsMap mainGlobals "__annotations__")=(true,11,(some (rf 6))):=by
 rw[W.Fast.te8920871248978507458];intro w;kernel_rfl
noncomputable def ls:AJ:=(["_wall","DuskError","NoBook","NoHands","Over","NoLight","NoneSettled","NoTable","NoPage","NoPaper","KINDS","BEACON_COUNT","MOST_RULES","MOST_SAYINGS","is_beacon","checked_beacon","checked_truth","checked_beacons","either_made","sum_made","if_made","rule_made","book_made","either_holds","sum_holds","if_holds","rule_holds","broken_rules","holds","beacons_in","beacons_of","without","either_left","sum_left","if_left","rule_left","left_behind","HANDS","is_hand","check_hands","Watch","FIGURES","MOST_FIGURES","LETTERS","HANDS_BY_LETTER","TRUTHS_BY_SIGN","TRUTHS_BY_MARK","ODDS_BY_WORD","saying_written","rule_written"]++["signs_written","page_written","number_read","beacon_read","saying_read","hand_read","truth_read","each_read","sum_read","if_read","rule_read","kind_read","hands_read","settled_read","rows_read","watch_made","page_read","_law_cell","_law_mixed","_law_rule","_law_saying_word","_law_rule_words","_law_rows","_law_page","_law_good","_law_places","_law_ends","_law_odd_rule","_law_words","_law_faulty","_law_kinds"]).map Str.ofString
abbrev ob(P:Params)(i:Nat):Obj:=(al P).getD i fl
local macro_rules | `(%[$n | $f])=>`([(nat_lit $(⟨n⟩),$f $n)]) | `(%[$n,$r,* | $f])=>`((nat_lit $(⟨n⟩),$f $n)::%[$r,* | $f])
def K(P:Params):Frag:=%[2,3,30,31,43,44,55,56,67,68,79,80,91,92,103,104,115,116,127,128,131,137,138,144,145,151,152,156,157,161,162,168,169,175,176,182,183,187,188,192,193,197,198,202,203,209,210,214,215,221,222,226,227,233,234,271,277,278,282,283,296,297,303,304,310,311,317,318,324,325,331,332,338,339,341,342,347,348,349,350,351,357,358,362,363,369,370,374,375,379,380,386,387,393,394,400,401,407,408,412,413,419,420,426,427,433,434,440,441,447,448,454,455,459,460,466,467,471,472,478,479,485,486,492,493,499,500,504,505,509,510,514,515,519,520,526,527,533,534,540,541,547,548,554,555,561,562,568,569|ob P]
def hk:Hook:=kHook K (%[2,3,30,31,43,44,55,56,67,68,79,80,91,92,103,104,115,116,127,128,131,137,138,144,145,151,152,156,157,161,162,168,169,175,176,182,183,187,188,192,193,197,198,202,203,209,210,214,215,221,222,226,227,233,234,271,277,278,282,283,296,297,303,304,310,311,317,318,324,325,331,332,338,339,341,342,347,348,349,350,351,357,358,362,363,369,370,374,375,379,380,386,387,393,394,400,401,407,408,412,413,419,420,426,427,433,434,440,441,447,448,454,455,459,460,466,467,471,472,478,479,485,486,492,493,499,500,504,505,509,510,514,515,519,520,526,527,533,534,540,541,547,548,554,555,561,562,568,569|id].map Prod.fst) (λ_=>by kernel_rfl)
def Q:P7:={pg with main:={pg.main with body:=[Lw.top 86]} }
abbrev Xt(s:Shared):Bool:=xlAt Q [] s&&recOk (RowW.records (OpenRow.toRowW PySem.Challenge.rw_duskbook_k57_pages_refused.row)) s
def J_:∀w:World,(λos=>((staticsOk (importedModules pg.main.body) (boot_heap w.params) (tw w.params)&&namesBound pg (tw w.params)&&gensDone (nv w os)&&laidKept (boot_heap w.params) (tw w.params)),openSeen Q ls (importedModules pg.main.body) Xt true (nv w os),Hook.obs hk (nv w os)))=λ_=>(true,openGood Q ls,Hook.val hk w):=by
 intro w;kernel_rfl
def left:LeftO pg Q ls Xt (Hook.obs hk) (Hook.val hk) 8858:=LeftO.of_pieces (H₁:=tw) op size run (by decide) J_
end Op
end
noncomputable def PySem.W.Fast.tw8806033317019877265:PySem.Program:=PySem.Challenge.pw_duskbook_k57_pages_refused
theorem PySem.W.Fast.te8806033317019877265:PySem.Challenge.pw_duskbook_k57_pages_refused=PySem.W.Fast.tw8806033317019877265:=rfl
open PySem PySem.W PyProof.Rows
local macro_rules|`(tactic|ac_rfl)=>`(tactic|first|k_is|kernel_rfl)
theorem PySem.Challenge.cw_duskbook_k57_pages_refused_holds : PySem.Challenge.rw_duskbook_k57_pages_refused.Holds := by
 w_on;o_law
 refine holds_open (q:=Op.Q) (loose:=Op.ls) (Xt:=Op.Xt) (XP:=XL Op.Q []) (Yf:=Hook.obs Op.hk) (Ya:=Hook.val Op.hk) (YP:=InK Op.K) (N:=8858) Op.left (Hook.of Op.hk) (Hook.keeps Op.hk) (λs e=>xl_of s (Bool.and_eq_true_iff.mp e).1) XL.keeps (by rfl) (by rfl) (by rfl) (λs e=>recFacts_of (Bool.and_eq_true_iff.mp e).2) (by rfl) (by assumption) (by decide +kernel) ⟨rfl,rfl,rfl,rfl,rfl,by decide +kernel⟩ ?hw ?hc
 (case hw=>w_witness2)
 k_fill
 refine Lw.walk Lw.law_true (l:=PySem.Challenge.rw_duskbook_k57_pages_refused) rfl rfl (K:=Op.K) (λw h Y=>Y) ?F
 case F=>
  intro w mg fa h KX G hmg
  have bl:Lw.Bl (Op.K w.params) w mg:=by
   constructor
   all_goals (first|exact λC h=>mg_of KX G h|exact⟨_,mg_of KX G (by k_is)⟩|exact⟨by decide +kernel,_,mg_of KX G (by k_is)⟩|exact⟨_,_,_,_,mg_of KX G (by k_is),by k_is,by first|rfl|exact⟨rfl,rfl,rfl⟩,by rfl,by repeat' (first|exact .nil|refine .cons ⟨⟨_,rfl⟩,by decide +kernel⟩ ?_|refine .cons ⟨rfl,⟨_,rfl⟩,⟨_,rfl⟩,by decide +kernel⟩ ?_|refine .cons ⟨rfl,⟨_,rfl⟩,rfl⟩ ?_|refine .cons ⟨rfl,⟨_,rfl⟩⟩ ?_)⟩|exact⟨_,_,_,_,mg_of KX G (by k_is),by decide,by k_is,by exact⟨rfl,rfl,rfl⟩,by rfl,by repeat' (first|exact .nil|refine .cons ⟨⟨_,rfl⟩,by decide +kernel⟩ ?_|refine .cons ⟨rfl,⟨_,rfl⟩,⟨_,rfl⟩,by decide +kernel⟩ ?_|refine .cons ⟨rfl,⟨_,rfl⟩,rfl⟩ ?_|refine .cons ⟨rfl,⟨_,rfl⟩⟩ ?_)⟩|(first|refine' mg_none_of KX G ?_|refine' Lw.Fk.on ?_ KX G|refine' M.Xk.on ?_ KX G|refine' mg_of KX G ?_|skip);first|(refine' M.xk_mk ?a ?b ?c ?d ?e ?f;(case a=>k_is);(case b=>k_is);(case c=>kernel_rfl);(case d=>kernel_rfl);(case e=>kernel_rfl);(case f=>kernel_rfl))|(refine' M.mq_mk ?a ?pg ?hd ?po ?sa ?i ?n ?l ?cd ?k;(case a=>ac_rfl);(case pg=>ac_rfl);(case hd=>ac_rfl);(case po=>ac_rfl);(case sa=>ac_rfl);(case i=>ac_rfl);(case n=>ac_rfl);(case l=>ac_rfl);(case cd=>ac_rfl);(case k=>ac_rfl))|(refine' M.nq_mk ?a ?pg ?hd ?po ?sa ?n;(case a=>ac_rfl);(case pg=>ac_rfl);(case hd=>ac_rfl);(case po=>ac_rfl);(case sa=>ac_rfl);(case n=>ac_rfl))|(refine' M.iqc_mk ?a ?mk ?kc ?i ?n ?l ?cd ?k;(case a=>ac_rfl);(case mk=>ac_rfl);(case kc=>ac_rfl);(case i=>ac_rfl);(case n=>ac_rfl);(case l=>ac_rfl);(case cd=>ac_rfl);(case k=>ac_rfl))|(refine' M.iqz_mk ?a ?mk ?kc ?i ?n ?l ?cd ?d;(case a=>ac_rfl);(case mk=>ac_rfl);(case kc=>ac_rfl);(case i=>ac_rfl);(case n=>ac_rfl);(case l=>ac_rfl);(case cd=>ac_rfl);(case d=>ac_rfl))|(refine' M.kq_mk (mc:=.type "type") ?e ?i ?l ?cd ?k ?s ?r ?g ?h;(case e=>ac_rfl);(case i=>ac_rfl);(case l=>ac_rfl);(case cd=>ac_rfl);(case k=>ac_rfl);(case s=>ac_rfl);(case r=>ac_rfl);(case g=>ac_rfl);(case h=>ac_rfl))|(refine' M.isk_mk ?a ?a0 ?pg ?hd ?po ?sa ?e ?f ?g ?m ?k;(case a=>ac_rfl);(case a0=>ac_rfl);(case pg=>ac_rfl);(case hd=>ac_rfl);(case po=>ac_rfl);(case sa=>ac_rfl);(case e=>ac_rfl);(case f=>ac_rfl);(case g=>ac_rfl);(case m=>ac_rfl);(case k=>ac_rfl))|(refine' Lw.fk_mk ?a ?l ?c ?k;(case a=>k_is);(case l=>k_is);(case c=>k_is);(case k=>k_is))|k_is)
  refine' Lw.all_mk KX G hmg bl ..
  all_goals (try k_is)
