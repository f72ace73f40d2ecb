import PyProof.Rows.All
import Wide.All
import OpenK.AllK
import Wide.FinOn
import Lean
import PyProof.EqAt
import PyProof.EqKinds
import PyProof.TupleCall
import PySem.Challenge.RW_duskbook_k56_pages_read
set_option Elab.async false
set_option linter.all false
set_option maxRecDepth 100000
abbrev fsc(l:List (PySem.Str×PySem.NameKind)):PySem.Scope:={ kind:=.function,names:=l,isGenerator:=false,isCoroutine:=false,more:=[] }
theorem qa{α β:Type _}{o:Option α}{f:α->Option β}{b:β}(h:o.bind f=some b):∃a,o=some a/\f a=some b:=Option.bind_eq_some_iff.mp h
theorem qc{α β:Type _}{o:Option α}{f:α->β}{b:β}(h:o.map f=some b):∃a,o=some a/\f a=b:=Option.map_eq_some_iff.mp h
def qd:=@Option.bind_some
def qe:=@PySem.Heap.get?_push_of_some
def qf:=@List.length_map
def qg:=@List.mem_cons_of_mem
def qh:=@List.mem_cons_self
def qi:=@Bool.false_ne_true
def qj:=@Array.length_toList
def qk:=@List.size_toArray
def ql:=@PySem.Heap.lt_size
def qm:=@Nat.ne_of_lt
theorem qo{α:Type _}{l:List α}{i:Nat}{a:α}(h:l[i]?=some a):∃h:i<l.length,l[i]=a:=List.getElem?_eq_some_iff.mp h
def qp:=@PySem.Heap.get?_push_size
def qq:=@List.getElem?_eq_getElem
def qr:=@List.length_cons
theorem qt{α:Type _}{a b:α}{l:List α}(h:a∈b::l):a=b\/a∈l:=List.mem_cons.mp h
def qu:=@Nat.le_refl
theorem qv{α:Type _}{a:α}{s t:List α}(h:a∈s++t):a∈s\/a∈t:=List.mem_append.mp h
def qw:=@Nat.lt_succ_of_lt
theorem qx{α β:Type _}{b:β}{f:α->β}{l:List α}(h:b∈l.map f):∃a,a∈l/\f a=b:=List.mem_map.mp h
def qy:=@List.length_append
def qz:=@Nat.lt_succ_self
def Qa:=@List.map_cons
def Qb:=@Nat.le_trans
def Qc:=@Nat.lt_of_lt_of_le
def Qd:=@List.map_map
def Qe:=@Bool.and_eq_true
def Qf:=@List.getElem?_set_ne
def Qg:=@List.getElem?_map
def Qh:=@List.mem_append_right
set_option maxHeartbeats 4000000
local macro_rules|`(tactic|trivial)=>`(tactic|first|exact .inl rfl|exact .inr rfl|exact .inr (.inl rfl)|exact .inr (.inr rfl)|assumption)
local macro_rules|`(~~~$x)=>`(($x).heap.objs.size)|`(↑$x)=>`(some (.sh $x))
abbrev AA:=PySem.Value->PySem.Shared->Prop
abbrev AB:=List (PySem.Addr×PySem.Obj)
abbrev AC:=List PySem.Value
abbrev AE:=PySem.Str->Option PySem.Value
abbrev AF:=List Nat
abbrev AG:=List Int
abbrev AH:=List Bool
abbrev AK:=List PySem.Str
abbrev AL:=List PySem.Expr
abbrev AM:=Option Nat
def wa:=@PySem.wpAny_bind
def wc:=@PySem.wpAny_pure
def we:=@PySem.wpAny_holding
def wf:=@PySem.wpAny_call_entry
def wg:=@PySem.wpAny_newObj_type
def wj:=@PySem.wpAny_setState_of
def wm:=@decide_eq_true_eq
def wn:=@decide_eq_true
def wt:=@List.map_append
def wu:=@Function.comp_def
def wv:=@PySem.Heap.SameBut.update
def ww:=@PySem.Heap.size_push
def wx:=@PySem.Heap.get?_update_self
def wy:=@PySem.codeAny_builtin
def wz:=@PySem.wpAny_mono
def w9:=@Option.some.inj
def ja:=@Int.toNat_natCast
def jb:=@List.append_nil
def jc:=@Nat.zero_le
def jd:=@List.append_assoc
def je:=@PySem.plainId_quiet
def jf:=@PySem.Around.under_plainId
def jg:=@PySem.PassesOwn.never
def jh:=@PySem.Obj.data_mapFields
def ji:=@PySem.wpAny_attempt
def jj:=@PySem.sizeLine_eq
noncomputable section
namespace L2
open PySem PySem.Spec PyProof.Rows
abbrev Key:=Sum Int Str
def Yaaw:Key->Value->Bool
 | .inl k,v=>Value.isInt k v
 | .inr x,v=>Value.isStrOf x v
def keyH(w:World):Key->Int
 | .inl k=>hashInt k
 | .inr x=>hashStr w x
theorem Ybe:∀{k:Key}{v:Value},Yaaw k v=true->(∃i t,k=Sum.inl i/\v=Value.int i t)\/(∃x t,k=Sum.inr x/\v=Value.str x t)
 | .inl i,v,h=>by
   obtain⟨t,e⟩:=Value.isInt_shape (k:=i) (v:=v) h;grind
 | .inr x,v,h=>by
   obtain⟨t,e⟩:=Value.isStrOf_shape (x:=x) (v:=v) h;grind
theorem Yaax(a b:Int):decide ((Sum.inl a:Key)=Sum.inl b)=(a==b):=by grind
theorem Yaay(a b:Str):decide ((Sum.inr a:Key)=Sum.inr b)=decide (a=b):=by grind
theorem Yaaz(a:Int)(b:Str):decide ((Sum.inl a:Key)=Sum.inr b)=false:=by grind
theorem Yaa0(a:Str)(b:Int):decide ((Sum.inr a:Key)=Sum.inl b)=false:=by grind
def Yut(prog:Program)(w:World):KeyKind prog w Key where
 is:=Yaaw
 hash:=keyH w
 inj:=λv a b ha hb=>by
  rcases Ybe ha with⟨i,t,rfl,rfl⟩|⟨x,t,rfl,rfl⟩
  ·rcases Ybe hb with⟨j,u,rfl,e⟩|⟨y,u,rfl,e⟩
   ·grind
   grind
  ·rcases Ybe hb with⟨j,u,rfl,e⟩|⟨y,u,rfl,e⟩
   ·grind
   grind
 byValue:=λk v h=>by
  rcases Ybe h with⟨i,t,rfl,rfl⟩|⟨x,t,rfl,rfl⟩<;>rfl
 pyHash:=λhv h=>by
  rcases Ybe hv with⟨i,t,rfl,rfl⟩|⟨x,t,rfl,rfl⟩
  ·exact wpAny_pyHash_int h
  ·exact wpAny_pyHash_str h
 eqBool:=λhu hv h=>by
  rcases Ybe hu with⟨i,t,rfl,rfl⟩|⟨x,t,rfl,rfl⟩
  ·rcases Ybe hv with⟨j,u,rfl,rfl⟩|⟨y,u,rfl,rfl⟩
   ·rw[Yaax]at h;exact wpAny_eqBool_int h
   ·rw[Yaaz]at h;exact SeqAt.EqAt.int_str i t y u _ _ _ _ h
  ·rcases Ybe hv with⟨j,u,rfl,rfl⟩|⟨y,u,rfl,rfl⟩
   ·rw[Yaa0]at h;exact SeqAt.EqAt.str_int x t j u _ _ _ _ h
   ·rw[Yaay]at h;exact wpAny_eqBool_str h
 «strs»:=λk x t v h=>by
  rcases Ybe h with⟨i,u,rfl,e⟩|⟨y,u,rfl,e⟩
  ·grind
  ·injection e with e1 _
   subst e1;cases v<;>rfl
inductive V where
 | non|bl (b:Bool)|int (i:Int)|str (x:Str)|byt (b:Array UInt8)|flt (b:UInt64)|ref (a:Addr)|ty (n:String)
 deriving DecidableEq
abbrev AN:=List V
def RelV:V->Value->Prop
 | .non,u=>u=Value.none
 | .bl b,u=>u=Value.bool b
 | .int i,u=>∃t,u=Value.int i t
 | .str x,u=>∃t,u=Value.str x t
 | .byt b,u=>∃t,u=Value.bytes b t
 | .flt b,u=>∃t,u=Value.float b t
 | .ref a,u=>u=Value.ref a
 | .ty n,u=>u=Value.type n
abbrev Vals:AN->AC->Prop:=Paired RelV
theorem Vals.length(r:Vals xs us):xs.length=us.length:=Paired.length r
theorem Vals.get:∀{xs:AN}{us:AC}{i:Nat}{x:V},Vals xs us->xs[i]?=some x->∃u,us[i]?=some u/\RelV x u
 | _,_,_,_,.nil,e=>by simp at e
 | _,_,0,_,.cons r _,e=>by grind
 | _,_,i+1,x,.cons _ t,e=>by
   obtain⟨u,h1,h2⟩:=Vals.get (i:=i) (x:=x) t (by simpa using e);grind
theorem Vals.set{x:V}{u:Value}(r:RelV x u):∀{xs:AN}{us:AC} (i:Nat),Vals xs us->Vals (xs.set i x) (us.set i u)
 | _,_,_,.nil=>.nil
 | _,_,0,.cons _ t=>.cons r t
 | _,_,i+1,.cons q t=>.cons q (Vals.set r i t)
theorem Vals.append:∀{xs ys:AN}{us ws:AC},Vals xs us->Vals ys ws->Vals (xs++ys) (us++ws)
 | _,_,_,_,.nil,s=>s
 | _,_,_,_,.cons r t,s=>.cons r (Vals.append t s)
theorem Vals.take:∀{xs:AN}{us:AC} (n:Nat),Vals xs us->Vals (xs.take n) (us.take n)
 | _,_,0,_=>.nil
 | _,_,_+1,.nil=>.nil
 | _,_,n+1,.cons r t=>.cons r (Vals.take n t)
theorem Vals.drop:∀{xs:AN}{us:AC} (n:Nat),Vals xs us->Vals (xs.drop n) (us.drop n)
 | _,_,0,r=>r
 | _,_,_+1,.nil=>.nil
 | _,_,n+1,.cons _ t=>Vals.drop n t
def RelO:Option V->Option Value->Prop
 | some v,some u=>RelV v u
 | none,none=>True
 | _,_=>False
def KV{κ:Type}:List (κ×V)->List (κ×Value)->Prop:=Paired fun(p:κ×V) (q:κ×Value)=>p.1=q.1/\RelV p.2 q.2
def kV:Key->V
 | .inl i=>.int i
 | .inr x=>.str x
inductive HO where
 | lst (xs:AN)
 | tup (xs:AN)
 | dK (kvs:List (Key×V))|dT (kvs:List (List Key×V))
 | set (S:Int->Bool) (n:Nat)
 | ins (C dx:Addr) (fs:List (Str×V))
 | own (x:Addr)
 | xd (fs:List (Str×V))
 | met (f x:Addr)
 | rng (lo hi:Int)
 | frz (o:Obj) (u:HO)
 | tbl (ps:Array Value)
 | ext (φ:Heap->Prop)
abbrev Hp:=Addr->Option HO
def upd(H:Hp)(a:Addr)(o:HO):Hp:=λb=>if b=a then some o else H b
theorem Yy:upd H a o a=some o:=by unfold upd;grind
theorem Yx(h:b≠a):upd H a o b=H b:=by unfold upd;rw[if_neg h]
theorem y4{H:Hp}(h:H a=some o)(h':H b=none):a≠b:=by grind
section
variable (P:Program) (w:World)
def ObjOk(H:Hp)(h:Heap)(a:Addr):HO->Prop
 | .lst xs=>xs.length<=sizeLine/\∃(its:AC) (n:Nat),Vals xs its/\h.get? a=some { cls:=.type "list",data:=.seq its.toArray n }
 | .tup xs=>xs.length<=sizeLine/\∃its:AC,Vals xs its/\IsTup h a its.toArray
 | .dK kvs=>kvs.length<=sizeLine/\(a==sysModules)=false/\∃vs,KV kvs vs/\h.DictOf (Yut P w) a vs
 | .dT kvs=>kvs.length<=sizeLine/\(a==sysModules)=false/\∃xs:List (List Key×Addr×Value),
  Paired (fun(p:List Key×V) (q:List Key×Addr×Value)=>p.1=q.1/\H q.2.1=some (.tup (p.1.map kV))/\RelV p.2 q.2.2) kvs xs/\
  ∃o es ep,h.get? a=some o/\o.ExactDict/\o.data=.dict es ep/\es.toList=xs.map (entryOfKey (tupleKind (Yut P w)))/\(xs.map (·.1)).Nodup
 | .set S n=>h.SetOf (intKind P w) a S n
 | .ins C dx fs=>H dx=some (.own a)/\fs.length<=1000/\dx≠a/\h.get? a=some (W.instObj C dx)/\
  ∃mA,h.Ns1 dx mA/\(∀f,RelO (fs.lookup f) (mA f))/\PySem.Within mA (fs.map (·.1))
 | .own _=>∃o,h.get? a=some o
 | .xd fs=>∃mA,h.Ns1 a mA/\∀f,RelO (fs.lookup f) (mA f)
 | .rng lo hi=>∃t u v,h.get? a=some { cls:=.type "range",data:=.fields #[.int lo t,.int hi u,.int 1 v] }
 | .frz o u=>h.get? a=some o/\ObjOk H h a u
 | .tbl ps=>h.get? a=some { cls:=.none,data:=.fields ps }
 | .met f x=>h.get? a=some (W.methodObj (.ref f) (.ref x))
 | .ext φ=>φ h/\(∃o,h.get? a=some o)/\∀h1 h2:Heap,φ h1->(∀o,h1.get? a=some o->h2.get? a=some o)->φ h2
def HOk(H:Hp)(h:Heap):Prop:=∀a o,H a=some o->ObjOk P w H h a o
end
section
variable {P:Program}{w:World}{H H':Hp}{h h':Heap}{a:Addr}{o:HO}
theorem ObjOk.lt(x:ObjOk P w H h a o):a<h.objs.size:=by
 cases o with
 | lst xs=>obtain⟨_,_,_,_,e⟩:=x;exact ql e
 | tup xs=>obtain⟨_,_,_,p⟩:=x;exact p.lt
 | dK kvs=>obtain⟨_,_,_,_,o,_,_,e,_⟩:=x;exact ql e
 | dT kvs=>obtain⟨_,_,_,_,o,_,_,e,_⟩:=x;exact ql e
 | set S n=>obtain⟨o,_,_,_,e,_⟩:=x;exact ql e
 | ins C dx fs=>obtain⟨_,_,_,e,_⟩:=x;exact ql e
 | own y=>obtain⟨_,e⟩:=x;exact ql e
 | xd fs=>obtain⟨_,⟨_,_,_,e,_⟩,_⟩:=x;exact ql e
 | rng lo hi=>obtain⟨_,_,_,e⟩:=x;exact ql e
 | frz ob u=>obtain⟨e,_⟩:=x;exact ql e
 | tbl ps=>exact ql (show h.get? a=some _ from x)
 | met f y=>exact ql (show h.get? a=some _ from x)
 | ext φ=>obtain⟨_,⟨_,e⟩,_⟩:=x;exact ql e
theorem Paired.mapP:∀{l₁:List α}{l₂:List β},Paired F l₁ l₂->(∀a b,F a b->G a b)->Paired G l₁ l₂
 | _,_,.nil,_=>.nil
 | _,_,.cons r t,f=>.cons (f _ _ r) (Paired.mapP t f)
theorem ObjOk.stay(x:ObjOk P w H h a o)(k:∀b u,(b=a\/H b=some (.own a))->h.get? b=some u->h'.get? b=some u)
 (ho:∀b,H b=some (.own a)->H' b=some (.own a)) (ht:∀b xs,H b=some (.tup xs)->H' b=some (.tup xs)):ObjOk P w H' h' a o:=by
 induction o with
 | lst xs=>obtain⟨z,its,n,r,e⟩:=x;exact⟨z,its,n,r,k _ _ (.inl rfl) e⟩
 | tup xs=>obtain⟨z,its,r,ob,e,c⟩:=x;exact⟨z,its,r,ob,k _ _ (.inl rfl) e,c⟩
 | dK kvs=>obtain⟨z,y,vs,r,ob,es,ep,e,c⟩:=x;exact⟨z,y,vs,r,ob,es,ep,k _ _ (.inl rfl) e,c⟩
 | dT kvs=>
   obtain⟨z,y,xs,r,ob,es,ep,e,c⟩:=x;exact⟨z,y,xs,Paired.mapP r λp q z=>⟨z.1,ht _ _ z.2.1,z.2.2⟩,ob,es,ep,k _ _ (.inl rfl) e,c⟩
 | set S n=>obtain⟨ob,es,ep,t,e,c⟩:=x;exact⟨ob,es,ep,t,k _ _ (.inl rfl) e,c⟩
 | ins C dx fs=>
   obtain⟨d,z,ne,e,mA,⟨od,es,ep,e2,c⟩,r⟩:=x;exact⟨ho _ d,z,ne,k _ _ (.inl rfl) e,mA,⟨od,es,ep,k _ _ (.inr d) e2,c⟩,r⟩
 | own y=>obtain⟨ob,e⟩:=x;exact⟨ob,k _ _ (.inl rfl) e⟩
 | xd fs=>obtain⟨mA,⟨od,es,ep,e,c⟩,r⟩:=x;exact⟨mA,⟨od,es,ep,k _ _ (.inl rfl) e,c⟩,r⟩
 | rng lo hi=>obtain⟨t,u,v,e⟩:=x;exact⟨t,u,v,k _ _ (.inl rfl) e⟩
 | frz ob u ih=>obtain⟨e,q⟩:=x;exact⟨k _ _ (.inl rfl) e,ih q⟩
 | tbl ps=>
   have e:h.get? a=some { cls:=.none,data:=.fields ps }:=x;show h'.get? a=some { cls:=.none,data:=.fields ps };grind
 | met f y=>
   have e:h.get? a=some (W.methodObj (.ref f) (.ref y)):=x;show h'.get? a=some (W.methodObj (.ref f) (.ref y));grind
 | ext φ=>obtain⟨p,⟨o,e⟩,st⟩:=x;exact⟨st _ _ p λo q=>k _ _ (.inl rfl) q,⟨o,k _ _ (.inl rfl) e⟩,st⟩
theorem HOk.lt(x:HOk P w H h)(e:H a=some o):a<h.objs.size:=(x a o e).lt
theorem HOk.fresh(x:HOk P w H h)(e:h.objs.size<=a):H a=none:=by
 cases q:H a with
 | none=>rfl
 | some u=>exact absurd (Qc (x.lt q) e) (Nat.lt_irrefl _)
theorem HOk.kept(x:HOk P w H h)(k:∀b u,h.get? b=some u->h'.get? b=some u):HOk P w H h':=λa o e=>
 (x a o e).stay (λb u _ q=>k b u q) (λ_ q=>q) λ_ _ q=>q
theorem HOk.laid(x:HOk P w H h)(k:∀b u,h.get? b=some u->h'.get? b=some u)(hp:h.objs.size<=a)(new:ObjOk P w (upd H a o) h' a o):HOk P w (upd H a o) h':=λb u e=>by
 have hn:=x.fresh hp;by_cases hb:b=a
 ·subst hb;rw[Yy]at e;grind
 ·rw[Yx hb]at e
  exact(x b u e).stay (λc v _ q=>k c v q) (λc q=>by rw[Yx (y4 q hn)];exact q) λc xs q=>by rw[Yx (y4 q hn)];exact q
end
def Rd(H:Hp)(a:Addr)(u:HO):Prop:=H a=some u\/∃o,H a=some (.frz o u)
theorem Rd.ok(r:Rd H a u)(x:HOk P w H h):ObjOk P w H h a u:=by
 rcases r with r|⟨o,r⟩
 ·exact x a u r
 ·obtain⟨_,q⟩:=x a _ r
  exact q
def Mut:Option HO->Prop
 | some (.lst _)=>True
 | some (.dK _)=>True
 | some (.dT _)=>True
 | some (.set _ _)=>True
 | some (.ins _ _ _)=>True
 | some (.ext _)=>True
 | _=>False
section
variable {P:Program}{w:World}{H:Hp}{h h':Heap}{x e:Addr}{o':HO}
theorem HOk.write(ok:HOk P w H h)(mu:Mut (H x))(he:e=x\/H e=some (.own x))(k:∀b u,b≠e->h.get? b=some u->h'.get? b=some u)(heo:∃u,h'.get? e=some u)
 (new:ObjOk P w (upd H x o') h' x o'):HOk P w (upd H x o') h':=λb u q=>by
 have nown:∀c y,H c=some (.own y)->c≠x:=λc y r z=>by subst z;rw[r]at mu;exact mu
 have ntup:∀c xs,H c=some (.tup xs)->c≠x:=λc xs r z=>by subst z;rw[r]at mu;exact mu
 by_cases hb:b=x
 ·subst hb;rw[Yy]at q;grind
 ·rw[Yx hb]at q
  by_cases hbe:b=e
  ·have q':H b=some (.own x):=by
    grind
   rw[q]at q';cases q';obtain⟨v,hv⟩:=heo;exact⟨v,by grind⟩
  ·refine(ok b u q).stay (λc v hc r=>k c v ?_ r) (λc r=>by rw[Yx (nown c b r)];exact r) λc xs r=>by rw[Yx (ntup c xs r)];exact r
   grind
end
structure Un(fs ex:List Addr)(H H':Hp)(h h':Heap):Prop where
 keep:∀b o,h.get? b=some o->H b=none->b∉fs->b∉ex->h'.get? b=some o
 slot:∀b o,h.get? b=some o->H b=none->b∈fs->b∉ex->∃sl,h'.get? b=some { o with slots:=sl }
 free:∀b o,h.get? b=some o->H b=none->b∉ex->H' b=none
 there:∀b o,h.get? b=some o->b∉ex->∃o',h'.get? b=some o'
 tups:∀b xs,H b=some (.tup xs)->H' b=some (.tup xs)
 frzs:∀b o u,H b=some (.frz o u)->H' b=some (.frz o u)
 tbls:∀b ps,H b=some (.tbl ps)->∃more,H' b=some (.tbl (ps++more))
section
variable {fs fs' ex ex':List Addr}{H H1 H2:Hp}{h h1 h2 h':Heap}{a x e:Addr}{o:HO}
theorem Un.any(u:Un fs ex H H1 h h1)(q:h.get? b=some ob)(n:H b=none)(hx:b∉ex):∃sl,h1.get? b=some { ob with slots:=sl }:=by
 by_cases hb:b∈fs
 ·exact u.slot b ob q n hb hx
 ·exact⟨ob.slots,u.keep b ob q n hb hx⟩
theorem Un.kept(k:∀b u,h.get? b=some u->h'.get? b=some u):Un fs ex H H h h':=
 ⟨λb ob q _ _ _=>k b ob q,λb ob q _ _ _=>⟨ob.slots,k b ob q⟩,λ_ _ _ n _=>n,λb ob q _=>⟨ob,k b ob q⟩,λ_ _ q=>q,λ_ _ _ q=>q,λ_ ps q=>⟨#[],by rw[q];simp⟩⟩
theorem Un.refl:Un fs ex H H h h:=Un.kept λ_ _ q=>q
theorem Un.laid(k:∀b u,h.get? b=some u->h'.get? b=some u)(hp:h.objs.size<=a)(hn:H a=none):Un fs ex H (upd H a o) h h' where
 keep:=λb u q _ _ _=>k b u q
 slot:=λb u q _ _ _=>⟨u.slots,k b u q⟩
 free:=λb u q n _=>by rw[Yx (qm (Qc (ql q) hp))];exact n
 there:=λb u q _=>⟨u,k b u q⟩
 tups:=λb xs q=>by rw[Yx (y4 q hn)];exact q
 frzs:=λb u xs q=>by rw[Yx (y4 q hn)];exact q
 tbls:=λb ps q=>⟨#[],by rw[Yx (y4 q hn),q];simp⟩
theorem Un.write(mu:Mut (H x))(he:e=x\/H e=some (.own x))(k:∀b u,b≠e->h.get? b=some u->h'.get? b=some u)(heo:∃u,h'.get? e=some u):Un fs ex H (upd H x o) h h':=by
 have hx:∀b,H b=none->b≠x:=λb n z=>by subst z;rw[n]at mu;exact mu
 have hb:∀b,H b=none->b≠e:=λb n z=>by
  grind
 have hm:∀b u,H b=some u->¬Mut (some u)->b≠x:=λb u q nm z=>by grind
 refine⟨λb u q n _ _=>k b u (hb b n) q,λb u q n _ _=>⟨u.slots,k b u (hb b n) q⟩,λb u q n _=>by rw[Yx (hx b n)];exact n,λb u q _=>?_,
  λb xs q=>by rw[Yx (hm b _ q λz=>z)];exact q,λb u xs q=>by rw[Yx (hm b _ q λz=>z)];exact q,λb ps q=>⟨#[],by rw[Yx (hm b _ q λz=>z),q];simp⟩⟩
 grind
end
def trk(h:Heap)(H:Hp):List Addr:=(List.range h.objs.size).filter λa=>(H a).isSome
def hidT(h:Heap)(H:Hp):Heap:=W.hideAll h (trk h H)
theorem Yz7(h:Heap)(H:Hp):(hidT h H).objs.size=h.objs.size:=W.hideAll_size _ _
theorem y38(e:h.get? b=some o)(n:H b=none):(hidT h H).get? b=some o:=
 W.hideAll_get _ e λhm=>by
  have q:(H b).isSome=true:=(List.mem_filter.mp hm).2;grind
theorem y7y(e:(hidT h H).get? b=some o):h.get? b=some o/\H b=none:=by
 have e':h.get? b=some o:=W.of_hideAll (trk h H) e;refine⟨e',?_⟩
 cases q:H b with
 | none=>rfl
 | some x=>
   have hm:b∈trk h H:=List.mem_filter.mpr ⟨List.mem_range.mpr (ql e'),by simp[q]⟩;have z:(hidT h H).get? b=none:=W.hideAll_none (trk h H) hm;grind
structure Mod(K:W.Frag)(mg:AE)(base:Heap):Prop where
 kin:K.In base
 glob:base.Ns mainGlobals mg
 blt:∃mb,base.Ns builtinsNs mb/\∀x:Str,x≠"__name__"->mb x=bootBuiltins x
 nolimit:base.NoLimit
structure Cx where
 prog:Program
 w:World
 K:W.Frag
 mg:AE
 base:Heap
 A:Around
 N:AK
 s₀:Shared
 H₀:Hp
 env:Env
 outer:List Env
 stack:List Env
 ex:List Addr
 fn:Str->Bool
 calm:Bool
 pn:AB
 xe:AA
def frs(l:List Env):List Addr:=l.filterMap (·.frame)
abbrev Cx.fs(X:Cx):List Addr:=frs X.outer
def Vis(sc:Scope)(x:Str):Prop:=sc.names.lookup x=some .local\/sc.names.lookup x=some .cell\/sc.names.lookup x=some .free
def Loc(sc:Scope)(x:Str):Prop:=sc.names.lookup x=some .local\/sc.names.lookup x=some .cell
def Look(env:Env)(h:Heap)(m:AE)(x:Str)(u:Value):Prop:=
 (env.kindOf x=some .local/\m x=some u)\/((env.kindOf x=some .cell\/env.kindOf x=some .free)/\∃c,env.cells.lookup x=some c/\h.IsCell c (some u))
structure Cx.Ok(X:Cx):Prop where
 mod:Mod X.K X.mg X.base
 kind:X.env.scope.kind=.function
 glob:X.env.globals=mainGlobals
 blt:X.env.builtins=builtinsNs
 above:X.s₀.heap.objs.size<=X.env.locals
 inj:∀x y c,X.env.cells.lookup x=some c->X.env.cells.lookup y=some c->x=y
 has:∀x,(X.env.kindOf x=some .cell\/X.env.kindOf x=some .free)->∃c,X.env.cells.lookup x=some c
 cab:∀x c,X.fn x=true->X.env.cells.lookup x=some c->X.s₀.heap.objs.size<=c
 hd:X.calm=true->X.A.handled=none
 frames:X.A.frames=some X.stack
 stk:X.stack=X.outer\/(X.stack=X.env::X.outer/\X.env.frame=some X.env.locals)
 exf:∀b∈X.ex,b≠X.env.locals/\∀x c,X.env.cells.lookup x=some c->c≠b
 bs:∀b o,X.base.get? b=some o->X.s₀.heap.get? b=some o/\X.H₀ b=none
 bsz:X.base.objs.size<=X.s₀.heap.objs.size
 noex:∀b o,X.base.get? b=some o->b∉X.ex
 exfs:∀b∈X.ex,b∉X.fs
 funs:X.s₀.heap.FunFrames X.base X.outer
 frf:∀b∈X.fs,X.H₀ b=none
structure Inv(X:Cx)(pins:AB)(σ:List (Option V))(H:Hp)(s:Shared):Prop where
 ok:X.Ok
 os:s.os=X.s₀.os
 bare:AllBare s.gens
 base:Un X.fs X.ex X.H₀ H X.s₀.heap s.heap
 loc:∃m,s.heap.Ns X.env.locals m/\∀(i:Nat) (x:Str) (v:V),X.N[i]?=some x->σ[i]?=some (some v)->Vis X.env.scope x->∃u,RelV v u/\Look X.env s.heap m x u
 cell:∀x c,X.env.cells.lookup x=some c->∃v,s.heap.IsCell c v
 free:H X.env.locals=none
 freeC:∀x c,X.env.cells.lookup x=some c->H c=none
 pin:∀p∈X.pn++pins,s.heap.get? p.1=some p.2/\H p.1=none/\p.1≠X.env.locals/\p.1∉X.fs/\∀v,p.2.data≠.cell v
 hok:HOk X.prog X.w H s.heap
 len:σ.length=X.N.length
section
variable {X:Cx}{pins:AB}{σ:List (Option V)}{H H':Hp}{s:Shared}{h':Heap}
theorem Cx.Ok.nofr(ok:X.Ok)(e:X.base.get? b=some o):b∉X.fs:=λhb=>by
 have:=(ok.funs.mem hb).1;grind
theorem Inv.bs(I:Inv X pins σ H s):∀b o,X.base.get? b=some o->s.heap.get? b=some o/\H b=none:=λb o e=>
 ⟨I.base.keep b o (I.ok.bs b o e).1 (I.ok.bs b o e).2 (I.ok.nofr e) (I.ok.noex b o e),I.base.free b o (I.ok.bs b o e).1 (I.ok.bs b o e).2 (I.ok.noex b o e)⟩
theorem Inv.bk(I:Inv X pins σ H s):∀b o,X.base.get? b=some o->s.heap.get? b=some o:=λb o e=>(I.bs b o e).1
theorem Inv.mod(I:Inv X pins σ H s):Mod X.K X.mg X.base:=I.ok.mod
theorem Inv.kIn(I:Inv X pins σ H s):X.K.In s.heap:=I.ok.mod.kin.keeps I.bk
theorem Inv.lt(I:Inv X pins σ H s):X.env.locals< ~~~s:=let ⟨_,hn,_⟩:=I.loc;hn.lt
theorem Inv.sz(I:Inv X pins σ H s):X.s₀.heap.objs.size<= ~~~s:=Qb I.ok.above (Nat.le_of_lt I.lt)
theorem Inv.nofs(I:Inv X pins σ H s){a:Addr}(h:(~~~s)<=a):a∉X.fs:=λhb=>by
 obtain⟨_,o,ho,_⟩:=I.ok.funs.mem hb;exact absurd (Qc (ql ho) (Qb I.sz h)) (Nat.lt_irrefl _)
theorem Inv.cne(I:Inv X pins σ H s):∀x c,X.env.cells.lookup x=some c->c≠X.env.locals:=λx c e z=>by
 obtain⟨v,o,ho,hd⟩:=I.cell x c e;obtain⟨m,⟨o',es,ep,ho',hd',_⟩,_⟩:=I.loc;grind
theorem Inv.funs(I:Inv X pins σ H s):s.heap.FunFrames X.base X.outer:=by
 have all:∀(l:List Env),(∀b∈frs l,b∈X.fs)->X.s₀.heap.FunFrames X.base l->s.heap.FunFrames X.base l:=by
  intro l
  induction l with
  | nil=>intro _ _;trivial
  | cons env r ih=>
    intro hs hl;obtain⟨hk,⟨L,o,hf,hn,ho,hd⟩,hr⟩:=hl;have hL:L∈X.fs:=hs L (by unfold frs;grind);obtain⟨sl,e⟩:=I.base.slot L o ho (I.ok.frf L hL) hL λz=>I.ok.exfs L z hL;exact⟨hk,⟨L,_,hf,hn,e,hd⟩,ih (λb hb=>hs b (by unfold frs;rw[List.filterMap_cons,hf];exact qg _ hb)) hr⟩
 exact all X.outer (λ_ hb=>hb) I.ok.funs
theorem Inv.stack(I:Inv X pins σ H s):s.heap.FunFrames X.base X.stack:=by
 rcases I.ok.stk with e|⟨e,hf⟩
 ·rw[e];exact I.funs
 ·rw[e]
  obtain⟨m,hn,_⟩:=I.loc;refine .cons (by rw[I.ok.kind];decide) hf hn ?_ I.funs;exact Heap.get?_none_of_le (Qb I.ok.bsz I.ok.above)
theorem Inv.stkSub(I:Inv X pins σ H s):∀b∈frs X.stack,b∈X.env.locals::X.fs:=λb hb=>by
 rcases I.ok.stk with e|⟨e,hf⟩
 ·grind
 ·rw[e]at hb
  unfold frs at hb;rw[List.filterMap_cons,hf]at hb;exact hb
theorem Inv.stkFree(I:Inv X pins σ H s):∀b∈frs X.stack,H b=none:=λb hb=>by
 rcases qt (I.stkSub b hb)with e|hb
 ·rw[e];exact I.free
 ·obtain⟨_,o,ho,_⟩:=I.ok.funs.mem hb
  exact I.base.free b o ho (I.ok.frf b hb) λz=>I.ok.exfs b z hb
theorem Inv.step{ch:List Addr}(I:Inv X pins σ H s)
 (hch:∀b∈ch,(b∈X.ex\/X.s₀.heap.objs.size<=b)/\b≠X.env.locals/\(∀x c,X.env.cells.lookup x=some c->c≠b)/\∀p∈X.pn++pins,p.1≠b)
 (keep:∀b o,b≠X.env.locals->b∉X.fs->b∉ch->s.heap.get? b=some o->H b=none->h'.get? b=some o)
 (slot:∀b o,b≠X.env.locals->b∈X.fs->b∉ch->s.heap.get? b=some o->H b=none->∃sl,h'.get? b=some { o with slots:=sl }) (free:∀b o,b∉ch->s.heap.get? b=some o->H b=none->H' b=none)
 (there:∀b o,b∉ch->s.heap.get? b=some o->∃o',h'.get? b=some o')
 (tups:∀b xs,H b=some (.tup xs)->H' b=some (.tup xs)) (frzs:∀b o u,H b=some (.frz o u)->H' b=some (.frz o u)) (tbls:∀b ps,H b=some (.tbl ps)->∃more,H' b=some (.tbl (ps++more)))
 (ns:∀m,s.heap.Ns X.env.locals m->h'.Ns X.env.locals m) (hok:HOk X.prog X.w H' h') (hg:AllBare g') :
 Inv X pins σ H' { s with heap:=h',gens:=g',drawn:=d',toks:=t' }:=by
 have neL:∀b o,X.s₀.heap.get? b=some o->b≠X.env.locals:=λb o e=>qm (Qc (ql e) I.ok.above)
 have neC:∀b o,X.s₀.heap.get? b=some o->b∉X.ex->b∉ch:=λb o e hx hb=>by
  rcases(hch b hb).1 with z|z
  ·exact hx z
  ·exact absurd (Qc (ql e) z) (Nat.lt_irrefl _)
 have cellK:∀x c,X.env.cells.lookup x=some c->∀v,s.heap.IsCell c v->h'.IsCell c v:=λx c e v hx_=>by
  obtain⟨o,ho,hd⟩:=hx_;have nch:c∉ch:=λz=>(hch c z).2.2.1 x c e rfl;by_cases hc:c∈X.fs
  ·obtain⟨sl,q⟩:=slot c o (I.cne x c e) hc nch ho (I.freeC x c e)
   exact⟨_,q,hd⟩
  ·exact⟨o,keep c o (I.cne x c e) hc nch ho (I.freeC x c e),hd⟩
 refine⟨I.ok,I.os,hg,⟨λb o e n hb hx=>?_,λb o e n hb hx=>?_,λb o e n hx=>?_,λb o e hx=>?_,λb xs e=>tups b xs (I.base.tups b xs e),λb o xs e=>frzs b o xs (I.base.frzs b o xs e),λb ps e=>?_⟩,?_,λx c e=>?_,?_,λx c e=>?_,λp hp=>?_,hok,I.len⟩
 ·exact keep b o (neL b o e) hb (neC b o e hx) (I.base.keep b o e n hb hx) (I.base.free b o e n hx)
 ·obtain⟨sl,e1⟩:=I.base.slot b o e n hb hx
  obtain⟨sl',e2⟩:=slot b _ (neL b o e) hb (neC b o e hx) e1 (I.base.free b o e n hx);grind
 ·obtain⟨o',e1⟩:=I.base.there b o e hx
  exact free b o' (neC b o e hx) e1 (I.base.free b o e n hx)
 ·obtain⟨o',e1⟩:=I.base.there b o e hx
  grind
 ·obtain⟨m1,e1⟩:=I.base.tbls b ps e
  grind
 ·obtain⟨m,hn,hl⟩:=I.loc
  refine⟨m,ns m hn,λi x v e1 e2 e3=>?_⟩;obtain⟨u,r,l⟩:=hl i x v e1 e2 e3;refine⟨u,r,?_⟩;rcases l with l|⟨k,c,e,z⟩
  ·exact .inl l
  ·exact .inr ⟨k,c,e,cellK x c e _ z⟩
 ·obtain⟨v,z⟩:=I.cell x c e
  grind
 ·obtain⟨m,⟨o,_,_,ho,_⟩,_⟩:=I.loc
  exact free _ o (λz=>(hch _ z).2.1 rfl) ho I.free
 ·obtain⟨v,o,ho,hd⟩:=I.cell x c e
  exact free c o (λz=>(hch c z).2.2.1 x c e rfl) ho (I.freeC x c e)
 ·obtain⟨e,n,ne,nf,d⟩:=I.pin p hp
  grind
theorem Inv.un(I:Inv X pins σ H s)(u:Un X.fs [] H H' s.heap h')(hok:HOk X.prog X.w H' h'):Inv X pins σ H' { s with heap:=h',toks:=t' }:=by
 obtain⟨m,⟨o,es,ep,ho,r⟩,_⟩:=id I.loc;obtain⟨sl,hL⟩:=u.any ho I.free (by simp)
 exact I.step (g':=s.gens) (d':=s.drawn) (ch:=[]) (λ_ z=>nomatch z) (λb o _ hb _ e n=>u.keep b o e n hb (by simp)) (λb o _ hb _ e n=>u.slot b o e n hb (by simp)) (λb o _ e n=>u.free b o e n (by simp)) (λb o _ e=>u.there b o e (by simp)) u.tups u.frzs u.tbls (λm' hm=>by
  obtain⟨o',es',ep',ho',r'⟩:=hm;rw[ho]at ho';cases ho'
  exact⟨_,es',ep',hL,r'⟩) hok I.bare
theorem Inv.call(I:Inv X pins σ H s)(u:Un (frs X.stack) ch H H' s.heap h')(hok:HOk X.prog X.w H' h')(hg:AllBare g')
 (hch:∀b∈ch,(b∈X.ex\/X.s₀.heap.objs.size<=b)/\b≠X.env.locals/\(∀x c,X.env.cells.lookup x=some c->c≠b)/\∀p∈X.pn++pins,p.1≠b) :
 Inv X pins σ H' { s with heap:=h',gens:=g',drawn:=d',toks:=t' }:=by
 obtain⟨m,⟨o,es,ep,ho,r⟩,_⟩:=id I.loc;obtain⟨sl,hL⟩:=u.any ho I.free λz=>(hch _ z).2.1 rfl
 exact I.step (ch:=ch) hch (λb o hL hb hc e n=>u.keep b o e n (λz=>(qt (I.stkSub b z)).elim hL hb) hc) (λb o _ _ hc e n=>u.any e n hc) (λb o hc e n=>u.free b o e n hc) (λb o hc e=>u.there b o e hc) u.tups u.frzs u.tbls (λm' hm=>by
  obtain⟨o',es',ep',ho',r'⟩:=hm;rw[ho]at ho';cases ho'
  exact⟨_,es',ep',hL,r'⟩) hok hg
theorem Inv.turned(I:Inv X pins σ H s)(k:∀b o,b≠it->s.heap.get? b=some o->h'.get? b=some o)(hn:H it=none)(hL:it≠X.env.locals)
 (h1:it∈X.ex\/X.s₀.heap.objs.size<=it) (h2:∀x c,X.env.cells.lookup x=some c->c≠it) (h3:∀p∈X.pn++pins,p.1≠it):Inv X pins σ H { s with heap:=h',toks:=t' }:=by
 have nit:∀b u,H b=some u->b≠it:=λb u e z=>by grind
 refine I.step (g':=s.gens) (d':=s.drawn) (ch:=[it]) (λb hb=>?_) (λb o _ _ hc e _=>k b o (λz=>hc (by simp[z])) e) (λb o _ _ hc e _=>⟨o.slots,k b o (λz=>hc (by simp[z])) e⟩) (λ_ _ _ _ n=>n)
  (λb o hc e=>⟨o,k b o (λz=>hc (by simp[z])) e⟩) (λ_ _ e=>e) (λ_ _ _ e=>e) (λb ps e=>⟨#[],by rw[e];simp⟩) (λm hm=>?_) (λb u e=>?_) I.bare
 ·grind
 ·obtain⟨o,es,ep,ho,r⟩:=hm
  exact⟨o,es,ep,k _ o (Ne.symm hL) ho,r⟩
 ·refine(I.hok b u e).stay (λc v hc q=>k c v ?_ q) (λ_ q=>q) λ_ _ q=>q
  grind
theorem Inv.tok(I:Inv X pins σ H s)(t:Nat):Inv X pins σ H { s with toks:=t }:=I.un (h':=s.heap) (t':=t) Un.refl I.hok
theorem Inv.kept(I:Inv X pins σ H s)(k:∀b u,s.heap.get? b=some u->h'.get? b=some u):Inv X pins σ H { s with heap:=h',toks:=t' }:=I.un (Un.kept k) (I.hok.kept k)
theorem Inv.laid{a:Addr}(I:Inv X pins σ H s)(k:∀b u,s.heap.get? b=some u->h'.get? b=some u)(hp:(~~~s)<=a)(new:ObjOk X.prog X.w (upd H a o) h' a o) :
 Inv X pins σ (upd H a o) { s with heap:=h',toks:=t' }:=I.un (Un.laid k hp (I.hok.fresh hp)) (I.hok.laid k hp new)
theorem Inv.write(I:Inv X pins σ H s)(mu:Mut (H x))(he:e=x\/H e=some (.own x))(k:∀b u,b≠e->s.heap.get? b=some u->h'.get? b=some u)(heo:∃u,h'.get? e=some u)
 (new:ObjOk X.prog X.w (upd H x o) h' x o):Inv X pins σ (upd H x o) { s with heap:=h',toks:=t' }:=I.un (Un.write mu he k heo) (I.hok.write mu he k heo new)
theorem Inv.pins_of(I:Inv X pins σ H s)(h:∀p∈pins',s.heap.get? p.1=some p.2/\H p.1=none/\p.1≠X.env.locals/\p.1∉X.fs/\∀v,p.2.data≠.cell v):Inv X pins' σ H s:=
 ⟨I.ok,I.os,I.bare,I.base,I.loc,I.cell,I.free,I.freeC,λp hp=>(qv hp).elim (λz=>I.pin p (List.mem_append_left _ z)) (h p),I.hok,I.len⟩
theorem Ywv{N:AK}(hN:N.Nodup){i j:Nat}(a:N[i]?=some x)(b:N[j]?=some x):i=j:=by
 obtain⟨h1,e1⟩:=qo a;obtain⟨h2,e2⟩:=qo b;exact(List.getElem_inj hN).mp (e1.trans e2.symm)
theorem Ysk(I:Inv X pins σ H s)(hN:X.N.Nodup)(hi:X.N[i]?=some x)(hx:Loc X.env.scope x)(r:RelV v u)
 (h:∀s',Inv X pins (σ.set i (some v)) H s'->(∃a,Heap.SameBut a s.heap s'.heap/\(a=X.env.locals\/X.env.cells.lookup x=some a))->Q () s') (hf:X.fn x=true\/X.env.scope.names.lookup x=some .local:=by trivial):wpAny M A (storeName X.env x u) Q E s:=by
 obtain⟨m,hn,hl⟩:=id I.loc
 have hcls:(X.env.scope.kind==.class||(X.env.scope.kind==.module&&X.env.locals != X.env.globals))=false:=by rw[I.ok.kind];rfl
 have hiσ:i<σ.length:=by rw[I.len];grind
 have cne:=I.cne
 have tracked:∀{a:Addr}{h':Heap},(∃o,s.heap.get? a=some o/\H a=none)->Heap.SameBut a s.heap h'->HOk X.prog X.w H h':=λ{a h'} ha hs b ob e=>by
  obtain⟨_,_,hfree⟩:=ha;refine(I.hok b ob e).stay (λc w' hc q=>(hs.2 c ?_).trans q) (λ_ q=>q) λ_ _ q=>q;grind
 rcases hx with hk|hk
 ·refine wpAny_storeName_local hk hn (λh' hn' hs=>?_) hcls
  obtain⟨oL,_,_,hoL,_⟩:=id hn;refine h _ ⟨I.ok,I.os,I.bare,⟨λb o e n hb hx=>?_,λb o e n hb hx=>?_,I.base.free,λb o e hx=>?_,I.base.tups,I.base.frzs,I.base.tbls⟩,⟨_,hn',λj y v' e1 e2 e3=>?_⟩,λy c e=>?_,I.free,I.freeC,λp hp=>?_,tracked ⟨oL,hoL,I.free⟩ hs,by simpa using I.len⟩ ⟨_,hs,.inl rfl⟩
  ·exact(hs.2 b (qm (Qc (ql e) I.ok.above))).trans (I.base.keep b o e n hb hx)
  ·obtain⟨sl,e1⟩:=I.base.slot b o e n hb hx
   exact⟨sl,(hs.2 b (qm (Qc (ql e) I.ok.above))).trans e1⟩
  ·obtain⟨o',e1⟩:=I.base.there b o e hx
   exact⟨o',(hs.2 b (qm (Qc (ql e) I.ok.above))).trans e1⟩
  ·by_cases hj:j=i
   ·subst hj
    rw[hi]at e1;cases e1;rw[List.getElem?_set_self hiσ]at e2;cases e2;exact⟨u,r,.inl ⟨hk,by simp⟩⟩
   ·rw[Qf (Ne.symm hj)]at e2
    obtain⟨u',r',q⟩:=hl j y v' e1 e2 e3;refine⟨u',r',?_⟩;rcases q with⟨k,e⟩|⟨k,c,e,z⟩
    ·refine .inl ⟨k,?_⟩
     have:y≠x:=λe=>hj (Ywv hN e1 (e ▸ hi));grind
    ·exact .inr ⟨k,c,e,z.sameBut hs (cne y c e)⟩
  ·obtain⟨w',z⟩:=I.cell y c e
   exact⟨w',z.sameBut hs (cne y c e)⟩
  ·obtain⟨e,n,ne,nf,d⟩:=I.pin p hp
   exact⟨(hs.2 p.1 ne).trans e,n,ne,nf,d⟩
 ·have hfn:X.fn x=true:=by
   grind
  obtain⟨c,hc⟩:=I.ok.has x (.inl hk);obtain⟨w',z⟩:=I.cell x c hc;refine wpAny_storeName_cell I.ok.kind hk hc z (λh' hc' hs=>?_);obtain⟨oc,hoc,hocd⟩:=id z;refine h { s with heap:=h' } ⟨I.ok,I.os,I.bare,⟨λb o e n hb hx=>?_,λb o e n hb hx=>?_,I.base.free,λb o e hx=>?_,I.base.tups,I.base.frzs,I.base.tbls⟩,⟨m,hn.sameBut hs (Ne.symm (cne x c hc)),λj y v' e1 e2 e3=>?_⟩,λy c' e=>?_,I.free,I.freeC,λp hp=>?_,tracked ⟨oc,hoc,I.freeC x c hc⟩ hs,by simpa using I.len⟩ ⟨c,hs,.inr hc⟩
  ·exact(hs.2 b (qm (Qc (ql e) (I.ok.cab x c hfn hc)))).trans (I.base.keep b o e n hb hx)
  ·obtain⟨sl,e1⟩:=I.base.slot b o e n hb hx
   exact⟨sl,(hs.2 b (qm (Qc (ql e) (I.ok.cab x c hfn hc)))).trans e1⟩
  ·obtain⟨o',e1⟩:=I.base.there b o e hx
   exact⟨o',(hs.2 b (qm (Qc (ql e) (I.ok.cab x c hfn hc)))).trans e1⟩
  ·by_cases hj:j=i
   ·subst hj
    rw[hi]at e1;cases e1;rw[List.getElem?_set_self hiσ]at e2;cases e2;exact⟨u,r,.inr ⟨.inl hk,c,hc,hc'⟩⟩
   ·rw[Qf (Ne.symm hj)]at e2
    obtain⟨u',r',q⟩:=hl j y v' e1 e2 e3;refine⟨u',r',?_⟩;rcases q with q|⟨k,c',e,z'⟩
    ·exact .inl q
    ·refine .inr ⟨k,c',e,z'.sameBut hs ?_⟩
     rintro rfl;exact hj (Ywv hN e1 (I.ok.inj _ _ _ e hc ▸ hi))
  ·by_cases hcc:c'=c
   ·grind
   ·obtain⟨w2,z2⟩:=I.cell y c' e
    exact⟨w2,z2.sameBut hs hcc⟩
  ·obtain⟨e,n,ne,nf,d⟩:=I.pin p hp
   refine⟨(hs.2 p.1 ?_).trans e,n,ne,nf,d⟩;grind
theorem Yww(I:Inv X pins σ H s)(hN:X.N.Nodup)(hi:X.N[i]?=some x)(hx:Loc X.env.scope x)(r:RelV v u)
 (h:∀s',Inv X pins (σ.set i (some v)) H s'->Q () s') (hf:X.fn x=true\/X.env.scope.names.lookup x=some .local:=by trivial):wpAny M A (storeName X.env x u) Q E s:=
 Ysk I hN hi hx r (λs' I' _=>h s' I') hf
theorem Inv.call'(I:Inv X pins σ H s)(ho:s'.os=s.os)(u:Un (frs X.stack) ch H H' s.heap s'.heap)(hok:HOk X.prog X.w H' s'.heap)(hg:AllBare s'.gens)
 (hch:∀b∈ch,(b∈X.ex\/X.s₀.heap.objs.size<=b)/\b≠X.env.locals/\(∀x c,X.env.cells.lookup x=some c->c≠b)/\∀p∈X.pn++pins,p.1≠b):Inv X pins σ H' s':=by
 obtain⟨h',g',d',t',o'⟩:=s';have e:o'=s.os:=ho;subst e;exact I.call (g':=g') (t':=t') (d':=d') u hok hg hch
end
abbrev XK:=Value->Option Addr->Hp->Prop
abbrev St:=List (Option V)
abbrev VK:=V->Hp->Prop
abbrev TE:=St->Hp->VK->Prop
abbrev TT:=St->Hp->(Bool->Hp->Prop)->Prop
abbrev TA:=St->Hp->(AN->Hp->Prop)->Prop
structure Ends where
 nx:St->Hp->Prop
 rt:VK
 bk:St->Hp->Prop:=λ_ _=>False
 ct:St->Hp->Prop:=λ_ _=>False
abbrev TS:=Ends->St->Hp->Prop
def EP(X:Cx)(pins:AB)(σ:St)(Q:VK)(u:Value)(s':Shared):Prop:=∃v H',Inv X pins σ H' s'/\RelV v u/\Q v H'
def TP(X:Cx)(pins:AB)(σ:St)(Q:Bool->Hp->Prop)(b:Bool)(s':Shared):Prop:=∃H',Inv X pins σ H' s'/\Q b H'
def AP(X:Cx)(pins:AB)(σ:St)(Q:AN->Hp->Prop)(us:AC)(s':Shared):Prop:=∃vs H',Inv X pins σ H' s'/\Vals vs us/\Q vs H'
def SP(X:Cx)(pins:AB)(D:Ends)(f:Flow)(s':Shared):Prop:=
 match f with
 | .next=>∃σ' H',Inv X pins σ' H' s'/\D.nx σ' H'
 | .brk=>∃σ' H',Inv X pins σ' H' s'/\D.bk σ' H'
 | .cont=>∃σ' H',Inv X pins σ' H' s'/\D.ct σ' H'
 | .ret u=>∃v σ' H',Inv X pins σ' H' s'/\RelV v u/\D.rt v H'
def PE(X:Cx)(e:Expr)(t:TE):Prop:=
 ∀(pins:AB) (s:Shared) (σ:St) (H:Hp) (Q:VK),Inv X pins σ H s->t σ H Q->wpAny (model X.prog X.w) X.A (eval e X.env) (EP X pins σ Q) X.xe s
def PT(X:Cx)(e:Expr)(t:TT):Prop:=
 ∀(pins:AB) (s:Shared) (σ:St) (H:Hp) (Q:Bool->Hp->Prop),Inv X pins σ H s->t σ H Q->wpAny (model X.prog X.w) X.A (isTrue e X.env (eval e X.env)) (TP X pins σ Q) X.xe s
def PW(X:Cx)(e:Expr)(t:TT):Prop:=
 ∀(whole:Sem Value) (pins:AB) (s:Shared) (σ:St) (H:Hp) (Q:Bool->Hp->Prop),Inv X pins σ H s->t σ H Q->wpAny (model X.prog X.w) X.A (isTrue e X.env whole) (TP X pins σ Q) X.xe s
theorem PW.pt(h:PW X e t):PT X e t:=h _
def PA(X:Cx)(es:AL)(t:TA):Prop:=
 ∀(pos:Pos) (pins:AB) (s:Shared) (σ:St) (H:Hp) (Q:AN->Hp->Prop),Inv X pins σ H s->t σ H Q->wpAny (model X.prog X.w) X.A (spliced (backTo pos (starEach es X.env))) (AP X pins σ Q) X.xe s
def PS(X:Cx)(st:Stmt)(t:TS):Prop:=
 ∀(pins:AB) (s:Shared) (σ:St) (H:Hp) (D:Ends),Inv X pins σ H s->t D σ H->wpAny (model X.prog X.w) X.A (exec st X.env) (SP X pins D) X.xe s
def PSs(X:Cx)(st:List Stmt)(t:TS):Prop:=
 ∀(pins:AB) (s:Shared) (σ:St) (H:Hp) (D:Ends),Inv X pins σ H s->t D σ H->wpAny (model X.prog X.w) X.A (execs st X.env) (SP X pins D) X.xe s
theorem thn(h:wpAny M A t Q E s)(hQ:∀a s,Q a s->Q' a s):wpAny M A t Q' E s:=wz h hQ λ_ _ x=>x
section
variable {X:Cx}
def tVar(i:Nat):TE:=λσ H Q=>∃v,σ[i]?=some (some v)/\Q v H
def tC(v:V):TE:=λ_ H Q=>Q v H
abbrev Ndb(x:Str):Prop:=(x==("__debug__":Str))=false
abbrev Ncd(x:Str):Prop:=(x==("__classdict__":Str))=false
theorem Yh7{pos:Pos}(hN:X.N[i]?=some x)(hv:Vis X.env.scope x)(hd:Ndb x:=by decide)(hcd:Ncd x:=by decide):PE X (.Name x pos) (tVar i):=by
 intro pins s σ H Q I h;obtain⟨v,e,h⟩:=h;obtain⟨m,hn,hl⟩:=I.loc;obtain⟨u,r,l⟩:=hl i x v hN e hv
 have fin:EP X pins σ Q u s:=⟨v,H,I,r,h⟩
 rcases l with⟨hk,hm⟩|⟨hk,c,hc,hcell⟩
 ·exact wpAny_Name (wpAny_loadName_local I.ok.kind hk hn hm fin) hd
 ·rcases hk with hk|hk
  ·exact wpAny_Name (wpAny_loadName_cell I.ok.kind hk hc hcell fin) hd
  ·exact wpAny_Name (wpAny_loadName_free I.ok.kind hk hc hcell fin hcd) hd
theorem Yz8{i j pos}:PE X (.Constant (.int i) j pos) (tC (.int i)):=λ_ _ _ H _ I h=>wpAny_Constant_int ⟨.int i,H,I.tok _,⟨_,rfl⟩,h⟩
theorem Yaei{b j pos}:PE X (.Constant (.bool b) j pos) (tC (.bl b)):=λ_ _ _ H _ I h=>Constant_bool ⟨.bl b,H,I,rfl,h⟩
theorem Yaa1{j pos}:PE X (.Constant .none j pos) (tC .non):=λ_ _ _ H _ I h=>Constant_none ⟨.non,H,I,rfl,h⟩
theorem Yz9{x j pos}:PE X (.Constant (.str x) j pos) (tC (.str x)):=λ_ _ _ H _ I h=>Calls.Constant_str ⟨.str x,H,I.tok _,⟨_,rfl⟩,h⟩
def Gl(X:Cx)(x:Str):Prop:=X.env.kindOf x=some .globalImplicit
theorem Ygu{σ:St}(I:Inv X pins σ H s)(hg:Gl X x)(hm:X.mg x=some u)(h:Q u s)
 (hd:Ndb x:=by decide):wpAny (model X.prog X.w) X.A (eval (.Name x pos) X.env) Q E s:=
 Calls.Name_function_global I.ok.kind hg (Calls.loadGlobal_global (by rw[I.ok.glob];exact I.mod.glob.keeps I.bk) hm h) hd
theorem Yl5{E:AA}{σ:St}{pos:Pos}(I:Inv X pins σ H s)(hg:Gl X x)(hm:X.mg x=none)(hv:bootBuiltins x=some u)(h:Q u s)
 (hn:x≠"__name__":=by decide) (hd:Ndb x:=by decide):wpAny (model X.prog X.w) X.A (eval (.Name x pos) X.env) Q E s:=by
 obtain⟨mb,h1,h2⟩:=I.mod.blt;exact Calls.Name_function_global I.ok.kind hg (Calls.loadGlobal_builtin (by rw[I.ok.glob];exact I.mod.glob.keeps I.bk) hm (by rw[I.ok.blt];exact h1.keeps I.bk) ((h2 x hn).trans hv) h) hd
theorem Yl6{x:Str}{v:V}{u:Value}{pos:Pos}(hg:Gl X x)(hm:X.mg x=some u)(r:RelV v u)(hd:Ndb x:=by decide):PE X (.Name x pos) (tC v):=
 λ_ _ _ H _ I h=>Ygu I hg hm ⟨v,H,I,r,h⟩ hd
theorem y7z{pos:Pos}(hg:Gl X x)(hm:X.mg x=none)(hv:bootBuiltins x=some u)(r:RelV v u)(hn:x≠"__name__":=by decide)(hd:Ndb x:=by decide):PE X (.Name x pos) (tC v):=
 λ_ _ _ H _ I h=>Yl5 I hg hm hv ⟨v,H,I,r,h⟩ hn hd
variable {a b:Expr}{ta tb:TE}{pos:Pos}
variable {tA tB':TT}{rest:AL}
def tAnd(t u:TT):TT:=λσ H Q=>t σ H λc H1=>if c=true then u σ H1 Q else Q false H1
def tOr(t u:TT):TT:=λσ H Q=>t σ H λc H1=>if c=true then Q true H1 else u σ H1 Q
def tNot(t:TT):TT:=λσ H Q=>t σ H λc H1=>Q (!c) H1
theorem y70(ha:PT X a tA):PW X (.BoolOp .And [a] pos) tA:=by
 intro wh pins s σ H Q I h;refine isTrue_and (thn (ha pins s σ H Q I h) λc s1 e=>?_)
 cases c with
 | true=>exact isTrue_and_nil e
 | false=>exact e
theorem y61(ha:PT X a tA):PW X (.BoolOp .Or [a] pos) tA:=by
 intro wh pins s σ H Q I h;refine isTrue_or (thn (ha pins s σ H Q I h) λc s1 e=>?_)
 cases c with
 | false=>exact isTrue_or_nil e
 | true=>exact e
theorem Yaa2(ha:PT X a tA)(hb:PW X (.BoolOp .And (b::rest) pos) tB'):PW X (.BoolOp .And (a::b::rest) pos) (tAnd tA tB'):=by
 intro wh pins s σ H Q I h;refine isTrue_and (thn (ha pins s σ H _ I h) λc s1 hx_=>?_);obtain⟨H1,I1,q1⟩:=hx_
 cases c with
 | true=>exact hb wh pins s1 σ H1 Q I1 q1
 | false=>exact⟨H1,I1,q1⟩
theorem Yaa3(ha:PT X a tA)(hb:PW X (.BoolOp .Or (b::rest) pos) tB'):PW X (.BoolOp .Or (a::b::rest) pos) (tOr tA tB'):=by
 intro wh pins s σ H Q I h;refine isTrue_or (thn (ha pins s σ H _ I h) λc s1 hx_=>?_);obtain⟨H1,I1,q1⟩:=hx_
 cases c with
 | true=>exact⟨H1,I1,q1⟩
 | false=>exact hb wh pins s1 σ H1 Q I1 q1
theorem Yaa4(ha:PT X a tA):PT X (.UnaryOp .Not a pos) (tNot tA):=by
 intro pins s σ H Q I h;exact isTrue_not (ha pins s σ H (λc H1=>Q (!c) H1) I h)
def Yaej(ta tb:TE):TE:=λσ H Q=>ta σ H λx H1=>∃c,x=.bl c/\if c=true then tb σ H1 Q else Q (.bl false) H1
def Yaek(ta:TE):TE:=λσ H Q=>ta σ H λx H1=>∃c,x=.bl c/\Q (.bl (!c)) H1
theorem Yaa5{op}(h:PE X a t):PE X (.BoolOp op [a] pos) t:=λpins s σ H Q I hw=>BoolOp_one (h pins s σ H Q I hw)
theorem Yaa6(ha:PE X a ta)(hb:PE X (.BoolOp .And (b::rest) pos) tb):PE X (.BoolOp .And (a::b::rest) pos) (Yaej ta tb):=by
 intro pins s σ H Q I h;refine BoolOp_and (thn (ha pins s σ H _ I h) λv s1 hx_=>?_);obtain⟨x,H1,I1,r1,q1⟩:=hx_;obtain⟨c,rfl,q1⟩:=q1;cases r1;refine wpAny_truthy_bool ?_
 cases c with
 | true=>exact hb pins s1 σ H1 Q I1 q1
 | false=>exact⟨.bl false,H1,I1,rfl,q1⟩
theorem Yaa7(ha:PE X a ta):PE X (.UnaryOp .Not a pos) (Yaek ta):=by
 intro pins s σ H Q I h;refine UnaryOp_ (thn (ha pins s σ H _ I h) λv s1 hx_=>?_);obtain⟨x,H1,I1,r1,q1⟩:=hx_;obtain⟨c,rfl,q1⟩:=q1;cases r1;exact not_of (wpAny_truthy_bool ⟨.bl (!c),H1,I1,rfl,q1⟩)
def tIf(t:TT)(ta tb:TE):TE:=λσ H Q=>t σ H λc H1=>if c=true then ta σ H1 Q else tb σ H1 Q
theorem y39(hc:PT X c tA)(ha:PE X a ta)(hb:PE X b tb):PE X (.IfExp c a b pos) (tIf tA ta tb):=by
 intro pins s σ H Q I h;refine wpAny_IfExp (thn (hc pins s σ H _ I h) λd s1 hx_=>?_);obtain⟨H1,I1,q1⟩:=hx_
 cases d with
 | true=>exact ha pins s1 σ H1 Q I1 q1
 | false=>exact hb pins s1 σ H1 Q I1 q1
end
def SqL(K:W.Frag)(H:Hp)(a:Addr)(xs:AN):Prop:=
 Rd H a (.lst xs)\/
  ∃(o:Obj) (its:Array Value) (n:Nat),K.lookup a=some o/\o.cls=.type "list"/\o.dict=none/\o.data=.seq its n/\its.size<=sizeLine/\Vals xs its.toList
def SqT(K:W.Frag)(H:Hp)(a:Addr)(xs:AN):Prop:=
 Rd H a (.tup xs)\/
  ∃(o:Obj) (its:Array Value) (n:Nat),K.lookup a=some o/\o.cls=.type "tuple"/\o.data=.seq its n/\its.size<=sizeLine/\Vals xs its.toList
def absV:Value->Option V
 | .none=>some .non
 | .bool b=>some (.bl b)
 | .int i _=>some (.int i)
 | .str x _=>some (.str x)
 | .bytes b _=>some (.byt b)
 | .float b _=>some (.flt b)
 | .ref a=>some (.ref a)
 | .type n=>some (.ty n)
 | _=>none
theorem RelV.abs(r:RelV x u):absV u=some x:=by
 cases x with
 | non=>cases r;rfl
 | bl _=>cases r;rfl
 | int _=>obtain⟨t,rfl⟩:=r;rfl
 | str _=>obtain⟨t,rfl⟩:=r;rfl
 | byt _=>obtain⟨t,rfl⟩:=r;rfl
 | flt _=>obtain⟨t,rfl⟩:=r;rfl
 | ref _=>cases r;rfl
 | ty _=>cases r;rfl
theorem RelV.inj(r:RelV x u)(q:RelV y u):x=y:=w9 (r.abs.symm.trans q.abs)
theorem Vals.inj:∀{xs ys:AN}{us:AC},Vals xs us->Vals ys us->xs=ys
 :=by
  intro xs ys us h
  induction h generalizing ys with
  | nil=>
    intro h2;cases h2;rfl
  | cons r t ih=>
    intro h2
    cases h2 with
    | cons r' t'=>rw[r.inj r',ih t']
section
variable {X:Cx}{pins:AB}{σ:St}{H:Hp}{s:Shared}{a:Addr}{xs ys:AN}
theorem SqL.of{K:W.Frag}(h:H a=some (.lst xs)):SqL K H a xs:=.inl (.inl h)
theorem SqT.of{K:W.Frag}(h:H a=some (.tup xs)):SqT K H a xs:=.inl (.inl h)
theorem Inv.list(I:Inv X pins σ H s)(h:SqL X.K H a xs):∃its:AC,Vals xs its/\PlainL s.heap a its.toArray/\xs.length<=sizeLine:=by
 rcases h with h|⟨o,its,n,hk,hc,hd,hs,hz,r⟩
 ·obtain⟨z,its,n,r,e⟩:=h.ok I.hok
  exact⟨its,r,⟨_,n,e,rfl,rfl,rfl⟩,z⟩
 ·refine⟨its.toList,r,⟨o,n,I.kIn a o hk,hc,hd,by simpa using hs⟩,?_⟩
  have e:=r.length;grind
theorem Inv.tuple(I:Inv X pins σ H s)(h:SqT X.K H a xs):∃its:AC,Vals xs its/\IsTup s.heap a its.toArray/\xs.length<=sizeLine:=by
 rcases h with h|⟨o,its,n,hk,hc,hs,hz,r⟩
 ·obtain⟨z,its,r,p⟩:=h.ok I.hok
  grind
 ·refine⟨its.toList,r,⟨o,I.kIn a o hk,hc,n,by simpa using hs⟩,?_⟩
  have e:=r.length;grind
theorem Inv.list_inj(I:Inv X pins σ H s)(h:SqL X.K H a xs)(h':SqL X.K H a ys):xs=ys:=by
 obtain⟨its,r,⟨o,n,e,_,_,d⟩,_⟩:=I.list h;obtain⟨its',r',⟨o',n',e',_,_,d'⟩,_⟩:=I.list h';rw[e]at e';cases e';rw[d]at d';injection d' with d1 _
 have:its=its':=by grind
 subst this;exact r.inj r'
theorem Inv.tuple_inj(I:Inv X pins σ H s)(h:SqT X.K H a xs)(h':SqT X.K H a ys):xs=ys:=by
 obtain⟨its,r,⟨o,e,_,n,d⟩,_⟩:=I.tuple h;obtain⟨its',r',⟨o',e',_,n',d'⟩,_⟩:=I.tuple h';rw[e]at e';cases e';rw[d]at d';injection d' with d1 _
 have:its=its':=by grind
 subst this;exact r.inj r'
end
abbrev Cx.wish(X:Cx)(E:AA):Cx:={ X with xe:=E }
abbrev Cx.nox(X:Cx):Cx:=X.wish λ_ _=>False
theorem Cx.Ok.wish{X:Cx}(ok:X.Ok)(E:AA):(X.wish E).Ok:=
 ⟨ok.mod,ok.kind,ok.glob,ok.blt,ok.above,ok.inj,ok.has,ok.cab,ok.hd,ok.frames,ok.stk,ok.exf,ok.bs,ok.bsz,ok.noex,ok.exfs,ok.funs,ok.frf⟩
theorem Cx.Ok.unwish{X:Cx}(ok:(X.wish E).Ok):X.Ok:=
 ⟨ok.mod,ok.kind,ok.glob,ok.blt,ok.above,ok.inj,ok.has,ok.cab,ok.hd,ok.frames,ok.stk,ok.exf,ok.bs,ok.bsz,ok.noex,ok.exfs,ok.funs,ok.frf⟩
section
variable {X:Cx}{pins:AB}{σ:St}{H:Hp}{s:Shared}{E:AA}{st:Stmt}{rest:List Stmt}{t u:TS}{e:Expr}{te:TE}{pos:Pos}
theorem Inv.wish(I:Inv X pins σ H s)(E:AA):Inv (X.wish E) pins σ H s:=⟨I.ok.wish E,I.os,I.bare,I.base,I.loc,I.cell,I.free,I.freeC,I.pin,I.hok,I.len⟩
theorem Inv.unwish(I:Inv (X.wish E) pins σ H s):Inv X pins σ H s:=⟨I.ok.unwish,I.os,I.bare,I.base,I.loc,I.cell,I.free,I.freeC,I.pin,I.hok,I.len⟩
theorem SP.unwish(h:SP (X.wish E) pins D f s'):SP X pins D f s':=by
 cases f with
 | next=>obtain⟨σ',H',I,q⟩:=h;exact⟨σ',H',I.unwish,q⟩
 | brk=>obtain⟨σ',H',I,q⟩:=h;exact⟨σ',H',I.unwish,q⟩
 | cont=>obtain⟨σ',H',I,q⟩:=h;exact⟨σ',H',I.unwish,q⟩
 | ret u=>obtain⟨v,σ',H',I,r,q⟩:=h;exact⟨v,σ',H',I.unwish,r,q⟩
theorem PSs.nox{st:List Stmt}(h:PSs X.nox st t):PSs X st t:=λpins s σ H D I hw=>
 wz (h pins s σ H D (I.wish _) hw) (λ_ _ q=>q.unwish) λ_ _ z=>False.elim z
def Yael:TS:=λD σ H=>D.nx σ H
def tSeq(t u:TS):TS:=λD σ H=>t { D with nx:=u D } σ H
theorem Yuu:PSs X [] Yael:=λ_ _ σ H _ I h=>wpAny_execs_nil ⟨σ,H,I,h⟩
theorem Yly(h1:PS X st t)(h2:PSs X rest u):PSs X (st::rest) (tSeq t u):=by
 intro pins s σ H D I h;refine wpAny_execs_cons (thn (h1 pins s σ H { D with nx:=u D } I h) λf s1 q=>?_)
 cases f with
 | next=>
   obtain⟨σ',H',I',q⟩:=q;exact h2 pins s1 σ' H' D I' q
 | ret v=>exact q
 | brk=>exact q
 | cont=>exact q
theorem Yuv(h1:PS X st t):PSs X [st] t:=by
 intro pins s σ H D I h;refine wpAny_execs_cons (thn (h1 pins s σ H D I h) λf s1 q=>?_)
 cases f with
 | next=>exact wpAny_execs_nil q
 | ret v=>exact q
 | brk=>exact q
 | cont=>exact q
theorem Inv.quiet(I:Inv X pins σ H s):interactive X.env=false:=by simp[interactive,I.ok.kind]
def Yaem(te:TE):TS:=λD σ H=>te σ H λ_ H1=>D.nx σ H1
theorem Ykm(he:PE X e te)(hs:swapsWith e none pos.line X.env=pure false:=by rfl):PS X (.Expr e pos) (Yaem te):=by
 intro pins s σ H D I h;refine wpAny_Expr_any (thn (he pins s σ H _ I h) λv s1 hx_=>?_) I.quiet hs;obtain⟨x,H1,I1,r1,q1⟩:=hx_;exact⟨σ,H1,I1,q1⟩
def tRet(te:TE):TS:=λD σ H=>te σ H D.rt
theorem y0a(he:PE X e te):PS X (.Return (some e) pos) (tRet te):=by
 intro pins s σ H D I h;refine wpAny_Return_some (thn (he pins s σ H _ I h) λv s1 hx_=>?_);obtain⟨x,H1,I1,r1,q1⟩:=hx_;exact⟨x,σ,H1,I1,r1,q1⟩
def tIfS(c:TT)(t u:TS):TS:=λD σ H=>c σ H λb H1=>if b=true then t D σ H1 else u D σ H1
theorem y4a(hc:PT X c tc)(ha:PSs X a t)(hb:PSs X b u):PS X (.If c a b pos) (tIfS tc t u):=by
 intro pins s σ H D I h;refine wpAny_If (thn (hc pins s σ H _ I h) λd s1 hx_=>?_);obtain⟨H1,I1,q1⟩:=hx_
 cases d with
 | true=>exact ha pins s1 σ H1 D I1 q1
 | false=>exact hb pins s1 σ H1 D I1 q1
end
abbrev TG:=V->St->Hp->(St->Hp->Prop)->Prop
abbrev TGs:=AN->St->Hp->(St->Hp->Prop)->Prop
def PG(X:Cx)(target:Expr)(t:TG):Prop:=
 ∀(pins:AB) (s:Shared) (σ:St) (H:Hp) (v:V) (u:Value) (Q:St->Hp->Prop),Inv X pins σ H s->RelV v u->t v σ H Q->
  wpAny (model X.prog X.w) X.A (assign target X.env u) (λ_ s'=>∃σ' H',Inv X pins σ' H' s'/\Q σ' H') X.xe s
def PGs(X:Cx)(ts:AL)(t:TGs):Prop:=
 ∀(pins:AB) (s:Shared) (σ:St) (H:Hp) (vs:AN) (us:AC) (Q:St->Hp->Prop),Inv X pins σ H s->Vals vs us->t vs σ H Q->
  wpAny (model X.prog X.w) X.A (assignInOrder ((assignEach ts X.env).map (·.2)) us) (λ_ s'=>∃σ' H',Inv X pins σ' H' s'/\Q σ' H') X.xe s
abbrev TSet:=V->V->V->Hp->(Hp->Prop)->Prop
def PSet(X:Cx)(t:TSet):Prop:=
 ∀(pins:AB) (s:Shared) (σ:St) (H:Hp) (o i v:V) (ov iv u:Value) (Q:Hp->Prop),Inv X pins σ H s->RelV o ov->RelV i iv->RelV v u->t o i v H Q->
  wpAny (model X.prog X.w) X.A (setItem ov iv u) (λ_ s'=>∃H',Inv X pins σ H' s'/\Q H') X.xe s
section
variable {X:Cx}{pos:Pos}
def Yym(i:Nat):TG:=λv σ H Q=>Q (σ.set i (some v)) H
theorem Yio(hN:X.N.Nodup)(hi:X.N[i]?=some x)(hx:Loc X.env.scope x)(hf:X.fn x=true\/X.env.scope.names.lookup x=some .local:=by trivial):PG X (.Name x pos) (Yym i):=by
 intro pins s σ H v u Q I r h;exact wpAny_assign_Name (Yww I hN hi hx r (λs' I'=>⟨_,H,I',h⟩) hf)
def gNil:TGs:=λvs σ H Q=>vs=[]/\Q σ H
def Yaen(t:TG)(u:TGs):TGs:=λvs σ H Q=>∃v r,vs=v::r/\t v σ H λσ' H'=>u r σ' H' Q
theorem y0b:PGs X [] gNil:=by
 intro pins s σ H vs us Q I r h;obtain⟨e,h⟩:=h;subst e;cases r;exact assignInOrder_nil ⟨σ,H,I,h⟩
theorem Yhl(h1:PG X e t)(h2:PGs X es u)
 (hs:(assignEach (e::es) X.env).map (·.2)=assign e X.env::(assignEach es X.env).map (·.2):=by rfl):PGs X (e::es) (Yaen t u):=by
 intro pins s σ H vs us Q I r h;obtain⟨v,vr,e1,h⟩:=h;subst e1
 cases r with
 | cons r rr=>
   rw[hs];refine assignInOrder_cons (thn (h1 pins s σ H _ _ _ I r h) λ_ s1 hx_=>?_);obtain⟨σ1,H1,I1,q1⟩:=hx_;exact h2 pins s1 σ1 H1 _ _ Q I1 rr q1
def gTup(K:W.Frag)(n:Nat)(t:TGs):TG:=λv σ H Q=>∃a xs,v=.ref a/\SqT K H a xs/\xs.length=n/\t xs σ H Q
theorem Yaa8{k:Nat}(hc:X.calm=true)(h:PGs X es t)
 (hn:(assignEach es X.env).length=n:=by rfl) (hst:(assignEach es X.env).findIdx? (·.1)=none:=by rfl):PG X (.Tuple es k pos) (gTup X.K n t):=by
 intro pins s σ H v u Q I r hw;obtain⟨a,xs,e1,hq,hl,hw⟩:=hw;subst e1;cases r;obtain⟨its,rv,ht,hz⟩:=I.tuple hq;refine assign_Tuple_tuple (I.ok.hd hc) ht (by simp[hn,<-hl,rv.length]) hst λh' hx=>?_;have I1:Inv X pins σ H { s with heap:=h' }:=I.kept (t':=s.toks) λb o e=>hx b o (qm (ql e)) e;exact h pins _ σ H xs _ Q I1 (by grind) hw
def gSub(to ti:TE)(t:TSet):TG:=λv σ H Q=>to σ H λo H1=>ti σ H1 λi H2=>t o i v H2 λH3=>Q σ H3
theorem Yaa9(ho:PE X o to)(hi:PE X i ti)(hs:PSet X t)
 (ha:∀v,assign (.Subscript o i pos) X.env v=(do
  let ov <-holding [v] (eval o X.env)
  let iv <-holding [v,ov] (eval i X.env)
  standAt pos
  holding [v,ov,iv] (setItem ov iv v)
  release [v,ov,iv] []):=by intro _;rfl):PG X (.Subscript o i pos) (gSub to ti t):=by
 intro pins s σ H v u Q I r h;rw[ha];refine wa (we (thn (ho pins s σ H _ I h) λov s1 hx_=>?_));obtain⟨x,H1,I1,r1,q1⟩:=hx_;refine wa (we (thn (hi pins s1 σ H1 _ I1 q1) λiv s2 hx_=>?_));obtain⟨y,H2,I2,r2,q2⟩:=hx_;refine wa (wpAny_standAt (wa (we (thn (hs pins s2 σ H2 x y v ov iv u _ I2 r1 r2 r q2) λ_ s3 hx_=>?_))));obtain⟨H3,I3,q3⟩:=hx_;exact wpAny_release ⟨σ,H3,I3,q3⟩
def tAsg(te:TE)(g:TG):TS:=λD σ H=>te σ H λx H1=>g x σ H1 D.nx
theorem y62(he:PE X e te)(hg:PG X tg g)(hs:swapsWithSole [tg] e pos.line X.env=pure false:=by rfl)(hw:swappedStores [tg] e X.env=pure none:=by rfl)
 (h1:(assignEach [tg] X.env).map (·.2)=[assign tg X.env]:=by rfl):PS X (.Assign [tg] e pos) (tAsg te g):=by
 intro pins s σ H D I h;refine wpAny_Assign_stores (thn (he pins s σ H _ I h) λv s1 hx_=>?_) hs hw;obtain⟨x,H1,I1,r1,q1⟩:=hx_;rw[h1];exact thn (hg pins s1 σ H1 x v _ I1 r1 q1) λ_ s2 q=>q
theorem Ywx(hN:X.N.Nodup)(hi:X.N[i]?=some x)(hx:Loc X.env.scope x)(he:PE X e te)(hs:swapsWith e (some (.Name x pos')) pos.line X.env=pure false:=by rfl)(hf:X.fn x=true\/X.env.scope.names.lookup x=some .local:=by trivial) :
 PS X (.Assign [.Name x pos'] e pos) (tAsg te (Yym i)):=by
 intro pins s σ H D I h;refine wpAny_Assign_Name (thn (he pins s σ H _ I h) λv s1 hx_=>?_) hs;obtain⟨y,H1,I1,r1,q1⟩:=hx_;exact Yww I1 hN hi hx r1 (λs2 I2=>⟨_,H1,I2,q1⟩) hf
def Yaba(c:TT)(tb:TS):TS:=λD σ H=>∃W:Nat->St->Hp->Prop,(∃m,W m σ H)/\∀m σ H,W m σ H->
 c σ H λb H1=>if b=true then ∃N:St->Hp->Prop,(∀σ' H',N σ' H'->∃m',m'<m/\W m' σ' H')/\tb { D with nx:=N,ct:=N,bk:=D.nx } σ H1 else D.nx σ H1
theorem y4b(hp:PassesOwn (model X.prog X.w) X.A X.env X.xe)(hc:PT X c tc)(hb:PSs X body tb):PS X (.While c body [] pos) (Yaba tc tb):=by
 intro pins s σ H D I h;obtain⟨W,⟨m0,w0⟩,turn⟩:=h;refine wpAny_While (codeAny_whileLoop (λn s'=>∃σ' H',Inv X pins σ' H' s'/\W n σ' H') ?_ m0 ⟨σ,H,I,w0⟩);rintro n s1 ⟨σ1,H1,I1,w1⟩;refine wpAny_passesOwn hp (thn (hc pins s1 σ1 H1 _ I1 (turn n σ1 H1 w1)) λb s2 hx_=>?_);obtain⟨H2,I2,q2⟩:=hx_
 cases b with
 | true=>
   obtain⟨N,hN,q2⟩:=q2;rw[if_pos rfl];refine wpAny_passesOwn hp (thn (hb pins s2 σ1 H2 _ I2 q2) λf s3 q3=>?_)
   cases f with
   | next=>
     obtain⟨σ3,H3,I3,n3⟩:=q3;grind
   | cont=>
     obtain⟨σ3,H3,I3,n3⟩:=q3;grind
   | brk=>exact q3
   | ret v=>exact q3
 | false=>
   rw[if_neg qi];exact wpAny_execs_nil ⟨σ1,H2,I2,q2⟩
end
structure It where
 go:Nat->Hp->Prop
 yld:Nat->Hp->V->Hp->Prop
 stop:Nat->Hp->Prop
def FpOk(X:Cx)(pins:AB)(H:Hp)(b:Addr):Prop:=
 H b=none/\b≠X.env.locals/\b∉X.fs/\(b∈X.ex\/X.s₀.heap.objs.size<=b)/\(∀x c,X.env.cells.lookup x=some c->c≠b)/\∀p∈X.pn++pins,p.1≠b
theorem Inv.fpOk{σ:St}{b:Addr}(I:Inv X pins σ H s)(hb:(~~~s)<=b)(hn:H' b=none):FpOk X pins H' b:=by
 refine⟨hn,Nat.ne_of_gt (Qc I.lt hb),I.nofs hb,.inr (Qb I.sz hb),λx c e z=>?_,λp hp z=>?_⟩
 ·obtain⟨v,q⟩:=I.cell x c e
  exact absurd (Qc q.lt (by grind)) (Nat.lt_irrefl _)
 ·exact absurd (Qc (ql (I.pin p hp).1) (by grind)) (Nat.lt_irrefl _)
structure Turn(P:Program)(w:World)(K:W.Frag)(tg:Expr)(J:It)(fp:List Addr)(it:Addr)(tn:Nat->Heap->Prop):Prop where
 mem:it∈fp
 obj:∀i h,tn i h->∀b∈fp,∃o,h.get? b=some o/\∀v,o.data≠.cell v
 keep:∀i h h',tn i h->(∀b∈fp,∀o,h.get? b=some o->h'.get? b=some o)->tn i h'
 item:∀(X:Cx),X.prog=P->X.w=w->X.K=K->X.calm=true->∀(i:Nat) (pins:AB) (s:Shared) (σ:St) (H:Hp) (E:AA),Inv X pins σ H s->(∀b∈fp,FpOk X pins H b)->tn i s.heap->J.go i H->
  wpAny (model P w) X.A (pyNext (.ref it)) (λr s1=>∃u,r=some u/\
   wpAny (model P w) X.A (letOwnedTupleGo tg (.ref it) u) (λ_ s2=>∃x H',Inv X pins σ H' s2/\RelV x u/\J.yld i H x H'/\tn (i+1) s2.heap/\∀b∈fp,H' b=none) E s1) E s
 done:∀(X:Cx),X.prog=P->X.w=w->X.K=K->X.calm=true->∀(i:Nat) (pins:AB) (s:Shared) (σ:St) (H:Hp) (E:AA),Inv X pins σ H s->(∀b∈fp,FpOk X pins H b)->tn i s.heap->J.stop i H->
  wpAny (model P w) X.A (pyNext (.ref it)) (λr s1=>r=none/\Inv X pins σ H s1) E s
 self:∀(A:Around) (i:Nat) (s:Shared) (Q:AA) (E:AA),tn i s.heap->Q (.ref it) s->wpAny (model P w) A (pyIter (.ref it)) Q E s
abbrev TI:=St->Hp->(It->Hp->Prop)->Prop
def PIE(X:Cx)(pins:AB)(σ:St)(tg:Expr)(R:It->Hp->Prop)(itv:Value)(s2:Shared):Prop:=
 ∃(it:Addr) (fp:List Addr) (tn:Nat->Heap->Prop) (J:It) (H':Hp),itv=.ref it/\Inv X pins σ H' s2/\Turn X.prog X.w X.K tg J fp it tn/\tn 0 s2.heap/\(∀b∈fp,FpOk X pins H' b)/\R J H'
def PI(X:Cx)(tg iter:Expr)(wi:TI):Prop:=
 ∀(pins:AB) (s:Shared) (σ:St) (H:Hp) (R:It->Hp->Prop),Inv X pins σ H s->wi σ H R->
  wpAny (model X.prog X.w) X.A (eval iter X.env) (λv s1=>wpAny (model X.prog X.w) X.A (pyIter v) (PIE X pins σ tg R) X.xe s1) X.xe s
theorem y4c(ho:s.heap.get? it=some o)(hc:o.cls=.type n)(hd:o.data=.fields vs)
 (hn:["enumerate","zip","dict_itemiterator","dict_reverseitemiterator","odict_iterator","itertools.zip_longest","itertools.pairwise"].contains n=false) (hQ:Q () s):wpAny M A (letOwnedTupleGo tg (.ref it) u) Q E s:=by
 unfold letOwnedTupleGo
 cases tg<;>first
  | exact wc hQ
  | (cases u<;>first
   | exact wc hQ
   | (refine wa (wpAny_load ho ?_)
      rw[hc,hd];show wpAny M A (if (["enumerate","zip","dict_itemiterator","dict_reverseitemiterator","odict_iterator","itertools.zip_longest","itertools.pairwise"].contains n&&vs[0]?==some (rawInt _))=true then _ else _) Q E s;rw[if_neg (by grind)]
      exact wc hQ))
def Itl(K:W.Frag)(a:Addr):It:=
 ⟨λi H=>∃xs x,SqL K H a xs/\xs[i]?=some x,λi H x H'=>H'=H/\∀xs,SqL K H a xs->xs[i]?=some x,λi H=>∃xs,SqL K H a xs/\xs.length<=i⟩
def Itt(K:W.Frag)(a:Addr):It:=
 ⟨λi H=>∃xs x,SqT K H a xs/\xs[i]?=some x,λi H x H'=>H'=H/\∀xs,SqT K H a xs->xs[i]?=some x,λi H=>∃xs,SqT K H a xs/\xs.length<=i⟩
def Itr(lo:Int)(n:Nat):It:=⟨λi _=>i<n,λi H x H'=>H'=H/\x=.int (lo+i),λi _=>n<=i⟩
theorem y0c{K:W.Frag}(a it:Addr):Turn P w K tg (Itl K a) [it] it (λi h=>h.IsListIter it a i) where
 mem:=by simp
 obj:=λi h st b hb=>by
  have e:b=it:=by grind
  subst e;obtain⟨o,e,c,d⟩:=st;grind
 keep:=λi h h' st k=>st.at λo e=>k it (by simp) o e
 item:=by
  intro X hP hw hK hc i pins s σ H E I hf st hg;subst hP hw hK;obtain⟨xs,x,hq,hx⟩:=hg;obtain⟨its,rv,p,hz⟩:=I.list hq;obtain⟨u,hu,ru⟩:=rv.get hx;obtain⟨f0,f1,f2,f3,f4,f5⟩:=hf it (by simp);refine wpAny_pyNext_list_item st p.isList (x:=u) (by grind) λh' st' sb=>?_;have I1:Inv X pins σ H { s with heap:=h' }:=I.turned (t':=s.toks) (λb o hb e=>(sb.2 b hb).trans e) f0 f1 f3 f4 f5;obtain⟨o,e,c,d⟩:=id st';exact⟨u,rfl,y4c (s:={ s with heap:=h' }) e c d (by decide) ⟨x,H,I1,ru,⟨rfl,λys hy=>by rw[I.list_inj hy hq];exact hx⟩,st',λb hb=>(hf b hb).1⟩⟩
 done:=by
  intro X hP hw hK hc i pins s σ H E I hf st hg;subst hP hw hK;obtain⟨xs,hq,hx⟩:=hg;obtain⟨its,rv,p,hz⟩:=I.list hq;obtain⟨f0,f1,f2,f3,f4,f5⟩:=hf it (by simp);have hl:=rv.length
  exact wpAny_pyNext_list_end (I.ok.hd hc) st p.isList (by simp;lia) λh' eb=>⟨rfl,I.turned (t':=s.toks) (λb o hb e=>eb b o hb e) f0 f1 f3 f4 f5⟩
 self:=λ_ _ _ _ _ st h=>wpAny_pyIter_listiter st h
theorem Yyn{K:W.Frag}(a it:Addr):Turn P w K tg (Itt K a) [it] it (λi h=>h.IsTupleIter it a i) where
 mem:=by simp
 obj:=λi h st b hb=>by
  have e:b=it:=by grind
  subst e;obtain⟨o,e,c,d⟩:=st;grind
 keep:=λi h h' st k=>st.at λo e=>k it (by simp) o e
 item:=by
  intro X hP hw hK hc i pins s σ H E I hf st hg;subst hP hw hK;obtain⟨xs,x,hq,hx⟩:=hg;obtain⟨its,rv,p,hz⟩:=I.tuple hq;obtain⟨u,hu,ru⟩:=rv.get hx;obtain⟨f0,f1,f2,f3,f4,f5⟩:=hf it (by simp);refine wpAny_pyNext_tuple_item st (show s.heap.IsTuple a its.toArray from p) (x:=u) (by grind) λh' st' sb=>?_;have I1:Inv X pins σ H { s with heap:=h' }:=I.turned (t':=s.toks) (λb o hb e=>(sb.2 b hb).trans e) f0 f1 f3 f4 f5;obtain⟨o,e,c,d⟩:=id st';exact⟨u,rfl,y4c (s:={ s with heap:=h' }) e c d (by decide) ⟨x,H,I1,ru,⟨rfl,λys hy=>by rw[I.tuple_inj hy hq];exact hx⟩,st',λb hb=>(hf b hb).1⟩⟩
 done:=by
  intro X hP hw hK hc i pins s σ H E I hf st hg;subst hP hw hK;obtain⟨xs,hq,hx⟩:=hg;obtain⟨its,rv,p,hz⟩:=I.tuple hq;obtain⟨f0,f1,f2,f3,f4,f5⟩:=hf it (by simp);have hl:=rv.length
  exact wpAny_pyNext_tuple_end (I.ok.hd hc) st (show s.heap.IsTuple a its.toArray from p) (by simp;lia) λh' eb=>⟨rfl,I.turned (t':=s.toks) (λb o hb e=>eb b o hb e) f0 f1 f3 f4 f5⟩
 self:=λ_ _ _ _ _ st h=>wpAny_pyIter_tupleiter st h
theorem Yyo{K:W.Frag}(it:Addr)(lo:Int)(n:Nat):Turn P w K tg (Itr lo n) [it] it (λi h=>IsRangeIter h it (lo+(i:Nat)*1) ((n:Int)-(i:Nat)) 1) where
 mem:=by simp
 obj:=λi h st b hb=>by
  grind
 keep:=λi h h' st k=>k it (by simp) _ st
 item:=by
  intro X hP hw hK hc i pins s σ H E I hf st hg;subst hP hw hK;obtain⟨f0,f1,f2,f3,f4,f5⟩:=hf it (by simp);have W:=Walks.range (prog:=X.prog) (w:=X.w) (I.ok.hd hc) it lo 1 n;refine W.item i s _ _ hg st λv h' tk hv st' kk=>?_;obtain⟨t,rfl⟩:=hv;have I1:Inv X pins σ H { s with heap:=h',toks:=tk }:=I.turned (λb o hb e=>kk b o (by grind) e) f0 f1 f3 f4 f5;refine⟨_,rfl,y4c (s:={ s with heap:=h',toks:=tk }) (n:="range_iterator") st' rfl rfl (by decide) ⟨.int (lo+i),H,I1,⟨t,?_⟩,⟨rfl,rfl⟩,st',λb hb=>(hf b hb).1⟩⟩;grind
 done:=by
  intro X hP hw hK hc i pins s σ H E I hf st hg;subst hP hw hK;obtain⟨f0,f1,f2,f3,f4,f5⟩:=hf it (by simp)
  exact wpAny_pyNext_range_end (I.ok.hd hc) st (by have:n<=i:=hg;lia) λh' eb=>⟨rfl,I.turned (t':=s.toks) (λb o hb e=>eb b o hb e) f0 f1 f3 f4 f5⟩
 self:=λ_ _ _ _ _ st h=>wpAny_pyIter_rangeiter st h
section
variable {X:Cx}{tg:Expr}
theorem y4d{σ:St}{lo hi:Int}(I:Inv X pins σ H s)(h1:-(2^62)<=lo)(h2:lo<2^62)(h3:-(2^62)<=hi)(h4:hi<2^62)
 (q:R (Itr lo (hi-lo).toNat) H):wpAny (model X.prog X.w) X.A (pyIter (.ref (~~~s))) (PIE X pins σ tg R) E { s with heap:=s.heap.push { cls:=.type "range",data:=.fields #[.int lo t,.int hi u,.int 1 v] },toks:=tk }:=by
 refine wpAny_pyIter_range (IsRange.new ..) (small_one h1 h2 h3 h4) ?_;have I1:Inv X pins σ H { s with heap:=s.heap.push { cls:=.type "range",data:=.fields #[.int lo t,.int hi u,.int 1 v] },toks:=tk }:=I.kept λb o e=>qe _ e
 refine⟨(s.heap.push { cls:=.type "range",data:=.fields #[.int lo t,.int hi u,.int 1 v] }).objs.size,[(s.heap.push { cls:=.type "range",data:=.fields #[.int lo t,.int hi u,.int 1 v] }).objs.size],_,_,H,rfl,
  I1.kept (t':=tk) λb o e=>qe _ e,Yyo _ lo (hi-lo).toNat,?_,λb hb=>?_,q⟩
 ·have e1:lo+((0:Nat):Int)*1=lo:=by simp
  have e2:(((hi-lo).toNat:Nat):Int)-((0:Nat):Int)=Builtin.Range.rangeSize lo hi 1:=by rw[rangeSize_one];split<;>lia
  show IsRangeIter _ _ (lo+((0:Nat):Int)*1) ((((hi-lo).toNat:Nat):Int)-((0:Nat):Int)) 1;rw[e1,e2];exact qp _ rfl
 ·have e:b=(s.heap.push { cls:=.type "range",data:=.fields #[.int lo t,.int hi u,.int 1 v] }).objs.size:=by grind
  subst e;exact I1.fpOk (qu _) (I1.hok.fresh (qu _))
def Yaeo(ta:TA):TI:=λσ H R=>ta σ H λvs H1=>∃j:Int,vs=[.int j]/\-(2^62)<=j/\j<2^62/\R (Itr 0 j.toNat) H1
theorem y0d(hg:Gl X "range")(hm:X.mg "range"=none)(ha:PA X [a] ta)(hs:starEach [a] X.env=[(false,eval a X.env)]:=by rfl):PI X tg (.Call (.Name "range" p) [a] [] pos) (Yaeo ta):=by
 intro pins s σ H R I h;refine Call_ (Yl5 I hg hm boot_range (PyProof.Rows.callWith_type1 (thn (ha pos pins s σ H _ I h) λus s1 hx_=>?_) hs rfl));obtain⟨vs,H1,I1,r1,q1⟩:=hx_;obtain⟨j,e,q1,q2,q⟩:=q1;subst e
 cases r1 with
 | cons r rr=>
   cases rr;obtain⟨t,rfl⟩:=r;exact call_range_1 (y4d I1 (by lia) (by lia) q1 q2 (by simpa using q))
def tFor(wi:TI)(g:TG)(tb:TS):TS:=λD σ H=>wi σ H λJ H1=>∃W:Nat->Nat->St->Hp->Prop,(∃m,W 0 m σ H1)/\∀i m σ H,W i m σ H->
 (J.stop i H/\D.nx σ H)\/(J.go i H/\∃N:St->Hp->Prop,(∀σ' H',N σ' H'->∃m',m'<m/\W (i+1) m' σ' H')/\∀x H',J.yld i H x H'->g x σ H' λσ2 H2=>tb { D with nx:=N,ct:=N,bk:=D.nx } σ2 H2)
def Ysl(fp:List Addr)(h:Heap):AB:=fp.filterMap λb=>(h.get? b).map λo=>(b,o)
theorem Yhm(hb:b∈fp)(e:h.get? b=some o):(b,o)∈Ysl fp h:=List.mem_filterMap.mpr ⟨b,hb,by rw[e];rfl⟩
theorem y0e(hp:p∈Ysl fp h):p.1∈fp/\h.get? p.1=some p.2:=by
 obtain⟨b,hb,e⟩:=List.mem_filterMap.mp hp
 cases q:h.get? b with
 | none=>grind
 | some o=>
   grind
theorem Inv.pinned{σ:St}(I:Inv X pins σ H s)(hf:∀b∈fp,FpOk X pins H b)(ho:∀b∈fp,∃o,s.heap.get? b=some o/\∀v,o.data≠.cell v):Inv X (pins++Ysl fp s.heap) σ H s:=
 I.pins_of λp hp=>(qv hp).elim (λz=>I.pin p (Qh _ z)) λz=>by
  obtain⟨hb,e⟩:=y0e z;obtain⟨f0,f1,f2,_⟩:=hf p.1 hb;grind
theorem Inv.unpinned{σ:St}(I:Inv X (pins++pl) σ H s):Inv X pins σ H s:=I.pins_of λp hp=>I.pin p (Qh _ (List.mem_append_left _ hp))
theorem y63(hp:PassesOwn (model X.prog X.w) X.A X.env X.xe)(hc:X.calm=true)(hi:PI X tg iter wi)(hg:PG X tg g)(hb:PSs X body tb)
 (hs:∀x,foldedSetIterable iter X.env x=pure x:=by intro _;rfl):PS X (.For tg iter body [] pos) (tFor wi g tb):=by
 intro pins s σ H D I h;refine wpAny_For (thn (hi pins s σ H _ I h) λv s1 h1=>thn h1 λitv s2 h2=>?_) hs;obtain⟨it,fp,tn,J,H2,e,I2,T,st2,f2,W,⟨m0,w0⟩,turn⟩:=h2;subst e
 have stat:∀{H':Hp},(∀b∈fp,H' b=none)->∀b∈fp,FpOk X pins H' b:=λhn b hb=>⟨hn b hb,(f2 b hb).2⟩
 refine codeAny_forLoop_any (λn s'=>∃i σ' H',Inv X pins σ' H' s'/\tn i s'.heap/\(∀b∈fp,H' b=none)/\W i n σ' H') ?_ m0 ⟨0,σ,H2,I2,st2,λb hb=>(f2 b hb).1,w0⟩;rintro n s3 ⟨i,σ3,H3,I3,st3,fr3,w3⟩;rcases turn i n σ3 H3 w3 with⟨stop,qn⟩|⟨go,N,hN,step⟩
 ·refine wpAny_passesOwn hp (thn (T.done X rfl rfl rfl hc i pins s3 σ3 H3 X.xe I3 (stat fr3) st3 stop) λr s4 hx_=>?_)
  obtain⟨hr,I4⟩:=hx_;subst hr;exact wpAny_execs_nil ⟨σ3,H3,I4,qn⟩
 ·refine wpAny_passesOwn hp (thn (T.item X rfl rfl rfl hc i pins s3 σ3 H3 X.xe I3 (stat fr3) st3 go) λr s4 hx_=>?_)
  obtain⟨u,hr,h4⟩:=hx_;subst hr;refine wpAny_passesOwn hp (thn h4 λ_ s5 hx_=>?_);obtain⟨x,H5,I5,r5,y5,st5,fr5⟩:=hx_;have I5':=I5.pinned (stat fr5) (T.obj _ _ st5);refine wpAny_passesOwn hp (thn (hg _ s5 σ3 H5 x u _ I5' r5 (step x H5 y5)) λ_ s6 hx_=>?_);obtain⟨σ6,H6,I6,q6⟩:=hx_;refine wpAny_passesOwn hp (thn (hb _ s6 σ6 H6 _ I6 q6) λf s7 q7=>?_)
  have again:∀{σ7:St}{H7:Hp},Inv X (pins++Ysl fp s5.heap) σ7 H7 s7->N σ7 H7->∃m,m<n/\∃i σ' H',Inv X pins σ' H' s7/\tn i s7.heap/\(∀b∈fp,H' b=none)/\W i m σ' H':=λ{σ7 H7} I7 n7=>by
   obtain⟨m',hm,w7⟩:=hN σ7 H7 n7;refine⟨m',hm,i+1,σ7,H7,I7.unpinned,T.keep _ _ _ st5 λb hb o e=>(I7.pin (b,o) (Qh _ (Qh _ (Yhm hb e)))).1,λb hb=>?_,w7⟩;obtain⟨o,e,d⟩:=T.obj _ _ st5 b hb;exact(I7.pin (b,o) (Qh _ (Qh _ (Yhm hb e)))).2.1
  cases f with
  | next=>obtain⟨σ7,H7,I7,n7⟩:=q7;grind
  | cont=>obtain⟨σ7,H7,I7,n7⟩:=q7;grind
  | brk=>obtain⟨σ7,H7,I7,q7⟩:=q7;exact⟨σ7,H7,I7.unpinned,q7⟩
  | ret v=>obtain⟨x7,σ7,H7,I7,r7,q7⟩:=q7;exact⟨x7,σ7,H7,I7.unpinned,r7,q7⟩
end
abbrev R2:=V->V->Hp->VK->Prop
def OpR(X:Cx)(f:Value->Value->Sem Value)(r:R2):Prop:=
 ∀(pins:AB) (s:Shared) (σ:St) (H:Hp) (x y:V) (v u:Value) (Q:VK),Inv X pins σ H s->RelV x v->RelV y u->r x y H Q->
  wpAny (model X.prog X.w) X.A (f v u) (EP X pins σ Q) X.xe s
def UnR(X:Cx)(f:Value->Sem Value)(r:V->Hp->VK->Prop):Prop:=
 ∀(pins:AB) (s:Shared) (σ:St) (H:Hp) (x:V) (v:Value) (Q:VK),Inv X pins σ H s->RelV x v->r x H Q->
  wpAny (model X.prog X.w) X.A (f v) (EP X pins σ Q) X.xe s
def Ydd(X:Cx)(f:Value)(r:AN->Hp->VK->Prop):Prop:=
 ∀(pins:AB) (s:Shared) (σ:St) (H:Hp) (xs:AN) (us:AC) (Q:VK),Inv X pins σ H s->Vals xs us->r xs H Q->
  wpAny (model X.prog X.w) X.A (call f us) (EP X pins σ Q) X.xe s
def TruR(X:Cx)(r:V->Hp->(Bool->Hp->Prop)->Prop):Prop:=
 ∀(pins:AB) (s:Shared) (σ:St) (H:Hp) (x:V) (v:Value) (Q:Bool->Hp->Prop),Inv X pins σ H s->RelV x v->r x H Q->
  wpAny (model X.prog X.w) X.A (truthy v) (TP X pins σ Q) X.xe s
def tOp(r:R2)(ta tb:TE):TE:=λσ H Q=>ta σ H λx H1=>tb σ H1 λy H2=>r x y H2 Q
def tUn(r:V->Hp->VK->Prop)(ta:TE):TE:=λσ H Q=>ta σ H λx H1=>r x H1 Q
def rI(C:Int->Int->Prop)(g:Int->Int->V):R2:=λx y H Q=>∃i j,x=.int i/\y=.int j/\C i j/\Q (g i j) H
def rI0(g:Int->Int->V):R2:=λx y H Q=>∃i j,x=.int i/\y=.int j/\Q (g i j) H
def rU(g:Int->V):V->Hp->VK->Prop:=λx H Q=>∃i,x=.int i/\Q (g i) H
section
variable {X:Cx}{a b c:Expr}{ta tb tc:TE}{pos:Pos}
theorem binT(ha:PE X a ta)(hb:PE X b tb){σ:St}{R:V->V->Hp->Prop}(I:Inv X pins σ H s)
 (h:ta σ H λx H1=>tb σ H1 λy H2=>R x y H2) {f:Value->Value->Sem Value}
 (hf:∀v u s2 x y H2,Inv X pins σ H2 s2->RelV x v->RelV y u->R x y H2->wpAny (model X.prog X.w) X.A (f v u) Q X.xe s2) :
 wpAny (model X.prog X.w) X.A (eval a X.env) (λv s₁=>wpAny (model X.prog X.w) X.A (eval b X.env) (λu s₂=>wpAny (model X.prog X.w) X.A (f v u) Q X.xe s₂) X.xe s₁) X.xe s:=by
 refine thn (ha pins s σ H _ I h) λv s1 hx_=>?_;obtain⟨x,H1,I1,r1,q1⟩:=hx_;refine thn (hb pins s1 σ H1 _ I1 q1) λu s2 hx_=>?_;obtain⟨y,H2,I2,r2,q2⟩:=hx_;grind
theorem Yabb(ho:OpR X (binaryOp op) r)(ha:PE X a ta)(hb:PE X b tb):PE X (.BinOp a op b pos) (tOp r ta tb):=by
 intro pins s σ H Q I h;exact wpAny_BinOp (binT ha hb I h λv u s2 x y H2 I2 rx ry q=>ho pins s2 σ H2 x y v u Q I2 rx ry q)
theorem Yaep(ho:UnR X (unaryOp op) r)(ha:PE X a ta):PE X (.UnaryOp op a pos) (tUn r ta):=by
 intro pins s σ H Q I h;refine UnaryOp_ (thn (ha pins s σ H _ I h) λv s1 hx_=>?_);obtain⟨x,H1,I1,r1,q1⟩:=hx_;exact ho pins s1 σ H1 x v Q I1 r1 q1
theorem opI{g:Int->Int->Int}
 (rule:∀(i j:Int) (t u:Tok) (s:Shared) (Q:AA) (E:AA),C i j->Q (.int (g i j) s.toks) { s with toks:=s.toks+1 }->wpAny (model X.prog X.w) X.A (f (.int i t) (.int j u)) Q E s) :
 OpR X f (rI C λi j=>.int (g i j)):=by
 intro pins s σ H x y v u Q I rx ry h;obtain⟨i,j,rfl,rfl,hc,q⟩:=h;obtain⟨t,rfl⟩:=rx;obtain⟨t',rfl⟩:=ry;exact rule i j t t' s _ _ hc ⟨.int (g i j),H,I.tok _,⟨_,rfl⟩,q⟩
theorem opI0{g:Int->Int->Int}
 (rule:∀(i j:Int) (t u:Tok) (s:Shared) (Q:AA) (E:AA),Q (.int (g i j) s.toks) { s with toks:=s.toks+1 }->wpAny (model X.prog X.w) X.A (f (.int i t) (.int j u)) Q E s) :
 OpR X f (rI0 λi j=>.int (g i j)):=by
 intro pins s σ H x y v u Q I rx ry h;obtain⟨i,j,rfl,rfl,q⟩:=h;obtain⟨t,rfl⟩:=rx;obtain⟨t',rfl⟩:=ry;exact rule i j t t' s _ _ ⟨.int (g i j),H,I.tok _,⟨_,rfl⟩,q⟩
theorem opB0{g:Int->Int->Bool}
 (rule:∀(i j:Int) (t u:Tok) (s:Shared) (Q:AA) (E:AA),Q (.bool (g i j)) s->wpAny (model X.prog X.w) X.A (f (.int i t) (.int j u)) Q E s) :
 OpR X f (rI0 λi j=>.bl (g i j)):=by
 intro pins s σ H x y v u Q I rx ry h;obtain⟨i,j,rfl,rfl,q⟩:=h;obtain⟨t,rfl⟩:=rx;obtain⟨t',rfl⟩:=ry;exact rule i j t t' s _ _ ⟨.bl (g i j),H,I,rfl,q⟩
def CDiv(i j:Int):Prop:=0<j/\j<1073741824
def CMul(i j:Int):Prop:=(-(2^64)<i/\i<2^64)\/(-(2^64)<j/\j<2^64)
theorem CMul.ok(h:CMul i j):IntMulOk i j:=by
 rcases h with⟨h1,h2⟩|⟨h1,h2⟩
 ·exact .of_left (intBits_le_64 h1 h2)
 ·exact .of_right (intBits_le_64 h1 h2)
theorem Yabc:OpR X (binaryOp .Add) (rI0 λi j=>.int (i+j)):=opI0 λ_ _ _ _ _ _ _ q=>add_int q
theorem Yabd:OpR X (binaryOp .Sub) (rI0 λi j=>.int (i-j)):=opI0 λ_ _ _ _ _ _ _ q=>sub_int q
theorem Yabe:OpR X (binaryOp .Mult) (rI CMul λi j=>.int (i*j)):=opI λ_ _ _ _ _ _ _ hc q=>mul_int q hc.ok
theorem y71:OpR X (binaryOp .FloorDiv) (rI CDiv λi j=>.int (i/j)):=opI λi j _ _ _ _ _ hc q=>by
 have h1:(0:Int)<j:=hc.1;have h2:j<1073741824:=hc.2;exact floordiv_int (by lia) (by grind) (.inl (PyProof.noPylong_small (by lia)))
theorem Yabf:OpR X (binaryOp .Mod) (rI (λ_ j=>0<j) λi j=>.int (i%j)):=opI λi j _ _ _ _ _ hc q=>by
 have h1:(0:Int)<j:=hc;exact mod_int' (by lia) (by grind)
theorem unI{g:Int->Int}
 (rule:∀(i:Int) (t:Tok) (s:Shared) (Q:AA) (E:AA),Q (.int (g i) s.toks) { s with toks:=s.toks+1 }->wpAny (model X.prog X.w) X.A (f (.int i t)) Q E s) :
 UnR X f (rU λi=>.int (g i)):=by
 intro pins s σ H x v Q I rx h;obtain⟨i,rfl,q⟩:=h;obtain⟨t,rfl⟩:=rx;exact rule i t s _ _ ⟨.int (g i),H,I.tok _,⟨_,rfl⟩,q⟩
theorem Yabg:UnR X (unaryOp .USub) (rU λi=>.int (-i)):=unI λ_ _ _ _ _ q=>neg_int q
end
def scal:V->V->Bool
 | .non,.non=>true|.non,.int _=>true|.int _,.non=>true|.non,.bl _=>true|.bl _,.non=>true|.non,.str _=>true|.str _,.non=>true
 | .int _,.int _=>true|.bl _,.bl _=>true|.str _,.str _=>true|.byt _,.byt _=>true
 | .int _,.str _=>true|.str _,.int _=>true|.bl _,.str _=>true|.str _,.bl _=>true
 | _,_=>false
section
variable {X:Cx}{a b c:Expr}{ta tb tc:TE}{pos:Pos}
theorem y0f{σ:St}(I:Inv X pins σ H s)(q:Q (.bl k) H)(e:k=k'):EP X pins σ Q (.bool k') s:=by
 subst e;exact⟨.bl k,H,I,rfl,q⟩
theorem Yabh:OpR X (compareOp .Lt) (rI0 λi j=>.bl (decide (i<j))):=opB0 λ_ _ _ _ _ _ _ q=>lt_int q
theorem y72:OpR X (compareOp .LtE) (rI0 λi j=>.bl (decide (i<=j))):=opB0 λ_ _ _ _ _ _ _ q=>le_int q
theorem Yaeq:OpR X (compareOp .Gt) (rI0 λi j=>.bl (decide (j<i))):=opB0 λ_ _ _ _ _ _ _ q=>gt_int q
theorem Yaer:OpR X (compareOp .GtE) (rI0 λi j=>.bl (decide (j<=i))):=opB0 λ_ _ _ _ _ _ _ q=>ge_int q
theorem y0g:OpR X (compareOp .In) (λx y H Q=>∃i j,x=.str i/\y=.str j/\Q (.bl (!(Builtin.Str.occurrences j i 0 j.length 1).isEmpty)) H):=by
 intro pins s σ H x y v u Q I rx ry h;obtain⟨i,j,rfl,rfl,q⟩:=h;obtain⟨t,rfl⟩:=rx;obtain⟨t',rfl⟩:=ry;exact in_str (y0f I q rfl)
theorem y64:OpR X (compareOp .Is) (λx y H Q=>y=.non/\Q (.bl (decide (x=.non))) H):=by
 intro pins s σ H x y v u Q I rx ry h;obtain⟨rfl,q⟩:=h;cases ry;refine is_none_gen (y0f I q ?_)
 cases x<;>first
  | (cases rx;rfl)
  | (obtain⟨t,rfl⟩:=rx;rfl)
theorem y0h:OpR X (compareOp .IsNot) (λx y H Q=>y=.non/\Q (.bl (!decide (x=.non))) H):=by
 intro pins s σ H x y v u Q I rx ry h;obtain⟨rfl,q⟩:=h;cases ry;refine isnot_none_gen (y0f I q ?_)
 cases x<;>first
  | (cases rx;rfl)
  | (obtain⟨t,rfl⟩:=rx;rfl)
theorem Yeq(b:Expr)(h:op≠.In:=by decide)(h2:op≠.NotIn:=by decide):behindInMarks op b=false:=by
 have e1:(op==CmpOp.In)=false:=by grind
 have e2:(op==CmpOp.NotIn)=false:=by grind
 cases b with
 | Set elts k p=>
   show((k==0)&&((op==CmpOp.In)||(op==CmpOp.NotIn))&&_)=false;grind
 | _=>rfl
theorem y0i(ho:OpR X (compareOp op) r)(ha:PE X a ta)(hb:PE X b tb)(hm:behindInMarks op b=false):PE X (.Compare a [op] [b] pos) (tOp r ta tb):=by
 intro pins s σ H Q I h;exact wpAny_Compare1 (binT ha hb I h λv u s2 x y H2 I2 rx ry q=>ho pins s2 σ H2 x y v u Q I2 rx ry q) hm
def y73(t:TE):TT:=λσ H Q=>t σ H λx H'=>∃k,x=.bl k/\Q k H'
theorem Yp5(ho:OpR X (compareOp op) r)(ha:PE X a ta)(hb:PE X b tb)(hm:behindInMarks op b=false):PT X (.Compare a [op] [b] pos) (y73 (tOp r ta tb)):=by
 intro pins s σ H Q I h;refine wpAny_isTrue_Compare1 (thn (ha pins s σ H _ I h) λv s1 hx_=>?_) hm;obtain⟨x,H1,I1,r1,q1⟩:=hx_;refine thn (hb pins s1 σ H1 _ I1 q1) λu s2 hx_=>?_;obtain⟨y,H2,I2,r2,q2⟩:=hx_;refine thn (ho pins s2 σ H2 x y v u _ I2 r1 r2 q2) λc s3 hx_=>?_;obtain⟨z,H3,I3,r3,k,e,q3⟩:=hx_;subst e;cases r3;exact wpAny_truthy_bool ⟨H3,I3,q3⟩
def y65(r r':R2)(ta tb tc:TE):TE:=λσ H Q=>ta σ H λx H1=>tb σ H1 λy H2=>r x y H2 λz H3=>∃k,z=.bl k/\
 (if k=true then tc σ H3 λw' H4=>r' y w' H4 Q else Q (.bl false) H3)
theorem y4e(ho:OpR X (compareOp op) r)(ho':OpR X (compareOp op') r')(ha:PE X a ta)(hb:PE X b tb)(hc:PE X c tc)
 (hm:lastMarks [op,op'] [b,c]=false:=by with_unfolding_all rfl):PE X (.Compare a [op,op'] [b,c] pos) (y65 r r' ta tb tc):=by
 intro pins s σ H Q I h;refine Compare_chain (thn (ha pins s σ H _ I h) λv s1 hx_=>?_) hm;obtain⟨x,H1,I1,r1,q1⟩:=hx_;refine chain_link (thn (hb pins s1 σ H1 _ I1 q1) λu s2 hx_=>?_);obtain⟨y,H2,I2,r2,q2⟩:=hx_;refine thn (ho pins s2 σ H2 x y v u _ I2 r1 r2 q2) λd s3 hx_=>?_;obtain⟨z,H3,I3,r3,k,e,q3⟩:=hx_;subst e;cases r3;refine wpAny_truthy_bool ?_
 cases k with
 | false=>exact ite_ff ⟨.bl false,H3,I3,rfl,q3⟩
 | true=>
   refine ite_tt (chain_last (thn (hc pins s3 σ H3 _ I3 q3) λw' s4 hx_=>?_));obtain⟨z',H4,I4,r4,q4⟩:=hx_;exact ho' pins s4 σ H4 y z' u w' Q I4 r2 r4 q4
theorem y4f{op op':CmpOp}{r r':R2}(ho:OpR X (compareOp op) r)(ho':OpR X (compareOp op') r')(ha:PE X a ta)(hb:PE X b tb)(hc:PE X c tc)
 (hm:lastMarks [op,op'] [b,c]=false:=by with_unfolding_all rfl):PT X (.Compare a [op,op'] [b,c] pos) (y73 (y65 r r' ta tb tc)):=by
 intro pins s σ H Q I h;refine isTrue_chain (thn (ha pins s σ H _ I h) λv s1 hx_=>?_) hm;obtain⟨x,H1,I1,r1,q1⟩:=hx_;refine test_link (thn (hb pins s1 σ H1 _ I1 q1) λu s2 hx_=>?_);obtain⟨y,H2,I2,r2,q2⟩:=hx_;refine thn (ho pins s2 σ H2 x y v u _ I2 r1 r2 q2) λd s3 hx_=>?_;obtain⟨z,H3,I3,r3,k,e,q3⟩:=hx_;subst e;cases r3;refine wpAny_truthy_bool ?_
 cases k with
 | false=>
   obtain⟨k',e',q'⟩:=q3;cases e';exact ite_ff ⟨H3,I3,q'⟩
 | true=>
   refine ite_tt (test_last (thn (hc pins s3 σ H3 _ I3 q3) λw' s4 hx_=>?_));obtain⟨z',H4,I4,r4,q4⟩:=hx_;refine thn (ho' pins s4 σ H4 y z' u w' _ I4 r2 r4 q4) λd' s5 hx_=>?_;obtain⟨z2,H5,I5,r5,k2,e2,q5⟩:=hx_;subst e2;cases r5;exact wpAny_truthy_bool ⟨H5,I5,q5⟩
def TruV(K:W.Frag)(x:V)(H:Hp)(k:Bool):Prop:=
 match x with
 | .non=>k=false
 | .bl b=>k=b
 | .int i=>k=(i != 0)
 | .str y=>y.length<=sizeLine/\k=((y.length:Int)!=0)
 | .byt y=>y.size<=sizeLine/\k=((y.size:Int)!=0)
 | .ref p=>(∃xs,SqL K H p xs/\k=!xs.isEmpty)\/(∃xs,SqT K H p xs/\k=!xs.isEmpty)\/∃kvs,H p=some (.dK kvs)/\k=!kvs.isEmpty
 | _=>False
theorem Yyp{vs:List (κ×Value)}(r:KV kvs vs):(!vs.isEmpty)=!kvs.isEmpty:=by
 cases r<;>rfl
theorem Ypa(r:Vals xs its):(!its.toArray.isEmpty)=!xs.isEmpty:=by
 cases r<;>simp
theorem Yl7:(sizeLine:Nat)<2^63:=by rw[jj];decide
theorem Yabi:TruR X (λx H Q=>∃k,TruV X.K x H k/\Q k H):=by
 intro pins s σ H x v Q I rx h;obtain⟨k,e,q⟩:=h;have hl:=Yl7;have hs:sizeLine=16777216:=jj
 cases x with
 | non=>
   cases rx;have e':k=false:=e;subst e';exact truthy_none ⟨H,I,q⟩
 | bl b=>
   cases rx;have e':k=b:=e;subst e';exact wpAny_truthy_bool ⟨H,I,q⟩
 | int i=>
   obtain⟨t,rfl⟩:=rx;have e':k=(i != 0):=e;subst e';exact PySem.P.truthy_int ⟨H,I,q⟩
 | str y=>
   obtain⟨t,rfl⟩:=rx;obtain⟨hy,e'⟩:y.length<=sizeLine/\k=((y.length:Int)!=0):=e;subst e';exact PySem.P.truthy_str (by lia) ⟨H,I.tok _,q⟩
 | byt y=>
   obtain⟨t,rfl⟩:=rx;obtain⟨hy,e'⟩:y.size<=sizeLine/\k=((y.size:Int)!=0):=e;subst e';exact W.truthy_bytes (by lia) ⟨H,I.tok _,q⟩
 | ref p=>
   cases rx;have e':(∃xs,SqL X.K H p xs/\k=!xs.isEmpty)\/(∃xs,SqT X.K H p xs/\k=!xs.isEmpty)\/∃kvs,H p=some (.dK kvs)/\k=!kvs.isEmpty:=e;rcases e' with⟨xs,hx,e'⟩|⟨xs,hx,e'⟩|⟨kvs,hx,e'⟩
   ·subst e'
    obtain⟨its,r,pl,hz⟩:=I.list hx;have hlen:=r.length;exact wpAny_truthy_list pl.isList (by grind) ⟨H,I.tok _,by rw[Ypa r];exact q⟩
   ·subst e'
    obtain⟨its,r,pl,hz⟩:=I.tuple hx;have hlen:=r.length;exact truthy_tuple pl (by grind) ⟨H,I.tok _,by rw[Ypa r];exact q⟩
   ·subst e'
    obtain⟨hz,hS,vs,r,m⟩:kvs.length<=sizeLine/\(p==sysModules)=false/\∃vs,KV kvs vs/\s.heap.DictOf (Yut X.prog X.w) p vs:=I.hok p _ hx;have hlen:kvs.length=vs.length:=Paired.length r;exact wpAny_truthy_dict hS m (by lia) ⟨H,I.tok _,by rw[Yyp r];exact q⟩
 | _=>exact(show False from e).elim
theorem y4g(ha:PE X a ta)(he:∀whole,isTrue a X.env whole=(do let v <-whole;standAt a.pos;holding [v] (truthy v))) :
 PT X a (λσ H Q=>ta σ H λx H'=>∃k,TruV X.K x H' k/\Q k H'):=by
 intro pins s σ H Q I h;refine isTrue_plain (thn (ha pins s σ H _ I h) λv s1 hx_=>?_) (he _);obtain⟨x,H1,I1,r1,q1⟩:=hx_;exact Yabi pins s1 σ H1 x v Q I1 r1 q1
theorem Yyq:OpR X (binaryOp .Add) (λx y H Q=>∃i j,x=.str i/\y=.str j/\i.length+j.length<=sizeLine/\Q (.str (i++j)) H):=by
 intro pins s σ H x y v u Q I rx ry h;obtain⟨i,j,rfl,rfl,hz,q⟩:=h;obtain⟨t,rfl⟩:=rx;obtain⟨t',rfl⟩:=ry;exact add_str (λt' tk=>⟨.str (i++j),H,I.tok _,⟨_,rfl⟩,q⟩) hz
theorem Yfj(r:Vals [x] us):∃u,us=[u]/\RelV x u:=by
 cases r with
 | cons r1 r2=>cases r2;grind
theorem y0j(r:Vals [x,y] us):∃u w',us=[u,w']/\RelV x u/\RelV y w':=by
 cases r with
 | cons r1 r2=>
   cases r2 with
   | cons r3 r4=>cases r4;grind
theorem Ysm(hc:X.calm=true):Ydd X (.builtin "max") (λxs H Q=>∃i j,xs=[.int i,.int j]/\Q (.int (if j > i then j else i)) H):=by
 intro pins s σ H xs us Q I r h;obtain⟨i,j,rfl,q⟩:=h;obtain⟨u,w',rfl,⟨t,rfl⟩,⟨t',rfl⟩⟩:=y0j r
 refine max_two_ints (I.ok.hd hc) λh' tk k=>⟨_,H,I.kept k,?_,q⟩
 by_cases hj:j > i
 ·rw[if_pos hj,if_pos hj];exact⟨_,rfl⟩
 ·rw[if_neg hj,if_neg hj];exact⟨_,rfl⟩
theorem Yl8:Ydd X (.type "int") (λxs H Q=>(∃i,xs=[.int i]/\Q (.int i) H)\/∃k,xs=[.bl k]/\Q (.int (if k then 1 else 0)) H):=by
 intro pins s σ H xs us Q I r h;rcases h with⟨i,rfl,q⟩|⟨k,rfl,q⟩
 ·obtain⟨u,rfl,t,rfl⟩:=Yfj r
  exact call_int_int ⟨.int i,H,I,⟨_,rfl⟩,q⟩
 ·obtain⟨u,rfl,r1⟩:=Yfj r
  cases r1;exact call_int_bool ⟨.int (if k then 1 else 0),H,I.tok _,⟨_,rfl⟩,q⟩
theorem Yde:Ydd X (.type "str") (λxs H Q=>∃i,xs=[.int i]/\i.natAbs.log2<1920/\Q (.str (toString i)) H):=by
 intro pins s σ H xs us Q I r h;obtain⟨i,rfl,hz,q⟩:=h;obtain⟨u,rfl,t,rfl⟩:=Yfj r;exact PySem.P.str_of_int hz ⟨.str _,H,I.tok _,⟨_,rfl⟩,q⟩
end
structure ObjM(h:Heap)(x dx C:Addr)(mA:AE):Prop where
 obj:h.get? x=some (W.instObj C dx)
 ns:h.Ns1 dx mA
 ne:dx≠x
theorem y0k{h:Heap}(n:h.Ns1 dx mA):∃od,h.get? dx=some od/\∀name,W.lookIn name od=some (mA name):=by
 obtain⟨o,es,ep,ho,hd,hk,_,hm⟩:=n;refine⟨o,ho,λname=>?_⟩;have e:=hm name;unfold nsFind findBy at e;rw[<-Array.find?_toList]at e;unfold W.lookIn;rw[hd];dsimp only
 split
 ·grind
 ·rename_i q
  rw[q]at e
  have a:es.toList.any (·.refKey)=false:=by
   rw[List.any_eq_false];intro y hy;obtain⟨z,t,hkey⟩:=hk y (Array.mem_toList_iff.mp hy);simp[DictEntry.refKey,hkey]
  grind
theorem ObjM.look(I:ObjM h x dx C mA):∃od,W.InstAt h x (W.instObj C dx) C (some od)/\∀name,W.lookIn name od=some (mA name):=
 let ⟨od,ho,hl⟩:=y0k I.ns
 ⟨od,⟨I.obj,rfl,rfl,ho⟩,hl⟩
section
variable {prog:Program}{w:World}{A:Around}{E:AA}{s:Shared}{K:W.Frag}{x dx C f:Addr}{mA:AE}{name:Str}{v:Value}
theorem y74{expr:Bool}{Q:AA}(X:K.In s.heap)(I:ObjM s.heap x dx C mA)(hg:W.plainGet K C name=true)(hh:W.hasDictIn K C=true)
 (ha:W.findIn K (.ref C) name=some none) (hv:mA name=some v) (hv':W.handedIn v=true) (h:Q v { s with toks:=s.toks+1 }) :
 wpAny (model prog w) A (getAttr (.ref x) name expr) Q E s:=by
 obtain⟨od,J,hl⟩:=I.look;exact W.get_value X J (W.plainGet_of hg).1 (W.findObj_own hh ha rfl (by rw[hl,hv])) hv' h
theorem y4h{pl:Sem Bool}{Q:Value×AC->Shared->Prop}(X:K.In s.heap)(I:ObjM s.heap x dx C mA)(hg:W.plainGet K C name=true)
 (hf:W.findIn K (.ref C) name=some (some (.ref f))) (ht:W.isFn K (.ref f)=true) (hv:mA name=none) (h:Q (.ref f,[.ref x]) s) :
 wpAny (model prog w) A (getMethod (.ref x) name pl) Q E s:=by
 obtain⟨od,J,hl⟩:=I.look;exact W.method_fn X J (W.plainGet_of hg).1 (W.plainGet_of hg).2 hf (beq_iff_eq.mp ht) (by show(W.lookIn name od).map (·.isSome)=some false;rw[hl,hv];rfl) h
theorem y75{ns:AK}{Q:Unit->Shared->Prop}(X:K.In s.heap)(I:ObjM s.heap x dx C mA)
 (hs:W.findIn K (.ref C) "__setattr__"=some (some (.builtin "object.__setattr__"))) (hp:W.plainOver K C=true) (ht:W.takerIn K C name=some none) (hh:W.hasDictIn K C=true)
 (hw:PySem.Within mA ns) (hsz:ns.length<=sizeLine)
 (h:∀h',ObjM h' x dx C (λy=>if y=name then some v else mA y)->Heap.SameBut dx s.heap h'->Q () { s with heap:=h',toks:=s.toks+2 }) :
 wpAny (model prog w) A (setAttr (.ref x) name v) Q E s:=by
 obtain⟨od,J,hl⟩:=I.look;refine W.set_plain X J hs (W.osa_open (s:={ s with toks:=s.toks+1 }) (r:=none) X J hp ht λb=>?_);obtain⟨cd,hc,hd'⟩:=W.any_some hh;have hx:s.heap.get? x=some ⟨.ref C,some dx,.plain,#[]⟩:=I.obj;refine wa (wc (wa (wa (wpAny_loadPart hx (wa (W.Looks.here (s:={ s with toks:=s.toks+1 }) (W.looks_clsIn X hc) ?_))))));rw[hd'];refine wc (a:=some dx) (wa (wc (wa ?_)));refine wpAny_nsSet1 (s:={ s with toks:=s.toks+1 }) I.ns λh' hn2 hs2=>?_;obtain⟨oD,esD,epD,hoD,hdD,hcD⟩:=hn2.count (PySem.Within.cons name v hw);refine wa (wpAny_lookBehind hoD (by rw[hdD];exact pastItsLine_dict (Qb hcD (by rw[qr];lia))) ?_);exact wc (h _ ⟨(hs2.2 _ (Ne.symm I.ne)).trans I.obj,hn2,I.ne⟩ hs2)
theorem y4i{R:Result->Shared->Prop}{vs:AC}{kw:List (Str×Value)}(X:K.In s.heap)(hm:W.makesIn K C=true)
 (hi:W.findIn K (.ref C) "__init__"=some (some (.ref f))) (hf:W.typeIn K (.ref f)=some (.type "function"))
 (h:codeAny (model prog w) (A.under (.builtin "type.__call__" ⟨.ref C::vs,kw⟩)) (.call (.ref f) ⟨.ref (~~~s+1)::vs,kw⟩) (W.InitBack (~~~s+1) R)
  { s with heap:=(s.heap.push W.emptyDict).push (W.instObj C (~~~s)) }) :
 codeAny (model prog w) A (.call (.ref C) ⟨vs,kw⟩) R s:=by
 obtain⟨hh,g,d,t,os⟩:=s;exact W.make_core (W.makes_of X hm) (W.looks_findIn X hi) (λself=>W.bind_fn X self hf) (.inl rfl) h
end
def putF(f:Str)(v:V):List (Str×V)->List (Str×V)
 | []=>[(f,v)]
 | (g,x)::r=>if g=f then (g,v)::r else (g,x)::putF f v r
theorem Yl9(f g:Str)(v:V):∀fs:List (Str×V),(putF f v fs).lookup g=if g=f then some v else fs.lookup g
 | []=>by
   show List.lookup g [(f,v)]=_;by_cases h:g=f
   ·have hb:(g==f)=true:=beq_iff_eq.mpr h
    simp only[List.lookup,hb,if_pos h]
   ·have hb:(g==f)=false:=beq_eq_false_iff_ne.mpr h
    simp only[List.lookup,hb,if_neg h]
 | (k,x)::r=>by
   have ih:=Yl9 f g v r;rw[show putF f v ((k,x)::r)=(if k=f then (k,v)::r else (k,x)::putF f v r) from rfl];by_cases hk:k=f
   ·rw[if_pos hk]
    by_cases h:g=k
    ·have hb:(g==k)=true:=beq_iff_eq.mpr h
     simp only[List.lookup,hb,if_pos (h.trans hk)]
    ·have hb:(g==k)=false:=beq_eq_false_iff_ne.mpr h
     simp only[List.lookup,hb,if_neg (λe:g=f=>h (e.trans hk.symm))]
   ·rw[if_neg hk]
    by_cases h:g=k
    ·have hb:(g==k)=true:=beq_iff_eq.mpr h
     simp only[List.lookup,hb,if_neg (λe:g=f=>hk (h.symm.trans e))]
    ·have hb:(g==k)=false:=beq_eq_false_iff_ne.mpr h
     simp only[List.lookup,hb];exact ih
theorem Yma(f:Str)(v:V):∀fs:List (Str×V),f∈(putF f v fs).map (·.1)/\∀g,g∈fs.map (·.1)->g∈(putF f v fs).map (·.1)
 | []=>⟨by simp[putF],λg h=>by simp at h⟩
 | (k,x)::r=>by
   obtain⟨i1,i2⟩:=Yma f v r;rw[show putF f v ((k,x)::r)=(if k=f then (k,v)::r else (k,x)::putF f v r) from rfl];by_cases hk:k=f
   ·rw[if_pos hk]
    subst hk;exact⟨by simp,λg h=>by simpa using h⟩
   ·rw[if_neg hk]
    refine⟨?_,λg h=>?_⟩
    ·rw[Qa]
     exact qg _ i1
    ·rw[Qa]at h ⊢
     rcases qt h with e|e
     ·exact List.mem_cons.mpr (.inl e)
     ·exact qg _ (i2 g e)
theorem Ymb(f:Str)(v:V):∀fs:List (Str×V),(putF f v fs).length<=fs.length+1
 | []=>by simp[putF]
 | (k,x)::r=>by
   have ih:=Ymb f v r;rw[show putF f v ((k,x)::r)=(if k=f then (k,v)::r else (k,x)::putF f v r) from rfl];by_cases hk:k=f
   ·rw[if_pos hk,qr,qr];lia
   ·rw[if_neg hk,qr,qr];lia
theorem RelO.some_of(r:RelO (some v) o):∃u,o=some u/\RelV v u:=by
 cases o with
 | none=>exact(show False from r).elim
 | some u=>exact⟨u,rfl,r⟩
theorem RelO.none_of{o:Option Value}(r:RelO none o):o=none:=by
 cases o with
 | none=>rfl
 | some u=>exact(show False from r).elim
theorem y0l{v:V}{u:Value}(r:RelV v u):W.handedIn u=true:=by
 cases v with
 | non=>cases (show u=Value.none from r);rfl
 | bl b=>cases (show u=Value.bool b from r);rfl
 | int i=>obtain⟨t,e⟩:=(show ∃t,u=Value.int i t from r);cases e;rfl
 | str x=>obtain⟨t,e⟩:=(show ∃t,u=Value.str x t from r);cases e;rfl
 | byt b=>obtain⟨t,e⟩:=(show ∃t,u=Value.bytes b t from r);cases e;rfl
 | flt b=>obtain⟨t,e⟩:=(show ∃t,u=Value.float b t from r);cases e;rfl
 | ref a=>cases (show u=Value.ref a from r);rfl
 | ty n=>cases (show u=Value.type n from r);rfl
section
variable {P:Program}{w:World}{H H':Hp}{h h':Heap}{a C dx:Addr}{fs fs':List (Str×V)}
theorem Yp6(hok:HOk P w H h)(e:H a=some (.ins C dx fs)):∃mA,ObjM h a dx C mA/\(∀f,RelO (fs.lookup f) (mA f))/\PySem.Within mA (fs.map (·.1))/\fs.length<=1000/\H dx=some (.own a):=by
 obtain⟨d,z,ne,ob,mA,n,r,q⟩:=(show ObjOk P w H h a (.ins C dx fs) from hok a _ e)
 exact⟨mA,⟨ob,n,ne⟩,r,q,z,d⟩
end
structure Cls(K:W.Frag)(C:Addr):Prop where
 pg:W.plainGet K C Str.empty=true
 hd:W.hasDictIn K C=true
 po:W.plainOver K C=true
 sa:W.findIn K (.ref C) "__setattr__"=some (some (.builtin "object.__setattr__"))
theorem Cls.get{K:W.Frag}(c:Cls K C)(f:Str):W.plainGet K C f=true:=c.pg
def NoAttr(K:W.Frag)(C:Addr)(f:Str):Prop:=W.findIn K (.ref C) f=some none
theorem NoAttr.taker{K:W.Frag}{C:Addr}{f:Str}(n:NoAttr K C f):W.takerIn K C f=some none:=by
 unfold W.takerIn;rw[show W.findIn K (.ref C) f=some none from n];rfl
structure Con(K:W.Frag)(C:Addr)(f:Str)(v:V)(u:Value):Prop where
 at_:W.findIn K (.ref C) f=some (some u)
 rel:RelV v u
 get:W.specialIn K u "__get__"=some none
 cp:W.copiedNames.contains f=false
structure Meth(K:W.Frag)(C:Addr)(m:Str)(f:Addr):Prop where
 at_:W.findIn K (.ref C) m=some (some (.ref f))
 fn:W.isFn K (.ref f)=true
 kp:W.keepIn K (.ref f)=true
section
variable {X:Cx}{pins:AB}{σ:St}{H:Hp}{s:Shared}{a C dx:Addr}{fs:List (Str×V)}{f:Str}{v:V}{A:Around}{E:AA}
theorem Yyr{b:Bool}{Q:AA}(I:Inv X pins σ H s)(e:H a=some (.ins C dx fs))(c:Cls X.K C)(n:NoAttr X.K C f)(l:fs.lookup f=some v)
 (h:∀u s',Inv X pins σ H s'->RelV v u->Q u s'):wpAny (model X.prog X.w) A (getAttr (.ref a) f b) Q E s:=by
 obtain⟨mA,O,r,_,_,_⟩:=Yp6 I.hok e;obtain⟨u,hu,ru⟩:=RelO.some_of (v:=v) (o:=mA f) (by rw[<-l];exact r f);exact y74 I.kIn O (c.get f) c.hd n hu (y0l ru) (h u _ (I.tok _) ru)
theorem Ypb{m:Str}{g:Addr}{pl:Sem Bool}{Q:Value×AC->Shared->Prop}(I:Inv X pins σ H s)(e:H a=some (.ins C dx fs))(c:Cls X.K C)(k:Meth X.K C m g)(l:fs.lookup m=none)
 (h:Q (.ref g,[.ref a]) s):wpAny (model X.prog X.w) A (getMethod (.ref a) m pl) Q E s:=by
 obtain⟨mA,O,r,_,_,_⟩:=Yp6 I.hok e;have hn:mA m=none:=RelO.none_of (by rw[<-l];exact r m);exact y4h I.kIn O (c.get m) k.at_ k.fn hn h
theorem Yys{y:V}{u:Value}{Q:Unit->Shared->Prop}(I:Inv X pins σ H s)(e:H a=some (.ins C dx fs))(c:Cls X.K C)(n:NoAttr X.K C f)(hl:fs.length<1000)(ry:RelV y u)
 (h:∀s',Inv X pins σ (upd H a (.ins C dx (putF f y fs))) s'->Q () s'):wpAny (model X.prog X.w) A (setAttr (.ref a) f u) Q E s:=by
 obtain⟨mA,O,r,wi,_,ho⟩:=Yp6 I.hok e
 have hz:(fs.map (·.1)).length<=sizeLine:=by rw[qf,jj];lia
 refine y75 I.kIn O c.sa c.po n.taker c.hd wi hz λh' O' sb=>h _ ?_;have hd:∃o,h'.get? dx=some o:=let ⟨o,_,_,e',_⟩:=O'.ns;⟨o,e'⟩;refine I.write (x:=a) (e:=dx) (by rw[e];exact True.intro) (.inr ho) (λb q hb z=>(sb.2 b hb).trans z) hd ?_;refine⟨by rw[Yx O.ne];exact ho,?_,O.ne,O'.obj,_,O'.ns,λg=>?_,λg hg=>?_⟩
 ·have:=Ymb f y fs;lia
 ·show RelO ((putF f y fs).lookup g) (if g=f then some u else mA g)
  rw[Yl9];by_cases q:g=f
  ·rw[if_pos q,if_pos q];exact ry
  ·rw[if_neg q,if_neg q];exact r g
 ·by_cases q:g=f
  ·rw[q];exact(Yma f y fs).1
  ·refine(Yma f y fs).2 g (wi g λz=>hg ?_)
   show(if g=f then some u else mA g)=none;rw[if_neg q];exact z
theorem Inv.made(I:Inv X pins σ H s):Inv X pins σ (upd (upd H (~~~s) (.own (~~~s+1))) (~~~s+1) (.ins C (~~~s) []))
 { s with heap:=(s.heap.push W.emptyDict).push (W.instObj C (~~~s)) }:=by
 have e1:(s.heap.push W.emptyDict).get? (~~~s)=some W.emptyDict:=qp s.heap rfl
 have e2:((s.heap.push W.emptyDict).push (W.instObj C (~~~s))).get? (~~~s+1)=some (W.instObj C (~~~s)):=by
  have:=qp (s.heap.push W.emptyDict) (o:=W.instObj C (~~~s)) rfl
  rwa [ww]at this
 have e3:(s.heap.push W.emptyDict).Ns (~~~s) (λ_=>none):=⟨W.emptyDict,#[],_,e1,rfl,(λe he=>absurd he (by simp)),λ_=>rfl⟩
 have I1:=I.laid (a:= ~~~s) (o:=.own (~~~s+1)) (h':=s.heap.push W.emptyDict) (t':=s.toks) (λb u q=>qe _ q) (qu _) ⟨_,e1⟩;refine I1.laid (a:= ~~~s+1) (o:=.ins C (~~~s) []) (t':=s.toks) (λb u q=>qe _ q) (Nat.le_of_eq (ww _ _)) ?_;have ne:(~~~s)≠(~~~s)+1:=qm (qz _);refine⟨by rw[Yx ne,Yy],jc _,ne,e2,λ_=>none,(Heap.Ns1.of_empty e3).at λo q=>qe _ q,λ_=>True.intro,λy hy=>absurd rfl hy⟩
theorem y76{prog:Program}{w:World}{env:Env}{e:Expr}{f:Str}{pos:Pos}{s:Shared}{Q:AA}(hb:attributeBase e f env (eval e env)=eval e env)
 (h:wpAny (model prog w) A (eval e env) (λo s₁=>wpAny (model prog w) A (getAttr o f true) Q E s₁) E s):wpAny (model prog w) A (eval (.Attribute e f pos) env) Q E s:=
 Attribute_any_ h (by rw[arm_eval_Attribute,hb])
end
def tFld(K:W.Frag)(ta:TE)(f:Str):TE:=λσ H Q=>ta σ H λx H1=>∃a C dx fs v,x=.ref a/\H1 a=some (.ins C dx fs)/\Cls K C/\NoAttr K C f/\fs.lookup f=some v/\Q v H1
def sFld(K:W.Frag)(ta tv:TE)(f:Str):TS:=λD σ H=>tv σ H λy H1=>ta σ H1 λx H2=>∃a C dx fs,x=.ref a/\H2 a=some (.ins C dx fs)/\Cls K C/\NoAttr K C f/\fs.length<1000/\
 D.nx σ (upd H2 a (.ins C dx (putF f y fs)))
section
variable {X:Cx}{o e value:Expr}{f:Str}{pos pos' tpos:Pos}{ta tv:TE}{pins:AB}{σ:St}{H:Hp}{s:Shared}{A:Around}{E Q:AA}{c:Value}{b:Bool}
theorem y0m(he:PE X e ta)(hb:attributeBase e f X.env (eval e X.env)=eval e X.env):PE X (.Attribute e f pos) (tFld X.K ta f):=by
 intro pins s σ H Q I h;refine y76 hb (thn (he pins s σ H _ I h) λu s1 hx_=>?_);obtain⟨x,H1,I1,rx,a,C,dx,fs,v,ex,ea,c,n,l,q⟩:=hx_;subst ex;obtain rfl:u=Value.ref a:=rx
 exact Yyr I1 ea c n l λu' s2 I2 ru=>⟨v,H1,I2,ru,q⟩
theorem y66(ha:PE X o ta)(hv:PE X value tv)(hs:swapsWith value (some (.Attribute o f pos')) pos.line X.env=pure false):PS X (.Assign [.Attribute o f pos'] value pos) (sFld X.K ta tv f):=by
 intro pins s σ H D I h;refine plainObj_wpAny_Assign_Attribute (thn (hv pins s σ H _ I h) λu s1 hx_=>?_) hs;obtain⟨y,H1,I1,ry,q⟩:=hx_;refine thn (ha pins s1 σ H1 _ I1 q) λov s2 hx_=>?_;obtain⟨x,H2,I2,rx,a,C,dx,fs,ex,ea,c,n,l,q2⟩:=hx_;subst ex;obtain rfl:ov=Value.ref a:=rx
 exact Yys I2 ea c n l ry λs3 I3=>⟨σ,_,I3,q2⟩
inductive TyOf (K:W.Frag) (H:Hp):V->Value->Prop where
 | non:TyOf K H .non (.type "NoneType")
 | bl (x:Bool):TyOf K H (.bl x) (.type "bool")
 | int (i:Int):TyOf K H (.int i) (.type "int")
 | str (x:Str):TyOf K H (.str x) (.type "str")
 | flt (x:UInt64):TyOf K H (.flt x) (.type "float")
 | lst {a:Addr}{xs:AN} (e:H a=some (.lst xs)):TyOf K H (.ref a) (.type "list")
 | frz {a:Addr}{o:Obj}{xs:AN} (e:H a=some (.frz o (.lst xs))):TyOf K H (.ref a) (.type "list")
 | tup {a:Addr}{xs:AN} (e:H a=some (.tup xs)):TyOf K H (.ref a) (.type "tuple")
 | dK {a:Addr}{kvs:List (Key×V)} (e:H a=some (.dK kvs)):TyOf K H (.ref a) (.type "dict")
 | dT {a:Addr}{kvs:List (List Key×V)} (e:H a=some (.dT kvs)):TyOf K H (.ref a) (.type "dict")
 | ins {a C dx:Addr}{fs:List (Str×V)} (e:H a=some (.ins C dx fs)) (cl:Cls K C) (ha:W.findIn K (.ref C) "__class__"=some (some (.builtin "object.__class__")))
  (hn:W.specialIn K (.builtin "object.__class__") "__get__"=some (some (.builtin "getset_descriptor.__get__"))) (htk:W.takesIn K (.builtin "object.__class__")=some true)
  (hm:W.mroIn K C (.type "object")=some true):TyOf K H (.ref a) (.ref C)
theorem y0n(I:Inv X pins σ H s)(rx:RelV x u)(ty:TyOf X.K H x t)(e:W.kitOne X.K t c=some b)(h:∀tk,Q (.bool b) { s with toks:=tk }) :
 wpAny (model X.prog X.w) A (call (.builtin "isinstance") [u,c]) Q E s:=by
 cases ty with
 | non=>cases (show u=Value.none from rx);exact W.kia_one W.kitx_none I.kIn True.intro e (λz=>nomatch z) h
 | bl y=>cases (show u=Value.bool y from rx);exact W.kia_one W.kitx_bool I.kIn True.intro e (λz=>nomatch z) h
 | int i=>obtain⟨t,q⟩:=(show ∃t,u=Value.int i t from rx);cases q;exact W.kia_one W.kitx_int I.kIn True.intro e (λz=>nomatch z) h
 | str y=>obtain⟨t,q⟩:=(show ∃t,u=Value.str y t from rx);cases q;exact W.kia_one W.kitx_str I.kIn True.intro e (λz=>nomatch z) h
 | flt y=>obtain⟨t,q⟩:=(show ∃t,u=Value.float y t from rx);cases q;exact W.kia_one W.kitx_float I.kIn True.intro e (λz=>nomatch z) h
 | @lst a xs ea=>
   cases (show u=Value.ref a from rx)
   obtain⟨_,_,n,_,h1⟩:=(show ObjOk X.prog X.w H s.heap a (.lst xs) from I.hok a _ ea)
   exact W.kia_one W.kitx_list I.kIn ⟨_,h1,rfl⟩ e (λz=>nomatch z) h
 | @frz a ob xs ea=>
   cases (show u=Value.ref a from rx)
   obtain⟨_,_,_,n,_,h1⟩:=(show ObjOk X.prog X.w H s.heap a (.frz ob (.lst xs)) from I.hok a _ ea)
   exact W.kia_one W.kitx_list I.kIn ⟨_,h1,rfl⟩ e (λz=>nomatch z) h
 | @tup a xs ea=>
   cases (show u=Value.ref a from rx)
   obtain⟨_,_,_,p⟩:=(show ObjOk X.prog X.w H s.heap a (.tup xs) from I.hok a _ ea)
   obtain⟨o,h1,h2,_⟩:=p;exact W.kia_one W.kitx_tuple I.kIn ⟨o,h1,h2⟩ e (λz=>nomatch z) h
 | @dK a kvs ea=>
   cases (show u=Value.ref a from rx)
   obtain⟨_,_,vs,_,p⟩:=(show ObjOk X.prog X.w H s.heap a (.dK kvs) from I.hok a _ ea)
   obtain⟨o,es,ep,h1,h2,_⟩:=p;exact W.kia_one W.kitx_dict I.kIn ⟨o,h1,h2.1⟩ e (λz=>nomatch z) h
 | @dT a kvs ea=>
   cases (show u=Value.ref a from rx)
   obtain⟨_,_,xs,_,o,es,ep,h1,h2,_⟩:=(show ObjOk X.prog X.w H s.heap a (.dT kvs) from I.hok a _ ea)
   exact W.kia_one W.kitx_dict I.kIn ⟨o,h1,h2.1⟩ e (λz=>nomatch z) h
 | @ins a C dx fs ea cl ha hn htk hm=>
   cases (show u=Value.ref a from rx);obtain⟨mA,O,_⟩:=Yp6 I.hok ea;obtain⟨od,J,_⟩:=O.look;exact W.kia_one (W.kitx_own (cl.get _) cl.hd ha hn htk hm) I.kIn J e (λz=>nomatch z) h
end
structure Room(k:Nat)(A:Around):Prop where
 hd:A.handled=none
 dp:A.depth+3*k+5<recursionLimit
 un:A.units+16*k+200<cLine
theorem Room.mono(r:Room k A)(h:j<=k):Room j A:=⟨r.hd,by have:=r.dp;lia,by have:=r.un;lia⟩
theorem Room.deeper(r:Room (k+1) A)(env:Env):Room k (A.deeper env):=
 ⟨r.hd,by have:=r.dp;show A.depth+1+3*k+5<_;lia,by have:=r.un;show A.units+3+16*k+200<_;lia⟩
theorem Yyt{A:Around}{C:Addr}{us:AC}{kw:List (Str×Value)}:(A.under (.builtin "type.__call__" ⟨.ref C::us,kw⟩)).depth=A.depth+1:=by
 first|rfl|simp[Around.under,Code.weight,Code.isCreation,Code.isGuard,Code.isCaller,Code.frames,Code.isFrame,guardIds]
theorem Yyu{A:Around}{C:Addr}{us:AC}{kw:List (Str×Value)}:(A.under (.builtin "type.__call__" ⟨.ref C::us,kw⟩)).units=A.units+1:=by
 first|rfl|simp[Around.under,Code.cUnits,Code.frames,Code.isFrame]
theorem Room.make{k:Nat}{A:Around}(r:Room (k+1) A)(C:Addr)(us:AC)(kw:List (Str×Value)):Room k (A.under (.builtin "type.__call__" ⟨.ref C::us,kw⟩)):=
 ⟨r.hd,by have:=r.dp;rw[Yyt];lia,by have:=r.un;rw[Yyu];lia⟩
theorem Room.depth(r:Room k A):A.depth<recursionLimit:=by have:=r.dp;lia
theorem Room.units(r:Room k A):A.units+64<cLine:=by have:=r.un;lia
def tNil:TA:=λ_ H Q=>Q [] H
def Yaes(ta:TE)(tr:TA):TA:=λσ H Q=>ta σ H λx H1=>tr σ H1 λxs H2=>Q (x::xs) H2
section
variable {X:Cx}{e:Expr}{es:AL}{te:TE}{t:TA}{pos:Pos}
theorem Yer:PA X [] tNil:=λ_ _ _ _ H Q I h=>Calls.spliced_nil ⟨[],H,I,.nil,h⟩
theorem Yb7(ha:PE X e te)(hr:PA X es t)(hs:starEach (e::es) X.env=(false,eval e X.env)::starEach es X.env:=by rfl):PA X (e::es) (Yaes te t):=by
 intro pos pins s σ H Q I h;rw[hs];show wpAny _ _ (spliced ((false,eval e X.env)::backTo pos (starEach es X.env))) _ _ s;refine Calls.spliced_cons (thn (ha pins s σ H _ I h) λu s1 hx_=>?_);obtain⟨x,H1,I1,r1,q1⟩:=hx_;refine thn (hr pos pins s1 σ H1 _ I1 q1) λus s2 hx_=>?_;obtain⟨xs,H2,I2,r2,q2⟩:=hx_;exact⟨x::xs,H2,I2,.cons r1 r2,q2⟩
def tTup(t:TA):TE:=λσ H Q=>t σ H λxs H1=>xs.length<=sizeLine/\∀p,H1 p=none->Q (.ref p) (upd H1 p (.tup xs))
def tLst(t:TA):TE:=λσ H Q=>t σ H λxs H1=>xs.length<=sizeLine/\∀p,H1 p=none->Q (.ref p) (upd H1 p (.lst xs))
theorem Yabj{x1}(h:PA X es t):PE X (.Tuple es x1 pos) (tTup t):=by
 intro pins s σ H Q I hq;refine wpAny_Tuple_spliced (thn (h pos pins s σ H _ I hq) λus s1 ⟨xs,H1,I1,r,z,q⟩=>⟨by rw[<-r.length];exact z,?_⟩);have hf:H1 (~~~s1)=none:=I1.hok.fresh (qu _);refine⟨.ref (~~~s1),upd H1 (~~~s1) (.tup xs),I1.laid (t':=s1.toks) (λb u e=>qe _ e) (qu _) ?_,rfl,q _ hf⟩;exact⟨z,us,r,⟨_,qp _ rfl,rfl,_,rfl⟩⟩
theorem Ywy(h:PA X es t):PE X (.List es pos) (tLst t):=by
 intro pins s σ H Q I hq;refine wpAny_List_spliced (thn (h pos pins s σ H _ I hq) λus s1 ⟨xs,H1,I1,r,z,q⟩=>⟨by rw[<-r.length];exact z,?_⟩);have hf:H1 (~~~s1)=none:=I1.hok.fresh (qu _);refine⟨.ref (~~~s1),upd H1 (~~~s1) (.lst xs),I1.laid (t':=s1.toks) (λb u e=>qe _ e) (qu _) ?_,rfl,q _ hf⟩;exact⟨z,us,0,r,qp _ rfl⟩
end
abbrev Sp:=AN->Hp->VK->XK->Prop
abbrev CXT:=List Env->Hp->Shared->XK->AA
structure Env0(P:Program)(w:World)(K:W.Frag)(mg:AE)(base:Heap)(A:Around)(outer:List Env)(s:Shared)(H:Hp):Prop where
 frames:A.frames=some outer
 mod:Mod K mg base
 bs:∀b o,base.get? b=some o->s.heap.get? b=some o/\H b=none
 bsz:base.objs.size<= ~~~s
 funs:s.heap.FunFrames base outer
 frf:∀b∈frs outer,H b=none
 hok:HOk P w H s.heap
 bare:AllBare s.gens
def CE(outer:List Env)(P:Program)(w:World)(H:Hp)(s:Shared)(Q:VK)(u:Value)(s':Shared):Prop:=
 ∃v H',s'.os=s.os/\AllBare s'.gens/\Un (frs outer) [] H H' s.heap s'.heap/\HOk P w H' s'.heap/\RelV v u/\Q v H'
def CR(CX:CXT)(outer:List Env)(P:Program)(w:World)(H:Hp)(s:Shared)(Q:VK)(E:XK)(r:Result)(s':Shared):Prop:=
 match r with
 | .ok (.ret u)=>CE outer P w H s Q u s'
 | .ok _=>False
 | .error e=>CX outer H s E e s'
structure FnOk(P:Program)(w:World)(K:W.Frag)(mg:AE)(base:Heap)(CX:CXT)(k:Nat)(f:Addr)(fd:FuncData)(ps:AK)(sp:Sp):Prop where
 len:∀vs H Q E,sp vs H Q E->vs.length=ps.length
 run:∀(A:Around) (outer:List Env) (s:Shared) (H:Hp) (args:Args) (us:AC) (vs:AN) (Q:VK) (E:XK),Room k A->Env0 P w K mg base A outer s H->BindsTo s fd args (ps.zip us)->Vals vs us->sp vs H Q E->
  codeAny (model P w) A (.call (.ref f) args) (CR CX outer P w H s Q E) s
theorem FnOk.mono{P:Program}{w:World}{K:W.Frag}{mg:AE}{base:Heap}{CX:CXT}{j k:Nat}{f:Addr}{fd:FuncData}{ps:AK}{sp:Sp}(F:FnOk P w K mg base CX j f fd ps sp)(h:j<=k) :
 FnOk P w K mg base CX k f fd ps sp:=⟨F.len,λA outer s H args us vs Q E hr=>F.run A outer s H args us vs Q E (hr.mono h)⟩
theorem Env0.make{P:Program}{w:World}{K:W.Frag}{mg:AE}{base:Heap}{A:Around}{outer:List Env}{s:Shared}{H:Hp}(e:Env0 P w K mg base A outer s H)(C:Addr)(us:AC)(kw:List (Str×Value)) :
 Env0 P w K mg base (A.under (.builtin "type.__call__" ⟨.ref C::us,kw⟩)) outer s H:=⟨by first|exact e.frames|(simpa [Around.under,Code.envs,Code.isFrame,pushEnvs]using e.frames),e.mod,e.bs,e.bsz,e.funs,e.frf,e.hok,e.bare⟩
section
variable {X:Cx}{pins:AB}{σ:St}{H:Hp}{s s':Shared}
theorem Inv.env0(I:Inv X pins σ H s):Env0 X.prog X.w X.K X.mg X.base X.A X.stack s H:=
 ⟨I.ok.frames,I.ok.mod,I.bs,Qb I.ok.bsz I.sz,I.stack,I.stkFree,I.hok,I.bare⟩
theorem Inv.after(I:Inv X pins σ H s)(h:CE X.stack X.prog X.w H s Q u s'):EP X pins σ Q u s':=by
 obtain⟨v,H',os,bare,un,hok,r,q⟩:=h;obtain⟨hh,g,d,t,os'⟩:=s';obtain rfl:os'=s.os:=os;exact⟨v,H',I.call (h':=hh) (g':=g) (d':=d) (t':=t) (ch:=[]) un hok bare (λb z=>absurd z (by simp)),r,q⟩
end
def Yaet(sp:Sp)(dvs:AN)(E:XK)(t:TA):TE:=λσ H Q=>t σ H λvs H1=>sp (vs++dvs) H1 Q E
def Yaeu(C:Addr)(m:Str)(sp:Sp)(dvs:AN)(E:XK)(ta:TE)(t:TA):TE:=λσ H Q=>ta σ H λx H1=>∃a dx fs,x=.ref a/\H1 a=some (.ins C dx fs)/\fs.lookup m=none/\
 t σ H1 λvs H2=>sp (x::(vs++dvs)) H2 Q E
def Yaev(C:Addr)(sp:Sp)(dvs:AN)(E:XK)(t:TA):TE:=λσ H Q=>t σ H λvs H1=>∀x dx,H1 x=none->H1 dx=none->dx≠x->
 sp (.ref x::(vs++dvs)) (upd (upd H1 dx (.own x)) x (.ins C dx [])) (λv H2=>v=.non/\Q (.ref x) H2) E
def Binds(K:W.Frag)(fd:FuncData)(ps:AK)(ds:AC):Prop:=
 ∀(s:Shared) (us:AC),K.In s.heap->(us++ds).length=ps.length->BindsTo s fd ⟨us,[]⟩ (ps.zip (us++ds))
theorem Binds.all{K:W.Frag}(h:∀us:AC,us.length=ps.length->bindArgs fd ⟨us,[]⟩=pure (ps.zip us)):Binds K fd ps []:=λs us _ hl=>by
 rw[jb]at hl ⊢;exact .of_eq (h us hl)
def Ypc(CX:CXT)(X:Cx)(E:XK):Prop:=∀(pins:AB) (σ:St) (H:Hp) (s:Shared) (e:Value) (s':Shared),Inv X pins σ H s->CX X.stack H s E e s'->X.xe e s'
section
variable {X:Cx}{CX:CXT}{k:Nat}{f C:Addr}{fd:FuncData}{ps:AK}{sp:Sp}{dvs:AN}{ds:AC}{E:XK}{x m:Str}{p pos apos:Pos}{e o:Expr}{es:AL}{ta:TE}{t:TA}
theorem Ywz{σ:St}(F:FnOk X.prog X.w X.K X.mg X.base CX k f fd ps sp)(hr:Room k X.A)(hb:Binds X.K fd ps ds)(hd:Vals dvs ds)(hx:Ypc CX X E)
 (I:Inv X pins σ H s) (r:Vals vs us) (h:sp (vs++dvs) H Q E):wpAny (model X.prog X.w) X.A (call (.ref f) us) (EP X pins σ Q) X.xe s:=by
 have r2:Vals (vs++dvs) (us++ds):=r.append hd
 have hl:(us++ds).length=ps.length:=by rw[<-r2.length];exact F.len _ _ _ _ h
 refine wpAny_call (codeAny_mono (F.run X.A X.stack s H ⟨us,[]⟩ (us++ds) (vs++dvs) Q E hr I.env0 (hb s us I.kIn hl) r2 h) λr s' hq=>?_)
 cases r with
 | error e=>exact hx pins σ H s e s' I hq
 | ok fl=>
   cases fl with
   | ret u=>exact I.after hq
   | next=>exact False.elim hq
   | brk=>exact False.elim hq
   | cont=>exact False.elim hq
theorem y0o(F:FnOk X.prog X.w X.K X.mg X.base CX k f fd ps sp)(hr:Room k X.A)(hg:Gl X x)(hm:X.mg x=some (.ref f))(hk:W.keepIn X.K (.ref f)=true)(hb:Binds X.K fd ps ds)(hd:Vals dvs ds)(hx:Ypc CX X E)
 (ha:PA X (e::es) t) (hdb:Ndb x:=by decide) (he:starEach (e::es) X.env=(false,eval e X.env)::starEach es X.env:=by rfl) (hpl:(backTo pos (starEach es X.env)).any (·.1)=false:=by rfl) :
 PE X (.Call (.Name x p) (e::es) [] pos) (Yaet sp dvs E t):=by
 intro pins s σ H Q I h;refine wpAny_Call_Name_kw (Ygu I hg hm ?_ hdb);refine W.callWith_K (h₀:=X.base) I.ok.mod.kin hk (thn (ha pos pins s σ H _ I h) λus s1 hx_=>?_) he hpl;obtain⟨vs,H1,I1,r,q⟩:=hx_;refine⟨I1.kIn,?_⟩;exact Ywz F hr hb hd hx I1 r q
theorem Yw0{pl:Sem Bool}(he:PE X o ta)(c:Cls X.K C)(hm:Meth X.K C m f)(F:FnOk X.prog X.w X.K X.mg X.base CX k f fd ps sp)(hr:Room k X.A)(hb:Binds X.K fd ps ds)(hd:Vals dvs ds)(hx:Ypc CX X E)
 (ht:eval (.Call (.Attribute o m apos) [] [] pos) X.env=(do
  let ov <-eval o X.env
  standAt apos.atName
  let (f,first) <-holding [ov] (getMethod ov m pl)
  callWith pos f first (backTo pos (starEach [] X.env)) (backToKw pos (keywordEach [] X.env))):=by rfl) :
 PE X (.Call (.Attribute o m apos) [] [] pos) (Yaeu C m sp dvs E ta tNil):=by
 intro pins s σ H Q I h;refine W.methodCall_KW (pl:=pl) (thn (he pins s σ H _ I h) λu s1 hx_=>?_) ht;obtain⟨x,H1,I1,rx,a,dx,fs,ex,ea,l,q⟩:=hx_;subst ex;obtain rfl:u=Value.ref a:=rx;refine Ypb I1 ea c hm l ?_;exact W.callWith_K0 (first:=[.ref a]) I1.kIn hm.kp (Ywz (us:=[.ref a]) (vs:=[.ref a]) F hr hb hd hx I1 (.cons rfl .nil) q)
structure Mk(K:W.Frag)(C f:Addr):Prop where
 makes:W.makesIn K C=true
 init:W.findIn K (.ref C) "__init__"=some (some (.ref f))
 fn:W.isFn K (.ref f)=true
 kp:W.keepIn K (.ref C)=true
theorem y4j{pins:AB}{σ:St}{H:Hp}{s:Shared}{Q:VK}{us:AC}{vs:AN}(M:Mk X.K C f)(F:FnOk X.prog X.w X.K X.mg X.base CX k f fd ps sp)(hr:Room (k+1) X.A)(hb:Binds X.K fd ps ds)(hd:Vals dvs ds)
 (hx:Ypc CX X E) (I:Inv X pins σ H s) (r:Vals vs us)
 (h:∀x dx,H x=none->H dx=none->dx≠x->sp (.ref x::(vs++dvs)) (upd (upd H dx (.own x)) x (.ins C dx [])) (λv H2=>v=.non/\Q (.ref x) H2) E) :
 wpAny (model X.prog X.w) X.A (call (.ref C) us) (EP X pins σ Q) X.xe s:=by
 have hq:=h (~~~s+1) (~~~s) (I.hok.fresh (Nat.le_succ _)) (I.hok.fresh (qu _)) (qm (qz _));have I2:=Inv.made (C:=C) I;have r2:Vals (V.ref (~~~s+1)::(vs++dvs)) (Value.ref (~~~s+1)::(us++ds)):=.cons rfl (r.append hd)
 have hl:(Value.ref (~~~s+1)::us++ds).length=ps.length:=by
  have e:=r2.length;rw[F.len _ _ _ _ hq]at e;exact e.symm
 refine wpAny_call (y4i (f:=f) I.kIn M.makes M.init (beq_iff_eq.mp M.fn) (codeAny_mono (F.run _ X.stack _ _ ⟨Value.ref (~~~s+1)::us,[]⟩ (Value.ref (~~~s+1)::(us++ds)) _ _ E (hr.make C us [])
  (I2.env0.make C us []) (hb _ (Value.ref (~~~s+1)::us) I2.kIn hl) r2 hq) λr s' hq'=>?_))
 cases r with
 | error e=>exact hx pins σ _ _ e s' I2 hq'
 | ok fl=>
   cases fl with
   | ret u=>
     obtain⟨v,H',I3,rv,ev,q3⟩:=I2.after hq';subst ev;exact⟨rv,⟨V.ref (~~~s+1),H',I3,rfl,q3⟩⟩
   | next=>exact False.elim hq'
   | brk=>exact False.elim hq'
   | cont=>exact False.elim hq'
theorem y77(M:Mk X.K C f)(F:FnOk X.prog X.w X.K X.mg X.base CX k f fd ps sp)(hr:Room (k+1) X.A)(hg:Gl X x)(hm:X.mg x=some (.ref C))(hb:Binds X.K fd ps ds)(hd:Vals dvs ds)(hx:Ypc CX X E)
 (ha:PA X (e::es) t) (hdb:Ndb x:=by decide) (he:starEach (e::es) X.env=(false,eval e X.env)::starEach es X.env:=by rfl) (hpl:(backTo pos (starEach es X.env)).any (·.1)=false:=by rfl) :
 PE X (.Call (.Name x p) (e::es) [] pos) (Yaev C sp dvs E t):=by
 intro pins s σ H Q I h;refine wpAny_Call_Name_kw (Ygu I hg hm ?_ hdb);refine W.callWith_K (h₀:=X.base) I.ok.mod.kin M.kp (thn (ha pos pins s σ H _ I h) λus s1 hx_=>?_) he hpl;obtain⟨vs,H1,I1,r,q⟩:=hx_;refine⟨I1.kIn,?_⟩;exact y4j M F hr hb hd hx I1 r q
end
section
variable {X:Cx}{CX:CXT}{k:Nat}{f C:Addr}{fd:FuncData}{ps ks:AK}{sp:Sp}{E:XK}{x m:Str}{p pos apos kpos:Pos}{e o:Expr}{es:AL}{kws:List Keyword}{te ta:TE}{t tk:TA}{nm:Option Str}
structure KBinds(K:W.Frag)(fd:FuncData)(ps ks:AK)(g:AC->AC->AC)(gV:AN->AN->AN):Prop where
 to:∀(s:Shared) (us ws:AC),K.In s.heap->(g us ws).length=ps.length->BindsTo s fd ⟨us,ks.zip ws⟩ (ps.zip (g us ws))
 rel:∀{vs:AN}{us:AC}{zs:AN}{ws:AC},Vals vs us->Vals zs ws->Vals (gV vs zs) (g us ws)
variable {g:AC->AC->AC}{gV:AN->AN->AN}
end
structure FnScope(N P:AK)(sc:Scope):Prop where
 kind:sc.kind=.function
 co:sc.isCoroutine=false
 gen:sc.isGenerator=false
 nd:N.Nodup
 pre:N.take P.length=P
 par:∀x∈P,sc.names.lookup x=some .local\/sc.names.lookup x=some .cell
 nofree:∀y∈sc.names,y.2≠.free
theorem Ysn{kindOf:Str->Option NameKind}:∀{binds:List (Str×Value)}{m:AE},(∀v,(x,v)∉binds)->bindL kindOf binds m x=m x
 | [],_,_=>rfl
 | (n,v)::r,m,h=>by
   unfold bindL;rw[Ysn λw hw=>h w (qg _ hw)]
   split
   ·grind
   ·rfl
theorem Yso{kindOf:Str->Option NameKind}:∀{binds:List (Str×Value)}{m:AE},(∀v,(x,v)∉binds)->bindC kindOf binds m x=m x
 | [],_,_=>rfl
 | (n,v)::r,m,h=>by
   unfold bindC;rw[Yso λw hw=>h w (qg _ hw)]
   split
   ·rfl
   grind
theorem Ysp{kindOf:Str->Option NameKind}:∀{P:AK}{vs:AC}{i:Nat}{m:AE},P.Nodup->P[i]?=some x->vs[i]?=some v->kindOf x=some .local->
 bindL kindOf (P.zip vs) m x=some v
 | [],_,_,_,_,h,_,_=>by simp at h
 | _::_,[],_,_,_,_,h,_=>by simp at h
 | p::P,w::vs,0,m,nd,h1,h2,hk=>by
   simp at h1 h2;subst h1;subst h2;show bindL kindOf ((p,w)::P.zip vs) m p=_;unfold bindL;rw[Ysn λv hv=>(List.nodup_cons.mp nd).1 (List.of_mem_zip hv).1,if_pos hk];simp
 | p::P,w::vs,i+1,m,nd,h1,h2,hk=>by
   show bindL kindOf ((p,w)::P.zip vs) m x=_;unfold bindL;exact Ysp (i:=i) (List.nodup_cons.mp nd).2 (by grind) (by grind) hk
theorem Ysq{kindOf:Str->Option NameKind}:∀{P:AK}{vs:AC}{i:Nat}{m:AE},P.Nodup->P[i]?=some x->vs[i]?=some v->kindOf x≠some .local->
 bindC kindOf (P.zip vs) m x=some v
 | [],_,_,_,_,h,_,_=>by simp at h
 | _::_,[],_,_,_,_,h,_=>by simp at h
 | p::P,w::vs,0,m,nd,h1,h2,hk=>by
   simp at h1 h2;subst h1;subst h2;show bindC kindOf ((p,w)::P.zip vs) m p=_;unfold bindC;rw[Yso λv hv=>(List.nodup_cons.mp nd).1 (List.of_mem_zip hv).1,if_neg hk];simp
 | p::P,w::vs,i+1,m,nd,h1,h2,hk=>by
   show bindC kindOf ((p,w)::P.zip vs) m x=_;unfold bindC;exact Ysq (i:=i) (List.nodup_cons.mp nd).2 (by grind) (by grind) hk
def start(N:AK)(vs:AN):St:=vs.map some++List.replicate (N.length-vs.length) none
def cxOf(CX:CXT)(P:Program)(w:World)(K:W.Frag)(mg:AE)(base:Heap)(N:AK)(qual:Str)(scope:Scope)(f:Addr)(cd:Value)(A:Around)(outer:List Env)(s:Shared)(H:Hp)(E:XK):Cx where
 prog:=P
 w:=w
 K:=K
 mg:=mg
 base:=base
 A:=A.deeper (envOfC qual scope (~~~s) f cd)
 N:=N
 s₀:=s
 H₀:=H
 env:=envOfC qual scope (~~~s) f cd
 outer:=outer
 stack:=envOfC qual scope (~~~s) f cd::outer
 ex:=[]
 calm:=true
 fn:=λ_=>true
 pn:=[]
 xe:=λe s'=>wpAny (model P w) (A.deeper (envOfC qual scope (~~~s) f cd)) (leaving (envOfC qual scope (~~~s) f cd) e) (λ_ s''=>CX outer H s E e s'') (λe' s''=>CX outer H s E e' s'') s'
theorem Yw1{sc:Scope}(h:sc.names.lookup x=some .cell):∃c,(cellsFrom n sc.names []).lookup x=some c:=by
 have q:=PySem.W.cellsFrom_some sc.names n [] (.inl h);exact Option.isSome_iff_exists.mp q
theorem y0p{K:W.Frag}
 (S:FnScope N ps scope) (hd:A.handled=none) (e0:Env0 P w K mg base A outer s H) (hl:vs.length=ps.length) (r:Vals vs us)
 (x:InCallC s (~~~s) (bindL (envOfC qual scope (~~~s) f cd).kindOf (ps.zip us) λ_=>none) (cellsFrom (~~~s+1) scope.names []) (bindC (envOfC qual scope (~~~s) f cd).kindOf (ps.zip us) λ_=>none) s1) :
 Inv (cxOf CX P w K mg base N qual scope f cd A outer s H E) [] (start N vs) H s1:=by
 have hpl:ps.length<=N.length:=by have:=congrArg List.length S.pre;grind
 obtain⟨h1,tk,rfl,hk⟩:=x.done;have noA:∀b:Addr,b∉(cxOf CX P w K mg base N qual scope f cd A outer s H E).ex:=λb z=>absurd (show b∈([]:List Addr) from z) (by simp)
 refine⟨⟨e0.mod,S.kind,rfl,rfl,qu _,λy z c h1 h2=>?_,λy hy=>?_,λy c _ h=>?_,λ_=>hd,Around.frames_deeper e0.frames,.inr ⟨rfl,rfl⟩,λb z=>absurd z (noA b),e0.bs,e0.bsz,λb _ _=>noA b,λb z=>absurd z (noA b),e0.funs,e0.frf⟩,
  rfl,e0.bare,Un.kept hk,⟨_,x.toInCall.ns,λi y v h1 h2 h3=>?_⟩,λy c h=>⟨_,x.cell y c h⟩,e0.hok.fresh (qu _),λy c h=>?_,λp hp=>absurd (show p∈([]:AB) from hp) (by simp),e0.hok.kept hk,?_⟩
 ·exact name_of_addr x.apart (PySem.mem_of_lookup h1) (PySem.mem_of_lookup h2)
 ·have hy:scope.names.lookup y=some .cell\/scope.names.lookup y=some .free:=hy
  rcases hy with hy|hy
  ·exact Yw1 hy
  ·exact absurd rfl (S.nofree _ (PySem.mem_of_lookup hy))
 ·exact Nat.le_of_lt (x.above y c (PySem.mem_of_lookup h))
 ·have hi:i<vs.length:=by
   unfold start at h2;grind
  have ha:vs[i]?=some v:=by
   unfold start at h2;grind
  obtain⟨u,hu,rv⟩:=r.get ha
  have hp:ps[i]?=some y:=by
   rw[<-S.pre,List.getElem?_take_of_lt (by lia)];exact h1
  have ndP:ps.Nodup:=by rw[<-S.pre];exact S.nd.sublist (List.take_sublist _ _)
  refine⟨u,rv,?_⟩;rcases S.par y (List.mem_of_getElem? hp)with k|k
  ·exact .inl ⟨k,Ysp ndP hp hu k⟩
  ·obtain⟨c,e⟩:=Yw1 (n:= ~~~s+1) k
   refine .inr ⟨.inl k,c,e,?_⟩;have q:=x.cell y c e;rw[Ysq ndP hp hu (by show scope.names.lookup y≠_;grind)]at q;exact q
 ·exact e0.hok.fresh (Nat.le_of_lt (x.above y c (PySem.mem_of_lookup h)))
 ·unfold start
  show _=N.length;grind
theorem Yaew{K:W.Frag}{dV kV doc pm cdv ct oc:Value}
 (lk:K.lookup f=some ⟨oc,od,.func (W.fnOf name qual params body scope dV kV doc pm an cdv ct),osl⟩) (hcd:W.codeIn K cdv qual=true) (S:FnScope N ps scope)
  (len:∀vs H Q E,sp vs H Q E->vs.length=ps.length)
  (hbody:∀(A:Around) (outer:List Env) (s:Shared) (H:Hp) (vs:AN) (Q:VK) (E:XK),Room k (A.deeper (envOfC qual scope (~~~s) f cdv))->sp vs H Q E->
   ∃t,PSs (cxOf CX P w K mg base N qual scope f cdv A outer s H E) body t/\t { nx:=λ_ H'=>Q .non H',rt:=Q } (start N vs) H) :
  FnOk P w K mg base CX (k+1) f (W.fnOf name qual params body scope dV kV doc pm an cdv ct) ps sp:=by
  refine⟨len,λA outer s H args us vs Q E hr e0 hb r hsp=>?_⟩;have hl:=len _ _ _ _ hsp;have KX:K.In s.heap:=e0.mod.kin.keeps λb o e=>(e0.bs b o e).1;have lim:s.heap.NoLimit:=e0.mod.nolimit.keeps λb o e=>(e0.bs b o e).1
  have hkind:∀y∈ps.zip us,scope.names.lookup y.1=some .local\/(scope.names.lookup y.1=some .cell/\((cellsFrom (~~~s+1) scope.names []).lookup y.1).isSome=true):=λ⟨n,v⟩ hy=>by
   rcases S.par n (List.of_mem_zip hy).1 with q|q
   ·exact .inl q
   ·exact .inr ⟨q,PySem.W.cellsFrom_some _ _ _ (.inl q)⟩
  refine codeAny_call_function hr.depth (KX _ _ lk) rfl S.co S.gen rfl (W.codeRec_of KX hcd) (hb _ _ _ _ ?_);refine wpAny_newFunctionEnv_cells S.kind hkind λenv he s1 x=>?_;subst he;refine⟨lim.keeps x.toInCall.keep,codeAny_func ?_⟩;obtain⟨t,ht,hq⟩:=hbody A outer s H vs Q E (hr.deeper _) hsp;have I:Inv (cxOf CX P w K mg base N qual scope f cdv A outer s H E) [] (start N vs) H s1:=y0p S hr.hd e0 hl r x;refine wz (ht [] s1 (start N vs) H _ I hq) (λfl s' hs=>?_) λe s' hs=>hs
  have fin:∀{σ':St}{H':Hp}{v:V}{u:Value},Inv (cxOf CX P w K mg base N qual scope f cdv A outer s H E) [] σ' H' s'->RelV v u->Q v H'->CE outer P w H s Q u s':=
   λ{σ' H' v u} J rv q=>⟨v,H',J.os,J.bare,J.base,J.hok,rv,q⟩
  cases fl with
  | ret u=>
    obtain⟨v,σ',H',J,rv,q⟩:=hs;exact fin J rv q
  | next=>
    obtain⟨σ',H',J,q⟩:=hs;exact fin (v:=V.non) (u:=Value.none) J rfl q
  | brk=>
    obtain⟨_,_,_,q⟩:=hs;grind
  | cont=>
    obtain⟨_,_,_,q⟩:=hs;grind
section
variable {X:Cx}{x:Str}{p pos:Pos}{e:Expr}{es:AL}{t:TA}{id T:String}{r:AN->Hp->VK->Prop}
def tCB(r:AN->Hp->VK->Prop)(t:TA):TE:=λσ H Q=>t σ H λvs H1=>r vs H1 Q
theorem Yi9(hc:Ydd X (.builtin id) r)(hg:Gl X x)(hm:X.mg x=none)(hv:bootBuiltins x=some (.builtin id))(ha:PA X (e::es) t)(hn:x≠"__name__":=by decide)(hdb:Ndb x:=by decide)
 (he:starEach (e::es) X.env=(false,eval e X.env)::starEach es X.env:=by rfl) (hpl:(backTo pos (starEach es X.env)).any (·.1)=false:=by rfl):PE X (.Call (.Name x p) (e::es) [] pos) (tCB r t):=by
 intro pins s σ H Q I h;refine wpAny_Call_Name_kw (Yl5 I hg hm hv ?_ hn hdb);refine PyProof.Rows.callWith_builtin1 (thn (ha pos pins s σ H _ I h) λus s1 hx_=>?_) he hpl;obtain⟨vs,H1,I1,r1,q1⟩:=hx_;exact hc pins s1 σ H1 vs us Q I1 r1 q1
theorem Yja(hc:Ydd X (.type T) r)(hg:Gl X x)(hm:X.mg x=none)(hv:bootBuiltins x=some (.type T))(ha:PA X (e::es) t)(hn:x≠"__name__":=by decide)(hdb:Ndb x:=by decide)
 (he:starEach (e::es) X.env=(false,eval e X.env)::starEach es X.env:=by rfl) (hpl:(backTo pos (starEach es X.env)).any (·.1)=false:=by rfl):PE X (.Call (.Name x p) (e::es) [] pos) (tCB r t):=by
 intro pins s σ H Q I h;refine wpAny_Call_Name_kw (Yl5 I hg hm hv ?_ hn hdb);refine PyProof.Rows.callWith_type1 (thn (ha pos pins s σ H _ I h) λus s1 hx_=>?_) he hpl;obtain⟨vs,H1,I1,r1,q1⟩:=hx_;exact hc pins s1 σ H1 vs us Q I1 r1 q1
end
def NoSl(i:Expr):Prop:=∀ov iv,subscripted i false ov iv=operate [ov,iv] (getItem ov iv)
theorem y0q{T id:String}
 (hl:typeLookup (.type T) "__getitem__"=pure (some (.builtin id))) (hs:NoSl slice)
 (h:wpAny (model prog w) A (eval value env) (λo s₁=>wpAny (model prog w) A (eval slice env) (λi s₂=>s₂.TypeIs o T/\wpAny (model prog w) A (getItem o i) Q E s₂) E s₁) E s) :
 wpAny (model prog w) A (eval (.Subscript value slice pos) env) Q E s:=by
 refine Subscript_ (wz h (λo s₁ h₁=>wz h₁ (λi s₂ h₂=>?_) λ_ _ x=>x) λ_ _ x=>x);obtain⟨hT,h₂⟩:=h₂;unfold subscriptTail;refine wa ?_;rw[getitemInPython_of_ne hT.not_modules];refine wa (wpAny_specialOf hT hl ?_)
 have fin:wpAny (model prog w) A (subscripted slice false o i) (λr s₃=>wpAny (model prog w) A (letTemporaryGo value o r>>=λ_=>pure r) Q E s₃) E s₂:=by
  rw[hs o i];exact wpAny_operating (wz h₂ (λr s₃ h₃=>wa (wpAny_letTemporaryGo (wc h₃))) λ_ _ x=>x)
 first
  | exact wc (wa fin)
  | exact wa (wc (wa fin))
  | exact wa fin
def y67:List (TE×TE)->St->Hp->(List (V×V)->Hp->Prop)->Prop
 | [],_,H,Q=>Q [] H
 | (tk,tv)::r,σ,H,Q=>tk σ H λx H1=>tv σ H1 λy H2=>y67 r σ H2 λps H3=>Q ((x,y)::ps) H3
abbrev VV:List (V×V)->List (Value×Value)->Prop:=Paired λp q=>RelV p.1 q.1/\RelV p.2 q.2
def PPs(X:Cx)(pos:Pos)(keys:List (Option Expr))(values:AL)(trs:List (TE×TE)):Prop:=
 ∀(pins:AB) (s:Shared) (σ:St) (H:Hp) (Q:List (V×V)->Hp->Prop),Inv X pins σ H s->y67 trs σ H Q->
  wpAny (model X.prog X.w) X.A (evalPairs (pairTrees keys values X.env pos)) (λvs s'=>∃ps H',Inv X pins σ H' s'/\VV ps vs/\Q ps H') X.xe s
structure M1(X:Cx)(o:Expr)(m:Str)(apos:Pos)(e:Expr)(cpos:Pos):Prop where
 base:attributeBase o m X.env (eval o X.env)=eval o X.env
 few:((backTo cpos (starEach [e] X.env)).all (λx=>!x.1)&&(backToKw cpos (keywordEach [] X.env)).all (λx=>x.1.isSome)
  &&decide (([e]:AL).length+([]:List Keyword).length+(if ([]:List Keyword).isEmpty then 0 else 1)<30))=true
 line:(apos.endLine==cpos.line)=true
 trees:backTo cpos (starEach [e] X.env)=[(false,eval e X.env)]
structure M2(X:Cx)(o:Expr)(m:Str)(apos:Pos)(e f:Expr)(cpos:Pos):Prop where
 base:attributeBase o m X.env (eval o X.env)=eval o X.env
 few:((backTo cpos (starEach [e,f] X.env)).all (λx=>!x.1)&&(backToKw cpos (keywordEach [] X.env)).all (λx=>x.1.isSome)
  &&decide (([e,f]:AL).length+([]:List Keyword).length+(if ([]:List Keyword).isEmpty then 0 else 1)<30))=true
 line:(apos.endLine==cpos.line)=true
 trees:backTo cpos (starEach [e,f] X.env)=[(false,eval e X.env),(false,eval f X.env)]
end L2
namespace HT
open PySem PyProof.Rows
section
variable {prog:Program}{w:World}{A:Around}{E:AA}{s:Shared}
def sIx(n d:Nat):Option Int->Nat
 | none=>d
 | some v=>if v<0 then (v+(n:Int)).toNat else min v.toNat n
theorem sIx_none(n d:Nat):sIx n d none=d:=rfl
theorem sIx_nat(n d k:Nat):sIx n d (some (k:Int))=min k n:=by
 show(if (k:Int)<0 then ((k:Int)+(n:Int)).toNat else min (k:Int).toNat n)=min k n;grind
theorem Yabk(n d:Nat)(hd:d<=n)(o:Option Int):sIx n d o<=n:=by
 cases o with
 | none=>exact hd
 | some v=>
   show(if v<0 then (v+(n:Int)).toNat else min v.toNat n)<=n;grind
theorem y0r(v:Int)(n d:Nat):(if v<0 then max (v+(n:Int)) 0 else min v (n:Int))=((sIx n d (some v):Nat):Int):=by
 show(if v<0 then max (v+(n:Int)) 0 else min v (n:Int))=(((if v<0 then (v+(n:Int)).toNat else min v.toNat n):Nat):Int);grind
theorem Yyv(lo hi:Option Int)(n:Nat):Builtin.Slice.sliceAdjust lo hi 1 (n:Int)=(((sIx n 0 lo:Nat):Int),((sIx n n hi:Nat):Int)):=by
 have h1:¬((1:Int)<0):=by lia
 unfold Builtin.Slice.sliceAdjust;simp only[h1,if_false];refine Prod.ext ?_ ?_
 ·cases lo with
  | none=>rfl
  | some v=>exact y0r v n 0
 ·cases hi with
  | none=>rfl
  | some v=>exact y0r v n n
theorem Yyw(i j:Nat):Builtin.Slice.slicePlaces (i:Int) (j:Int) 1=j-i:=by
 unfold Builtin.Slice.slicePlaces;grind
theorem Ypd(p:IsPart v o)(h:Q o s):wpAny (model prog w) A (Builtin.Slice.slicePartIndex v) Q E s:=by
 cases p with
 | none=>exact slicePart_none h
 | int i t=>exact slicePart_int h
theorem sliceApplied_gen{lo hi:Option Int}{Q:Int×Int×Nat->Shared->Prop}(hs:s.heap.IsSliceOf sl vl vu .none)(pl:IsPart vl lo)(pu:IsPart vu hi)
 (h:Q (((sIx n 0 lo:Nat):Int),1,sIx n n hi-sIx n 0 lo) s):wpAny (model prog w) A (Builtin.Slice.sliceApplied (.ref sl) (pure (n:Int))) Q E s:=by
 obtain⟨os,hos,hcs,hds⟩:=id hs;unfold Builtin.Slice.sliceApplied Builtin.Slice.sliceFields;refine wa (wa (wpAny_field hos hds (x:=vl) rfl (wa (wpAny_field hos hds (x:=vu) rfl (wa (wpAny_field hos hds (x:=.none) rfl (wc ?_)))))));refine wa (slicePart_none ?_);show wpAny _ _ (if ((1:Int)==0)=true then _ else _) _ _ s;rw[if_neg (by decide)];refine wa (Ypd pl (wa (Ypd pu (wa (wc ?_)))));show wpAny _ _ (match Builtin.Slice.sliceAdjust lo hi 1 (n:Int)with|(lo,hi)=>pure (lo,(1:Int),Builtin.Slice.slicePlaces lo hi 1)) _ _ s;rw[Yyv lo hi n];show wpAny _ _ (pure (((sIx n 0 lo:Nat):Int),(1:Int),Builtin.Slice.slicePlaces ((sIx n 0 lo:Nat):Int) ((sIx n n hi:Nat):Int) 1)) _ _ s;rw[Yyw];exact wc h
theorem y4k(xs:Array Value)(i k:Nat):((List.range k).filterMap fun(m:Nat)=>xs[((i:Int)+(m:Int)*1).toNat]?).toArray=((xs.toList.drop i).take k).toArray:=by
 have e:(fun(m:Nat)=>xs[((i:Int)+(m:Int)*1).toNat]?)=λm=>xs[i+m]?:=by
  grind
 rw[e];have:=pick_run xs i k;rw[List.filterMap_map]at this;have e2:((λx=>xs[x]?) ∘ λx=>i+x)=λm=>xs[i+m]?:=rfl;grind
theorem getItem_tuple_cut{lo hi:Option Int}(ht:IsTup s.heap t items)(hs:s.heap.IsSliceOf sl vl vu .none)(pl:IsPart vl lo)(pu:IsPart vu hi)
 (hw:¬(sIx items.size 0 lo=0/\sIx items.size items.size hi=items.size))
 (h:Q (.ref (~~~s)) { s with heap:=s.heap.push { cls:=.type "tuple",data:=.seq ((items.toList.drop (sIx items.size 0 lo)).take (sIx items.size items.size hi-sIx items.size 0 lo)).toArray } })
 (hsz:items.size<=sizeLine):wpAny (model prog w) A (getItem (.ref t) (.ref sl)) Q E s:=by
 have htake:sizeOk (.seq ((items.toList.drop (sIx items.size 0 lo)).take (sIx items.size items.size hi-sIx items.size 0 lo)).toArray):=by
  show((items.toList.drop (sIx items.size 0 lo)).take (sIx items.size items.size hi-sIx items.size 0 lo)).toArray.size<=sizeLine;grind
 have hj:sIx items.size items.size hi<=items.size:=Yabk _ _ (qu _) hi;obtain⟨os,hos,hcs,hds⟩:=id hs
 have hTs:s.TypeIs (.ref sl) "slice":=⟨os,hos,hcs⟩
 unfold getItem
 try with_reducible refine we ?_
 first|refine wa (wc ?_)|skip
 refine wa (wpAny_sequenceKey ht.typeIs (by decide) ?_)
 refine wa (wpAny_callSpecial?_slot (name:=Str.ofString "__getitem__") ht.typeIs PyProof.Rows.slot_tuple_getitem
  (wf PyProof.Rows.slot_tuple_getitem ht.typeIs entry_tuple_getitem ?_ (args_tuple_getitem _ _)))
 show wpAny _ _ (Builtin.Tuple.tupleItemsOf (.ref t)>>=_) _ _ s;refine wa (tupleItemsOf_ ht ?_);refine wa (wpAny_typeOf hTs ?_);rw[if_pos (by decide)];refine wa (sliceApplied_gen hs pl pu ?_)
 have hno:¬((((sIx items.size 0 lo:Nat):Int)==0&&(1:Int)==1&&(sIx items.size items.size hi-sIx items.size 0 lo)==items.size)=true):=by
  grind
 show wpAny _ _ (if (((sIx items.size 0 lo:Nat):Int)==0&&(1:Int)==1&&(sIx items.size items.size hi-sIx items.size 0 lo)==items.size)=true then _ else _) _ _ s;rw[if_neg hno,y4k]
 first
  | exact wa (m:=Builtin.Tuple.tupleExact _) (wg (wc ⟨_,rfl,wc h⟩) htake)
  | exact wa (m:=Builtin.Tuple.tupleExact _) (wg (wa (wc (wc ⟨_,rfl,wc h⟩))) htake)
  | exact wa (wa (m:=Builtin.Tuple.tupleExact _) (wg (wc (wc ⟨_,rfl,wc h⟩)) htake))
  | exact wa (wa (m:=Builtin.Tuple.tupleExact _) (wg (wc ⟨_,rfl,wc h⟩) htake))
end
end HT
namespace L2
open PySem PySem.Spec PyProof.Rows
abbrev TO:=St->Hp->(Option Int->Hp->Prop)->Prop
def PO(X:Cx)(e:Option Expr)(t:TO):Prop:=
 ∀(pins:AB) (s:Shared) (σ:St) (H:Hp) (Q:Option Int->Hp->Prop),Inv X pins σ H s->t σ H Q->
  wpAny (model X.prog X.w) X.A (evalPart e X.env) (λu s'=>∃o H',Inv X pins σ H' s'/\IsPart u o/\Q o H') X.xe s
def y0s:TO:=λ_ H Q=>Q none H
def Yabl(t:TE):TO:=λσ H Q=>t σ H λx H1=>∃i,x=.int i/\Q (some i) H1
theorem Ykn:∀{us:AC},Vals (ns.map V.int) us->IntsAre us ns:=by
 induction ns with
 | nil=>intro us r;rw[List.map_nil]at r;cases r;exact .nil
 | cons n ns ih=>
   intro us r;rw[Qa]at r
   cases r with
   | cons r1 r2=>
     obtain⟨t,e⟩:=r1;subst e;exact .cons n t (ih r2)
section
variable {X:Cx}{e:Expr}{te:TE}{lo hi:Option Expr}{tl th:TO}{pos p2:Pos}
theorem y0t:PO X none y0s:=by
 intro pins s σ H Q I h;rw[evalPart_none];exact wc ⟨none,H,I,.none,h⟩
theorem y0u(h:PE X e te):PO X (some e) (Yabl te):=by
 intro pins s σ H Q I hw;rw[evalPart_some];refine thn (h pins s σ H _ I hw) λu s1 hx_=>?_;obtain⟨x,H1,I1,r1,q1⟩:=hx_;obtain⟨i,rfl,q⟩:=q1;obtain⟨t,rfl⟩:=r1;exact⟨some i,H1,I1,.int i t,q⟩
def SlR(X:Cx)(r:V->Option Int->Option Int->Hp->VK->Prop):Prop:=
 ∀(pins:AB) (s:Shared) (σ:St) (H:Hp) (x:V) (v vl vu:Value) (lo hi:Option Int) (sl:Addr) (Q:VK),Inv X pins σ H s->RelV x v->s.heap.IsSliceOf sl vl vu .none->IsPart vl lo->IsPart vu hi->r x lo hi H Q->
  ∃T id,typeLookup (.type T) "__getitem__"=pure (some (.builtin id))/\s.TypeIs v T/\wpAny (model X.prog X.w) X.A (getItem v (.ref sl)) (EP X pins σ Q) X.xe s
theorem SlR.or(h:SlR X r)(h':SlR X r'):SlR X (λx lo hi H Q=>r x lo hi H Q\/r' x lo hi H Q):=by
 intro pins s σ H x v vl vu lo hi sl Q I rx hs pl pu q;rcases q with q|q
 ·exact h pins s σ H x v vl vu lo hi sl Q I rx hs pl pu q
 ·exact h' pins s σ H x v vl vu lo hi sl Q I rx hs pl pu q
def tSl(r:V->Option Int->Option Int->Hp->VK->Prop)(te:TE)(tl th:TO):TE:=λσ H Q=>te σ H λx H1=>tl σ H1 λl H2=>th σ H2 λu H3=>r x l u H3 Q
theorem Yp7(hr:SlR X r)(he:PE X e te)(hl:PO X lo tl)(hu:PO X hi th):PE X (.Subscript e (.Slice lo hi none p2) pos) (tSl r te tl th):=by
 intro pins s σ H Q I h;refine Subscript_ (thn (he pins s σ H _ I h) λv s1 hx_=>?_);obtain⟨x,H1,I1,r1,q1⟩:=hx_;refine wpAny_Slice (thn (hl pins s1 σ H1 _ I1 q1) λvl s2 hx_=>?_);obtain⟨l,H2,I2,pl,q2⟩:=hx_;refine thn (hu pins s2 σ H2 _ I2 q2) λvu s3 hx_=>?_;obtain⟨u,H3,I3,pu,q3⟩:=hx_;rw[evalPart_none];refine wc ?_;have I4:Inv X pins σ H3 { s3 with heap:=s3.heap.push { cls:=.type "slice",data:=.fields #[vl,vu,.none] } }:=I3.kept (t':=s3.toks) λb ob q=>qe _ q;obtain⟨T,id,hT,ht,hg⟩:=hr pins { s3 with heap:=s3.heap.push { cls:=.type "slice",data:=.fields #[vl,vu,.none] } } σ H3 x v vl vu l u s3.heap.objs.size Q I4 r1 (Heap.IsSliceOf.new ..) pl pu q3;show wpAny (model X.prog X.w) X.A (subscriptTail e (.Slice lo hi none p2) v (.ref s3.heap.objs.size)) (EP X pins σ Q) X.xe { s3 with heap:=s3.heap.push { cls:=.type "slice",data:=.fields #[vl,vu,.none] } };exact tail_any (ops:=[.ref s3.heap.objs.size,v]) ht hT hg (by with_unfolding_all rfl)
def cutV(xs:AN)(lo hi:Option Int):AN:=(xs.drop (HT.sIx xs.length 0 lo)).take (HT.sIx xs.length xs.length hi-HT.sIx xs.length 0 lo)
theorem Ymc(xs:AN)(lo hi:Option Int):(cutV xs lo hi).length<=xs.length:=by
 unfold cutV;grind
def rSlT(K:W.Frag):V->Option Int->Option Int->Hp->VK->Prop:=λx lo hi H Q=>∃a xs,x=.ref a/\SqT K H a xs/\
 ¬(HT.sIx xs.length 0 lo=0/\HT.sIx xs.length xs.length hi=xs.length)/\∀p,H p=none->Q (.ref p) (upd H p (.tup (cutV xs lo hi)))
theorem Yabm:SlR X (rSlT X.K):=by
 intro pins s σ H x v vl vu lo hi sl Q I rx hs pl pu h;obtain⟨a,xs,rfl,hx,hw,q⟩:=h;cases rx;obtain⟨its,r,ht,hz⟩:=I.tuple hx
 have hlen:its.toArray.size=xs.length:=by rw[qk];exact r.length.symm
 refine⟨"tuple",_,PyProof.Rows.slot_tuple_getitem.lookup,ht.typeIs,?_⟩;refine HT.getItem_tuple_cut ht hs pl pu (by grind) ?_ (by grind);rw[hlen];refine⟨.ref (~~~s),_,I.laid (t':=s.toks) (o:=.tup (cutV xs lo hi)) (λb ob q=>qe _ q) (qu _) ?_,rfl,q _ (I.hok.fresh (qu _))⟩;exact⟨Qb (Ymc xs lo hi) hz,_,(r.drop (HT.sIx xs.length 0 lo)).take (HT.sIx xs.length xs.length hi-HT.sIx xs.length 0 lo),IsTup.new _ _⟩
end
def ixN(n:Nat)(i:Int):AM:=if 0<=i then (if i<n then some i.toNat else none)else if -(n:Int)<=i then some (i+n).toNat else none
def atI{α:Type}(xs:List α)(i:Int):Option α:=(ixN xs.length i).bind λj=>xs[j]?
theorem y0v(h:ixN n i=some j):seqIndex? i n=some j/\j<n/\-(n:Int)<=i/\i<n:=by
 unfold ixN at h;by_cases h0:0<=i
 ·rw[if_pos h0]at h
  by_cases h1:i<n
  ·rw[if_pos h1]at h
   have e:i.toNat=j:=w9 h;exact⟨by rw[seqIndex_of h0 h1,e],by lia,by lia,h1⟩
  grind
 ·rw[if_neg h0]at h
  by_cases h1:-(n:Int)<=i
  ·rw[if_pos h1]at h
   have e:(i+n).toNat=j:=w9 h;exact⟨by rw[seqIndex_neg (by lia) h1,e],by lia,h1,by lia⟩
  grind
theorem Yuw(h:atI xs i=some v):∃j,seqIndex? i xs.length=some j/\xs[j]?=some v/\j<xs.length/\-(xs.length:Int)<=i/\i<xs.length:=by
 unfold atI at h
 cases e:ixN xs.length i with
 | none=>grind
 | some j=>
   rw[e]at h;obtain⟨h1,h2,h3,h4⟩:=y0v e;grind
theorem Yp8{j:Nat}(h:xs[j]?=some v):atI xs (j:Int)=some v:=by
 have hj:j<xs.length:=(qo h).1
 have e:ixN xs.length (j:Int)=some j:=by
  unfold ixN;grind
 unfold atI;grind
theorem Ylz{α:Type}(xs:List α)(v:α):atI (xs++[v]) (-1)=some v:=by
 have hl:(xs++[v]).length=xs.length+1:=by simp
 have e:ixN (xs++[v]).length (-1)=some xs.length:=by
  unfold ixN;rw[hl,if_neg (by decide),if_pos (by lia)]
  congr 1
  lia
 unfold atI;rw[e];show(xs++[v])[xs.length]?=some v;simp
def Yip(b:Expr):Prop:=∀o i,subscripted b false o i=operate [o,i] (getItem o i)
def IxR(X:Cx)(r:R2):Prop:=
 ∀(value slice:Expr) (pins:AB) (s:Shared) (σ:St) (H:Hp) (x y:V) (v u:Value) (Q:VK),Inv X pins σ H s->RelV x v->RelV y u->r x y H Q->
  subscripted slice false v u=operate [v,u] (getItem v u)->wpAny (model X.prog X.w) X.A (subscriptTail value slice v u) (EP X pins σ Q) X.xe s
def MtR(X:Cx)(id:String)(r:V->AN->Hp->VK->Prop):Prop:=
 ∀(pins:AB) (s:Shared) (σ:St) (H:Hp) (x:V) (xs:AN) (v:Value) (us:AC) (Q:VK),Inv X pins σ H s->RelV x v->Vals xs us->r x xs H Q->
  wpAny (model X.prog X.w) X.A (call (.builtin id) (v::us)) (EP X pins σ Q) X.xe s
section
variable {X:Cx}{a b:Expr}{ta tb:TE}{pos:Pos}
theorem IxR.or(h:IxR X r)(h':IxR X r'):IxR X (λx y H Q=>r x y H Q\/r' x y H Q):=by
 intro value slice pins s σ H x y v u Q I rx ry q hs;rcases q with q|q
 ·exact h value slice pins s σ H x y v u Q I rx ry q hs
 ·exact h' value slice pins s σ H x y v u Q I rx ry q hs
theorem Yabn(hr:IxR X r)(ha:PE X a ta)(hb:PE X b tb)(hs:Yip b):PE X (.Subscript a b pos) (tOp r ta tb):=by
 intro pins s σ H Q I h;exact Subscript_ (binT ha hb I h λv u s2 x y H2 I2 rx ry q=>hr a b pins s2 σ H2 x y v u Q I2 rx ry q (hs _ _))
def rIxL(K:W.Frag):R2:=λx y H Q=>∃p xs i v,x=.ref p/\y=.int i/\SqL K H p xs/\atI xs i=some v/\Q v H
def rIxT(K:W.Frag):R2:=λx y H Q=>∃p xs i v,x=.ref p/\y=.int i/\SqT K H p xs/\atI xs i=some v/\Q v H
def rIxS:R2:=λx y H Q=>∃z i c,x=.str z/\y=.int i/\z.length<=sizeLine/\atI z.cps.toList i=some c/\Q (.str ⟨#[c]⟩) H
theorem ix_list:IxR X (rIxL X.K):=by
 intro value slice pins s σ H x y v u Q I rx ry h hs;obtain⟨p,xs,i,z,rfl,rfl,hq,he,q⟩:=h;cases rx;obtain⟨t,rfl⟩:=ry;obtain⟨its,r,pl,hz⟩:=I.list hq;obtain⟨j,h1,h2,h3,h4,h5⟩:=Yuw he;obtain⟨w,ew,rw'⟩:=r.get h2;have hl:=r.length;have hn:=Yl7
 have fin:EP X pins σ Q w s:=⟨z,H,I,rw',q⟩
 by_cases h0:0<=i
 ·have hj:i.toNat=j:=by
   rw[seqIndex_of h0 h5]at h1;grind
  exact item_listR pl.isList h0 (by lia) (by grind) fin hs
 ·have hj:(i+(its.toArray.size:Int)).toNat=j:=by
   rw[seqIndex_neg (by lia) h4]at h1;grind
  exact subscriptTail_builtinR (x:=w) pl.isList.typeIs slot_list_getitem.lookup
   (wpAny_getItem_list_neg (Q:=λr s'=>r=w/\EP X pins σ Q r s') pl.isList (by lia) (by grind) (by lia) (by grind) ⟨rfl,fin⟩) hs
theorem ix_tup:IxR X (rIxT X.K):=by
 intro value slice pins s σ H x y v u Q I rx ry h hs;obtain⟨p,xs,i,z,rfl,rfl,hq,he,q⟩:=h;cases rx;obtain⟨t,rfl⟩:=ry;obtain⟨its,r,pl,hz⟩:=I.tuple hq;obtain⟨j,h1,h2,h3,h4,h5⟩:=Yuw he;obtain⟨w,ew,rw'⟩:=r.get h2;have hl:=r.length;have hn:=Yl7
 have fin:EP X pins σ Q w s:=⟨z,H,I,rw',q⟩
 exact subscriptTail_builtinR (x:=w) pl.typeIs slot_tuple_getitem.lookup
  (getItem_tuple (j:=j) (Q:=λr s'=>r=w/\EP X pins σ Q r s') pl (by lia) (by lia) (by grind) (by grind) ⟨rfl,fin⟩) hs
theorem y68:IxR X rIxS:=by
 intro value slice pins s σ H x y v u Q I rx ry h hs;obtain⟨z,i,c,rfl,rfl,hz,he,q⟩:=h;obtain⟨t,rfl⟩:=rx;obtain⟨t',rfl⟩:=ry;obtain⟨j,h1,h2,h3,h4,h5⟩:=Yuw he
 have hl:z.cps.toList.length=z.length:=by simp[Str.length]
 rw[hl]at h1 h4 h5;have hn:=Yl7
 exact tail_any (typeIs_str s z t) slot_str_getitem.lookup (getItem_str (c:=c) (by
  grind) (by grind) ⟨.str ⟨#[c]⟩,H,I.tok _,⟨_,rfl⟩,q⟩) hs
def rIx(K:W.Frag):R2:=λx y H Q=>rIxL K x y H Q\/rIxT K x y H Q\/rIxS x y H Q
theorem Yabo:IxR X (rIx X.K):=ix_list.or (ix_tup.or y68)
theorem Yyx(its:AC)(n j:Nat)(u:Value):Obj.mapSeq (·.setIfInBounds j u) { cls:=.type "list",data:=.seq its.toArray n }={ cls:=.type "list",data:=.seq (its.set j u).toArray n }:=by
 simp[Obj.mapSeq]
theorem Inv.lst{pins:AB}{σ:St}{H:Hp}{s:Shared}{p:Addr}{xs:AN}(I:Inv X pins σ H s)(h:H p=some (.lst xs)) :
 ∃(its:AC) (n:Nat),Vals xs its/\s.heap.get? p=some { cls:=.type "list",data:=.seq its.toArray n }/\xs.length<=sizeLine:=by
 obtain⟨z,its,n,r,e⟩:=I.hok p _ h;exact⟨its,n,r,e,z⟩
theorem Inv.lstUpd{pins:AB}{σ:St}{H:Hp}{s:Shared}{p:Addr}{xs ys:AN}{its its':AC}{n n':Nat}{f:Obj->Obj}(I:Inv X pins σ H s)(h:H p=some (.lst xs))
 (ho:s.heap.get? p=some { cls:=.type "list",data:=.seq its.toArray n }) (hf:f { cls:=.type "list",data:=.seq its.toArray n }={ cls:=.type "list",data:=.seq its'.toArray n' }) (r:Vals ys its') (hz:ys.length<=sizeLine) (t:Nat) :
 Inv X pins σ (upd H p (.lst ys)) { s with heap:=s.heap.update p f,toks:=t }:=by
 have e:(s.heap.update p f).get? p=some { cls:=.type "list",data:=.seq its'.toArray n' }:=by
  rw[wx f ho (by rw[hf]<;>rfl),hf]
 refine I.write (x:=p) (e:=p) (by rw[h];trivial) (.inl rfl) (λb u hb q=>(Heap.get?_update_other _ _ (Ne.symm hb)).trans q) ⟨_,e⟩ ?_;exact⟨hz,its',n',r,e⟩
def Yaex:V->V->V->Hp->(Hp->Prop)->Prop:=λo i v H Q=>∃p xs k j,o=.ref p/\i=.int k/\H p=some (.lst xs)/\ixN xs.length k=some j/\Q (upd H p (.lst (xs.set j v)))
theorem y4l:PSet X Yaex:=by
 intro pins s σ H o i v ov iv u Q I ro ri rv h;obtain⟨p,xs,k,j,rfl,rfl,hp,hj,q⟩:=h;cases ro;obtain⟨t,rfl⟩:=ri;obtain⟨its,n,r,ho,hz⟩:=I.lst hp;obtain⟨h1,h2,h3,h4⟩:=y0v hj;have hl:=r.length;have hn:=Yl7
 have I':Inv X pins σ (upd H p (.lst (xs.set j v))) { s with heap:=s.heap.update p (Obj.mapSeq (·.setIfInBounds j u)) }:=
  I.lstUpd hp ho (Yyx its n j u) (r.set rv j) (by rw[List.length_set];exact hz) s.toks
 by_cases h0:0<=k
 ·have hk:k.toNat=j:=by
   rw[seqIndex_of h0 h4]at h1;exact w9 h1
  exact W.ki_setAt ho h0 (by lia) (by rw[qk,<-hl];exact h4) (by rw[hk];exact⟨_,I',q⟩)
 ·have hk:(k+(its.toArray.size:Int)).toNat=j:=by
   rw[seqIndex_neg (by lia) h3]at h1;rw[qk,<-hl];exact w9 h1
  exact W.ki_setBack ho (by lia) (by rw[qk,<-hl];exact h3) (by lia) (by rw[hk];exact⟨_,I',q⟩)
theorem Ysr(lo hi:Option Int)(n:Nat):(sliceBounds lo hi none n).1=((HT.sIx n 0 lo:Nat):Int)/\(sliceBounds lo hi none n).2.1=((HT.sIx n n hi:Nat):Int)/\(sliceBounds lo hi none n).2.2=1:=by
 refine⟨?_,?_,rfl⟩
 ·cases lo with
  | none=>simp[sliceBounds,HT.sIx]
  | some i=>
    simp only[sliceBounds,HT.sIx,Option.getD_none,show(1:Int) > 0 by decide,if_true];grind
 ·cases hi with
  | none=>simp[sliceBounds,HT.sIx]
  | some i=>
    simp only[sliceBounds,HT.sIx,Option.getD_none,show(1:Int) > 0 by decide,if_true];grind
theorem Yp9(its:AC)(lo hi:Option Int):slicePick its.toArray lo hi none=((its.drop (HT.sIx its.length 0 lo)).take (HT.sIx its.length its.length hi-HT.sIx its.length 0 lo)).toArray:=by
 obtain⟨h1,h2,h3⟩:=Ysr lo hi its.toArray.size;unfold slicePick;rw[h1,h2,h3];simp only[sliceRange_one,pick_run,qk]<;>rfl
def rSlL(K:W.Frag):V->Option Int->Option Int->Hp->VK->Prop:=λx lo hi H Q=>∃a xs,x=.ref a/\SqL K H a xs/\∀p,H p=none->Q (.ref p) (upd H p (.lst (cutV xs lo hi)))
theorem y0w:SlR X (rSlL X.K):=by
 intro pins s σ H x v vl vu lo hi sl Q I rx hs pl pu h;obtain⟨a,xs,rfl,hx,q⟩:=h;cases rx;obtain⟨its,r,ht,hz⟩:=I.list hx;have hlen:=r.length;refine⟨"list",_,slot_list_getitem.lookup,ht.isList.typeIs,?_⟩;refine wpAny_getItem_list_slice ht.isList hs pl pu .none (by simp) ?_ (by grind);rw[Yp9,<-hlen];refine⟨.ref (~~~s),_,I.laid (t':=s.toks) (o:=.lst (cutV xs lo hi)) (λb ob q=>qe _ q) (qu _) ?_,rfl,q _ (I.hok.fresh (qu _))⟩;exact⟨Qb (Ymc xs lo hi) hz,_,0,(r.drop (HT.sIx xs.length 0 lo)).take (HT.sIx xs.length xs.length hi-HT.sIx xs.length 0 lo),qp _ rfl⟩
theorem Ys:Ydd X (.builtin "len") (λxs H Q=>∃p ys,xs=[.ref p]/\(SqL X.K H p ys\/SqT X.K H p ys)/\Q (.int ys.length) H):=by
 intro pins s σ H xs us Q I r h;obtain⟨p,ys,rfl,hq,q⟩:=h;obtain⟨u,rfl,rx⟩:=Yfj r;cases rx;have hn:=Yl7;rcases hq with hq|hq
 ·obtain⟨its,r',pl,hz⟩:=I.list hq
  have hlen:=r'.length;exact Calls.call_len_list pl.isList (by grind) ⟨.int ys.length,H,I.tok _,⟨s.toks+1,by grind⟩,q⟩
 ·obtain⟨its,r',pl,hz⟩:=I.tuple hq
  have hlen:=r'.length;exact len_tuple pl (by grind) ⟨.int ys.length,H,I.tok _,⟨s.toks+1,by grind⟩,q⟩
theorem Ylc:Ydd X (.builtin "len") (λxs H Q=>∃z,xs=[.str z]/\z.length<=sizeLine/\Q (.int z.length) H):=by
 intro pins s σ H xs us Q I r h;obtain⟨z,rfl,hz,q⟩:=h;obtain⟨u,rfl,t,rfl⟩:=Yfj r;have hn:=Yl7;exact len_str (by lia) ⟨.int z.length,H,I.tok _,⟨_,rfl⟩,q⟩
theorem Ygv:Ydd X (.type "list") (λxs H Q=>∃p ys,xs=[.ref p]/\(SqL X.K H p ys\/SqT X.K H p ys)/\∀l,H l=none->Q (.ref l) (upd H l (.lst ys))):=by
 intro pins s σ H xs us Q I r h;obtain⟨p,ys,rfl,hq,q⟩:=h;obtain⟨u,rfl,rx⟩:=Yfj r;cases rx
 have fin:∀(its:AC),Vals ys its->ys.length<=sizeLine->∀(h':Heap) (c':Nat),(∀b o',s.heap.get? b=some o'->h'.get? b=some o')->
  h'.get? (~~~s)=some { cls:=.type "list",dict:=none,data:=.seq its.toArray c',slots:=#[] }->EP X pins σ Q (.ref (~~~s)) { s with heap:=h' }:=λits r' hz h' c' kp e=>
  ⟨.ref (~~~s),_,I.laid (t':=s.toks) kp (qu _) (show ObjOk X.prog X.w _ h' _ (.lst ys) from⟨hz,its,c',r',e⟩),rfl,q _ (I.hok.fresh (qu _))⟩
 rcases hq with hq|hq
 ·obtain⟨its,r',pl,hz⟩:=I.list hq
  have hlen:=r'.length;obtain⟨o,ho,hc,n,hd⟩:=pl.isList;exact call_list_seq p (.inl rfl) ho hc hd (λh' c' kp e=>fin its r' hz h' c' kp e) (by grind)
 ·obtain⟨its,r',pl,hz⟩:=I.tuple hq
  have hlen:=r'.length;obtain⟨o,ho,hc,n,hd⟩:=pl;exact call_list_seq p (.inr rfl) ho hc hd (λh' c' kp e=>fin its r' hz h' c' kp e) (by grind)
theorem Yak:Ydd X (.type "tuple") (λxs H Q=>∃p ys,xs=[.ref p]/\((SqL X.K H p ys/\∀l,H l=none->Q (.ref l) (upd H l (.tup ys)))\/(SqT X.K H p ys/\Q (.ref p) H))):=by
 intro pins s σ H xs us Q I r h;obtain⟨p,ys,rfl,h⟩:=h;obtain⟨u,rfl,rx⟩:=Yfj r;cases rx;rcases h with⟨hq,q⟩|⟨hq,q⟩
 ·obtain⟨its,r',pl,hz⟩:=I.list hq
  have hlen:=r'.length;refine call_tuple_list pl.isList (λh' kp=>?_) (by grind);have I1:Inv X pins σ H { s with heap:=h' }:=I.kept (t':=s.toks) kp
  have I2:Inv X pins σ (upd H h'.objs.size (.tup ys)) { s with heap:=h'.push { cls:=.type "tuple",data:=.seq its.toArray } }:=
   I1.laid (t':=s.toks) (λb o e=>qe _ e) (qu _) (show ObjOk X.prog X.w _ _ _ (.tup ys) from⟨hz,its,r',IsTup.new _ _⟩)
  exact⟨.ref h'.objs.size,_,I2,rfl,q _ (I1.hok.fresh (qu _))⟩
 ·obtain⟨its,r',pl,hz⟩:=I.tuple hq
  exact call_tuple_same pl ⟨.ref p,H,I,rfl,q⟩
def tyV(K:W.Frag)(T:String)(x:V)(H:Hp):Prop:=match x with
 | .str _=>T="str"
 | .int _=>T="int"
 | .ref p=>(T="list"/\∃xs,SqL K H p xs)\/(T="tuple"/\∃o,K.lookup p=some o/\o.cls=.type "tuple"/\o.dict=none)\/
  (T="dict"/\((∃kvs,H p=some (.dK kvs))\/∃kvs,H p=some (.dT kvs)))\/(T="set"/\∃S n,H p=some (.set S n))
 | _=>False
theorem y69{σ:St}(I:Inv X pins σ H s)(r:RelV x v)(ty:tyV X.K T x H) :
 s.TypeIs v T/\∀a,v=.ref a->∃ob,s.heap.get? a=some ob/\ob.dict=none:=by
 cases x with
 | str z=>
   obtain⟨t,rfl⟩:=r;cases (show T="str" from ty);exact⟨typeIs_str s z t,λ_ e=>nomatch e⟩
 | int i=>
   obtain⟨t,rfl⟩:=r;cases (show T="int" from ty);exact⟨typeIs_int s i t,λ_ e=>nomatch e⟩
 | ref p=>
   cases r;rcases ty with⟨rfl,xs,hq⟩|⟨rfl,o,hk,hc,hd⟩|⟨rfl,hk⟩|⟨rfl,S,n,hk⟩
   ·obtain⟨its,_,pl,_⟩:=I.list hq
    refine⟨pl.isList.typeIs,λa e=>?_⟩;cases e;obtain⟨o,n,e,c,hd,_⟩:=pl;grind
   ·refine⟨⟨o,I.kIn p o hk,hc⟩,λa e=>?_⟩
    cases e;exact⟨o,I.kIn _ o hk,hd⟩
   ·have z:∃o,s.heap.get? p=some o/\o.ExactDict:=by
     rcases hk with⟨kvs,hk⟩|⟨kvs,hk⟩
     ·obtain⟨_,_,_,_,o,_,_,e,ex,_⟩:=I.hok p _ hk
      grind
     ·obtain⟨_,_,_,_,o,_,_,e,ex,_⟩:=I.hok p _ hk
      grind
    obtain⟨o,e,ex⟩:=z;refine⟨⟨o,e,ex.1⟩,λa e2=>?_⟩;cases e2;exact⟨o,e,ex.2.1⟩
   ·obtain⟨o,_,_,_,e,ex,_⟩:=I.hok p _ hk
    refine⟨⟨o,e,ex.1⟩,λa e2=>?_⟩;cases e2;exact⟨o,e,ex.2.1⟩
 | _=>exact False.elim ty
def tBM0(K:W.Frag)(T:String)(r:V->AN->Hp->VK->Prop)(to:TE):TE:=λσ H Q=>to σ H λx H1=>tyV K T x H1/\r x [] H1 Q
def tBM(K:W.Frag)(T:String)(r:V->AN->Hp->VK->Prop)(to:TE)(t:TA):TE:=λσ H Q=>to σ H λx H1=>tyV K T x H1/\t σ H1 λxs H2=>r x xs H2 Q
variable {o e:Expr}{es:AL}{to:TE}{t:TA}{name:Str}{apos cpos:Pos}{T id:String}{r:V->AN->Hp->VK->Prop}
theorem Yabp(pa:PlainAttrs T)(slot:Slot T name id)(hty:typeOf (.builtin id)=pure (.type "method_descriptor"))(hm:MtR X id r)(ho:PE X o to)
 (hbase:attributeBase o name X.env (eval o X.env)=eval o X.env:=by rfl) (hline:(apos.endLine==cpos.line)=true:=by rfl):PE X (.Call (.Attribute o name apos) [] [] cpos) (tBM0 X.K T r to):=by
 intro pins s σ H Q I h;refine wpAny_Call_method0_late hbase hline (thn (ho pins s σ H _ I h) λv s1 hx_=>?_);obtain⟨x,H1,I1,r1,ty,q1⟩:=hx_;obtain⟨h1,h2⟩:=y69 I1 r1 ty;exact⟨T,id,pa,slot,hty,h1,h2,Calls.callWith_builtin rfl (PySem.evalArgs_none (hm pins s1 σ H1 x [] v [] Q I1 r1 .nil q1))⟩
theorem Yux(pa:PlainAttrs T)(slot:Slot T name id)(hty:typeOf (.builtin id)=pure (.type "method_descriptor"))(hm:MtR X id r)(ho:PE X o to)(ha:PA X (e::es) t)
 (hbase:attributeBase o name X.env (eval o X.env)=eval o X.env:=by rfl)
 (hfew:((backTo cpos (starEach (e::es) X.env)).all (λx=>!x.1)&&(backToKw cpos (keywordEach [] X.env)).all (λx=>x.1.isSome)
  &&decide ((e::es).length+([]:List Keyword).length+(if ([]:List Keyword).isEmpty then 0 else 1)<30))=true:=by rfl)
 (hline:(apos.endLine==cpos.line)=true:=by rfl) (hs:starEach (e::es) X.env=(false,eval e X.env)::starEach es X.env:=by rfl) (hplain:(backTo cpos (starEach es X.env)).any (·.1)=false:=by rfl) :
 PE X (.Call (.Attribute o name apos) (e::es) [] cpos) (tBM X.K T r to t):=by
 intro pins s σ H Q I h;refine wpAny_Call_method_late hbase hfew hline rfl (thn (ho pins s σ H _ I h) λv s1 hx_=>?_);obtain⟨x,H1,I1,r1,ty,q1⟩:=hx_;obtain⟨h1,h2⟩:=y69 I1 r1 ty;refine⟨T,id,pa,slot,hty,h1,h2,?_⟩;have hA:=ha cpos pins s1 σ H1 _ I1 q1;rw[hs]at hA ⊢;refine Calls.callWith_builtin (by grind) (Calls.evalArgs_plain ?_);refine thn hA λus s2 hx_=>?_;obtain⟨vs,H2,I2,r2,q2⟩:=hx_;exact hm pins s2 σ H2 x vs v us Q I2 r1 r2 q2
end
def MtM(X:Cx)(id:String)(r:V->AN->Hp->VK->Prop):Prop:=
 ∀(pins:AB) (s:Shared) (σ:St) (H:Hp) (x:V) (xs:AN) (v:Value) (us:AC) (Q:VK),Inv X pins σ H s->RelV x v->Vals xs us->r x xs H Q->
  wpAny (model X.prog X.w) X.A (call (.builtin id) (v::us)) (EP X pins σ Q) X.xe s
theorem Vals.one:∀{x:V}{us:AC},Vals [x] us->∃u,us=[u]/\RelV x u
 :=by
  intro x us h
  cases h with
  | cons r t=>
    cases t;grind
theorem Vals.zero:∀{us:AC},Vals [] us->us=[]
 | _,.nil=>rfl
theorem Vals.dropLast{xs:AN}{us:AC}(h:Vals xs us):Vals xs.dropLast us.dropLast:=by
 induction h with
 | nil=>exact .nil
 | cons r t ih=>
   cases t with
   | nil=>exact .nil
   | cons q t'=>exact .cons r ih
theorem Yyy{α:Type}(l:List α):l.eraseIdx (l.length-1)=l.dropLast:=by
 induction l with
 | nil=>rfl
 | cons a r ih=>
   cases r with
   | nil=>rfl
   | cons b r=>
     have e:(a::b::r).length-1=((b::r).length-1)+1:=by
      have h1:(a::b::r).length=r.length+2:=rfl;have h2:(b::r).length=r.length+1:=rfl;lia
     rw[e,List.eraseIdx_cons_succ,ih]
     all_goals rfl
section
variable {X:Cx}{pins:AB}{σ:St}{H:Hp}{s:Shared}{l b:Addr}{xs ys zs:AN}
theorem Inv.lset{its its':AC}(I:Inv X pins σ H s)(hH:H l=some (.lst xs))
 (e:s.heap.get? l=some { cls:=.type "list",data:=.seq its.toArray n }) (hf:f its.toArray=its'.toArray) (hv:Vals ys its') (hz:ys.length<=sizeLine) :
 Inv X pins σ (upd H l (.lst ys)) { s with heap:=s.heap.update l (Obj.mapSeq f),toks:=t' }:=by
 have q:=PySem.IsL.update e f;rw[hf]at q;refine I.write (x:=l) (e:=l) (by rw[hH];exact trivial) (.inl rfl) (λb' u hb hu=>(Heap.get?_update_other s.heap (Obj.mapSeq f) (Ne.symm hb)).trans hu) ⟨_,q⟩ ?_;exact⟨hz,its',_,hv,q⟩
theorem Inv.lnew(I:Inv X pins σ H s)(hv:Vals ys its)(hz:ys.length<=sizeLine) :
 Inv X pins σ (upd H (~~~s) (.lst ys)) { s with heap:=s.heap.push { cls:=.type "list",data:=.seq its.toArray },toks:=t' }:=
 I.laid (λ_ _ q=>qe _ q) (qu _) ⟨hz,its,0,hv,qp _ rfl⟩
theorem Inv.fresh(I:Inv X pins σ H s):H (~~~s)=none:=I.hok.fresh (qu _)
theorem Inv.lstM(I:Inv X pins σ H s)(hH:H l=some (.lst xs)):xs.length<=sizeLine/\∃(its:AC) (n:Nat),Vals xs its/\xs.length=its.length/\s.heap.get? l=some { cls:=.type "list",data:=.seq its.toArray n }:=by
 obtain⟨z,its,n,r,e⟩:=I.hok l _ hH;exact⟨z,its,n,r,r.length,e⟩
theorem y4m(h:n<=sizeLine):Builtin.List.listTooLong n=false:=by
 unfold Builtin.List.listTooLong;grind
def y78:V->AN->Hp->VK->Prop:=λx vs H Q=>∃l xs y,x=.ref l/\vs=[y]/\H l=some (.lst xs)/\xs.length<sizeLine/\Q .non (upd H l (.lst (xs++[y])))
theorem Yjb:MtM X "list.append" y78:=by
 intro pins s σ H x vs v us Q I rx rv h;obtain⟨l,xs,y,rfl,rfl,hH,hz,q⟩:=h;cases rx;obtain⟨u,rfl,ru⟩:=rv.one;obtain⟨z,its,n,r,hl,e⟩:=I.lstM hH;refine call_meets F.slot_list_append ⟨_,e,rfl⟩ F.entry_list_append (F.args_list_append_2 _ _) (PySem.list_append l its.toArray n u (by grind)) ⟨e,?_⟩;refine⟨.non,_,I.lset (its':=its++[u]) hH e (by simp) (r.append (.cons ru .nil)) ?_,rfl,q⟩;grind
def rPop:V->AN->Hp->VK->Prop:=λx vs H Q=>∃l xs y,x=.ref l/\vs=[]/\H l=some (.lst xs)/\xs[xs.length-1]?=some y/\Q y (upd H l (.lst xs.dropLast))
theorem Yabq:MtM X "list.pop" rPop:=by
 intro pins s σ H x vs v us Q I rx rv h;obtain⟨l,xs,y,rfl,rfl,hH,hy,q⟩:=h;cases rx;have hus:=rv.zero;subst hus;obtain⟨z,its,n,r,hl,e⟩:=I.lstM hH;obtain⟨u,hu,ru⟩:=r.get hy
 have hy':its.toArray[its.toArray.size-1]?=some u:=by
  show its.toArray[its.length-1]?=some u;rw[<-Array.getElem?_toList,<-hl];exact hu
 refine call_meets F.slot_list_pop ⟨_,e,rfl⟩ F.entry_list_pop (F.args_list_pop_1 _) (MeetsSeq.list_pop_last l its.toArray n u hy' (by rw[qk];lia)) ⟨e,?_⟩;refine⟨y,_,I.lset (its':=its.dropLast) hH e ?_ r.dropLast ?_,ru,q⟩
 ·show its.toArray.eraseIdxIfInBounds (its.toArray.size-1)=its.dropLast.toArray
  rw[qk,List.eraseIdxIfInBounds_toArray,Yyy]
 ·rw[List.length_dropLast]
  lia
end
end L2
namespace Att
open PySem PySem.W PySem.Calls PyProof.Rows
theorem Ymd:∀(ns:AG) (vs:AC),WellAll P h vs (ns.map WData.int)->IntsAre vs ns:=by
 intro ns
 induction ns with
 | nil=>
   intro vs w;rw[List.map_nil]at w;cases w;exact .nil
 | cons n ns ih=>
   intro vs w;rw[Qa]at w
   cases w with
   | cons a b=>
     cases a;exact .cons _ _ (ih _ b)
theorem y0x{l:OpenLaw}(hn:l.most=some n)
 (hpre:l.row.toRowW.claim.pre args=true) (hwl:WellAll P h vals args) :
 ∃a vs ns,vals=[Value.ref a]/\args=[WData.list (ns.map WData.int)]/\h.get? a=some { cls:=.type "list",data:=.seq vs.toArray }/\IntsAre vs ns/\ns.length<=n:=by
 have hsh:WShape.hasAll [] args [.list .int]=true:=(pre_splitW hpre).1;have hc:l.pre.holds [] { args:=args }=true:=(pre_splitW hpre).2;obtain⟨d,r,rfl,h1,h2⟩:=hasAllW_cons hsh;obtain rfl:=hasAllW_nil h2;obtain⟨xs,rfl,h3⟩:=hasW_list h1;obtain⟨ns,rfl⟩:=items_int h3
 have hlen:ns.length<=n:=by
  unfold OpenLaw.pre at hc
  have h4:(WTm.not (.lt (.lit (.int (n:Int))) (.len (.arg 0)))).holds [] { args:=[.list (ns.map .int)] }=true:=by
   have h4:=(holds_andW hc).1;grind
  have h5:=condW_of h4 (w_not (w_lt w_lit (w_len_list (w_arg rfl))));grind
 cases hwl with
 | cons w1 w2=>
   cases w2
   cases w1 with
   | list ho hall=>exact⟨_,_,ns,rfl,rfl,ho,Ymd ns _ hall,hlen⟩
theorem y0y(l:OpenLaw)(args:List WData):l.row.toRowW.claim.post args (.bool true) args=true:=
 postW_of (r:=l.row.toRowW) (X:=(true==true))
  (show WShape.has [] (.bool true) .bool=true by first|rfl|decide|simp[WShape.has,WShape.arms,WShape.armsAll])
  (show(WTm.eq .res (.lit (.bool true))).value [] { args:=args,res:=some (.bool true),after:=args }=some (.bool (true==true)) from w_eq_bool (w_res rfl) w_lit) rfl
theorem attach_call{l:OpenLaw}
 (hn:l.most=some n) (hdf:d.params.defaults=[])
 (call:∀(w:World) (s₀ s₁:Shared) (mg mb:AE) (fa:Addr) (o:Obj) (pm cd doc:Value) (a:Addr) (vs:AC) (ns:AG),
  Ground q loose [] XP w s₀ mg mb s₁.heap->YP w s₁.heap->
  s₁.heap.get? fa=some o->o.data=.func (docDef d.name d.params d.body d.scope pm cd doc)->s₁.heap.CodeRec cd d.name->mg d.name=some (.ref fa)->
  s₁.heap.get? a=some { cls:=.type "list",data:=.seq vs.toArray }->IntsAre vs ns->ns.length<=n->s₁.gens=#[]->
  codeAny (model l.prog w) callerA (.call (.ref fa) ⟨[.ref a],[]⟩) (λr s'=>r=.ok (.ret (.bool true))/\OldK s₁.heap s'.heap/\s'.os=s₁.os/\AllBare s'.gens) s₁) :
 WalkO q loose XP YP l.row.toRowW d [] (λf vs=>PySem.call f vs):=by
 intro w s₀ s₁ mg mb G Y fa o pm cd doc dV kV ho hd hcd hD hmg hg args vals as hpre hlay hrd hwl hlo;obtain rfl:dV=.none:=Dflts.none hD hdf;obtain rfl:kV=.none:=Dflts.noKw hD;obtain⟨a,vs,ns,rfl,rfl,hobj,hints,hlen⟩:=y0x hn hpre hwl;refine enter_call (codeAny_mono (call w s₀ s₁ mg mb fa o pm cd doc a vs ns G Y ho (fd_plain hd) hcd hmg hobj hints hlen hg) λr s' hq=>?_);obtain⟨rfl,h2,h3,h4⟩:=hq;exact⟨.inl ⟨.bool true,.bool true,[],rfl,λ_=>rfl,.bool true,y0y l _,λ_=>⟨List.Pairwise.nil,λ_ hm=>(nomatch hm)⟩⟩,h2,h3,h4⟩
end Att
namespace L2
open PySem PySem.Spec PyProof.Rows
theorem Yjc:∀{vs:AC}{ns:AG},IntsAre vs ns->Vals (ns.map V.int) vs
 | _,_,.nil=>.nil
 | _,_,.cons n t h=>.cons ⟨t,rfl⟩ (Yjc h)
def Only(H:Hp):Prop:=∀b,H b=none\/∃o xs,H b=some (.frz o (.lst xs))
theorem y4n{K:W.Frag}
 (KX:K.In s₁.heap) (hns:s₁.heap.Ns mainGlobals mg) (hb:s₁.heap.Ns builtinsNs mb) (hbb:∀x:Str,x≠"__name__"->mb x=bootBuiltins x) (hlim:s₁.heap.NoLimit) (hg:s₁.gens=#[])
 (ha:s₁.heap.get? a=some { cls:=.type "list",data:=.seq vs.toArray }) (hi:IntsAre vs ns) (hl:ns.length<=sizeLine) (hr:Room k callerA)
 (F:∀base:Heap,K.In base->base.Ns mainGlobals mg->FnOk P w K mg base CX k fa fd [x] sp) (hbind:∀(s:Shared) (u:Value),BindsTo s fd ⟨[u],[]⟩ [(x,u)])
 (hsp:∀H:Hp,Only H->SqL K H a (ns.map V.int)->sp [.ref a] H (λv _=>v=.bl true) λ_ _ _=>False)
 (hCX:∀H e s',CX [] H s₁ (λ_ _ _=>False) e s'->False) :
 codeAny (model P w) callerA (.call (.ref fa) ⟨[.ref a],[]⟩) (λr s'=>r=.ok (.ret (.bool true))/\OldK s₁.heap s'.heap/\s'.os=s₁.os/\AllBare s'.gens) s₁:=by
 have rv:=Yjc hi;have lenV:=hi.length
 have core:∀H:Hp,Only H->SqL K H a (ns.map V.int)->HOk P w H s₁.heap->(∀b,H b≠none->b=a)->(H a≠none->K.lookup a=none)->
  codeAny (model P w) callerA (.call (.ref fa) ⟨[.ref a],[]⟩) (λr s'=>r=.ok (.ret (.bool true))/\OldK s₁.heap s'.heap/\s'.os=s₁.os/\AllBare s'.gens) s₁:=by
  intro H hO hS hok hA hK;have base_of:∀{b:Addr}{o:Obj},s₁.heap.get? b=some o->H b=none->(hidT s₁.heap H).get? b=some o:=λe n=>y38 e n
  have noA:∀{b:Addr}{o:Obj}{es:Array DictEntry}{ep:Nat},s₁.heap.get? b=some o->o.data=.dict es ep->H b=none:=λ{b o es ep} e d=>by
   grind
  have nsK:∀{b:Addr}{m:AE},s₁.heap.Ns b m->(hidT s₁.heap H).Ns b m:=λ{b m} ⟨o,es,ep,e,d,r⟩=>⟨o,es,ep,base_of e (noA e d),d,r⟩
  have hKb:K.In (hidT s₁.heap H):=λb o e=>base_of (KX b o e) (by
   grind)
  have hM:Mod K mg (hidT s₁.heap H):=⟨hKb,nsK hns,⟨mb,nsK hb,hbb⟩,let ⟨mc,h1,h2⟩:=hlim;⟨mc,nsK h1,h2⟩⟩
  have e0:Env0 P w K mg (hidT s₁.heap H) callerA [] s₁ H:=⟨rfl,hM,λb o e=>y7y e,Nat.le_of_eq (Yz7 _ _),trivial,λb hb=>absurd (show b∈([]:List Addr) from hb) (by simp),hok,.of_eq hg⟩
  refine codeAny_mono ((F _ hKb (nsK hns)).run callerA [] s₁ H ⟨[.ref a],[]⟩ [.ref a] [.ref a] _ _ hr e0 (hbind s₁ (.ref a)) (.cons rfl .nil) (hsp H hO hS)) λr s' h=>?_
  cases r with
  | error e=>exact(hCX H e s' h).elim
  | ok fl=>
    cases fl with
    | next=>exact False.elim h
    | brk=>exact False.elim h
    | cont=>exact False.elim h
    | ret u=>
      obtain⟨v,H',os,bare,un,hok',r',q⟩:=h;have q':v=.bl true:=q;subst q';obtain rfl:u=Value.bool true:=r';refine⟨rfl,OldK.of_keep λb o e=>?_,os,bare⟩
      cases q:H b with
      | none=>exact un.keep b o e q (by intro z;exact absurd (show b∈([]:List Addr) from z) (by simp)) (by simp)
      | some u=>
        rcases hO b with z|⟨ob,xs,z⟩
        ·grind
        ·have z2:=un.frzs b ob _ z
         obtain⟨e1,_⟩:=hok b _ z;obtain⟨e2,_⟩:=hok' b _ z2;grind
 cases hk:K.lookup a with
 | some o=>
   have e:=KX a o hk;rw[ha]at e;cases e;refine core (λ_=>none) (λ_=>.inl rfl) (.inr ⟨_,vs.toArray,_,hk,rfl,rfl,rfl,by grind,by grind⟩) (λb u z=>by grind) (λb z=>absurd rfl z) λz=>absurd rfl z
 | none=>
   refine core (λb=>if b=a then some (.frz { cls:=.type "list",data:=.seq vs.toArray } (.lst (ns.map V.int)))else none) (λb=>?_) (.inl (.inr ⟨{ cls:=.type "list",data:=.seq vs.toArray },if_pos rfl⟩)) (λb u z=>?_) (λb z=>?_) λ_=>hk
   ·grind
   ·by_cases hb:b=a
    ·have z':=(if_pos hb).symm.trans z
     cases z';subst hb;exact⟨ha,by grind,vs,_,rv,ha⟩
    grind
   grind
theorem walk_of{l:W.OpenLaw}{K:Params->W.Frag}{CX:World->CXT}{sp:World->Sp}
 (hn:l.most=some n) (hn2:n<=sizeLine) (hdf:d.params.defaults=[]) (hr:Room k callerA)
 (hY:∀(w:World) (h:Heap),YP w h->(K w.params).In h)
 (F:∀(w:World) (mg:AE) (fa:Addr) (h:Heap),(K w.params).In h->h.Ns mainGlobals mg->mg d.name=some (.ref fa)->
  ∃fd:FuncData,(∀(s:Shared) (u:Value),BindsTo s fd ⟨[u],[]⟩ [(x,u)])/\
   ∀base:Heap,(K w.params).In base->base.Ns mainGlobals mg->FnOk l.prog w (K w.params) mg base (CX w) k fa fd [x] (sp w))
 (hsp:∀(w:World) (H:Hp) (a:Addr) (ns:AG),ns.length<=n->Only H->SqL (K w.params) H a (ns.map V.int)->sp w [.ref a] H (λv _=>v=.bl true) λ_ _ _=>False)
 (hCX:∀(w:World) (H:Hp) (s:Shared) (e:Value) (s':Shared),CX w [] H s (λ_ _ _=>False) e s'->False) :
 W.WalkO q loose XP YP l.row.toRowW d [] (λf vs=>PySem.call f vs):=by
 refine Att.attach_call hn hdf λw s₀ s₁ mg mb fa o pm cd doc a vs ns G Y ho hd hcd hmg hobj hints hlen hg=>?_;have KX:=hY w _ Y;obtain⟨fd,hb,hF⟩:=F w mg fa _ KX G.T.g hmg;exact y4n KX G.T.g G.T.b G.T.builtins G.T.nolimit hg hobj hints (Qb hlen hn2) hr hF hb (λH hO hS=>hsp w H a ns hlen hO hS) λH e s'=>hCX w H s₁ e s'
def inClass(s:Stmt)(j:Nat):Stmt:=match s with
 | .ClassDef _ _ _ body _ _ _ _ _ _ _=>body.getD j (.Pass ⟨0,0,0,0⟩)
 | _=>.Pass ⟨0,0,0,0⟩
def defArgs(s:Stmt):Arguments:=match s with
 | .FunctionDef _ a _ _ _ _ _ _ _ _=>a
 | _=>{ posonlyargs:=[],args:=[],vararg:=none,kwonlyargs:=[],kw_defaults:=[],kwarg:=none,defaults:=[] }
def defBody(s:Stmt):List Stmt:=match s with
 | .FunctionDef _ _ b _ _ _ _ _ _ _=>b
 | _=>[]
def defScope(s:Stmt):Scope:=match s with
 | .FunctionDef _ _ _ _ _ _ sc _ _ _=>sc
 | _=>{ kind:=.function,names:=[],isGenerator:=false,isCoroutine:=false }
abbrev CX0:CXT:=λ_ _ _ _ _ _=>False
abbrev E0:XK:=λ_ _ _=>False
theorem Yuy:Ypc CX0 X E0:=λ_ _ _ _ _ _ _ h=>h.elim
structure Fun(K:W.Frag)(x qual:Str)(st:Stmt)(f:Addr)(fd:FuncData):Prop where
 ex:∃(oc:Value) (od:Option Addr) (kV doc pm:Value) (an:Option Addr) (cdv ct:Value) (osl:Array (Option Value)),
  fd=W.fnOf x qual (defArgs st) (defBody st) (defScope st) .none kV doc pm an cdv ct/\K.lookup f=some ⟨oc,od,.func fd,osl⟩/\W.codeIn K cdv qual=true
 kp:W.keepIn K (.ref f)=true
section
variable {P:Program}{w:World}{K:W.Frag}{mg:AE}{base:Heap}
theorem Fun.ok{st:Stmt}(F:Fun K x qual st f fd)(S:FnScope N ps (defScope st))(len:∀vs H Q E,sp vs H Q E->vs.length=ps.length)
 (hbody:∀(cdv:Value) (A:Around) (outer:List Env) (s:Shared) (H:Hp) (vs:AN) (Q:VK) (E:XK),Room k (A.deeper (envOfC qual (defScope st) (~~~s) f cdv))->sp vs H Q E->
  ∃t,PSs (cxOf CX0 P w K mg base N qual (defScope st) f cdv A outer s H E).nox (defBody st) t/\t { nx:=λ_ H'=>Q .non H',rt:=Q } (start N vs) H):FnOk P w K mg base CX0 (k+1) f fd ps sp:=by
 obtain⟨oc,od,kV,doc,pm,an,cdv,ct,osl,rfl,lk,hcd⟩:=F.ex;refine Yaew lk hcd S len λA outer s H vs Q E hr hsp=>?_;obtain⟨t,h,q⟩:=hbody cdv A outer s H vs Q E hr hsp;exact⟨t,h.nox,q⟩
theorem Fun.binds{st:Stmt}(F:Fun K x qual st f fd)
 (h:∀(kV doc pm:Value) (an:Option Addr) (cdv ct:Value) (us:AC),us.length=ps.length->bindArgs (W.fnOf x qual (defArgs st) (defBody st) (defScope st) .none kV doc pm an cdv ct) ⟨us,[]⟩=pure (ps.zip us)):Binds K fd ps []:=by
 obtain⟨oc,od,kV,doc,pm,an,cdv,ct,osl,rfl,lk,hcd⟩:=F.ex;exact .all (h kV doc pm an cdv ct)
theorem Yss{st:Stmt}{kV doc pm cdv ct:Value}(l:K.lookup f=some ⟨oc,od,.func (W.fnOf x qual (defArgs st) (defBody st) (defScope st) .none kV doc pm an cdv ct),osl⟩)
 (c:W.codeIn K cdv qual=true) (k:W.keepIn K (.ref f)=true):Fun K x qual st f (W.fnOf x qual (defArgs st) (defBody st) (defScope st) .none kV doc pm an cdv ct):=⟨⟨oc,od,kV,doc,pm,an,cdv,ct,osl,rfl,l,c⟩,k⟩
end
theorem iteF{A B:Prop}(h:B):if false=true then A else B:=by
 rw[if_neg qi];exact h
theorem iteT{A B:Prop}(h:A):if true=true then A else B:=by
 rw[if_pos rfl];exact h
def Same(H H':Hp):Prop:=∀b o,H b=some o->H' b=some o
theorem Same.refl(H:Hp):Same H H:=λ_ _ h=>h
theorem Same.trans(a:Same H H1)(b:Same H1 H2):Same H H2:=λc o h=>b c o (a c o h)
theorem Same.free(e:Same H H')(h:H' l=Option.none):H l=Option.none:=by
 cases q:H l with
 | none=>rfl
 | some o=>
   rw[e l o q]at h;cases h
theorem Same.seq{K:W.Frag}(e:Same H H')(h:SqL K H a xs):SqL K H' a xs:=by
 rcases h with(h|⟨o,h⟩)|h
 ·exact .inl (.inl (e _ _ h))
 ·exact .inl (.inr ⟨o,e _ _ h⟩)
 ·exact .inr h
def clOf(env:Env):List (Str×NameKind)->List (Str×Addr)->List (Str×Addr)
 | [],cs=>cs
 | (n,k)::r,cs=>if (k==NameKind.free)=true then (match env.cells.lookup n with|some c=>clOf env r ((n,c)::cs)|none=>clOf env r cs)else clOf env r cs
theorem Ygw(h:∀x∈scope.names,x.2=NameKind.free->∃c,env.cells.lookup x.1=some c):closureFor scope env=pure (clOf env scope.names []):=by
 have key:∀(l:List (Str×NameKind)) (cs:List (Str×Addr)),(∀x∈l,x.2=NameKind.free->∃c,env.cells.lookup x.1=some c)->
  (forIn l cs fun(x:Str×NameKind) (r:List (Str×Addr))=>if (x.2==NameKind.free)=true then (do let c <-cellOf env x.1;pure (ForInStep.yield ((x.1,c)::r)))else pure (ForInStep.yield r))=(pure (clOf env l cs):Sem (List (Str×Addr))):=by
  intro l
  induction l with
  | nil=>intro cs _;rfl
  | cons x l ih=>
    intro cs hl;obtain⟨n,k⟩:=x;have ht:=λy hy=>hl y (qg _ hy);rw[List.forIn_cons];by_cases hk:k=NameKind.free
    ·subst hk
     obtain⟨c,hc⟩:=hl (n,NameKind.free) qh rfl;have hc':env.cells.lookup n=some c:=hc
     have e1:cellOf env n=pure c:=by unfold cellOf;rw[hc']
     have hff:(NameKind.free==NameKind.free)=true:=rfl;show(if (NameKind.free==NameKind.free)=true then (do let c <-cellOf env n;pure (ForInStep.yield ((n,c)::cs)))else pure (ForInStep.yield cs))>>=_=_;rw[if_pos hff,e1,pure_bind,pure_bind];show forIn l ((n,c)::cs) _=_;rw[ih _ ht];show _=pure (if (NameKind.free==NameKind.free)=true then (match env.cells.lookup n with|some c=>clOf env l ((n,c)::cs)|none=>clOf env l cs)else clOf env l cs);grind
    ·have hb:(k==NameKind.free)=false:=by grind
     show(if (k==NameKind.free)=true then _ else pure (ForInStep.yield cs))>>=_=_;rw[if_neg (by grind),pure_bind];show forIn l cs _=_;rw[ih _ ht];show _=pure (if (k==NameKind.free)=true then (match env.cells.lookup n with|some c=>clOf env l ((n,c)::cs)|none=>clOf env l cs)else clOf env l cs);grind
 have:=key scope.names [] h;unfold closureFor;grind
theorem Yl0:∀(l:List (Str×NameKind)) (cs:List (Str×Addr)),(∀x c,(x,c)∈cs->env.cells.lookup x=some c)->∀x c,(x,c)∈clOf env l cs->env.cells.lookup x=some c
 | [],cs,h,x,c,e=>h x c e
 | (n,k)::r,cs,h,x,c,e=>by
   unfold clOf at e
   split at e
   ·split at e
    ·rename_i d hd
     refine Yl0 r _ (λy b hy=>?_) x c e;grind
    ·exact Yl0 r cs h x c e
   ·exact Yl0 r cs h x c e
theorem Yhn:∀(l:List (Str×NameKind)) (cs:List (Str×Addr)) (p:Str×Addr),p∈cs->p∈clOf env l cs
 | [],_,_,h=>h
 | (n,k)::r,cs,p,h=>by
   unfold clOf
   split
   ·split
    ·exact Yhn r _ p (qg _ h)
    ·exact Yhn r _ p h
   ·exact Yhn r _ p h
theorem Yjd:∀(l:List (Str×NameKind)) (cs:List (Str×Addr)) (x:Str) (c:Addr),(x,NameKind.free)∈l->env.cells.lookup x=some c->(x,c)∈clOf env l cs
 | (n,k)::r,cs,x,c,h,hc=>by
   rcases qt h with q|q
   ·cases q
    unfold clOf;rw[if_pos (show(NameKind.free==NameKind.free)=true from rfl),hc];exact Yhn r _ _ qh
   ·unfold clOf
    split
    ·split
     ·exact Yjd r _ x c q hc
     ·exact Yjd r _ x c q hc
    ·exact Yjd r _ x c q hc
theorem Yje{cl:List (Str×Addr)}(h:(x,c)∈cl):∃d,cl.lookup x=some d:=by
 induction cl with
 | nil=>cases h
 | cons p r ih=>
   obtain⟨n,b⟩:=p;rw[List.lookup_cons]
   cases e:(x==n)with
   | true=>grind
   | false=>
     grind
structure CompSc(XN:AK)(xsc:Scope)(N:AK)(src:List AM)(sc:Scope):Prop where
 kind:sc.kind=.function
 xkind:xsc.kind=.function
 cellU:∀y∈sc.names,y.2=NameKind.cell->sc.names.lookup y.1=some NameKind.cell
 names:∀y∈sc.names,y.2=NameKind.local->sc.names.lookup y.1=some NameKind.local
 len:src.length=N.length
 nd:N.Nodup
 cap:∀(i j:Nat) (x:Str),N[i]?=some x->src[i]?=some (some j)->XN[j]?=some x/\sc.names.lookup x=some NameKind.free
 fr:∀y∈sc.names,y.2=NameKind.free->xsc.names.lookup y.1=some NameKind.cell\/xsc.names.lookup y.1=some NameKind.free
def capB(XN:AK)(sc:Scope):AK->List AM->Bool
 | [],[]=>true
 | x::N,none::src=>capB XN sc N src
 | x::N,some j::src=>decide (XN[j]?=some x)&&decide (sc.names.lookup x=some NameKind.free)&&capB XN sc N src
 | _,_=>false
theorem Yqa:∀{N:AK}{src:List AM},capB XN sc N src=true->src.length=N.length
 | [],[],_=>rfl
 | _::N,none::src,h=>by
   have:=Yqa (N:=N) (src:=src) h;simp[this]
 | _::N,some j::src,h=>by
   replace h:(decide (XN[j]?=some _)&&decide (sc.names.lookup _=some NameKind.free)&&capB XN sc N src)=true:=h;simp only[Qe]at h;have:=Yqa (N:=N) (src:=src) h.2;simp[this]
 | [],_::_,h=>Bool.noConfusion h
 | _::_,[],h=>Bool.noConfusion h
theorem Yqb:∀{N:AK}{src:List AM},capB XN sc N src=true->∀(i j:Nat) (x:Str),N[i]?=some x->src[i]?=some (some j)->XN[j]?=some x/\sc.names.lookup x=some NameKind.free
 | [],[],_,i,j,x,h,_=>by simp at h
 | _::N,none::src,h,i,j,x,h1,h2=>by
   cases i with
   | zero=>simp at h2
   | succ i=>exact Yqb (N:=N) (src:=src) h i j x (by grind) (by grind)
 | y::N,some k::src,h,i,j,x,h1,h2=>by
   replace h:(decide (XN[k]?=some y)&&decide (sc.names.lookup y=some NameKind.free)&&capB XN sc N src)=true:=h;simp only[Qe,wm]at h
   cases i with
   | zero=>
     grind
   | succ i=>exact Yqb (N:=N) (src:=src) h.2 i j x (by grind) (by grind)
 | [],_::_,h,_,_,_,_,_=>Bool.noConfusion h
 | _::_,[],h,_,_,_,_,_=>Bool.noConfusion h
def Yabr(XN:AK)(xsc:Scope)(N:AK)(src:List AM)(sc:Scope):Bool:=
 decide (sc.kind=.function)&&decide (xsc.kind=.function)&&sc.names.all (λy=>decide (y.2=NameKind.cell->sc.names.lookup y.1=some NameKind.cell))&&sc.names.all (λy=>decide (y.2=NameKind.local->sc.names.lookup y.1=some NameKind.local))&&
  decide N.Nodup&&capB XN sc N src&&sc.names.all (λy=>decide (y.2=NameKind.free->xsc.names.lookup y.1=some NameKind.cell\/xsc.names.lookup y.1=some NameKind.free))
theorem y6(h:Yabr XN xsc N src sc=true):CompSc XN xsc N src sc:=by
 unfold Yabr at h;simp only[Qe,wm,List.all_eq_true]at h;obtain⟨⟨⟨⟨⟨⟨h1,h2⟩,h3⟩,h4⟩,h5⟩,h6⟩,h7⟩:=h;exact⟨h1,h2,h3,h4,Yqa h6,h5,Yqb h6,h7⟩
abbrev Ya3(X:Cx)(scope:Scope)(N:AK)(cl:List (Str×Addr))(C:Addr)(fp:List Addr)(s:Shared)(H:Hp):Cx where
 prog:=X.prog
 w:=X.w
 K:=X.K
 mg:=X.mg
 base:=X.base
 A:=X.A
 N:=N
 s₀:=s
 H₀:=H
 env:=compEnvC scope cl C X.env
 outer:=X.stack
 stack:=X.stack
 ex:=fp
 fn:=λx=>scope.names.lookup x==some NameKind.cell
 calm:=X.calm
 pn:=[]
 xe:=λ_ _=>False
def capσ(src:List AM)(σ:St):St:=src.map λo=>o.bind λj=>(σ[j]?).join
def PIfs(X:Cx)(ifs:AL)(t:TT):Prop:=
 ∀(pins:AB) (s:Shared) (σ:St) (H:Hp) (Q:Bool->Hp->Prop),Inv X pins σ H s->t σ H Q->
  wpAny (model X.prog X.w) X.A (forIn ifs true λc r=>if r=true then do let ok <-isTrue c X.env (eval c X.env);pure (ForInStep.yield ok)else pure (ForInStep.yield r)) (TP X pins σ Q) X.xe s
def tYes:TT:=λ_ H Q=>Q true H
theorem y79:PIfs X [] tYes:=λ_ _ _ H _ I h=>wpAny_tests_nil ⟨H,I,h⟩
def tLC(wi:TI)(src:List AM)(g:TG)(ti:TT)(te:TE):TE:=λσ H Q=>wi σ H λJ H1=>∀p,H1 p=none->
 ∃W:Nat->Nat->St->Hp->Prop,(∃m,W 0 m (capσ src σ) (upd H1 p (.lst [])))/\∀i m σ1 H2,W i m σ1 H2->
  (J.stop i H2/\Q (.ref p) H2)\/
  (J.go i H2/\∀x H3,J.yld i H2 x H3->g x σ1 H3 λσ4 H4=>ti σ4 H4 λb H5=>if b=true then te σ4 H5 λv H6=>∃xs,H6 p=some (.lst xs)/\xs.length<sizeLine/\∃m',m'<m/\W (i+1) m' σ4 (upd H6 p (.lst (xs++[v])))else ∃m',m'<m/\W (i+1) m' σ4 H5)
section
variable {prog:Program}{w:World}{A:Around}{R:Result->Shared->Prop}{s:Shared}{X:Cx}{elt tg iter:Expr}{ifs:AL}{scope:Scope}{pos:Pos}{wi:TI}{g:TG}{ti:TT}{te:TE}{N:AK}{src:List AM}
theorem Yh5(I:Nat->Shared->Prop)
 (turn:∀n s,I n s->wpAny (model prog w) A (pyNext it) (λr s₁=>match r with
  | none=>R (.ok .next) s₁
  | some v=>wpAny (model prog w) A (letOwnedTupleGo target it v) (λ_ s₁=>wpAny (model prog w) A (assign target env v) (λ_ s₂=>
   wpAny (model prog w) A (forIn ifs true λc r=>if r=true then do let ok <-isTrue c env (eval c env);pure (ForInStep.yield ok)else pure (ForInStep.yield r)) (λok s₃=>
    if ok=true then wpAny (model prog w) A (eval elt env) (λx s₄=>
     wpAny (model prog w) A (call (.builtin "list.append") [acc,x]) (λ_ s₅=>∃m,m<n/\I m s₅) (notedBy (model prog w) A env λe s'=>R (.error e) s') s₄) (notedBy (model prog w) A env λe s'=>R (.error e) s') s₃
    else ∃m,m<n/\I m s₃) (notedBy (model prog w) A env λe s'=>R (.error e) s') s₂) (notedBy (model prog w) A env λe s'=>R (.error e) s') s₁) (notedBy (model prog w) A env λe s'=>R (.error e) s') s₁) (notedBy (model prog w) A env λe s'=>R (.error e) s') s)
 (n:Nat) (h:I n s) :
 codeAny (model prog w) A (.compLoop (.ListComp elt [⟨target,iter,ifs,0⟩] scope pos) 0 it acc env) R s:=by
 refine codeAny_loop rfl I (λn s hI=>?_) n h;show wpAny _ A ((compTurn (.ListComp elt [⟨target,iter,ifs,0⟩] scope pos) 0 it acc env).onRaise (λx=>do noteFrame x env;theTreesLotGoes x)) _ _ s;refine wpAny_noted ?_;rw[compTurn_list];refine wa (wpAny_standAt (wa (wz (turn n s hI) (λr s₁ h₁=>?_) λ_ _ h'=>h')))
 cases r with
 | none=>exact wc h₁
 | some v=>
   refine wa (wz h₁ (λ_ s₁ h₁=>?_) λ_ _ h'=>h');refine wa (wz h₁ (λ_ s₂ h₂=>wa (wz h₂ (λok s₃ h₃=>?_) λ_ _ h'=>h')) λ_ _ h'=>h')
   cases ok with
   | false=>exact wc ⟨rfl,h₃⟩
   | true=>
     exact wa (wa (wz h₃ (λx s₄ h₄=>wa (wz h₄ (λ_ s₅ h₅=>wc (wc ⟨rfl,h₅⟩)) λ_ _ h'=>h')) λ_ _ h'=>h'))
theorem Yiq(h:scope.names.lookup x=some NameKind.free)(hk:env.kindOf x=some NameKind.cell\/env.kindOf x=some NameKind.free) :
 (relabel scope env).names.lookup x=some NameKind.cell\/(relabel scope env).names.lookup x=some NameKind.free:=by
 unfold relabel;show List.lookup x (scope.names.map _)=_\/List.lookup x (scope.names.map _)=_;generalize scope.names=l at h
 induction l with
 | nil=>cases h
 | cons p r ih=>
   grind
theorem Yme(h:(relabel scope env).names.lookup x=some NameKind.cell\/(relabel scope env).names.lookup x=some NameKind.free) :
 (x,NameKind.free)∈scope.names\/(x,NameKind.cell)∈scope.names:=by
 unfold relabel at h
 change List.lookup x (scope.names.map _)=_\/List.lookup x (scope.names.map _)=_ at h
 revert h
 generalize scope.names=l;intro h
 induction l with
 | nil=>grind
 | cons p r ih=>
   grind
theorem Ych:∀(names:List (Str×NameKind)) (n:Nat) (acc:List (Str×Addr)),cellsFrom n names acc=cellsFrom n names []++acc
 | [],_,_=>rfl
 | (x,k)::r,n,acc=>by
   unfold cellsFrom
   split
   ·rw[Ych r (n+1) ((x,n)::acc),Ych r (n+1) [(x,n)],jd];rfl
   ·exact Ych r n acc
theorem Yfz:∀(names:List (Str×NameKind)) (n:Nat) (x:Str) (c:Addr),(x,c)∈cellsFrom n names []->(x,NameKind.cell)∈names
 | [],_,_,_,h=>(nomatch h)
 | (y,k)::r,n,x,c,h=>by
   unfold cellsFrom at h
   split at h
   ·rename_i hk
    rw[Ych]at h;rcases qv h with h|h
    ·exact qg _ (Yfz r _ x c h)
    grind
   ·exact qg _ (Yfz r n x c h)
theorem Ype{own cl:List (Str×Addr)}:(own++cl).lookup x=(own.lookup x).or (cl.lookup x):=by grind
theorem Ybf{own cl:List (Str×Addr)}(h:(own++cl).lookup x=some c):own.lookup x=some c\/(own.lookup x=none/\cl.lookup x=some c):=by
 rw[Ype]at h
 simp_all
theorem Yuz
 (h:Q (newEnv scope (~~~s) globals (cellsFrom (~~~s+1) scope.names []++cl) qual none .none (some outer) bt) { s with heap:=pushCells (s.heap.push { cls:=.type "dict",data:=.dict #[] }) scope.names }) :
 wpAny M A (newFunctionEnv scope globals cl [] qual none .none (some outer) bt) Q E s:=by
 simp only[newFunctionEnv,Option.isSome_some,if_true];refine wa (wpAny_alloc ?_);refine wa (wpAny_layCells _ (λname kind cells=>by grind) _ _ _ _ ?_);rw[show({ s with heap:=s.heap.push { cls:=.type "dict",data:=.dict #[] } }:Shared).heap.objs.size= ~~~s+1 from ww ..,Ych];rw[List.forIn_nil];exact wa (wc (wc h))
theorem Yyz{σ:St}(S:CompSc X.N X.env.scope N src scope)(I:Inv X pins σ H s)(hf:∀b∈fp,FpOk X pins H b)(ho:∀b∈fp,∃o,s.heap.get? b=some o)
 (hn:h₁.Ns (~~~s) λ_=>none) (hk:∀b o,s.heap.get? b=some o->h₁.get? b=some o) (hc:CellsOk h₁ (~~~s+1) own) (ow:∀x c,(x,c)∈own->(x,NameKind.cell)∈scope.names) (has:∀x,scope.names.lookup x=some NameKind.cell->∃c,own.lookup x=some c) :
 Inv (Ya3 X scope N (own++clOf X.env scope.names []) (~~~s) fp s H) [] (capσ src σ) H { s with heap:=h₁,toks:=tk }:=by
 have sub:∀x c,(clOf X.env scope.names []).lookup x=some c->X.env.cells.lookup x=some c:=λx c e=>Yl0 scope.names [] (λ_ _ z=>nomatch z) x c (PySem.mem_of_lookup e)
 have clt:∀x c,(clOf X.env scope.names []).lookup x=some c->c< ~~~s:=λx c e=>by
  obtain⟨v,q⟩:=I.cell x c (sub x c e);exact q.lt
 have owl:∀x c,own.lookup x=some c->(~~~s)<c:=λx c e=>(hc.empty x c (PySem.mem_of_lookup e)).2
 have nofree:∀x,scope.names.lookup x=some NameKind.free->own.lookup x=none:=λx hx=>by
  cases e:own.lookup x with
  | none=>rfl
  | some c=>
    have:=S.cellU _ (ow x c (PySem.mem_of_lookup e)) rfl;grind
 have fpl:∀b∈fp,b< ~~~s:=λb hb=>by
  obtain⟨o,e⟩:=ho b hb;exact ql e
 have nfs:∀b∈fp,b∉frs X.stack:=λb hb z=>by
  rcases qt (I.stkSub b z)with e|e
  ·exact(hf b hb).2.1 e
  ·exact(hf b hb).2.2.1 e
 refine⟨⟨I.ok.mod,S.kind,I.ok.glob,I.ok.blt,qu _,λx y c h1 h2=>?_,λx hx=>?_,λx c z e=>?_,I.ok.hd,I.ok.frames,.inl rfl,λb hb=>⟨qm (fpl b hb),λx c e=>?_⟩,
  I.bs,Qb I.ok.bsz I.sz,λb o e hb=>?_,nfs,I.stack,I.stkFree⟩,rfl,I.bare,Un.kept hk,⟨_,hn,λi x v h1 h2 h3=>?_⟩,λx c e=>?_,I.fresh,λx c e=>?_,λp hp=>(nomatch hp),I.hok.kept hk,?_⟩
 ·rcases Ybf h1 with h1|⟨_,h1⟩
  ·rcases Ybf h2 with h2|⟨_,h2⟩
   ·exact name_of_addr hc.apart (PySem.mem_of_lookup h1) (PySem.mem_of_lookup h2)
   grind
  ·rcases Ybf h2 with h2|⟨_,h2⟩
   ·grind
   ·exact I.ok.inj x y c (sub x c h1) (sub y c h2)
 ·show ∃c,(own++clOf X.env scope.names []).lookup x=some c
  rw[Ype]
  cases e:own.lookup x with
  | some c=>grind
  | none=>
    rcases Yme hx with hm|hm
    ·obtain⟨c,hc⟩:=I.ok.has x (S.fr _ hm rfl)
     exact Yje (Yjd scope.names [] x c hm hc)
    ·obtain⟨c,hc⟩:=has x (S.cellU _ hm rfl)
     grind
 ·have z':scope.names.lookup x=some NameKind.cell:=by simpa using z
  obtain⟨d,hd⟩:=has x z';rcases Ybf e with e|⟨e,_⟩
  ·grind
  grind
 ·rcases Ybf e with e|⟨_,e⟩
  ·grind
  ·exact(hf b hb).2.2.2.2.1 x c (sub x c e)
 ·rcases(hf b hb).2.2.2.1 with z|z
  ·exact I.ok.noex b o e z
  ·exact absurd (Qc (ql e) (Qb I.ok.bsz z)) (Nat.lt_irrefl _)
 ·have hi:i<src.length:=by
   have:=(qo h2).1;unfold capσ at this;grind
  have hs:src[i]?=some src[i]:=qq hi;unfold capσ at h2;rw[Qg,hs]at h2;have h2':(src[i].bind λj=>(σ[j]?).join)=some v:=w9 h2;cases q:src[i]with
  | none=>grind
  | some j=>
    rw[q]at h2' hs;have h2'':(σ[j]?).join=some v:=h2';obtain⟨hx,hfr⟩:=S.cap i j x h1 hs;obtain⟨m,_,hl⟩:=I.loc;have hk2:X.env.kindOf x=some NameKind.cell\/X.env.kindOf x=some NameKind.free:=S.fr (x,NameKind.free) (PySem.mem_of_lookup hfr) rfl
    have hσ:σ[j]?=some (some v):=by
     grind
    obtain⟨u,r,l⟩:=hl j x v hx hσ (.inr hk2);refine⟨u,r,.inr ⟨Yiq hfr hk2,?_⟩⟩;rcases l with⟨z,_⟩|⟨_,c,hc,hcell⟩
    ·grind
    ·obtain⟨d,hd⟩:=Yje (Yjd (env:=X.env) scope.names [] x c (PySem.mem_of_lookup hfr) hc)
     have e2:=sub x d hd;rw[hc]at e2;cases e2;refine⟨c,?_,hcell.keeps hk⟩;show(own++clOf X.env scope.names []).lookup x=some c;grind
 ·rcases Ybf e with e|⟨_,e⟩
  ·exact⟨_,(hc.empty x c (PySem.mem_of_lookup e)).1⟩
  ·obtain⟨v,q⟩:=I.cell x c (sub x c e)
   exact⟨v,q.keeps hk⟩
 ·rcases Ybf e with e|⟨_,e⟩
  ·exact I.hok.fresh (Nat.le_of_lt (owl x c e))
  ·exact I.freeC x c (sub x c e)
 ·unfold capσ
  rw[qf];exact S.len
theorem y4o{σ σ1:St}(I:Inv X pins σ H s)(hf:∀b∈fp,FpOk X pins H b)(J:Inv (Ya3 X scope N cl C fp s H) pn σ1 H' s'):Inv X pins σ H' s':=
 I.call' J.os J.base J.hok J.bare λb hb=>⟨(hf b hb).2.2.2.1,(hf b hb).2.1,(hf b hb).2.2.2.2.1,(hf b hb).2.2.2.2.2⟩
theorem Yst{σ:St}{Q:VK}{R:Value->Addr->Result->Shared->Prop}
 (S:CompSc X.N X.env.scope N src scope) (hc:X.calm=true) (hg:∀cl C fp s H,PG (Ya3 X scope N cl C fp s H) tg g) (hi:∀cl C fp s H,PIfs (Ya3 X scope N cl C fp s H) ifs ti) (he:∀cl C fp s H,PE (Ya3 X scope N cl C fp s H) elt te)
 (I:Inv X pins σ H s) (T:Turn X.prog X.w X.K tg J fp it tn) (st:tn 0 s.heap) (hf:∀b∈fp,FpOk X pins H b)
 (h:∀p,H p=none->∃W:Nat->Nat->St->Hp->Prop,(∃m,W 0 m (capσ src σ) (upd H p (.lst [])))/\∀i m σ1 H2,W i m σ1 H2->
  (J.stop i H2/\Q (.ref p) H2)\/
  (J.go i H2/\∀x H3,J.yld i H2 x H3->g x σ1 H3 λσ4 H4=>ti σ4 H4 λb H5=>if b=true then te σ4 H5 λv H6=>∃xs,H6 p=some (.lst xs)/\xs.length<sizeLine/\∃m',m'<m/\W (i+1) m' σ4 (upd H6 p (.lst (xs++[v])))else ∃m',m'<m/\W (i+1) m' σ4 H5))
 (hR:∀(D C:Addr) (s':Shared) (H':Hp) (m:AE),Inv X pins σ H' s'->s'.heap.Ns C m->H' C=none->C≠X.env.locals->X.s₀.heap.objs.size<=C->(∀x c,X.env.cells.lookup x=some c->c≠C)->(∀p∈X.pn++pins,p.1≠C)->Q (.ref D) H'->R (.ref D) C (.ok .next) s') :
 wpAny (model X.prog X.w) X.A (newList []) (λacc s₃=>wpAny (model X.prog X.w) X.A (newFunctionEnv scope X.env.globals (clOf X.env scope.names []) [] X.env.qual none .none (some X.env)) (λcenv s₄=>
  codeAny (model X.prog X.w) X.A (.compStart (.ListComp elt [⟨tg,iter,ifs,0⟩] scope pos) 0 (.ref it) acc { cenv with scope:=relabel scope X.env }) (R acc cenv.locals) s₄) E s₃) E s:=by
 refine wg (Yuz ?_);have hfree:H (~~~s)=none:=I.fresh;obtain⟨W,⟨m0,w0⟩,turn⟩:=h (~~~s) hfree;have I3:Inv X pins σ (upd H (~~~s) (.lst [])) { s with heap:=s.heap.push { cls:=.type "list",dict:=none,data:=.seq ([]:AC).toArray },toks:=s.toks }:=I.lnew (ys:=[]) (its:=[]) .nil (jc _);generalize hD:(~~~s)=Dd at *;generalize hH3:upd H Dd (.lst [])=H3 at *;have kp0:∀b o,s.heap.get? b=some o->(s.heap.push { cls:=.type "list",dict:=none,data:=.seq ([]:AC).toArray }).get? b=some o:=λb o e=>qe _ e
 have lt0:∀b o,s.heap.get? b=some o->b≠Dd:=λb o e=>by rw[<-hD];exact qm (ql e)
 generalize hs3:s.heap.push { cls:=.type "list",dict:=none,data:=.seq ([]:AC).toArray }=hp3 at *
 have f3:∀b∈fp,FpOk X pins H3 b:=λb hb=>by
  obtain⟨o,e,_⟩:=T.obj _ _ st b hb;refine⟨?_,(hf b hb).2⟩;rw[<-hH3,Yx (lt0 b o e)];exact(hf b hb).1
 have ob3:∀b∈fp,∃o,hp3.get? b=some o:=λb hb=>by
  obtain⟨o,e,_⟩:=T.obj _ _ st b hb;grind
 dsimp only;have hns₁:(pushCells (hp3.push { cls:=.type "dict",data:=.dict #[] }) scope.names).Ns hp3.objs.size (λ_=>none):=(Heap.Ns.new hp3 (.type "dict")).keeps (pushCells_keeps _ _);have old:∀b o,hp3.get? b=some o->(pushCells (hp3.push { cls:=.type "dict",data:=.dict #[] }) scope.names).get? b=some o:=λb o e=>pushCells_keeps _ _ b o (qe _ e);have cok:=cellsFrom_ok scope.names (hp3.push { cls:=.type "dict",data:=.dict #[] }) (hp3.objs.size+1) [] ⟨λ_ _ hm=>(nomatch hm),List.Pairwise.nil⟩ (by simp_all);rw[ww]at cok;have chas:∀x,scope.names.lookup x=some NameKind.cell->∃c,(cellsFrom (hp3.objs.size+1) scope.names []).lookup x=some c:=λx hx=>Option.isSome_iff_exists.mp (PySem.W.cellsFrom_some _ _ _ (.inl hx));have cmem:∀x c,(x,c)∈cellsFrom (hp3.objs.size+1) scope.names []->(x,NameKind.cell)∈scope.names:=λx c h=>Yfz _ _ x c h;generalize cellsFrom (hp3.objs.size+1) scope.names []=own,pushCells (hp3.push { cls:=.type "dict",data:=.dict #[] }) scope.names=h₁ at *
 have I4:Inv (Ya3 X scope N (own++clOf X.env scope.names []) hp3.objs.size fp { s with heap:=hp3,toks:=s.toks } H3) [] (capσ src σ) H3 { s with heap:=h₁,toks:=s.toks }:=
  Yyz (s:={ s with heap:=hp3,toks:=s.toks }) (tk:=s.toks) S I3 f3 ob3 hns₁ old cok cmem chas
 have st4:tn 0 h₁:=T.keep _ _ _ st λb _ o e=>old b o (kp0 b o e);have hCl:hp3.objs.size≠X.env.locals:=Nat.ne_of_gt I3.lt
 have hCc:∀x c,X.env.cells.lookup x=some c->c≠hp3.objs.size:=λx c e=>by
  obtain⟨v,q⟩:=I3.cell x c e;exact qm q.lt
 have hCp:∀p∈X.pn++pins,p.1≠hp3.objs.size:=λp hp=>qm (ql (I3.pin p hp).1)
 have stat:∀{H':Hp},(∀b∈fp,H' b=none)->∀b∈fp,FpOk (Ya3 X scope N (own++clOf X.env scope.names []) hp3.objs.size fp { s with heap:=hp3,toks:=s.toks } H3) [] H' b:=λ{H'} hn b hb=>by
  obtain⟨e1,e2⟩:=I4.ok.exf b hb;exact⟨hn b hb,e1,I4.ok.exfs b hb,.inl hb,e2,λp hp=>nomatch hp⟩
 have loop:codeAny (model X.prog X.w) X.A (.compLoop (.ListComp elt [⟨tg,iter,ifs,0⟩] scope pos) 0 (.ref it) (.ref Dd) (compEnvC scope (own++clOf X.env scope.names []) hp3.objs.size X.env)) (R (.ref Dd) hp3.objs.size) { s with heap:=h₁,toks:=s.toks }:=by
  refine Yh5 (λn s'=>∃i σ' H',Inv (Ya3 X scope N (own++clOf X.env scope.names []) hp3.objs.size fp { s with heap:=hp3,toks:=s.toks } H3) [] σ' H' s'/\tn i s'.heap/\(∀b∈fp,H' b=none)/\W i n σ' H') ?_ m0 ⟨0,_,H3,I4,st4,λb hb=>(f3 b hb).1,w0⟩;rintro n s3 ⟨i,σ3,H3',I3',st3,fr3,w3⟩;rcases turn i n σ3 H3' w3 with⟨stop,qn⟩|⟨go,step⟩
  ·refine thn (T.done (Ya3 X scope N (own++clOf X.env scope.names []) hp3.objs.size fp { s with heap:=hp3,toks:=s.toks } H3) rfl rfl rfl hc i [] s3 σ3 H3' _ I3' (stat fr3) st3 stop) λr s4 hx_=>?_
   obtain⟨hr,I5⟩:=hx_;subst hr;obtain⟨m,hm,_⟩:=I5.loc;exact hR Dd hp3.objs.size s4 H3' m (y4o I3 f3 I5) hm I5.free hCl (Qb I3.sz (qu _)) hCc hCp qn
  ·refine thn (T.item (Ya3 X scope N (own++clOf X.env scope.names []) hp3.objs.size fp { s with heap:=hp3,toks:=s.toks } H3) rfl rfl rfl hc i [] s3 σ3 H3' _ I3' (stat fr3) st3 go) λr s4 hx_=>?_
   obtain⟨u,hr,h4⟩:=hx_;subst hr;refine thn h4 λ_ s5 hx_=>?_;obtain⟨x,H5,I5,r5,y5,st5,fr5⟩:=hx_;have I5':=I5.pinned (stat fr5) (T.obj _ _ st5);have un:∀{α:Type}{t:Sem α}{Q':α->Shared->Prop}{E':AA}{s':Shared},wpAny (model X.prog X.w) X.A t Q' (λ_ _=>False) s'->wpAny (model X.prog X.w) X.A t Q' E' s':=λh=>wz h (λ_ _ q=>q) λ_ _ f=>f.elim;refine un (thn (hg _ _ _ _ _ _ s5 σ3 H5 x u _ I5' r5 (step x H5 y5)) λ_ s6 hx_=>?_);obtain⟨σ6,H6,I6,q6⟩:=hx_;refine un (thn (hi _ _ _ _ _ _ s6 σ6 H6 _ I6 q6) λok s7 hx_=>?_);obtain⟨H7,I7,q7⟩:=hx_
   have again:∀{H8:Hp}{s8:Shared}{m':Nat},m'<n->Inv (Ya3 X scope N (own++clOf X.env scope.names []) hp3.objs.size fp { s with heap:=hp3,toks:=s.toks } H3) ([]++Ysl fp s5.heap) σ6 H8 s8->W (i+1) m' σ6 H8->
    ∃m,m<n/\∃i σ' H',Inv (Ya3 X scope N (own++clOf X.env scope.names []) hp3.objs.size fp { s with heap:=hp3,toks:=s.toks } H3) [] σ' H' s8/\tn i s8.heap/\(∀b∈fp,H' b=none)/\W i m σ' H':=λ{H8 s8 m'} hm I8 w8=>by
    refine⟨m',hm,i+1,σ6,H8,I8.unpinned,T.keep _ _ _ st5 λb hb o e=>(I8.pin (b,o) (Qh _ (Qh _ (Yhm hb e)))).1,λb hb=>?_,w8⟩;obtain⟨o,e,d⟩:=T.obj _ _ st5 b hb;exact(I8.pin (b,o) (Qh _ (Qh _ (Yhm hb e)))).2.1
   cases ok with
   | false=>
     grind
   | true=>
     rw[if_pos rfl]at q7 ⊢;refine un (thn (he _ _ _ _ _ _ s7 σ6 H7 _ I7 q7) λy s8 hx_=>?_);obtain⟨v,H8,I8,r8,q8⟩:=hx_;obtain⟨xs,e8,z8,m',hm,w8⟩:=q8;refine un (thn (Yjb _ s8 σ6 H8 (.ref Dd) [v] (.ref Dd) [y] (λ_ H9=>H9=upd H8 Dd (.lst (xs++[v]))) I8 rfl (.cons r8 .nil) ⟨Dd,xs,v,rfl,rfl,e8,z8,rfl⟩) λ_ s9 hx_=>?_);obtain⟨_,H9,I9,_,q9⟩:=hx_;grind
 exact codeAny_compStart_list loop (T.self _ _ _ _ _ st4 loop)
theorem y8b(S:CompSc X.N X.env.scope N src scope)(hc:X.calm=true)(hit:PI X tg iter wi)(hg:∀cl C fp s H,PG (Ya3 X scope N cl C fp s H) tg g)(hi:∀cl C fp s H,PIfs (Ya3 X scope N cl C fp s H) ifs ti)(he:∀cl C fp s H,PE (Ya3 X scope N cl C fp s H) elt te)
 (hs:∀x,foldedSetIterable iter X.env x=pure x:=by intro _;rfl):PE X (.ListComp elt [⟨tg,iter,ifs,0⟩] scope pos) (tLC wi src g ti te):=by
 intro pins s σ H Q I h;rw[eval_ListComp];have hcl:closureFor scope X.env=pure (clOf X.env scope.names []):=Ygw λy hy hf=>I.ok.has y.1 (S.fr y hy hf);refine wpAny_comprehension_free (use:=none) rfl hs hcl S.kind S.names ?_;refine thn (hit pins s σ H _ I h) λv s1 h1=>thn h1 λitv s2 hx_=>?_;obtain⟨it,fp,tn,J,H2,e,I2,T,st2,f2,q⟩:=hx_;subst e;refine Yst (Q:=Q) (R:=λacc C=>compPost (model X.prog X.w) X.A X.xe none (EP X pins σ Q) acc C) S hc hg hi he I2 T st2 f2 q λD C s' H' m I' hm hC hCl hCs hCc hCp hq=>?_;refine⟨m,hm,λh' sb=>?_⟩;exact⟨.ref D,H',I'.turned (t':=s'.toks) (λb o hb e=>(sb.2 b hb).trans e) hC hCl (.inr hCs) hCc hCp,rfl,hq⟩
theorem y8c{py spos:Pos}(S:CompSc X.N X.env.scope N src scope)(hc:X.calm=true)(hit:PI X tg iter wi)(hg:∀cl C fp s H,PG (Ya3 X scope N cl C fp s H) tg g)(hi:∀cl C fp s H,PIfs (Ya3 X scope N cl C fp s H) ifs ti)(he:∀cl C fp s H,PE (Ya3 X scope N cl C fp s H) elt te)
 (hN:X.N.Nodup) (hy:X.N[i]?=some y) (hx:Loc X.env.scope y) (hsw:swapsWith (.ListComp elt [⟨tg,iter,ifs,0⟩] scope pos) (some (.Name y py)) spos.line X.env=pure true)
 (hf:X.fn y=true\/X.env.scope.names.lookup y=some .local:=by trivial)
 (hs:∀x,foldedSetIterable iter X.env x=pure x:=by intro _;rfl):PS X (.Assign [.Name y py] (.ListComp elt [⟨tg,iter,ifs,0⟩] scope pos) spos) (tAsg (tLC wi src g ti te) (Yym i)):=by
 intro pins s σ H D I h;rw[exec_Assign_Name_used _ _ _ _ hsw];refine wa (wpAny_standAt (wa ?_));show wpAny _ X.A (do let _ <-comprehension (.ListComp elt [⟨tg,iter,ifs,0⟩] scope pos) scope X.env _ (newList []) false (eval iter X.env) (some (assign (.Name y py) X.env))) _ _ s;have hcl:closureFor scope X.env=pure (clOf X.env scope.names []):=Ygw λy hy hf=>I.ok.has y.1 (S.fr y hy hf);refine wa (wz (wpAny_comprehension_free (use:=some (assign (.Name y py) X.env)) (Q:=λ_ s'=>SP X pins D .next s') rfl hs hcl S.kind S.names ?_) (λ_ s' hq=>wc (wc hq)) λ_ _ e=>e);refine thn (hit pins s σ H _ I h) λv s1 h1=>thn h1 λitv s2 hx_=>?_;obtain⟨it,fp,tn,J,H2,e,I2,T,st2,f2,q⟩:=hx_;subst e;refine Yst (Q:=λx H1=>Yym i x σ H1 D.nx) (R:=λacc C=>compPost (model X.prog X.w) X.A X.xe (some (assign (.Name y py) X.env)) (λ_ s'=>SP X pins D .next s') acc C) S hc hg hi he I2 T st2 f2 q λDd C s' H' m I' hm hC hCl hCs hCc hCp hq=>?_;show wpAny _ X.A (assign (.Name y py) X.env (.ref Dd)) _ _ s';refine wpAny_assign_Name (Ysk I' hN hy hx (v:=.ref Dd) rfl (λs'' I'' hsb=>?_) hf);obtain⟨a,sb,ha⟩:=hsb
 have hCa:C≠a:=by
  grind
 refine⟨m,hm.sameBut sb hCa,λh' sb'=>?_⟩;exact⟨_,H',I''.turned (t':=s''.toks) (λb o hb e=>(sb'.2 b hb).trans e) hC hCl (.inr hCs) hCc hCp,hq⟩
end
end L2
namespace M
open PySem PySem.Spec PyProof.Rows L2
section
section
def Rise(xs:Array Nat):Prop:=xs.toList.Pairwise (·<·)
theorem Yqc(hr:Rise xs)(j:Nat):∀(fuel lo hi:Nat),lo<=hi->hi<=xs.size->hi-lo<=fuel->
 (∀(i:Nat) (h:i<xs.size),i<lo->xs[i]<j)->(∀(i:Nat) (h:i<xs.size),hi<=i->j<=xs[i])->
 SetTable.below.go xs j fuel lo hi<=xs.size/\(∀(i:Nat) (h:i<xs.size),i<SetTable.below.go xs j fuel lo hi->xs[i]<j)/\(∀(i:Nat) (h:i<xs.size),SetTable.below.go xs j fuel lo hi<=i->j<=xs[i])
 | 0,lo,hi,h1,h2,h3,h4,h5=>by
   have e:lo=hi:=by lia
   subst e;rw[SetTable.below.go];grind
 | fuel+1,lo,hi,h1,h2,h3,h4,h5=>by
   have mono:∀(i k:Nat) (hi:i<xs.size) (hk:k<xs.size),i<k->xs[i]<xs[k]:=λi k hi hk h=>by
    have:=List.pairwise_iff_getElem.mp hr i k (by grind) (by grind) h;grind
   rw[SetTable.below.go];by_cases hl:lo<hi
   ·rw[if_pos hl]
    have hm:(lo+hi)/2<xs.size:=by lia
    have hg:xs.getD ((lo+hi)/2) j=xs[(lo+hi)/2]:=by simp_all
    dsimp only;rw[hg];by_cases hlt:xs[(lo+hi)/2]<j
    ·rw[if_pos hlt]
     refine Yqc hr j fuel _ _ (by lia) h2 (by lia) (λi hi' hh=>?_) h5;by_cases e:i=(lo+hi)/2
     ·grind
     grind
    ·rw[if_neg hlt]
     refine Yqc hr j fuel _ _ (by lia) (by lia) (by lia) h4 (λi hi' hh=>?_);by_cases e:i=(lo+hi)/2
     ·subst e;lia
     grind
   grind
theorem Ypf(hr:Rise xs)(j:Nat):SetTable.below xs j<=xs.size/\(∀a∈xs.toList.take (SetTable.below xs j),a<j)/\(∀a∈xs.toList.drop (SetTable.below xs j),j<=a):=by
 obtain⟨h1,h2,h3⟩:=Yqc hr j xs.size 0 xs.size (jc _) (qu _) (by lia) (λi _ h=>absurd h (Nat.not_lt_zero _)) (λi h h'=>absurd h (by lia));have e:SetTable.below xs j=SetTable.below.go xs j xs.size 0 xs.size:=rfl;rw[e];refine⟨h1,λa ha=>?_,λa ha=>?_⟩
 ·obtain⟨i,hi,rfl⟩:=List.mem_iff_getElem.mp ha
  rw[List.length_take]at hi
  have hs0:xs.toList.length=xs.size:=by simp
  have hi':i<xs.size:=by lia
  rw[List.getElem_take,Array.getElem_toList];exact h2 i hi' (by lia)
 ·obtain⟨i,hi,rfl⟩:=List.mem_iff_getElem.mp ha
  rw[List.length_drop]at hi
  have hs:xs.toList.length=xs.size:=by simp
  rw[List.getElem_drop,Array.getElem_toList];exact h3 _ (by lia) (by lia)
theorem Ya5(xs:Array α)(p:Nat)(x:α):(SetTable.insertAt xs p x).toList=xs.toList.take p++x::xs.toList.drop p:=by
 unfold SetTable.insertAt;simp[Array.toList_extract,List.extract_eq_drop_take];exact List.take_of_length_le (by simp)
theorem Ymf(hr:Rise xs)(j:Nat)(hn:xs[SetTable.below xs j]?≠some j):Rise (SetTable.insertAt xs (SetTable.below xs j) j):=by
 obtain⟨h1,h2,h3⟩:=Ypf hr j;unfold Rise at hr ⊢;rw[Ya5];generalize hp:SetTable.below xs j=p at h1 h2 h3 hn ⊢;rw[<-Array.getElem?_toList]at hn;generalize xs.toList=l at hr h2 h3 hn ⊢;have hr2:=hr;rw[<-List.take_append_drop p l,List.pairwise_append]at hr;obtain⟨r1,r2,r3⟩:=hr
 have hgt:∀a∈l.drop p,j<a:=by
  cases hd:l.drop p with
  | nil=>grind
  | cons b r=>
    rw[hd]at r2 h3
    have hb:l[p]?=some b:=by
     have:(l.drop p)[0]?=some b:=by rw[hd];rfl
     grind
    have hjb:j<b:=Nat.lt_of_le_of_ne (h3 b qh) (λz=>hn (by rw[hb,z]));intro a ha;rcases qt ha with rfl|ha
    ·exact hjb
    ·exact Nat.lt_trans hjb ((List.pairwise_cons.mp r2).1 a ha)
 rw[List.pairwise_append]
 simp_all
theorem Ysu{t:SetTable}(h:∀i,t.slot j≠.live i):t.place[SetTable.below t.place j]?≠some j:=λz=>by
 refine h (SetTable.below t.place j) ?_;unfold SetTable.slot;grind
theorem Yko:∀(fuel:Nat) (p:SetTable.Probe) {j:Nat}{d:AM},(∀x,p.dummy=some x->∀i,t.slot x≠.live i)->
 SetTable.probe.go t ha h fuel p=some (.empty j d)->∀i,t.slot (d.getD j)≠.live i
 | 0,p,j,d,_,e=>by rw[SetTable.probe.go]at e;cases e
 | fuel+1,p,j,d,hd,e=>by
   rw[SetTable.probe.go]at e
   split at e
   ·rename_i hs
    cases e;intro i
    cases hp:p.dummy with
    | none=>grind
    | some x=>grind
   ·rename_i hs
    refine Yko fuel _ (λx hx i=>?_) e
    have hx':x=p.j:=by
     unfold SetTable.advance at hx;grind
    grind
   ·split at e
    ·cases e
    ·refine Yko fuel _ (λx hx i=>hd x ?_ i) e
     unfold SetTable.advance at hx;grind
def Tab(bt:Bool)(t:SetTable):Prop:=(bt=false->t.led=true)/\(t.plain=true->Rise t.place)
theorem Tab.standIn(h:Tab bt t)(n:Nat):Tab bt (t.standIn n):=⟨h.1,λz=>nomatch z⟩
theorem Tab.off(h:Tab bt t):Tab bt { t with plain:=false }:=⟨h.1,λz=>nomatch z⟩
theorem Tab.fresh:Tab bt (.fresh 0 0 (!bt)):=⟨λh=>by subst h;rfl,λ_=>.nil⟩
theorem Tab.layNew(h:Tab bt t)(es:Array (Int×Value))(hh:Int)(x:Value):Tab bt (PySem.layNew t es hh x).2.1:=by
 unfold PySem.layNew
 split
 ·rename_i slot wd hf
  dsimp only;unfold SetTable.orStandIn
  split
  ·refine⟨h.1,λz=>?_⟩
   refine Ymf (h.2 z) slot (Ysu ?_);unfold SetTable.freeSlot at hf
   split at hf
   ·rename_i j dummy hp
    cases hf;exact Yko _ _ (λx hx=>by simp[SetTable.probeStart]at hx) hp
   ·cases hf
  ·exact⟨h.1,λz=>nomatch z⟩
 ·exact h.standIn _
theorem y0z{led plain:Bool}(h:SetTable.laid mask finger moves led plain hs=some (t,o)):Rise t.place/\t.led=led/\t.plain=plain:=by
 unfold SetTable.laid at h;obtain⟨owner,_,h⟩:=qa h;cases h;refine⟨?_,rfl,rfl⟩;unfold Rise;show(((List.range (mask+1)).filterMap λj=>(owner.getD j none).map (j,·)).map (·.1)).Pairwise (·<·);rw[List.map_filterMap];refine List.Pairwise.filterMap _ (λa b hab x hx y hy=>?_) List.pairwise_lt_range
 simp_all
theorem Tab.relayAll(h:Tab bt t)(es:Array (Int×Value))(n:Nat):Tab bt (PySem.relayAll t es n).2.1:=by
 unfold PySem.relayAll
 split
 ·rename_i t' order hr
  obtain⟨h1,h2,h3⟩:=y0z hr;dsimp only
  split
  ·exact⟨λz=>by rw[h2];exact h.1 z,λ_=>h1⟩
  ·exact h.standIn _
 ·exact h.standIn _
end
end
section
section
variable {prog:Program}{w:World}{A:Around}{E:AA}{s:Shared}
def kOf(e:Int×Value):Int:=match e.2 with
 | .int n _=>n
 | _=>0
abbrev byT(w:World):Bool:=w.params.followText "set-order"
def SetI(prog:Program)(w:World)(h:Heap)(a:Addr)(ns:AG):Prop:=
 ∃o es ep t,h.get? a=some o/\o.ExactSet/\o.data=.set es ep t/\ElemsOf (intKind prog w) es.toList/\es.toList.map kOf=ns/\ns.Nodup/\es.size<scanBound/\t.fits es.size=true/\Tab (byT w) t
theorem y7a(h:(intKind prog w).is k e.2=true):kOf e=k:=by
 obtain⟨t,ht⟩:=Value.isInt_shape h;unfold kOf;rw[ht]
theorem Yw2(h:ElemsOf (intKind prog w) es)(he:e∈es):∃t,e=(hashInt (kOf e),.int (kOf e) t):=by
 obtain⟨⟨k,hk,hh⟩,_⟩:=h e he;have hk':=y7a hk;obtain⟨t,ht⟩:=Value.isInt_shape hk;refine⟨t,?_⟩;rw[hk'];exact Prod.ext hh ht
theorem SetI.at(x:SetI prog w h a ns)(e:∀o,h.get? a=some o->h'.get? a=some o):SetI prog w h' a ns:=
 let ⟨o,es,ep,t,ho,r⟩:=x
 ⟨o,es,ep,t,e o ho,r⟩
theorem SetI.len(x:SetI prog w h a ns):ns.length<scanBound:=by
 obtain⟨o,es,ep,t,ho,hex,hd,hel,hns,hnd,hb,_⟩:=x;grind
theorem Yu0{h:Heap}(ho:h.get? a=some o)(hd:o.data=.set es ep t)(es':Array (Int×Value))(t':SetTable) :
 (h.update a (Obj.putSet es' t')).get? a=some { o with data:=.set es' (ep+1) t' }:=by
 have:=wx (Obj.putSet es' t') ho (by rw[putSet_of es' t' hd];rfl);rw[putSet_of es' t' hd]at this;exact this
theorem Yw3{g:Bool->Sem Unit}(hg:∀(b:Bool) (s₁:Shared) (Q':Unit->Shared->Prop),Q' () s₁->wpAny (model prog w) A (g b) Q' E s₁)
 (ho:s.heap.get? a=some o) (hex:o.ExactSet) (hd:o.data=.set es ep t)
 (hel1:ElemsOf (intKind prog w) es1.toList) (hms:(es1.toList.map kOf).Perm ms) (hnd:ms.Nodup)
  (hb1:es1.size<scanBound) (hf2:t2.fits es1.size=true) (ht2:Tab (byT w) t2)
  (h:∀h' ns',Heap.SameBut a s.heap h'->SetI prog w h' a ns'->ns'.Perm ms->R (some true) { s with heap:=h' }) :
  wpAny (model prog w) A (do
   storeSet a es1 t2
   if (!wasDummy&&t2.tooFull)=true then do
       g (relayAll t2 es1 (SetTable.grown es1.size)).2.2
       storeSet a (relayAll t2 es1 (SetTable.grown es1.size)).1 (relayAll t2 es1 (SetTable.grown es1.size)).2.1
       pure (some true)
    else pure (some true)) R E s:=by
  refine wa (wpAny_storeSet_of ho hd ?_ (fits_of_scanBound hb1));have ho1:=Yu0 ho hd es1 t2;have hsb1:=wv s.heap a (Obj.putSet es1 t2)
  split
  ·have hp:=relayAll_perm t2 es1 (SetTable.grown es1.size)
   have hfr:=relayAll_fits t2 es1 (SetTable.grown es1.size);have htr:=ht2.relayAll es1 (SetTable.grown es1.size);generalize hRl:relayAll t2 es1 (SetTable.grown es1.size)=Rl at hp hfr htr ⊢;obtain⟨es2,t3,gave2⟩:=Rl;dsimp only at hp hfr htr ⊢;have hel2:ElemsOf (intKind prog w) es2.toList:=hel1.perm hp
   have hsz:es2.size=es1.size:=by rw[<-qj,hp.length_eq,qj]
   have hb2:es2.size<scanBound:=by grind
   have hp2:=(hp.map kOf).trans hms;refine wa (hg _ _ _ ?_);refine wa (wpAny_storeSet_of ho1 rfl ?_ (fits_of_scanBound hb2));have ho2:=Yu0 ho1 rfl es2 t3;exact wc (h _ _ (hsb1.trans (wv _ a _)) ⟨_,es2,_,t3,ho2,hex,rfl,hel2,rfl,hp2.nodup_iff.mpr hnd,hb2,hfr,htr⟩ hp2)
  ·exact wc (h _ _ hsb1 ⟨_,es1,_,t2,ho1,hex,rfl,hel1,rfl,hms.nodup_iff.mpr hnd,hb1,hf2,ht2⟩ hms)
theorem y8d(hS:SetI prog w s.heap a ns)(hroom:ns.length+1<scanBound)
 (h:∀h' ns',Heap.SameBut a s.heap h'->SetI prog w h' a ns'->ns'.Perm (if k∈ns then ns else ns++[k])->Q (!decide (k∈ns)) { s with heap:=h' }) :
 wpAny (model prog w) A (setAddHashed a (.int k u) (hashInt k)) Q E s:=by
 have hS0:=hS;obtain⟨o,es,ep,t,ho,hex,hd,hel,hns,hnd,hb,hf,ht⟩:=hS;have hkey:(intKind prog w).is k (.int k u)=true:=intKind_is _ _ _ _;have hsc:(Value.int k u).scannable=true:=rfl
 have hsz:es.size=ns.length:=by grind
 unfold setAddHashed setAddHashedIn;refine we (wa (wj ho hd hf ?_));dsimp only;rw[byScan_of hsc hb hel];simp only[↓reduceIte];unfold setAddByScan;refine wa ?_;refine wa (wpAny_rule ?_);refine wa (wpAny_setScan_of (knd:=intKind prog w) (k:=k) hkey ho hd hf hel ?_)
 cases hr:List.findIdx? (λe=>(intKind prog w).is k e.2) es.toList with
 | some j=>
   dsimp only;obtain⟨hj,hpj,_⟩:=List.findIdx?_eq_some_iff_getElem.mp hr
   have hk:k∈ns:=by
    rw[<-hns,<-y7a hpj];grind
   refine wc (wc ?_)
   have e:s={ s with heap:=s.heap }:=by cases s;rfl
   have:=h s.heap ns (Heap.SameBut.refl a s.heap) hS0 (by grind)
   simp_all
 | none=>
   dsimp only
   have hk:k∉ns:=λhk=>by
    rw[<-hns]at hk;obtain⟨e,he,hke⟩:=qx hk;have h1:=List.findIdx?_eq_none_iff.mp hr e he;obtain⟨t',ht'⟩:=Yw2 hel he;rw[ht',hke]at h1;have h2:(intKind prog w).is k (.int k t')=true:=intKind_is _ _ _ _;grind
   have hgw:∀(b:Bool) {s₁:Shared}{Q':Unit->Shared->Prop},Q' () s₁->wpAny (model prog w) A (match b with|true=>rule "set.scan.the-table-gave-way" | false=>pure ()) Q' E s₁:=
    λb s₁ Q' hq=>by cases b<;>first|exact wc hq|exact wpAny_rule hq
   have hperm:=layNew_perm t es (hashInt k) (.int k u);have hfits:=layNew_fits t es (hashInt k) (.int k u);have htab:=ht.layNew es (hashInt k) (.int k u)
   show wpAny (model prog w) A (do
    let (es,t,wasDummy,gave):=PySem.layNew t es (hashInt k) (.int k u)
    _) _ _ _
   generalize hL:layNew t es (hashInt k) (.int k u)=L at hperm hfits htab ⊢;obtain⟨es1,t1,wasDummy,gave⟩:=L;dsimp only at hperm hfits htab ⊢;rw[Array.toList_push]at hperm;have hel1:ElemsOf (intKind prog w) es1.toList:=(hel.push (knd:=intKind prog w) (k:=k) hkey hsc).perm hperm
   have hb1':es1.size<scanBound:=by rw[<-qj,hperm.length_eq,qy,qj];simp;lia
   have hms:(es1.toList.map kOf).Perm (ns++[k]):=by
    have:=hperm.map kOf;rw[wt,hns]at this;exact this
   have hnd1:(ns++[k]).Nodup:=by
    grind
   have hend:∀h' ns',Heap.SameBut a s.heap h'->SetI prog w h' a ns'->ns'.Perm (ns++[k])->Q true { s with heap:=h' }:=by
    grind
   refine wa (hgw _ ?_)
   split
   ·refine wa ?_
    rw[hashByValue_scannable 8 hsc];refine wc ?_;refine Yw3 ?_ ho hex hd hel1 hms hnd1 hb1' ?_ ?_ ?_
    ·intro b s₁ Q' hq;cases b<;>first|exact wc hq|exact wpAny_rule hq
    ·split
     ·exact hfits
     ·exact SetTable.fits_plain_off hfits
    ·split
     ·exact htab
     ·exact htab.off
    ·intro h' ns' hsb hS' hp;dsimp only;exact wc (hend h' ns' hsb hS' hp)
   ·refine wa (wc ?_)
    simp only[↓reduceIte];refine Yw3 ?_ ho hex hd hel1 hms hnd1 hb1' hfits htab ?_
    ·intro b s₁ Q' hq;cases b<;>first|exact wc hq|exact wpAny_rule hq
    ·intro h' ns' hsb hS' hp;dsimp only;exact wc (hend h' ns' hsb hS' hp)
end
def ddup:AG->AG->AG
 | acc,[]=>acc
 | acc,k::r=>ddup (if k∈acc then acc else acc++[k]) r
theorem Ysv:∀(r a b:AG),a.Perm b->(ddup a r).Perm (ddup b r)
 | [],_,_,h=>h
 | k::r,a,b,h=>by
   rw[ddup,ddup];refine Ysv r _ _ ?_;grind
section
variable {prog:Program}{w:World}{A:Around}{R:Result->Shared->Prop}{I:Addr}{fp wr:List Addr}{G:Array GenState->Array GenState->Prop}{n:Nat}{P:Nat->Value->Prop}{St:Nat->Shared->Prop}
theorem Yw4(W:WalksS prog w A.in1 I fp wr G n P St)(S:Addr)(hSf:S∉fp)(ms:AG)(hn:ms.length=n)
 (hval:∀i v,P i v->∃t,v=.int (ms.getD i 0) t) (hb:n+1<scanBound) :
 ∀(k i:Nat) (s:Shared) (ns:AG),n-i=k->i<=n->St i s->ns.length<=i->SetI prog w s.heap S ns->
  (∀s' ns',Moved (S::wr) G s s'->SetI prog w s'.heap S ns'->ns'.Perm (ddup ns (ms.drop i))->R (.ok (.ret .none)) s')->
  codeAny (model prog w) A (.builtin "set.update.loop" ⟨[.ref S,.ref I],[]⟩) R s:=by
 have hSw:S∉wr:=λh=>hSf (W.sub _ h);have hsub:∀b∈wr,b∈S::wr:=λb hb=>qg _ hb;intro k
 induction k with
 | zero=>
   intro i s ns hk hi hst hl hS hR
   have hin:i=n:=by lia
   subst hin;refine wy F.entry_set_update_loop ?_;rw[jf F.plain_set_update_loop _];show wpAny _ A.in1 (pyNext (.ref I)>>=_) _ _ s;refine wa (W.done s _ _ hst λs' hm=>?_);show wpAny _ A.in1 (ret Value.none) _ _ s';refine wc (hR s' ns (hm.mono hsub) (hS.at λo e=>hm.heap S _ hSw e) ?_);rw[List.drop_of_length_le (by lia),ddup]
 | succ k ih=>
   intro i s ns hk hi hst hl hS hR
   have hlt:i<n:=by lia
   refine wy F.entry_set_update_loop ?_;rw[jf F.plain_set_update_loop _];show wpAny _ A.in1 (pyNext (.ref I)>>=_) _ _ s;refine wa (W.item i s _ _ hlt hst λv s' hP hst' hm=>?_);obtain⟨t,rfl⟩:=hval i v hP;have hS':SetI prog w s'.heap S ns:=hS.at λo e=>hm.heap S _ hSw e;generalize hx:ms.getD i 0=x
   have hdrop:ms.drop i=x::ms.drop (i+1):=by
    rw[List.drop_eq_getElem_cons (by lia),<-hx,List.getD_eq_getElem?_getD,qq (by lia)];rfl
   show wpAny _ A.in1 (holding [Value.int x t] (setAdd S (.int x t))>>=_) _ _ s';refine wa (we ?_);unfold setAdd;refine we ?_;refine wa ((intKind prog w).pyHash (k:=x) (intKind_is _ _ _ _) ?_);refine y8d (s:={ s' with toks:=s'.toks+1 }) hS' (by lia) λh' ns' hsb hS2 hp=>?_
   have hl2:ns'.length<=i+1:=by
    rw[hp.length_eq];grind
   refine wc ⟨je F.plain_set_update_loop _,ih (i+1) _ ns' (by lia) hlt (W.frame _ s' _ _ hst' (Nat.le_succ _) λb hb o e=>?_) hl2 hS2 λs'' ns'' hm'' hS'' hp''=>?_⟩
   ·rw[hsb.2 b (λh:b=S=>hSf (by grind))];exact e
   ·refine hR s'' ns'' (Moved.trans W.gtrans ((hm.mono hsub).then_heap (Nat.le_succ _) λb o hb e=>?_) hm'') hS'' ?_
    ·rw[hsb.2 b (λh:b=S=>hb (by grind))];exact e
    ·rw[hdrop,ddup]
     exact hp''.trans (Ysv _ _ _ hp)
end
end
section
section
variable {prog:Program}{w:World}{A:Around}{E:AA}{s:Shared}
theorem Yqd:isSubtype (.type "tuple") (.type "set")=pure false:=by rw[isSubtype_type];kernel_rfl
theorem Yir:isSubtype (.type "tuple") (.type "frozenset")=pure false:=by rw[isSubtype_type];kernel_rfl
theorem Ydo(ft:TypeCalled T newId initId)
 (hct:checkTypeCall T ⟨args,[]⟩=pure ()) (entryI:entryFor table initId=some Bi)
 (hnew:codeAny (model prog w) A.in1 (.call (.builtin newId) ⟨.type T::args,[]⟩) (wants Q₁ E) s)
 (hnext:∀obj s₁,Q₁ obj s₁->s₁.TypeIs obj T/\(∀(A':Around) (E':AA) (Q':Unit->Shared->Prop),Q' () s₁->wpAny (model prog w) A' (checkBuiltinCall initId ⟨obj::args,[]⟩) Q' E' s₁)/\
  wpAny (model prog w) A.in1.in1 (Bi ⟨obj::args,[]⟩)
   (λfin s'=>match fin with|.done f=>wants (λr s₂=>r=.none/\Q obj s₂) E (.ok f) s'|.again c'=>c'.quiet=true/\codeAny (model prog w) A.in1 c' (wants (λr s₂=>r=.none/\Q obj s₂) E) s')
   (λe s'=>wants (λr s₂=>r=.none/\Q obj s₂) E (.error e) s') s₁) :
 wpAny (model prog w) A (call (.type T) args) Q E s:=by
 obtain⟨c,tl,hmro⟩:=ft.mro;have hmade:=ft.made;have hsub:=ft.sub;refine wpAny_call (codeAny_of_tree ?_);show wpAny _ _ (callAny (.type T) _) _ _ _;refine wc ⟨Code.quiet_builtin _ (by decide +kernel),wy F.entry_type_call ?_⟩;rw[Around.under_plain (weight_type_call_type T args []) rfl];have h1:=ft.notType;have h2:=ft.canCreate
 repeat (any_goals (first|assumption|wp_step))
 refine codeAny_mono hnew λr s₁ hr=>?_
 cases r with
 | error e=>exact hr
 | ok fl=>
   cases fl with
   | ret obj=>
     obtain⟨hT,hok,hsi⟩:=hnext _ _ hr;have hli:=ft.init.lookup;have hbi:=ft.init.bind obj
     repeat (any_goals (first|assumption|wp_step))
     refine codeAny_mono (codeAny_call_builtin ft.init.plain entryI (hok _ _ _ hsi)) λr₂ s₂ hr₂=>?_
     cases r₂ with
     | error e=>exact hr₂
     | ok fl₂=>
       cases fl₂ with
       | ret r=>
         obtain⟨rfl,hq⟩:=hr₂
         repeat (any_goals (first|assumption|wp_step))
       | _=>grind
   | _=>exact hr.elim
abbrev emS(w:World):Obj:={ cls:=.type "set",dict:=none,data:=.set #[] 0 (.fresh 0 0 (!byT w)) }
theorem Ymg(a:Value)(h:Q₁ (.ref (~~~s)) { s with heap:=s.heap.push (emS w) }) :
 codeAny (model prog w) A (.call (.builtin "set.__new__") ⟨[.type "set",a],[]⟩) (wants Q₁ E) s:=by
 refine codeAny_of_tree ?_;show wpAny _ A.in1 (do checkBuiltinCall "set.__new__" ⟨[.type "set",a],[]⟩;again (.builtin "set.__new__" ⟨[.type "set",a],[]⟩)) _ _ s;refine wa (wpAny_of_eq (F.newCall_set_1 a) (wc ⟨je F.plain_set_new _,wy F.entry_set_new ?_⟩));rw[jf F.plain_set_new _];unfold Builtin.«set.__new__» Builtin.Frozenset.newClass;have hsub:=sub_set_self;obtain⟨hp,g,d,tk,os⟩:=s;dsimp only
 wp_walk
 refine wpAny_askSetting (wc ?_);dsimp only;simp only[newObj];refine wa (wpAny_alloc (wc ?_));exact wc h
set_option maxRecDepth 100000 in
theorem Yjf{l:Addr}{items:Array Value}{ms:AG}{Q:AA}
 (hh:A.handled=none) (hl:s.heap.IsList l items) (hi:IntsAre items.toList ms) (hb:items.size+1<scanBound)
 (h:∀(h':Heap) (tk:Nat) ns,SetI prog w h' (~~~s) ns->ns.Perm (ddup [] ms)->
  (∀b o,b< ~~~s->s.heap.get? b=some o->h'.get? b=some o)->Q (.ref (~~~s)) { s with heap:=h',toks:=tk }) :
 wpAny (model prog w) A (call (.type "set") [.ref l]) Q E s:=by
 refine Ydo (Q₁:=λobj s₁=>obj=.ref (~~~s)/\s₁={ s with heap:=s.heap.push (emS w) }) F.called_set (F.typeCall_set_1 _) F.entry_set_init (Ymg _ ⟨rfl,rfl⟩) ?_;rintro obj s₁ ⟨rfl,rfl⟩;have hS:(s.heap.push (emS w)).get? (~~~s)=some (emS w):=qp _ rfl
 have hT:Shared.TypeIs { s with heap:=s.heap.push (emS w) } (.ref (~~~s)) "set":=⟨_,hS,rfl⟩
 refine⟨hT,λA' E' Q' hq=>check_set_init_1 hT hq,?_⟩;obtain⟨ol,hol,hcl,nl,hdl⟩:=hl;obtain⟨ocls,odict,odata,oslots⟩:=ol;simp only at hcl hdl;subst hcl;subst hdl;have hol':(s.heap.push (emS w)).get? l=some { cls:=.type "list",dict:=odict,data:=.seq items nl,slots:=oslots }:=qe _ hol;have hsls:=F.sub_list_set;have hslf:=F.sub_list_frozenset
 have hne:(Value.type "list"==Value.type "dict")=false:=by decide
 have hl1:(s.heap.push (emS w)).IsList l items:=⟨_,hol',rfl,nl,rfl⟩
 unfold Builtin.«set.__init__» noKeywords Builtin.Frozenset.updateFrom;generalize hPI:pyIter=PI
 wp_walk
 subst hPI;refine wpAny_pyIter_list hl1 ?_;refine wa (wpAny_runValue ?_);have hlS:l< ~~~s:=ql hol
 have hh3:A.in1.in1.in1.handled=none:=by simp[hh]
 have hneI:l≠(s.heap.push (emS w)).objs.size:=by
  rw[ww];grind
 have hSf:(~~~s)∉[(s.heap.push (emS w)).objs.size,l]:=by
  rw[ww];grind
 have hlen:ms.length=items.size:=by have:=IntsAre.length hi;grind
 have hval:∀(i:Nat) (v:Value),items[i]?=some v->∃t,v=.int (ms.getD i 0) t:=λi v hv=>
  IntsAre.int_at hi i v (by grind)
 refine Yw4 ((Walks.list hh3 _ l hneI items).toS) (~~~s) hSf ms hlen hval hb (items.size-0) 0 _ [] (by lia) (jc _)
  ⟨⟨_,qp _ rfl,rfl,rfl⟩,(hl1.push _)⟩ (qu _) ?hS0 ?hR
 case hS0=>
  have hget:((s.heap.push (emS w)).push { cls:=.type "list_iterator",data:=.fields #[.ref l,.int 0 0] }).get? (~~~s)=some (emS w):=qe _ hS;exact⟨emS w,#[],0,_,hget,⟨rfl,rfl,rfl⟩,rfl,λe he=>by simp at he,rfl,.nil,by decide,rfl,.fresh⟩
 case hR=>
  intro s' ns' hm hS' hp';obtain⟨h',g',d',tk',os'⟩:=s';have eg:g'=s.gens:=hm.gens;have ed:d'=s.drawn:=hm.drawn;have eo:os'=s.os:=hm.os;subst eg;subst ed;subst eo;show wpAny _ _ _ _ _ _;refine wc ?_;show wpAny _ _ (ret Value.none) _ _ _;refine wc ⟨rfl,h h' tk' ns' hS' hp' λb o hb e=>?_⟩;have hb1:b≠(~~~s):=qm hb
  have hb2:b≠(s.heap.push (emS w)).objs.size:=by
   rw[ww];grind
  exact hm.heap b o (by grind) (qe _ (qe _ e))
set_option maxRecDepth 100000 in
theorem Yod{l:Addr}{items:Array Value}{ms:AG}{Q:AA}
 (hh:A.handled=none) (hl:s.heap.IsTuple l items) (hi:IntsAre items.toList ms) (hb:items.size+1<scanBound)
 (h:∀(h':Heap) (tk:Nat) ns,SetI prog w h' (~~~s) ns->ns.Perm (ddup [] ms)->
  (∀b o,b< ~~~s->s.heap.get? b=some o->h'.get? b=some o)->Q (.ref (~~~s)) { s with heap:=h',toks:=tk }) :
 wpAny (model prog w) A (call (.type "set") [.ref l]) Q E s:=by
 refine Ydo (Q₁:=λobj s₁=>obj=.ref (~~~s)/\s₁={ s with heap:=s.heap.push (emS w) }) F.called_set (F.typeCall_set_1 _) F.entry_set_init (Ymg _ ⟨rfl,rfl⟩) ?_;rintro obj s₁ ⟨rfl,rfl⟩;have hS:(s.heap.push (emS w)).get? (~~~s)=some (emS w):=qp _ rfl
 have hT:Shared.TypeIs { s with heap:=s.heap.push (emS w) } (.ref (~~~s)) "set":=⟨_,hS,rfl⟩
 refine⟨hT,λA' E' Q' hq=>check_set_init_1 hT hq,?_⟩;obtain⟨ol,hol,hcl,nl,hdl⟩:=hl;obtain⟨ocls,odict,odata,oslots⟩:=ol;simp only at hcl hdl;subst hcl;subst hdl;have hol':(s.heap.push (emS w)).get? l=some { cls:=.type "tuple",dict:=odict,data:=.seq items nl,slots:=oslots }:=qe _ hol;have hsls:=Yqd;have hslf:=Yir
 have hne:(Value.type "tuple"==Value.type "dict")=false:=by decide
 have hl1:(s.heap.push (emS w)).IsTuple l items:=⟨_,hol',rfl,nl,rfl⟩
 unfold Builtin.«set.__init__» noKeywords Builtin.Frozenset.updateFrom;generalize hPI:pyIter=PI
 wp_walk
 subst hPI;refine wpAny_pyIter_tuple hl1 ?_;refine wa (wpAny_runValue ?_);have hlS:l< ~~~s:=ql hol
 have hh3:A.in1.in1.in1.handled=none:=by simp[hh]
 have hneI:l≠(s.heap.push (emS w)).objs.size:=by
  rw[ww];grind
 have hSf:(~~~s)∉[(s.heap.push (emS w)).objs.size,l]:=by
  rw[ww];grind
 have hlen:ms.length=items.size:=by have:=IntsAre.length hi;grind
 have hval:∀(i:Nat) (v:Value),items[i]?=some v->∃t,v=.int (ms.getD i 0) t:=λi v hv=>
  IntsAre.int_at hi i v (by grind)
 refine Yw4 ((Walks.tuple hh3 _ l hneI items).toS) (~~~s) hSf ms hlen hval hb (items.size-0) 0 _ [] (by lia) (jc _)
  ⟨⟨_,qp _ rfl,rfl,rfl⟩,(⟨_,qe _ hol',rfl,nl,rfl⟩)⟩ (qu _) ?hS0 ?hR
 case hS0=>
  have hget:((s.heap.push (emS w)).push { cls:=.type "tuple_iterator",data:=.fields #[.ref l,.int 0 0] }).get? (~~~s)=some (emS w):=qe _ hS;exact⟨emS w,#[],0,_,hget,⟨rfl,rfl,rfl⟩,rfl,λe he=>by simp at he,rfl,.nil,by decide,rfl,.fresh⟩
 case hR=>
  intro s' ns' hm hS' hp';obtain⟨h',g',d',tk',os'⟩:=s';have eg:g'=s.gens:=hm.gens;have ed:d'=s.drawn:=hm.drawn;have eo:os'=s.os:=hm.os;subst eg;subst ed;subst eo;show wpAny _ _ _ _ _ _;refine wc ?_;show wpAny _ _ (ret Value.none) _ _ _;refine wc ⟨rfl,h h' tk' ns' hS' hp' λb o hb e=>?_⟩;have hb1:b≠(~~~s):=qm hb
  have hb2:b≠(s.heap.push (emS w)).objs.size:=by
   rw[ww];grind
  exact hm.heap b o (by grind) (qe _ (qe _ e))
end
end
section
theorem Ypg{α:Type}{l:List α}(h:i<l.length):(l[i]::l.eraseIdx i).Perm l:=by
 rw[List.eraseIdx_eq_take_drop_succ]
 have e:l=l.take i++l[i]::l.drop (i+1):=by
  simp_all
 conv=>rhs;rw[e]
 exact List.perm_middle.symm
theorem y00(next:Nat->Nat):∀(fuel k:Nat) (left:List α) (out:Array α),left.length=fuel->(pickOrder.go next fuel k left out).toList.Perm (out.toList++left)
 | 0,k,left,out,h=>by
   rw[pickOrder.go]
   simp_all
 | fuel+1,k,left,out,h=>by
   rw[pickOrder.go];have hlt:next k%left.length<left.length:=Nat.mod_lt _ (by lia);rw[qq hlt];dsimp only;refine(y00 next fuel (k+1) _ _ (by grind)).trans ?_;rw[Array.toList_push,jd];exact(Ypg hlt).append_left _
theorem y01(next:Nat->Nat)(xs:Array α):(pickOrder next xs).toList.Perm xs.toList:=by
 have:=y00 next xs.size 0 xs.toList #[] (by simp);simpa [pickOrder]using this
section
variable {prog:Program}{w:World}{A:Around}{E:AA}
theorem Yy0(hn:0<n)(h:∀i d',i<n->Q i { s with drawn:=d' }):wpAny (model prog w) A (choose src n) Q E s:=by
 intro Γ p hΓ;unfold choose;rw[Sem.wp_choose];refine⟨by lia,?_⟩;rw[Sem.wp_pure];exact h _ _ (Nat.mod_lt _ hn)
theorem Yph:∀(n:Nat) (xs:List α) (s:Shared) (Q:List α->Shared->Prop),xs.length=n->(∀ys d',ys.Perm xs->Q ys { s with drawn:=d' })->wpAny (model prog w) A (drawOrder n xs) Q E s
 | 0,xs,s,Q,h,hQ=>by
   rw[List.length_eq_zero_iff.mp h]at hQ ⊢;show wpAny _ _ (pure _) _ _ _;exact wc (hQ [] s.drawn .nil)
 | n+1,[],s,Q,h,hQ=>by simp at h
 | n+1,x::xs,s,Q,h,hQ=>by
   show wpAny _ _ (_>>=_) _ _ _;refine wa (Yy0 (by simp) λi d' hi=>?_);rw[qq hi];dsimp only;refine wa (Yph n _ _ _ (by grind) λys d2 hp=>?_);refine wc (hQ _ d2 ((hp.cons _).trans ?_));exact Ypg hi
end
end
section
set_option maxRecDepth 100000
theorem Yw5:Manifest.owners.lookup (String.ofList ['r','o','t','a','r','e','t','i','_','t','e','s'].reverse)=some Manifest.sig_set_iterator:=by kernel_rfl
theorem slot_si_next:Slot "set_iterator" "__next__" "set_iterator.__next__":=
 .of (owner:="set_iterator") (n:="__next__") (by rw[typeLookup_type,builtinLookup_eq_fast];kernel_rfl) (by decide +kernel) (by decide +kernel) (by decide +kernel)
  (by first|exact .inl (by decide +kernel)|exact .inr (by decide +kernel)) (by rw[isSubtype_type];kernel_rfl)
theorem Ydy:entryFor table "set_iterator.__next__"=some Builtin.«set_iterator.__next__»:=entryFor_of_tree (by kernel_rfl)
theorem Yes(a:Value):argsOk "set_iterator.__next__" ⟨[a],[]⟩:=by
 unfold argsOk;rw[signature?_of (id:="set_iterator.__next__") (n:=['_','_','t','x','e','n','_','_']) (o:=['r','o','t','a','r','e','t','i','_','t','e','s']) (by kernel_rfl) Yw5];kernel_rfl
theorem Yld:Slot "set_iterator" "__iter__" "set_iterator.__iter__":=
 .of (owner:="set_iterator") (n:="__iter__") (by rw[typeLookup_type,builtinLookup_eq_fast];kernel_rfl) (by decide +kernel) (by decide +kernel) (by decide +kernel)
  (by first|exact .inl (by decide +kernel)|exact .inr (by decide +kernel)) (by rw[isSubtype_type];kernel_rfl)
theorem Ysw(a:Value):argsOk "set_iterator.__iter__" ⟨[a],[]⟩:=by
 unfold argsOk;rw[signature?_of (id:="set_iterator.__iter__") (n:=['_','_','r','e','t','i','_','_']) (o:=['r','o','t','a','r','e','t','i','_','t','e','s']) (by kernel_rfl) Yw5];kernel_rfl
theorem Yqe:entryFor table "set_iterator.__iter__"=some Builtin.«dict_keyiterator.__iter__»:=
 entryFor_alias (id':="dict_keyiterator.__iter__") (by kernel_rfl) (by first|rfl|decide +kernel|(unfold String.splitOn;simp +decide [String.splitOnAux])) (by decide +kernel) (by kernel_rfl)
theorem Yoe:entryFor table "set.__iter__"=some Builtin.«frozenset.__iter__»:=
 entryFor_alias (id':="frozenset.__iter__") (by kernel_rfl) (by first|rfl|decide +kernel|(unfold String.splitOn;simp +decide [String.splitOnAux])) (by decide +kernel) (by kernel_rfl)
def SIt(h:Heap)(I:Addr)(first:Value)(i:Nat)(a:Addr)(n ep:Nat):Prop:=∃o,h.get? I=some o/\o.cls=.type "set_iterator"/\o.data=.fields #[first,.int i 0,.ref a,.int n 0,.int ep 0]
def SAt(h:Heap)(a:Addr)(es:Array (Int×Value))(ep:Nat)(t:SetTable):Prop:=∃o,h.get? a=some o/\o.ExactSet/\o.data=.set es ep t/\t.fits es.size=true
theorem SIt.at(x:SIt h I f i a n ep)(e:∀o,h.get? I=some o->h'.get? I=some o):SIt h' I f i a n ep:=let ⟨o,ho,r⟩:=x;⟨o,e o ho,r⟩
theorem SAt.at(x:SAt h a es ep t)(e:∀o,h.get? a=some o->h'.get? a=some o):SAt h' a es ep t:=let ⟨o,ho,r⟩:=x;⟨o,e o ho,r⟩
theorem SIt.typeIs{s:Shared}(x:SIt s.heap I f i a n ep):s.TypeIs (.ref I) "set_iterator":=let ⟨o,ho,hc,_⟩:=x;⟨o,ho,hc⟩
section
variable {prog:Program}{w:World}{A:Around}{E:AA}{s:Shared}
theorem y02(hit:SIt s.heap I f i a n ep)(h:Q (.ref I) s):wpAny (model prog w) A (pyIter (.ref I)) Q E s:=by
 refine wpAny_pyIter_slot hit.typeIs Yld (wf Yld hit.typeIs Yqe ?_ (Ysw _));show wpAny _ _ (ret (.ref I)) _ _ s;exact wc ⟨_,rfl,"set_iterator",_,hit.typeIs,slot_si_next.lookup,h⟩
theorem y8e{sl i ep nx:Nat}(hit:SIt s.heap I (.int sl 0) i a es.size ep)(ha:SAt s.heap a es ep t)
 (hn:∀(A':Around) (Q':Option (Value×Nat)->Shared->Prop) (E':AA),Q' (some (x,nx)) s->wpAny (model prog w) A' (setNext a sl i ep) Q' E' s)
 (hQ:∀h',SIt h' I (.int nx 0) (i+1) a es.size ep->Heap.SameBut I s.heap h'->Q (some x) { s with heap:=h' }):wpAny (model prog w) A (pyNext (.ref I)) Q E s:=by
 obtain⟨o,ho,hc,hd⟩:=id hit;obtain⟨oa,hoa,hexa,hda,hfa⟩:=ha;unfold pyNext;refine wa (ji (wpAny_callSpecial?_slot (name:=Str.ofString "__next__") hit.typeIs slot_si_next (wf slot_si_next hit.typeIs Ydy ?_ (Yes _))));show wpAny _ _ (fieldsOf (.ref I)>>=_) _ _ s;refine wa (wpAny_fieldsOf ho hd ?_);show wpAny _ _ (setEntries a>>=_) _ _ s;refine wa (wpAny_setEntries_of hoa hda hfa ?_);rw[if_neg (by simp)];show wpAny _ _ (setNext a sl i ep>>=_) _ _ s;refine wa (hn _ _ _ ?_);show wpAny _ _ (setField (.ref I) 0 (rawInt nx)>>=_) _ _ s;refine wa (wpAny_setField ho hd (by simp) ?_);have ho1:=wx (Obj.mapFields (·.setIfInBounds 0 (rawInt nx))) ho (Obj.isFreed_of_fields (jh hd _));have hd1:=jh hd (·.setIfInBounds 0 (rawInt nx));show wpAny _ _ (setField (.ref I) 1 (rawInt (i+1))>>=_) _ _ _;refine wa (wpAny_setField (s:={ s with heap:=s.heap.update I (Obj.mapFields (·.setIfInBounds 0 (rawInt nx))) }) ho1 hd1 (by simp) (wc ⟨x,rfl,wc (hQ _ ?_ ((wv ..).trans (wv ..)))⟩))
 exact⟨_,wx _ ho1 (Obj.isFreed_of_fields (jh hd1 _)),(Obj.cls_mapFields ..).trans ((Obj.cls_mapFields ..).trans hc),by
  rw[jh hd1];simp[rawInt]⟩
theorem y8f{sl i ep:Nat}(hh:A.handled=none)(hit:SIt s.heap I (.int sl 0) i a es.size ep)(ha:SAt s.heap a es ep t)
 (hn:∀(A':Around) (Q':Option (Value×Nat)->Shared->Prop) (E':AA),Q' none s->wpAny (model prog w) A' (setNext a sl i ep) Q' E' s)
 (hQ:∀h',Heap.ExtBut I s.heap h'->Q none { s with heap:=h' }):wpAny (model prog w) A (pyNext (.ref I)) Q E s:=by
 obtain⟨o,ho,hc,hd⟩:=id hit;obtain⟨oa,hoa,hexa,hda,hfa⟩:=ha;unfold pyNext;refine wa (ji (wpAny_callSpecial?_slot (name:=Str.ofString "__next__") hit.typeIs slot_si_next (wf slot_si_next hit.typeIs Ydy ?_ (Yes _))));show wpAny _ _ (fieldsOf (.ref I)>>=_) _ _ s;refine wa (wpAny_fieldsOf ho hd ?_);show wpAny _ _ (setEntries a>>=_) _ _ s;refine wa (wpAny_setEntries_of hoa hda hfa ?_);rw[if_neg (by simp)];show wpAny _ _ (setNext a sl i ep>>=_) _ _ s;refine wa (hn _ _ _ ?_);show wpAny _ _ (setField (.ref I) 2 .none>>=_) _ _ s;refine wa (wpAny_setField ho hd (by simp) ?_);show wpAny _ _ (newExc (.type "StopIteration") []>>=_) _ _ _;refine wa ?_;simp only[newExc,newTuple];refine wa (wg ?_ (by size_fits));refine wa (m:=firstArgMember _ _) (wpAny_of_eq (a:=Value.none) (by first|rfl|(simp only[firstArgMember];rfl)) ?_);refine wg ?_ (by size_fits);simp only[raiseNew];refine wa (wpAny_handled ?_)
 first|rw[show A.in1.handled=none from hh]|rw[hh]
 refine wa (wc (wpAny_throw ?_));refine wa (wpAny_isInstance (T:="StopIteration") (b:=true) ⟨_,qp _ rfl,rfl⟩ isSubtype_stop ?_);exact wc (hQ _ (((wv ..).extBut.push _).push _))
theorem y4p{i j ep:Nat}(hit:SIt s.heap I (.ref T) i a es.size ep)(ha:SAt s.heap a es ep t)
 (hT:s.heap.IsTuple T pl) (hp:pl[i]?=some (.int j tk)) (he:es[j]?=some e)
 (hQ:∀h',SIt h' I (.ref T) (i+1) a es.size ep->Heap.SameBut I s.heap h'->Q (some e.2) { s with heap:=h' }):wpAny (model prog w) A (pyNext (.ref I)) Q E s:=by
 obtain⟨o,ho,hc,hd⟩:=id hit;obtain⟨oa,hoa,hexa,hda,hfa⟩:=ha;obtain⟨ot,hot,_,nt,hdt⟩:=hT;unfold pyNext;refine wa (ji (wpAny_callSpecial?_slot (name:=Str.ofString "__next__") hit.typeIs slot_si_next (wf slot_si_next hit.typeIs Ydy ?_ (Yes _))));show wpAny _ _ (fieldsOf (.ref I)>>=_) _ _ s;refine wa (wpAny_fieldsOf ho hd ?_);show wpAny _ _ (setEntries a>>=_) _ _ s;refine wa (wpAny_setEntries_of hoa hda hfa ?_);rw[if_neg (by simp)];show wpAny _ _ (seqItems? (.ref T)>>=_) _ _ s;refine wa (wpAny_seqItems hot hdt ?_);simp only[ja,hp];show wpAny _ _ (setNextDrawn a j ep>>=_) _ _ s;refine wa ?_;unfold setNextDrawn;refine wa (wj hoa hda hfa ?_);dsimp only;rw[if_neg (by simp)];show wpAny _ _ (match es[j]? with|some (_,x)=>pure x|_=>unsupported "internal:set_iterator") _ _ s;rw[he];refine wc ?_;show wpAny _ _ (setField (.ref I) 1 (rawInt (i+1))>>=_) _ _ _;refine wa (wpAny_setField ho hd (by simp) (wc ⟨e.2,rfl,wc (hQ _ ?_ (wv ..))⟩))
 exact⟨_,wx _ ho (Obj.isFreed_of_fields (jh hd _)),(Obj.cls_mapFields ..).trans hc,by
  rw[jh hd];simp[rawInt]⟩
theorem y4q(hh:A.handled=none)(hit:SIt s.heap I (.ref T) i a es.size ep)(ha:SAt s.heap a es ep t)
 (hT:s.heap.IsTuple T pl) (hp:pl[i]?=none) (hQ:∀h',Heap.ExtBut I s.heap h'->Q none { s with heap:=h' }):wpAny (model prog w) A (pyNext (.ref I)) Q E s:=by
 obtain⟨o,ho,hc,hd⟩:=id hit;obtain⟨oa,hoa,hexa,hda,hfa⟩:=ha;obtain⟨ot,hot,_,nt,hdt⟩:=hT;unfold pyNext;refine wa (ji (wpAny_callSpecial?_slot (name:=Str.ofString "__next__") hit.typeIs slot_si_next (wf slot_si_next hit.typeIs Ydy ?_ (Yes _))));show wpAny _ _ (fieldsOf (.ref I)>>=_) _ _ s;refine wa (wpAny_fieldsOf ho hd ?_);show wpAny _ _ (setEntries a>>=_) _ _ s;refine wa (wpAny_setEntries_of hoa hda hfa ?_);rw[if_neg (by simp)];show wpAny _ _ (seqItems? (.ref T)>>=_) _ _ s;refine wa (wpAny_seqItems hot hdt ?_);simp only[ja,hp];show wpAny _ _ (setField (.ref I) 0 (rawInt 0)>>=_) _ _ s;refine wa (wpAny_setField ho hd (by simp) ?_);have ho1:=wx (Obj.mapFields (·.setIfInBounds 0 (rawInt 0))) ho (Obj.isFreed_of_fields (jh hd _));have hd1:=jh hd (·.setIfInBounds 0 (rawInt 0));show wpAny _ _ (setField (.ref I) 2 .none>>=_) _ _ _;refine wa (wpAny_setField (s:={ s with heap:=s.heap.update I (Obj.mapFields (·.setIfInBounds 0 (rawInt 0))) }) ho1 hd1 (by simp) ?_);show wpAny _ _ (newExc (.type "StopIteration") []>>=_) _ _ _;refine wa ?_;simp only[newExc,newTuple];refine wa (wg ?_ (by size_fits));refine wa (m:=firstArgMember _ _) (wpAny_of_eq (a:=Value.none) (by first|rfl|(simp only[firstArgMember];rfl)) ?_);refine wg ?_ (by size_fits);simp only[raiseNew];refine wa (wpAny_handled ?_)
 first|rw[show A.in1.handled=none from hh]|rw[hh]
 refine wa (wc (wpAny_throw ?_));refine wa (wpAny_isInstance (T:="StopIteration") (b:=true) ⟨_,qp _ rfl,rfl⟩ isSubtype_stop ?_);exact wc (hQ _ ((((wv ..).trans (wv ..)).extBut.push _).push _))
end
end
section
set_option maxRecDepth 100000
section
variable {prog:Program}{w:World}{A:Around}{E:AA}{s:Shared}
theorem Yjg(h:Q (byT w) s):wpAny (model prog w) A setsByText Q E s:=by
 unfold setsByText;exact wa (wpAny_askSetting (wc h))
theorem Ysx(hb:byT w=true)(ha:SAt s.heap a es ep t)
 (h:Q (((pickOrder (w.params.setOrder a ep) es)[i]?).map λe=>(e.2,sl)) s):wpAny (model prog w) A (setNext a sl i ep) Q E s:=by
 obtain⟨oa,hoa,hexa,hda,hfa⟩:=ha;unfold setNext;refine wa (wj hoa hda hfa ?_);dsimp only;refine wa (Yjg ?_);rw[if_pos hb,if_neg (by simp)];refine wa (m:=setWalk a) ?_;unfold setWalk;refine wa (wj hoa hda hfa ?_);dsimp only;refine wa (Yjg ?_);rw[if_pos hb];refine wa (wpAny_askSetting (wc ?_));exact wc h
theorem Ysy(hb:byT w=false)(hd:(!t.plain&&decide (es.size > 1))=false)(hl:t.led=true)(ha:SAt s.heap a es ep t)
 (hp:SetTable.below t.place sl=i) (h:Q (match es[i]?,t.place[i]? with|some (_,x),some j=>some (x,j+1)|_,_=>none) s):wpAny (model prog w) A (setNext a sl g ep) Q E s:=by
 obtain⟨oa,hoa,hexa,hda,hfa⟩:=ha;unfold setNext;refine wa (wj hoa hda hfa ?_);dsimp only;refine wa (Yjg ?_);rw[if_neg (by grind)];show wpAny _ _ (if (!t.plain&&decide (es.size > 1))=true then _ else _) _ _ _;rw[if_neg (show ¬((!t.plain&&decide (es.size > 1))=true) by grind)];show wpAny _ _ ((if (!t.led&&!es.isEmpty)=true then unsupported "set:maker-not-led" else pure ())>>=_) _ _ _;rw[if_neg (by rw[hl];simp)];refine wa (wc ?_);rw[hp];exact wc h
def Yh8(pl:Array Nat):Nat->Nat
 | 0=>0
 | i+1=>pl.getD i 0+1
theorem Yw6(hr:Rise pl)(hi:i<=pl.size):SetTable.below pl (Yh8 pl i)=i:=by
 obtain⟨h1,h2,h3⟩:=Ypf hr (Yh8 pl i);generalize hp:SetTable.below pl (Yh8 pl i)=p at h1 h2 h3
 have mono:∀(i k:Nat) (hi:i<pl.size) (hk:k<pl.size),i<k->pl[i]<pl[k]:=λi k hi hk h=>by
  have:=List.pairwise_iff_getElem.mp hr i k (by grind) (by grind) h;grind
 have e1:∀k (hk:k<pl.size),k<p->pl[k]<Yh8 pl i:=λk hk hkp=>h2 _ (by
  rw[List.mem_iff_getElem]
  grind)
 have e2:∀k (hk:k<pl.size),p<=k->Yh8 pl i<=pl[k]:=λk hk hkp=>h3 _ (by
  rw[List.mem_iff_getElem]
  exact⟨k-p,by simp;lia,by
   simp_all⟩)
 rcases Nat.lt_trichotomy p i with h|h|h
 ·have hk:p<pl.size:=by lia
  have:=e2 p hk (qu _)
  cases i with
  | zero=>lia
  | succ j=>
    have hj:j<pl.size:=by lia
    simp only[Yh8,Array.getD,hj,dite_true]at this;by_cases e:p=j
    ·subst e;exact absurd this (by simp)
    ·have:=mono p j hk hj (by lia)
     simp at *;lia
 ·exact h
 ·have hk:i<pl.size:=by lia
  have:=e1 i hk h
  cases i with
  | zero=>simp[Yh8]at this
  | succ j=>
    have hj:j<pl.size:=by lia
    have h':=mono j (j+1) hj hk (by lia);simp only[Yh8,Array.getD,hj,dite_true]at this;simp at *;lia
def PInt(vals:AG)(i:Nat)(v:Value):Prop:=∃k t,vals[i]?=some k/\v=.int k t
theorem Ymh{es:Array (Int×Value)}(hel:ElemsOf (intKind prog w) es.toList)(he:e∈es.toList):∃t,e.2=.int (kOf e) t:=by
 obtain⟨t,ht⟩:=Yw2 hel he;grind
theorem y4r(hS:SetI prog w s.heap a ns)
 (hQ:∀(h':Heap) (d':Drawn) (I:Addr) (fp:List Addr) (vals:AG) (St:Nat->Heap->Prop),(∀b o,s.heap.get? b=some o->h'.get? b=some o)->(~~~s)<=I->I∈fp->
  (∀b∈fp,b<h'.objs.size/\(b=a\/(~~~s)<=b))->vals.Perm ns->(∀A':Around,A'.handled=none->Walks prog w A' I fp [I] ns.length (PInt vals) St)->St 0 h'->
  (∀(i:Nat) (s':Shared),St i s'.heap->s'.TypeIs (.ref I) "set_iterator")->Q (.ref I) { s with heap:=h',drawn:=d' }) :
 wpAny (model prog w) A (pyIter (.ref a)) Q E s:=by
 obtain⟨o,es,ep,t,ho,hex,hd,hel,hns,hnd,hb,hf,ht⟩:=hS
 have hT:s.TypeIs (.ref a) "set":=⟨o,ho,hex.1⟩
 have hlen:ns.length=es.size:=by grind
 have hlt:a< ~~~s:=ql ho
 have hsa:SAt s.heap a es ep t:=⟨o,ho,hex,hd,hf⟩
 have hps:t.place.size=es.size:=by
  simp only[SetTable.fits,Qe,beq_iff_eq]at hf;exact hf.1
 refine wpAny_pyIter_slot hT F.slot_set_iter (wf F.slot_set_iter hT Yoe ?_ (F.args_set_iter_1 _));unfold Builtin.«frozenset.__iter__»;show wpAny _ _ (Builtin.Frozenset.sizeOf a>>=_) _ _ s;unfold Builtin.Frozenset.sizeOf;refine wa (wa (wpAny_setEntries_of ho hd hf (wc ?_)));refine wa ?_;unfold setDrawn;refine wa (wj ho hd hf ?_);dsimp only;refine wa (Yjg (wc ?_))
 have plain:∀(vals:AG) (st:Nat->Nat) (xv:Nat->Value),vals.Perm ns->st 0=0->(∀i,i<es.size->PInt vals i (xv i))->
  (∀(s':Shared) (A':Around) (i:Nat) (E':AA),SAt s'.heap a es ep t->i<es.size->∀Q':Option (Value×Nat)->Shared->Prop,Q' (some (xv i,st (i+1))) s'->wpAny (model prog w) A' (setNext a (st i) i ep) Q' E' s')->
  (∀(s':Shared) (A':Around) (E':AA),SAt s'.heap a es ep t->∀Q':Option (Value×Nat)->Shared->Prop,Q' none s'->wpAny (model prog w) A' (setNext a (st es.size) es.size ep) Q' E' s')->
  wpAny (model prog w) A.in1 (do
   let x <-newFields "set_iterator" [rawInt 0,rawInt 0,.ref a,rawInt es.size,rawInt (<-setEpoch a)]
   ret x) (λfin s'=>∃v,fin=.done (.ret v)/\∃T' r,s'.TypeIs v T'/\typeLookup (.type T') "__next__"=pure (some r)/\Q v s') E s:=by
  intro vals st xv hp h0 hx hi hn;refine wa (wpAny_setEpoch_of ho hd hf ?_);refine wa (wg ?_);refine wc ⟨_,rfl,"set_iterator",_,⟨_,qp _ rfl,rfl⟩,slot_si_next.lookup,?_⟩
  have key:=hQ (s.heap.push { cls:=.type "set_iterator",data:=.fields #[rawInt 0,rawInt 0,.ref a,rawInt es.size,rawInt ep] }) s.drawn (~~~s) [~~~s,a] vals
   (λi h=>SIt h (~~~s) (.int (st i) 0) i a es.size ep/\SAt h a es ep t) (λb o e=>qe _ e) (qu _) (by simp) (λb hb=>by
    rw[ww]
    grind) hp (λA' hA'=>{
    sub:=λb hb=>by grind
    frame:=λi h h' st' hk=>⟨st'.1.at λo e=>hk _ (by simp) o e,st'.2.at λo e=>hk a (by simp) o e⟩
    item:=λi s' Q' E' hlt' st' hQ'=>by
     refine y8e st'.1 st'.2 (x:=xv i) (nx:=st (i+1)) (λA2 Q2 E2 hq=>hi s' A2 i E2 st'.2 (by lia) Q2 hq) λh' hit' hs'=>?_;exact hQ' _ h' s'.toks (hx i (by lia)) ⟨hit',st'.2.at λo e=>hs'.extBut a o (λz=>by grind) e⟩ λb o hb e=>hs'.extBut b o (λz=>hb (by simp[z])) e
    done:=λs' Q' E' st' hQ'=>by
     rw[hlen]at st';exact y8f hA' st'.1 st'.2 (λA2 Q2 E2 hq=>hn s' A2 E2 st'.2 Q2 hq) λh' he'=>hQ' h' s'.toks λb o hb e=>he' b o (λz=>hb (by simp[z])) e
    self:=λi s' Q' E' st' hQ'=>y02 st'.1 hQ' }) ⟨⟨_,qp _ rfl,rfl,by rw[h0];rfl⟩,hsa.at λo e=>qe _ e⟩ (λi s' st'=>st'.1.typeIs)
  exact key
 have hdr:∀b:Bool,(!t.plain&&decide (es.size > 1))=b->wpAny (model prog w) A.in1 (if (!byT w&&b)=true then do
  let first <-newTuple ((<-drawOrder es.size (List.range es.size)).map fun(i:Nat)=>rawInt i)
  let x <-newFields "set_iterator" [first,rawInt 0,.ref a,rawInt es.size,rawInt (<-setEpoch a)]
  ret x
  else do
   let x <-newFields "set_iterator" [rawInt 0,rawInt 0,.ref a,rawInt es.size,rawInt (<-setEpoch a)]
   ret x) (λfin s'=>∃v,fin=.done (.ret v)/\∃T' r,s'.TypeIs v T'/\typeLookup (.type T') "__next__"=pure (some r)/\Q v s') E s:=by
  intro b hbd
  cases hbt:byT w with
  | true=>
    rw[if_neg (by simp)];generalize hor:pickOrder (w.params.setOrder a ep) es=ord
    have hpm:ord.toList.Perm es.toList:=by rw[<-hor];exact y01 _ _
    have hos:ord.size=es.size:=by
     have:=hpm.length_eq;grind
    refine plain (ord.toList.map kOf) (λ_=>0) (λi=>(ord.getD i (0,.none)).2) (by grind) rfl (λi hi=>?_) (λs' A' i E' ha hi Q' hq=>?_) (λs' A' E' ha Q' hq=>?_)
    ·have hi':i<ord.size:=by lia
     obtain⟨u,hu⟩:=Ymh hel (hpm.mem_iff.mp (show ord[i]∈ord.toList by simp));refine⟨kOf ord[i],u,by simp[hi'],?_⟩
     simp_all
    ·have hi':i<ord.size:=by lia
     refine Ysx hbt ha ?_
     simp_all
    ·refine Ysx hbt ha ?_
     grind
  | false=>
    have hled:=ht.1 hbt
    cases b with
    | false=>
      rw[if_neg (by simp)]
      have hrise:Rise t.place:=by
       cases hpl:t.plain with
       | true=>exact ht.2 hpl
       | false=>
         rw[hpl]at hbd
         have h1:t.place.toList.length<=1:=by
          grind
         unfold Rise
         match t.place.toList,h1 with
         | [],_=>exact .nil
         | [x],_=>simp
      refine plain ns (Yh8 t.place) (λi=>(es.getD i (0,.none)).2) .rfl rfl (λi hi=>?_) (λs' A' i E' ha hi Q' hq=>?_) (λs' A' E' ha Q' hq=>?_)
      ·obtain⟨u,hu⟩:=Ymh hel (show es[i]∈es.toList by simp)
       refine⟨kOf es[i],u,by grind,?_⟩
       simp_all
      ·refine Ysy hbt hbd hled ha (Yw6 hrise (by lia)) ?_
       have hi2:i<t.place.size:=by lia
       rw[Array.getElem?_eq_getElem hi,Array.getElem?_eq_getElem hi2];simp only[Array.getD,hi,hi2,dite_true,Yh8]at hq;exact hq
      ·refine Ysy hbt hbd hled ha (Yw6 hrise (by lia)) ?_
       grind
    | true=>
      rw[if_pos (by simp)];refine wa (Yph es.size (List.range es.size) s _ (by simp) λys d' hp=>?_);simp only[newTuple]
      have hyl:ys.length=es.size:=by rw[hp.length_eq];simp
      refine wa (wg ?_ (by show(ys.map fun(i:Nat)=>rawInt i).toArray.size<=sizeLine;rw[qk,qf,hyl];exact fits_of_scanBound hb));have ho1:((s.heap.push { cls:=.type "tuple",data:=.seq (ys.map fun(i:Nat)=>rawInt i).toArray })).get? a=some o:=qe _ ho;refine wa (wpAny_setEpoch_of (s:={ s with heap:=s.heap.push { cls:=.type "tuple",data:=.seq (ys.map fun(i:Nat)=>rawInt i).toArray },drawn:=d' }) ho1 hd hf ?_);refine wa (wg ?_);refine wc ⟨_,rfl,"set_iterator",_,⟨_,qp _ rfl,rfl⟩,slot_si_next.lookup,?_⟩
      have hmem:∀j∈ys,j<es.size:=λj hj=>by grind
      have hvp:(ys.map λj=>kOf (es.getD j (0,.none))).Perm ns:=by
       rw[<-hns];refine(hp.map _).trans ?_
       have:(List.range es.size).map (λj=>kOf (es.getD j (0,.none)))=es.toList.map kOf:=by
        refine List.ext_getElem (by simp) λi h1 h2=>?_
        have hi:i<es.size:=by grind
        simp[Array.getD,hi]
       rw[this]
      generalize hH:s.heap.push { cls:=.type "tuple",data:=.seq (ys.map fun(i:Nat)=>rawInt i).toArray }=H at ho1 ⊢
      have hHs:H.objs.size= ~~~s+1:=by rw[<-hH,ww]
      have hT0:H.IsTuple (~~~s) (ys.map fun(i:Nat)=>rawInt i).toArray:=⟨_,by rw[<-hH];exact qp _ rfl,rfl,_,rfl⟩
      have keepH:∀b o,s.heap.get? b=some o->H.get? b=some o:=λb o e=>by rw[<-hH];exact qe _ e
      have haI:a≠H.objs.size:=λz=>by grind
      have hTI:(~~~s)≠H.objs.size:=by grind
      exact hQ (H.push { cls:=.type "set_iterator",data:=.fields #[.ref (~~~s),rawInt 0,.ref a,rawInt es.size,rawInt ep] }) d' H.objs.size [H.objs.size,a,~~~s] (ys.map λj=>kOf (es.getD j (0,.none)))
       (λi h=>SIt h H.objs.size (.ref (~~~s)) i a es.size ep/\SAt h a es ep t/\h.IsTuple (~~~s) (ys.map fun(i:Nat)=>rawInt i).toArray) (λb o e=>qe _ (keepH b o e)) (by lia) (by simp) (λb hb=>by
        rw[ww]
        grind) hvp (λA' hA'=>{
        sub:=λb hb=>by grind
        frame:=λi h h' st' hk=>⟨st'.1.at λo e=>hk _ (by simp) o e,st'.2.1.at λo e=>hk a (by simp) o e,st'.2.2.at λo e=>hk _ (by simp) o e⟩
        item:=λi s' Q' E' hlt' st' hQ'=>by
         have hi:i<ys.length:=by lia
         have hj:=hmem ys[i] (List.getElem_mem hi);refine y4p st'.1 st'.2.1 st'.2.2 (j:=ys[i]) (tk:=0) (e:=es[ys[i]]) (by simp[hi,rawInt]) (Array.getElem?_eq_getElem hj) λh' hit' hs'=>?_;refine hQ' _ h' s'.toks ?_ ⟨hit',st'.2.1.at λo e=>hs'.extBut a o haI e,st'.2.2.at λo e=>hs'.extBut _ o hTI e⟩ λb o hb e=>hs'.extBut b o (λz=>hb (by simp[z])) e;obtain⟨u,hu⟩:=Ymh hel (show es[ys[i]]∈es.toList by simp);exact⟨kOf es[ys[i]],u,by simp[hi,Array.getD,hj],hu⟩
        done:=λs' Q' E' st' hQ'=>by
         rw[hlen]at st';exact y4q hA' st'.1 st'.2.1 st'.2.2 (by simp[hyl]) λh' he'=>hQ' h' s'.toks λb o hb e=>he' b o (λz=>hb (by simp[z])) e
        self:=λi s' Q' E' st' hQ'=>y02 st'.1 hQ' }) ⟨⟨_,qp _ rfl,rfl,rfl⟩,⟨o,qe _ ho1,hex,hd,hf⟩,hT0.push _⟩ (λi s' st'=>st'.1.typeIs)
 exact hdr _ rfl
end
end
section
inductive D where
 | non|bl (b:Bool)|int (i:Int)|str (x:Str)|tup (l:List D)|lst (l:List D)
 | scr (ns:AG)
 | dct (t:Bool) (ks vs:List D)
 | obj (c:Str) (ks:AK) (vs:List D)
 | adr (a:Addr)
abbrev AQ:=List D
mutual
def toPy:D->PyData
 | .non=>.none
 | .bl b=>.bool b
 | .int i=>.int i
 | .str x=>.str x
 | .tup l=>.tuple (Yeb l)
 | .lst l=>.list (Yeb l)
 | .scr ns=>.list (ns.map PyData.int)
 | .dct _ _ _=>.none
 | .obj _ _ _=>.none
 | .adr _=>.none
def Yeb:AQ->List PyData
 | []=>[]
 | d::l=>toPy d::Yeb l
end
def eqD(d e:D):Bool:=PyData.eqv (toPy d) (toPy e)
def eqL(l m:AQ):Bool:=PyData.eqvAll (Yeb l) (Yeb m)
def numV:V->Option Int
 | .int i=>some i
 | .bl b=>some (if b then 1 else 0)
 | _=>none
def y8g:AN->Option AG
 | []=>some []
 | x::r=>(numV x).bind λi=>(y8g r).map (i::·)
def y8h(ks:AG):Int:=reduceHash (Builtin.Tuple.tupleHashOf (ks.map hashInt))
def DtOk(a:Addr)(nks:List (List Int×Addr))(vxs:AN)(ep:Nat)(h:Heap):Prop:=
 (a==sysModules)=false/\∃us o es,Vals vxs us/\h.get? a=some o/\o.ExactDict/\o.data=.dict es ep/\es.toList=(nks.zip us).map λp=>(⟨y8h p.1.1,.ref p.1.2,p.2⟩:DictEntry)
def dTo(a:Addr)(nks:List (List Int×Addr))(vxs:AN)(ep:Nat):HO:=.ext (DtOk a nks vxs ep)
def Dc(t:Bool)(G H:Hp)(a:Addr)(kxs vxs:AN):Prop:=
 (t=false/\∃kvs:List (Key×V),H a=some (.dK kvs)/\(kvs.map (·.1)).Nodup/\kxs=kvs.map (λp=>kV p.1)/\vxs=kvs.map (·.2))\/
 (t=true/\∃(nks:List (List Int×Addr)) (ep:Nat),H a=some (dTo a nks vxs ep)/\nks.length=vxs.length/\(nks.map (·.1)).Nodup/\kxs=nks.map (λp=>V.ref p.2)/\∀p∈nks,∃ys,G p.2=some (.tup ys)/\y8g ys=some p.1)
mutual
def Rp(K:W.Frag)(G:Hp):D->V->Prop
 | .non,v=>v=V.non
 | .bl b,v=>v=V.bl b
 | .int i,v=>v=V.int i
 | .str x,v=>v=V.str x/\PyData.strOk x=true
 | .tup l,v=>∃a xs,v=V.ref a/\G a=some (HO.tup xs)/\RpL K G l xs
 | .lst l,v=>∃a xs,v=V.ref a/\Rd G a (HO.lst xs)/\RpL K G l xs
 | .scr ns,v=>∃a,v=V.ref a/\SqL K G a (ns.map V.int)
 | .dct t ks vs,v=>∃a kxs vxs,v=V.ref a/\Dc t G G a kxs vxs/\RpL K G ks kxs/\RpL K G vs vxs
 | .obj c ks vs,v=>∃a C dx xs,v=V.ref a/\W.nsIn K mainGlobals c=some (some (.ref C))/\G a=some (HO.ins C dx (ks.zip xs))/\xs.length=ks.length/\RpL K G vs xs
 | .adr a,v=>v=V.ref a
def RpL(K:W.Frag)(G:Hp):AQ->AN->Prop
 | [],xs=>xs=[]
 | d::l,xs=>∃x r,xs=x::r/\Rp K G d x/\RpL K G l r
end
variable {K:W.Frag}
theorem Yba(h:Same G G')(r:Rd G a u):Rd G' a u:=by
 rcases r with r|⟨o,r⟩
 ·exact .inl (h _ _ r)
 ·exact .inr ⟨o,h _ _ r⟩
theorem Dc.mono(g:Same G G')(h:∀o,H a=some o->H' a=some o)(d:Dc t G H a kxs vxs):Dc t G' H' a kxs vxs:=by
 rcases d with⟨e,kvs,h1,h2⟩|⟨e,nks,ep,h1,h2,h3,h4,h5⟩
 ·exact .inl ⟨e,kvs,h _ h1,h2⟩
 ·refine .inr ⟨e,nks,ep,h _ h1,h2,h3,h4,λp hp=>?_⟩
  obtain⟨ys,q1,q2⟩:=h5 p hp;exact⟨ys,g _ _ q1,q2⟩
theorem Dc.someT(d:Dc t G H a kxs vxs):∃o,H a=some o/\∀xs,o≠.tup xs:=by
 rcases d with⟨_,kvs,h1,_⟩|⟨_,nks,ep,h1,_⟩
 ·grind
 ·exact⟨_,h1,λxs z=>by cases z⟩
theorem Dc.some(d:Dc t G H a kxs vxs):∃o,H a=some o/\∀xs,o≠.lst xs:=by
 rcases d with⟨_,kvs,h1,_⟩|⟨_,nks,ep,h1,_⟩
 ·grind
 ·exact⟨_,h1,λxs z=>by cases z⟩
mutual
theorem Rp.mono{G G':Hp}(h:Same G G'):∀{d:D}{v:V},Rp K G d v->Rp K G' d v
 | .non,_,r=>by rw[Rp]at r ⊢;exact r
 | .bl _,_,r=>by rw[Rp]at r ⊢;exact r
 | .int _,_,r=>by rw[Rp]at r ⊢;exact r
 | .str _,_,r=>by rw[Rp]at r ⊢;exact r
 | .tup l,_,r=>by
   rw[Rp]at r ⊢;obtain⟨a,xs,e,g,q⟩:=r;exact⟨a,xs,e,h _ _ g,RpL.mono h q⟩
 | .lst l,_,r=>by
   rw[Rp]at r ⊢;obtain⟨a,xs,e,g,q⟩:=r;exact⟨a,xs,e,Yba h g,RpL.mono h q⟩
 | .scr ns,_,r=>by
   rw[Rp]at r ⊢;obtain⟨a,e,g⟩:=r;exact⟨a,e,h.seq g⟩
 | .dct t ks vs,_,r=>by
   rw[Rp]at r ⊢;obtain⟨a,kxs,vxs,e,g,q1,q2⟩:=r;exact⟨a,kxs,vxs,e,g.mono h λo=>h _ o,RpL.mono h q1,RpL.mono h q2⟩
 | .obj c ks vs,_,r=>by
   rw[Rp]at r ⊢;obtain⟨a,C,dx,xs,e,n,g,l,q⟩:=r;exact⟨a,C,dx,xs,e,n,h _ _ g,l,RpL.mono h q⟩
 | .adr _,_,r=>by rw[Rp]at r ⊢;exact r
theorem RpL.mono{G G':Hp}(h:Same G G'):∀{l:AQ}{xs:AN},RpL K G l xs->RpL K G' l xs
 | [],_,r=>by rw[RpL]at r ⊢;exact r
 | d::l,_,r=>by
   rw[RpL]at r ⊢;obtain⟨x,xs,e,g,q⟩:=r;exact⟨x,xs,e,Rp.mono h g,RpL.mono h q⟩
end
section
variable {G:Hp}
theorem RpL.length:∀{l:AQ}{xs:AN},RpL K G l xs->xs.length=l.length
 | [],_,r=>by rw[RpL]at r;subst r;rfl
 | d::l,_,r=>by
   rw[RpL]at r;obtain⟨x,xs,rfl,_,q⟩:=r;simp[RpL.length q]
theorem RpL.get:∀{l:AQ}{xs:AN}{i:Nat}{d:D},RpL K G l xs->l[i]?=some d->∃x,xs[i]?=some x/\Rp K G d x
 | [],_,_,_,_,e=>by simp at e
 | d::l,_,0,_,r,e=>by
   rw[RpL]at r;grind
 | d::l,_,i+1,_,r,e=>by
   rw[RpL]at r;obtain⟨x,xs,rfl,g,q⟩:=r;obtain⟨y,h1,h2⟩:=RpL.get (i:=i) q (by simpa using e);grind
theorem RpL.nil:RpL K G [] []:=by rw[RpL]
theorem RpL.cons(h:Rp K G d x)(q:RpL K G l xs):RpL K G (d::l) (x::xs):=by rw[RpL];grind
theorem RpL.append:∀{l m:AQ}{xs ys:AN},RpL K G l xs->RpL K G m ys->RpL K G (l++m) (xs++ys)
 | [],_,_,_,r,q=>by rw[RpL]at r;grind
 | d::l,m,_,ys,r,q=>by
   rw[RpL]at r;obtain⟨x,xs,rfl,g,r⟩:=r;exact .cons g (RpL.append r q)
theorem RpL.one(h:Rp K G d x):RpL K G [d] [x]:=.cons h .nil
theorem RpL.set:∀{l:AQ}{xs:AN} (i:Nat) {d:D}{x:V},RpL K G l xs->Rp K G d x->RpL K G (l.set i d) (xs.set i x)
 | [],_,_,_,_,r,_=>by rw[RpL]at r;subst r;exact .nil
 | e::l,_,0,_,_,r,h=>by
   rw[RpL]at r;obtain⟨x,xs,rfl,g,r⟩:=r;exact .cons h r
 | e::l,_,i+1,_,_,r,h=>by
   rw[RpL]at r;obtain⟨x,xs,rfl,g,r⟩:=r;exact .cons g (RpL.set i r h)
theorem RpL.take:∀{l:AQ}{xs:AN} (n:Nat),RpL K G l xs->RpL K G (l.take n) (xs.take n)
 | _,_,0,_=>by rw[List.take_zero,List.take_zero];exact .nil
 | [],_,_+1,r=>by rw[RpL]at r;subst r;exact .nil
 | d::l,_,n+1,r=>by
   rw[RpL]at r;obtain⟨x,xs,rfl,g,r⟩:=r;exact .cons g (RpL.take n r)
theorem RpL.drop:∀{l:AQ}{xs:AN} (n:Nat),RpL K G l xs->RpL K G (l.drop n) (xs.drop n)
 | _,_,0,r=>r
 | [],_,_+1,r=>by rw[RpL]at r;subst r;exact .nil
 | d::l,_,n+1,r=>by
   rw[RpL]at r;obtain⟨x,xs,rfl,g,r⟩:=r;exact RpL.drop n r
theorem RpL.reverse:∀{l:AQ}{xs:AN},RpL K G l xs->RpL K G l.reverse xs.reverse
 | [],_,r=>by rw[RpL]at r;subst r;exact .nil
 | d::l,_,r=>by
   rw[RpL]at r;obtain⟨x,xs,rfl,g,r⟩:=r;rw[List.reverse_cons,List.reverse_cons];exact r.reverse.append (.one g)
theorem RpL.ints:∀(ns:AG),RpL K G (ns.map D.int) (ns.map V.int)
 | []=>.nil
 | n::ns=>.cons (by rw[Rp]) (RpL.ints ns)
end
structure Gr(H G H' G':Hp):Prop where
 h:Same H H'
 g:Same G G'
 s:Same G' H'
 n:∀a,G a=none->G' a≠none->H a=none
theorem Gr.refl(s:Same G H):Gr H G H G:=⟨Same.refl _,Same.refl _,s,λ_ h h'=>absurd h h'⟩
theorem Gr.trans(a:Gr H G H1 G1)(b:Gr H1 G1 H2 G2):Gr H G H2 G2:=
 ⟨a.h.trans b.h,a.g.trans b.g,b.s,λx h h'=>by
  by_cases e:G1 x=none
  ·exact a.h.free (b.n x e h')
  ·exact a.n x h e⟩
theorem Gr.new(s:Same G H)(hp:H p=none)(o:HO):Gr H G (upd H p o) (upd G p o):=by
 have gp:G p=none:=s.free hp;refine⟨λb u e=>?_,λb u e=>?_,λb u e=>?_,λb h h'=>?_⟩
 ·rw[Yx (y4 e hp)];exact e
 ·rw[Yx (y4 e gp)];exact e
 ·by_cases q:b=p
  ·subst q;rw[Yy]at e ⊢;exact e
  ·rw[Yx q]at e ⊢;exact s _ _ e
 ·by_cases q:b=p
  ·grind
  ·rw[Yx q]at h';grind
theorem Gr.hid(s:Same G H)(hp:H p=none)(o:HO):Gr H G (upd H p o) G:=by
 have gp:G p=none:=s.free hp;refine⟨λb u e=>?_,Same.refl _,λb u e=>?_,λb h h'=>absurd h h'⟩
 ·rw[Yx (y4 e hp)];exact e
 ·rw[Yx (y4 e gp)];exact s _ _ e
theorem Gr.show(g:Gr H G H' G')(hp:H p=none)(gp:G' p=none)(e:H' p=some o):Gr H G H' (upd G' p o):=by
 refine⟨g.h,λb u q=>?_,λb u q=>?_,λb h h'=>?_⟩
 ·have:=g.g b u q
  rw[Yx (y4 this gp)];exact this
 ·by_cases z:b=p
  ·subst z;rw[Yy]at q;grind
  ·rw[Yx z]at q;exact g.s b u q
 ·by_cases z:b=p
  ·grind
  ·rw[Yx z]at h';exact g.n b h h'
def Ct(K:W.Frag)(G H:Hp):D->V->Prop
 | .non,v=>v=V.non
 | .bl b,v=>v=V.bl b
 | .int i,v=>v=V.int i
 | .str x,v=>v=V.str x/\PyData.strOk x=true
 | .tup l,v=>∃a xs,v=V.ref a/\(H a=some (HO.tup xs)/\G a=some (HO.tup xs))/\RpL K G l xs
 | .lst l,v=>∃a xs,v=V.ref a/\Rd H a (HO.lst xs)/\RpL K G l xs
 | .scr ns,v=>∃a,v=V.ref a/\SqL K H a (ns.map V.int)
 | .dct t ks vs,v=>∃a kxs vxs,v=V.ref a/\Dc t G H a kxs vxs/\RpL K G ks kxs/\RpL K G vs vxs
 | .obj c ks vs,v=>∃a C dx xs,v=V.ref a/\W.nsIn K mainGlobals c=some (some (.ref C))/\G a=some (HO.ins C dx (ks.zip xs))/\xs.length=ks.length/\RpL K G vs xs
 | .adr a,v=>v=V.ref a
theorem Ct.of(s:Same G H)(r:Rp K G d v):Ct K G H d v:=by
 cases d<;>rw[Rp]at r<;>rw[Ct]
 ·exact r
 ·exact r
 ·exact r
 ·exact r
 ·obtain⟨a,xs,e,g,q⟩:=r
  exact⟨a,xs,e,⟨s _ _ g,g⟩,q⟩
 ·obtain⟨a,xs,e,g,q⟩:=r
  exact⟨a,xs,e,Yba s g,q⟩
 ·obtain⟨a,e,g⟩:=r
  exact⟨a,e,s.seq g⟩
 ·obtain⟨a,kxs,vxs,e,g,q1,q2⟩:=r
  exact⟨a,kxs,vxs,e,g.mono (Same.refl _) λo=>s _ o,q1,q2⟩
 ·exact r
 ·exact r
theorem Ct.rp(s:Same G H)(r:Ct K G H d v):Rp K H d v:=by
 cases d<;>rw[Ct]at r<;>rw[Rp]
 ·exact r
 ·exact r
 ·exact r
 ·exact r
 ·obtain⟨a,xs,e,g,q⟩:=r
  exact⟨a,xs,e,g.1,q.mono s⟩
 ·obtain⟨a,xs,e,g,q⟩:=r
  exact⟨a,xs,e,g,q.mono s⟩
 ·exact r
 ·obtain⟨a,kxs,vxs,e,g,q1,q2⟩:=r
  exact⟨a,kxs,vxs,e,g.mono s λ_ z=>z,q1.mono s,q2.mono s⟩
 ·obtain⟨a,C,dx,xs,e,n,g,l,q⟩:=r
  exact⟨a,C,dx,xs,e,n,s _ _ g,l,q.mono s⟩
 ·exact r
theorem Ct.grow(g:Gr H G H' G')(r:Ct K G H d v):Ct K G' H' d v:=by
 cases d<;>rw[Ct]at r<;>rw[Ct]
 ·exact r
 ·exact r
 ·exact r
 ·exact r
 ·obtain⟨a,xs,e,h,q⟩:=r
  exact⟨a,xs,e,⟨g.h _ _ h.1,g.g _ _ h.2⟩,q.mono g.g⟩
 ·obtain⟨a,xs,e,h,q⟩:=r
  exact⟨a,xs,e,Yba g.h h,q.mono g.g⟩
 ·obtain⟨a,e,h⟩:=r
  exact⟨a,e,g.h.seq h⟩
 ·obtain⟨a,kxs,vxs,e,h,q1,q2⟩:=r
  exact⟨a,kxs,vxs,e,h.mono g.g λo=>g.h _ o,q1.mono g.g,q2.mono g.g⟩
 ·obtain⟨a,C,dx,xs,e,n,h,l,q⟩:=r
  exact⟨a,C,dx,xs,e,n,g.g _ _ h,l,q.mono g.g⟩
 ·exact r
def CtL(K:W.Frag)(G H:Hp):AQ->AN->Prop
 | [],xs=>xs=[]
 | d::l,xs=>∃x r,xs=x::r/\Ct K G H d x/\CtL K G H l r
inductive B where
 | sh (d:D)|ow (l:AQ)|od (t:Bool) (ks vs:AQ)
abbrev AR:=Option B
abbrev Ro:=List AR
abbrev AW:=Ro->Option AQ
abbrev AV:=Ro->Option D
abbrev AU:=Ro->Option Bool
abbrev AT:=D->Ro->Option Ro
structure SR(K:W.Frag)(H0 G0:Hp)(σ:L2.St)(H G:Hp)(ρ:Ro):Prop where
 gr:Gr H0 G0 H G
 len:σ.length=ρ.length
 sh:∀(i:Nat) d,ρ[i]?=some (some (B.sh d))->∃v,σ[i]?=some (some v)/\Rp K G d v
 ow:∀(i:Nat) l,ρ[i]?=some (some (B.ow l))->∃a xs,σ[i]?=some (some (V.ref a))/\G a=none/\H0 a=none/\H a=some (.lst xs)/\RpL K G l xs
 ap:∀(i j:Nat) l l' a b,ρ[i]?=some (some (B.ow l))->ρ[j]?=some (some (B.ow l'))->i≠j->σ[i]?=some (some (V.ref a))->σ[j]?=some (some (V.ref b))->a≠b
 od:∀(i:Nat) t ks vs,ρ[i]?=some (some (B.od t ks vs))->∃a kxs vxs,σ[i]?=some (some (V.ref a))/\G a=none/\H0 a=none/\Dc t G H a kxs vxs/\RpL K G ks kxs/\RpL K G vs vxs
 apd:∀(i j:Nat) t ks vs t' ks' vs' a b,ρ[i]?=some (some (B.od t ks vs))->ρ[j]?=some (some (B.od t' ks' vs'))->i≠j->σ[i]?=some (some (V.ref a))->σ[j]?=some (some (V.ref b))->a≠b
section
variable {H0 G0 H G H' G':Hp}{σ:L2.St}{ρ:Ro}
theorem SR.mkSh(g:Gr H0 G0 H G)(len:σ.length=ρ.length)(sh:∀(i:Nat) d,ρ[i]?=some (some (B.sh d))->∃v,σ[i]?=some (some v)/\Rp K G d v)(no:∀(i:Nat) l,ρ[i]?≠some (some (B.ow l)))(no':∀(i:Nat) t ks vs,ρ[i]?≠some (some (B.od t ks vs))):SR K H0 G0 σ H G ρ:=
 ⟨g,len,sh,λi l h=>absurd h (no i l),λi j l l' a b h=>absurd h (no i l),λi t ks vs h=>absurd h (no' i t ks vs),λi j t ks vs t' ks' vs' a b h=>absurd h (no' i t ks vs)⟩
theorem Yfk(g:Gr H G H' G')(h:H a=some o)(n:G a=none):G' a=none:=by
 cases q:G' a with
 | none=>rfl
 | some o=>
   have:=g.n a n (by grind);grind
theorem SR.grow(s:SR K H0 G0 σ H G ρ)(g:Gr H G H' G'):SR K H0 G0 σ H' G' ρ:=by
 refine⟨s.gr.trans g,s.len,λi d e=>?_,λi l e=>?_,s.ap,λi t ks vs e=>?_,s.apd⟩
 ·obtain⟨v,h1,h2⟩:=s.sh i d e
  exact⟨v,h1,h2.mono g.g⟩
 ·obtain⟨a,xs,h1,h2,h3,h4,h5⟩:=s.ow i l e
  exact⟨a,xs,h1,Yfk g h4 h2,h3,g.h _ _ h4,h5.mono g.g⟩
 ·obtain⟨a,kxs,vxs,h1,h2,h3,h4,h5,h6⟩:=s.od i t ks vs e
  obtain⟨o,h7,_⟩:=h4.some;exact⟨a,kxs,vxs,h1,Yfk g h7 h2,h3,h4.mono g.g λo=>g.h _ o,h5.mono g.g,h6.mono g.g⟩
theorem SR.seen(s:SR K H0 G0 σ H G ρ):Same G H:=s.gr.s
theorem Yz{α:Type}{l:List α}{x y:α}(h:(l.set i x)[j]?=some y):(j=i/\y=x/\i<l.length)\/(j≠i/\l[j]?=some y):=by grind
theorem SR.set_sh(s:SR K H0 G0 σ H G ρ)(i:Nat)(r:Rp K G d v):SR K H0 G0 (σ.set i (some v)) H G (ρ.set i (some (.sh d))):=by
 refine⟨s.gr,by simp[s.len],λj e h=>?_,λj l h=>?_,λj k l l' a b h1 h2 h3 h4 h5=>?_,λj t ks vs h=>?_,λj k t ks vs t' ks' vs' a b h1 h2 h3 h4 h5=>?_⟩
 ·rcases Yz h with⟨rfl,e1,hl⟩|⟨hj,h⟩
  ·cases e1
   exact⟨v,by rw[List.getElem?_set_self (by rw[s.len];exact hl)],r⟩
  ·obtain⟨w,q1,q2⟩:=s.sh j e h
   grind
 ·rcases Yz h with⟨rfl,e1,hl⟩|⟨hj,h⟩
  ·cases e1
  ·obtain⟨a,xs,q1,q2⟩:=s.ow j l h
   grind
 ·rcases Yz h1 with⟨rfl,e1,_⟩|⟨hj,h1⟩
  ·cases e1
  ·rcases Yz h2 with⟨rfl,e1,_⟩|⟨hk,h2⟩
   ·cases e1
   ·rw[Qf (Ne.symm hj)]at h4
    rw[Qf (Ne.symm hk)]at h5;exact s.ap j k l l' a b h1 h2 h3 h4 h5
 ·rcases Yz h with⟨rfl,e1,hl⟩|⟨hj,h⟩
  ·cases e1
  ·obtain⟨a,kxs,vxs,q1,q2⟩:=s.od j t ks vs h
   grind
 ·rcases Yz h1 with⟨rfl,e1,_⟩|⟨hj,h1⟩
  ·cases e1
  ·rcases Yz h2 with⟨rfl,e1,_⟩|⟨hk,h2⟩
   ·cases e1
   ·rw[Qf (Ne.symm hj)]at h4
    rw[Qf (Ne.symm hk)]at h5;exact s.apd j k t ks vs t' ks' vs' a b h1 h2 h3 h4 h5
theorem SR.set_ow(s:SR K H0 G0 σ H G ρ)(i:Nat)(g:Gr H G H' G')(hp:H p=none)(gp:G' p=none)(e:H' p=some (.lst xs))(r:RpL K G' l xs):SR K H0 G0 (σ.set i (some (.ref p))) H' G' (ρ.set i (some (.ow l))):=by
 have s':=s.grow g
 have np:∀(j:Nat) l a,ρ[j]?=some (some (B.ow l))->σ[j]?=some (some (V.ref a))->a≠p:=λj l a h1 h2 z=>by
  obtain⟨b,ys,q1,_,_,q4,_⟩:=s.ow j l h1;grind
 refine⟨s'.gr,by simp[s.len],λj e h=>?_,λj l h=>?_,λj k l l' a b h1 h2 h3 h4 h5=>?_,λj t ks vs h=>?_,λj k t ks vs t' ks' vs' a b h1 h2 h3 h4 h5=>?_⟩
 ·rcases Yz h with⟨rfl,e1,hl⟩|⟨hj,h⟩
  ·cases e1
  ·obtain⟨w,q1,q2⟩:=s'.sh j e h
   grind
 ·rcases Yz h with⟨rfl,e1,hl⟩|⟨hj,h⟩
  ·cases e1
   exact⟨p,xs,by rw[List.getElem?_set_self (by rw[s.len];exact hl)],gp,s.gr.h.free hp,e,r⟩
  ·obtain⟨a,xs,q1,q2⟩:=s'.ow j l h
   grind
 ·rcases Yz h1 with⟨rfl,e1,hl⟩|⟨hj,h1n⟩
  ·grind
  ·rcases Yz h2 with⟨rfl,e2,hl⟩|⟨hk,h2⟩
   ·grind
   ·rw[Qf (Ne.symm hj)]at h4
    rw[Qf (Ne.symm hk)]at h5;exact s.ap j k l l' a b h1n h2 h3 h4 h5
 ·rcases Yz h with⟨rfl,e1,hl⟩|⟨hj,h⟩
  ·cases e1
  ·obtain⟨a,kxs,vxs,q1,q2⟩:=s'.od j t ks vs h
   grind
 ·rcases Yz h1 with⟨rfl,e1,_⟩|⟨hj,h1⟩
  ·cases e1
  ·rcases Yz h2 with⟨rfl,e1,_⟩|⟨hk,h2⟩
   ·cases e1
   ·rw[Qf (Ne.symm hj)]at h4
    rw[Qf (Ne.symm hk)]at h5;exact s.apd j k t ks vs t' ks' vs' a b h1 h2 h3 h4 h5
theorem SR.mut(s:SR K H0 G0 σ H G ρ)(hi:ρ[i]?=some (some (B.ow l)))(ha:σ[i]?=some (some (V.ref a)))(r:RpL K G l' ys):SR K H0 G0 σ (upd H a (.lst ys)) G (ρ.set i (some (.ow l'))):=by
 obtain⟨a',xs,q1,q2,q3,q4,q5⟩:=s.ow i l hi;rw[ha]at q1;cases q1;have hl:i<ρ.length:=(qo hi).1;refine⟨⟨λb o e=>?_,s.gr.g,λb o e=>?_,s.gr.n⟩,by simp[s.len],λj e h=>?_,λj m h=>?_,λj k m m' b c h1 h2 h3 h4 h5=>?_,λj t ks vs h=>?_,λj k t ks vs t' ks' vs' b c h1 h2 h3 h4 h5=>?_⟩
 ·rw[Yx (y4 e q3)];exact s.gr.h b o e
 ·rw[Yx (y4 e q2)];exact s.gr.s b o e
 ·rcases Yz h with⟨rfl,e1,_⟩|⟨hj,h⟩
  ·cases e1
  ·exact s.sh j e h
 ·rcases Yz h with⟨rfl,e1,_⟩|⟨hj,h⟩
  ·cases e1
   exact⟨a,ys,ha,q2,q3,Yy,r⟩
  ·obtain⟨b,zs,p1,p2,p3,p4,p5⟩:=s.ow j m h
   exact⟨b,zs,p1,p2,p3,by rw[Yx (s.ap j i m l b a h hi hj p1 ha)];exact p4,p5⟩
 ·have old:∀(j:Nat) m,(ρ.set i (some (.ow l')))[j]?=some (some (B.ow m))->∃m',ρ[j]?=some (some (B.ow m')):=λj m h=>by
   grind
  obtain⟨n1,e1⟩:=old j m h1;obtain⟨n2,e2⟩:=old k m' h2;exact s.ap j k n1 n2 b c e1 e2 h3 h4 h5
 ·rcases Yz h with⟨rfl,e1,_⟩|⟨hj,h⟩
  ·cases e1
  ·obtain⟨b,kxs,vxs,p1,p2,p3,p4,p5⟩:=s.od j t ks vs h
   refine⟨b,kxs,vxs,p1,p2,p3,p4.mono (Same.refl _) λo q=>?_,p5⟩;obtain⟨o',q',nl⟩:=p4.some;rw[q]at q';cases q';rw[Yx (λz=>by grind)];exact q
 ·rcases Yz h1 with⟨rfl,e1,_⟩|⟨hj,h1⟩
  ·cases e1
  ·rcases Yz h2 with⟨rfl,e1,_⟩|⟨hk,h2⟩
   ·cases e1
   ·exact s.apd j k t ks vs t' ks' vs' b c h1 h2 h3 h4 h5
theorem SR.freezeT(s:SR K H0 G0 σ H G ρ)(hi:ρ[i]?=some (some (B.ow l))):∃G',SR K H0 G0 σ H G' (ρ.set i (some (.sh (.lst l))))/\∀b ys,G' b=some (.tup ys)->G b=some (.tup ys):=by
 obtain⟨a,xs,q1,q2,q3,q4,q5⟩:=s.ow i l hi;have hl:i<ρ.length:=(qo hi).1
 have sm:Same G (upd G a (.lst xs)):=λb o e=>by rw[Yx (y4 e q2)];exact e
 refine⟨upd G a (.lst xs),?_,λb ys e=>by
  by_cases z:b=a
  ·subst z;rw[Yy]at e;cases e
  ·rw[Yx z]at e;exact e⟩
 refine⟨⟨s.gr.h,s.gr.g.trans sm,λb o e=>?_,λb h h'=>?_⟩,by simp[s.len],λj e h=>?_,λj m h=>?_,λj k m m' b c h1 h2 h3 h4 h5=>?_,λj t ks vs h=>?_,λj k t ks vs t' ks' vs' b c h1 h2 h3 h4 h5=>?_⟩
 ·by_cases z:b=a
  ·subst z;rw[Yy]at e;grind
  ·rw[Yx z]at e;exact s.gr.s b o e
 ·by_cases z:b=a
  ·grind
  ·rw[Yx z]at h';exact s.gr.n b h h'
 ·rcases Yz h with⟨rfl,e1,_⟩|⟨hj,h⟩
  ·cases e1
   exact⟨_,q1,by rw[Rp];exact⟨a,xs,rfl,.inl Yy,q5.mono sm⟩⟩
  ·obtain⟨v,p1,p2⟩:=s.sh j e h
   exact⟨v,p1,p2.mono sm⟩
 ·rcases Yz h with⟨rfl,e1,_⟩|⟨hj,h⟩
  ·cases e1
  ·obtain⟨b,zs,p1,p2,p3,p4,p5⟩:=s.ow j m h
   exact⟨b,zs,p1,by rw[Yx (s.ap j i m l b a h hi hj p1 q1)];exact p2,p3,p4,p5.mono sm⟩
 ·rcases Yz h1 with⟨rfl,e1,_⟩|⟨hj,h1⟩
  ·cases e1
  ·rcases Yz h2 with⟨rfl,e1,_⟩|⟨hk,h2⟩
   ·cases e1
   ·exact s.ap j k m m' b c h1 h2 h3 h4 h5
 ·rcases Yz h with⟨rfl,e1,_⟩|⟨hj,h⟩
  ·cases e1
  ·obtain⟨b,kxs,vxs,p1,p2,p3,p4,p5,p6⟩:=s.od j t ks vs h
   obtain⟨o',q',nl⟩:=p4.some;exact⟨b,kxs,vxs,p1,by rw[Yx (λz=>by grind)];exact p2,p3,p4.mono sm λ_ z=>z,p5.mono sm,p6.mono sm⟩
 ·rcases Yz h1 with⟨rfl,e1,_⟩|⟨hj,h1⟩
  ·cases e1
  ·rcases Yz h2 with⟨rfl,e1,_⟩|⟨hk,h2⟩
   ·cases e1
   ·exact s.apd j k t ks vs t' ks' vs' b c h1 h2 h3 h4 h5
theorem SR.freeze(s:SR K H0 G0 σ H G ρ)(hi:ρ[i]?=some (some (B.ow l))):∃G',SR K H0 G0 σ H G' (ρ.set i (some (.sh (.lst l)))):=by
 obtain⟨G',h,_⟩:=s.freezeT hi;grind
theorem SR.freezedT(s:SR K H0 G0 σ H G ρ)(hi:ρ[i]?=some (some (B.od t ks vs))):∃G',SR K H0 G0 σ H G' (ρ.set i (some (.sh (.dct t ks vs))))/\∀b ys,G' b=some (.tup ys)->G b=some (.tup ys):=by
 obtain⟨a,kxs,vxs,q1,q2,q3,q4,q5,q6⟩:=s.od i t ks vs hi;obtain⟨o,q7,nl⟩:=q4.some;have hl:i<ρ.length:=(qo hi).1
 have sm:Same G (upd G a o):=λb o e=>by rw[Yx (y4 e q2)];exact e
 obtain⟨oT,q8,nt⟩:=q4.someT;rw[q7]at q8;cases q8
 refine⟨upd G a o,?_,λb ys e=>by
  by_cases z:b=a
  ·subst z;rw[Yy]at e;grind
  ·rw[Yx z]at e;exact e⟩
 refine⟨⟨s.gr.h,s.gr.g.trans sm,λb o' e=>?_,λb h h'=>?_⟩,by simp[s.len],λj e h=>?_,λj m h=>?_,λj k m m' b c h1 h2 h3 h4 h5=>?_,λj t ks vs h=>?_,λj k t ks vs t' ks' vs' b c h1 h2 h3 h4 h5=>?_⟩
 ·by_cases z:b=a
  ·subst z;rw[Yy]at e;grind
  ·rw[Yx z]at e;exact s.gr.s b o' e
 ·by_cases z:b=a
  ·grind
  ·rw[Yx z]at h';exact s.gr.n b h h'
 ·rcases Yz h with⟨rfl,e1,_⟩|⟨hj,h⟩
  ·cases e1
   refine⟨_,q1,?_⟩;rw[Rp];refine⟨a,kxs,vxs,rfl,q4.mono sm λo' z=>?_,q5.mono sm,q6.mono sm⟩;rw[q7]at z;rw[Yy];exact z
  ·obtain⟨v,p1,p2⟩:=s.sh j e h
   exact⟨v,p1,p2.mono sm⟩
 ·rcases Yz h with⟨rfl,e1,_⟩|⟨hj,h⟩
  ·cases e1
  ·obtain⟨b,zs,p1,p2,p3,p4,p5⟩:=s.ow j m h
   exact⟨b,zs,p1,by rw[Yx (λz=>by grind)];exact p2,p3,p4,p5.mono sm⟩
 ·rcases Yz h1 with⟨rfl,e1,_⟩|⟨hj,h1⟩
  ·cases e1
  ·rcases Yz h2 with⟨rfl,e1,_⟩|⟨hk,h2⟩
   ·cases e1
   ·exact s.ap j k m m' b c h1 h2 h3 h4 h5
 ·rcases Yz h with⟨rfl,e1,_⟩|⟨hj,h⟩
  ·cases e1
  ·obtain⟨b,kx,vx,p1,p2,p3,p4,p5,p6⟩:=s.od j t ks vs h
   exact⟨b,kx,vx,p1,by rw[Yx (s.apd j i _ _ _ _ _ _ b a h hi hj p1 q1)];exact p2,p3,p4.mono sm λ_ z=>z,p5.mono sm,p6.mono sm⟩
 ·rcases Yz h1 with⟨rfl,e1,_⟩|⟨hj,h1⟩
  ·cases e1
  ·rcases Yz h2 with⟨rfl,e1,_⟩|⟨hk,h2⟩
   ·cases e1
   ·exact s.apd j k t ks vs t' ks' vs' b c h1 h2 h3 h4 h5
theorem SR.freezed(s:SR K H0 G0 σ H G ρ)(hi:ρ[i]?=some (some (B.od t ks vs))):∃G',SR K H0 G0 σ H G' (ρ.set i (some (.sh (.dct t ks vs)))):=by
 obtain⟨G',h,_⟩:=s.freezedT hi;grind
def Le(ρ ρ':Ro):Prop:=ρ.length=ρ'.length/\∀(i:Nat) b,ρ[i]?=some (some b)->ρ'[i]?=some (some b)
theorem SR.le(s:SR K H0 G0 σ H G ρ')(h:Le ρ ρ'):SR K H0 G0 σ H G ρ:=
 ⟨s.gr,s.len.trans h.1.symm,λi d e=>s.sh i d (h.2 i _ e),λi l e=>s.ow i l (h.2 i _ e),λi j l l' a b e1 e2=>s.ap i j l l' a b (h.2 i _ e1) (h.2 j _ e2),
  λi t ks vs e=>s.od i t ks vs (h.2 i _ e),λi j t ks vs t' ks' vs' a b e1 e2=>s.apd i j t ks vs t' ks' vs' a b (h.2 i _ e1) (h.2 j _ e2)⟩
theorem SR.rebase(s:SR K H0 G0 σ H G ρ):∃H1,SR K H1 G σ H G ρ/\∀σ' H' G' ρ',SR K H1 G σ' H' G' ρ'->SR K H0 G0 σ' H' G' ρ':=by
 classical
 let own:Addr->Prop:=λa=>∃(i:Nat),((∃l:AQ,ρ[i]?=some (some (B.ow l)))\/(∃t ks vs,ρ[i]?=some (some (B.od t ks vs))))/\σ[i]?=some (some (V.ref a))
 have h0:∀a,own a->H0 a=none:=λa hx_=>by
  obtain⟨i,e1,e2⟩:=hx_;rcases e1 with⟨l,e1⟩|⟨t,ks,vs,e1⟩
  ·obtain⟨b,xs,q1,_,q3,_⟩:=s.ow i l e1
   grind
  ·obtain⟨b,kxs,vxs,q1,_,q3,_⟩:=s.od i t ks vs e1
   grind
 have back:∀a,(if own a then (none:Option HO)else H a)=none->H0 a=none:=λa h=>by
  by_cases o:own a
  ·exact h0 a o
  ·rw[if_neg o]at h;exact s.gr.h.free h
 refine⟨λa=>if own a then none else H a,⟨⟨λb o e=>?_,Same.refl _,s.gr.s,λ_ h h'=>absurd h h'⟩,s.len,s.sh,λi l e=>?_,s.ap,λi t ks vs e=>?_,s.apd⟩,λσ' H' G' ρ' t=>⟨⟨λb o e=>?_,s.gr.g.trans t.gr.g,t.gr.s,λb h h'=>?_⟩,t.len,t.sh,λi l e=>?_,t.ap,λi t1 ks vs e=>?_,t.apd⟩⟩
 ·simp_all
 ·obtain⟨a,xs,q1,q2,q3,q4,q5⟩:=s.ow i l e
  exact⟨a,xs,q1,q2,if_pos ⟨i,.inl ⟨l,e⟩,q1⟩,q4,q5⟩
 ·obtain⟨a,kxs,vxs,q1,q2,q3,q4⟩:=s.od i t ks vs e
  exact⟨a,kxs,vxs,q1,q2,if_pos ⟨i,.inr ⟨t,ks,vs,e⟩,q1⟩,q4⟩
 ·refine t.gr.h b o ?_
  have z:¬own b:=λz=>by grind
  show(if own b then none else H b)=some o;rw[if_neg z];exact s.gr.h b o e
 ·by_cases z:G b=none
  ·exact back b (t.gr.n b z h')
  ·exact s.gr.n b h z
 ·obtain⟨a,xs,q1,q2,q3,q4,q5⟩:=t.ow i l e
  grind
 ·obtain⟨a,kxs,vxs,q1,q2,q3,q4⟩:=t.od i t1 ks vs e
  grind
end
def tOf(K:W.Frag)(f:AV):TE:=λσ H Q=>∃ρ d H0 G0 G,f ρ=some d/\SR K H0 G0 σ H G ρ/\∀v H' G',Gr H G H' G'->Rp K G' d v->Q v H'
def tCof(K:W.Frag)(f:AV):TE:=λσ H Q=>∃ρ d H0 G0 G,f ρ=some d/\SR K H0 G0 σ H G ρ/\∀v H' G',Gr H G H' G'->Ct K G' H' d v->Q v H'
def tCAof(K:W.Frag)(f:AW):TA:=λσ H Q=>∃ρ l H0 G0 G,f ρ=some l/\SR K H0 G0 σ H G ρ/\∀vs H' G',Gr H G H' G'->CtL K G' H' l vs->Q vs H'
def tFof(K:W.Frag)(f:AW):TE:=λσ H Q=>∃ρ l H0 G0 G,f ρ=some l/\SR K H0 G0 σ H G ρ/\∀p xs H' G',Gr H G H' G'->H p=none->G' p=none->H' p=some (.lst xs)->RpL K G' l xs->Q (.ref p) H'
def tTof(K:W.Frag)(f:AU):TT:=λσ H Q=>∃ρ b H0 G0 G,f ρ=some b/\SR K H0 G0 σ H G ρ/\∀H' G',Gr H G H' G'->Q b H'
def tAof(K:W.Frag)(f:AW):TA:=λσ H Q=>∃ρ l H0 G0 G,f ρ=some l/\SR K H0 G0 σ H G ρ/\∀vs H' G',Gr H G H' G'->RpL K G' l vs->Q vs H'
def Wk(K:W.Frag)(J:It)(G':Hp)(ds:AQ):Prop:=ds.length<=sizeLine/\∀(i:Nat) H2 G2,Same G' G2->Same G2 H2->
 (∀d,ds[i]?=some d->J.go i H2/\∀y H3,J.yld i H2 y H3->∃G3,Gr H2 G2 H3 G3/\Rp K G3 d y)/\(ds.length<=i->J.stop i H2)
def tIof(K:W.Frag)(f:AW):TI:=λσ H R=>∃ρ ds H0 G0 G,f ρ=some ds/\SR K H0 G0 σ H G ρ/\∀J H' G',Gr H G H' G'->Wk K J G' ds->R J H'
inductive Out where
 | nx (ρ:Ro)|rt (d:D)|bk (ρ:Ro)|ct (ρ:Ro)
abbrev AS:=Ro->Option Out
def Cont(K:W.Frag)(H0 G0:Hp)(F:Ends):Out->Prop
 | .nx ρ'=>∀σ' H' G',SR K H0 G0 σ' H' G' ρ'->F.nx σ' H'
 | .rt d=>∀v H' G',Gr H0 G0 H' G'->Rp K G' d v->F.rt v H'
 | .bk ρ'=>∀σ' H' G',SR K H0 G0 σ' H' G' ρ'->F.bk σ' H'
 | .ct ρ'=>∀σ' H' G',SR K H0 G0 σ' H' G' ρ'->F.ct σ' H'
def sOf(K:W.Frag)(f:AS):TS:=λF σ H=>∃ρ out H0 G0 G,f ρ=some out/\SR K H0 G0 σ H G ρ/\Cont K H0 G0 F out
def gOf(K:W.Frag)(gt:AT):TG:=λv σ H Q=>∃d ρ ρ' H0 G0 G,gt d ρ=some ρ'/\SR K H0 G0 σ H G ρ/\Rp K G d v/\∀σ',SR K H0 G0 σ' H G ρ'->Q σ' H
abbrev ME(X:Cx)(e:Expr)(f:AV):Prop:=PE X e (tOf X.K f)
abbrev MC(X:Cx)(e:Expr)(f:AV):Prop:=PE X e (tCof X.K f)
abbrev MCA(X:Cx)(es:AL)(f:AW):Prop:=PA X es (tCAof X.K f)
abbrev MF(X:Cx)(e:Expr)(f:AW):Prop:=PE X e (tFof X.K f)
abbrev MT(X:Cx)(e:Expr)(f:AU):Prop:=PT X e (tTof X.K f)
abbrev MA(X:Cx)(es:AL)(f:AW):Prop:=PA X es (tAof X.K f)
abbrev MI(X:Cx)(tg iter:Expr)(f:AW):Prop:=PI X tg iter (tIof X.K f)
abbrev MS(X:Cx)(st:Stmt)(f:AS):Prop:=PS X st (sOf X.K f)
abbrev MB(X:Cx)(sts:List Stmt)(f:AS):Prop:=PSs X sts (sOf X.K f)
abbrev MG(X:Cx)(tg:Expr)(gt:AT):Prop:=PG X tg (gOf X.K gt)
section
variable {X:Cx}
theorem PE.imp(h:PE X e t)(i:∀σ H Q,t' σ H Q->t σ H Q):PE X e t':=λpins s σ H Q I hw=>h pins s σ H Q I (i σ H Q hw)
theorem PT.imp(h:PT X e t)(i:∀σ H Q,t' σ H Q->t σ H Q):PT X e t':=λpins s σ H Q I hw=>h pins s σ H Q I (i σ H Q hw)
theorem PA.imp(h:PA X es t)(i:∀σ H Q,t' σ H Q->t σ H Q):PA X es t':=λpos pins s σ H Q I hw=>h pos pins s σ H Q I (i σ H Q hw)
theorem PS.imp{st:Stmt}(h:PS X st t)(i:∀F σ H,t' F σ H->t F σ H):PS X st t':=λpins s σ H F I hw=>h pins s σ H F I (i F σ H hw)
theorem PSs.imp{st:List Stmt}(h:PSs X st t)(i:∀F σ H,t' F σ H->t F σ H):PSs X st t':=λpins s σ H F I hw=>h pins s σ H F I (i F σ H hw)
theorem PI.imp(h:PI X tg e t)(i:∀σ H R,t' σ H R->t σ H R):PI X tg e t':=λpins s σ H R I hw=>h pins s σ H R I (i σ H R hw)
theorem PG.imp(h:PG X e t)(i:∀v σ H Q,t' v σ H Q->t v σ H Q):PG X e t':=λpins s σ H v u Q I r hw=>h pins s σ H v u Q I r (i v σ H Q hw)
variable {H0 G0 H G:Hp}{σ:L2.St}{ρ:Ro}
theorem tOf.at(e:f ρ=some d)(s:SR K H0 G0 σ H G ρ)(h:∀v H' G',Gr H G H' G'->Rp K G' d v->SR K H0 G0 σ H' G' ρ->Q v H'):tOf K f σ H Q:=
 ⟨ρ,d,H0,G0,G,e,s,λv H' G' g r=>h v H' G' g r (s.grow g)⟩
theorem tCof.at(e:f ρ=some d)(s:SR K H0 G0 σ H G ρ)(h:∀v H' G',Gr H G H' G'->Ct K G' H' d v->SR K H0 G0 σ H' G' ρ->Q v H'):tCof K f σ H Q:=
 ⟨ρ,d,H0,G0,G,e,s,λv H' G' g r=>h v H' G' g r (s.grow g)⟩
theorem tCAof.at(e:f ρ=some l)(s:SR K H0 G0 σ H G ρ)(h:∀vs H' G',Gr H G H' G'->CtL K G' H' l vs->SR K H0 G0 σ H' G' ρ->Q vs H'):tCAof K f σ H Q:=
 ⟨ρ,l,H0,G0,G,e,s,λv H' G' g r=>h v H' G' g r (s.grow g)⟩
theorem ME.mc(h:ME X e f):MC X e f:=PE.imp h λσ H Q ⟨ρ,d,H0,G0,G,e,s,h⟩=>⟨ρ,d,H0,G0,G,e,s,λv H' G' g r=>h v H' G' g (.of g.s r)⟩
theorem tTof.at(e:f ρ=some b)(s:SR K H0 G0 σ H G ρ)(h:∀H' G',Gr H G H' G'->SR K H0 G0 σ H' G' ρ->Q b H'):tTof K f σ H Q:=
 ⟨ρ,b,H0,G0,G,e,s,λH' G' g=>h H' G' g (s.grow g)⟩
theorem tAof.at(e:f ρ=some l)(s:SR K H0 G0 σ H G ρ)(h:∀vs H' G',Gr H G H' G'->RpL K G' l vs->SR K H0 G0 σ H' G' ρ->Q vs H'):tAof K f σ H Q:=
 ⟨ρ,l,H0,G0,G,e,s,λv H' G' g r=>h v H' G' g r (s.grow g)⟩
end
end
section
variable {K:W.Frag}
def b2{α:Type}(fa fb:AV)(g:D->D->Option α):Ro->Option α:=λρ=>(fa ρ).bind λx=>(fb ρ).bind λy=>g x y
def b1{α:Type}(fa:AV)(g:D->Option α):Ro->Option α:=λρ=>(fa ρ).bind g
theorem Yqf(h:b2 fa fb g ρ=some r):∃x y,fa ρ=some x/\fb ρ=some y/\g x y=some r:=by
 unfold b2 at h;obtain⟨x,h1,h⟩:=qa h;obtain⟨y,h2,h⟩:=qa h;grind
theorem Yaw(h:b1 fa g ρ=some r):∃x,fa ρ=some x/\g x=some r:=by
 unfold b1 at h;obtain⟨x,h1,h⟩:=qa h;grind
def Sem2(K:W.Frag)(r:R2)(g:D->D->Option D):Prop:=∀(x y:V) (dx dy d:D) (H G:Hp) (Q:VK),g dx dy=some d->Same G H->Ct K G H dx x->Ct K G H dy y->(∀v H' G',Gr H G H' G'->Rp K G' d v->Q v H')->r x y H Q
def Yf0(K:W.Frag)(r:R2)(g:D->D->Option Bool):Prop:=∀(x y:V) (dx dy:D) (b:Bool) (H G:Hp) (Q:VK),g dx dy=some b->Same G H->Ct K G H dx x->Ct K G H dy y->Q (.bl b) H->r x y H Q
def SemC(K:W.Frag)(r:AN->Hp->VK->Prop)(g:AQ->Option D):Prop:=∀(vs:AN) (ds:AQ) (d:D) (H G:Hp) (Q:VK),g ds=some d->Same G H->CtL K G H ds vs->(∀v H' G',Gr H G H' G'->Rp K G' d v->Q v H')->r vs H Q
def SemF(K:W.Frag)(r:AN->Hp->VK->Prop)(g:AQ->Option AQ):Prop:=∀(vs:AN) (ds l:AQ) (H G:Hp) (Q:VK),g ds=some l->Same G H->CtL K G H ds vs->
 (∀p xs H' G',Gr H G H' G'->H p=none->G' p=none->H' p=some (.lst xs)->RpL K G' l xs->Q (.ref p) H')->r vs H Q
section
variable {X:Cx}{a b c e:Expr}{es:AL}{fa fb fc f:AV}{ga:AW}{pos:Pos}
def getV(i:Nat):AV:=λρ=>match ρ[i]? with
 | some (some (B.sh d))=>some d
 | _=>none
def getO(i:Nat):AW:=λρ=>match ρ[i]? with
 | some (some (B.ow l))=>some l
 | _=>none
theorem y03(h:getV i ρ=some d):ρ[i]?=some (some (B.sh d)):=by
 unfold getV at h;grind
theorem Yjh(h:getO i ρ=some l):ρ[i]?=some (some (B.ow l)):=by
 unfold getO at h;grind
def getC(i:Nat):AV:=λρ=>match ρ[i]? with
 | some (some (B.sh d))=>some d
 | some (some (B.ow l))=>some (.lst l)
 | some (some (B.od t ks vs))=>some (.dct t ks vs)
 | _=>none
def kD(d:D):AV:=λ_=>some d
theorem Yho(h:PE X e t)(ht:∀σ H Q,Q v H->t σ H Q)(hr:∀G,Rp X.K G d v):ME X e (kD d):=
 PE.imp h λσ H Q hx_=>by
  obtain⟨ρ,d',H0,G0,G,e,s,h⟩:=hx_;cases e;exact ht σ H Q (h v H G (.refl s.seen) (hr G))
theorem Yabu{j}:ME X (.Constant (.int i) j pos) (kD (.int i)):=Yho (v:=.int i) Yz8 (λ_ _ _ q=>q) λ_=>by rw[Rp]
theorem Yaey{j}:ME X (.Constant (.bool k) j pos) (kD (.bl k)):=Yho (v:=.bl k) Yaei (λ_ _ _ q=>q) λ_=>by rw[Rp]
theorem Yabv{j}:ME X (.Constant .none j pos) (kD .non):=Yho (v:=.non) Yaa1 (λ_ _ _ q=>q) λ_=>by rw[Rp]
theorem y7b(hr:Sem2 K r g)(h:tOf K (b2 fa fb g) σ H Q):tOp r (tCof K fa) (tCof K fb) σ H Q:=by
 obtain⟨ρ,d,H0,G0,G,e,s,h⟩:=h;obtain⟨dx,dy,h1,h2,h3⟩:=Yqf e;exact tCof.at h1 s λv H1 G1 g1 r1 s1=>tCof.at h2 s1 λu H2 G2 g2 r2 s2=>hr v u dx dy d H2 G2 Q h3 s2.seen (r1.grow g2) r2 λw H' G' g3 r3=>h w H' G' ((g1.trans g2).trans g3) r3
theorem y8i(hr:Yf0 K r g)(h:tTof K (b2 fa fb g) σ H Q):y73 (tOp r (tCof K fa) (tCof K fb)) σ H Q:=by
 obtain⟨ρ,d,H0,G0,G,e,s,h⟩:=h;obtain⟨dx,dy,h1,h2,h3⟩:=Yqf e;exact tCof.at h1 s λv H1 G1 g1 r1 s1=>tCof.at h2 s1 λu H2 G2 g2 r2 s2=>hr v u dx dy d H2 G2 _ h3 s2.seen (r1.grow g2) r2 ⟨d,rfl,h H2 G2 (g1.trans g2)⟩
def mB(f:AU):AV:=λρ=>(f ρ).map D.bl
theorem Yqg{f:AU}(h:mB f ρ=some d):∃b,f ρ=some b/\d=.bl b:=by
 unfold mB at h;obtain⟨b,h1,h2⟩:=qc h;grind
theorem y4s(hr:Yf0 K r g)(h:tOf K (mB (b2 fa fb g)) σ H Q):tOp r (tCof K fa) (tCof K fb) σ H Q:=by
 obtain⟨ρ,d,H0,G0,G,e,s,h⟩:=h;obtain⟨b,eb,rfl⟩:=Yqg e;obtain⟨dx,dy,h1,h2,h3⟩:=Yqf eb;exact tCof.at h1 s λv H1 G1 g1 r1 s1=>tCof.at h2 s1 λu H2 G2 g2 r2 s2=>hr v u dx dy b H2 G2 _ h3 s2.seen (r1.grow g2) r2 (h _ H2 G2 (g1.trans g2) (by rw[Rp]))
theorem Ypi(ho:OpR X (binaryOp op) r)(hr:Sem2 X.K r g)(ha:MC X a fa)(hb:MC X b fb):ME X (.BinOp a op b pos) (b2 fa fb g):=PE.imp (Yabb ho ha hb) λ_ _ _ h=>y7b hr h
theorem Ymi(ho:OpR X (compareOp op) r)(hr:Yf0 X.K r g)(ha:MC X a fa)(hb:MC X b fb)(hm:behindInMarks op b=false):ME X (.Compare a [op] [b] pos) (mB (b2 fa fb g)):=PE.imp (y0i ho ha hb hm) λ_ _ _ h=>y4s hr h
theorem Yh9(ho:OpR X (compareOp op) r)(hr:Yf0 X.K r g)(ha:MC X a fa)(hb:MC X b fb)(hm:behindInMarks op b=false):MT X (.Compare a [op] [b] pos) (b2 fa fb g):=PT.imp (Yp5 ho ha hb hm) λ_ _ _ h=>y8i hr h
theorem Yabx(hi:IxR X r)(hr:Sem2 X.K r g)(ha:MC X a fa)(hb:MC X b fb)(hs:Yip b):ME X (.Subscript a b pos) (b2 fa fb g):=PE.imp (Yabn hi ha hb hs) λ_ _ _ h=>y7b hr h
def i2(C:Int->Int->Bool)(g:Int->Int->Int):D->D->Option D
 | .int i,.int j=>if C i j=true then some (.int (g i j))else none
 | _,_=>none
def i2b(g:Int->Int->Bool):D->D->Option Bool
 | .int i,.int j=>some (g i j)
 | _,_=>none
theorem y04(hC:∀i j,Cb i j=true->C i j):Sem2 K (rI C λi j=>.int (g i j)) (i2 Cb g):=by
 intro x y dx dy d H G Q h s rx ry q;unfold i2 at h
 split at h
 ·split at h
  ·rename_i i j hc
   cases h;rw[Ct]at rx ry;subst rx;subst ry;exact⟨i,j,rfl,rfl,hC i j hc,q _ H G (.refl s) (by rw[Rp])⟩
  ·cases h
 ·cases h
theorem y05:Sem2 K (rI0 λi j=>.int (g i j)) (i2 (λ_ _=>true) g):=by
 intro x y dx dy d H G Q h s rx ry q;unfold i2 at h
 split at h
 ·split at h
  ·rename_i i j hc
   cases h;rw[Ct]at rx ry;subst rx;subst ry;exact⟨i,j,rfl,rfl,q _ H G (.refl s) (by rw[Rp])⟩
  ·cases h
 ·cases h
theorem Yis:Yf0 K (rI0 λi j=>.bl (g i j)) (i2b g):=by
 intro x y dx dy d H G Q h s rx ry q;unfold i2b at h
 split at h
 ·rename_i i j
  cases h;rw[Ct]at rx ry;subst rx;subst ry;exact⟨i,j,rfl,rfl,q⟩
 ·cases h
def addI:D->D->Option D:=i2 (λ_ _=>true) λi j=>i+j
def subI:D->D->Option D:=i2 (λ_ _=>true) λi j=>i-j
def mulI:D->D->Option D:=i2 (λi j=>(decide (-(2^64)<i)&&decide (i<2^64))||(decide (-(2^64)<j)&&decide (j<2^64))) λi j=>i*j
def divI:D->D->Option D:=i2 (λ_ j=>decide (0<j)&&decide (j<1073741824)) λi j=>i/j
def modI:D->D->Option D:=i2 (λ_ j=>decide (0<j)) λi j=>i%j
def ltI:=i2b λi j=>decide (i<j)
def leI:=i2b λi j=>decide (i<=j)
def gtI:=i2b λi j=>decide (j<i)
def geI:=i2b λi j=>decide (j<=i)
mutual
def dep:D->Nat
 | .tup l=>depL l+1
 | .lst l=>depL l+1
 | .scr _=>1
 | .dct _ _ _=>1000
 | .obj _ _ _=>1000
 | .adr _=>1000
 | _=>0
def depL:AQ->Nat
 | []=>0
 | d::l=>max (dep d) (depL l)
end
mutual
theorem Yfl:∀d:D,(toPy d).depth<=dep d
 | .non=>by simp[toPy,PyData.depth,dep]
 | .bl b=>by simp[toPy,PyData.depth,dep]
 | .int b=>by simp[toPy,PyData.depth,dep]
 | .str b=>by simp[toPy,PyData.depth,dep]
 | .tup l=>by have:=Yec l;simp[toPy,PyData.depth,dep];lia
 | .lst l=>by have:=Yec l;simp[toPy,PyData.depth,dep];lia
 | .scr ns=>by rw[toPy,PyData.depth,dep,W.ke_depthAll];grind
 | .dct _ _ _=>by simp[toPy,PyData.depth,dep]
 | .obj _ _ _=>by simp[toPy,PyData.depth,dep]
 | .adr _=>by simp[toPy,PyData.depth,dep]
theorem Yec:∀l:AQ,PyData.depthAll (Yeb l)<=depL l
 | []=>by simp[Yeb,PyData.depthAll,depL]
 | d::l=>by have h1:=Yfl d;have h2:=Yec l;simp[Yeb,PyData.depthAll,depL];lia
end
section
variable {pins:AB}{σ:L2.St}{H:Hp}{s:Shared}
mutual
theorem Ydz(I:Inv X pins σ H s):∀{d:D}{v:V}{u:Value},dep d<=100->Rp X.K H d v->RelV v u->∃as,Reads s.heap u (toPy d) as/\(toPy d).canLay0=true
 | .non,v,u,_,r,q=>by
   rw[Rp]at r;subst r;cases q;exact⟨_,by rw[toPy];exact .none,by simp[toPy,PyData.canLay0]⟩
 | .bl b,v,u,_,r,q=>by
   rw[Rp]at r;subst r;cases q;exact⟨_,by rw[toPy];exact .bool b,by simp[toPy,PyData.canLay0]⟩
 | .int i,v,u,_,r,q=>by
   rw[Rp]at r;subst r;obtain⟨t,rfl⟩:=q;exact⟨_,by rw[toPy];exact .int i t,by simp[toPy,PyData.canLay0]⟩
 | .str x,v,u,_,r,q=>by
   rw[Rp]at r;obtain⟨rfl,hx⟩:=r;obtain⟨t,rfl⟩:=q;exact⟨_,by rw[toPy];exact .str x t,by simp[toPy,PyData.canLay0,hx]⟩
 | .tup l,v,u,hd,r,q=>by
   rw[Rp]at r;obtain⟨a,xs,rfl,g,rl⟩:=r;cases q
   obtain⟨_,its,rv,ht⟩:=(show ObjOk X.prog X.w H s.heap a (.tup xs) from I.hok a _ g)
   obtain⟨o,h1,h2,n,h3⟩:=ht;obtain⟨as,q,hc⟩:=Ymj I (by simp only[dep]at hd;lia) rl rv;exact⟨_,by rw[toPy];exact .tuple h1 h2 h3 (by simpa using q),by simpa [toPy,PyData.canLay0]using hc⟩
 | .lst l,v,u,hd,r,q=>by
   rw[Rp]at r;obtain⟨a,xs,rfl,g,rl⟩:=r;cases q;obtain⟨its,rv,pl,_⟩:=I.list (.inl g);obtain⟨o,h1,h2,n,h3⟩:=pl.isList;obtain⟨as,q,hc⟩:=Ymj I (by simp only[dep]at hd;lia) rl rv;exact⟨_,by rw[toPy];exact .list h1 h2 h3 (by simpa using q),by simpa [toPy,PyData.canLay0]using hc⟩
 | .dct _ _ _,v,u,hd,r,q=>by simp[dep]at hd
 | .obj _ _ _,v,u,hd,r,q=>by simp[dep]at hd
 | .adr _,v,u,hd,r,q=>by simp[dep]at hd
 | .scr ns,v,u,_,r,q=>by
   rw[Rp]at r;obtain⟨a,rfl,g⟩:=r;cases q;obtain⟨its,rv,pl,_⟩:=I.list g;exact⟨_,by rw[toPy];exact W.reads_of_ints pl.isList (Ykn rv),by rw[toPy];simp[PyData.canLay0,W.ke_canLayAll0]⟩
theorem Ymj(I:Inv X pins σ H s):∀{l:AQ}{xs:AN}{us:AC},depL l<=100->RpL X.K H l xs->Vals xs us->∃as,ReadsAll s.heap us (Yeb l) as/\PyData.canLayAll0 (Yeb l)=true
 | [],xs,us,_,r,q=>by
   rw[RpL]at r;subst r;cases q;exact⟨_,by rw[Yeb];exact .nil,by simp[Yeb,PyData.canLayAll0]⟩
 | d::l,xs,us,hd,r,q=>by
   rw[RpL]at r;obtain⟨x,xs,rfl,r1,r2⟩:=r;rw[depL]at hd
   cases q with
   | cons q1 q2=>
     obtain⟨as,h1,h2⟩:=Ydz I (by lia) r1 q1;obtain⟨bs,h3,h4⟩:=Ymj I (by lia) r2 q2;exact⟨_,by rw[Yeb];exact .cons h1 h3,by simp[Yeb,PyData.canLayAll0,h2,h4]⟩
end
end
theorem Yfm(l:AQ)(d:D):((Yeb l).any λy=>PyData.eqv y (toPy d))=l.any λy=>eqD y d:=by
 induction l with
 | nil=>simp[Yeb]
 | cons e l ih=>
   rw[Yeb,List.any_cons,List.any_cons,ih];rfl
def eqM(neg:Bool):D->D->Option Bool:=λd e=>if dep d<=60/\dep e<=60 then some (if neg then !eqD d e else eqD d e)else none
def rEqD(K:W.Frag)(neg:Bool):R2:=λx y H Q=>∃d e,Rp K H d x/\Rp K H e y/\(dep d<=60/\dep e<=60)/\Q (.bl (if neg then !eqD d e else eqD d e)) H
theorem y7c(hu:X.A.units+64<cLine):OpR X (compareOp .Eq) (rEqD X.K false):=by
 intro pins s σ H x y v u Q I rx ry h;obtain⟨d,e,r1,r2,hd,q⟩:=h;obtain⟨as,h1,h2⟩:=Ydz I (by lia) r1 rx;obtain⟨bs,h3,h4⟩:=Ydz I (by lia) r2 ry;exact SeqAt.eqOverData X.prog X.w X.A X.xe s v u _ _ as bs _ h1 h3 h2 h4 (by have:=Yfl d;grind) ⟨.bl _,H,I,rfl,by exact q⟩
theorem y06(hu:X.A.units+64<cLine):OpR X (compareOp .NotEq) (rEqD X.K true):=by
 intro pins s σ H x y v u Q I rx ry h;obtain⟨d,e,r1,r2,hd,q⟩:=h;obtain⟨as,h1,h2⟩:=Ydz I (by lia) r1 rx;obtain⟨bs,h3,h4⟩:=Ydz I (by lia) r2 ry;exact SeqAt.neOverData X.prog X.w X.A X.xe s v u _ _ as bs _ h1 h3 h2 h4 (by have:=Yfl d;grind) ⟨.bl _,H,I,rfl,by exact q⟩
theorem Ymk:Yf0 K (rEqD K neg) (eqM neg):=by
 intro x y dx dy b H G Q h s rx ry q;unfold eqM at h
 split at h
 ·cases h
  exact⟨dx,dy,rx.rp s,ry.rp s,by assumption,q⟩
 ·cases h
def Yr:D->Option AQ
 | .tup l=>some l
 | .lst l=>some l
 | .scr ns=>some (ns.map D.int)
 | _=>none
def inD(d:D)(l:AQ):Bool:=l.any λy=>eqD y d
def inM(neg:Bool):D->D->Option Bool:=λd c=>(Yr c).bind λl=>if depL l<=60/\dep d<=60 then some (if neg then !inD d l else inD d l)else none
def rInD(K:W.Frag)(neg:Bool):R2:=λx y H Q=>∃d c l,Rp K H d x/\Rp K H c y/\Yr c=some l/\(depL l<=60/\dep d<=60)/\Q (.bl (if neg then !inD d l else inD d l)) H
theorem Yax{c:D}(h:Yr c=some l):c=.tup l\/c=.lst l\/∃ns,c=.scr ns/\l=ns.map D.int:=by
 cases c with
 | tup m=>cases h;grind
 | lst m=>cases h;grind
 | scr ns=>cases h;grind
 | non=>cases h
 | bl _=>cases h
 | int _=>cases h
 | str _=>cases h
 | dct _ _ _=>cases h
 | obj _ _ _=>cases h
 | adr _=>cases h
theorem Ykp:∀ns:AG,Yeb (ns.map D.int)=ns.map PyData.int
 | []=>by simp[Yeb]
 | n::ns=>by simp[Yeb,toPy,Ykp ns]
theorem y7d(hu:X.A.units+64<cLine):OpR X (compareOp .In) (rInD X.K false):=by
 intro pins s σ H x y v u Q I rx ry h;obtain⟨d,c,l,r1,r2,hc,hd,q⟩:=h;obtain⟨as,h1,h2⟩:=Ydz I (by lia) r1 rx
 have hdc:dep c<=61:=by
  rcases Yax hc with rfl|rfl|⟨ns,rfl,rfl⟩
  ·rw[dep];lia
  ·rw[dep];lia
  ·rw[dep];lia
 obtain⟨bs,h3,h4⟩:=Ydz I (by lia) r2 ry;have hdd:=Yfl d;have hdl:=Yec l;rcases Yax hc with rfl|rfl|⟨ns,rfl,rfl⟩
 ·rw[toPy]at h3 h4
  exact SeqAt.in_tuple_reads h3 h1 (by simpa [PyData.canLay0]using h4) h2 (by lia) ⟨.bl _,H,I,rfl,by rw[Yfm];exact q⟩
 ·rw[toPy]at h3 h4
  exact SeqAt.in_list_reads h3 h1 (by simpa [PyData.canLay0]using h4) h2 (by lia) ⟨.bl _,H,I,rfl,by rw[Yfm];exact q⟩
 ·rw[toPy,<-Ykp]at h3 h4
  exact SeqAt.in_list_reads h3 h1 (by simpa [PyData.canLay0]using h4) h2 (by lia) ⟨.bl _,H,I,rfl,by rw[Yfm];exact q⟩
theorem y07(hu:X.A.units+64<cLine):OpR X (compareOp .NotIn) (rInD X.K true):=by
 intro pins s σ H x y v u Q I rx ry h;obtain⟨d,c,l,r1,r2,hc,hd,q⟩:=h;obtain⟨as,h1,h2⟩:=Ydz I (by lia) r1 rx
 have hdc:dep c<=61:=by
  rcases Yax hc with rfl|rfl|⟨ns,rfl,rfl⟩
  ·rw[dep];lia
  ·rw[dep];lia
  ·rw[dep];lia
 obtain⟨bs,h3,h4⟩:=Ydz I (by lia) r2 ry;have hdd:=Yfl d;have hdl:=Yec l;rcases Yax hc with rfl|rfl|⟨ns,rfl,rfl⟩
 ·rw[toPy]at h3 h4
  exact SeqAt.notIn_tuple_reads h3 h1 (by simpa [PyData.canLay0]using h4) h2 (by lia) ⟨.bl _,H,I,rfl,by rw[Yfm];exact q⟩
 ·rw[toPy]at h3 h4
  exact SeqAt.notIn_list_reads h3 h1 (by simpa [PyData.canLay0]using h4) h2 (by lia) ⟨.bl _,H,I,rfl,by rw[Yfm];exact q⟩
 ·rw[toPy,<-Ykp]at h3 h4
  exact SeqAt.notIn_list_reads h3 h1 (by simpa [PyData.canLay0]using h4) h2 (by lia) ⟨.bl _,H,I,rfl,by rw[Yfm];exact q⟩
theorem Yu1:Yf0 K (rInD K neg) (inM neg):=by
 intro x y dx dy b H G Q h s rx ry q;unfold inM at h;obtain⟨l,h1,h⟩:=qa h
 split at h
 ·cases h
  exact⟨dx,dy,l,rx.rp s,ry.rp s,h1,by assumption,q⟩
 ·cases h
end
end
section
variable {K:W.Frag}
section
variable {X:Cx}{a b c e:Expr}{es:AL}{fa fb f:AV}{fc fd:AU}{ga:AW}{pos:Pos}{rest:AL}
def truD:D->Option Bool
 | .non=>some false
 | .bl b=>some b
 | .int i=>some (i != 0)
 | .tup l=>some (!l.isEmpty)
 | .lst l=>some (!l.isEmpty)
 | .scr ns=>some (!ns.isEmpty)
 | .str _=>none
 | .dct _ _ _=>none
 | .obj _ _ _=>none
 | .adr _=>none
theorem y8j(h:truD d=some k)(r:Ct X.K G H d v):TruV X.K v H k:=by
 cases d with
 | non=>rw[Ct]at r;subst r;cases h;rfl
 | bl b=>rw[Ct]at r;subst r;cases h;rfl
 | int i=>rw[Ct]at r;subst r;cases h;rfl
 | str x=>cases h
 | dct _ _ _=>cases h
 | obj _ _ _=>cases h
 | adr _=>cases h
 | tup l=>
   rw[Ct]at r;obtain⟨a,xs,rfl,g,rl⟩:=r;cases h;refine .inr (.inl ⟨xs,.inl (.inl g.1),?_⟩);have:=rl.length;grind
 | lst l=>
   rw[Ct]at r;obtain⟨a,xs,rfl,g,rl⟩:=r;cases h;refine .inl ⟨xs,.inl g,?_⟩;have:=rl.length;grind
 | scr ns=>
   rw[Ct]at r;obtain⟨a,rfl,g⟩:=r;cases h;refine .inl ⟨_,g,?_⟩;cases ns<;>simp
def andT(fc fd:AU):AU:=λρ=>(fc ρ).bind λk=>if k=true then fd ρ else some false
def orT(fc fd:AU):AU:=λρ=>(fc ρ).bind λk=>if k=true then some true else fd ρ
def notT(fc:AU):AU:=λρ=>(fc ρ).map (!·)
abbrev MW(X:Cx)(e:Expr)(f:AU):Prop:=PW X e (tTof X.K f)
theorem PW.imp(h:PW X e t)(i:∀σ H Q,t' σ H Q->t σ H Q):PW X e t':=λwhole pins s σ H Q I hw=>h whole pins s σ H Q I (i σ H Q hw)
theorem y8l(h:tTof K (andT fc fd) σ H Q):tAnd (tTof K fc) (tTof K fd) σ H Q:=by
 obtain⟨ρ,k,H0,G0,G,e,s,h⟩:=h;unfold andT at e;obtain⟨k1,h1,e⟩:=qa e;refine tTof.at h1 s λH1 G1 g1 s1=>?_
 cases k1 with
 | true=>
   rw[if_pos rfl]at e ⊢;exact tTof.at e s1 λH2 G2 g2 _=>h H2 G2 (g1.trans g2)
 | false=>
   grind
theorem Yab5(h:tTof K (orT fc fd) σ H Q):tOr (tTof K fc) (tTof K fd) σ H Q:=by
 obtain⟨ρ,k,H0,G0,G,e,s,h⟩:=h;unfold orT at e;obtain⟨k1,h1,e⟩:=qa e;refine tTof.at h1 s λH1 G1 g1 s1=>?_
 cases k1 with
 | false=>
   rw[if_neg qi]at e ⊢;exact tTof.at e s1 λH2 G2 g2 _=>h H2 G2 (g1.trans g2)
 | true=>
   grind
def blD:D->Option Bool
 | .bl b=>some b
 | _=>none
theorem Yw7(h:blD d=some k):d=.bl k:=by cases d<;>simp[blD]at h;subst h;rfl
def andV(fa fb:AV):AV:=λρ=>(b1 fa blD ρ).bind λk=>if k=true then fb ρ else some (.bl false)
def notV(fa:AV):AV:=λρ=>(b1 fa blD ρ).map λk=>.bl (!k)
def ifV(fc:AU)(fa fb:AV):AV:=λρ=>(fc ρ).bind λk=>if k=true then fa ρ else fb ρ
def Ysz:D->Bool
 | .non=>true
 | _=>false
theorem Yw8(r:Ct K G H d v):decide (v=V.non)=Ysz d:=by
 cases d with
 | non=>rw[Ct]at r;subst r;rfl
 | bl _=>rw[Ct]at r;subst r;rfl
 | int _=>rw[Ct]at r;subst r;rfl
 | str _=>rw[Ct]at r;obtain⟨rfl,_⟩:=r;rfl
 | tup _=>rw[Ct]at r;obtain⟨_,_,rfl,_⟩:=r;rfl
 | lst _=>rw[Ct]at r;obtain⟨_,_,rfl,_⟩:=r;rfl
 | scr _=>rw[Ct]at r;obtain⟨_,rfl,_⟩:=r;rfl
 | dct _ _ _=>rw[Ct]at r;obtain⟨_,_,_,rfl,_⟩:=r;rfl
 | obj _ _ _=>rw[Ct]at r;obtain⟨_,_,_,_,rfl,_⟩:=r;rfl
 | adr _=>rw[Ct]at r;subst r;rfl
def isN(neg:Bool):D->D->Option Bool:=λd e=>if Ysz e then some (if neg then !Ysz d else Ysz d)else none
theorem y08:Yf0 K (λx y H Q=>y=.non/\Q (.bl (decide (x=.non))) H) (isN false):=by
 intro x y dx dy b H G Q h s rx ry q;unfold isN at h
 split at h
 ·rename_i hn
  cases h;cases dy<;>simp[Ysz]at hn;rw[Ct]at ry;exact⟨ry,by rw[Yw8 rx];exact q⟩
 ·cases h
theorem Yw9:Yf0 K (λx y H Q=>y=.non/\Q (.bl (!decide (x=.non))) H) (isN true):=by
 intro x y dx dy b H G Q h s rx ry q;unfold isN at h
 split at h
 ·rename_i hn
  cases h;cases dy<;>simp[Ysz]at hn;rw[Ct]at ry;exact⟨ry,by rw[Yw8 rx];exact q⟩
 ·cases h
def ixD:D->D->Option D
 | c,.int i=>(Yr c).bind λl=>atI l i
 | _,_=>none
theorem y09(r:RpL K G l xs)(h:atI l i=some d):∃x,atI xs i=some x/\Rp K G d x:=by
 unfold atI at h ⊢;rw[r.length];obtain⟨j,h1,h2⟩:=qa h;obtain⟨x,h3,h4⟩:=r.get h2;grind
theorem Yacc:Sem2 X.K (rIx X.K) ixD:=by
 intro x y dx dy d H G Q h s rx ry q;unfold ixD at h
 split at h
 ·rename_i c i
  obtain⟨l,h1,h2⟩:=qa h;rw[Ct]at ry;subst ry;rcases Yax h1 with rfl|rfl|⟨ns,rfl,rfl⟩
  ·rw[Ct]at rx
   obtain⟨p,xs,rfl,g,rl⟩:=rx;obtain⟨v,h3,h4⟩:=y09 rl h2;exact .inr (.inl ⟨p,xs,i,v,rfl,rfl,.inl (.inl g.1),h3,q v H G (.refl s) h4⟩)
  ·rw[Ct]at rx
   obtain⟨p,xs,rfl,g,rl⟩:=rx;obtain⟨v,h3,h4⟩:=y09 rl h2;exact .inl ⟨p,xs,i,v,rfl,rfl,.inl g,h3,q v H G (.refl s) h4⟩
  ·rw[Ct]at rx
   obtain⟨p,rfl,g⟩:=rx;obtain⟨v,h3,h4⟩:=y09 (G:=G) (K:=X.K) (.ints ns) h2;exact .inl ⟨p,_,i,v,rfl,rfl,g,h3,q v H G (.refl s) h4⟩
 ·cases h
def intD:D->Option Int
 | .int i=>some i
 | _=>none
def optI(f:Option AV):Ro->Option (Option Int):=λρ=>match f with
 | none=>some none
 | some f=>(b1 f intD ρ).map some
def cutD(l:AQ)(lo hi:Option Int):AQ:=(l.drop (HT.sIx l.length 0 lo)).take (HT.sIx l.length l.length hi-HT.sIx l.length 0 lo)
def lstD:D->Option AQ
 | .lst l=>some l
 | .scr ns=>some (ns.map D.int)
 | _=>none
theorem Ys0(h:lstD d=some l)(r:Ct K G H d v):∃p xs,v=.ref p/\SqL K H p xs/\RpL K G l xs:=by
 cases d with
 | lst m=>
   cases h;rw[Ct]at r;obtain⟨p,xs,e,g,q⟩:=r;exact⟨p,xs,e,.inl g,q⟩
 | scr ns=>
   cases h;rw[Ct]at r;obtain⟨p,e,g⟩:=r;exact⟨p,_,e,g,.ints ns⟩
 | non=>cases h
 | bl _=>cases h
 | int _=>cases h
 | str _=>cases h
 | tup _=>cases h
 | dct _ _ _=>cases h
 | obj _ _ _=>cases h
 | adr _=>cases h
def slF(fa:AV)(lo hi:Option AV):AW:=λρ=>(b1 fa lstD ρ).bind λl=>(optI lo ρ).bind λi=>(optI hi ρ).bind λj=>some (cutD l i j)
abbrev tO(K:W.Frag)(f:Option AV):TO:=match f with
 | none=>y0s
 | some f=>Yabl (tCof K f)
theorem y4t{f:Option AV}(e:optI f ρ=some i)(s:SR K H0 G0 σ H G ρ)(h:∀H' G',Gr H G H' G'->SR K H0 G0 σ H' G' ρ->Q i H'):tO K f σ H Q:=by
 cases f with
 | none=>
   cases e;exact h H G (.refl s.seen) s
 | some f=>
   obtain⟨k,h1,rfl⟩:=qc e;obtain⟨d,h2,h3⟩:=Yaw h1
   refine tCof.at h2 s λv H1 G1 g1 r1 s1=>⟨k,?_,h H1 G1 g1 s1⟩
   cases d<;>simp[intD]at h3;subst h3;rw[Ct]at r1;exact r1
theorem Yafa:PO X none (tO X.K none):=y0t
def lF(f:AW):AV:=λρ=>(f ρ).map D.lst
theorem MF.me(h:MF X e g):ME X e (lF g):=PE.imp h λσ H Q hx_=>by
 obtain⟨ρ,d,H0,G0,G,e,s,h⟩:=hx_;obtain⟨l,h1,rfl⟩:=qc e
 exact⟨ρ,l,H0,G0,G,h1,s,λp xs H' G' g hp gp e' r=>h _ H' _ (g.show hp gp e') (by
  rw[Rp];refine⟨p,xs,rfl,.inl Yy,r.mono λb o q=>?_⟩
  rw[Yx (y4 q gp)];exact q)⟩
def aNil:AW:=λ_=>some []
def Yg(f:AV)(g:AW):AW:=λρ=>(f ρ).bind λd=>(g ρ).map (d::·)
theorem y7e:MA X [] aNil:=PA.imp Yer λσ H Q hx_=>by
 obtain⟨ρ,l,H0,G0,G,e,s,h⟩:=hx_;cases e;exact h [] H G (.refl s.seen) .nil
theorem y1a(ha:ME X e f)(hr:MA X es ga)(hs:starEach (e::es) X.env=(false,eval e X.env)::starEach es X.env:=by rfl):MA X (e::es) (Yg f ga):=PA.imp (Yb7 ha hr hs) λσ H Q hx_=>by
 obtain⟨ρ,l,H0,G0,G,e,s,h⟩:=hx_;unfold Yg at e;obtain⟨d,h1,e⟩:=qa e;obtain⟨l',h2,rfl⟩:=qc e;exact tOf.at h1 s λv H1 G1 g1 r1 s1=>tAof.at h2 s1 λvs H2 G2 g2 r2 _=>h (v::vs) H2 G2 (g1.trans g2) (.cons (r1.mono g2.g) r2)
theorem Yu2:MCA X [] aNil:=PA.imp Yer λσ H Q hx_=>by
 obtain⟨ρ,l,H0,G0,G,e,s,h⟩:=hx_;cases e;exact h [] H G (.refl s.seen) rfl
theorem Yqh(ha:MC X e f)(hr:MCA X es ga)(hs:starEach (e::es) X.env=(false,eval e X.env)::starEach es X.env:=by rfl):MCA X (e::es) (Yg f ga):=PA.imp (Yb7 ha hr hs) λσ H Q hx_=>by
 obtain⟨ρ,l,H0,G0,G,e,s,h⟩:=hx_;unfold Yg at e;obtain⟨d,h1,e⟩:=qa e;obtain⟨l',h2,rfl⟩:=qc e;exact tCof.at h1 s λv H1 G1 g1 r1 s1=>tCAof.at h2 s1 λvs H2 G2 g2 r2 _=>h (v::vs) H2 G2 (g1.trans g2) ⟨v,vs,rfl,r1.grow g2,r2⟩
def cap6:Nat:=1000000
theorem Yit(h:n<=cap6):n<=sizeLine:=Qb h (by rw[jj];decide)
def dTup(ga:AW):AV:=λρ=>(ga ρ).bind λl=>if l.length<=cap6 then some (.tup l)else none
def dLst(ga:AW):AW:=λρ=>(ga ρ).bind λl=>if l.length<=cap6 then some l else none
def cC(ga:AW)(g:AQ->Option D):AV:=λρ=>(ga ρ).bind g
def cF(ga:AW)(g:AQ->Option AQ):AW:=λρ=>(ga ρ).bind g
theorem y7f(hr:SemC K r g)(h:tOf K (cC ga g) σ H Q):tCB r (tCAof K ga) σ H Q:=by
 obtain⟨ρ,d,H0,G0,G,e,s,h⟩:=h;unfold cC at e;obtain⟨l,h1,h2⟩:=qa e;exact tCAof.at h1 s λvs H1 G1 g1 r1 s1=>hr vs l d H1 G1 Q h2 s1.seen r1 λv H' G' g2 r2=>h v H' G' (g1.trans g2) r2
theorem y1b(hr:SemF K r g)(h:tFof K (cF ga g) σ H Q):tCB r (tCAof K ga) σ H Q:=by
 obtain⟨ρ,d,H0,G0,G,e,s,h⟩:=h;unfold cF at e;obtain⟨l,h1,h2⟩:=qa e;exact tCAof.at h1 s λvs H1 G1 g1 r1 s1=>hr vs l d H1 G1 Q h2 s1.seen r1 λp xs H' G' g2 hp gp e' r2=>h p xs H' G' (g1.trans g2) (g1.h.free hp) gp e' r2
section
variable {x:Str}{p:Pos}{id T:String}{r:AN->Hp->VK->Prop}{g:AQ->Option D}{gf:AQ->Option AQ}
end
def spOf(K:W.Frag)(n:Nat)(fn:AQ->Option D):Sp:=λvs H Q _=>vs.length=n/\∃ds d G,Same G H/\RpL K G ds vs/\fn ds=some d/\∀v H' G',Gr H G H' G'->Rp K G' d v->Q v H'
theorem y8q{p:Pos}(F:FnOk X.prog X.w X.K X.mg X.base CX0 k fa' fd' ps (spOf X.K n fn))(hr:Room k X.A)(hg:Gl X x)(hm:X.mg x=some (.ref fa'))(hk:W.keepIn X.K (.ref fa')=true)(hb:Binds X.K fd' ps [])
 (ha:MA X (e::es) ga) (hdb:Ndb x:=by decide) (he:starEach (e::es) X.env=(false,eval e X.env)::starEach es X.env:=by rfl) (hpl:(backTo pos (starEach es X.env)).any (·.1)=false:=by rfl)
 (hl:∀ρ l,ga ρ=some l->l.length=n):ME X (.Call (.Name x p) (e::es) [] pos) (cC ga fn):=
 PE.imp (y0o (E:=E0) F hr hg hm hk hb .nil Yuy ha hdb he hpl) λσ H Q hx_=>by
  obtain⟨ρ,d,H0,G0,G,e,s,h⟩:=hx_;unfold cC at e;obtain⟨l,h1,h2⟩:=qa e;refine tAof.at h1 s λvs H1 G1 g1 r1 s1=>?_;rw[jb];exact⟨by rw[r1.length];grind,l,d,G1,s1.seen,r1,h2,λv H' G' g2 r2=>h v H' G' (g1.trans g2) r2⟩
theorem y4x(h:aNil ρ=some l):l.length=0:=by cases h;rfl
theorem Ygx(hg:∀ρ l,g ρ=some l->l.length=n):∀ρ l,Yg f g ρ=some l->l.length=n+1:=λρ l h=>by
 unfold Yg at h;obtain⟨d,h1,e⟩:=qa h;obtain⟨l',h2,rfl⟩:=qc e;grind
def lenC:AQ->Option D
 | [c]=>(Yr c).map λl=>.int l.length
 | _=>none
theorem y1e{c:D}(h:Yr c=some l)(r:Ct K G H c v):∃p xs,v=.ref p/\(SqL K H p xs\/SqT K H p xs)/\RpL K G l xs:=by
 rcases Yax h with rfl|rfl|⟨ns,rfl,rfl⟩
 ·rw[Ct]at r
  obtain⟨p,xs,rfl,g,rl⟩:=r;exact⟨p,xs,rfl,.inr (.inl (.inl g.1)),rl⟩
 ·rw[Ct]at r
  obtain⟨p,xs,rfl,g,rl⟩:=r;exact⟨p,xs,rfl,.inl (.inl g),rl⟩
 ·rw[Ct]at r
  obtain⟨p,rfl,g⟩:=r;exact⟨p,_,rfl,.inl g,.ints ns⟩
theorem Ykq(h:RpL K G [d] vs):∃v,vs=[v]/\Rp K G d v:=by
 rw[RpL]at h;obtain⟨x,r,rfl,h1,h2⟩:=h;rw[RpL]at h2;grind
theorem Yci(h:CtL K G H [d] vs):∃v,vs=[v]/\Ct K G H d v:=by
 obtain⟨x,r,rfl,h1,h2⟩:=h;cases (show r=[] from h2);grind
theorem Yai:SemC X.K (λxs H Q=>∃p ys,xs=[.ref p]/\(SqL X.K H p ys\/SqT X.K H p ys)/\Q (.int ys.length) H) lenC:=by
 intro vs ds d H G Q h s r q
 match ds,h,r with
 | [c],h,r=>
   obtain⟨l,h1,rfl⟩:=qc h;obtain⟨v,rfl,rv⟩:=Yci r;obtain⟨p,xs,rfl,h2,rl⟩:=y1e (K:=X.K) h1 rv;exact⟨p,xs,rfl,h2,q _ H G (.refl s) (by rw[Rp,rl.length])⟩
def Yy1:AQ->Option AQ
 | [c]=>Yr c
 | _=>none
theorem Yqi:SemF X.K (λxs H Q=>∃p ys,xs=[.ref p]/\(SqL X.K H p ys\/SqT X.K H p ys)/\∀l,H l=none->Q (.ref l) (upd H l (.lst ys))) Yy1:=by
 intro vs ds l H G Q h s r q
 match ds,h,r with
 | [c],h,r=>
   obtain⟨v,rfl,rv⟩:=Yci r;obtain⟨p,xs,rfl,h2,rl⟩:=y1e (K:=X.K) h rv;exact⟨p,xs,rfl,h2,λm hm=>q m xs _ G (.hid s hm _) hm (s.free hm) Yy rl⟩
def tupC:AQ->Option D
 | [c]=>(Yr c).map D.tup
 | _=>none
theorem Ydp:SemC X.K (λxs H Q=>∃p ys,xs=[.ref p]/\((SqL X.K H p ys/\∀l,H l=none->Q (.ref l) (upd H l (.tup ys)))\/(SqT X.K H p ys/\Q (.ref p) H))) tupC:=by
 intro vs ds d H G Q h s r q
 match ds,h,r with
 | [c],h,r=>
   obtain⟨l,h1,rfl⟩:=qc h;obtain⟨v,rfl,rv⟩:=Yci r;rcases Yax h1 with rfl|rfl|⟨ns,rfl,rfl⟩
   ·rw[Ct]at rv
    obtain⟨p,xs,rfl,g,rl⟩:=rv;exact⟨p,xs,rfl,.inr ⟨.inl (.inl g.1),q _ H G (.refl s) (by rw[Rp];grind)⟩⟩
   ·rw[Ct]at rv
    obtain⟨p,xs,rfl,g,rl⟩:=rv;refine⟨p,xs,rfl,.inl ⟨.inl g,λm hm=>q _ _ _ (.new s hm (.tup xs)) ?_⟩⟩;rw[Rp];exact⟨m,xs,rfl,Yy,rl.mono (Gr.new s hm (.tup xs)).g⟩
   ·rw[Ct]at rv
    obtain⟨p,rfl,g⟩:=rv;refine⟨p,_,rfl,.inl ⟨g,λm hm=>q _ _ _ (.new s hm (.tup _)) ?_⟩⟩;rw[Rp];exact⟨m,_,rfl,Yy,.ints ns⟩
def intC:AQ->Option D
 | [.int i]=>some (.int i)
 | [.bl k]=>some (.int (if k then 1 else 0))
 | _=>none
theorem Yu3:SemC X.K (λxs H Q=>(∃i,xs=[.int i]/\Q (.int i) H)\/∃k,xs=[.bl k]/\Q (.int (if k then 1 else 0)) H) intC:=by
 intro vs ds d H G Q h s r q
 match ds,h,r with
 | [.int i],h,r=>
   cases h;obtain⟨v,rfl,rv⟩:=Yci r;rw[Ct]at rv;subst rv;exact .inl ⟨i,rfl,q _ H G (.refl s) (by rw[Rp])⟩
 | [.bl k],h,r=>
   cases h;obtain⟨v,rfl,rv⟩:=Yci r;rw[Ct]at rv;subst rv;exact .inr ⟨k,rfl,q _ H G (.refl s) (by rw[Rp])⟩
end
end
section
variable {K:W.Frag}
section
variable {X:Cx}{e:Expr}{f:AV}{gl:AW}{pos pos':Pos}{st:Stmt}{sts:List Stmt}{fs gs:AS}
def sNil:AS:=λρ=>some (.nx ρ)
def sSeq(f g:AS):AS:=λρ=>(f ρ).bind fun
 | .nx ρ'=>g ρ'
 | o=>some o
theorem Yacf:MB X [] sNil:=PSs.imp Yuu λF σ H hx_=>by
 obtain⟨ρ,out,H0,G0,G,e,s,h⟩:=hx_;cases e;exact h σ H G s
def frz1(i:Nat)(ρ:Ro):Ro:=match ρ[i]? with
 | some (some (B.ow l))=>ρ.set i (some (.sh (.lst l)))
 | some (some (B.od t ks vs))=>ρ.set i (some (.sh (.dct t ks vs)))
 | _=>ρ
theorem SR.frz1(s:SR K H0 G0 σ H G ρ)(i:Nat):∃G',SR K H0 G0 σ H G' (M.frz1 i ρ):=by
 unfold M.frz1
 split
 ·rename_i l hl
  exact s.freeze hl
 ·rename_i t ks vs hl
  exact s.freezed hl
 grind
def frz(is:AF)(ρ:Ro):Ro:=is.foldl (λr i=>frz1 i r) ρ
theorem SR.frz:∀(is:AF) {G:Hp}{ρ:Ro},SR K H0 G0 σ H G ρ->∃G',SR K H0 G0 σ H G' (M.frz is ρ)
 | [],G,_,s=>⟨G,s⟩
 | i::is,_,ρ,s=>by
   obtain⟨G',s'⟩:=s.frz1 i;exact SR.frz is s'
theorem SR.frz1T(s:SR K H0 G0 σ H G ρ)(i:Nat):∃G',SR K H0 G0 σ H G' (M.frz1 i ρ)/\∀b ys,G' b=some (.tup ys)->G b=some (.tup ys):=by
 unfold M.frz1
 split
 ·rename_i l hl
  exact s.freezeT hl
 ·rename_i t ks vs hl
  exact s.freezedT hl
 grind
theorem SR.frzT:∀(is:AF) {G:Hp}{ρ:Ro},SR K H0 G0 σ H G ρ->∃G',SR K H0 G0 σ H G' (M.frz is ρ)/\∀b ys,G' b=some (.tup ys)->G b=some (.tup ys)
 | [],G,_,s=>⟨G,s,λ_ _ h=>h⟩
 | i::is,_,ρ,s=>by
   obtain⟨G',s',h1⟩:=s.frz1T i;obtain⟨G2,s2,h2⟩:=SR.frzT is s';exact⟨G2,s2,λb ys e=>h1 b ys (h2 b ys e)⟩
def wF(is:AF)(f:AS):AS:=λρ=>f (frz is ρ)
def sSet(i:Nat)(f:AV):AS:=λρ=>(f ρ).map λd=>.nx (ρ.set i (some (.sh d)))
def sOwn(i:Nat)(f:AW):AS:=λρ=>(f ρ).map λl=>.nx (ρ.set i (some (.ow l)))
theorem Yaci(h:sOf K (sSet i f) F σ H):tAsg (tOf K f) (Yym i) F σ H:=by
 obtain⟨ρ,out,H0,G0,G,e,s,h⟩:=h;obtain⟨d,h1,rfl⟩:=qc e;exact tOf.at h1 s λv H1 G1 g1 r1 s1=>h _ H1 G1 (s1.set_sh i r1)
theorem Yacj(h:sOf K (sOwn i gl) F σ H):tAsg (tFof K gl) (Yym i) F σ H:=by
 obtain⟨ρ,out,H0,G0,G,e,s,h⟩:=h;obtain⟨l,h1,rfl⟩:=qc e;exact⟨ρ,l,H0,G0,G,h1,s,λp xs H' G' g hp gp e' r=>h _ H' G' (s.set_ow i g hp gp e' r)⟩
def sRet(f:AV):AS:=λρ=>(f ρ).map .rt
def sIf(c:AU)(f g:AS):AS:=λρ=>(c ρ).bind λk=>if k=true then f ρ else g ρ
def sMut(i:Nat)(f:AV)(g:AQ->D->Option AQ):AS:=λρ=>(getO i ρ).bind λl=>(f ρ).bind λd=>(g l d).map λl'=>.nx (ρ.set i (some (.ow l')))
theorem y1f(s:SR K H0 G0 σ H G ρ)(h:getO i ρ=some l):∃a xs,σ[i]?=some (some (V.ref a))/\H a=some (.lst xs)/\RpL K G l xs/\G a=none:=by
 obtain⟨a,xs,h1,h2,h3,h4,h5⟩:=s.ow i l (Yjh h);grind
def appD(l:AQ)(d:D):Option AQ:=if l.length<cap6 then some (l++[d])else none
theorem y1h(hz:ds.length<=sizeLine)(h:∀(i:Nat) H2 G2,Same G' G2->Same G2 H2->(∀d,ds[i]?=some d->J.go i H2/\∀y H3,J.yld i H2 y H3->H3=H2/\Rp K G2 d y)/\(ds.length<=i->J.stop i H2)):Wk K J G' ds:=
 ⟨hz,λi H2 G2 s1 s2=>⟨λd hd=>⟨((h i H2 G2 s1 s2).1 d hd).1,λy H3 q=>by
  obtain⟨rfl,r⟩:=((h i H2 G2 s1 s2).1 d hd).2 y H3 q
  exact⟨G2,.refl s2,r⟩⟩,(h i H2 G2 s1 s2).2⟩⟩
variable {tg:Expr}
def iSeq(K:W.Frag)(tl:TE):TI:=λσ H R=>tl σ H λx H1=>∃a xs,x=.ref a/\((SqL K H1 a xs/\(xs.length<=sizeLine->R (Itl K a) H1))\/(SqT K H1 a xs/\(xs.length<=sizeLine->R (Itt K a) H1)))
theorem Yacn(hl:PE X l tl):PI X tg l (iSeq X.K tl):=by
 intro pins s σ H R I h;refine thn (hl pins s σ H _ I h) λv s1 hx_=>?_;obtain⟨x,H1,I1,r1,q1⟩:=hx_;obtain⟨a,xs,e,q1⟩:=q1;subst e;cases r1;rcases q1 with⟨hq,q⟩|⟨hq,q⟩
 ·obtain⟨its,rv,p,hz⟩:=I1.list hq
  refine wpAny_pyIter_list p.isList ?_;refine⟨~~~s1,[~~~s1],_,_,H1,rfl,I1.kept (t':=s1.toks) λb o e=>qe _ e,y0c a _,⟨_,qp _ rfl,rfl,rfl⟩,λb hb=>?_,q hz⟩
  have e:b= ~~~s1:=by grind
  subst e;exact I1.fpOk (qu _) (I1.hok.fresh (qu _))
 ·obtain⟨its,rv,p,hz⟩:=I1.tuple hq
  refine wpAny_pyIter_tuple (show s1.heap.IsTuple a its.toArray from p) ?_;refine⟨~~~s1,[~~~s1],_,_,H1,rfl,I1.kept (t':=s1.toks) λb o e=>qe _ e,Yyn a _,⟨_,qp _ rfl,rfl,rfl⟩,λb hb=>?_,q hz⟩
  have e:b= ~~~s1:=by grind
  subst e;exact I1.fpOk (qu _) (I1.hok.fresh (qu _))
def rngD(a n:Int):AQ:=(List.range (n-a).toNat).map λi=>.int (a+(i:Nat))
theorem Yml(a n:Int):(rngD a n).length=(n-a).toNat:=by simp[rngD]
theorem Yacp(hz:(n-a).toNat<=sizeLine):Wk K (Itr a (n-a).toNat) G' (rngD a n):=
 y1h (by rw[Yml];exact hz) λi H2 G2 _ _=>⟨λd hd=>by
  unfold rngD at hd;rw[Qg]at hd;obtain⟨j,h1,rfl⟩:=qc hd
  have hj:i<(n-a).toNat:=by
   grind
  rw[List.getElem?_range hj]at h1;cases h1
  exact⟨hj,λy H3 q=>⟨q.1,by rw[Rp];exact q.2⟩⟩,λhi=>by rw[Yml]at hi;exact hi⟩
def rng1:AQ->Option AQ
 | [.int n]=>if decide (-(cap6:Int)<=n)&&decide (n<=cap6)then some (rngD 0 n)else none
 | _=>none
theorem y1i(h:rng1 l=some ds):∃n:Int,l=[.int n]/\-1000000<=n/\n<=1000000/\ds=rngD 0 n:=by
 unfold rng1 at h
 split at h
 ·rename_i n
  split at h
  ·rename_i hc
   cases h;simp only[Qe,wm]at hc
   have hcap:(cap6:Int)=1000000:=by decide
   grind
  ·cases h
 ·cases h
def gSet(i:Nat):AT:=λd ρ=>some (ρ.set i (some (.sh d)))
def Yof(i j:Nat):AT:=λd ρ=>match d with
 | .tup [a,b]=>some ((ρ.set i (some (.sh a))).set j (some (.sh b)))
 | _=>none
def forM(gt:AT)(fb:AS):AQ->AS
 | [],ρ=>some (.nx ρ)
 | d::ds,ρ=>(gt d ρ).bind λρ1=>(fb ρ1).bind fun
   | .nx ρ2=>forM gt fb ds ρ2
   | .ct ρ2=>forM gt fb ds ρ2
   | .bk ρ2=>some (.nx ρ2)
   | .rt d=>some (.rt d)
def sFor(gl:AW)(gt:AT)(fb:AS):AS:=λρ=>(gl ρ).bind λds=>forM gt fb ds ρ
theorem Yiu:∀(ds:AQ) (ρ:Ro) (out:Out),forM gt fb ds ρ=some out->(∃ρ',out=.nx ρ')\/∃d,out=.rt d
 | [],ρ,out,h=>by cases h;grind
 | d::ds,ρ,out,h=>by
   rw[forM]at h;obtain⟨ρ1,h1,h⟩:=qa h;obtain⟨o,h2,h⟩:=qa h
   cases o with
   | nx ρ2=>exact Yiu ds ρ2 out h
   | ct ρ2=>exact Yiu ds ρ2 out h
   | bk ρ2=>grind
   | rt d=>grind
def capR(src:List AM)(ρ:Ro):Ro:=src.map λo=>o.bind λj=>match ρ[j]? with
 | some (some (B.sh d))=>some (.sh d)
 | _=>none
theorem SR.cap(s:SR K H0 G0 σ H G ρ)(src:List AM):SR K H G (capσ src σ) H G (capR src ρ):=by
 have noow:∀(i:Nat) l,(capR src ρ)[i]?≠some (some (B.ow l)):=λi l h=>by
  unfold capR at h;rw[Qg]at h;obtain⟨o,h1,h2⟩:=qc h;obtain⟨j,rfl,h3⟩:=qa h2
  split at h3<;>cases h3
 have nood:∀(i:Nat) t ks vs,(capR src ρ)[i]?≠some (some (B.od t ks vs)):=λi t ks vs h=>by
  unfold capR at h;rw[Qg]at h;obtain⟨o,h1,h2⟩:=qc h;obtain⟨j,rfl,h3⟩:=qa h2
  split at h3<;>cases h3
 refine SR.mkSh (.refl s.seen) (by simp[capσ,capR]) (λi d h=>?_) noow nood;unfold capR at h;rw[Qg]at h;obtain⟨o,h1,h2⟩:=qc h;obtain⟨j,rfl,h3⟩:=qa h2
 split at h3
 ·rename_i d' hd
  cases h3;obtain⟨v,q1,q2⟩:=s.sh j _ hd;refine⟨v,?_,q2⟩;unfold capσ;rw[Qg,h1];show some ((σ[j]?).join)=some (some v);rw[q1];rfl
 ·cases h3
def Yed(gt:AT)(fc:AU)(fe:AV)(ρ:Ro):AQ->Option AQ
 | []=>some []
 | d::ds=>(gt d ρ).bind λρ1=>(fc ρ1).bind λk=>if k=true then (fe ρ1).bind λv=>(Yed gt fc fe ρ ds).map (v::·)else Yed gt fc fe ρ ds
def Ybd(gl:AW)(src:List AM)(gt:AT)(fc:AU)(fe:AV):AW:=λρ=>(gl ρ).bind λds=>Yed gt fc fe (capR src ρ) ds
def tY:AU:=λ_=>some true
theorem y8u(h:tTof K tY σ H Q):tYes σ H Q:=by
 obtain⟨ρ,k,H0,G0,G,e,s,h⟩:=h;cases e;exact h H G (.refl s.seen)
theorem Yacr:PIfs X [] (tTof X.K tY):=λpins s σ H Q I h=>y79 pins s σ H Q I (y8u h)
theorem Yaj(h:src[i]?=some none):∀ρ d ρ1,gSet i d (capR src ρ)=some ρ1->Le (capR src ρ) ρ1:=λρ d ρ1 e=>by
 cases e;refine⟨by simp,λj b hb=>?_⟩;by_cases hj:j=i
 ·subst hj
  unfold capR at hb;grind
 grind
theorem y4y{src:List AM}{i k:Nat}(h:src[i]?=some none)(h':src[k]?=some none):∀ρ d ρ1,Yof i k d (capR src ρ)=some ρ1->Le (capR src ρ) ρ1:=λρ d ρ1 e=>by
 unfold Yof at e
 split at e
 ·cases e
  refine⟨by simp,λj b hb=>?_⟩
  have ne:∀n,src[n]?=some none->j≠n:=λn hn z=>by
   subst z;unfold capR at hb;rw[Qg,hn]at hb;cases hb
  rw[Qf (Ne.symm (ne k h')),Qf (Ne.symm (ne i h))];exact hb
 ·cases e
theorem y1k(hle:∀ρ d ρ1,gt d (capR src ρ)=some ρ1->Le (capR src ρ) ρ1)
 (h:tFof K (Ybd gl src gt fc fe) σ H Q):tLC (tIof K gl) src (gOf K gt) (tTof K fc) (tOf K fe) σ H Q:=by
 obtain⟨ρ,l,H0,G0,G,e,s,h⟩:=h;unfold Ybd at e;obtain⟨ds,h1,h2⟩:=qa e;refine⟨ρ,ds,H0,G0,G,h1,s,λJ H1 G1 g1 wk p hp=>?_⟩;have s1:=s.grow g1;have sc:=s1.cap src;have gp:G1 p=none:=s1.seen.free hp
 refine⟨λi m σ' H'=>m=ds.length-i/\i<=ds.length/\∃G' done xs rest,SR K H1 G1 σ' H' G' (capR src ρ)/\H' p=some (.lst xs)/\G' p=none/\RpL K G' done xs/\xs.length<=i/\Yed gt fc fe (capR src ρ) (ds.drop i)=some rest/\done++rest=l,
  ⟨_,rfl,jc _,G1,[],[],l,sc.grow (Gr.hid s1.seen hp _),Yy,gp,.nil,jc _,h2,rfl⟩,?_⟩
 rintro i m σ' H' ⟨rfl,hi,G',done,xs,rest,s',hx,gx,rx,hl,e',hd⟩;have W:=wk.2 i H' G' s'.gr.g s'.seen;by_cases hlt:i<ds.length
 ·have hdi:ds[i]?=some ds[i]:=qq hlt
  obtain⟨go,yl⟩:=W.1 _ hdi;rw[List.drop_eq_getElem_cons hlt,Yed]at e';obtain⟨ρ1,e1,e'⟩:=qa e';obtain⟨k,e2,e'⟩:=qa e';refine .inr ⟨go,λx H2 y=>?_⟩;obtain⟨G2,g2,r2⟩:=yl x H2 y
  have keep:∀{Ha Ga Hb Gb:Hp},Gr Ha Ga Hb Gb->Ha p=some (.lst xs)->Ga p=none->Hb p=some (.lst xs)/\Gb p=none:=λ{Ha Ga Hb Gb} g e1 e2=>by
   refine⟨g.h _ _ e1,?_⟩
   cases q:Gb p with
   | none=>rfl
   | some o=>
     have:=g.n p e2 (by rw[q];exact λz=>nomatch z);rw[e1]at this;cases this
  obtain⟨hx2,gx2⟩:=keep g2 hx gx;refine⟨_,capR src ρ,ρ1,H1,G1,G2,e1,s'.grow g2,r2,λσ3 s3=>?_⟩;refine tTof.at e2 s3 λH4 G4 g4 s4=>?_;obtain⟨hx4,gx4⟩:=keep g4 hx2 gx2;have le:=hle ρ _ ρ1 e1
  cases k with
  | false=>
    rw[if_neg qi]at e' ⊢;exact⟨ds.length-(i+1),by lia,rfl,hlt,G4,done,xs,rest,s4.le le,hx4,gx4,(rx.mono g2.g).mono g4.g,by lia,e',hd⟩
  | true=>
    rw[if_pos rfl]at e' ⊢;obtain⟨v,e3,e'⟩:=qa e';obtain⟨rest',e4,rfl⟩:=qc e';refine tOf.at e3 s4 λw H5 G5 g5 r5 s5=>?_;obtain⟨hx5,gx5⟩:=keep g5 hx4 gx4;have hz:=wk.1;refine⟨xs,hx5,by lia,ds.length-(i+1),by lia,rfl,hlt,G5,done++[v],xs++[w],rest',?_,Yy,gx5,(((rx.mono g2.g).mono g4.g).mono g5.g).append (.one r5),by simp;lia,e4,by simpa using hd⟩;have s6:=s5.le le
    have noow:∀(i:Nat) l,(capR src ρ)[i]?≠some (some (B.ow l)):=λi l h=>by
     unfold capR at h;rw[Qg]at h;obtain⟨o,h1,h2⟩:=qc h;obtain⟨j,rfl,h3⟩:=qa h2
     split at h3<;>cases h3
    have nood:∀(i:Nat) t ks vs,(capR src ρ)[i]?≠some (some (B.od t ks vs)):=λi t ks vs h=>by
     unfold capR at h;rw[Qg]at h;obtain⟨o,h1,h2⟩:=qc h;obtain⟨j,rfl,h3⟩:=qa h2
     split at h3<;>cases h3
    refine SR.mkSh ⟨λb o q=>?_,s6.gr.g,λb o q=>?_,s6.gr.n⟩ s6.len s6.sh noow nood
    ·rw[Yx (y4 q hp)];exact s6.gr.h b o q
    ·rw[Yx (y4 q gx5)];exact s6.gr.s b o q
 ·have ei:i=ds.length:=by lia
  subst ei;rw[List.drop_length,Yed]at e';cases e';rw[jb]at hd;subst hd;exact .inl ⟨W.2 (qu _),h p xs H' G' (g1.trans s'.gr) (g1.h.free hp) gx hx rx⟩
section
variable {elt iter:Expr}{ifs:AL}{scope:Scope}{N:AK}{src:List AM}{gt:AT}{fc:AU}{fe:AV}
theorem y8v(S:CompSc X.N X.env.scope N src scope)(hc:X.calm=true)(hit:MI X tg iter gl)(hg:∀cl C fp s H,MG (Ya3 X scope N cl C fp s H) tg gt)(hi:∀cl C fp s H,PIfs (Ya3 X scope N cl C fp s H) ifs (tTof X.K fc))(he:∀cl C fp s H,ME (Ya3 X scope N cl C fp s H) elt fe)
 (hle:∀ρ d ρ1,gt d (capR src ρ)=some ρ1->Le (capR src ρ) ρ1) (hs:∀x,foldedSetIterable iter X.env x=pure x:=by intro _;rfl):MF X (.ListComp elt [⟨tg,iter,ifs,0⟩] scope pos) (Ybd gl src gt fc fe):=
 PE.imp (y8b S hc hit hg hi he hs) λ_ _ _ h=>y1k hle h
theorem y8w(i:Nat){py spos:Pos}(hN:X.N.Nodup)(S:CompSc X.N X.env.scope N src scope)(hc:X.calm=true)(hit:MI X tg iter gl)(hg:∀cl C fp s H,MG (Ya3 X scope N cl C fp s H) tg gt)(hi:∀cl C fp s H,PIfs (Ya3 X scope N cl C fp s H) ifs (tTof X.K fc))(he:∀cl C fp s H,ME (Ya3 X scope N cl C fp s H) elt fe)
 (hle:∀ρ d ρ1,gt d (capR src ρ)=some ρ1->Le (capR src ρ) ρ1) (hsw:swapsWith (.ListComp elt [⟨tg,iter,ifs,0⟩] scope pos) (some (.Name y py)) spos.line X.env=pure true:=by rfl) (hy:X.N[i]?=some y:=by rfl) (hx:Loc X.env.scope y:=by trivial)
 (hf:X.fn y=true\/X.env.scope.names.lookup y=some .local:=by trivial) (hs:∀x,foldedSetIterable iter X.env x=pure x:=by intro _;rfl):MS X (.Assign [.Name y py] (.ListComp elt [⟨tg,iter,ifs,0⟩] scope pos) spos) (sOwn i (Ybd gl src gt fc fe)):=
 PS.imp (y8c S hc hit hg hi he hN hy hx hsw hf hs) λF σ H h=>by
  obtain⟨ρ,out,H0,G0,G,e,s,h⟩:=h;obtain⟨l,h1,rfl⟩:=qc e;exact y1k hle ⟨ρ,l,H0,G0,G,h1,s,λp xs H' G' g hp gp e' r=>h _ H' G' (s.set_ow i g hp gp e' r)⟩
end
def Yq(n:Nat)(ds:AQ):Ro:=ds.map (λd=>some (.sh d))++List.replicate (n-ds.length) none
def runB(k n:Nat)(fb:AS)(ds:AQ):Option D:=if ds.length=k then (fb (Yq n ds)).bind fun
 | .rt d=>some d
 | .nx _=>some .non
 | _=>none
 else none
theorem SR.start(s:Same G H)(r:RpL K G ds vs):SR K H G (start N vs) H G (Yq N.length ds):=by
 have hl:=r.length
 have noow:∀(i:Nat) l,(Yq N.length ds)[i]?≠some (some (B.ow l)):=λi l h=>by
  unfold Yq at h;grind
 have nood:∀(i:Nat) t ks vs,(Yq N.length ds)[i]?≠some (some (B.od t ks vs)):=λi t ks vs h=>by
  unfold Yq at h;grind
 refine SR.mkSh (.refl s) (by simp[L2.start,Yq,hl]) (λi d h=>?_) noow nood;unfold Yq at h;rw[List.getElem?_append]at h
 split at h
 ·rename_i hi
  rw[Qg]at h;obtain⟨d',h1,h2⟩:=qc h;cases h2;obtain⟨v,h3,h4⟩:=r.get h1;refine⟨v,?_,h4⟩;unfold L2.start;grind
 grind
section
variable {P:Program}{w:World}{mg:AE}{base:Heap}
theorem y1l{f:Addr}(F:Fun K x qual st f fd)(S:FnScope N ps (defScope st))(hn:N.length=n)(hm:ps.length=m)
 (hb:∀(cdv:Value) (A:Around) (outer:List Env) (s:Shared) (H:Hp) (E:XK),Room k (A.deeper (envOfC qual (defScope st) (~~~s) f cdv))->MB (cxOf CX0 P w K mg base N qual (defScope st) f cdv A outer s H E).nox (defBody st) fb) :
 FnOk P w K mg base CX0 (k+1) f fd ps (spOf K m (runB m n fb)):=by
 refine F.ok S (λvs H Q E h=>by rw[h.1,hm]) λcdv A outer s H vs Q E hr h=>?_;obtain⟨hl,ds,d,G,sm,r,e,q⟩:=h;refine⟨_,hb cdv A outer s H E hr,?_⟩;unfold runB at e
 split at e
 ·rename_i hds
  obtain⟨o,h1,h2⟩:=qa e;refine⟨Yq n ds,o,H,G,G,h1,by rw[<-hn];exact SR.start sm r,?_⟩
  cases o with
  | rt d'=>cases h2;exact λv H' G' g r'=>q v H' G' g r'
  | nx ρ=>cases h2;exact λσ' H' G' s'=>q .non H' G' s'.gr (by rw[Rp])
  | bk ρ=>cases h2
  | ct ρ=>cases h2
 ·cases e
end
end
end
section
variable {K:W.Frag}
def Okf(P:Program)(w:World)(K:W.Frag)(mg:AE)(base:Heap)(k n:Nat)(x:Str)(ps:AK)(fn:AQ->Option D):Prop:=
 ∃a fd,FnOk P w K mg base CX0 k a fd ps (spOf K n fn)/\Binds K fd ps []/\W.keepIn K (.ref a)=true/\mg x=some (.ref a)
theorem Yacs{st:Stmt}(F:Fun K x q st a fd)(b:Binds K fd ps [])
 (hm:mg x=some (.ref a)) (h:FnOk P w K mg base CX0 k a fd ps (spOf K n fn)):Okf P w K mg base k n x ps fn:=⟨a,fd,h,b,F.kp,hm⟩
section
variable {X:Cx}{a b e:Expr}{es:AL}{fa fb:AV}{ga:AW}{pos:Pos}
def negI:D->Option D
 | .int i=>some (.int (-i))
 | _=>none
def catD:D->D->Option AQ
 | .lst a,.lst b=>if a.length+b.length<=cap6 then some (a++b)else none
 | _,_=>none
def Yafd:R2:=λx y H Q=>∃l b xs zs,x=.ref l/\y=.ref b/\Rd H l (.lst xs)/\Rd H b (.lst zs)/\xs.length+zs.length<=sizeLine/\∀p,H p=none->Q (.ref p) (upd H p (.lst (xs++zs)))
theorem y8x:OpR X (binaryOp .Add) Yafd:=by
 intro pins s σ H x y v u Q I rx ry h;obtain⟨l,b,xs,zs,rfl,rfl,hH,hB,hz,q⟩:=h;cases rx;cases ry;obtain⟨z,its,n,r,e⟩:=hH.ok I.hok;obtain⟨z2,its2,n2,r2,e2⟩:=hB.ok I.hok;have hl:=r.length;have hl2:=r2.length;refine PySem.P.add_list e e2 ?_ (by grind)
 have ea:its.toArray++its2.toArray=(its++its2).toArray:=by simp
 rw[ea];exact⟨.ref _,_,I.lnew (t':=s.toks) (r.append r2) (by grind),rfl,q _ I.fresh⟩
def Ygy:D->String
 | .non=>"NoneType"
 | .bl _=>"bool"
 | .int _=>"int"
 | .str _=>"str"
 | .tup _=>"tuple"
 | .lst _=>"list"
 | .scr _=>"list"
 | .dct _ _ _=>"dict"
 | .obj _ _ _=>"dict"
 | .adr _=>"dict"
def Yy2:D->Bool
 | .scr _=>false
 | .dct t _ _=>!t
 | .obj _ _ _=>false
 | .adr _=>false
 | _=>true
def isiD(T:String)(d:D):Option Bool:=if Yy2 d=true then some (Ygy d==T||(T=="int"&&Ygy d=="bool"))else none
theorem y8y(hn:Yy2 d=true)(r:Ct K G H d v):TyOf K H v (.type (Ygy d)):=by
 cases d<;>rw[Ct]at r
 ·subst r;exact .non
 ·subst r;exact .bl _
 ·subst r;exact .int _
 ·obtain⟨rfl,_⟩:=r;exact .str _
 ·obtain⟨a,xs,rfl,g,_⟩:=r;exact .tup g.1
 ·obtain⟨a,xs,rfl,g,_⟩:=r
  rcases g with g|⟨o,g⟩
  ·exact .lst g
  ·exact .frz g
 ·cases hn
 ·rename_i t _ _
  cases t with
  | true=>cases hn
  | false=>
    obtain⟨a,_,_,rfl,g,_⟩:=r;rcases g with⟨_,_,g,_⟩|⟨g,_⟩
    ·exact .dK g
    ·cases g
 ·cases hn
 ·cases hn
def Kit(T:String):Prop:=∀(K:W.Frag) (d:D),W.kitOne K (.type (Ygy d)) (.type T)=some (Ygy d==T||(T=="int"&&Ygy d=="bool"))
theorem y8z:Kit "int":=λK d=>by cases d<;>rfl
theorem Yxa:Kit "bool":=λK d=>by cases d<;>rfl
theorem y1m:Kit "str":=λK d=>by cases d<;>rfl
theorem y1n:Kit "tuple":=λK d=>by cases d<;>rfl
theorem y40(hk:Kit T):Ydd X (.builtin "isinstance") (λxs H Q=>∃x d G,xs=[x,.ty T]/\Yy2 d=true/\Ct X.K G H d x/\Q (.bl (Ygy d==T||(T=="int"&&Ygy d=="bool"))) H):=by
 intro pins s σ H xs us Q I r h;obtain⟨x,d,G,rfl,hn,rx,q⟩:=h;obtain⟨u,w',rfl,r1,r2⟩:=y0j r;cases (show w'=Value.type T from r2)
 exact y0n I r1 (y8y hn rx) (hk X.K d) λtk=>⟨.bl _,H,I.tok tk,rfl,q⟩
end
end
section
variable {K:W.Frag}
def insI(a:Int):AG->AG
 | []=>[a]
 | b::l=>if a<=b then a::b::l else b::insI a l
def Yfn:AG->AG
 | []=>[]
 | a::l=>insI a (Yfn l)
theorem Ymm(a:Int):∀l:AG,(insI a l).Perm (a::l)
 | []=>.refl _
 | b::l=>by
   rw[insI]
   split
   ·exact .refl _
   ·exact((Ymm a l).cons b).trans (.swap a b l)
theorem Ybt:∀l:AG,(Yfn l).Perm l
 | []=>.refl _
 | a::l=>(Ymm a _).trans ((Ybt l).cons a)
theorem Ymn(a:Int):∀l:AG,l.Pairwise (·<=·)->(insI a l).Pairwise (·<=·)
 | [],_=>by simp[insI]
 | b::l,h=>by
   rw[insI]
   split
   ·rename_i hab
    refine List.pairwise_cons.mpr ⟨λx hx=>?_,h⟩;rcases qt hx with rfl|hx
    ·exact hab
    ·exact Int.le_trans hab ((List.pairwise_cons.mp h).1 x hx)
   ·rename_i hab
    refine List.pairwise_cons.mpr ⟨λx hx=>?_,Ymn a l (List.pairwise_cons.mp h).2⟩;rcases qt ((Ymm a l).mem_iff.mp hx)with rfl|hx
    ·lia
    simp_all
theorem Ybo:∀l:AG,(Yfn l).Pairwise (·<=·)
 | []=>.nil
 | a::l=>Ymn a _ (Ybo l)
section
variable {prog:Program}{w:World}{A:Around}{E:AA}{s:Shared}
theorem Yy3(hl:s.heap.IsList l vs.toArray)(h2:vs.length<2)
 (h:Q (.ref (~~~s+1)) { s with heap:=sortedAll s.heap vs vs.toArray }):wpAny (model prog w) A (call (.builtin "sorted") [.ref l]) Q E s:=by
 refine Calls.call_function_entry kind_sorted plain_sorted entry_sorted (args_sorted1 _) ?_;unfold Builtin.«sorted»;refine wa (m:=checkCount "sorted" 1 1 _) (wc ?_);refine wa (collect_list hl ?_ (by rw[jj];lia));refine wa (wpAny_newList ?_ (by rw[jj];lia))
 have hsz:((s.heap.push (seqObj "list" #[] 0)).update (~~~s) (Obj.mapSeq (·++vs.toArray))).objs.size= ~~~s+1:=by
  simp_all
 have hoL:(((s.heap.push (seqObj "list" #[] 0)).update (~~~s) (Obj.mapSeq (·++vs.toArray))).push (seqObj "list" vs.toArray 0)).get? (~~~s+1)=some (seqObj "list" vs.toArray 0):=by
  rw[<-hsz];exact qp _ rfl
 show wpAny _ _ _ _ _ { s with heap:=((s.heap.push (seqObj "list" #[] 0)).update (~~~s) (Obj.mapSeq (·++vs.toArray))).push (seqObj "list" vs.toArray 0) };rw[hsz];refine wa (we (wf slot_list_sort ⟨_,hoL,rfl⟩ entry_list_sort ?body (args_list_sort _)))
 case body=>
  rw[list_sort_plain];generalize hS:({ s with heap:=((s.heap.push (seqObj "list" #[] 0)).update (~~~s) (Obj.mapSeq (·++vs.toArray))).push (seqObj "list" vs.toArray 0) }:Shared)=S at *
  have hoS:S.heap.get? (~~~s+1)=some (seqObj "list" vs.toArray 0):=by grind
  have ha:(~~~s)+1<S.heap.objs.size:=ql hoS;refine wa (listItems_at hoS rfl ?_);refine wa (listUpdate_at hoS rfl ?_ (by rw[qk,jj];lia) (jc _))
  obtain⟨e1,ho1⟩:∃e1,(S.heap.update (~~~s+1) (Obj.mapSeq λ_=>#[])).get? (~~~s+1)=some (seqObj "list" #[] e1):=⟨_,get?_update_seq hoS (λ_=>#[])⟩
  refine wa (seqEpoch_at ho1 rfl ?_);refine wa (wpAny_newTuple ?_ (by show vs.length<=_;rw[jj];lia));refine wa (wpAny_newList ?_ (jc _));refine we ?_
  have ho6:(((S.heap.update (~~~s+1) (Obj.mapSeq λ_=>#[])).push (seqObj "tuple" vs.toArray 0)).push (seqObj "list" #[] 0)).get? (~~~s+1)=some (seqObj "list" #[] e1):=by
   rw[Heap.get?_push_ne _ _ _ (by rw[size_push',Heap.size_update];grind),Heap.get?_push_ne _ _ _ (by rw[Heap.size_update];grind)];exact ho1
  show wpAny (model prog w) _ _ _ _ { S with heap:=((S.heap.update (~~~s+1) (Obj.mapSeq λ_=>#[])).push (seqObj "tuple" vs.toArray 0)).push (seqObj "list" #[] 0) };dsimp only
  have hlt:vs.toArray.size<2:=by grind
  rw[if_pos hlt,if_pos hlt];refine wa (wc ?_);rw[StateT.run_pure];refine wa (wc ?_);dsimp only;refine wa (seqEpoch_at ho6 rfl ?_);refine wa (listUpdate_at ho6 rfl ?_ (hsz2:=by grind));simp only[bne_self_eq_false,Bool.false_eq_true,if_false]
  have hout:(arrOf (SortSt.mk' general' (vs.toArray.zip vs.toArray) #[] 7 none)).map (·.2)=vs.toArray:=by
   grind
  refine wc ⟨_,rfl,wc ⟨_,rfl,?_⟩⟩;have hh:=h;unfold sortedAll sortedHeap at hh;rw[<-hS,hout];exact hh
def plt(j:Int)(q:Bool)(i:Int)(p:Bool):Bool:=if j=i then (!q&&p)else decide (j<i)
theorem y80(hb:IsTup s.heap b #[.int i t,.bool p])(hc:IsTup s.heap c #[.int j u,.bool q])(h:R (plt j q i p) s) :
 wpAny (model prog w) A (keyLt' (tuples' true) (.ref c) (.ref b)) R E s:=by
 obtain⟨ob,h1,_,n1,d1⟩:=hb;obtain⟨oc,h2,_,n2,d2⟩:=hc;refine W.kat_lt h2 d2 h1 d1 ?_;show W.KatLex prog w A true false R [(.int j u,.int i t),(.bool q,.bool p)] 0 s;unfold plt at h;refine W.kat_cons (SeqAt.EqAt.int_int j u i t prog w _ _ (W.kat_go (λe=>W.kat_yes (W.kat_cons (SeqAt.EqAt.bool_bool q p prog w _ _ (W.kat_go (λe2=>W.kat_yes (W.kat_nil ?_)) λe2=>W.kat_no (W.kat_one _ _ (lt_bool ?_)))))) λe=>W.kat_no ?_))
 ·simp_all
 ·have e':j=i:=by simpa using e
  rw[if_pos e']at h;show R _ s
  cases p<;>cases q<;>first|exact h|simp at e2
 ·have e':¬j=i:=by simpa using e
  rw[if_neg e']at h;exact oneLt_int h
theorem Yy4(h:cmp 1 0 (λk s'=>if k=true then G #[1,0] s' else G #[0,1] s') S):(W.kas_sort 2).kasWp cmp G S:=by
 show cmp 1 0 (λk s'=>W.KasT.kasWp cmp _ G s') S
 have e:∀(k:Bool) (s':Shared),(if k=true then G #[1,0] s' else G #[0,1] s')=W.KasT.kasWp cmp (W.KasT.bind (W.KasT.bind (if k=true then W.KasT.ret 1 else W.kas_asc (List.toArray (List.range 2)) 0 2)
  λn=>if (n==2)=true then W.KasT.ret (n,List.toArray (List.range 2))else if n > 1 then .ask ((List.toArray (List.range 2)).getD 0 0) ((List.toArray (List.range 2)).getD (n-1) 0) λc=>if c=true then .ret (n,List.toArray (List.range 2))else W.kas_descPart n 2 (W.kas_rev (List.toArray (List.range 2)) 0 n)
   else W.kas_descPart n 2 (List.toArray (List.range 2))) λr=>if r.1<2 then W.kas_bin (2-max r.1 1) r.2 (max r.1 1)else .ret r.2) G s':=λk s'=>by cases k<;>rfl
 simp_all
theorem Yy5(hl:s.heap.IsList l #[.ref b,.ref c])(hb:IsTup s.heap b #[.int i t,.bool p])(hc:IsTup s.heap c #[.int j u,.bool q])
 (h:Q (.ref (~~~s+1)) { s with heap:=sortedAll s.heap [.ref b,.ref c] (if plt j q i p=true then #[.ref c,.ref b]else #[.ref b,.ref c]) }):wpAny (model prog w) A (call (.builtin "sorted") [.ref l]) Q E s:=by
 generalize hvs:[Value.ref b,Value.ref c]=vs at *;have hl':s.heap.IsList l vs.toArray:=hl
 have hlen:vs.length=2:=by grind
 refine Calls.call_function_entry kind_sorted plain_sorted entry_sorted (args_sorted1 _) ?_;unfold Builtin.«sorted»;refine wa (m:=checkCount "sorted" 1 1 _) (wc ?_);refine wa (collect_list hl' ?_ (by rw[jj];lia));refine wa (wpAny_newList ?_ (by rw[jj];lia))
 have hsz:((s.heap.push (seqObj "list" #[] 0)).update (~~~s) (Obj.mapSeq (·++vs.toArray))).objs.size= ~~~s+1:=by
  simp_all
 have hoL:(((s.heap.push (seqObj "list" #[] 0)).update (~~~s) (Obj.mapSeq (·++vs.toArray))).push (seqObj "list" vs.toArray 0)).get? (~~~s+1)=some (seqObj "list" vs.toArray 0):=by
  rw[<-hsz];exact qp _ rfl
 have keep0:∀b o,s.heap.get? b=some o->(((s.heap.push (seqObj "list" #[] 0)).update (~~~s) (Obj.mapSeq (·++vs.toArray))).push (seqObj "list" vs.toArray 0)).get? b=some o:=λb o q=>by
  have hlt:b< ~~~s:=ql q;rw[Heap.get?_push_ne _ _ _ (by grind),Heap.get?_update_ne _ _ _ _ (qm hlt),Heap.get?_push_ne _ _ _ (qm hlt)];exact q
 show wpAny _ _ _ _ _ { s with heap:=((s.heap.push (seqObj "list" #[] 0)).update (~~~s) (Obj.mapSeq (·++vs.toArray))).push (seqObj "list" vs.toArray 0) };rw[hsz];refine wa (we (wf slot_list_sort ⟨_,hoL,rfl⟩ entry_list_sort ?body (args_list_sort _)))
 case body=>
  rw[list_sort_plain];generalize hS:({ s with heap:=((s.heap.push (seqObj "list" #[] 0)).update (~~~s) (Obj.mapSeq (·++vs.toArray))).push (seqObj "list" vs.toArray 0) }:Shared)=S at *
  have hoS:S.heap.get? (~~~s+1)=some (seqObj "list" vs.toArray 0):=by grind
  have keepS:∀b o,s.heap.get? b=some o->S.heap.get? b=some o:=by grind
  have ha:(~~~s)+1<S.heap.objs.size:=ql hoS;refine wa (listItems_at hoS rfl ?_);refine wa (listUpdate_at hoS rfl ?_ (by rw[qk,jj];lia) (jc _))
  obtain⟨e1,ho1⟩:∃e1,(S.heap.update (~~~s+1) (Obj.mapSeq λ_=>#[])).get? (~~~s+1)=some (seqObj "list" #[] e1):=⟨_,get?_update_seq hoS (λ_=>#[])⟩
  refine wa (seqEpoch_at ho1 rfl ?_);refine wa (wpAny_newTuple ?_ (by show vs.length<=_;rw[jj];lia));refine wa (wpAny_newList ?_ (jc _));refine we ?_
  have ho6:(((S.heap.update (~~~s+1) (Obj.mapSeq λ_=>#[])).push (seqObj "tuple" vs.toArray 0)).push (seqObj "list" #[] 0)).get? (~~~s+1)=some (seqObj "list" #[] e1):=by
   rw[Heap.get?_push_ne _ _ _ (by rw[size_push',Heap.size_update];grind),Heap.get?_push_ne _ _ _ (by rw[Heap.size_update];grind)];exact ho1
  have keep6:∀b o,s.heap.get? b=some o->(((S.heap.update (~~~s+1) (Obj.mapSeq λ_=>#[])).push (seqObj "tuple" vs.toArray 0)).push (seqObj "list" #[] 0)).get? b=some o:=λb o q=>by
   have hlt:b< ~~~s:=ql q;refine qe _ (qe _ ?_);rw[Heap.get?_update_ne _ _ _ _ (qm (qw hlt))];grind
  generalize hS6:({ S with heap:=((S.heap.update (~~~s+1) (Obj.mapSeq λ_=>#[])).push (seqObj "tuple" vs.toArray 0)).push (seqObj "list" #[] 0) }:Shared)=S6
  have ho7:S6.heap.get? (~~~s+1)=some (seqObj "list" #[] e1):=by grind
  have tb:IsTup S6.heap b #[.int i t,.bool p]:=by
   obtain⟨o,a1,a2⟩:=hb;exact⟨o,by grind,a2⟩
  have tc:IsTup S6.heap c #[.int j u,.bool q]:=by
   obtain⟨o,a1,a2⟩:=hc;exact⟨o,by grind,a2⟩
  dsimp only
  have hn2:¬vs.toArray.size<2:=by grind
  rw[if_neg hn2,if_neg hn2]
  have kt:W.KatTups S6.heap vs [.int i t,.int j u]:=by
   obtain⟨ob,b1,b2,n1,b3⟩:=tb;obtain⟨oc,c1,c2,n2,c3⟩:=tc;rw[<-hvs];exact .cons b1 b2 b3 rfl (.cons c1 c2 c3 rfl .nil)
  refine wa (W.kat_kind (T:=.type "int") kt (qw (qz 0)) (λv hv=>?_) (by decide) ?_)
  ·rcases qt hv with rfl|hv
   ·exact .of_pure rfl
   ·rcases qt hv with rfl|hv
    ·exact .of_pure rfl
    ·cases hv
  have hcmp:wpAny (model prog w) A.in1.in1 (keyLt' (tuples' true) (vs.getD 1 Value.none) (vs.getD 0 Value.none)) (λk s'=>k=plt j q i p/\s'=S6) (λ_ _=>False) S6:=by
   rw[<-hvs];exact y80 tb tc ⟨rfl,rfl⟩
  refine wa (wz (W.kat_run (ks:=vs) (vs:=vs) (κ:=tuples' true) (G:=λpm s'=>s'=S6/\pm=if plt j q i p=true then #[1,0]else #[0,1])
   (Q:=λst' s'=>s'=S6/\failedOf st'=none/\(arrOf st').map (·.2)=if plt j q i p=true then #[.ref c,.ref b]else #[.ref b,.ref c]) rfl (by lia) (by lia) (λpm st' s' a1 a2 a3 a4=>?_) ?_) ?_ λ_ _ e=>e)
  ·obtain⟨rfl,rfl⟩:=a4
   refine⟨rfl,a3,?_⟩;rw[W.kat_snds rfl a2,<-hvs];grind
  ·rw[hlen]
   refine Yy4 ?_;refine wz hcmp (λk s' hk=>?_) λ_ _ x=>x;grind
  rintro⟨⟨⟩,st'⟩ s' ⟨rfl,hf,hout⟩;dsimp only;refine wa (seqEpoch_at ho7 rfl ?_);refine wa (listUpdate_at ho7 rfl ?_ (jc _) (by rw[hout,jj];grind));rw[hf];simp only[bne_self_eq_false,Bool.false_eq_true,if_false];refine wc ⟨_,rfl,wc ⟨_,rfl,?_⟩⟩;have hh:=h;unfold sortedAll sortedHeap at hh;grind
end
def Yee:AQ->Option AG
 | []=>some []
 | .int i::l=>(Yee l).map (i::·)
 | _=>none
def prI:D->Option (Int×Bool)
 | .tup [.int j,.bl q]=>some (j,q)
 | _=>none
def y7g(e d:D):Option Bool:=(prI e).bind λx=>(prI d).map λy=>plt x.1 x.2 y.1 y.2
theorem Ykr{α:Type}{x:α}{P:Prop}(h:none=some x):P:=by cases h
theorem Yqj(h:prI d=some x):d=.tup [.int x.1,.bl x.2]:=by
 cases d with
 | tup l=>cases l with
   | nil=>exact Ykr h
   | cons a l=>cases a with
     | int j=>cases l with
       | nil=>exact Ykr h
       | cons b l=>cases b with
         | bl q=>cases l with
           | nil=>exact w9 h ▸ rfl
           | cons _ _=>exact Ykr h
         | _=>exact Ykr h
     | _=>exact Ykr h
 | _=>exact Ykr h
def y41(l:AQ):Option AQ:=match Yee l with
 | some ns=>if ns.length<64 then some ((Yfn ns).map D.int)else none
 | none=>match l with
   | [d]=>some [d]
   | [d,e]=>(y7g e d).map λk=>if k=true then [e,d]else [d,e]
   | _=>none
def Ymo:AQ->Option AQ
 | [.lst l]=>y41 l
 | _=>none
theorem Yhp:∀{l:AQ}{ns:AG},Yee l=some ns->l=ns.map D.int
 | [],ns,h=>by cases h;rfl
 | .int i::l,ns,h=>by
   rw[Yee]at h;obtain⟨m,h1,rfl⟩:=qc h;rw[Yhp h1];rfl
 | .non::l,ns,h=>by simp[Yee]at h
 | .bl _::l,ns,h=>by simp[Yee]at h
 | .str _::l,ns,h=>by simp[Yee]at h
 | .tup _::l,ns,h=>by simp[Yee]at h
 | .lst _::l,ns,h=>by simp[Yee]at h
 | .scr _::l,ns,h=>by simp[Yee]at h
 | .dct _ _ _::l,ns,h=>by simp[Yee]at h
 | .obj _ _ _::l,ns,h=>by simp[Yee]at h
 | .adr _::l,ns,h=>by simp[Yee]at h
theorem Yl1:∀{ns:AG}{xs:AN},RpL K G (ns.map D.int) xs->xs=ns.map V.int
 | [],xs,h=>by rw[List.map_nil,RpL]at h;exact h
 | n::ns,xs,h=>by
   rw[Qa,RpL]at h;obtain⟨x,r,rfl,h1,h2⟩:=h;rw[Rp]at h1;rw[h1,Yl1 h2];rfl
def y1o(H:Hp)(x:V)(i:Int)(p:Bool):Prop:=∃a,x=.ref a/\H a=some (.tup [.int i,.bl p])
def Yacx:AN->Hp->VK->Prop:=λvs H Q=>∃a xs,vs=[.ref a]/\Rd H a (.lst xs)/\
 ((∃ns:AG,xs=ns.map V.int/\ns.length<64/\∀p,H p=none->Q (.ref p) (upd H p (.lst ((Yfn ns).map V.int))))\/
  (xs.length<2/\∀p,H p=none->Q (.ref p) (upd H p (.lst xs)))\/
  (∃x y i p j q,xs=[x,y]/\y1o H x i p/\y1o H y j q/\∀r,H r=none->Q (.ref r) (upd H r (.lst (if plt j q i p=true then [y,x]else [x,y])))))
theorem Ydf:Ydd X (.builtin "sorted") Yacx:=by
 intro pins s σ H xs us Q I r h;obtain⟨a,ys,rfl,hr,h⟩:=h;obtain⟨u,rfl,ru⟩:=Yfj r;cases ru;obtain⟨its,rv,pl,hz⟩:=I.list (.inl hr)
 have fin:∀(out:Array Value) (zs:AN),Vals zs out.toList->zs.length<=sizeLine->Q (.ref (~~~s+1)) (upd H (~~~s+1) (.lst zs))->EP X pins σ Q (.ref (~~~s+1)) { s with heap:=sortedAll s.heap its out }:=λout zs hv hz' hq=>by
  obtain⟨e,he⟩:=sortedAll_at s.heap its out;exact⟨.ref (~~~s+1),_,I.laid (t':=s.toks) (λb o q=>sortedAll_old q) (Nat.le_succ _) (show ObjOk X.prog X.w _ _ _ (.lst zs) from⟨hz',out.toList,e,hv,by simp_all⟩),rfl,hq⟩
 have fr:H (~~~s+1)=none:=I.hok.fresh (Nat.le_succ _);have hl:=rv.length;rcases h with⟨ns,rfl,h64,q⟩|⟨h2,q⟩|⟨x,y,i,p,j,k,rfl,px,py,q⟩
 ·have hI:=Ykn rv
  refine sorted_ints pl.isList hI (by grind) λout ns' h1 h2 h3=>?_;have e:ns'=Yfn ns:=W.ksm_same (h2.trans (Ybt ns).symm) h3 (Ybo ns);subst e;have hn:(Yfn ns).length=ns.length:=(Ybt ns).length_eq;exact fin out _ (Yjc h1) (by grind) (q _ fr)
 ·refine Yy3 pl.isList (by lia) ?_
  grind
 ·obtain⟨b,rfl,hb⟩:=px
  obtain⟨c,rfl,hc⟩:=py;obtain⟨u1,u2,rfl,r1,r2⟩:=y0j rv;cases r1;cases r2
  obtain⟨_,ib,vb,tb⟩:=(show ObjOk X.prog X.w H s.heap b (.tup [.int i,.bl p]) from I.hok b _ hb)
  obtain⟨_,ic,vc,tc⟩:=(show ObjOk X.prog X.w H s.heap c (.tup [.int j,.bl k]) from I.hok c _ hc)
  obtain⟨w1,w2,rfl,⟨t,rfl⟩,w2e⟩:=y0j vb;cases w2e;obtain⟨w3,w4,rfl,⟨t',rfl⟩,w4e⟩:=y0j vc;cases w4e;refine Yy5 (by simpa using pl.isList) (by simpa using tb) (by simpa using tc) ?_;refine fin _ (if plt j k i p=true then [.ref c,.ref b]else [.ref b,.ref c]) ?_ (by grind) (q _ fr);cases plt j k i p
  ·grind
  ·exact .cons rfl (.cons rfl .nil)
theorem Ys1(s:Same G H)(e:d=.tup [.int i,.bl p])(r:Rp K G d v):y1o H v i p:=by
 subst e;rw[Rp]at r;obtain⟨a,xs,rfl,g,rl⟩:=r;rw[RpL]at rl;obtain⟨x,r',rfl,h1,h2⟩:=rl;obtain⟨y,rfl,h3⟩:=Ykq h2;rw[Rp]at h1;rw[Rp]at h3;subst h1;subst h3;exact⟨a,rfl,s _ _ g⟩
theorem Yu4(h:y7g e d=some k):∃j q i p,e=.tup [.int j,.bl q]/\d=.tup [.int i,.bl p]/\k=plt j q i p:=by
 obtain⟨x,h1,h2⟩:=qa h;obtain⟨y,h3,h4⟩:=qc h2;exact⟨x.1,x.2,y.1,y.2,Yqj h1,Yqj h3,h4.symm⟩
theorem Yef:SemF K Yacx Ymo:=by
 intro vs ds l H G Q h s r q;unfold Ymo at h
 split at h
 ·rename_i m
  obtain⟨v,rfl,rv⟩:=Yci r;rw[Ct]at rv;obtain⟨a,xs,rfl,g,rl⟩:=rv;refine⟨a,xs,rfl,g,?_⟩;unfold y41 at h
  split at h
  ·rename_i ns hns
   split at h
   ·rename_i h64
    cases h;cases Yhp hns;refine .inl ⟨ns,Yl1 rl,h64,λp hp=>?_⟩;exact q p _ _ G (.hid s hp _) hp (s.free hp) Yy (.ints _)
   ·cases h
  ·split at h
   ·cases h
    refine .inr (.inl ⟨by rw[rl.length];grind,λp hp=>?_⟩);exact q p _ _ G (.hid s hp _) hp (s.free hp) Yy rl
   ·rename_i d e
    obtain⟨k,h1,rfl⟩:=qc h;obtain⟨j,y,i,x,rfl,rfl,rfl⟩:=Yu4 h1;rw[RpL]at rl;obtain⟨v1,r1,rfl,p1,rl⟩:=rl;obtain⟨v2,rfl,p2⟩:=Ykq rl;refine .inr (.inr ⟨v1,v2,i,x,j,y,rfl,Ys1 s rfl p1,Ys1 s rfl p2,λp hp=>?_⟩);refine q p _ _ G (.hid s hp _) hp (s.free hp) Yy ?_;cases plt j y i x
    ·exact .cons p1 (.one p2)
    ·exact .cons p2 (.one p1)
   ·cases h
 ·cases h
end
section
variable {K:W.Frag}
section
variable {X:Cx}{e:Expr}{f fb:AV}{pos pos':Pos}
def blsD:AQ->Option AH
 | []=>some []
 | .bl b::l=>(blsD l).map (b::·)
 | _=>none
theorem Ys2:∀{l:AQ}{bs:AH},blsD l=some bs->l=bs.map D.bl
 | [],bs,h=>by cases h;rfl
 | .bl i::l,bs,h=>by
   rw[blsD]at h;obtain⟨m,h1,rfl⟩:=qc h;rw[Ys2 h1];rfl
 | .non::l,ns,h=>by simp[blsD]at h
 | .int _::l,ns,h=>by simp[blsD]at h
 | .str _::l,ns,h=>by simp[blsD]at h
 | .tup _::l,ns,h=>by simp[blsD]at h
 | .lst _::l,ns,h=>by simp[blsD]at h
 | .scr _::l,ns,h=>by simp[blsD]at h
 | .dct _ _ _::l,ns,h=>by simp[blsD]at h
 | .obj _ _ _::l,ns,h=>by simp[blsD]at h
 | .adr _::l,ns,h=>by simp[blsD]at h
theorem y1p:∀{bs:AH}{xs:AN},RpL K G (bs.map D.bl) xs->xs=bs.map V.bl
 | [],xs,h=>by rw[List.map_nil,RpL]at h;exact h
 | n::ns,xs,h=>by
   rw[Qa,RpL]at h;obtain⟨x,r,rfl,h1,h2⟩:=h;rw[Rp]at h1;rw[h1,y1p h2];rfl
theorem Yqk:∀{bs:AH}{us:AC},Vals (bs.map V.bl) us->us=bs.map Value.bool
 | [],us,h=>by cases h;rfl
 | b::bs,us,h=>by
   cases h with
   | cons r t=>
     cases (show _=Value.bool b from r);rw[Yqk t];rfl
theorem y1q(bs:AH):((List.range bs.length).any λi=>bs.getD i false)=bs.any id:=by
 induction bs with
 | nil=>rfl
 | cons b bs ih=>
   rw[qr,List.range_succ_eq_map,List.any_cons,List.any_map,List.any_cons];grind
theorem y1r(bs:AH):((List.range bs.length).all λi=>bs.getD i false)=bs.all id:=by
 induction bs with
 | nil=>rfl
 | cons b bs ih=>
   rw[qr,List.range_succ_eq_map,List.all_cons,List.all_map,List.all_cons];grind
def rBls(g:AH->V):AN->Hp->VK->Prop:=λvs H Q=>∃(a:Addr) (bs:AH),vs=[.ref a]/\Rd H a (.lst (bs.map V.bl))/\Q (g bs) H
theorem Ys3(A:Around)(prog:Program)(w:World)(bs:AH):TruthOf prog w A (λi v=>((bs.map Value.bool).toArray)[i]?=some v) (λi=>bs.getD i false):=λi v s Q E hP hQ=>by
 have hP':(bs.map Value.bool)[i]?=some v:=by grind
 rw[Qg]at hP';obtain⟨b,h1,rfl⟩:=qc hP';refine wpAny_truthy_bool ?_;grind
theorem Ys4{pins:AB}{σ:L2.St}{H:Hp}{its:AC}(hh:A.handled=none)(hl:s.heap.IsList a its.toArray)
 (h:∀s₂,s₂={ s with heap:=s.heap.push { cls:=.type "list_iterator",data:=.fields #[.ref a,.int 0 0] } }->Walks X.prog X.w A (~~~s) [~~~s,a] [~~~s] its.toArray.size (λi v=>its.toArray[i]?=some v) (λi h=>h.IsListIter (~~~s) a i/\h.IsList a its.toArray)->
  (s₂.heap.IsListIter (~~~s) a 0/\s₂.heap.IsList a its.toArray)->Q (.ref (~~~s)) s₂):wpAny (model X.prog X.w) A (pyIter (.ref a)) Q E s:=by
 have hne:a≠(~~~s):=by
  obtain⟨o,ho,_⟩:=hl;exact qm (ql ho)
 refine wpAny_pyIter_list hl (h _ rfl (Walks.list hh _ a hne _) ⟨⟨_,qp _ rfl,rfl,rfl⟩,?_⟩);obtain⟨o,ho,r⟩:=hl;exact⟨o,qe _ ho,r⟩
theorem Yle{σ:L2.St}(I:Inv X pins σ H s)(k:∀b u,b∉[~~~s]->(s.heap.push o).get? b=some u->h'.get? b=some u):Inv X pins σ H { s with heap:=h',toks:=tk }:=
 I.kept λb u q=>k b u (by
  intro z
  have e:b= ~~~s:=by simpa using z
  exact absurd (ql q) (by grind)) (qe _ q)
theorem Yji(hc:X.calm=true):Ydd X (.builtin "any") (rBls λbs=>.bl (bs.any id)):=by
 intro pins s σ H xs us Q I r h;obtain⟨a,bs,rfl,hr,q⟩:=h;obtain⟨u,rfl,ru⟩:=Yfj r;cases ru;obtain⟨its,rv,pl,hz⟩:=I.list (.inl hr);cases Yqk rv;refine call_any_walk (Ys4 (X:=X) (pins:=pins) (σ:=σ) (H:=H) (show X.A.in1.handled=none from I.ok.hd hc) pl.isList λs₂ e W st=>?_);subst e;refine⟨_,_,_,_,_,_,λi=>bs.getD i false,rfl,W,st,Ys3 _ _ _ bs,λh' tk k=>⟨.bl _,H,(show Inv X pins σ H { s with heap:=h',toks:=tk } from Yle I k),?_,q⟩⟩;show Value.bool _=Value.bool _;rw[qk,qf,y1q]
theorem Ymp(hc:X.calm=true):Ydd X (.builtin "all") (rBls λbs=>.bl (bs.all id)):=by
 intro pins s σ H xs us Q I r h;obtain⟨a,bs,rfl,hr,q⟩:=h;obtain⟨u,rfl,ru⟩:=Yfj r;cases ru;obtain⟨its,rv,pl,hz⟩:=I.list (.inl hr);cases Yqk rv;refine call_all_walk (Ys4 (X:=X) (pins:=pins) (σ:=σ) (H:=H) (show X.A.in1.handled=none from I.ok.hd hc) pl.isList λs₂ e W st=>?_);subst e;refine⟨_,_,_,_,_,_,λi=>bs.getD i false,rfl,W,st,Ys3 _ _ _ bs,λh' tk k=>⟨.bl _,H,(show Inv X pins σ H { s with heap:=h',toks:=tk } from Yle I k),?_,q⟩⟩;show Value.bool _=Value.bool _;rw[qk,qf,y1r]
def anyC:AQ->Option D
 | [.lst l]=>(blsD l).map λbs=>.bl (bs.any id)
 | _=>none
def allC:AQ->Option D
 | [.lst l]=>(blsD l).map λbs=>.bl (bs.all id)
 | _=>none
theorem y1s{gd:AH->D}(hm:∀ds d,m ds=some d->∃l bs,ds=[.lst l]/\blsD l=some bs/\d=gd bs)(hg:∀G bs,Rp K G (gd bs) (g bs)):SemC K (rBls g) m:=by
 intro vs ds d H G Q h s r q;obtain⟨l,bs,rfl,h1,rfl⟩:=hm ds d h;obtain⟨v,rfl,rv⟩:=Yci r;rw[Ct]at rv;obtain⟨a,xs,rfl,g',rl⟩:=rv;cases Ys2 h1;cases y1p rl;exact⟨a,bs,rfl,g',q _ H G (.refl s) (hg G bs)⟩
theorem Yql:SemC K (rBls λbs=>.bl (bs.any id)) anyC:=y1s (gd:=λbs=>.bl (bs.any id)) (λds d h=>by
 unfold anyC at h
 split at h
 ·obtain⟨bs,h1,rfl⟩:=qc h
  grind
 ·cases h) λG bs=>by rw[Rp]
theorem Yu5:SemC K (rBls λbs=>.bl (bs.all id)) allC:=y1s (gd:=λbs=>.bl (bs.all id)) (λds d h=>by
 unfold allC at h
 split at h
 ·obtain⟨bs,h1,rfl⟩:=qc h
  grind
 ·cases h) λG bs=>by rw[Rp]
def y1t(i:Nat)(fi f:AV)(g:AQ->D->D->Option AQ):AS:=λρ=>(f ρ).bind λd=>(getO i ρ).bind λl=>(fi ρ).bind λk=>(g l k d).map λl'=>.nx (ρ.set i (some (.ow l')))
def setD(l:AQ)(k d:D):Option AQ:=(intD k).bind λi=>(ixN l.length i).map λj=>l.set j d
end
end
section
variable {K:W.Frag}
section
variable {prog:Program}{w:World}{A:Around}{E:AA}{s:Shared}
theorem Yks(hit:s.heap.IsTupleIter it t i)
 (ht:s.heap.IsTuple t items) (hx:items[i]?=some x)
 (hQ:∀h',h'.IsTupleIter it t (i+1)->Heap.SameBut it s.heap h'->Q x { s with heap:=h' }) :
 wpAny (model prog w) A (Builtin.SmallTypes.nextOf (.ref it)) Q E s:=by
 obtain⟨o,ho,hc,hd⟩:=id hit;obtain⟨ol,hol,_,nl,hdl⟩:=ht;unfold Builtin.SmallTypes.nextOf
 refine wa (wpAny_callSpecial?_slot (name:=Str.ofString "__next__") hit.typeIs F.slot_tuple_iterator_next
  (wf F.slot_tuple_iterator_next hit.typeIs F.entry_tuple_iterator_next ?_ (F.args_tuple_iterator_next_1 _)))
 show wpAny _ _ (field (.ref it) 0>>=_) _ _ s;refine wa (wpAny_field ho hd (x:=.ref t) rfl ?_);show wpAny _ _ (if (Value.ref t==Value.none)=true then _ else _) _ _ s;rw[if_neg (show ¬((Value.ref t==Value.none)=true) from qi)];show wpAny _ _ (field (.ref it) 1>>=_) _ _ s;refine wa (wpAny_field ho hd (x:=.int i 0) rfl ?_);show wpAny _ _ (seqItems? (.ref t)>>=_) _ _ s;refine wa (wpAny_seqItems hol hdl ?_);simp only[ja,hx];refine wa (wpAny_setField ho hd (by simp) (wc ⟨x,rfl,wc (hQ _ ?_ (wv ..))⟩))
 exact⟨_,wx _ ho (Obj.isFreed_of_fields (jh hd _)),(Obj.cls_mapFields ..).trans hc,by
  rw[jh hd];simp[rawInt]⟩
theorem Ylp(hh:A.handled=none)
 (hit:s.heap.IsTupleIter it l i) (hl:s.heap.IsTuple l items) (hx:items[i]?=none)
 (hE:∀h' e,Heap.ExtBut it s.heap h'->(∃o,h'.get? e=some o/\o.cls=.type "StopIteration")->E (.ref e) { s with heap:=h' }) :
 wpAny (model prog w) A (Builtin.SmallTypes.nextOf (.ref it)) Q E s:=by
 obtain⟨o,ho,hc,hd⟩:=id hit;obtain⟨ol,hol,_,nl,hdl⟩:=hl;unfold Builtin.SmallTypes.nextOf
 refine wa (wpAny_callSpecial?_slot (name:=Str.ofString "__next__") hit.typeIs F.slot_tuple_iterator_next
  (wf F.slot_tuple_iterator_next hit.typeIs F.entry_tuple_iterator_next ?_ (F.args_tuple_iterator_next_1 _)))
 show wpAny _ _ (field (.ref it) 0>>=_) _ _ s;refine wa (wpAny_field ho hd (x:=.ref l) rfl ?_);show wpAny _ _ (if (Value.ref l==Value.none)=true then _ else _) _ _ s;rw[if_neg (show ¬((Value.ref l==Value.none)=true) from qi)];show wpAny _ _ (field (.ref it) 1>>=_) _ _ s;refine wa (wpAny_field ho hd (x:=.int i 0) rfl ?_);show wpAny _ _ (seqItems? (.ref l)>>=_) _ _ s;refine wa (wpAny_seqItems hol hdl ?_);simp only[ja,hx];refine wa (wpAny_rule (wa (wpAny_setField ho hd (by simp) ?_)));show wpAny _ _ (newExc (.type "StopIteration") []>>=_) _ _ _;refine wa ?_;simp only[newExc,newTuple];refine wa (wg ?_ (by size_fits));refine wa (m:=firstArgMember _ _) (wpAny_of_eq (a:=Value.none) (by first|rfl|(simp only[firstArgMember];rfl)) ?_);refine wg ?_ (by size_fits);simp only[raiseNew];refine wa (wpAny_handled ?_)
 first|rw[show A.in1.handled=none from hh]|rw[hh]
 refine wa (wc (wpAny_throw ?_));exact hE _ _ (((wv ..).extBut.push _).push _) ⟨_,qp _ rfl,rfl⟩
theorem Ymq{i:Nat}{Q:AA}
 (he:IsEnum s.heap e it i old) (hit:s.heap.IsTupleIter it l i) (hl:s.heap.IsTuple l items) (hx:items[i]?=some x) (hne:e≠it)
 (hQ:∀h',IsEnumOut h' e it ((i:Int)+1) x (~~~s)->h'.IsTupleIter it l (i+1)->
  h'.get? (~~~s)=some { cls:=.type "tuple",data:=.seq #[.int i s.toks,x] }->h'.objs.size= ~~~s+1->
  (∀b o,b≠e->b≠it->s.heap.get? b=some o->h'.get? b=some o)->Q (.ref (~~~s)) { s with heap:=h',toks:=s.toks+1 }) :
 wpAny (model prog w) A (Builtin.«enumerate.__next__» ⟨[.ref e],[]⟩) (λfin s'=>∃v,fin=.done (.ret v)/\Q v s') E s:=by
 obtain⟨hp,g,d,tk,os⟩:=s;show wpAny _ _ (field (.ref e) 2>>=_) _ _ _;refine wa (wpAny_field he rfl (x:=.ref it) rfl ?_);refine wa (Yks hit hl hx λh₁ hit₁ hs₁=>?_);replace hs₁:Heap.SameBut it hp h₁:=hs₁;have he₁:IsEnum h₁ e it i old:=(hs₁.2 e hne).trans he;show wpAny _ _ (field (.ref e) 3>>=_) _ _ ⟨h₁,g,d,tk,os⟩;refine wa (wpAny_field he₁ rfl (x:=rawInt i) rfl ?_);show wpAny _ _ (field (.ref e) 4>>=_) _ _ ⟨h₁,g,d,tk,os⟩;refine wa (wpAny_field he₁ rfl (x:=.none) rfl ?_);show wpAny _ _ (mkInt i>>=_) _ _ ⟨h₁,g,d,tk,os⟩;refine wa (wpAny_mkInt ?_);show wpAny _ _ (setField (.ref e) 3 (rawInt ((i:Int)+1))>>=_) _ _ ⟨h₁,g,d,tk+1,os⟩;refine wa (wpAny_setField_rec he₁ (by simp) λh₂ he₂ hs₂=>?_);replace hs₂:Heap.SameBut e h₁ h₂:=hs₂;replace he₂:IsEnum h₂ e it ((i:Int)+1) old:=he₂;show wpAny _ _ (setField (.ref e) 4 .none>>=_) _ _ ⟨h₂,g,d,tk+1,os⟩;refine wa (wpAny_setField_rec he₂ (by simp) λh₃ he₃ hs₃=>?_);replace hs₃:Heap.SameBut e h₂ h₃:=hs₃;replace he₃:IsEnum h₃ e it ((i:Int)+1) old:=he₃;show wpAny _ _ (newTuple [.int i tk,x]>>=_) _ _ ⟨h₃,g,d,tk+1,os⟩;refine wa (wpAny_newTuple ?_);have he₄:IsEnum (h₃.push { cls:=.type "tuple",data:=.seq #[.int i tk,x] }) e it ((i:Int)+1) old:=qe _ he₃;generalize hh₄:h₃.push { cls:=.type "tuple",data:=.seq #[.int i tk,x] }=h₄ at he₄
 have hsz:h₃.objs.size=hp.objs.size:=by rw[hs₃.1,hs₂.1,hs₁.1]
 have hel:e<hp.objs.size:=ql he
 have ht₄:h₄.get? hp.objs.size=some { cls:=.type "tuple",data:=.seq #[.int i tk,x] }:=by rw[<-hh₄,<-hsz];exact qp _ rfl
 have hz₄:h₄.objs.size=hp.objs.size+1:=by rw[<-hh₄,ww,hsz]
 have hk₄:∀b o,b≠e->b≠it->hp.get? b=some o->h₄.get? b=some o:=λb o hbe hbi hb=>by
  rw[<-hh₄];exact qe _ (hs₃.extBut b o hbe (hs₂.extBut b o hbe (hs₁.extBut b o hbi hb)))
 have hit₄:h₄.IsTupleIter it l (i+1):=by
  rw[<-hh₄];obtain⟨o,ho,r⟩:=(hit₁.at λo q=>hs₃.extBut it o (Ne.symm hne) (hs₂.extBut it o (Ne.symm hne) q));exact⟨o,qe _ ho,r⟩
 show wpAny _ _ (Builtin.SmallTypes.ownedTupleIsFree (.ref e)>>=_) _ _ ⟨h₄,g,d,tk+1,os⟩;rw[hsz];clear hh₄ he₃ hs₃ he₂ hs₂ he₁ hs₁ hit₁ hsz h₃ h₂ h₁;refine wa ?_
 ·unfold Builtin.SmallTypes.ownedTupleIsFree
  refine wa (wpAny_field he₄ rfl (x:=.none) rfl (wc ?_));simp only[if_true];refine wa (wpAny_rule ?_);refine wa (wpAny_field he₄ rfl (x:=old) rfl ?_);refine wa (wpAny_setField_rec he₄ (by simp) λh₅ he₅ hs₅=>?_);replace hs₅:Heap.SameBut e h₄ h₅:=hs₅;replace he₅:IsEnum h₅ e it ((i:Int)+1) x:=he₅;show wpAny _ _ (Builtin.SmallTypes.ownedTupleHandOut (.ref e) (.ref hp.objs.size)>>=_) _ _ ⟨h₅,g,d,tk+1,os⟩;refine wa ?_
  ·unfold Builtin.SmallTypes.ownedTupleHandOut
   refine wa (wpAny_setField_rec he₅ (by simp) λh₆ he₆ hs₆=>?_);replace hs₆:Heap.SameBut e h₅ h₆:=hs₆;replace he₆:IsEnumOut h₆ e it ((i:Int)+1) x hp.objs.size:=he₆;refine wpAny_setField_rec he₆ (by simp) λh₇ he₇ hs₇=>?_;replace hs₇:Heap.SameBut e h₆ h₇:=hs₇;replace he₇:IsEnumOut h₇ e it ((i:Int)+1) x hp.objs.size:=he₇;refine wa (wpAny_letGo (wc ⟨_,rfl,hQ h₇ he₇ ?_ ?_ ?_ ?_⟩))
   ·exact hit₄.at λo q=>hs₇.extBut it o (Ne.symm hne) (hs₆.extBut it o (Ne.symm hne) (hs₅.extBut it o (Ne.symm hne) q))
   ·exact hs₇.extBut _ _ (Nat.ne_of_gt hel) (hs₆.extBut _ _ (Nat.ne_of_gt hel) (hs₅.extBut _ _ (Nat.ne_of_gt hel) ht₄))
   ·rw[hs₇.1,hs₆.1,hs₅.1,hz₄]
   ·exact λb o hbe hbi hb=>hs₇.extBut b o hbe (hs₆.extBut b o hbe (hs₅.extBut b o hbe (hk₄ b o hbe hbi hb)))
theorem Ykt{i:Nat}
 (he:IsEnum s.heap e it i old) (hit:s.heap.IsTupleIter it l i) (hl:s.heap.IsTuple l items) (hx:items[i]?=some x) (hne:e≠it)
 (hQ:∀h',IsEnumOut h' e it ((i:Int)+1) x (~~~s)->h'.IsTupleIter it l (i+1)->
  h'.get? (~~~s)=some { cls:=.type "tuple",data:=.seq #[.int i s.toks,x] }->h'.objs.size= ~~~s+1->
  (∀b o,b≠e->b≠it->s.heap.get? b=some o->h'.get? b=some o)->Q (some (.ref (~~~s))) { s with heap:=h',toks:=s.toks+1 }) :
 wpAny (model prog w) A (pyNext (.ref e)) Q E s:=by
 have hT:s.TypeIs (.ref e) "enumerate":=⟨_,he,rfl⟩
 unfold pyNext
 exact wa (ji (wpAny_callSpecial?_slot (name:=Str.ofString "__next__") hT F.slot_enumerate_next
  (wf F.slot_enumerate_next hT F.entry_enumerate_next
   (Ymq he hit hl hx hne λh' a b c d k=>wc (hQ h' a b c d k)) (F.args_enumerate_next_1 _))))
theorem Ylq{i:Nat}(hh:A.handled=none)
 (he:IsEnum s.heap e it i old) (hit:s.heap.IsTupleIter it l i) (hl:s.heap.IsTuple l items) (hx:items[i]?=none)
 (hQ:∀h',Heap.ExtBut it s.heap h'->Q none { s with heap:=h' }):wpAny (model prog w) A (pyNext (.ref e)) Q E s:=by
 have hT:s.TypeIs (.ref e) "enumerate":=⟨_,he,rfl⟩
 unfold pyNext
 refine wa (ji (wpAny_callSpecial?_slot (name:=Str.ofString "__next__") hT F.slot_enumerate_next
  (wf F.slot_enumerate_next hT F.entry_enumerate_next ?_ (F.args_enumerate_next_1 _))))
 show wpAny _ _ (field (.ref e) 2>>=_) _ _ _;refine wa (wpAny_field he rfl (x:=.ref it) rfl ?_);refine wa (Ylp hh hit hl hx λh' x he' hx'=>?_);obtain⟨o,ho,hc⟩:=hx';refine wa (wpAny_isInstance (T:="StopIteration") (b:=true) ⟨o,ho,hc⟩ isSubtype_stop ?_);exact wc (hQ _ he')
theorem Ymr(l:Addr)(items:Array Value)(n:Nat)(dct:Option Addr)(sl:Array (Option Value)) :
 Meets (Builtin.«enumerate.__new__» ⟨[.type "enumerate",.ref l],[]⟩) (λ_ R s=>s.heap.get? l=some { cls:=.type "tuple",dict:=dct,data:=.seq items n,slots:=sl }/\
  R (.ok (.ret (.ref (s.heap.push { cls:=.type "tuple_iterator",data:=.fields #[.ref l,.int 0 0] }).objs.size)))
   { s with heap:=(s.heap.push { cls:=.type "tuple_iterator",data:=.fields #[.ref l,.int 0 0] }).push { cls:=.type "enumerate",data:=.fields #[.none,.bool false,.ref (~~~s),rawInt 0,.none,.none] } }):=
 .of_wp λprog w A R s h=>by
  obtain⟨hp,g,d,tk,os⟩:=s;obtain⟨hl,h⟩:=h;have hsub:=sub_enumerate
  have hL:Heap.IsTuple (Shared.heap ⟨hp,g,d,tk,os⟩) l items:=⟨_,hl,rfl,n,rfl⟩
  wp_walk using PySem.AutoSeq1.wpAny_loadPart' hl
  refine wpAny_stack_any λst=>wc ?_
  split
  ·rename_i c _ _ _ _ _
   cases (c==Value.type "enumerate")
   ·wp_walk using PySem.AutoSeq1.wpAny_loadPart' hl,wpAny_pyIter_tuple hL
    exact⟨_,rfl,h⟩
   ·wp_walk using PySem.AutoSeq1.wpAny_loadPart' hl,wpAny_pyIter_tuple hL
    exact⟨_,rfl,h⟩
  ·wp_walk using PySem.AutoSeq1.wpAny_loadPart' hl,wpAny_pyIter_tuple hL
   exact⟨_,rfl,h⟩
theorem Yh6(hL:s.heap.IsTuple l items)
 (h:∀h',IsEnum h' (~~~s+1) (~~~s) 0 .none->h'.IsTupleIter (~~~s) l 0->h'.objs.size= ~~~s+2->
  (∀b o,s.heap.get? b=some o->h'.get? b=some o)->Q (.ref (~~~s+1)) { s with heap:=h' }) :
 wpAny (model prog w) A (call (.type "enumerate") [.ref l]) Q E s:=by
 obtain⟨⟨c,dct,dt,sl⟩,hl,hc,n,hd⟩:=hL;replace hc:c=.type "tuple":=hc;replace hd:dt=.seq items n:=hd;subst hc hd
 refine callType_new F.called_enumerate (by decide) (F.typeCall_enumerate_1 _) (F.newCall_enumerate_1 _) (λobj=>F.args_object_init_2 obj _) F.entry_enumerate_new
  (Ymr l items n dct sl) ⟨hl,?_⟩
 have hz:(s.heap.push { cls:=.type "tuple_iterator",data:=.fields #[.ref l,.int 0 0] }).objs.size= ~~~s+1:=ww ..;show _/\_;rw[hz]
 have he:IsEnum ((s.heap.push { cls:=.type "tuple_iterator",data:=.fields #[.ref l,.int 0 0] }).push
  { cls:=.type "enumerate",data:=.fields #[.none,.bool false,.ref (~~~s),rawInt 0,.none,.none] }) (~~~s+1) (~~~s) 0 .none:=by
  have:=qp (s.heap.push { cls:=.type "tuple_iterator",data:=.fields #[.ref l,.int 0 0] })
   (o:={ cls:=.type "enumerate",data:=.fields #[.none,.bool false,.ref (~~~s),rawInt 0,.none,.none] }) rfl
  grind
 refine⟨⟨_,he,rfl⟩,h _ he ⟨_,qe _ (qp _ rfl),rfl,rfl⟩ (by simp_all) λb o x=>qe _ (qe _ x)⟩
end
theorem Yjj{σ:L2.St}{ch:List Addr}{T:Addr}(I:Inv X pins σ H s)(hf:∀b∈ch,FpOk X pins H b)
 (k:∀b u,b∉ch->s.heap.get? b=some u->h'.get? b=some u) (hT:(~~~s)<=T) (new:ObjOk X.prog X.w (upd H T o) h' T o):Inv X pins σ (upd H T o) { s with heap:=h',toks:=t' }:=by
 have fr:H T=none:=I.hok.fresh hT
 have nch:∀b u,H b=some u->b∉ch:=λb u e z=>by rw[(hf b z).1]at e;cases e
 refine I.step (g':=s.gens) (d':=s.drawn) (ch:=ch) (λb hb=>?_) (λb u _ _ hc e _=>k b u hc e) (λb u _ _ hc e _=>⟨u.slots,k b u hc e⟩) (λb u _ e n=>?_)
  (λb u hc e=>⟨u,k b u hc e⟩) (λb xs e=>?_) (λb u xs e=>?_) (λb ps e=>⟨#[],?_⟩) (λm hm=>?_) (λb u e=>?_) I.bare
 ·obtain⟨_,f1,_,f3,f4,f5⟩:=hf b hb
  grind
 ·rw[Yx (qm (Qc (ql e) hT))];exact n
 ·rw[Yx (y4 e fr)];exact e
 ·rw[Yx (y4 e fr)];exact e
 ·rw[Yx (y4 e fr),e];simp
 ·obtain⟨ob,es,ep,ho,r⟩:=hm
  exact⟨ob,es,ep,k _ ob (λz=>(hf _ z).2.1 rfl) ho,r⟩
 ·by_cases hb:b=T
  ·subst hb;rw[Yy]at e;grind
  ·rw[Yx hb]at e
   refine(I.hok b u e).stay (λc v hc q=>k c v ?_ q) (λc q=>by rw[Yx (y4 q fr)];exact q) λc xs q=>by rw[Yx (y4 q fr)];exact q
   grind
def IteL(K:W.Frag)(a:Addr):It:=
 ⟨λi H=>∃xs x,SqL K H a xs/\xs[i]?=some x,λi H x H'=>∃y p,(∀xs,SqL K H a xs->xs[i]?=some y)/\H p=none/\x=.ref p/\H'=upd H p (.tup [.int i,y]),λi H=>∃xs,SqL K H a xs/\xs.length<=i⟩
def IteT(K:W.Frag)(a:Addr):It:=
 ⟨λi H=>∃xs x,SqT K H a xs/\xs[i]?=some x,λi H x H'=>∃y p,(∀xs,SqT K H a xs->xs[i]?=some y)/\H p=none/\x=.ref p/\H'=upd H p (.tup [.int i,y]),λi H=>∃xs,SqT K H a xs/\xs.length<=i⟩
section
variable {elts:AL}{x1:Nat}{pt:Pos}
theorem Yy7(a it e:Addr)(hei:e≠it):Turn P w K (.Tuple elts x1 pt) (IteL K a) [e,it] e (λi h=>(∃old,IsEnum h e it i old)/\h.IsListIter it a i) where
 mem:=by simp
 obj:=λi h st b hb=>by
  obtain⟨⟨old,he⟩,hit⟩:=st;rcases qt hb with rfl|hb
  ·grind
  ·have z:b=it:=by grind
   subst z;obtain⟨o,q,c,d⟩:=hit;grind
 keep:=λi h h' st k=>by
  obtain⟨⟨old,he⟩,hit⟩:=st;exact⟨⟨old,k e (by simp) _ he⟩,hit.at λo q=>k it (by simp) o q⟩
 item:=by
  intro X hP hw hK hc i pins s σ H E I hf st hg;subst hP hw hK;obtain⟨xs,x,hq,hx⟩:=hg;obtain⟨its,rv,p,hz⟩:=I.list hq;obtain⟨u,hu,ru⟩:=rv.get hx;obtain⟨⟨old,he⟩,hit⟩:=st;refine wpAny_pyNext_enum_item he hit p.isList (x:=u) (by grind) hei λh' ho hit' hT hsz hk=>?_;refine⟨_,rfl,wpAny_letOwnedTupleGo_enum ho λh2 he2 hs2=>?_⟩;have fr:H (~~~s)=none:=I.fresh
  have hne:∀b∈[e,it],b≠(~~~s):=λb hb z=>by
   rcases qt hb with rfl|hb
   ·grind
   ·have z2:b=it:=by grind
    subst z2;obtain⟨o,q,_⟩:=hit;exact absurd (ql q) (by grind)
  have kk:∀b o,b∉[e,it]->s.heap.get? b=some o->h2.get? b=some o:=λb o hb q=>by
   have h1:b≠e:=λz=>hb (by simp[z]);have h3:b≠it:=λz=>hb (by simp[z]);exact(hs2.2 b h1).trans (hk b o h1 h3 q)
  have tT:h2.get? (~~~s)=some { cls:=.type "tuple",data:=.seq #[.int i s.toks,u] }:=(hs2.2 _ (Ne.symm (hne e (by simp)))).trans hT;refine⟨.ref (~~~s),upd H (~~~s) (.tup [.int i,x]),(show Inv X pins σ _ { s with heap:=h2,toks:=s.toks+1 } from Yjj (s:=s) (t':=s.toks+1) I hf kk (qu _) ?_),rfl,⟨x,~~~s,λys hy=>by rw[I.list_inj hy hq];exact hx,fr,rfl,rfl⟩,⟨⟨_,by simpa using he2⟩,hit'.at λo q=>(hs2.2 it (Ne.symm hei)).trans q⟩,λb hb=>?_⟩
  ·exact⟨by rw[jj];grind,[.int i s.toks,u],.cons ⟨_,rfl⟩ (.cons ru .nil),_,tT,rfl,0,rfl⟩
  ·rw[Yx (hne b hb)];exact(hf b hb).1
 done:=by
  intro X hP hw hK hc i pins s σ H E I hf st hg;subst hP hw hK;obtain⟨xs,hq,hx⟩:=hg;obtain⟨its,rv,p,hz⟩:=I.list hq;obtain⟨⟨old,he⟩,hit⟩:=st;obtain⟨f0,f1,f2,f3,f4,f5⟩:=hf it (by simp);have hl:=rv.length
  exact wpAny_pyNext_enum_end (I.ok.hd hc) he hit p.isList (by simp;lia) λh' eb=>⟨rfl,I.turned (t':=s.toks) (λb o hb e=>eb b o hb e) f0 f1 f3 f4 f5⟩
 self:=λ_ _ _ _ _ st h=>let ⟨⟨_,he⟩,_⟩:=st;wpAny_pyIter_enum he h
theorem Yy8(a it e:Addr)(hei:e≠it):Turn P w K (.Tuple elts x1 pt) (IteT K a) [e,it] e (λi h=>(∃old,IsEnum h e it i old)/\h.IsTupleIter it a i) where
 mem:=by simp
 obj:=λi h st b hb=>by
  obtain⟨⟨old,he⟩,hit⟩:=st;rcases qt hb with rfl|hb
  ·grind
  ·have z:b=it:=by grind
   subst z;obtain⟨o,q,c,d⟩:=hit;grind
 keep:=λi h h' st k=>by
  obtain⟨⟨old,he⟩,hit⟩:=st;exact⟨⟨old,k e (by simp) _ he⟩,hit.at λo q=>k it (by simp) o q⟩
 item:=by
  intro X hP hw hK hc i pins s σ H E I hf st hg;subst hP hw hK;obtain⟨xs,x,hq,hx⟩:=hg;obtain⟨its,rv,p,hz⟩:=I.tuple hq;obtain⟨u,hu,ru⟩:=rv.get hx;obtain⟨⟨old,he⟩,hit⟩:=st;refine Ykt he hit (show s.heap.IsTuple a its.toArray from p) (x:=u) (by grind) hei λh' ho hit' hT hsz hk=>?_;refine⟨_,rfl,wpAny_letOwnedTupleGo_enum ho λh2 he2 hs2=>?_⟩;have fr:H (~~~s)=none:=I.fresh
  have hne:∀b∈[e,it],b≠(~~~s):=λb hb z=>by
   rcases qt hb with rfl|hb
   ·grind
   ·have z2:b=it:=by grind
    subst z2;obtain⟨o,q,_⟩:=hit;exact absurd (ql q) (by grind)
  have kk:∀b o,b∉[e,it]->s.heap.get? b=some o->h2.get? b=some o:=λb o hb q=>by
   have h1:b≠e:=λz=>hb (by simp[z]);have h3:b≠it:=λz=>hb (by simp[z]);exact(hs2.2 b h1).trans (hk b o h1 h3 q)
  have tT:h2.get? (~~~s)=some { cls:=.type "tuple",data:=.seq #[.int i s.toks,u] }:=(hs2.2 _ (Ne.symm (hne e (by simp)))).trans hT;refine⟨.ref (~~~s),upd H (~~~s) (.tup [.int i,x]),(show Inv X pins σ _ { s with heap:=h2,toks:=s.toks+1 } from Yjj (s:=s) (t':=s.toks+1) I hf kk (qu _) ?_),rfl,⟨x,~~~s,λys hy=>by rw[I.tuple_inj hy hq];exact hx,fr,rfl,rfl⟩,⟨⟨_,by simpa using he2⟩,hit'.at λo q=>(hs2.2 it (Ne.symm hei)).trans q⟩,λb hb=>?_⟩
  ·exact⟨by rw[jj];grind,[.int i s.toks,u],.cons ⟨_,rfl⟩ (.cons ru .nil),_,tT,rfl,0,rfl⟩
  ·rw[Yx (hne b hb)];exact(hf b hb).1
 done:=by
  intro X hP hw hK hc i pins s σ H E I hf st hg;subst hP hw hK;obtain⟨xs,hq,hx⟩:=hg;obtain⟨its,rv,p,hz⟩:=I.tuple hq;obtain⟨⟨old,he⟩,hit⟩:=st;obtain⟨f0,f1,f2,f3,f4,f5⟩:=hf it (by simp);have hl:=rv.length
  exact Ylq (I.ok.hd hc) he hit (show s.heap.IsTuple a its.toArray from p) (by simp;lia) λh' eb=>⟨rfl,I.turned (t':=s.toks) (λb o hb e=>eb b o hb e) f0 f1 f3 f4 f5⟩
 self:=λ_ _ _ _ _ st h=>let ⟨⟨_,he⟩,_⟩:=st;wpAny_pyIter_enum he h
variable {X:Cx}{pos:Pos}
def Yafe(K:W.Frag)(ta:TA):TI:=λσ H R=>ta σ H λvs H1=>∃a xs,vs=[.ref a]/\((SqL K H1 a xs/\(xs.length<=sizeLine->R (IteL K a) H1))\/(SqT K H1 a xs/\(xs.length<=sizeLine->R (IteT K a) H1)))
theorem y81(hg:Gl X "enumerate")(hm:X.mg "enumerate"=none)(ha:PA X [l] ta)(hs:starEach [l] X.env=[(false,eval l X.env)]:=by rfl):PI X (.Tuple elts x1 pt) (.Call (.Name "enumerate" p) [l] [] pos) (Yafe X.K ta):=by
 intro pins s σ H R I h;refine Call_ (Yl5 I hg hm boot_enumerate (PyProof.Rows.callWith_type1 (thn (ha pos pins s σ H _ I h) λus s1 hx_=>?_) hs rfl));obtain⟨vs,H1,I1,r1,q1⟩:=hx_;obtain⟨a,xs,rfl,q⟩:=q1;obtain⟨u,rfl,ru⟩:=Yfj r1;cases ru
 have fin:∀(h':Heap),h'.objs.size= ~~~s1+2->(∀b o,s1.heap.get? b=some o->h'.get? b=some o)->∀b∈[~~~s1+1,~~~s1],FpOk X pins H1 b:=λh' hz hk b hb=>by
  have hb':(~~~s1)<=b:=by
   grind
  exact I1.fpOk hb' (I1.hok.fresh hb')
 rcases q with⟨hq,q⟩|⟨hq,q⟩
 ·obtain⟨its,rv,pl,hz⟩:=I1.list hq
  refine call_enumerate_list pl.isList λh' he hit hsz hk=>wpAny_pyIter_enum (s:={ s1 with heap:=h' }) he ?_;exact⟨_,[~~~s1+1,~~~s1],_,_,H1,rfl,I1.kept (t':=s1.toks) hk,Yy7 a (~~~s1) _ (Nat.succ_ne_self _),⟨⟨_,he⟩,hit⟩,fin h' hsz hk,q hz⟩
 ·obtain⟨its,rv,pl,hz⟩:=I1.tuple hq
  refine Yh6 (show s1.heap.IsTuple a its.toArray from pl) λh' he hit hsz hk=>wpAny_pyIter_enum (s:={ s1 with heap:=h' }) he ?_;exact⟨_,[~~~s1+1,~~~s1],_,_,H1,rfl,I1.kept (t':=s1.toks) hk,Yy8 a (~~~s1) _ (Nat.succ_ne_self _),⟨⟨_,he⟩,hit⟩,fin h' hsz hk,q hz⟩
def Yog(l:AQ):AQ:=(List.range l.length).map λi:Nat=>.tup [.int (i:Int),l.getD i .non]
def Yy9(c:D):Option AQ:=(Yr c).map Yog
theorem Yms{i:Nat}(h:(Yog l)[i]?=some d):∃e,l[i]?=some e/\d=.tup [.int i,e]:=by
 unfold Yog at h;grind
theorem Yca(l:AQ):(Yog l).length=l.length:=by simp[Yog]
theorem Gr.newTup(s:Same G H)(hp:H p=none)(i:Nat)(r:Rp K G d x):∃G3,Gr H G (upd H p (.tup [.int i,x])) G3/\Rp K G3 (.tup [.int i,d]) (.ref p):=by
 refine⟨_,Gr.new s hp (.tup [.int i,x]),?_⟩;rw[Rp];exact⟨p,_,rfl,Yy,.cons (by rw[Rp]) (.one (r.mono (Gr.new s hp _).g))⟩
end
end
section
variable {K:W.Frag}
def Yoh(k:Int):Value->Bool
 | .int i _=>i==k
 | .bool b=>(if b then 1 else 0)==k
 | _=>false
theorem Ycs(h:Yoh k v=true):(∃t,v=.int k t)\/∃b:Bool,v=.bool b/\k=if b then 1 else 0:=by
 cases v with
 | int i t=>
   have e:i=k:=by simpa [Yoh]using h
   grind
 | bool b=>
   have e:(if b then (1:Int)else 0)=k:=by simpa [Yoh]using h
   grind
 | _=>simp[Yoh]at h
theorem Yu6(h:Q (hashInt (if b then 1 else 0)) { s with toks:=s.toks+1 }) :
 wpAny (model prog w) A (pyHash (.bool b)) Q E s:=by
 have hr:=rawHash_range (if b then 1 else 0);have hT:s.TypeIs (.bool b) "bool":=rfl;unfold pyHash
 first|unfold pyHashByItsType|skip
 have hv:[Value.bool b].any Value.onHeap=false:=rfl;refine wa ?_;rw[cRoomFor,if_neg (by grind)];refine wc ?_;refine wa (wpAny_specialOf hT F.slot_bool_hash.lookup ?_);show wpAny _ _ (if (some (Value.builtin "int.__hash__")==some Value.none)=true then _ else _) Q E s;rw[if_neg (by grind)];refine wa (wpAny_specialOf hT F.slot_bool_hash.lookup ?_);show wpAny _ _ (callSpecialIfBoundUnlessNone? (.bool b) "__hash__" _>>=_) Q E s
 refine wa (wpAny_callSpecialIfBoundUnlessNone?_slot hT F.slot_bool_hash
  (wf F.slot_bool_hash hT entry_int_hash
   (show wpAny _ _ (do ret (<-mkInt (rawHash (if b then 1 else 0)))) _ _ s from wpAny_ret_mkInt ?_) (args_int_hash _)))
 show wpAny _ _ (if (decide (-(2:Int)^63<=rawHash (if b then 1 else 0))&&decide (rawHash (if b then 1 else 0)<2^63))=true then _ else _) Q E _;rw[if_pos (by grind)];exact wc h
def Ygz(prog:Program)(w:World):KeyKind prog w Int where
 is:=Yoh
 hash:=hashInt
 inj:=λv a b ha hb=>by
  rcases Ycs ha with⟨t,rfl⟩|⟨c,rfl,rfl⟩
  ·have e:a=b:=by simpa [Yoh]using hb
   exact e
  ·have e:(if c then (1:Int)else 0)=b:=by simpa [Yoh]using hb
   exact e
 byValue:=λk v h=>by
  rcases Ycs h with⟨t,rfl⟩|⟨c,rfl,rfl⟩<;>rfl
 pyHash:=λhv h=>by
  rcases Ycs hv with⟨t,rfl⟩|⟨c,rfl,rfl⟩
  ·exact wpAny_pyHash_int h
  ·exact Yu6 h
 eqBool:=λ{A E s a b u v Q} hu hv h=>by
  rcases Ycs hu with⟨t,rfl⟩|⟨c,rfl,rfl⟩
  ·rcases Ycs hv with⟨t',rfl⟩|⟨c',rfl,rfl⟩
   ·exact wpAny_eqBool_int (by grind)
   ·exact SeqAt.EqAt.int_bool a t c' _ _ _ _ (by grind)
  ·rcases Ycs hv with⟨t',rfl⟩|⟨c',rfl,rfl⟩
   ·exact SeqAt.EqAt.bool_int c b t' _ _ _ _ (by grind)
   ·refine SeqAt.EqAt.bool_bool c c' _ _ _ _ ?_
    have e:(c==c')=decide ((if c=true then (1:Int)else 0)=if c'=true then 1 else 0):=by grind
    grind
 «strs»:=λk x t v h=>by simp[Yoh]at h
end
section
open Sem (wp)
variable {K:W.Frag}
theorem y1u:typeLookup (.type "list_reverseiterator") "__len__"=pure none:=by rw[typeLookup_type,builtinLookup_eq_fast];kernel_rfl
theorem y42:typeLookup (.type "list_reverseiterator") "__length_hint__"=pure (some (.builtin "list_reverseiterator.__length_hint__")):=by rw[typeLookup_type,builtinLookup_eq_fast];kernel_rfl
set_option maxRecDepth 100000 in
theorem Yza{prog:Program}{w:World}{A:Around}{s:Shared}{R:Result->Shared->Prop}{I:Addr}{fp wr:List Addr}{G:Array GenState->Array GenState->Prop}{n:Nat}{P:Nat->Value->Prop}{St:Nat->Shared->Prop}
 (W:WalksS prog w A.in1 I fp wr G n P St) (hT:∀i s,St i s->s.TypeIs (.ref I) "list_reverseiterator") (S:Addr) (res:Value) (c₀:Nat) (hst:St 0 s) (hSf:S∉fp) (hI:I∈fp)
 (hS:s.heap.get? S=some { cls:=.type "list",data:=.seq #[] c₀ })
 (hR:∀s' acc' c',Moved (S::wr) G s s'->s'.heap.get? S=some { cls:=.type "list",dict:=none,data:=.seq acc' c',slots:=#[] }->ItemsOf P acc' n->R (.ok (.ret res)) s') (hn:n<=sizeLine) :
 wpAny (model prog w) A.in1 (Builtin.List.listExtendWith (.ref S) (.ref I) res)
  (λfin s'=>match fin with|.done f=>R (.ok f) s'|.again c'=>c'.quiet=true/\codeAny (model prog w) A c' R s') (λe s'=>R (.error e) s') s:=by
 have hSI:S≠I:=λe=>hSf (e ▸ hI)
 have h1:Builtin.List.listSameRef (.ref S) (.ref I)=false:=by simp[Builtin.List.listSameRef,hSI]
 unfold Builtin.List.listExtendWith;refine wa (wpAny_typeOf (hT 0 _ hst) ?_);rw[if_neg (by grind)];refine wa (W.self 0 _ _ _ hst ?_);refine wa (we ?_);unfold Builtin.List.listLengthHint;refine wa (wpAny_specialOf (hT 0 _ hst) y1u ?_);show wpAny _ A.in1 (specialOf (Value.ref I) (Str.ofString "__length_hint__")>>=_) _ _ _;refine wa (wpAny_specialOf (hT 0 _ hst) y42 ?_)
 (generalize hid:("list_reverseiterator.__length_hint__":String)=id0;(fail_if_success (clear hid id0));wp_delta;rw[show splitId id0=some ("list_reverseiterator","__length_hint__") from by subst hid;decide +kernel];subst hid)
 refine wa (wpAny_isInstance (b:=true) (hT 0 _ hst) (by rw[isSubtype_type];kernel_rfl) ?_);refine wc ?_;rw[if_neg (by decide)];exact wc ⟨je F.plain_extend_loop _,codeAny_extend_loopS W hn _ hSf _ n 0 _ _ _ rfl (jc _) hst hS (ItemsOf.nil P) hR⟩
theorem Yqm{prog:Program}{w:World}{A:Around}{s:Shared}{R:Result->Shared->Prop}{I:Addr}{fp wr:List Addr}{G:Array GenState->Array GenState->Prop}{n:Nat}{P:Nat->Value->Prop}{St:Nat->Shared->Prop}
 (W:WalksS prog w A.in1 I fp wr G n P St) (hT:∀i s,St i s->s.TypeIs (.ref I) "list_reverseiterator") (S:Addr) (hst:St 0 s) (hSf:S∉fp) (hI:I∈fp)
 (hS:s.heap.get? S=some { cls:=.type "list",data:=.seq #[] })
 (hR:∀s' acc' c',Moved (S::wr) G s s'->s'.heap.get? S=some { cls:=.type "list",dict:=none,data:=.seq acc' c',slots:=#[] }->ItemsOf P acc' n->R (.ok (.ret .none)) s') (hn:n<=sizeLine) :
 wpAny (model prog w) A.in1 (Builtin.«list.__init__» ⟨[.ref S,.ref I],[]⟩)
  (λfin s'=>match fin with|.done f=>R (.ok f) s'|.again c'=>c'.quiet=true/\codeAny (model prog w) A c' R s') (λe s'=>R (.error e) s') s:=by
 show wpAny _ A.in1 (do let old <-Builtin.List.listItems (.ref S);Builtin.List.listUpdate (.ref S) (λ_=>#[]);letGo old.toList.reverse;Builtin.List.listExtendWith (.ref S) (.ref I) .none) _ _ s;refine wa ?_;unfold Builtin.List.listItems;refine wa (wpAny_seqItems hS rfl (wc ?_));show wpAny _ A.in1 (updateSeq S (λ_=>#[])>>=λ_=>letGo (#[]:Array Value).toList.reverse>>=λ_=>Builtin.List.listExtendWith (.ref S) (.ref I) .none) _ _ s;refine wa (wpAny_updateSeq hS rfl ?_);have hS₂:=wx (Obj.mapSeq (λ_=>(#[]:Array Value))) hS rfl
 have oth:∀b o,b≠S->s.heap.get? b=some o->(s.heap.update S (Obj.mapSeq (λ_=>(#[]:Array Value)))).get? b=some o:=
  λb o hb e=>(Heap.get?_update_other _ _ (Ne.symm hb)).trans e
 refine wa (wpAny_letGo ?_);refine Yza (hn:=hn) W hT S .none _ (W.frame 0 s _ s.toks hst (qu _) λb hb o e=>oth b o (λh=>hSf (h ▸ hb)) e) hSf hI hS₂ λs' acc' c' hm hS' hacc=>?_;exact hR s' acc' c' (Moved.trans W.gtrans ((Moved.refl W.grefl).then_heap (qu _) λb o hb e=>oth b o (λh=>hb (h ▸ qh)) e) hm) hS' hacc
section
variable {prog:Program}{w:World}{A:Around}{E:AA}{s:Shared}{I:Addr}{fp wr:List Addr}{G:Array GenState->Array GenState->Prop}{n:Nat}{P:Nat->Value->Prop}{St:Nat->Shared->Prop}
theorem Ymt{Q:AA}(W:WalksS prog w A.in1.in1 I fp wr G n P St)(hT:∀i s,St i s->s.TypeIs (.ref I) "list_reverseiterator")(hst:St 0 s)(hfp:∀b∈fp,b< ~~~s)(hI:I∈fp)
 (hQ:∀s' acc' c',Moved (~~~s::wr) G { s with heap:=s.heap.push { cls:=.type "list",data:=.seq #[] } } s'->
  s'.heap.get? (~~~s)=some { cls:=.type "list",dict:=none,data:=.seq acc' c',slots:=#[] }->ItemsOf P acc' n->Q (.ref (~~~s)) s') (hn:n<=sizeLine) :
 wpAny (model prog w) A (call (.type "list") [.ref I]) Q E s:=by
 have hSf:(~~~s)∉fp:=λhm=>Nat.lt_irrefl _ (hfp _ hm)
 refine callType_codes (Q₁:=λobj s₁=>obj=.ref (~~~s)/\s₁={ s with heap:=s.heap.push { cls:=.type "list",data:=.seq #[] } }) F.called_list (F.typeCall_list_1 _) F.entry_list_init
  (code_list_new _ ⟨rfl,rfl⟩) λobj s₁ h₁=>?_
 obtain⟨rfl,rfl⟩:=h₁;have hS:(s.heap.push { cls:=.type "list",data:=.seq #[] }).get? (~~~s)=some { cls:=.type "list",data:=.seq #[] }:=qp _ rfl;refine⟨⟨_,hS,rfl⟩,F.args_list_init_2 _ _,Yqm (hn:=hn) W hT _ (W.frame 0 s _ s.toks hst (qu _) λb _ o e=>qe _ e) hSf hI hS λs' acc' c' hm hS' hacc=>?_⟩;exact⟨rfl,hQ s' acc' c' hm hS' hacc⟩
end
theorem y1v{items acc:Array Value}(h:ItemsOf (λi v=>items[items.size-1-i]?=some v) acc items.size):acc.toList=items.toList.reverse:=by
 obtain⟨h1,h2⟩:=h;apply List.ext_getElem?;grind
theorem Ylf:∀{xs:AN}{us:AC},Vals xs us->Vals xs.reverse us.reverse
 | _,_,.nil=>.nil
 | _,_,.cons r t=>by
   rw[List.reverse_cons,List.reverse_cons];exact(Ylf t).append (.cons r .nil)
section
variable {X:Cx}{e:Expr}{ta:TA}{p p2 pos pos2:Pos}
theorem y43{σ:L2.St}(I:Inv X pins σ H s)(hg2:Gl X "reversed")(hm2:X.mg "reversed"=none)(ha:PA X [e] ta)(h:ta σ H q)
 (hs:starEach [e] X.env=[(false,eval e X.env)])
 (k:∀vs H1 s1,Inv X pins σ H1 s1->q vs H1->∃a xs its,vs=[.ref a]/\SqL X.K H1 a xs/\Vals xs its/\s1.heap.IsList a its.toArray/\Q (.ref (~~~s1)) { s1 with heap:=s1.heap.push (revObj a ((its.toArray.size:Int)-1)) }) :
 wpAny (model X.prog X.w) X.A (eval (.Call (.Name "reversed" p2) [e] [] pos2) X.env) Q X.xe s:=by
 refine Call_ (Yl5 I hg2 hm2 boot_reversed (PyProof.Rows.callWith_type1 (thn (ha pos2 pins s σ H _ I h) λus s1 hx_=>?_) hs rfl));obtain⟨vs,H1,I1,r1,q1⟩:=hx_;obtain⟨a,xs,its,rfl,hq,rv,pl,z⟩:=k vs H1 s1 I1 q1;obtain⟨u,rfl,ru⟩:=Yfj r1;cases ru;exact call_reversed_list pl z
def Yaff(K:W.Frag)(ta:TA):TE:=λσ H Q=>ta σ H λvs H1=>∃a xs,vs=[.ref a]/\SqL K H1 a xs/\∀l,H1 l=none->Q (.ref l) (upd H1 l (.lst xs.reverse))
theorem Yzb(hc:X.calm=true)(hg:Gl X "list")(hm:X.mg "list"=none)(hg2:Gl X "reversed")(hm2:X.mg "reversed"=none)(ha:PA X [e] ta)(hs:starEach [e] X.env=[(false,eval e X.env)]:=by rfl)
 (he:starEach [.Call (.Name "reversed" p2) [e] [] pos2] X.env=[(false,eval (.Call (.Name "reversed" p2) [e] [] pos2) X.env)]:=by rfl) :
 PE X (.Call (.Name "list" p) [.Call (.Name "reversed" p2) [e] [] pos2] [] pos) (Yaff X.K ta):=by
 intro pins s σ H Q I h;refine wpAny_Call_Name_kw (Yl5 I hg hm boot_list ?_ (by decide) (by decide));refine PyProof.Rows.callWith_type1 ?_ he rfl;rw[he];refine Calls.spliced_cons (y43 I hg2 hm2 ha h hs λvs H1 s1 I1 q1=>?_);obtain⟨a,xs,rfl,hq,q⟩:=q1;obtain⟨its,rv,pl,hz⟩:=I1.list hq;refine⟨a,xs,its,rfl,hq,rv,pl.isList,Calls.spliced_nil ?_⟩
 have hne:a≠(~~~s1):=by
  obtain⟨o,ho,_⟩:=pl.isList;exact qm (ql ho)
 have hlt:a< ~~~s1:=by
  obtain⟨o,ho,_⟩:=pl.isList;exact ql ho
 have hl:=rv.length;refine Ymt (Walks.listRev (show X.A.in1.in1.handled=none from I1.ok.hd hc) (~~~s1) a hne its.toArray).toS (λi s st=>st.2.1.typeIs) ⟨jc _,⟨_,qp _ rfl,rfl,by simp[revObj]⟩,pl.isList.push _⟩ (λb hb=>?_) (by simp) (λs' acc' c' hm' hS' hacc=>?_) (by rw[qk];lia)
 ·show b<(s1.heap.push _).objs.size
  rw[ww];rcases qt hb with rfl|hb
  ·exact qz _
  ·rw[List.mem_singleton.mp hb];exact qw hlt
 ·have hsz:(s1.heap.push (revObj a ((its.toArray.size:Int)-1))).objs.size= ~~~s1+1:=ww ..
  rw[Moved.eq_with hm']at hS' ⊢;rw[hsz]at hS' ⊢
  have kp:∀b u,s1.heap.get? b=some u->s'.heap.get? b=some u:=λb u qb=>by
   have hb:b< ~~~s1:=ql qb;refine hm'.heap b u (λz=>?_) (qe _ (qe _ qb));rw[hsz]at z;rcases qt z with z|z
   ·exact absurd hb (by rw[z];exact Nat.not_lt.mpr (Nat.le_succ _))
   ·rw[List.mem_singleton.mp z]at hb;exact absurd hb (Nat.lt_irrefl _)
  have ev:acc'.toList=its.reverse:=by simpa using y1v hacc
  refine⟨.ref (~~~s1+1),upd H1 (~~~s1+1) (.lst xs.reverse),?_,rfl,q _ (I1.hok.fresh (Nat.le_succ _))⟩;exact I1.laid (t':=s'.toks) kp (Nat.le_succ _) (show ObjOk X.prog X.w _ _ _ (.lst xs.reverse) from⟨by rw[List.length_reverse];exact hz,acc'.toList,c',by rw[ev];exact Ylf rv,by rw[Array.toArray_toList];exact hS'⟩)
def revF(f:AV):AW:=λρ=>(b1 f lstD ρ).map List.reverse
variable {f:AV}
end
end
section
variable {K:W.Frag}
section
variable {X:Cx}{e ie:Expr}{f fb:AV}{pos:Pos}
def rExt:V->AN->Hp->VK->Prop:=λx vs H Q=>∃l b xs zs,x=.ref l/\vs=[.ref b]/\H l=some (.lst xs)/\Rd H b (.lst zs)/\xs.length+zs.length<=sizeLine/\Q .non (upd H l (.lst (xs++zs)))
theorem Yacy:MtM X "list.extend" rExt:=by
 intro pins s σ H x vs v us Q I rx rv h;obtain⟨l,b,xs,zs,rfl,rfl,hH,hB,hz,q⟩:=h;cases rx;obtain⟨u,rfl,ru⟩:=rv.one;cases ru;obtain⟨z,its,n,r,hl,e⟩:=I.lstM hH;obtain⟨z2,its2,n2,r2,e2⟩:=hB.ok I.hok;have hl2:=r2.length
 have hsz:its.toArray.size+its2.toArray.size<=sizeLine:=by grind
 have hlong:¬(!its.toArray.isEmpty&&Builtin.List.listTooLong (its.toArray.size+its2.toArray.size))=true:=by
  rw[y4m hsz,Bool.and_false];grind
 refine call_meets F.slot_list_extend ⟨_,e,rfl⟩ F.entry_list_extend (F.args_list_extend_2 _ _)
  (AutoSeq1.list_extend_list_list_0 l its.toArray n b its2.toArray n2 hlong (by grind) (by lia)) ⟨e,e2,?_⟩
 refine⟨.non,_,I.lset (its':=its++its2) hH e (by simp) (r.append r2) ?_,rfl,q⟩;grind
def extD(l:AQ)(d:D):Option AQ:=match d with
 | .lst m=>if l.length+m.length<=cap6 then some (l++m)else none
 | _=>none
end
end
section
variable {K:W.Frag}
def SE(w:World):List DictEntry->List (Str×Str)->Prop:=Paired λe p=>e.hash=PyData.keyHash w.params p.1/\(∃t,e.key=.str p.1 t)/\(∃t,e.val=.str p.2 t)/\PyData.strOk p.2=true
def GD(K:W.Frag)(w:World)(mg:AE)(x:Str)(kvs:List (Str×Str)):Prop:=∃p o es ep,mg x=some (.ref p)/\K.lookup p=some o/\o.ExactDict/\o.data=.dict es ep/\SE w es.toList kvs
def GI(mg:AE)(x:Str)(i:Int):Prop:=∃t,mg x=some (.int i t)
theorem Yu7:∀{l:List DictEntry}{kvs:List (Str×Str)},SE w l kvs->kvs.lookup k=some v->∃e t,l.find? (λe=>(PySem.strKind P w).is k e.key)=some e/\e.val=.str v t
 | _,_,.nil,h=>by simp at h
 | _,_,.cons (a:=e) (b:=p) r t,h=>by
   obtain⟨_,⟨t1,h1⟩,⟨t2,h2⟩,_⟩:=r;obtain⟨a,b⟩:=p;by_cases q:a=k
   ·subst q
    simp at h;subst h;exact⟨e,t2,by simp[List.find?_cons,h1,PySem.strKind,Value.isStrOf],h2⟩
   ·have q':¬k=a:=λz=>q z.symm
    simp[List.lookup_cons,q']at h
    have hn:(k==a)=false:=by grind
    obtain⟨e',t',h3,h4⟩:=Yu7 (P:=P) t (by simpa [List.lookup_cons,hn]using h);refine⟨e',t',?_,h4⟩;rw[List.find?_cons]
    have:(PySem.strKind P w).is k e.key=false:=by
     rw[h1];show(a==k)=false;simpa using q
    grind
theorem y1x:∀{l:List DictEntry}{kvs:List (Str×Str)},SE w l kvs->∀e∈l,∃k,(PySem.strKind P w).is k e.key=true/\e.hash=(PySem.strKind P w).hash k
 | _,_,.nil,e,h=>by cases h
 | _,_,.cons (b:=p) r t,e,h=>by
   rcases qt h with rfl|h
   ·obtain⟨h0,⟨t1,h1⟩,_⟩:=r
    exact⟨p.1,by rw[h1];simp[PySem.strKind,Value.isStrOf],h0⟩
   ·exact y1x t e h
theorem Yacz:∀{l:List DictEntry}{kvs:List (Str×Str)},SE w l kvs->kvs.lookup k=some v->PyData.strOk v=true
 | _,_,.nil,h=>by simp at h
 | _,_,.cons (b:=p) r t,h=>by
   obtain⟨_,_,_,h1⟩:=r;obtain⟨a,b⟩:=p;by_cases q:k=a
   ·grind
   ·have hn:(k==a)=false:=by simpa using q
    exact Yacz t (by simpa [List.lookup_cons,hn]using h)
section
variable {X:Cx}{ke:Expr}{fk:AV}{pos px:Pos}{x:Str}
def y1y(kvs:List (Str×Str)):D->Option D
 | .str k=>(kvs.lookup k).map D.str
 | _=>none
end
def tK(x:Str):TE:=λ_ H Q=>Q (.str x) H
structure MP(X:Cx)(pos:Pos)(keys:List (Option Expr))(values:AL)(ks:AK)(fs:List AV):Prop where
 len:ks.length=fs.length
 pps:PPs X pos keys values ((ks.zip fs).map λp=>(tK p.1,tOf X.K p.2))
 all:keys.all (·.isSome)=true
 kv:keys.length=values.length
 kk:keys.length=ks.length
end
section
variable {K:W.Frag}
structure DtH(H:Hp)(a:Addr)(nks:List (List Int×Addr))(vxs:AN):Prop where
 at':∃ep,H a=some (dTo a nks vxs ep)
 len:nks.length=vxs.length
 nd:(nks.map (·.1)).Nodup
 keys:∀p∈nks,∃ys,H p.2=some (.tup ys)/\y8g ys=some p.1
end
section
end
section
section
variable {X:Cx}{a b c e:Expr}{fa fb fc:AV}{pos:Pos}{st:Stmt}
def ch3(fa fb fc:AV)(g g':D->D->Option Bool):AU:=λρ=>
 (fa ρ).bind λx=>(fb ρ).bind λy=>(g x y).bind λk=>if k=true then (fc ρ).bind λz=>g' y z else some false
theorem Yxb(h:ch3 fa fb fc g g' ρ=some k) :
 ∃x y,fa ρ=some x/\fb ρ=some y/\((g x y=some false/\k=false)\/(g x y=some true/\∃z,fc ρ=some z/\g' y z=some k)):=by
 unfold ch3 at h;obtain⟨x,h1,h⟩:=qa h;obtain⟨y,h2,h⟩:=qa h;obtain⟨q,h3,h⟩:=qa h;refine⟨x,y,h1,h2,?_⟩
 cases q with
 | false=>
   grind
 | true=>
   rw[if_pos rfl]at h;obtain⟨z,h4,h⟩:=qa h;grind
def nS:AS:=λ_=>none
theorem y47:MS X st nS:=λ_ _ _ _ _ _ ⟨_,_,_,_,_,h,_⟩=>nomatch h
end
end
section
section
variable {X:Cx}{e:Expr}{f:AV}{fc:AU}{gl:AW}{K:W.Frag}
def y48:D->Bool
 | .non|.bl _|.int _|.str _=>true
 | _=>false
def scal(d:D):Option D:=if y48 d=true then some d else none
theorem Rp.scal(h:y48 d=true)(r:Rp K G d v):Rp K G' d v:=by
 cases d<;>first|(rw[Rp]at r ⊢;exact r)|cases h
theorem Gr.back(s:Same G H)(g:Gr H G1 H' G'):Gr H G H' G:=⟨g.h,Same.refl _,s.trans g.h,λ_ h h'=>absurd h h'⟩
mutual
def plB:D->Bool
 | .non=>true
 | .bl _=>true
 | .int _=>true
 | .str _=>true
 | .tup l=>plBL l
 | .lst _=>false
 | .scr _=>false
 | .dct _ _ _=>false
 | .obj _ _ _=>false
 | .adr _=>false
def plBL:AQ->Bool
 | []=>true
 | d::l=>plB d&&plBL l
end
mutual
theorem Rp.plain{G G':Hp}(hG:∀b ys,G b=some (HO.tup ys)->G' b=some (HO.tup ys)):∀{d:D}{v:V},plB d=true->Rp K G d v->Rp K G' d v
 | .non,_,_,r=>by rw[Rp]at r ⊢;exact r
 | .bl _,_,_,r=>by rw[Rp]at r ⊢;exact r
 | .int _,_,_,r=>by rw[Rp]at r ⊢;exact r
 | .str _,_,_,r=>by rw[Rp]at r ⊢;exact r
 | .tup l,_,h,r=>by
   rw[Rp]at r ⊢;rw[plB]at h;obtain⟨a,xs,e,g,q⟩:=r;exact⟨a,xs,e,hG _ _ g,RpL.plain hG h q⟩
 | .lst _,_,h,_=>by rw[plB]at h;cases h
 | .scr _,_,h,_=>by rw[plB]at h;cases h
 | .dct _ _ _,_,h,_=>by rw[plB]at h;cases h
 | .obj _ _ _,_,h,_=>by rw[plB]at h;cases h
 | .adr _,_,h,_=>by rw[plB]at h;cases h
theorem RpL.plain{G G':Hp}(hG:∀b ys,G b=some (HO.tup ys)->G' b=some (HO.tup ys)):∀{l:AQ}{xs:AN},plBL l=true->RpL K G l xs->RpL K G' l xs
 | [],_,_,r=>by rw[RpL]at r ⊢;exact r
 | d::l,_,h,r=>by
   rw[RpL]at r ⊢;rw[plBL,Qe]at h;obtain⟨x,xs,e,g,q⟩:=r;exact⟨x,xs,e,Rp.plain hG h.1 g,RpL.plain hG h.2 q⟩
end
end
end
section
variable {K:W.Frag}
set_option maxRecDepth 100000
section
variable {X:Cx}{e:Expr}{f:AV}{p pos:Pos}
theorem nr1{α:Sort _}{a b:α}(h:a=b):a=b:=h
end
end
section
section
variable {X:Cx}{a b e:Expr}{fa fb f:AV}{pos:Pos}{K:W.Frag}
theorem Yu8{M:Model}{A:Around}{E:AA}{s:Shared}{Q:AA}{v:Value}{k:Bool}(hb:∀id,v≠.builtin id)(h:Q (.bool (v==.bool k)) s):wpAny M A (compareOp .Is v (.bool k)) Q E s:=by
 cases v<;>first|exact wc h|exact absurd rfl (hb _)
theorem Yoi{M:Model}{A:Around}{E:AA}{s:Shared}{Q:AA}{v:Value}{k:Bool}(hb:∀id,v≠.builtin id)(h:Q (.bool (!(v==.bool k))) s):wpAny M A (compareOp .IsNot v (.bool k)) Q E s:=by
 cases v<;>first|exact wc h|exact absurd rfl (hb _)
def isBl(k:Bool):D->Bool
 | .bl j=>j==k
 | _=>false
def isB(neg:Bool):D->D->Option Bool
 | d,.bl k=>some (isBl k d != neg)
 | _,_=>none
theorem vbl{x:V}{v:Value}(r:RelV x v)(k:Bool):(v==.bool k)=decide (x=.bl k):=by
 cases x with
 | bl j=>
   cases (show v=Value.bool j from r);by_cases h:j=k
   ·subst h;simp
   ·simp[h]
 | non=>cases (show v=Value.none from r);rfl
 | int i=>obtain⟨t,rfl⟩:=r;rfl
 | str i=>obtain⟨t,rfl⟩:=r;rfl
 | ref i=>cases (show v=Value.ref i from r);rfl
 | _=>first|(obtain⟨t,rfl⟩:=r;rfl)|(cases r;rfl)
theorem nobl{x:V}{v:Value}(r:RelV x v):∀id,v≠.builtin id:=λid z=>by
 subst z
 cases x<;>first|(obtain⟨t,h⟩:=r;cases h;done)|(cases r;done)
theorem Yac0:OpR X (compareOp .Is) (λx y H Q=>∃k,y=.bl k/\Q (.bl (decide (x=.bl k)!=false)) H):=by
 intro pins s σ H x y v u Q I rx ry h;obtain⟨k,rfl,q⟩:=h;cases ry;refine Yu8 (nobl rx) ⟨_,H,I,?_,q⟩;rw[vbl rx];simp;rfl
theorem y83:OpR X (compareOp .IsNot) (λx y H Q=>∃k,y=.bl k/\Q (.bl (decide (x=.bl k)!=true)) H):=by
 intro pins s σ H x y v u Q I rx ry h;obtain⟨k,rfl,q⟩:=h;cases ry;refine Yoi (nobl rx) ⟨_,H,I,?_,q⟩;rw[vbl rx];simp;rfl
theorem y84{G H:Hp}{d:D}{v:V}(r:Ct K G H d v)(k:Bool):decide (v=.bl k)=isBl k d:=by
 cases d with
 | bl j=>
   rw[Ct]at r;subst r;by_cases h:j=k
   ·subst h;simp[isBl]
   ·simp[isBl,h]
 | non=>rw[Ct]at r;subst r;simp[isBl]
 | int i=>rw[Ct]at r;subst r;simp[isBl]
 | str i=>rw[Ct]at r;obtain⟨rfl,_⟩:=r;simp[isBl]
 | tup l=>rw[Ct]at r;obtain⟨a,xs,rfl,_⟩:=r;simp[isBl]
 | lst l=>rw[Ct]at r;obtain⟨a,xs,rfl,_⟩:=r;simp[isBl]
 | scr l=>rw[Ct]at r;obtain⟨a,rfl,_⟩:=r;simp[isBl]
 | dct t l m=>rw[Ct]at r;obtain⟨a,xs,ys,rfl,_⟩:=r;simp[isBl]
 | obj t l m=>rw[Ct]at r;obtain⟨a,C,dx,xs,rfl,_⟩:=r;simp[isBl]
 | adr a=>rw[Ct]at r;subst r;simp[isBl]
theorem y1z{neg:Bool}:Yf0 K (λx y H Q=>∃k,y=.bl k/\Q (.bl (decide (x=.bl k)!=neg)) H) (isB neg):=by
 intro x y dx dy c H G Q h s rx ry q;unfold isB at h
 split at h
 ·rename_i k
  cases h;have e:=y84 rx k;rw[Ct]at ry;subst ry;exact⟨k,rfl,by rw[e];exact q⟩
 ·cases h
def maxC:AQ->Option D
 | [.int i,.int j]=>some (.int (if j > i then j else i))
 | _=>none
theorem y10(r:CtL K G H [.int i,.int j] vs):vs=[.int i,.int j]:=by
 obtain⟨x,r,rfl,h1,h2⟩:=r;obtain⟨y,r,rfl,h3,h4⟩:=h2;cases (show r=[] from h4);rw[Ct]at h1;rw[Ct]at h3;rw[h1,h3]
theorem y11:SemC K (λxs H Q=>∃i j,xs=[.int i,.int j]/\Q (.int (if j > i then j else i)) H) maxC:=by
 intro vs ds d H G Q h s r q;unfold maxC at h
 split at h
 ·rename_i i j
  cases h;exact⟨i,j,y10 r,q _ H G (.refl s) (by rw[Rp])⟩
 ·cases h
theorem nr2{α:Sort _}{a b:α}(h:a=b):a=b:=h
@[simp] theorem isBl_bl(k j:Bool):isBl k (.bl j)=(j==k):=nr2 rfl
@[simp] theorem maxC_ints(i j:Int):maxC [.int i,.int j]=some (.int (if j > i then j else i)):=nr2 rfl
end
end
section
set_option maxRecDepth 100000
variable {K:W.Frag}
end
section
def y49:AC->AK->Prop:=Paired λv k=>(∃t,v=.str k t)/\PyData.strOk k=true
def GT(K:W.Frag)(mg:AE)(x:Str)(ks:AK):Prop:=∃p o its n,mg x=some (.ref p)/\K.lookup p=some o/\o.cls=.type "tuple"/\o.data=.seq its n/\y49 its.toList ks
theorem Yku{h:Heap}:∀{vs:AC}{ks:AK},y49 vs ks->∃as,ReadsAll h vs (ks.map PyData.str) as/\PyData.canLayAll0 (ks.map PyData.str)=true
 | _,_,.nil=>⟨_,.nil,by simp[PyData.canLayAll0]⟩
 | _,_,.cons r t=>by
   obtain⟨⟨tk,rfl⟩,hk⟩:=r;obtain⟨as,h1,h2⟩:=Yku (h:=h) t;exact⟨_,.cons (.str _ tk) h1,by simp[PyData.canLayAll0,PyData.canLay0,h2,hk]⟩
def inG(neg:Bool)(ks:AK):D->Option Bool
 | .str k=>some (decide (k∈ks)!=neg)
 | _=>none
def rInG(p:Addr)(ks:AK)(neg:Bool):R2:=λx y H Q=>∃k,x=.str k/\PyData.strOk k=true/\y=.ref p/\Q (.bl (decide (k∈ks)!=neg)) H
theorem Yu9(k:Str):∀ks:AK,((ks.map PyData.str).any λy=>PyData.eqv y (.str k))=decide (k∈ks)
 | []=>rfl
 | a::ks=>by
   rw[Qa,List.any_cons,Yu9 k ks]
   have e:PyData.eqv (.str a) (.str k)=decide (k=a):=by
    simp only[PyData.eqv];rw[show(a==k)=decide (a=k) from rfl];exact decide_eq_decide.mpr ⟨λh=>h.symm,λh=>h.symm⟩
   rw[e];by_cases h:k=a<;>simp[h]
section
variable {X:Cx}{a:Expr}{fa:AV}{pos px:Pos}{x:Str}{ks:AK}
theorem y86(hu:X.A.units+64<cLine){p:Addr}{o:Obj}{its:Array Value}{n:Nat}(hl:X.K.lookup p=some o)(hc:o.cls=.type "tuple")(hd:o.data=.seq its n)(hs:y49 its.toList ks):OpR X (compareOp .NotIn) (rInG p ks true):=by
 intro pins s σ H x y v u Q I rx ry h;obtain⟨k,rfl,hk,rfl,q⟩:=h;cases ry;obtain⟨t,rfl⟩:=rx;obtain⟨as,h1,h2⟩:=Yku (h:=s.heap) hs;have ht:Reads s.heap (.ref p) (.tuple (ks.map PyData.str)) _:=.tuple (I.kIn p o hl) hc hd h1;refine SeqAt.notIn_tuple_reads ht (.str k t) (by simpa [PyData.canLay0]using h2) (by simp[PyData.canLay0,hk]) ?_ ⟨.bl _,H,I,rfl,?_⟩
 ·have e:(PyData.str k).depth=0:=by simp[PyData.depth]
  rw[e];lia
 ·rw[Yu9]
  have e:(!decide (k∈ks))=(decide (k∈ks)!=true):=by cases decide (k∈ks)<;>rfl
  rw[e];exact q
@[simp] theorem inG_str(neg:Bool)(ks:AK)(k:Str):inG neg ks (.str k)=some (decide (k∈ks)!=neg):=nr1 rfl
end
end
section
section
variable {prog:Program}{w:World}{A:Around}{E:AA}{s:Shared}
theorem Yva{lo hi:Option Int}(ht:IsTup s.heap t items)(hs:s.heap.IsSliceOf sl vl vu .none)(pl:IsPart vl lo)(pu:IsPart vu hi)
 (h0:HT.sIx items.size 0 lo=0) (h1:HT.sIx items.size items.size hi=items.size) (h:Q (.ref t) s):wpAny (model prog w) A (getItem (.ref t) (.ref sl)) Q E s:=by
 obtain⟨os,hos,hcs,hds⟩:=id hs
 have hTs:s.TypeIs (.ref sl) "slice":=⟨os,hos,hcs⟩
 unfold getItem
 try with_reducible refine we ?_
 first|refine wa (wc ?_)|skip
 refine wa (wpAny_sequenceKey ht.typeIs (by decide) ?_);refine wa (wpAny_callSpecial?_slot (name:=Str.ofString "__getitem__") ht.typeIs PyProof.Rows.slot_tuple_getitem (wf PyProof.Rows.slot_tuple_getitem ht.typeIs entry_tuple_getitem ?_ (args_tuple_getitem _ _)));show wpAny _ _ (Builtin.Tuple.tupleItemsOf (.ref t)>>=_) _ _ s;refine wa (tupleItemsOf_ ht ?_);refine wa (wpAny_typeOf hTs ?_);rw[if_pos (by decide)];refine wa (HT.sliceApplied_gen hs pl pu ?_);show wpAny _ _ (if (((HT.sIx items.size 0 lo:Nat):Int)==0&&(1:Int)==1&&(HT.sIx items.size items.size hi-HT.sIx items.size 0 lo)==items.size)=true then _ else _) _ _ s;rw[if_pos (by grind)];refine wa ?_;unfold Builtin.Tuple.tupleIsExact;refine wa (wpAny_typeOf ht.typeIs (wc ?_));rw[if_pos (by decide)];exact wa (wpAny_rule (wc ⟨_,rfl,wc h⟩))
end
section
variable {X:Cx}
def rSlW(K:W.Frag):V->Option Int->Option Int->Hp->VK->Prop:=λx lo hi H Q=>∃a xs,x=.ref a/\SqT K H a xs/\HT.sIx xs.length 0 lo=0/\HT.sIx xs.length xs.length hi=xs.length/\Q (.ref a) H
theorem y5a:SlR X (rSlW X.K):=by
 intro pins s σ H x v vl vu lo hi sl Q I rx hs pl pu h;obtain⟨a,xs,rfl,hx,h0,h1,q⟩:=h;cases rx;obtain⟨its,r,ht,hz⟩:=I.tuple hx
 have hlen:its.toArray.size=xs.length:=by rw[qk];exact r.length.symm
 refine⟨"tuple",_,PyProof.Rows.slot_tuple_getitem.lookup,ht.typeIs,Yva ht hs pl pu (by grind) (by grind) ?_⟩;exact⟨.ref a,H,I,rfl,q⟩
def cutC(i j:Option Int):D->Option D
 | .lst l=>some (.lst (cutD l i j))
 | .tup l=>some (.tup (cutD l i j))
 | _=>none
def slD(fa:AV)(lo hi:Option AV):AV:=λρ=>(fa ρ).bind λd=>(optI lo ρ).bind λi=>(optI hi ρ).bind λj=>cutC i j d
variable {a e:Expr}{fa f:AV}{pos:Pos}
@[simp] theorem ap_slD(lo hi:Option AV):slD fa lo hi ρ=(fa ρ).bind λd=>(optI lo ρ).bind λi=>(optI hi ρ).bind λj=>cutC i j d:=nr1 rfl
end
end
section
set_option maxRecDepth 100000
section
variable {prog:Program}{w:World}{A:Around}{E:AA}{s:Shared}
theorem Yvb:isSubtype (.type "set") (.type "set")=pure true:=by rw[isSubtype_type];kernel_rfl
theorem y88:∀{acc:AC},acc.length=vals.length->(∀(j:Nat) v,acc[j]?=some v->PInt vals j v)->IntsAre acc vals:=by
 induction vals with
 | nil=>
   intro acc h _;rw[List.length_eq_zero_iff.mp h];exact .nil
 | cons k r ih=>
   intro acc h hp
   match acc,h with
   | v::acc,h=>
     obtain⟨k',t,e1,e2⟩:=hp 0 v rfl;simp at e1;subst e1;subst e2;refine .cons _ t (ih (by simpa using h) λj v hj=>?_);obtain⟨k',t,e1,e2⟩:=hp (j+1) v (by grind);exact⟨k',t,by grind,e2⟩
theorem Yvc(hh:A.handled=none)(hS:SetI prog w s.heap a ns)
 (hQ:∀(h':Heap) (d':Drawn) (tk:Nat) (acc:AC) (vals:AG),~~~s<=h'.objs.size->(∀b o,s.heap.get? b=some o->h'.get? b=some o)->IntsAre acc vals->vals.Perm ns->Q acc { s with heap:=h',drawn:=d',toks:=tk }) :
 wpAny (model prog w) A (collect (.ref a)) Q E s:=by
 obtain⟨o,es,ep,t,ho,hex,hd,_⟩:=id hS;have hlt:a< ~~~s:=ql ho;have hlen:=hS.len;unfold collect;refine wa (wpAny_runValue (wy F.entry_proto_collect ?_));rw[jf F.plain_proto_collect _];show wpAny _ A.in1 (newList []>>=λl=>again (.builtin "list.__iadd__" ⟨[l,.ref a],[]⟩)) _ _ s;refine wa (wg ?_);refine wc ⟨je F.plain_list_iadd _,wy F.entry_list_iadd ?_⟩;rw[jf F.plain_list_iadd _];generalize hH:s.heap.push { cls:=.type "list",data:=.seq ([]:AC).toArray }=H
 have hHs:H.objs.size= ~~~s+1:=by rw[<-hH,ww]
 have keepH:∀b o,s.heap.get? b=some o->H.get? b=some o:=λb o e=>by rw[<-hH];exact qe _ e
 have hL:H.get? (~~~s)=some { cls:=.type "list",data:=.seq ([]:AC).toArray }:=by rw[<-hH];exact qp _ rfl
 have hoH:=keepH a o ho
 have hT:Shared.TypeIs { s with heap:=H } (.ref a) "set":=⟨o,hoH,hex.1⟩
 have hSI:(~~~s)≠a:=λz=>by grind
 have h1:Builtin.List.listSameRef (.ref (~~~s)) (.ref a)=false:=by simp[Builtin.List.listSameRef,hSI]
 show wpAny _ A.in1 (Builtin.List.listExtendWith (.ref (~~~s)) (.ref a) (.ref (~~~s))) _ _ _;unfold Builtin.List.listExtendWith;refine wa (wpAny_typeOf hT ?_)
 have h2:(Value.type "set"==Value.type "list")=false:=by decide
 have h3:(Value.type "set"==Value.type "tuple")=false:=by decide
 simp only[h1,h2,h3,Bool.or_false,Bool.false_eq_true,if_false];refine wa (y4r (s:={ s with heap:=H }) (hS.at λo e=>keepH a o e) λh' d' I fp vals St keep hI hIf hfp hp hW hst hty=>?_);have ho':=keep a o hoH
 have hT':Shared.TypeIs { s with heap:=h',drawn:=d' } (.ref a) "set":=⟨o,ho',hex.1⟩
 refine wa (we ?_);unfold Builtin.List.listLengthHint;refine wa (wpAny_specialOf hT' F.slot_set_len.lookup ?_)
 (generalize hid:("set.__len__":String)=id0;(fail_if_success (clear hid id0));wp_delta;rw[show splitId id0=some ("set","__len__") from by subst hid;decide +kernel];subst hid)
 refine wa (wpAny_isInstance (b:=true) hT' Yvb ?_);show wpAny _ A.in1 (typeOf (Value.ref a)>>=_) _ _ _;refine wa (wpAny_typeOf hT' ?_);refine wc ?_;rw[if_pos (by decide)];refine wa (wpAny_rule ?_)
 have hSf:(~~~s)∉fp:=λhm=>by
  grind
 have hS₁:h'.get? (~~~s)=some { cls:=.type "list",data:=.seq ([]:AC).toArray }:=keep _ _ hL;refine wa ?_;show wpAny _ A.in1 (updateSeq (~~~s) (·.push .none)>>=λ_=>updateSeq (~~~s) (·.pop)) _ _ _;refine wa (wpAny_updateSeq hS₁ rfl ?_);have hS₂:=wx (Obj.mapSeq (·.push Value.none)) hS₁ rfl;refine wpAny_updateSeq hS₂ rfl ?_;have hS₃:=wx (Obj.mapSeq (·.pop)) hS₂ rfl
 have oth:∀b o,b≠(~~~s)->h'.get? b=some o->
  ((h'.update (~~~s) (Obj.mapSeq (·.push Value.none))).update (~~~s) (Obj.mapSeq (·.pop))).get? b=some o:=
  λb o hb e=>(Heap.get?_update_other _ _ (Ne.symm hb)).trans ((Heap.get?_update_other _ _ (Ne.symm hb)).trans e)
 have W:=(hW A.in1 hh).toS
 refine wc ⟨je F.plain_extend_loop _,codeAny_extend_loopS W (fits_of_scanBound hlen) _ hSf _ ns.length 0 _ _ _ rfl (jc _)
  (W.frame 0 ({ s with heap:=h',drawn:=d' }:Shared) _ s.toks hst (qu _) λb hb o e=>oth b o (λh=>hSf (h ▸ hb)) e) hS₃ (ItemsOf.nil _) λs' acc' c' hm hS' hacc=>?_⟩
 show wpAny _ A (load (~~~s)>>=_) _ _ s';refine wa (wpAny_load hS' ?_);have eg:s'.gens=s.gens:=hm.gens;have ed:s'.drawn=d':=hm.drawn;have eo:s'.os=s.os:=hm.os
 have es':s'={ s with heap:=s'.heap,drawn:=d',toks:=s'.toks }:=by
  obtain⟨a1,a2,a3,a4,a5⟩:=s';grind
 rw[es'];refine wc (hQ s'.heap d' s'.toks acc'.toList vals (Nat.le_of_lt (ql hS')) (λb ob e=>?_) (y88 (by rw[qj,hacc.1,hp.length_eq]) λj v hj=>hacc.2 j v (by grind)) hp);have hb:b< ~~~s:=ql e;refine hm.heap b ob (λhm'=>?_) (oth b ob (qm hb) (keep b ob (keepH b ob e)));grind
theorem Yzd(hh:A.handled=none)(hS:SetI prog w s.heap a ns)(h64:ns.length<64)
 (hQ:∀(h':Heap) (d':Drawn) (tk e:Nat) (p:Addr) (out:Array Value) (ns':AG),(∀b o,s.heap.get? b=some o->h'.get? b=some o)->(~~~s)<=p->h'.get? p=some (seqObj "list" out e)->IntsAre out.toList ns'->ns'.Perm ns->ns'.Pairwise (·<=·)->
  Q (.ref p) { s with heap:=h',drawn:=d',toks:=tk }):wpAny (model prog w) A (call (.builtin "sorted") [.ref a]) Q E s:=by
 refine Calls.call_function_entry kind_sorted plain_sorted entry_sorted (args_sorted1 _) ?_;unfold Builtin.«sorted»;refine wa (m:=checkCount "sorted" 1 1 _) (wc ?_);refine wa (Yvc (A:=A.in1) hh hS λh' d' tk acc vals hle keep hI hp=>?_);have hl:acc.length=vals.length:=IntsAre.length hI
 have h64':acc.length<64:=by rw[hl,hp.length_eq];exact h64
 refine wa (wpAny_newList ?_ (by rw[jj];lia));have hoL:(h'.push (seqObj "list" acc.toArray 0)).get? h'.objs.size=some (seqObj "list" acc.toArray 0):=qp _ rfl;show wpAny _ _ _ _ _ { s with heap:=h'.push (seqObj "list" acc.toArray 0),drawn:=d',toks:=tk };refine wa (we (wf slot_list_sort ⟨_,hoL,rfl⟩ entry_list_sort (list_sort_tree (s:={ s with heap:=h'.push (seqObj "list" acc.toArray 0),drawn:=d',toks:=tk }) hoL hI h64' λout ns' a1 a2 a3=>⟨_,rfl,?_⟩) (args_list_sort _)));obtain⟨e,he⟩:=sortedHeap_at (n:=0) (out:=out) hoL;refine wc ⟨_,rfl,hQ _ d' tk e h'.objs.size out ns' (λb o eb=>?_) hle he a1 (a2.trans hp) a3⟩;have hb:=ql (keep b o eb);rw[sortedHeap_old (qm hb) (by rw[size_push'];grind)];exact qe _ (keep b o eb)
end
def setO(P:Program)(w:World)(p:Addr)(ms:AG):HO:=.ext λh=>SetI P w h p ms
theorem y12(x:SetI P w h p ms):ObjOk P w H h p (setO P w p ms):=by
 refine⟨x,?_,λh1 h2 e k=>e.at k⟩;obtain⟨o,_,_,_,ho,_⟩:=x;grind
section
variable {X:Cx}{pins:AB}{σ:L2.St}{H:Hp}{s:Shared}{e:Expr}{f:AV}{p p2 pos pos2:Pos}
theorem _root_.L2.Inv.dr(I:Inv X pins σ H s)(d':Drawn):Inv X pins σ H { s with drawn:=d' }:=⟨I.ok,I.os,I.bare,I.base,I.loc,I.cell,I.free,I.freeC,I.pin,I.hok,I.len⟩
theorem Ymu(r:Vals (ns.map V.int) us):IntsAre us ns:=Ykn r
def Yafg(K:W.Frag)(P:Program)(w:World):AN->Hp->VK->Prop:=λxs H Q=>∃a ns,xs=[.ref a]/\(SqL K H a (ns.map V.int)\/SqT K H a (ns.map V.int))/\ns.length<4000/\∀p ms,H p=none->ms.Perm (ddup [] ns)->Q (.ref p) (upd H p (setO P w p ms))
theorem y13(hc:X.calm=true):Ydd X (.type "set") (Yafg X.K X.prog X.w):=by
 intro pins s σ H xs us Q I r h;obtain⟨a,ns,rfl,hq,hl,q⟩:=h;obtain⟨u,rfl,rx⟩:=Yfj r;cases rx;have hh:X.A.handled=none:=I.ok.hd hc;have hsb:scanBound=4096:=rfl;rcases hq with hq|hq
 ·obtain⟨its,rv,pl,hz⟩:=I.list hq
  have hlen:=rv.length;rw[qf]at hlen;refine Yjf hh pl.isList (by simpa using Ymu rv) (by grind) λh' tk ms hS hp hk=>?_;exact⟨.ref (~~~s),_,I.laid (t':=tk) (λb o e=>hk b o (ql e) e) (qu _) (y12 hS),rfl,q _ ms (I.hok.fresh (qu _)) hp⟩
 ·obtain⟨its,rv,pl,hz⟩:=I.tuple hq
  have hlen:=rv.length;rw[qf]at hlen;refine Yod hh pl (by simpa using Ymu rv) (by grind) λh' tk ms hS hp hk=>?_;exact⟨.ref (~~~s),_,I.laid (t':=tk) (λb o e=>hk b o (ql e) e) (qu _) (y12 hS),rfl,q _ ms (I.hok.fresh (qu _)) hp⟩
def Yac2(P:Program)(w:World):AN->Hp->VK->Prop:=λxs H Q=>∃a ms,xs=[.ref a]/\H a=some (setO P w a ms)/\ms.length<64/\∀p,H p=none->Q (.ref p) (upd H p (.lst ((Yfn ms).map V.int)))
theorem Yze(hc:X.calm=true):Ydd X (.builtin "sorted") (Yac2 X.prog X.w):=by
 intro pins s σ H xs us Q I r h;obtain⟨a,ms,rfl,hq,hl,q⟩:=h;obtain⟨u,rfl,rx⟩:=Yfj r;cases rx;have hh:X.A.handled=none:=I.ok.hd hc;have hS:SetI X.prog X.w s.heap a ms:=(show ObjOk X.prog X.w H s.heap a (setO X.prog X.w a ms) from I.hok a _ hq).1;refine Yzd hh hS hl λh' d' tk e p out ns' keep hp he hI hpm hs=>?_;have en:ns'=Yfn ms:=W.ksm_same (hpm.trans (Ybt ms).symm) hs (Ybo ms);subst en;have hn:(Yfn ms).length=ms.length:=(Ybt ms).length_eq;refine⟨.ref p,_,Inv.laid (t':=tk) (I.dr d') keep hp (show ObjOk X.prog X.w _ _ _ (.lst ((Yfn ms).map V.int)) from⟨by rw[qf,hn,jj];lia,out.toList,e,Yjc hI,by simp_all⟩),rfl,q _ (I.hok.fresh hp)⟩
def y14(l:AQ):Option AQ:=match Yee l with
 | some ns=>if ns.length<4000/\(ddup [] ns).length<64 then some ((Yfn (ddup [] ns)).map D.int)else none
 | none=>none
theorem Yqn(h:a.Perm b):Yfn a=Yfn b:=W.ksm_same (((Ybt a).trans h).trans (Ybt b).symm) (Ybo a) (Ybo b)
def Yjk(f:AV):AW:=λρ=>(b1 f Yr ρ).bind y14
theorem nr0{α:Sort _}{a b:α}(h:a=b):a=b:=h
@[simp] theorem ap_sortsetF{ρ:Ro}:Yjk f ρ=((f ρ).bind Yr).bind y14:=nr0 rfl
end
end
section
def Yafh:AF:=[8,16,32,64,128]
end
section
end
section
set_option maxRecDepth 100000
theorem Yxc{t:SetTable}(hp:t.place=#[])(hd:t.dummies=#[])(j:Nat):t.slot j=.empty:=by
 unfold SetTable.slot SetTable.has;rw[hp,hd];rfl
theorem y15(j0 j:Nat):SetTable.below #[j0] j=if j0<j then 1 else 0:=by
 show SetTable.below.go #[j0] j 1 0 1=_;rw[SetTable.below.go,if_pos (by decide)];show(if #[j0].getD 0 j<j then SetTable.below.go #[j0] j 0 1 1 else SetTable.below.go #[j0] j 0 0 0)=_;rw[SetTable.below.go,SetTable.below.go];rfl
theorem Yjl{t:SetTable}{j0:Nat}(hp:t.place=#[j0])(hd:t.dummies=#[])(j:Nat):t.slot j=if j=j0 then .live 0 else .empty:=by
 unfold SetTable.slot SetTable.has;dsimp only;rw[hp,hd,y15];by_cases h:j0<j
 ·have h1:¬j=j0:=by lia
  simp[h,h1]
 ·by_cases h1:j=j0
  ·subst h1
   simp
  ·have h2:¬j0=j:=λz=>h1 z.symm
   simp[h,h1,h2]
theorem Ys6{t:SetTable}(hm:t.mask=7){p:SetTable.Probe}(h0:p.more=0):t.advance p={ p with j:=(p.i*5+1+p.perturb/32)%8,more:=0,i:=(p.i*5+1+p.perturb/32)%8,perturb:=p.perturb/32 }:=by
 unfold SetTable.advance;rw[if_neg (by lia),hm];show({ p with j:=(p.i*5+1+p.perturb/32)%8,more:=SetTable.runEnd 7 ((p.i*5+1+p.perturb/32)%8)-(p.i*5+1+p.perturb/32)%8,i:=(p.i*5+1+p.perturb/32)%8,perturb:=p.perturb/32 }:SetTable.Probe)=_
 have:SetTable.runEnd 7 ((p.i*5+1+p.perturb/32)%8)-(p.i*5+1+p.perturb/32)%8=0:=by
  unfold SetTable.runEnd
  split<;>lia
 rw[this]
theorem y7h{t:SetTable}{j0:Nat}{hA:Nat->Int}{h:Int}(hm:t.mask=7)(hp:t.place=#[j0])(hd:t.dummies=#[])(hj:j0<8)(hne:(hA 0==h)=false):∀(k fuel:Nat) (p:SetTable.Probe),p.perturb<32^k->k+2<=fuel->p.more=0->p.i=p.j->p.dummy=none->p.j<8->
 ∃j,SetTable.probe.go t hA h fuel p=some (.empty j none)/\j≠j0/\j<8
 | 0,fuel+2,p,h1,_,h3,h4,h5,h6=>by
   have hz:p.perturb=0:=by simp at h1;lia
   rw[SetTable.probe.go,Yjl hp hd];by_cases e:p.j=j0
   ·rw[if_pos e]
    dsimp only;rw[hne,if_neg qi,SetTable.probe.go,Yjl hp hd,Ys6 hm h3];dsimp only
    have hn:(p.i*5+1+p.perturb/32)%8≠j0:=by rw[h4,e,hz];lia
    rw[if_neg hn];exact⟨_,by rw[h5],hn,by lia⟩
   ·rw[if_neg e]
    exact⟨_,by rw[h5],e,h6⟩
 | k+1,fuel+1,p,h1,h2,h3,h4,h5,h6=>by
   rw[SetTable.probe.go,Yjl hp hd];by_cases e:p.j=j0
   ·rw[if_pos e]
    dsimp only;rw[hne,if_neg qi,Ys6 hm h3];refine y7h hm hp hd hj hne k fuel _ ?_ (by lia) rfl rfl h5 (by show _%8<8;lia);show p.perturb/32<32^k;rw[Nat.div_lt_iff_lt_mul (by decide),<-Nat.pow_succ];exact h1
   ·rw[if_neg e]
    exact⟨_,by rw[h5],e,h6⟩
 | 0,0,_,_,h,_,_,_,_=>by lia
 | 0,1,_,_,h,_,_,_,_=>by lia
 | _+1,0,_,_,h,_,_,_,_=>by lia
theorem Yiv{t:SetTable}(hm:t.mask=7)(h:Int):t.probeStart h={ j:=SetTable.bits h%8,more:=0,i:=SetTable.bits h%8,perturb:=SetTable.bits h,dummy:=none }:=by
 unfold SetTable.probeStart;rw[hm]
 have:SetTable.runEnd 7 (SetTable.bits h%(7+1))-SetTable.bits h%(7+1)=0:=by
  unfold SetTable.runEnd
  split<;>lia
 dsimp only;rw[this]
theorem y16{t:SetTable}(hm:t.mask=7)(hp:t.place=#[])(hd:t.dummies=#[])(hA:Nat->Int)(h:Int):t.probe hA h (t.probeStart h)=some (.empty (SetTable.bits h%8) none):=by
 unfold SetTable.probe;rw[hm,Yiv hm];show SetTable.probe.go t hA h (219+1) _=_;rw[SetTable.probe.go,Yxc hp hd]
theorem y17{t:SetTable}{j0:Nat}(hm:t.mask=7)(hp:t.place=#[j0])(hd:t.dummies=#[])(hj:j0<8){hA:Nat->Int}{h:Int}(hne:(hA 0==h)=false):∃j,t.probe hA h (t.probeStart h)=some (.empty j none)/\j≠j0/\j<8:=by
 unfold SetTable.probe;rw[hm,Yiv hm];refine y7h hm hp hd hj hne 13 _ _ ?_ (by decide) rfl rfl rfl (by show _%8<8;lia);show SetTable.bits h<32^13;unfold SetTable.bits;have:h%(2^64:Int)<2^64:=Int.emod_lt_of_pos _ (by decide);have h2:0<=h%(2^64:Int):=Int.emod_nonneg _ (by decide)
 have:(h%(2^64:Int)).toNat<2^64:=by lia
 exact Qc this (by decide)
section
variable {prog:Program}{w:World}{A:Around}{E:AA}{s:Shared}
theorem y5c{u:Addr}{o:Obj}{i:Int}{tk:Tok}{b:Bool}{n:Nat}{Q:Bool->Shared->Prop}(ho:s.heap.get? u=some o)(hc:o.cls=.type "tuple")(hd:o.data=.seq #[.int i tk,.bool b] n)(h:Q true s):wpAny (model prog w) A (hashByValue 8 (.ref u)) Q E s:=by
 have hT:s.TypeIs (.ref u) "tuple":=⟨o,ho,hc⟩
 unfold hashByValue;refine wa (wpAny_specialOf hT F.slot_tuple_hash.lookup ?_);dsimp only;refine wa (wpAny_seqItems ho hd ?_);show wpAny _ _ (forIn #[Value.int i tk,Value.bool b] _ _>>=_) _ _ _;simp[hashByValue];exact wc h
def hAt(es:Array (Int×Value))(i:Nat):Int:=(es[i]?.map (·.1)).getD 0
theorem y18{S:Addr}{x:Value}{h:Int}{o:Obj}{es:Array (Int×Value)}{ep:Nat}{t:SetTable}{j:Nat}{Q:SetFound->Shared->Prop}(hS:s.heap.get? S=some o)(hd:o.data=.set es ep t)(hf:t.fits es.size=true)(hm:t.mask=7)
 (hpr:t.probe (hAt es) h (t.probeStart h)=some (.empty j none)) (hQ:Q (.free j false) s):wpAny (model prog w) A (setSearch S x h true) Q E s:=by
 show wpAny _ _ (setState S>>=_) _ _ _;refine wa (wj hS hd hf ?_);dsimp only
 have hg:t.gaveWay=false:=by unfold SetTable.gaveWay;rw[hm];rfl
 rw[hg,if_neg qi];refine wa (wc ?_);have hpr':t.probe (λi=>(es[i]?.map (·.1)).getD 0) h (t.probeStart h)=some (.empty j none):=hpr;show wpAny _ _ (match t.probe (λi=>(es[i]?.map (·.1)).getD 0) h (t.probeStart h)with|some met=>_|_=>_) _ _ _;rw[hpr'];exact wc hQ
theorem Yac3{S u:Addr}{h:Int}{o:Obj}{es:Array (Int×Value)}{ep:Nat}{t:SetTable}{j:Nat}{ou:Obj}{i:Int}{tk:Tok}{b:Bool}{n:Nat}{Q:Bool->Shared->Prop}(hS:s.heap.get? S=some o)(hd:o.data=.set es ep t)(hf:t.fits es.size=true)(hm:t.mask=7)(hdm:t.dummies=#[])(hsz:es.size<=1)
 (hpr:t.probe (hAt es) h (t.probeStart h)=some (.empty j none)) (ho:s.heap.get? u=some ou) (hc:ou.cls=.type "tuple") (hud:ou.data=.seq #[.int i tk,.bool b] n)
 (hQ:Q true { s with heap:=s.heap.update S (Obj.putSet (SetTable.insertAt es (SetTable.below t.place j) (h,.ref u)) { t with place:=SetTable.insertAt t.place (SetTable.below t.place j) j }) }) :
 wpAny (model prog w) A (setAddHashed S (.ref u) h) Q E s:=by
 unfold setAddHashed setAddHashedIn;refine we (wa (wj hS hd hf ?_));dsimp only;have hby:byScan (.ref u) es=false:=rfl;rw[hby,if_neg qi];refine wa (y18 hS hd hf hm hpr ?_);dsimp only;refine wa (wj hS hd hf ?_);dsimp only
 have hput:t.put j=({ t with place:=SetTable.insertAt t.place (SetTable.below t.place j) j },SetTable.below t.place j):=by
  unfold SetTable.put;dsimp only;rw[hdm];have:SetTable.has #[] j=false:=rfl;rw[this,if_neg qi]
 rw[hput];dsimp only
 have hfull:({ t with place:=SetTable.insertAt t.place (SetTable.below t.place j) j }:SetTable).tooFull=false:=by
  have h1:t.place.size=es.size:=by
   simp only[SetTable.fits,Qe,beq_iff_eq]at hf;exact hf.1
  have h2:(SetTable.insertAt t.place (SetTable.below t.place j) j).size<=2:=by
   rw[<-qj,Ya5];simp;lia
  unfold SetTable.tooFull SetTable.fill;rw[hm,hdm];simp;lia
 have hsz':(SetTable.insertAt es (SetTable.below t.place j) (h,Value.ref u)).size<=sizeLine:=by
  rw[<-qj,Ya5,jj];simp;lia
 cases hpl:t.plain with
 | true=>
   rw[if_pos rfl];refine wa (y5c ho hc hud ?_);rw[if_pos rfl];refine wa (wpAny_storeSet_of hS hd ?_ hsz');rw[hpl]at hfull hQ;rw[hfull];exact wc hQ
 | false=>
   rw[if_neg qi];refine wa (wc ?_);rw[if_pos rfl];refine wa (wpAny_storeSet_of hS hd ?_ hsz');rw[hpl]at hfull hQ;rw[hfull];exact wc hQ
def PairV(h:Heap)(u:Addr)(p:Int×Bool):Prop:=∃o tk n,h.get? u=some o/\o.cls=.type "tuple"/\o.data=.seq #[.int p.1 tk,.bool p.2] n
def pH(p:Int×Bool):Int:=y8h [p.1,if p.2 then 1 else 0]
theorem PairV.keep{h h':Heap}{u:Addr}{p:Int×Bool}(x:PairV h u p)(k:∀o,h.get? u=some o->h'.get? u=some o):PairV h' u p:=by
 obtain⟨o,tk,n,h1,r⟩:=x;exact⟨o,tk,n,k o h1,r⟩
theorem PairV.key{h:Heap}{u:Addr}{p:Int×Bool}(x:PairV h u p):IsTupleKey (Ygz prog w) h [p.1,if p.2 then 1 else 0] u:=by
 obtain⟨o,tk,n,h1,h2,h3⟩:=x;refine⟨o,_,n,h1,h2,h3,?_⟩;exact .cons (by simp[Ygz,Yoh]) (.cons (by simp[Ygz,Yoh]) .nil)
theorem Yvd{l I S u:Addr}{items:Array Value}{i:Nat}{p:Int×Bool}{R:Result->Shared->Prop}(hu:A.units+2<cLine)(hit:s.heap.IsListIter I l i)(hl:s.heap.IsList l items)(hx:items[i]?=some (.ref u))(hp:PairV s.heap u p)(hIu:u≠I)
 (k:∀h1 tk,h1.IsListIter I l (i+1)->Heap.SameBut I s.heap h1->wpAny (model prog w) A.in1 (setAddHashed S (.ref u) (pH p)) (λ_ s'=>codeAny (model prog w) A (.builtin "set.update.loop" ⟨[.ref S,.ref I],[]⟩) R s') (λe s'=>R (.error e) s') { s with heap:=h1,toks:=tk }) :
 codeAny (model prog w) A (.builtin "set.update.loop" ⟨[.ref S,.ref I],[]⟩) R s:=by
 refine wy F.entry_set_update_loop ?_;rw[jf F.plain_set_update_loop _];show wpAny _ A.in1 (pyNext (.ref I)>>=_) _ _ s;refine wa (wpAny_pyNext_list_item hit hl hx λh1 hi1 hs1=>?_);show wpAny _ A.in1 (holding [Value.ref u] (setAdd S (.ref u))>>=_) _ _ _;refine wa (we ?_);unfold setAdd
 have hp1:PairV h1 u p:=hp.keep λo e=>by rw[hs1.2 u hIu];exact e
 refine we (wa (wpAny_pyHash_tuple (knd:=Ygz prog w) (s:={ s with heap:=h1 }) (by show A.units+1<cLine;lia) hp1.key ?_));refine wz (k h1 _ hi1 hs1) (λb s' hb=>?_) λ_ _ x=>x;exact wc ⟨je F.plain_set_update_loop _,hb⟩
theorem Yxd{l I S:Addr}{items:Array Value}{i:Nat}{R:Result->Shared->Prop}(hh:A.handled=none)(hit:s.heap.IsListIter I l i)(hl:s.heap.IsList l items)(hx:items[i]?=none)
 (k:∀h1,Heap.ExtBut I s.heap h1->R (.ok (.ret .none)) { s with heap:=h1 }) :
 codeAny (model prog w) A (.builtin "set.update.loop" ⟨[.ref S,.ref I],[]⟩) R s:=by
 refine wy F.entry_set_update_loop ?_;rw[jf F.plain_set_update_loop _];show wpAny _ A.in1 (pyNext (.ref I)>>=_) _ _ s;refine wa (wpAny_pyNext_list_end (A:=A.in1) hh hit hl hx λh1 hs1=>?_);show wpAny _ A.in1 (ret Value.none) _ _ _;exact wc (k h1 hs1)
def SetN(w:World)(h:Heap)(a:Addr)(n:Nat):Prop:=∃o es ep t,h.get? a=some o/\o.ExactSet/\o.data=.set es ep t/\es.size=n/\t.fits es.size=true
end
end
section
set_option maxRecDepth 100000
def vOf(e:Int×Value):Value:=e.2
def SetV(w:World)(h:Heap)(a:Addr)(vs:AC):Prop:=
 ∃o es ep t,h.get? a=some o/\o.ExactSet/\o.data=.set es ep t/\es.toList.map vOf=vs/\es.size<scanBound/\t.fits es.size=true/\Tab (byT w) t
theorem SetV.at{w:World}{h h':Heap}{a:Addr}{ns:AC}(x:SetV w h a ns)(e:∀o,h.get? a=some o->h'.get? a=some o):SetV w h' a ns:=
 let ⟨o,es,ep,t,ho,r⟩:=x
 ⟨o,es,ep,t,e o ho,r⟩
section
variable {prog:Program}{w:World}{A:Around}{E:AA}{s:Shared}
structure SetQ(w:World)(h:Heap)(a:Addr)(us:List (Int×Addr)):Prop where
 ex:∃o es ep t,h.get? a=some o/\o.ExactSet/\o.data=.set es ep t/\es.toList=us.map (λu=>(u.1,Value.ref u.2))/\t.fits es.size=true/\t.mask=7/\t.dummies=#[]/\t.place.toList=us.map (λu=>SetTable.bits u.1%8)/\Tab (byT w) t
theorem SetQ.keep{h h':Heap}{a:Addr}{us:List (Int×Addr)}(x:SetQ w h a us)(k:∀o,h.get? a=some o->h'.get? a=some o):SetQ w h' a us:=by
 obtain⟨o,es,ep,t,h1,r⟩:=x.ex;exact⟨o,es,ep,t,k o h1,r⟩
theorem SetQ.vals{h:Heap}{a:Addr}{us:List (Int×Addr)}(x:SetQ w h a us)(hl:us.length<=1):SetV w h a (us.map λu=>Value.ref u.2):=by
 obtain⟨o,es,ep,t,h1,h2,h3,h4,h5,h6,h7,h8,h9⟩:=x.ex;refine⟨o,es,ep,t,h1,h2,h3,?_,?_,h5,h9⟩
 ·rw[h4,Qd]
  rfl
 ·rw[<-qj,h4,qf]
  have:scanBound=4096:=rfl;lia
theorem Ymv{S u:Addr}{us:List (Int×Addr)}{p:Int×Bool}{Q:Bool->Shared->Prop}(hS:SetQ w s.heap S us)(hl:us.length<=1)(hp:PairV s.heap u p)(hne:∀q∈us,q.1≠pH p)
 (hQ:∀h' vs,Heap.SameBut S s.heap h'->SetV w h' S vs->vs.Perm ((us.map λu=>Value.ref u.2)++[.ref u])->(us=[]->SetQ w h' S [(pH p,u)])->Q true { s with heap:=h' }):wpAny (model prog w) A (setAddHashed S (.ref u) (pH p)) Q E s:=by
 obtain⟨o,es,ep,t,h1,h2,h3,h4,h5,h6,h7,h8,h9⟩:=hS.ex;obtain⟨ou,tk,n,u1,u2,u3⟩:=hp
 have hsz:es.size=us.length:=by rw[<-qj,h4,qf]
 have hpl:t.place.size=es.size:=by
  simp only[SetTable.fits,Qe,beq_iff_eq]at h5;exact h5.1
 obtain⟨j,hpr,hj8,hfree,hjz⟩:∃j,t.probe (hAt es) (pH p) (t.probeStart (pH p))=some (.empty j none)/\j<8/\(∀i,t.slot j≠.live i)/\(us=[]->j=SetTable.bits (pH p)%8):=by
  generalize pH p=hp at hne ⊢;rcases us with _|⟨q,_|⟨q2,r⟩⟩
  ·have hz:t.place=#[]:=Array.size_eq_zero_iff.mp (by rw[hpl,hsz];rfl)
   refine⟨_,y16 h6 hz h7 _ _,by lia,λi z=>?_,λ_=>rfl⟩;rw[Yxc hz h7]at z;cases z
  ·have hz:t.place=#[SetTable.bits q.1%8]:=by
    apply Array.toList_inj.mp;rw[h8];rfl
   have hes:es=#[(q.1,.ref q.2)]:=by
    apply Array.toList_inj.mp;rw[h4];rfl
   have hq:=hne q qh
   obtain⟨j,k1,k2,k3⟩:=y17 h6 hz h7 (by lia) (hA:=hAt es) (h:=hp) (by
    rw[hes]
    simpa [hAt]using hq)
   refine⟨j,k1,k3,λi z=>?_,λz=>by cases z⟩;rw[Yjl hz h7,if_neg k2]at z;cases z
  ·simp at hl
 refine Yac3 h1 h3 h5 h6 h7 (by lia) hpr u1 u2 u3 ?_;have hg:=Yu0 h1 h3 (SetTable.insertAt es (SetTable.below t.place j) (pH p,.ref u)) { t with place:=SetTable.insertAt t.place (SetTable.below t.place j) j }
 have e1:(SetTable.insertAt es (SetTable.below t.place j) (pH p,Value.ref u)).size=us.length+1:=by
  rw[<-qj,Ya5];simp;lia
 have e2:(SetTable.insertAt t.place (SetTable.below t.place j) j).size=us.length+1:=by
  rw[<-qj,Ya5];simp;lia
 have hfit:({ t with place:=SetTable.insertAt t.place (SetTable.below t.place j) j }:SetTable).fits (us.length+1)=true:=by
  unfold SetTable.fits SetTable.fill;simp only[e2,h6,h7,Qe,beq_iff_eq,wm];exact⟨trivial,by simp;lia⟩
 have htab:Tab (byT w) { t with place:=SetTable.insertAt t.place (SetTable.below t.place j) j }:=⟨h9.1,λz=>Ymf (h9.2 z) j (Ysu hfree)⟩
 have hsb:scanBound=4096:=rfl;refine hQ _ _ (wv ..) ⟨_,_,_,_,hg,⟨h2.1,h2.2.1,h2.2.2⟩,rfl,rfl,by rw[e1];lia,by rw[e1];exact hfit,htab⟩ ?_ λhz=>?_
 ·have hpm:(es.toList.map vOf).Perm (us.map λu=>Value.ref u.2):=by
   rw[h4,Qd];exact .refl _
  have hins:((SetTable.insertAt es (SetTable.below t.place j) (pH p,Value.ref u)).toList).Perm (es.toList++[(pH p,Value.ref u)]):=by
   rw[Ya5];refine List.perm_middle.trans ?_;rw[List.take_append_drop];exact List.perm_append_comm (l₁:=[_])
  have:=hins.map vOf;rw[wt]at this;exact this.trans (hpm.append_right _)
 ·subst hz
  have hz:t.place=#[]:=Array.size_eq_zero_iff.mp (by rw[hpl,hsz];rfl);have hes:es=#[]:=Array.size_eq_zero_iff.mp (by rw[hsz];rfl);refine⟨_,_,_,_,hg,⟨h2.1,h2.2.1,h2.2.2⟩,rfl,?_,by rw[e1];exact hfit,h6,h7,?_,htab⟩
  ·rw[Ya5,hes]
   simp
  ·show(SetTable.insertAt t.place (SetTable.below t.place j) j).toList=_
   rw[Ya5,hz,hjz rfl];simp
theorem Yxe{u:Addr}{p:Int×Bool}{Q:Bool->Shared->Prop}(hp:PairV s.heap u p)(h:Q false s):wpAny (model prog w) A (ofAClassStatement 8 (.ref u)) Q E s:=by
 obtain⟨o,tk,n,h1,h2,h3⟩:=hp
 have hT:s.TypeIs (.ref u) "tuple":=⟨o,h1,h2⟩
 unfold ofAClassStatement;refine wa (wpAny_typeOf hT ?_);dsimp only;rw[if_pos (by decide)];refine wa (wc ?_);simp only[Bool.not_true,Bool.false_eq_true,if_false];refine wa (wpAny_seqItems h1 h3 ?_);simp[ofAClassStatement];exact wc h
theorem y19{u v:Addr}{p q:Int×Bool}{Q:Bool->Shared->Prop}(hu:PairV s.heap u p)(hv:PairV s.heap v q)(h:Q false s):wpAny (model prog w) A (searchCouldBeSeen (.ref u) [.ref v]) Q E s:=by
 unfold searchCouldBeSeen;simp[carriedByValue];by_cases e:u=v
 ·rw[if_pos e]
  exact wa (wc (wa (wc (wc h))))
 ·rw[if_neg e]
  refine wa (wa (wpAny_eqIsQuiet_tuple (knd:=Ygz prog w) hu.key ?_));rw[if_neg (by decide)];refine wa (wpAny_eqIsQuiet_tuple (knd:=Ygz prog w) hv.key ?_);rw[if_neg (by decide)];refine wa (Yxe hu ?_);rw[if_neg (by decide)];refine wa (Yxe hv ?_);rw[if_neg (by decide)];exact wc (wa (wc (wc h)))
theorem Yzg{t:SetTable}{h:Int}(hm:t.mask=7)(hp:t.place=#[SetTable.bits h%8])(hd:t.dummies=#[]){hA:Nat->Int}(he:hA 0=h):∃nx,t.probe hA h (t.probeStart h)=some (.candidate (SetTable.bits h%8) 0 nx):=by
 unfold SetTable.probe;rw[hm,Yiv hm];show ∃nx,SetTable.probe.go t hA h (219+1) _=_;rw[SetTable.probe.go,Yjl hp hd,if_pos rfl];dsimp only;rw[he,if_pos (by simp)];exact⟨_,rfl⟩
theorem Yve{S u v:Addr}{p:Int×Bool}{h:Int}{o:Obj}{es:Array (Int×Value)}{ep:Nat}{t:SetTable}{nx:SetTable.Probe}{j:Nat}{Q:SetFound->Shared->Prop}(fuel:Nat)(hu:A.units<cLine)(hS:s.heap.get? S=some o)(hd:o.data=.set es ep t)(hf:t.fits es.size=true)(hm:t.mask=7)(hes:es=#[(h,.ref v)])
 (hpr:t.probe (λi=>(es[i]?.map (·.1)).getD 0) h (t.probeStart h)=some (.candidate j 0 nx)) (hv:PairV s.heap v p) (hp:PairV s.heap u p) (hQ:Q (.there none) s):wpAny (model prog w) A (setSearchFrom S (.ref u) h true (fuel+1) none) Q E s:=by
 show wpAny _ _ (setState S>>=_) _ _ _;refine wa (wj hS hd hf ?_);dsimp only
 have hg:t.gaveWay=false:=by unfold SetTable.gaveWay;rw[hm];rfl
 rw[hg,if_neg qi];refine wa (wc ?_);show wpAny _ _ (match t.probe (λi=>(es[i]?.map (·.1)).getD 0) h (t.probeStart h)with|some met=>_|_=>_) _ _ _;rw[hpr];dsimp only
 have hfl:((es.filter (·.1==h)).toList.map (·.2))=[Value.ref v]:=by
  rw[hes];simp
 have hes0:es[0]?=some (h,.ref v):=by rw[hes];rfl
 rw[hfl,hes0]
 cases t.led with
 | true=>
   rw[if_neg (by decide)];dsimp only;refine wa (we (wpAny_eqBool_tuple (knd:=Ygz prog w) hu hv.key hp.key ?_));rw[wn rfl];refine wa (wj hS hd hf ?_);dsimp only;rw[if_pos (by rfl)];exact wc hQ
 | false=>
   rw[if_pos (by decide)];refine wa (y19 hp hv ?_);rw[if_neg (by decide)];dsimp only;refine wa (we (wpAny_eqBool_tuple (knd:=Ygz prog w) hu hv.key hp.key ?_));rw[wn rfl];refine wa (wj hS hd hf ?_);dsimp only;rw[if_pos (by rfl)];exact wc hQ
theorem y2a{S u:Addr}{h:Int}{o:Obj}{es:Array (Int×Value)}{ep:Nat}{t:SetTable}{Q:Bool->Shared->Prop}(hS:s.heap.get? S=some o)(hd:o.data=.set es ep t)(hf:t.fits es.size=true)
 (hsr:∀Q':SetFound->Shared->Prop,Q' (.there none) s->wpAny (model prog w) A (setSearch S (.ref u) h true) Q' E s) (hQ:Q false s):wpAny (model prog w) A (setAddHashed S (.ref u) h) Q E s:=by
 unfold setAddHashed setAddHashedIn;refine we (wa (wj hS hd hf ?_));dsimp only;have hby:byScan (.ref u) es=false:=rfl;rw[hby,if_neg qi];refine wa (hsr _ ?_);exact wc hQ
theorem y5d{S u v:Addr}{p:Int×Bool}{hh:Int}{Q:Bool->Shared->Prop}(hu:A.units<cLine)(hS:SetQ w s.heap S [(hh,v)])(hv:PairV s.heap v p)(hp:PairV s.heap u p)(hQ:Q false s):wpAny (model prog w) A (setAddHashed S (.ref u) hh) Q E s:=by
 obtain⟨o,es,ep,t,h1,h2,h3,h4,h5,h6,h7,h8,h9⟩:=hS.ex
 have hes:es=#[(hh,.ref v)]:=by
  apply Array.toList_inj.mp;rw[h4];rfl
 have hz:t.place=#[SetTable.bits hh%8]:=by
  apply Array.toList_inj.mp;rw[h8];rfl
 obtain⟨nx,hpr⟩:=Yzg (h:=hh) h6 hz h7 (hA:=λi=>(es[i]?.map (·.1)).getD 0) (by rw[hes];rfl);refine y2a h1 h3 h5 (λQ' q=>?_) hQ;have h100:(100000:Nat)=99999+1:=rfl;unfold setSearch;rw[h100];generalize (99999:Nat)=fuel;exact Yve fuel hu h1 h3 h5 h6 hes hpr hv hp q
def oncE:List Addr->List (Int×Bool)->List Addr
 | [u1,u2],[p1,p2]=>if p1=p2 then [u1]else [u1,u2]
 | us,_=>us
theorem y2b{l I S:Addr}{us:List Addr}{ps:List (Int×Bool)}{R:Result->Shared->Prop}(hh:A.handled=none)(hu:A.units+2<cLine)(hit:s.heap.IsListIter I l 0)(hl:s.heap.IsList l (us.map Value.ref).toArray)(h2:us.length<=2)(hps:ps.length=us.length)
 (hp:∀(i:Nat) u p,us[i]?=some u->ps[i]?=some p->PairV s.heap u p) (hd:∀p q,ps=[p,q]->p=q\/pH p≠pH q) (hS:SetQ w s.heap S []) (hIl:l≠I) (hIS:S≠I) (hlS:l≠S) (hIu:∀u∈us,u≠I) (hSu:∀u∈us,u≠S)
 (hR:∀h' tk vs,SetV w h' S vs->vs.Perm ((oncE us ps).map Value.ref)->(∀b o,b≠S->b≠I->s.heap.get? b=some o->h'.get? b=some o)->R (.ok (.ret .none)) { s with heap:=h',toks:=tk }) :
 codeAny (model prog w) A (.builtin "set.update.loop" ⟨[.ref S,.ref I],[]⟩) R s:=by
 have lk:∀{h h':Heap}{its:Array Value},h.IsList l its->(∀o,h.get? l=some o->h'.get? l=some o)->h'.IsList l its:=λx k=>let ⟨o,e,r⟩:=x;⟨o,k o e,r⟩;have ik:∀{h h':Heap}{i:Nat},h.IsListIter I l i->(∀o,h.get? I=some o->h'.get? I=some o)->h'.IsListIter I l i:=λx k=>let ⟨o,e,r⟩:=x;⟨o,k o e,r⟩;rcases us with _|⟨u1,_|⟨u2,_|⟨u3,ur⟩⟩⟩
 ·refine Yxd hh hit hl rfl λh1 hs1=>?_
  exact hR h1 s.toks _ ((hS.keep λo e=>hs1 S o hIS e).vals (by simp)) (.refl _) λb o _ hb e=>hs1 b o hb e
 ·rcases ps with _|⟨p1,_|⟨p2,pr⟩⟩
  ·simp at hps
  ·have hu1:=hp 0 u1 p1 rfl rfl
   refine Yvd hu hit hl rfl hu1 (hIu u1 (by simp)) λh1 tk1 hi1 hs1=>?_;refine Ymv (s:={ s with heap:=h1,toks:=tk1 }) (hS.keep λo e=>by rw[hs1.2 S hIS];exact e) (by simp) (hu1.keep λo e=>by rw[hs1.2 u1 (hIu u1 (by simp))];exact e) (by simp) λh2' vs2 hs2 hn2 hp2 ho2=>?_;refine Yxd hh (ik hi1 λo e=>by rw[hs2.2 I (Ne.symm hIS)];exact e) (lk hl λo e=>by rw[hs2.2 l hlS,hs1.2 l hIl];exact e) rfl λh3 hs3=>?_;refine hR h3 tk1 _ (((ho2 rfl).keep λo e=>hs3 S o hIS e).vals (by simp)) (.refl _) λb o hb1 hb2 e=>hs3 b o hb2 (by rw[hs2.2 b hb1,hs1.2 b hb2];exact e)
  ·simp at hps
 ·rcases ps with _|⟨p1,_|⟨p2,_|⟨p3,pr⟩⟩⟩
  ·simp at hps
  ·simp at hps
  ·have hu1:=hp 0 u1 p1 rfl rfl
   have hu2:=hp 1 u2 p2 rfl rfl;have n1:=hIu u1 (by simp);have n2:=hIu u2 (by simp);have m2:=hSu u2 (by simp);refine Yvd hu hit hl rfl hu1 n1 λh1 tk1 hi1 hs1=>?_;refine Ymv (s:={ s with heap:=h1,toks:=tk1 }) (hS.keep λo e=>by rw[hs1.2 S hIS];exact e) (by simp) (hu1.keep λo e=>by rw[hs1.2 u1 n1];exact e) (by simp) λh2' vs2 hs2 hn2 hp2 ho2=>?_
   have k2:∀b o,b≠S->b≠I->s.heap.get? b=some o->h2'.get? b=some o:=λb o hb1 hb2 e=>by rw[hs2.2 b hb1,hs1.2 b hb2];exact e
   refine Yvd (s:={ s with heap:=h2',toks:=tk1 }) hu (ik hi1 λo e=>by rw[hs2.2 I (Ne.symm hIS)];exact e) (lk hl λo e=>k2 l o hlS hIl e) rfl (hu2.keep λo e=>k2 u2 o m2 n2 e) n2 λh3 tk3 hi3 hs3=>?_
   have k3:∀b o,b≠S->b≠I->s.heap.get? b=some o->h3.get? b=some o:=λb o hb1 hb2 e=>by rw[hs3.2 b hb2];exact k2 b o hb1 hb2 e
   by_cases hpq:p1=p2
   ·subst hpq
    refine y5d (s:={ s with heap:=h3,toks:=tk3 }) (v:=u1) (p:=p1) (by show _+1<cLine;lia) ((ho2 rfl).keep λo e=>by rw[hs3.2 S hIS];exact e) (hu1.keep λo e=>k3 u1 o (hSu u1 (by simp)) n1 e) (hu2.keep λo e=>k3 u2 o m2 n2 e) ?_;refine Yxd (s:={ s with heap:=h3,toks:=tk3 }) hh hi3 (lk hl λo e=>k3 l o hlS hIl e) rfl λh5 hs5=>?_;refine hR h5 tk3 _ (((ho2 rfl).keep λo e=>hs5 S o hIS (by rw[hs3.2 S hIS];exact e)).vals (by simp)) ?_ λb o hb1 hb2 e=>hs5 b o hb2 (k3 b o hb1 hb2 e);rw[oncE,if_pos rfl];exact .refl _
   ·have hdp:pH p1≠pH p2:=by
     rcases hd p1 p2 rfl with z|z
     ·exact absurd z hpq
     ·exact z
    refine Ymv (s:={ s with heap:=h3,toks:=tk3 }) ((ho2 rfl).keep λo e=>by rw[hs3.2 S hIS];exact e) (by simp) (hu2.keep λo e=>k3 u2 o m2 n2 e) (λq hq=>?_) λh4 vs4 hs4 hn4 hp4 _=>?_
    ·simp only[List.mem_singleton]at hq
     rw[hq];exact hdp
    ·refine Yxd (s:={ s with heap:=h4,toks:=tk3 }) hh (ik hi3 λo e=>by rw[hs4.2 I (Ne.symm hIS)];exact e) (lk hl λo e=>by rw[hs4.2 l hlS];exact k3 l o hlS hIl e) rfl λh5 hs5=>?_
     refine hR h5 tk3 vs4 (hn4.at λo e=>hs5 S o hIS e) ?_ λb o hb1 hb2 e=>hs5 b o hb2 (by rw[hs4.2 b hb1];exact k3 b o hb1 hb2 e);rw[oncE,if_neg hpq];exact hp4
  ·simp at hps
 ·simp at h2
theorem Ymw{l:Addr}{us:List Addr}{ps:List (Int×Bool)}{Q:AA}(hh:A.handled=none)(hu:A.units+8<cLine)(hl:s.heap.IsList l (us.map Value.ref).toArray)(h2:us.length<=2)(hps:ps.length=us.length)
 (hp:∀(i:Nat) u p,us[i]?=some u->ps[i]?=some p->PairV s.heap u p) (hd:∀p q,ps=[p,q]->p=q\/pH p≠pH q)
 (h:∀(h':Heap) (tk:Nat) vs,SetV w h' (~~~s) vs->vs.Perm ((oncE us ps).map Value.ref)->(∀b o,s.heap.get? b=some o->h'.get? b=some o)->Q (.ref (~~~s)) { s with heap:=h',toks:=tk }) :
 wpAny (model prog w) A (call (.type "set") [.ref l]) Q E s:=by
 refine Ydo (Q₁:=λobj s₁=>obj=.ref (~~~s)/\s₁={ s with heap:=s.heap.push (emS w) }) F.called_set (F.typeCall_set_1 _) F.entry_set_init (Ymg _ ⟨rfl,rfl⟩) ?_;rintro obj s₁ ⟨rfl,rfl⟩;have hS:(s.heap.push (emS w)).get? (~~~s)=some (emS w):=qp _ rfl
 have hT:Shared.TypeIs { s with heap:=s.heap.push (emS w) } (.ref (~~~s)) "set":=⟨_,hS,rfl⟩
 refine⟨hT,λA' E' Q' hq=>check_set_init_1 hT hq,?_⟩
 have hul:∀u∈us,u< ~~~s:=λu hm=>by
  obtain⟨i,hi,e⟩:=List.getElem_of_mem hm
  have hi':i<ps.length:=by lia
  obtain⟨o,_,_,ho,_⟩:=hp i u ps[i] (by rw[qq hi,e]) (qq hi');exact ql ho
 generalize hits:(us.map Value.ref).toArray=items at hl;obtain⟨ol,hol,hcl,nl,hdl⟩:=hl;obtain⟨ocls,odict,odata,oslots⟩:=ol;simp only at hcl hdl;subst hcl;subst hdl;have hol':(s.heap.push (emS w)).get? l=some { cls:=.type "list",dict:=odict,data:=.seq items nl,slots:=oslots }:=qe _ hol;have hsls:=F.sub_list_set;have hslf:=F.sub_list_frozenset
 have hne:(Value.type "list"==Value.type "dict")=false:=by decide
 have hl1:(s.heap.push (emS w)).IsList l items:=⟨_,hol',rfl,nl,rfl⟩
 unfold Builtin.«set.__init__» noKeywords Builtin.Frozenset.updateFrom;generalize hPI:pyIter=PI
 wp_walk
 subst hPI;refine wpAny_pyIter_list hl1 ?_;refine wa (wpAny_runValue ?_);have hlS:l< ~~~s:=ql hol;have hsz:(s.heap.push (emS w)).objs.size= ~~~s+1:=ww ..;have hol2:((s.heap.push (emS w)).push { cls:=.type "list_iterator",data:=.fields #[.ref l,.int 0 0] }).IsList l items:=hl1.push _;rw[<-hits]at hol2;refine y2b (us:=us) (ps:=ps) (by simp[hh]) (by show _+2<cLine;simp;lia) ⟨_,qp _ rfl,rfl,rfl⟩ hol2 h2 hps (λi u p hi hp'=>(hp i u p hi hp').keep λo e=>qe _ (qe _ e)) hd ?_ ?_ ?_ ?_ ?_ ?_ ?_
 ·exact⟨emS w,#[],0,_,qe _ hS,⟨rfl,rfl,rfl⟩,rfl,rfl,rfl,rfl,rfl,rfl,.fresh⟩
 ·rw[hsz];exact qm (qw hlS)
 ·rw[hsz];exact qm (qz _)
 ·exact qm hlS
 ·intro u hm;rw[hsz];exact qm (qw (hul u hm))
 ·intro u hm;exact qm (hul u hm)
 ·intro h' tk vs hN hpm old
  show wpAny _ _ _ _ _ _;refine wc ?_;show wpAny _ _ (ret Value.none) _ _ _;refine wc ⟨rfl,h h' tk vs hN hpm λb o e=>?_⟩;have hb:=ql e;exact old b o (qm hb) (by rw[hsz];exact qm (qw hb)) (qe _ (qe _ e))
end
end
section
set_option maxRecDepth 100000
section
variable {prog:Program}{w:World}{A:Around}{E:AA}{s:Shared}
theorem y5e:∀{us:List Addr}{ps:List (Int×Bool)},(∀p q,ps=[p,q]->pH p≠pH q)->(oncE us ps).length=us.length:=by
 intro us ps hd;unfold oncE
 split
 ·rw[if_neg λe=>hd _ _ rfl (by rw[e])]
 ·rfl
theorem Yia{l:Addr}{us:List Addr}{ps:List (Int×Bool)}{n:Nat}{Q:AA}(hh:A.handled=none)(hu:A.units+8<cLine)(hl:s.heap.IsList l (us.map Value.ref).toArray)(h2:us.length<=2)(hps:ps.length=us.length)
 (hp:∀(i:Nat) u p,us[i]?=some u->ps[i]?=some p->PairV s.heap u p) (hd:∀p q,ps=[p,q]->p=q\/pH p≠pH q) (hn:(oncE us ps).length=n)
 (h:∀(h':Heap) (tk:Nat),SetN w h' (~~~s) n->(∀b o,s.heap.get? b=some o->h'.get? b=some o)->Q (.ref (~~~s)) { s with heap:=h',toks:=tk }) :
 wpAny (model prog w) A (call (.type "set") [.ref l]) Q E s:=by
 refine Ymw hh hu hl h2 hps hp hd λh' tk vs hS hpm hk=>h h' tk ?_ hk;obtain⟨o,es,ep,t,h1,hx,h3,hvs,hb,hf,_⟩:=hS;refine⟨o,es,ep,t,h1,hx,h3,?_,hf⟩
 have e1:es.size=vs.length:=by rw[<-hvs,qf,qj]
 rw[e1,hpm.length_eq,qf,hn]
end
def setC(w:World)(p:Addr)(n:Nat):HO:=.ext λh=>SetN w h p n
theorem Yvf{P:Program}{w:World}{H:Hp}{h:Heap}{p:Addr}{n:Nat}(x:SetN w h p n):ObjOk P w H h p (setC w p n):=by
 refine⟨x,?_,λh1 h2 e k=>?_⟩
 ·obtain⟨o,_,_,_,ho,_⟩:=x
  exact⟨o,ho⟩
 ·obtain⟨o,es,ep,t,ho,r⟩:=e
  exact⟨o,es,ep,t,k o ho,r⟩
theorem SetI.count{P:Program}{w:World}{h:Heap}{a:Addr}{ns:AG}(x:SetI P w h a ns):SetN w h a ns.length:=by
 obtain⟨o,es,ep,t,h1,h2,h3,h4,h5,h6,h7,h8,h9⟩:=x;exact⟨o,es,ep,t,h1,h2,h3,by rw[<-h5,qf,qj],h8⟩
def VPrs(H:Hp):AN->List (Int×Bool)->Prop
 | [],[]=>True
 | x::xs,q::qs=>(∃b,x=.ref b/\H b=some (.tup [.int q.1,.bl q.2]))/\VPrs H xs qs
 | _,_=>False
def Yqo:List (Int×Bool)->Bool
 | [p,q]=>decide (pH p≠pH q)
 | l=>decide (l.length<=2)
def y5f:List (Int×Bool)->Bool
 | [p,q]=>decide (p=q)
 | _=>false
theorem Yzh{l:List (Int×Bool)}(h:y5f l=true):∃p,l=[p,p]:=by
 rcases l with _|⟨p1,_|⟨p2,_|⟨p3,r⟩⟩⟩
 ·cases h
 ·cases h
 ·exact⟨p1,by rw[of_decide_eq_true h]⟩
 ·cases h
def Yafi(K:W.Frag)(w:World):AN->Hp->VK->Prop:=λxs H Q=>∃a ys n,xs=[.ref a]/\SqL K H a ys/\((∃ns:AG,ys=ns.map V.int/\ns.length<4000/\n=(ddup [] ns).length)\/(∃qs,VPrs H ys qs/\((Yqo qs=true/\n=qs.length)\/(y5f qs=true/\n=1))))/\∀p,H p=none->Q (.ref p) (upd H p (setC w p n))
section
variable {X:Cx}
theorem y2c{pins:AB}{s:Shared}{σ:L2.St}{H:Hp}(I:Inv X pins σ H s):∀{ys:AN}{its:AC}{qs:List (Int×Bool)},VPrs H ys qs->Vals ys its->∃us:List Addr,its=us.map Value.ref/\us.length=qs.length/\∀(i:Nat) u p,us[i]?=some u->qs[i]?=some p->PairV s.heap u p
 | [],its,[],_,r=>by
   cases r;exact⟨[],rfl,rfl,λi u p h=>by simp at h⟩
 | y::ys,its,q::qs,h,r=>by
   obtain⟨⟨b,rfl,hb⟩,h⟩:=h
   cases r with
   | cons r1 r2=>
     cases r1;obtain⟨us,h1,h2,h3⟩:=y2c I h r2;obtain⟨its2,rv,⟨o,e,hc,n,hd⟩,_⟩:=I.tuple (xs:=[.int q.1,.bl q.2]) (.of hb)
     cases rv with
     | cons ra rb=>
       cases rb with
       | cons rc rd=>
         cases rd;obtain⟨t,rfl⟩:=ra;cases rc;refine⟨b::us,by rw[h1];rfl,by simp[h2],λi u p hi hp=>?_⟩
         cases i with
         | zero=>
           simp at hi hp;subst hi hp;exact⟨o,t,n,e,hc,hd⟩
         | succ i=>exact h3 i u p (by simpa using hi) (by simpa using hp)
 | [],_,_::_,h,_=>h.elim
 | _::_,_,[],h,_=>h.elim
theorem y2d(hc:X.calm=true)(hu:X.A.units+64<cLine):Ydd X (.type "set") (Yafi X.K X.w):=by
 intro pins s σ H xs us Q I r h;obtain⟨a,ys,n,rfl,hq,hn,q⟩:=h;obtain⟨u,rfl,rx⟩:=Yfj r;cases rx;have hh:X.A.handled=none:=I.ok.hd hc;have hsb:scanBound=4096:=rfl;obtain⟨its,rv,pl,hz⟩:=I.list hq;rcases hn with⟨ns,rfl,hl,rfl⟩|⟨qs,hv,hd⟩
 ·have hlen:=rv.length
  rw[qf]at hlen;refine Yjf hh pl.isList (by simpa using Ymu rv) (by rw[qk,hsb];lia) λh' tk ms hS hp hk=>?_;exact⟨.ref (~~~s),_,I.laid (t':=tk) (λb o e=>hk b o (ql e) e) (qu _) (Yvf (by rw[<-hp.length_eq];exact hS.count)),rfl,q _ (I.hok.fresh (qu _))⟩
 ·obtain⟨bs,e1,e2,e3⟩:=y2c I hv rv
  have hls:s.heap.IsList a (bs.map Value.ref).toArray:=by rw[<-e1];exact pl.isList
  rcases hd with⟨hd,rfl⟩|⟨hd,rfl⟩
  ·have hl2:qs.length<=2:=by
    rcases qs with _|⟨p1,_|⟨p2,_|⟨p3,r⟩⟩⟩
    ·simp
    ·simp
    ·simp
    ·simp[Yqo]at hd
   have hdf:∀p q,qs=[p,q]->pH p≠pH q:=λp q e=>by
    subst e;simpa [Yqo]using hd
   refine Yia hh (by lia) hls (by lia) e2.symm e3 (λp q e=>.inr (hdf p q e)) (y5e hdf) λh' tk hS hk=>?_;exact⟨.ref (~~~s),_,I.laid (t':=tk) hk (qu _) (Yvf (by rw[<-e2];exact hS)),rfl,q _ (I.hok.fresh (qu _))⟩
  ·obtain⟨p,rfl⟩:=Yzh hd
   obtain⟨u1,u2,rfl⟩:∃u1 u2,bs=[u1,u2]:=by
    rcases bs with _|⟨u1,_|⟨u2,_|⟨u3,r⟩⟩⟩
    ·simp at e2
    ·simp at e2
    ·exact⟨u1,u2,rfl⟩
    ·simp at e2
   refine Yia hh (by lia) hls (qu _) e2.symm e3 (λp q e=>.inl (by cases e;rfl)) (by rw[oncE,if_pos rfl]) λh' tk hS hk=>?_;exact⟨.ref (~~~s),_,I.laid (t':=tk) hk (qu _) (Yvf hS),rfl,q _ (I.hok.fresh (qu _))⟩
def Yafj(w:World):AN->Hp->VK->Prop:=λxs H Q=>∃a n,xs=[.ref a]/\H a=some (setC w a n)/\n<4000/\Q (.int n) H
theorem y2e:Ydd X (.builtin "len") (Yafj X.w):=by
 intro pins s σ H xs us Q I r h;obtain⟨a,n,rfl,ha,hn,q⟩:=h;obtain⟨u,rfl,rx⟩:=Yfj r;cases rx;obtain⟨o,es,ep,t,h1,h2,h3,h4,h5⟩:SetN X.w s.heap a n:=(show ObjOk X.prog X.w H s.heap a (setC X.w a n) from I.hok a _ ha).1;refine call_len_set h1 h2 h3 h5 (by rw[h4];lia) ?_;exact⟨.int n,H,I.tok _,⟨_,by rw[h4]⟩,q⟩
end
def prsD:AQ->Option (List (Int×Bool))
 | []=>some []
 | d::l=>(prI d).bind λx=>(prsD l).map (x::·)
theorem Yac4{K:W.Frag}{G:Hp}{d:D}{p:Int×Bool}{x:V}(h:prI d=some p)(rx:Rp K G d x):∃b,x=.ref b/\G b=some (.tup [.int p.1,.bl p.2]):=by
 rw[Yqj h,Rp]at rx;obtain⟨b,ys,rfl,hb,ry⟩:=rx;rw[RpL]at ry;obtain⟨y1,yr,rfl,r1,ry⟩:=ry;rw[RpL]at ry;obtain⟨y2,yr,rfl,r2,ry⟩:=ry;rw[RpL]at ry;subst ry;rw[Rp]at r1;rw[Rp]at r2;subst r1;subst r2;exact⟨b,rfl,hb⟩
theorem y2f{d:D}{l:AQ}{ps:List (Int×Bool)}(e:prsD (d::l)=some ps):∃p ps',ps=p::ps'/\prI d=some p/\prsD l=some ps':=by
 obtain⟨x,h1,h2⟩:=qa e;obtain⟨y,h3,h4⟩:=qc h2;exact⟨x,y,h4.symm,h1,h3⟩
def Yf1(l:AQ):Option D:=match Yee l with
 | some ns=>if ns.length<4000 then some (.int (ddup [] ns).length)else none
 | none=>(prsD l).bind λps=>if Yqo ps=true then some (.int ps.length)else if y5f ps=true then some (.int 1)else none
def Ykv:AQ->Option D
 | [.lst l]=>Yf1 l
 | _=>none
theorem y2g{K:W.Frag}{G H:Hp}(s:Same G H):∀{l:AQ}{ps:List (Int×Bool)}{xs:AN},prsD l=some ps->RpL K G l xs->VPrs H xs ps
 | [],ps,xs,e,r=>by
   rw[prsD]at e;cases e;rw[RpL]at r;subst r;exact trivial
 | d::l,ps,xs,e,r=>by
   obtain⟨p,ps',rfl,h0,h1⟩:=y2f e;rw[RpL]at r;obtain⟨x,xr,rfl,rx,rr⟩:=r;obtain⟨b,rfl,hb⟩:=Yac4 h0 rx;exact⟨⟨b,rfl,s _ _ hb⟩,y2g s h1 rr⟩
theorem Yxf:∀(l acc:AG),(ddup acc l).length<=acc.length+l.length
 | [],acc=>by simp[ddup]
 | k::l,acc=>by
   rw[ddup];have:=Yxf l (if k∈acc then acc else acc++[k])
   split at this
   ·rename_i h;rw[if_pos h];simp;lia
   ·rename_i h;rw[if_neg h];simp at this ⊢;lia
section
variable {X:Cx}{e:Expr}{ga:AW}{p p2 pos pos2:Pos}
@[simp] theorem lensetC_lst(l:AQ):Ykv [.lst l]=Yf1 l:=nr0 rfl
end
end
section
end
section
set_option maxRecDepth 100000
def advM(mask:Nat)(p:SetTable.Probe):SetTable.Probe:=SetTable.advance { mask:=mask,place:=#[],dummies:=#[],finger:=0,led:=false,moves:=0,plain:=false } p
def itP(mask:Nat):Nat->SetTable.Probe->SetTable.Probe
 | 0,p=>p
 | k+1,p=>itP mask k (advM mask p)
def stP(mask i perturb:Nat):SetTable.Probe:={ j:=i,more:=SetTable.runEnd mask i-i,i,perturb,dummy:=none }
def Way(mask:Nat)(occ:Nat->Prop)(p:SetTable.Probe)(j:Nat):Prop:=∃k,(itP mask k p).j=j/\∀m,m<k->occ (itP mask m p).j
abbrev hSt(mask:Nat)(h:Int):SetTable.Probe:=stP mask (SetTable.bits h%(mask+1)) (SetTable.bits h)
section
variable {t:SetTable}{hA:Nat->Int}{h:Int}
structure Clean(t:SetTable)(n:Nat):Prop where
 hs:t.mask+1∈Yafh
 dm:t.dummies=#[]
 rise:Rise t.place
 le:∀j∈t.place.toList,j<=t.mask
 sz:t.place.size=n
 room:n<=t.mask
end
end
section
set_option maxRecDepth 100000
def bI(b:Bool):Int:=if b then 1 else 0
def bH(bs:AH):Int:=y8h (bs.map bI)
def TupB(h:Heap)(u:Addr)(bs:AH):Prop:=bs.length<=4/\∃o n,h.get? u=some o/\o.cls=.type "tuple"/\o.data=.seq (bs.map Value.bool).toArray n
structure SetB(w:World)(h:Heap)(S:Addr)(us:List (Addr×AH)):Prop where
 ex:∃o es ep t,h.get? S=some o/\o.ExactSet/\o.data=.set es ep t/\es.toList.Perm (us.map λu=>(bH u.2,Value.ref u.1))/\t.fits es.size=true/\Clean t es.size/\Tab (byT w) t/\es.size*5<t.mask*3/\∀q∈es.toList.zip t.place.toList,Way t.mask (·∈t.place.toList) (hSt t.mask q.1.1) q.2
 keys:(us.map (·.2)).Nodup
 tups:∀u∈us,TupB h u.1 u.2
 few:us.length<=24
end
section
set_option maxRecDepth 100000
section
variable {n:Nat}{key:Nat->Nat}{cmp:Nat->Nat->(Bool->Shared->Prop)->Shared->Prop}{s:Shared}
variable (hinj:∀i j,i<n->j<n->key i=key j->i=j) (hc:∀i j (C:Bool->Shared->Prop),i<n->j<n->C (decide (key i<key j)) s->cmp i j C s)
include hinj hc
omit hinj hc in
omit hinj hc in
omit hinj hc in
end
end
section
section
variable {X:Cx}{e:Expr}{f:AV}{p p2 pos pos2:Pos}
def sExp(f:AV):AS:=λρ=>(f ρ).map λ_=>.nx ρ
@[simp] theorem y89{ρ:Ro}:sExp f ρ=(f ρ).map λ_=>.nx ρ:=nr0 rfl
end
end
section
set_option maxRecDepth 100000
end
section
structure ZE(X:Cx)(e:Expr)(f:AV):Prop where
 un:ME X e f
structure ZC(X:Cx)(e:Expr)(f:AV):Prop where
 un:MC X e f
structure ZCA(X:Cx)(es:AL)(f:AW):Prop where
 un:MCA X es f
structure ZF(X:Cx)(e:Expr)(f:AW):Prop where
 un:MF X e f
structure ZT(X:Cx)(e:Expr)(f:AU):Prop where
 un:MT X e f
structure ZW(X:Cx)(e:Expr)(f:AU):Prop where
 un:MW X e f
structure ZA(X:Cx)(es:AL)(f:AW):Prop where
 un:MA X es f
structure ZI(X:Cx)(tg iter:Expr)(f:AW):Prop where
 un:MI X tg iter f
structure ZS(X:Cx)(st:Stmt)(f:AS):Prop where
 un:MS X st f
structure ZB(X:Cx)(sts:List Stmt)(f:AS):Prop where
 un:MB X sts f
structure ZG(X:Cx)(tg:Expr)(gt:AT):Prop where
 un:MG X tg gt
structure ZIfs(X:Cx)(K:W.Frag)(ifs:AL)(f:AU):Prop where
 un:PIfs X ifs (tTof K f)
structure ZO(X:Cx)(e:Option Expr)(f:Option AV):Prop where
 un:PO X e (tO X.K f)
structure ZP(X:Cx)(pos:Pos)(keys:List (Option Expr))(values:AL)(ks:AK)(fs:List AV):Prop where
 un:MP X pos keys values ks fs
section
variable {K:W.Frag}{X:Cx}{H0 G0 H G:Hp}{σ:L2.St}{ρ:Ro}{a b c e:Expr}{es:AL}{fa fb fc f:AV}{ga:AW}{pos:Pos}
theorem Yc(h:ZE X e f):ZC X e f:=⟨ME.mc h.un⟩
theorem Ye(i:Nat)(hN:X.N[i]?=some x:=by rfl)(hv:Vis X.env.scope x:=by trivial)(hd:Ndb x:=by decide)(hcd:Ncd x:=by decide):ZE X (.Name x pos) (getV i):=⟨
 PE.imp (Yh7 hN hv hd hcd) λσ H Q hx_=>by
  obtain⟨ρ,d,H0,G0,G,e,s,h⟩:=hx_;obtain⟨v,h1,h2⟩:=s.sh i d (y03 e)
  exact⟨v,h1,h v H G (.refl s.seen) h2⟩⟩
theorem Yd(i:Nat)(hN:X.N[i]?=some x:=by rfl)(hv:Vis X.env.scope x:=by trivial)(hd:Ndb x:=by decide)(hcd:Ncd x:=by decide):ZC X (.Name x pos) (getC i):=⟨
 PE.imp (Yh7 hN hv hd hcd) λσ H Q hx_=>by
  obtain⟨ρ,d,H0,G0,G,e,s,h⟩:=hx_;unfold getC at e
  split at e
  ·rename_i d' hd'
   cases e;obtain⟨v,h1,h2⟩:=s.sh i _ hd';exact⟨v,h1,h v H G (.refl s.seen) (.of s.seen h2)⟩
  ·rename_i l hl
   cases e;obtain⟨a,xs,h1,h2,h3,h4,h5⟩:=s.ow i l hl;exact⟨_,h1,h _ H G (.refl s.seen) (by rw[Ct];exact⟨a,xs,rfl,.inl h4,h5⟩)⟩
  ·rename_i t ks vs hl
   cases e;obtain⟨a,kxs,vxs,h1,h2,h3,h4,h5⟩:=s.od i t ks vs hl;exact⟨_,h1,h _ H G (.refl s.seen) (by rw[Ct];grind)⟩
  ·cases e⟩
theorem Yh{j}:ZE X (.Constant (.int i) j pos) (kD (.int i)):=⟨Yabu ⟩
theorem Yet{j}:ZE X (.Constant (.bool k) j pos) (kD (.bl k)):=⟨Yaey ⟩
theorem Yay{j}:ZE X (.Constant .none j pos) (kD .non):=⟨Yabv ⟩
theorem Yv{j}(hx:PyData.strOk x=true:=by decide +kernel):ZE X (.Constant (.str x) j pos) (kD (.str x)):=⟨Yho (v:=.str x) Yz9 (λ_ _ _ q=>q) λ_=>by rw[Rp];grind⟩
theorem y9b(ha:ZC X a fa)(hb:ZC X b fb):ZE X (.BinOp a .Sub b pos) (b2 fa fb subI):=⟨have ha:=ha.un;have hb:=hb.un;Ypi Yabd y05 ha hb⟩
theorem y9c(ha:ZC X a fa)(hb:ZC X b fb):ZE X (.BinOp a .Mult b pos) (b2 fa fb mulI):=⟨have ha:=ha.un;have hb:=hb.un;Ypi Yabe (y04 λi j h=>by
 simp only[Bool.or_eq_true,Qe,wm]at h
 exact h) ha hb⟩
theorem Yeg(ha:ZC X a fa)(hb:ZC X b fb):ZE X (.BinOp a .FloorDiv b pos) (b2 fa fb divI):=⟨have ha:=ha.un;have hb:=hb.un;Ypi y71 (y04 λi j h=>by
 simp only[Qe,wm]at h
 exact h) ha hb⟩
theorem Ya7(ha:ZC X a fa)(hb:ZC X b fb):ZE X (.BinOp a .Mod b pos) (b2 fa fb modI):=⟨have ha:=ha.un;have hb:=hb.un;Ypi Yabf (y04 λi j h=>of_decide_eq_true h) ha hb⟩
theorem Yac5(ha:ZC X a fa)(hb:ZC X b fb):ZE X (.Compare a [.GtE] [b] pos) (mB (b2 fa fb geI)):=⟨have ha:=ha.un;have hb:=hb.un;Ymi Yaer Yis ha hb (Yeq _)⟩
theorem Ys7(ha:ZC X a fa)(hb:ZC X b fb):ZT X (.Compare a [.Lt] [b] pos) (b2 fa fb ltI):=⟨have ha:=ha.un;have hb:=hb.un;Yh9 Yabh Yis ha hb (Yeq _)⟩
theorem Yib(ha:ZC X a fa)(hb:ZC X b fb):ZT X (.Compare a [.Gt] [b] pos) (b2 fa fb gtI):=⟨have ha:=ha.un;have hb:=hb.un;Yh9 Yaeq Yis ha hb (Yeq _)⟩
theorem Yfo(hu:X.A.units+64<cLine)(ha:ZC X a fa)(hb:ZC X b fb):ZE X (.Compare a [.Eq] [b] pos) (mB (b2 fa fb (eqM false))):=⟨have ha:=ha.un;have hb:=hb.un;Ymi (y7c hu) Ymk ha hb (Yeq _)⟩
theorem y7i(hu:X.A.units+64<cLine)(ha:ZC X a fa)(hb:ZC X b fb):ZE X (.Compare a [.NotEq] [b] pos) (mB (b2 fa fb (eqM true))):=⟨have ha:=ha.un;have hb:=hb.un;Ymi (y06 hu) Ymk ha hb (Yeq _)⟩
theorem Ya1(hu:X.A.units+64<cLine)(ha:ZC X a fa)(hb:ZC X b fb):ZT X (.Compare a [.Eq] [b] pos) (b2 fa fb (eqM false)):=⟨have ha:=ha.un;have hb:=hb.un;Yh9 (y7c hu) Ymk ha hb (Yeq _)⟩
theorem Yeu(hu:X.A.units+64<cLine)(ha:ZC X a fa)(hb:ZC X b fb):ZT X (.Compare a [.NotEq] [b] pos) (b2 fa fb (eqM true)):=⟨have ha:=ha.un;have hb:=hb.un;Yh9 (y06 hu) Ymk ha hb (Yeq _)⟩
theorem Yac6(hu:X.A.units+64<cLine)(ha:ZC X a fa)(hb:ZC X b fb)(hm:behindInMarks .In b=false:=by with_unfolding_all rfl):ZE X (.Compare a [.In] [b] pos) (mB (b2 fa fb (inM false))):=⟨have ha:=ha.un;have hb:=hb.un;Ymi (y7d hu) Yu1 ha hb hm⟩
theorem y2i(hu:X.A.units+64<cLine)(ha:ZC X a fa)(hb:ZC X b fb)(hm:behindInMarks .In b=false:=by with_unfolding_all rfl):ZT X (.Compare a [.In] [b] pos) (b2 fa fb (inM false)):=⟨have ha:=ha.un;have hb:=hb.un;Yh9 (y7d hu) Yu1 ha hb hm⟩
theorem Yvg(hu:X.A.units+64<cLine)(ha:ZC X a fa)(hb:ZC X b fb)(hm:behindInMarks .NotIn b=false:=by with_unfolding_all rfl):ZT X (.Compare a [.NotIn] [b] pos) (b2 fa fb (inM true)):=⟨have ha:=ha.un;have hb:=hb.un;Yh9 (y07 hu) Yu1 ha hb hm⟩
end
section
variable {K:W.Frag}{X:Cx}{a b c e tg elt iter ie ke:Expr}{es rest ifs elts:AL}{fa fb f fe fk:AV}{fc fd:AU}{ga gl:AW}{pos p pos' pt p2 pos2 px:Pos}{x:Str}{id T:String}{r:AN->Hp->VK->Prop}{g:AQ->Option D}{gf:AQ->Option AQ}{st:Stmt}{sts:List Stmt}{fs gs:AS}{scope:Scope}{N:AK}{src:List AM}{gt:AT}{P:Program}{w:World}{mg:AE}{base:Heap}{x1:Nat}{ta:TA}
theorem Yaq(ha:ZC X a fa)(he:∀whole,isTrue a X.env whole=(do let v <-whole;standAt a.pos;holding [v] (truthy v)):=by intro _;rfl):ZT X a (b1 fa truD):=⟨have ha:=ha.un;
 PT.imp (y4g ha he) λσ H Q hx_=>by
  obtain⟨ρ,k,H0,G0,G,e,s,h⟩:=hx_;obtain⟨d,h1,h2⟩:=Yaw e
  exact tCof.at h1 s λv H1 G1 g1 r1 s1=>⟨k,y8j h2 r1,h H1 G1 g1⟩⟩
theorem Yev(ha:ZT X a fc):ZW X (.BoolOp .And [a] pos) fc:=⟨have ha:=ha.un;y70 ha⟩
theorem Ydq(ha:ZT X a fc):ZW X (.BoolOp .Or [a] pos) fc:=⟨have ha:=ha.un;y61 ha⟩
theorem Yg0(ha:ZT X a fc)(hb:ZW X (.BoolOp .And (b::rest) pos) fd):ZW X (.BoolOp .And (a::b::rest) pos) (andT fc fd):=⟨have ha:=ha.un;have hb:=hb.un;PW.imp (Yaa2 ha hb) λ_ _ _ h=>y8l h⟩
theorem Yew(ha:ZT X a fc)(hb:ZW X (.BoolOp .Or (b::rest) pos) fd):ZW X (.BoolOp .Or (a::b::rest) pos) (orT fc fd):=⟨have ha:=ha.un;have hb:=hb.un;PW.imp (Yaa3 ha hb) λ_ _ _ h=>Yab5 h⟩
theorem Ycj(ha:ZT X a fc):ZT X (.UnaryOp .Not a pos) (notT fc):=⟨have ha:=ha.un;PT.imp (Yaa4 ha) λσ H Q hx_=>by
 obtain⟨ρ,k,H0,G0,G,e,s,h⟩:=hx_;obtain⟨k1,h1,rfl⟩:=qc e
 exact tTof.at h1 s λH1 G1 g1 _=>h H1 G1 g1⟩
theorem Yqp(ha:ZE X a fa):ZE X (.BoolOp .And [a] pos) fa:=⟨have ha:=ha.un;Yaa5 ha⟩
theorem Yqq(ha:ZE X a fa)(hb:ZE X (.BoolOp .And (b::rest) pos) fb):ZE X (.BoolOp .And (a::b::rest) pos) (andV fa fb):=⟨have ha:=ha.un;have hb:=hb.un;PE.imp (Yaa6 ha hb) λσ H Q hx_=>by
 obtain⟨ρ,d,H0,G0,G,e,s,h⟩:=hx_;unfold andV at e;obtain⟨k,h1,e⟩:=qa e;obtain⟨d1,h2,h3⟩:=Yaw h1;cases Yw7 h3
 refine tOf.at h2 s λv H1 G1 g1 r1 s1=>⟨k,by rw[Rp]at r1;exact r1,?_⟩
 cases k with
 | true=>
   rw[if_pos rfl]at e ⊢;exact tOf.at e s1 λw H2 G2 g2 r2 _=>h w H2 G2 (g1.trans g2) r2
 | false=>
   rw[if_neg qi]at e ⊢;cases e
   exact h _ H1 G1 g1 (by rw[Rp])⟩
theorem y2j(ha:ZE X a fa):ZE X (.UnaryOp .Not a pos) (notV fa):=⟨have ha:=ha.un;PE.imp (Yaa7 ha) λσ H Q hx_=>by
 obtain⟨ρ,d,H0,G0,G,e,s,h⟩:=hx_;obtain⟨k,h1,rfl⟩:=qc e;obtain⟨d1,h2,h3⟩:=Yaw h1;cases Yw7 h3
 exact tOf.at h2 s λv H1 G1 g1 r1 s1=>⟨k,by rw[Rp]at r1;exact r1,h _ H1 G1 g1 (by rw[Rp])⟩⟩
theorem Yg1(hc:ZT X c fc)(ha:ZE X a fa)(hb:ZE X b fb):ZE X (.IfExp c a b pos) (ifV fc fa fb):=⟨have hc:=hc.un;have ha:=ha.un;have hb:=hb.un;PE.imp (y39 hc ha hb) λσ H Q hx_=>by
 obtain⟨ρ,d,H0,G0,G,e,s,h⟩:=hx_;unfold ifV at e;obtain⟨k,h1,e⟩:=qa e;refine tTof.at h1 s λH1 G1 g1 s1=>?_
 cases k with
 | true=>
   rw[if_pos rfl]at e ⊢;exact tOf.at e s1 λw H2 G2 g2 r2 _=>h w H2 G2 (g1.trans g2) r2
 | false=>
   rw[if_neg qi]at e ⊢
   exact tOf.at e s1 λw H2 G2 g2 r2 _=>h w H2 G2 (g1.trans g2) r2⟩
theorem y9d(ha:ZC X a fa)(hb:ZC X b fb):ZE X (.Compare a [.Is] [b] pos) (mB (b2 fa fb (isN false))):=⟨have ha:=ha.un;have hb:=hb.un;Ymi y64 y08 ha hb (Yeq _)⟩
theorem y5g(ha:ZC X a fa)(hb:ZC X b fb):ZE X (.Compare a [.IsNot] [b] pos) (mB (b2 fa fb (isN true))):=⟨have ha:=ha.un;have hb:=hb.un;Ymi y0h Yw9 ha hb (Yeq _)⟩
theorem Yqr(ha:ZC X a fa)(hb:ZC X b fb):ZT X (.Compare a [.Is] [b] pos) (b2 fa fb (isN false)):=⟨have ha:=ha.un;have hb:=hb.un;Yh9 y64 y08 ha hb (Yeq _)⟩
theorem Yl2(ha:ZC X a fa)(hb:ZC X b fb):ZT X (.Compare a [.IsNot] [b] pos) (b2 fa fb (isN true)):=⟨have ha:=ha.un;have hb:=hb.un;Yh9 y0h Yw9 ha hb (Yeq _)⟩
theorem Yo(ha:ZC X a fa)(hb:ZC X b fb)(hs:Yip b:=by intro _ _;rfl):ZE X (.Subscript a b pos) (b2 fa fb ixD):=⟨have ha:=ha.un;have hb:=hb.un;Yabx Yabo Yacc ha hb hs⟩
theorem Ya6{lo hi:Option Expr}(ha:ZC X a fa)(hl:ZO X lo fl)(hh:ZO X hi fh):ZF X (.Subscript a (.Slice lo hi none p2) pos) (slF fa fl fh):=⟨have ha:=ha.un;have hl:=hl.un;have hh:=hh.un;
 PE.imp (Yp7 y0w ha hl hh) λσ H Q hx_=>by
  obtain⟨ρ,l,H0,G0,G,e,s,h⟩:=hx_;unfold slF at e;obtain⟨l0,h1,e⟩:=qa e;obtain⟨i,h2,e⟩:=qa e;obtain⟨j,h3,e⟩:=qa e;cases e;obtain⟨d,h4,h5⟩:=Yaw h1;refine tCof.at h4 s λv H1 G1 g1 r1 s1=>y4t h2 s1 λH2 G2 g2 s2=>y4t h3 s2 λH3 G3 g3 s3=>?_;have r3:=(r1.grow g2).grow g3;obtain⟨p,xs,rfl,g,rl⟩:=Ys0 h5 r3;refine⟨p,xs,rfl,g,λq hq=>?_⟩;have hq0:H q=none:=g1.h.free (g2.h.free (g3.h.free hq));have gg:=((g1.trans g2).trans g3).trans (Gr.hid (p:=q) s3.seen hq (.lst (cutV xs i j)));refine h q _ _ G3 gg hq0 (s3.seen.free hq) Yy ?_;unfold cutD cutV;rw[rl.length]
  exact(rl.drop _).take _⟩
theorem Yex :ZO X none none:=⟨Yafa ⟩
theorem Ycb(h:ZC X e f):ZO X (some e) (some f):=⟨have h:=h.un;y0u h⟩
theorem Yu{g:AW}(h:ZF X e g):ZE X e (lF g):=⟨MF.me h.un⟩
theorem Yj :ZA X [] aNil:=⟨y7e ⟩
theorem Yb(ha:ZE X e f)(hr:ZA X es ga)(hs:starEach (e::es) X.env=(false,eval e X.env)::starEach es X.env:=by rfl):ZA X (e::es) (Yg f ga):=⟨y1a ha.un hr.un hs⟩
theorem Yn :ZCA X [] aNil:=⟨Yu2 ⟩
theorem Yl(ha:ZC X e f)(hr:ZCA X es ga)(hs:starEach (e::es) X.env=(false,eval e X.env)::starEach es X.env:=by rfl):ZCA X (e::es) (Yg f ga):=⟨Yqh ha.un hr.un hs⟩
theorem Ybw{x1}(h:ZA X es ga):ZE X (.Tuple es x1 pos) (dTup ga):=⟨have h:=h.un;PE.imp (Yabj h) λσ H Q hx_=>by
 obtain⟨ρ,d,H0,G0,G,e,s,h⟩:=hx_;unfold dTup at e;obtain⟨l,h1,e⟩:=qa e
 split at e
 ·cases e
  refine tAof.at h1 s λvs H1 G1 g1 r1 s1=>⟨by rw[r1.length];exact Yit (by assumption),λp hp=>?_⟩
  refine h _ _ _ (g1.trans (.new s1.seen hp (.tup vs))) ?_;rw[Rp];exact⟨p,vs,rfl,Yy,r1.mono (Gr.new s1.seen hp (.tup vs)).g⟩
 ·cases e⟩
theorem Yag(h:ZA X es ga):ZF X (.List es pos) (dLst ga):=⟨have h:=h.un;PE.imp (Ywy h) λσ H Q hx_=>by
 obtain⟨ρ,d,H0,G0,G,e,s,h⟩:=hx_;unfold dLst at e;obtain⟨l,h1,e⟩:=qa e
 split at e
 ·cases e
  refine tAof.at h1 s λvs H1 G1 g1 r1 s1=>⟨by rw[r1.length];exact Yit (by assumption),λp hp=>?_⟩
  exact h p vs _ G1 (g1.trans (.hid s1.seen hp (.lst vs))) (g1.h.free hp) (s1.seen.free hp) Yy r1
 ·cases e⟩
theorem Yt(hc:Ydd X (.builtin id) r)(hr:SemC X.K r g)(hg:Gl X x)(hm:X.mg x=none)(hv:bootBuiltins x=some (.builtin id))(ha:ZCA X (e::es) ga)(hn:x≠"__name__":=by decide)(hdb:Ndb x:=by decide)(he:starEach (e::es) X.env=(false,eval e X.env)::starEach es X.env:=by rfl)(hpl:(backTo pos (starEach es X.env)).any (·.1)=false:=by rfl):ZE X (.Call (.Name x p) (e::es) [] pos) (cC ga g):=⟨have ha:=ha.un;
 PE.imp (Yi9 hc hg hm hv ha hn hdb he hpl) λ_ _ _ h=>y7f hr h⟩
theorem Yg2(hc:Ydd X (.builtin id) r)(hr:SemF X.K r gf)(hg:Gl X x)(hm:X.mg x=none)(hv:bootBuiltins x=some (.builtin id))(ha:ZCA X (e::es) ga)(hn:x≠"__name__":=by decide)(hdb:Ndb x:=by decide)(he:starEach (e::es) X.env=(false,eval e X.env)::starEach es X.env:=by rfl)(hpl:(backTo pos (starEach es X.env)).any (·.1)=false:=by rfl):ZF X (.Call (.Name x p) (e::es) [] pos) (cF ga gf):=⟨have ha:=ha.un;
 PE.imp (Yi9 hc hg hm hv ha hn hdb he hpl) λ_ _ _ h=>y1b hr h⟩
theorem Yad(hc:Ydd X (.type T) r)(hr:SemC X.K r g)(hg:Gl X x)(hm:X.mg x=none)(hv:bootBuiltins x=some (.type T))(ha:ZCA X (e::es) ga)(hn:x≠"__name__":=by decide)(hdb:Ndb x:=by decide)(he:starEach (e::es) X.env=(false,eval e X.env)::starEach es X.env:=by rfl)(hpl:(backTo pos (starEach es X.env)).any (·.1)=false:=by rfl):ZE X (.Call (.Name x p) (e::es) [] pos) (cC ga g):=⟨have ha:=ha.un;
 PE.imp (Yja hc hg hm hv ha hn hdb he hpl) λ_ _ _ h=>y7f hr h⟩
theorem Ykw(hc:Ydd X (.type T) r)(hr:SemF X.K r gf)(hg:Gl X x)(hm:X.mg x=none)(hv:bootBuiltins x=some (.type T))(ha:ZCA X (e::es) ga)(hn:x≠"__name__":=by decide)(hdb:Ndb x:=by decide)(he:starEach (e::es) X.env=(false,eval e X.env)::starEach es X.env:=by rfl)(hpl:(backTo pos (starEach es X.env)).any (·.1)=false:=by rfl):ZF X (.Call (.Name x p) (e::es) [] pos) (cF ga gf):=⟨have ha:=ha.un;
 PE.imp (Yja hc hg hm hv ha hn hdb he hpl) λ_ _ _ h=>y1b hr h⟩
theorem Yw :ZB X [] sNil:=⟨Yacf ⟩
theorem Yi(h1:ZS X st fs)(h2:ZB X sts gs):ZB X (st::sts) (sSeq fs gs):=⟨have h1:=h1.un;have h2:=h2.un;PSs.imp (Yly h1 h2) λF σ H hx_=>by
 obtain⟨ρ,out,H0,G0,G,e,s,h⟩:=hx_;unfold sSeq at e;obtain⟨o,h3,e⟩:=qa e
 cases o with
 | nx ρ'=>exact⟨ρ,.nx ρ',H0,G0,G,h3,s,λσ' H' G' s'=>⟨ρ',out,H0,G0,G',e,s',h⟩⟩
 | rt d=>cases e;exact⟨ρ,.rt d,H0,G0,G,h3,s,h⟩
 | bk ρ'=>cases e;exact⟨ρ,.bk ρ',H0,G0,G,h3,s,h⟩
 | ct ρ'=>cases e;exact⟨ρ,.ct ρ',H0,G0,G,h3,s,h⟩⟩
theorem Yk(h1:ZS X st fs):ZB X [st] fs:=⟨have h1:=h1.un;Yuv h1⟩
theorem Yg3(is:AF)(h:ZS X st fs):ZS X st (wF is fs):=⟨have h:=h.un;PS.imp h λF σ H hx_=>by
 obtain⟨ρ,out,H0,G0,G,e,s,h⟩:=hx_;obtain⟨G',s'⟩:=SR.frz is s
 exact⟨frz is ρ,out,H0,G0,G',e,s',h⟩⟩
theorem Yab(i:Nat)(hN:X.N.Nodup)(he:ZE X e f)(hi:X.N[i]?=some x:=by rfl)(hx:Loc X.env.scope x:=by trivial)(hs:swapsWith e (some (.Name x pos')) pos.line X.env=pure false:=by rfl)(hf:X.fn x=true\/X.env.scope.names.lookup x=some .local:=by trivial):ZS X (.Assign [.Name x pos'] e pos) (sSet i f):=⟨have he:=he.un;PS.imp (Ywx hN hi hx he hs hf) λ_ _ _ h=>Yaci h⟩
theorem Yiw(i:Nat)(hN:X.N.Nodup)(he:ZF X e gl)(hi:X.N[i]?=some x:=by rfl)(hx:Loc X.env.scope x:=by trivial)(hs:swapsWith e (some (.Name x pos')) pos.line X.env=pure false:=by rfl)(hf:X.fn x=true\/X.env.scope.names.lookup x=some .local:=by trivial):ZS X (.Assign [.Name x pos'] e pos) (sOwn i gl):=⟨have he:=he.un;PS.imp (Ywx hN hi hx he hs hf) λ_ _ _ h=>Yacj h⟩
theorem Yp(he:ZE X e f):ZS X (.Return (some e) pos) (sRet f):=⟨have he:=he.un;PS.imp (y0a he) λF σ H hx_=>by
 obtain⟨ρ,out,H0,G0,G,e,s,h⟩:=hx_;obtain⟨d,h1,rfl⟩:=qc e
 exact tOf.at h1 s λv H1 G1 g1 r1 s1=>h v H1 G1 s1.gr r1⟩
theorem y8{a b:List Stmt}(hc:ZT X c fc)(ha:ZB X a fs)(hb:ZB X b gs):ZS X (.If c a b pos) (sIf fc fs gs):=⟨have hc:=hc.un;have ha:=ha.un;have hb:=hb.un;PS.imp (y4a hc ha hb) λF σ H hx_=>by
 obtain⟨ρ,out,H0,G0,G,e,s,h⟩:=hx_;unfold sIf at e;obtain⟨k,h1,e⟩:=qa e;refine tTof.at h1 s λH1 G1 g1 s1=>?_
 cases k with
 | true=>
   rw[if_pos rfl]at e ⊢;exact⟨ρ,out,H0,G0,G1,e,s1,h⟩
 | false=>
   rw[if_neg qi]at e ⊢
   exact⟨ρ,out,H0,G0,G1,e,s1,h⟩⟩
abbrev Few(X:Cx)(c:Pos)(l:AL):Prop:=((backTo c (starEach l X.env)).all (λx=>!x.1)&&(backToKw c (keywordEach [] X.env)).all (λx=>x.1.isSome)&&decide (l.length+([]:List Keyword).length+(if ([]:List Keyword).isEmpty then 0 else 1)<30))=true
theorem Ycc(i:Nat){p2 apos cpos:Pos}(he:ZE X e f)(hN:X.N[i]?=some x:=by rfl)(hv:Vis X.env.scope x:=by trivial)(hd:Ndb x:=by decide)(hcd:Ncd x:=by decide)(hse:swapsWith (.Call (.Attribute (.Name x p2) "append" apos) [e] [] cpos) none pos.line X.env=pure false:=by rfl)(hs:starEach [e] X.env=[(false,eval e X.env)]:=by rfl)(hfew:Few X cpos [e]:=by rfl)(hline:(apos.endLine==cpos.line)=true:=by rfl)(hbase:attributeBase (.Name x p2) "append" X.env (eval (.Name x p2) X.env)=eval (.Name x p2) X.env:=by rfl):ZS X (.Expr (.Call (.Attribute (.Name x p2) "append" apos) [e] [] cpos) pos) (sMut i f appD):=⟨have he:=he.un;
 PS.imp (Ykm (Yux PySem.F.plainAttrs_list PySem.F.slot_list_append PySem.F.type_list_append Yjb (Yh7 hN hv hd hcd) (Yb7 he Yer hs) hbase hfew hline hs rfl) hse) λF σ H hx_=>by
  obtain⟨ρ,out,H0,G0,G,e,s,h⟩:=hx_;unfold sMut at e;obtain⟨l,h1,e⟩:=qa e;obtain⟨d,h2,e⟩:=qa e;obtain⟨l',h3,rfl⟩:=qc e;unfold appD at h3
  split at h3
  ·rename_i hl
   cases h3;obtain⟨a,xs,ha,hH,hr,hG⟩:=y1f s h1;refine⟨_,ha,.inl ⟨rfl,xs,SqL.of hH⟩,tOf.at h2 s λv H1 G1 g1 r1 s1=>?_⟩;refine⟨a,xs,v,rfl,rfl,g1.h _ _ hH,?_,h σ _ G1 (s1.mut (Yjh h1) ha ((hr.mono g1.g).append (.one r1)))⟩;rw[hr.length];exact Qc hl (Yit (qu _))
  ·cases h3⟩
theorem Yae(hl:ZE X l f):ZI X tg l (b1 f Yr):=⟨have hl:=hl.un;PI.imp (Yacn hl) λσ H R hx_=>by
 obtain⟨ρ,ds,H0,G0,G,e,s,h⟩:=hx_;obtain⟨c,h1,h2⟩:=Yaw e;refine tOf.at h1 s λv H1 G1 g1 r1 s1=>?_;rcases Yax h2 with rfl|rfl|⟨ns,rfl,rfl⟩
 ·rw[Rp]at r1
  obtain⟨p,xs,rfl,g,rl⟩:=r1;refine⟨p,xs,rfl,.inr ⟨.inl (.inl (s1.seen _ _ g)),λhz=>h _ H1 G1 g1 (y1h (by rw[<-rl.length];exact hz) λi H2 G2 e1 e2=>⟨λd hd=>?_,λhi=>⟨xs,.inl (.inl (e2 _ _ (e1 _ _ g))),by rw[rl.length];exact hi⟩⟩)⟩⟩;obtain⟨x,hx,rx⟩:=rl.get hd;refine⟨⟨xs,x,.inl (.inl (e2 _ _ (e1 _ _ g))),hx⟩,λy H3 q=>⟨q.1,?_⟩⟩;have:=q.2 xs (.inl (.inl (e2 _ _ (e1 _ _ g))));rw[hx]at this;cases this;exact rx.mono e1
 ·rw[Rp]at r1
  obtain⟨p,xs,rfl,g,rl⟩:=r1;refine⟨p,xs,rfl,.inl ⟨.inl (Yba s1.seen g),λhz=>h _ H1 G1 g1 (y1h (by rw[<-rl.length];exact hz) λi H2 G2 e1 e2=>⟨λd hd=>?_,λhi=>⟨xs,.inl (Yba e2 (Yba e1 g)),by rw[rl.length];exact hi⟩⟩)⟩⟩;obtain⟨x,hx,rx⟩:=rl.get hd;refine⟨⟨xs,x,.inl (Yba e2 (Yba e1 g)),hx⟩,λy H3 q=>⟨q.1,?_⟩⟩;have:=q.2 xs (.inl (Yba e2 (Yba e1 g)));rw[hx]at this;cases this;exact rx.mono e1
 ·rw[Rp]at r1
  obtain⟨p,rfl,g⟩:=r1;have rl:RpL X.K G1 (ns.map D.int) (ns.map V.int):=.ints ns;refine⟨p,_,rfl,.inl ⟨s1.seen.seq g,λhz=>h _ H1 G1 g1 (y1h (by grind) λi H2 G2 e1 e2=>⟨λd hd=>?_,λhi=>⟨_,e2.seq (e1.seq g),by grind⟩⟩)⟩⟩;obtain⟨x,hx,rx⟩:=rl.get hd;refine⟨⟨_,x,e2.seq (e1.seq g),hx⟩,λy H3 q=>⟨q.1,?_⟩⟩;have:=q.2 _ (e2.seq (e1.seq g));rw[hx]at this;cases this
  exact rx.mono e1⟩
theorem Yhq(hg:Gl X "range")(hm:X.mg "range"=none)(ha:ZA X [a] ga)(hs:starEach [a] X.env=[(false,eval a X.env)]:=by rfl):ZI X tg (.Call (.Name "range" p) [a] [] pos) (cF ga rng1):=⟨have ha:=ha.un;
 PI.imp (y0d hg hm ha hs) λσ H R hx_=>by
  obtain⟨ρ,ds,H0,G0,G,e,s,h⟩:=hx_;unfold cF at e;obtain⟨l,h1,h2⟩:=qa e;refine tAof.at h1 s λvs H1 G1 g1 r1 s1=>?_;obtain⟨n,rfl,c1,c2,rfl⟩:=y1i h2;obtain⟨v,rfl,rv⟩:=Ykq r1;rw[Rp]at rv;subst rv;refine⟨n,rfl,by lia,by lia,?_⟩;have:=h (Itr 0 (n-0).toNat) H1 G1 g1 (Yacp (Yit (by unfold cap6;lia)))
  grind⟩
theorem y7(i:Nat)(hN:X.N.Nodup)(hi:X.N[i]?=some x:=by rfl)(hx:Loc X.env.scope x:=by trivial)(hf:X.fn x=true\/X.env.scope.names.lookup x=some .local:=by trivial):ZG X (.Name x pos) (gSet i):=⟨
 PG.imp (Yio hN hi hx hf) λv σ H Q hx_=>by
  obtain⟨d,ρ,ρ',H0,G0,G,e,s,r,h⟩:=hx_;cases e
  exact h _ (s.set_sh i r)⟩
theorem Yxg(i j:Nat){x y:Str}{px py:Pos}{k:Nat}(hc:X.calm=true)(hN:X.N.Nodup)(hi:X.N[i]?=some x:=by rfl)(hj:X.N[j]?=some y:=by rfl)(hx:Loc X.env.scope x:=by trivial)(hy:Loc X.env.scope y:=by trivial)(hf:X.fn x=true\/X.env.scope.names.lookup x=some .local:=by trivial)(hf2:X.fn y=true\/X.env.scope.names.lookup y=some .local:=by trivial):ZG X (.Tuple [.Name x px,.Name y py] k pos) (Yof i j):=⟨
 PG.imp (Yaa8 (n:=2) hc (Yhl (Yio hN hi hx hf) (Yhl (Yio hN hj hy hf2) y0b))) λv σ H Q hx_=>by
  obtain⟨d,ρ,ρ',H0,G0,G,e,s,r,h⟩:=hx_
  match d,e,r with
  | .tup [a,b],e,r=>
    cases e;rw[Rp]at r;obtain⟨p,xs,rfl,g,rl⟩:=r;rw[RpL]at rl;obtain⟨u,us,rfl,ru,rl⟩:=rl;obtain⟨w,rfl,rw'⟩:=Ykq rl
    exact⟨p,[u,w],rfl,.inl (.inl (s.seen _ _ g)),rfl,u,[w],rfl,w,[],rfl,rfl,h _ ((s.set_sh i ru).set_sh j rw')⟩⟩
theorem Yix(hp:PassesOwn (model X.prog X.w) X.A X.env X.xe)(hc:X.calm=true)(hi:ZI X tg iter gl)(hg:ZG X tg gt)(hb:ZB X body fs)(hs:∀x,foldedSetIterable iter X.env x=pure x:=by intro _;rfl):ZS X (.For tg iter body [] pos) (sFor gl gt fs):=⟨have hi:=hi.un;have hg:=hg.un;have hb:=hb.un;
 PS.imp (y63 hp hc hi hg hb hs) λF σ H hx_=>by
  obtain⟨ρ,out,H0,G0,G,e,s,h⟩:=hx_;unfold sFor at e;obtain⟨ds,h1,h2⟩:=qa e;refine⟨ρ,ds,H0,G0,G,h1,s,λJ H1 G1 g1 wk=>?_⟩;obtain⟨Hb,sb,back⟩:=(s.grow g1).rebase;have hout:=Yiu ds ρ out h2;refine⟨λi m σ' H'=>m=ds.length-i/\i<=ds.length/\∃ρ' G',SR X.K Hb G1 σ' H' G' ρ'/\forM gt fs (ds.drop i) ρ'=some out,⟨_,rfl,jc _,ρ,G1,sb,h2⟩,?_⟩;rintro i m σ' H' ⟨rfl,hi,ρ',G',s',e'⟩;have W:=wk.2 i H' G' s'.gr.g s'.seen;by_cases hlt:i<ds.length
  ·have hd:ds[i]?=some ds[i]:=qq hlt
   obtain⟨go,yl⟩:=W.1 _ hd;rw[List.drop_eq_getElem_cons hlt,forM]at e';obtain⟨ρ1,e1,e'⟩:=qa e';obtain⟨o,e2,e'⟩:=qa e';refine .inr ⟨go,λσ' H'=>i+1<=ds.length/\∃ρ' G',SR X.K Hb G1 σ' H' G' ρ'/\forM gt fs (ds.drop (i+1)) ρ'=some out,λσ2 H2 q=>⟨ds.length-(i+1),by lia,rfl,q.1,q.2⟩,λx H2 y=>?_⟩;obtain⟨G2,g2,r2⟩:=yl x H2 y;refine⟨_,ρ',ρ1,Hb,G1,G2,e1,s'.grow g2,r2,λσ3 s3=>?_⟩;refine⟨ρ1,o,Hb,G1,G2,e2,s3,?_⟩
   cases o with
   | nx ρ2=>exact λσ4 H4 G4 s4=>⟨hlt,ρ2,G4,s4,e'⟩
   | ct ρ2=>exact λσ4 H4 G4 s4=>⟨hlt,ρ2,G4,s4,e'⟩
   | bk ρ2=>
     cases e';exact λσ4 H4 G4 s4=>h σ4 H4 G4 (back _ _ _ _ s4)
   | rt d=>
     cases e';refine λv H4 G4 g4 r4=>h v H4 G4 ?_ r4;have:=(back [] H4 G4 [] (SR.mkSh g4 rfl (λi d e=>(by simp at e)) (λi l e=>(by simp at e)) (λi t ks vs e=>(by simp at e)))).gr;exact this
  ·have ei:i=ds.length:=by lia
   subst ei;rw[List.drop_length,forM]at e';cases e'
   exact .inl ⟨W.2 (qu _),h σ' H' G' (back _ _ _ _ s')⟩⟩
theorem Yar :ZIfs X X.K [] tY:=⟨Yacr ⟩
theorem Yat(S:CompSc X.N X.env.scope N src scope)(hc:X.calm=true)(hit:ZI X tg iter gl)(hg:∀cl C fp s H,ZG (Ya3 X scope N cl C fp s H) tg gt)(hi:∀cl C fp s H,ZIfs (Ya3 X scope N cl C fp s H) X.K ifs fc)(he:∀cl C fp s H,ZE (Ya3 X scope N cl C fp s H) elt fe)(hle:∀ρ d ρ1,gt d (capR src ρ)=some ρ1->Le (capR src ρ) ρ1)(hs:∀x,foldedSetIterable iter X.env x=pure x:=by intro _;rfl):ZF X (.ListComp elt [⟨tg,iter,ifs,0⟩] scope pos) (Ybd gl src gt fc fe):=⟨y8v S hc hit.un (λcl C fp s H=>(hg cl C fp s H).un) (λcl C fp s H=>(hi cl C fp s H).un) (λcl C fp s H=>(he cl C fp s H).un) hle hs⟩
theorem Yck(i:Nat){py spos:Pos}(hN:X.N.Nodup)(S:CompSc X.N X.env.scope N src scope)(hc:X.calm=true)(hit:ZI X tg iter gl)(hg:∀cl C fp s H,ZG (Ya3 X scope N cl C fp s H) tg gt)(hi:∀cl C fp s H,ZIfs (Ya3 X scope N cl C fp s H) X.K ifs fc)(he:∀cl C fp s H,ZE (Ya3 X scope N cl C fp s H) elt fe)(hle:∀ρ d ρ1,gt d (capR src ρ)=some ρ1->Le (capR src ρ) ρ1)(hsw:swapsWith (.ListComp elt [⟨tg,iter,ifs,0⟩] scope pos) (some (.Name y py)) spos.line X.env=pure true:=by rfl)(hy:X.N[i]?=some y:=by rfl)(hx:Loc X.env.scope y:=by trivial)(hf:X.fn y=true\/X.env.scope.names.lookup y=some .local:=by trivial)(hs:∀x,foldedSetIterable iter X.env x=pure x:=by intro _;rfl):ZS X (.Assign [.Name y py] (.ListComp elt [⟨tg,iter,ifs,0⟩] scope pos) spos) (sOwn i (Ybd gl src gt fc fe)):=⟨y8w i hN S hc hit.un (λcl C fp s H=>(hg cl C fp s H).un) (λcl C fp s H=>(hi cl C fp s H).un) (λcl C fp s H=>(he cl C fp s H).un) hle hsw hy hx hf hs⟩
theorem Ykx{f:Addr}{fd:FuncData}{fb:AS}(F:Fun K x qual st f fd)(S:FnScope N ps (defScope st))(hn:N.length=n)(hm:ps.length=m)(hb:∀(cdv:Value) (A:Around) (outer:List Env) (s:Shared) (H:Hp) (E:XK),Room k (A.deeper (envOfC qual (defScope st) (~~~s) f cdv))->ZB (cxOf CX0 P w K mg base N qual (defScope st) f cdv A outer s H E).nox (defBody st) fb):FnOk P w K mg base CX0 (k+1) f fd ps (spOf K m (runB m n fb)):=y1l F S hn hm (λcdv A outer s H E hr=>(hb cdv A outer s H E hr).un)
theorem Ym(c:Okf X.prog X.w X.K X.mg X.base j n x ps fn)(hr:Room k X.A)(hg:Gl X x)(ha:ZA X (e::es) ga)(hl:∀ρ l,ga ρ=some l->l.length=n)(hj:j<=k:=by first|exact qu _|lia)(hdb:Ndb x:=by decide)(he:starEach (e::es) X.env=(false,eval e X.env)::starEach es X.env:=by rfl)(hpl:(backTo pos (starEach es X.env)).any (·.1)=false:=by rfl):ZE X (.Call (.Name x p) (e::es) [] pos) (cC ga fn):=⟨have ha:=ha.un;by
 obtain⟨a,fd,F,hb,hk,hm⟩:=c
 exact y8q F (hr.mono hj) hg hm hk hb ha hdb he hpl hl⟩
theorem Yiy(ha:ZC X a fa)(hb:ZC X b fb):ZE X (.BinOp a .Add b pos) (b2 fa fb addI):=⟨have ha:=ha.un;have hb:=hb.un;Ypi Yabc y05 ha hb⟩
theorem Ymx(ha:ZC X a fa):ZE X (.UnaryOp .USub a pos) (b1 fa negI):=⟨have ha:=ha.un;PE.imp (Yaep Yabg ha) λσ H Q hx_=>by
 obtain⟨ρ,d,H0,G0,G,e,s,h⟩:=hx_;obtain⟨x,h1,h2⟩:=Yaw e;refine tCof.at h1 s λv H1 G1 g1 r1 s1=>?_;cases x<;>simp[negI]at h2;subst h2;rw[Ct]at r1
 exact⟨_,r1,h _ H1 G1 g1 (by rw[Rp])⟩⟩
theorem Yct(ha:ZC X a fa)(hb:ZC X b fb):ZF X (.BinOp a .Add b pos) (b2 fa fb catD):=⟨have ha:=ha.un;have hb:=hb.un;PE.imp (Yabb y8x ha hb) λσ H Q hx_=>by
 obtain⟨ρ,l,H0,G0,G,e,s,h⟩:=hx_;obtain⟨dx,dy,h1,h2,h3⟩:=Yqf e;refine tCof.at h1 s λv H1 G1 g1 r1 s1=>tCof.at h2 s1 λu H2 G2 g2 r2 s2=>?_;unfold catD at h3
 split at h3
 ·rename_i l1 l2
  split at h3
  ·rename_i hz
   cases h3;have r1':=r1.grow g2;rw[Ct]at r1' r2;obtain⟨p,xs,rfl,gp,rl⟩:=r1';obtain⟨q,zs,rfl,gq,rm⟩:=r2;refine⟨p,q,xs,zs,rfl,rfl,gp,gq,by rw[rl.length,rm.length];exact Yit hz,λm hm=>?_⟩;exact h m _ _ G2 ((g1.trans g2).trans (.hid s2.seen hm _)) (g1.h.free (g2.h.free hm)) (s2.seen.free hm) Yy (rl.append rm)
  ·cases h3
 ·cases h3⟩
theorem Yky(ha:ZC X a fa)(hg:Gl X "isinstance")(hg2:Gl X tn)(hm:X.mg "isinstance"=none)(hm2:X.mg tn=none)(hv2:bootBuiltins tn=some (.type T))(hk:Kit T)(hv:bootBuiltins "isinstance"=some (.builtin "isinstance"):=by decide +kernel)(hn2:tn≠"__name__":=by decide)(hd2:(tn==("__debug__":Str))=false:=by decide)(hs:starEach [a,.Name tn p2] X.env=(false,eval a X.env)::starEach [.Name tn p2] X.env:=by rfl)(hs2:starEach [.Name tn p2] X.env=(false,eval (.Name tn p2) X.env)::starEach [] X.env:=by rfl)(hpl:(backTo pos (starEach [.Name tn p2] X.env)).any (·.1)=false:=by rfl):ZE X (.Call (.Name "isinstance" p) [a,.Name tn p2] [] pos) (mB (b1 fa (isiD T))):=⟨have ha:=ha.un;
 PE.imp (Yi9 (y40 hk) hg hm hv (Yb7 ha (Yb7 (y7z hg2 hm2 hv2 (v:=.ty T) rfl hn2 hd2) Yer hs2) hs) (by decide) (by decide) hs hpl) λσ H Q hx_=>by
  obtain⟨ρ,d,H0,G0,G,e,s,h⟩:=hx_;obtain⟨k,ek,rfl⟩:=Yqg e;obtain⟨x,h1,h2⟩:=Yaw ek;unfold isiD at h2
  split at h2
  ·cases h2
   exact tCof.at h1 s λv H1 G1 g1 r1 s1=>⟨v,x,G1,rfl,by assumption,r1,h _ H1 G1 g1 (by rw[Rp])⟩
  ·cases h2⟩
theorem Yvh(i:Nat){x:Str}{ie:Expr}{p2 p3:Pos}(hb:ZC X ie fb)(he:ZE X e f)(hN:X.N[i]?=some x:=by rfl)(hv:Vis X.env.scope x:=by trivial)(hd:Ndb x:=by decide)(hcd:Ncd x:=by decide)(ha:∀v,assign (.Subscript (.Name x p2) ie p3) X.env v=(do
 let ov <-holding [v] (eval (.Name x p2) X.env)
 let iv <-holding [v,ov] (eval ie X.env)
 standAt p3
 holding [v,ov,iv] (setItem ov iv v)
 release [v,ov,iv] []):=by intro _;rfl) (hs:swapsWithSole [.Subscript (.Name x p2) ie p3] e pos.line X.env=pure false:=by rfl) (hw:swappedStores [.Subscript (.Name x p2) ie p3] e X.env=pure none:=by rfl) (h1:(assignEach [.Subscript (.Name x p2) ie p3] X.env).map (·.2)=[assign (.Subscript (.Name x p2) ie p3) X.env]:=by rfl):ZS X (.Assign [.Subscript (.Name x p2) ie p3] e pos) (y1t i fb f setD):=⟨have hb:=hb.un;have he:=he.un;
 PS.imp (y62 he (Yaa9 (Yh7 hN hv hd hcd) hb y4l ha) hs hw h1) λF σ H hx_=>by
  obtain⟨ρ,out,H0,G0,G,e,s,h⟩:=hx_;unfold y1t at e;obtain⟨d,h1,e⟩:=qa e;obtain⟨l,h2,e⟩:=qa e;obtain⟨k,h3,e⟩:=qa e;obtain⟨l',h4,rfl⟩:=qc e;unfold setD at h4;obtain⟨n,h5,h4⟩:=qa h4;obtain⟨j,h6,rfl⟩:=qc h4;refine tOf.at h1 s λv H1 G1 g1 r1 s1=>?_;obtain⟨a,xs,ha,hH,hr,hG⟩:=y1f s1 h2;refine⟨_,ha,tCof.at h3 s1 λu H2 G2 g2 r2 s2=>?_⟩;cases k<;>simp[intD]at h5;subst h5;rw[Ct]at r2;subst r2;refine⟨a,xs,_,j,rfl,rfl,g2.h _ _ hH,by rw[hr.length];exact h6,?_⟩
  exact h σ _ G2 (s2.mut (Yjh h2) ha ((hr.mono g2.g).set j (r1.mono g2.g)))⟩
theorem Yjm(hg:Gl X "enumerate")(hm:X.mg "enumerate"=none)(hl:ZE X l f)(hs:starEach [l] X.env=[(false,eval l X.env)]:=by rfl):ZI X (.Tuple elts x1 pt) (.Call (.Name "enumerate" p) [l] [] pos) (b1 f Yy9):=⟨have hl:=hl.un;
 PI.imp (y81 hg hm (y1a hl y7e hs) hs) λσ H R hx_=>by
  obtain⟨ρ,ds,H0,G0,G,e,s,h⟩:=hx_;obtain⟨c,h1,h2⟩:=Yaw e;obtain⟨l,h3,rfl⟩:=qc h2;refine tAof.at (show Yg f aNil ρ=some [c] by simp[Yg,aNil,h1]) s λvs H1 G1 g1 r1 s1=>?_;obtain⟨v,rfl,rv⟩:=Ykq r1;rcases Yax h3 with rfl|rfl|⟨ns,rfl,rfl⟩
  ·rw[Rp]at rv
   obtain⟨p,xs,rfl,g,rl⟩:=rv;refine⟨p,xs,rfl,.inr ⟨.inl (.inl (s1.seen _ _ g)),λhz=>h _ H1 G1 g1 ⟨by rw[Yca,<-rl.length];exact hz,λi H2 G2 e1 e2=>⟨λd hd=>?_,λhi=>⟨xs,.inl (.inl (e2 _ _ (e1 _ _ g))),by rw[rl.length,<-Yca l];exact hi⟩⟩⟩⟩⟩;obtain⟨d',hd',rfl⟩:=Yms hd;obtain⟨x,hx,rx⟩:=rl.get hd';refine⟨⟨xs,x,.inl (.inl (e2 _ _ (e1 _ _ g))),hx⟩,λy H3 q=>?_⟩;obtain⟨y',q',a1,a2,rfl,rfl⟩:=q;have:=a1 xs (.inl (.inl (e2 _ _ (e1 _ _ g))));rw[hx]at this;cases this;exact Gr.newTup e2 a2 i (rx.mono e1)
  ·rw[Rp]at rv
   obtain⟨p,xs,rfl,g,rl⟩:=rv;refine⟨p,xs,rfl,.inl ⟨.inl (Yba s1.seen g),λhz=>h _ H1 G1 g1 ⟨by rw[Yca,<-rl.length];exact hz,λi H2 G2 e1 e2=>⟨λd hd=>?_,λhi=>⟨xs,.inl (Yba e2 (Yba e1 g)),by rw[rl.length,<-Yca l];exact hi⟩⟩⟩⟩⟩;obtain⟨d',hd',rfl⟩:=Yms hd;obtain⟨x,hx,rx⟩:=rl.get hd';refine⟨⟨xs,x,.inl (Yba e2 (Yba e1 g)),hx⟩,λy H3 q=>?_⟩;obtain⟨y',q',a1,a2,rfl,rfl⟩:=q;have:=a1 xs (.inl (Yba e2 (Yba e1 g)));rw[hx]at this;cases this;exact Gr.newTup e2 a2 i (rx.mono e1)
  ·rw[Rp]at rv
   obtain⟨p,rfl,g⟩:=rv;have rl:RpL X.K G1 (ns.map D.int) (ns.map V.int):=.ints ns;refine⟨p,_,rfl,.inl ⟨s1.seen.seq g,λhz=>h _ H1 G1 g1 ⟨by rw[Yca,<-rl.length];exact hz,λi H2 G2 e1 e2=>⟨λd hd=>?_,λhi=>⟨_,e2.seq (e1.seq g),by rw[rl.length,<-Yca];exact hi⟩⟩⟩⟩⟩;obtain⟨d',hd',rfl⟩:=Yms hd;obtain⟨x,hx,rx⟩:=rl.get hd';refine⟨⟨_,x,e2.seq (e1.seq g),hx⟩,λy H3 q=>?_⟩;obtain⟨y',q',a1,a2,rfl,rfl⟩:=q;have:=a1 _ (e2.seq (e1.seq g));rw[hx]at this;cases this
   exact Gr.newTup e2 a2 i (rx.mono e1)⟩
theorem Yvi(hc:X.calm=true)(hg:Gl X "list")(hm:X.mg "list"=none)(hg2:Gl X "reversed")(hm2:X.mg "reversed"=none)(ha:ZC X e f)(hs:starEach [e] X.env=[(false,eval e X.env)]:=by rfl)(he:starEach [.Call (.Name "reversed" p2) [e] [] pos2] X.env=[(false,eval (.Call (.Name "reversed" p2) [e] [] pos2) X.env)]:=by rfl):ZF X (.Call (.Name "list" p) [.Call (.Name "reversed" p2) [e] [] pos2] [] pos) (revF f):=⟨have ha:=ha.un;
 PE.imp (Yzb hc hg hm hg2 hm2 (Yqh ha Yu2 hs) hs he) λσ H Q hx_=>by
  obtain⟨ρ,l,H0,G0,G,e,s,h⟩:=hx_;obtain⟨l0,h1,rfl⟩:=qc e;obtain⟨d,h2,h3⟩:=Yaw h1;refine tCAof.at (show Yg f aNil ρ=some [d] by simp[Yg,aNil,h2]) s λvs H1 G1 g1 r1 s1=>?_;obtain⟨v,rfl,rv⟩:=Yci r1;obtain⟨q,xs,rfl,g,rl⟩:=Ys0 h3 rv
  exact⟨q,xs,rfl,g,λm hm'=>h m _ _ G1 (g1.trans (.hid s1.seen hm' _)) (g1.h.free hm') (s1.seen.free hm') Yy rl.reverse⟩⟩
theorem Ypj(i:Nat){p2 apos cpos:Pos}(he:ZE X e f)(hN:X.N[i]?=some x:=by rfl)(hv:Vis X.env.scope x:=by trivial)(hd:Ndb x:=by decide)(hcd:Ncd x:=by decide)(hse:swapsWith (.Call (.Attribute (.Name x p2) "extend" apos) [e] [] cpos) none pos.line X.env=pure false:=by rfl)(hs:starEach [e] X.env=[(false,eval e X.env)]:=by rfl)(hfew:Few X cpos [e]:=by rfl)(hline:(apos.endLine==cpos.line)=true:=by rfl)(hbase:attributeBase (.Name x p2) "extend" X.env (eval (.Name x p2) X.env)=eval (.Name x p2) X.env:=by rfl):ZS X (.Expr (.Call (.Attribute (.Name x p2) "extend" apos) [e] [] cpos) pos) (sMut i f extD):=⟨have he:=he.un;
 PS.imp (Ykm (Yux PySem.F.plainAttrs_list PySem.F.slot_list_extend PySem.F.type_list_extend Yacy (Yh7 hN hv hd hcd) (Yb7 he Yer hs) hbase hfew hline hs rfl) hse) λF σ H hx_=>by
  obtain⟨ρ,out,H0,G0,G,e,s,h⟩:=hx_;unfold sMut at e;obtain⟨l,h1,e⟩:=qa e;obtain⟨d,h2,e⟩:=qa e;obtain⟨l',h3,rfl⟩:=qc e;unfold extD at h3
  split at h3
  ·rename_i m
   split at h3
   ·rename_i hl
    cases h3;obtain⟨a,xs,ha,hH,hr,hG⟩:=y1f s h1;refine⟨_,ha,.inl ⟨rfl,xs,SqL.of hH⟩,tOf.at h2 s λv H1 G1 g1 r1 s1=>?_⟩;rw[Rp]at r1;obtain⟨b,zs,rfl,gb,rz⟩:=r1;refine⟨a,b,xs,zs,rfl,rfl,g1.h _ _ hH,Yba s1.seen gb,?_,h σ _ G1 (s1.mut (Yjh h1) ha ((hr.mono g1.g).append rz))⟩;rw[hr.length,rz.length];exact Yit hl
   ·cases h3
  ·cases h3⟩
theorem y2k(g:GD X.K X.w X.mg x kvs)(hg:Gl X x)(hk:ZC X ke fk)(hs:NoSl ke:=by intro _ _;rfl)(hd:Ndb x:=by decide):ZE X (.Subscript (.Name x px) ke pos) (b1 fk (y1y kvs)):=⟨have hk:=hk.un;by
 obtain⟨p,o,es,ep,hm,hl,hx,hdt,hse⟩:=g;intro pins s σ H Q I ⟨ρ,d,H0,G0,G,e,sr,h⟩;obtain⟨dk,h1,h2⟩:=Yaw e;refine y0q PySem.F.slot_dict_getitem.lookup hs (Ygu I hg hm ?_ hd);refine thn (hk pins s σ H (fun(v':V) (H':Hp)=>∃k r,v'=.str k/\kvs.lookup k=some r/\Q (.str r) H') I (tCof.at h1 sr λv H1 G1 g1 r1 s1=>?_)) λiv s2 q0=>?_
 ·unfold y1y at h2
  split at h2
  ·rename_i k
   obtain⟨r,h3,rfl⟩:=qc h2;rw[Ct]at r1;exact⟨k,r,r1.1,h3,h _ H1 G1 g1 (by rw[Rp];exact⟨rfl,Yacz hse h3⟩)⟩
  ·cases h2
 ·obtain⟨y,H2,I2,ry,k,r,rfl,h3,q⟩:=q0
  obtain⟨t,rfl⟩:=ry;have ho:s2.heap.get? p=some o:=I2.kIn p o hl;obtain⟨e',t',f1,f2⟩:=Yu7 (P:=X.prog) hse h3;refine⟨⟨o,ho,hx.1⟩,wpAny_getItem_of (knd:=PySem.strKind X.prog X.w) (k:=k) (f:=λk=>findBy (PySem.strKind X.prog X.w).is es k) (v:=.str r t') (by simp[PySem.strKind,Value.isStrOf]) ⟨o,es,ep,ho,hx,hdt,?_,λ_=>rfl⟩ ?_ ⟨.str r,H2,I2.tok _,⟨t',rfl⟩,q⟩⟩
  ·intro e'' he
   exact y1x hse e'' (by grind)
  ·show(es.find? λe=>(PySem.strKind X.prog X.w).is k e.key).map (·.val)=_
   grind⟩
theorem Yjn{i:Int}(g:GI X.mg x i)(hg:Gl X x)(hd:Ndb x:=by decide):ZE X (.Name x px) (kD (.int i)):=⟨by
 obtain⟨t,hm⟩:=g
 exact Yho (v:=.int i) (Yl6 (v:=.int i) hg hm ⟨t,rfl⟩ hd) (λ_ _ _ q=>q) λ_=>by rw[Rp]⟩
end
section
variable {X:Cx}{a b c e:Expr}{fa fb fc f:AV}{pos px:Pos}{st:Stmt}{K:W.Frag}{x:Str}{ks:AK}
theorem y2l(ho:OpR X (compareOp op) r)(hr:Yf0 X.K r g)(ho':OpR X (compareOp op') r')(hr':Yf0 X.K r' g')(ha:ZC X a fa)(hb:ZC X b fb)(hc:ZC X c fc)(hm:lastMarks [op,op'] [b,c]=false:=by with_unfolding_all rfl):ZE X (.Compare a [op,op'] [b,c] pos) (mB (ch3 fa fb fc g g')):=⟨have ha:=ha.un;have hb:=hb.un;have hc:=hc.un;
 PE.imp (y4e ho ho' ha hb hc hm) λσ H Q h=>by
  obtain⟨ρ,d,H0,G0,G,e,s,h⟩:=h;obtain⟨k,ek,rfl⟩:=Yqg e;obtain⟨x,y,h1,h2,h3⟩:=Yxb ek;refine tCof.at h1 s λv H1 G1 g1 r1 s1=>tCof.at h2 s1 λu H2 G2 g2 r2 s2=>?_;rcases h3 with⟨h3,rfl⟩|⟨h3,z,h4,h5⟩
  ·exact hr v u x y false H2 G2 _ h3 s2.seen (r1.grow g2) r2 ⟨false,rfl,by rw[if_neg (by simp)];exact h _ H2 G2 (g1.trans g2) (by rw[Rp])⟩
  ·refine hr v u x y true H2 G2 _ h3 s2.seen (r1.grow g2) r2 ⟨true,rfl,?_⟩
   rw[if_pos rfl]
   exact tCof.at h4 s2 λw H3 G3 g3 r3 s3=>hr' u w y z k H3 G3 _ h5 s3.seen (r2.grow g3) r3 (h _ H3 G3 ((g1.trans g2).trans g3) (by rw[Rp]))⟩
theorem y2m{op op':CmpOp}{r r':R2}{g g':D->D->Option Bool}(ho:OpR X (compareOp op) r)(hr:Yf0 X.K r g)(ho':OpR X (compareOp op') r')(hr':Yf0 X.K r' g')(ha:ZC X a fa)(hb:ZC X b fb)(hc:ZC X c fc)(hm:lastMarks [op,op'] [b,c]=false:=by with_unfolding_all rfl):ZT X (.Compare a [op,op'] [b,c] pos) (ch3 fa fb fc g g'):=⟨have ha:=ha.un;have hb:=hb.un;have hc:=hc.un;
 PT.imp (y4f ho ho' ha hb hc hm) λσ H Q h=>by
  obtain⟨ρ,k,H0,G0,G,ek,s,h⟩:=h;obtain⟨x,y,h1,h2,h3⟩:=Yxb ek;refine tCof.at h1 s λv H1 G1 g1 r1 s1=>tCof.at h2 s1 λu H2 G2 g2 r2 s2=>?_;rcases h3 with⟨h3,rfl⟩|⟨h3,z,h4,h5⟩
  ·exact hr v u x y false H2 G2 _ h3 s2.seen (r1.grow g2) r2 ⟨false,rfl,by rw[if_neg (by simp)];exact⟨false,rfl,h H2 G2 (g1.trans g2)⟩⟩
  ·refine hr v u x y true H2 G2 _ h3 s2.seen (r1.grow g2) r2 ⟨true,rfl,?_⟩
   rw[if_pos rfl]
   exact tCof.at h4 s2 λw H3 G3 g3 r3 s3=>hr' u w y z k H3 G3 _ h5 s3.seen (r2.grow g3) r3 ⟨k,rfl,h H3 G3 ((g1.trans g2).trans g3)⟩⟩
theorem Yaf :ZS X st nS:=⟨y47 ⟩
theorem y2n(ha:ZC X a fa)(hb:ZC X b fb):ZT X (.Compare a [.Is] [b] pos) (b2 fa fb (isB false)):=⟨have ha:=ha.un;have hb:=hb.un;Yh9 Yac0 y1z ha hb (Yeq _)⟩
theorem Yxh(ha:ZC X a fa)(hb:ZC X b fb):ZT X (.Compare a [.IsNot] [b] pos) (b2 fa fb (isB true)):=⟨have ha:=ha.un;have hb:=hb.un;Yh9 y83 y1z ha hb (Yeq _)⟩
theorem Yxi(hu:X.A.units+64<cLine)(g:GT X.K X.mg x ks)(hg:Gl X x)(ha:ZC X a fa)(hm:behindInMarks .NotIn (.Name x px)=false:=by with_unfolding_all rfl)(hd:Ndb x:=by decide):ZT X (.Compare a [.NotIn] [.Name x px] pos) (b1 fa (inG true ks)):=⟨have ha:=ha.un;by
 obtain⟨p,o,its,n,hmg,hl,hc,hdt,hs⟩:=g;refine PT.imp (Yp5 (y86 hu hl hc hdt hs) ha (Yl6 (v:=.ref p) hg hmg rfl hd) hm) λσ H Q hx_=>?_;obtain⟨ρ,b,H0,G0,G,e,s,h⟩:=hx_;obtain⟨d,h1,h2⟩:=Yaw e;refine tCof.at h1 s λv H1 G1 g1 r1 s1=>?_;unfold inG at h2
 split at h2
 ·rename_i k
  cases h2;rw[Ct]at r1;exact⟨k,r1.1,r1.2,rfl,_,rfl,h H1 G1 g1⟩
 ·cases h2⟩
theorem Ymy{lo hi:Option Expr}(ha:ZC X a fa)(hl:ZO X lo fl)(hh:ZO X hi fh):ZE X (.Subscript a (.Slice lo hi none p2) pos) (slD fa fl fh):=⟨have ha:=ha.un;have hl:=hl.un;have hh:=hh.un;
 PE.imp (Yp7 (SlR.or y0w (SlR.or Yabm y5a)) ha hl hh) λσ H Q hx_=>by
  obtain⟨ρ,d,H0,G0,G,e,s,h⟩:=hx_;unfold slD at e;obtain⟨d0,h1,e⟩:=qa e;obtain⟨i,h2,e⟩:=qa e;obtain⟨j,h3,e⟩:=qa e;refine tCof.at h1 s λv H1 G1 g1 r1 s1=>y4t h2 s1 λH2 G2 g2 s2=>y4t h3 s2 λH3 G3 g3 s3=>?_;have r3:=(r1.grow g2).grow g3;have gg:=(g1.trans g2).trans g3;unfold cutC at e
  split at e
  ·rename_i l
   cases e;rw[Ct]at r3;obtain⟨p,xs,rfl,g,rl⟩:=r3;refine .inl ⟨p,xs,rfl,.inl g,λq hq=>?_⟩;refine h _ _ _ (gg.trans (Gr.new (p:=q) s3.seen hq (.lst (cutV xs i j)))) ?_;rw[Rp];refine⟨q,_,rfl,.inl Yy,?_⟩;unfold cutD cutV;rw[rl.length];exact((rl.drop _).take _).mono (Gr.new (p:=q) s3.seen hq _).g
  ·cases e
   rw[Ct]at r3;obtain⟨p,xs,rfl,⟨g,gG⟩,rl⟩:=r3;by_cases hw:HT.sIx xs.length 0 i=0/\HT.sIx xs.length xs.length j=xs.length
   ·refine .inr (.inr ⟨p,xs,rfl,.of g,hw.1,hw.2,h _ H3 G3 gg ?_⟩)
    rw[Rp];refine⟨p,xs,rfl,gG,?_⟩;unfold cutD;rw[<-rl.length,hw.1,hw.2,List.drop_zero,Nat.sub_zero,rl.length,List.take_length];exact rl
   ·refine .inr (.inl ⟨p,xs,rfl,.of g,hw,λq hq=>?_⟩)
    refine h _ _ _ (gg.trans (Gr.new (p:=q) s3.seen hq (.tup (cutV xs i j)))) ?_;rw[Rp];refine⟨q,_,rfl,Yy,?_⟩;unfold cutD cutV;rw[rl.length];exact((rl.drop _).take _).mono (Gr.new (p:=q) s3.seen hq _).g
  ·cases e⟩
end
theorem Yjo(h:ZT X c f):ZIfs X X.K [c] f:=⟨have h:=h.un;λpins s σ H Q I hq=>wpAny_tests_one (h pins s σ H Q I hq)⟩
theorem Ycd(h:ZW X e f):ZT X e f:=⟨PW.pt h.un⟩
end
section
section
variable {X:Cx}{e:Expr}{f:AV}{p p2 pos pos2:Pos}{ga:AW}
theorem Yvj(hc:X.calm=true)(hg:Gl X "sorted")(hm:X.mg "sorted"=none)(hg2:Gl X "set")(hm2:X.mg "set"=none)(ha:ZC X e f)(hs:starEach [e] X.env=[(false,eval e X.env)]:=by rfl)(he:starEach [.Call (.Name "set" p2) [e] [] pos2] X.env=[(false,eval (.Call (.Name "set" p2) [e] [] pos2) X.env)]:=by rfl)(hpl:(backTo pos2 (starEach [] X.env)).any (·.1)=false:=by rfl)(hpl2:(backTo pos (starEach [] X.env)).any (·.1)=false:=by rfl):ZF X (.Call (.Name "sorted" p) [.Call (.Name "set" p2) [e] [] pos2] [] pos) (Yjk f):=⟨have ha:=ha.un;
 PE.imp (Yi9 (Yze hc) hg hm boot_sorted (Yb7 (Yja (y13 hc) hg2 hm2 boot_set (Yqh ha Yu2 hs) (by decide) (by decide) hs hpl) Yer he) (by decide) (by decide) he hpl2) λσ H Q hx_=>by
  obtain⟨ρ,l,H0,G0,G,e,s,h⟩:=hx_;unfold Yjk at e;obtain⟨l0,h1,e⟩:=qa e;obtain⟨d,h2,h3⟩:=Yaw h1;refine tCAof.at (show Yg f aNil ρ=some [d] by simp[Yg,aNil,h2]) s λvs H1 G1 g1 r1 s1=>?_;obtain⟨v,rfl,rv⟩:=Yci r1;obtain⟨q,xs,rfl,hq,rl⟩:=y1e (K:=X.K) h3 rv;unfold y14 at e
  split at e
  ·rename_i ns hns
   split at e
   ·rename_i hl
    cases e;cases Yhp hns;cases Yl1 rl;refine⟨q,ns,rfl,hq,hl.1,λm ms hm' hp=>?_⟩;have g2:=Gr.hid s1.seen hm' (setO X.prog X.w m ms);have s2:=s1.grow g2;refine⟨m,ms,rfl,Yy,by rw[hp.length_eq];exact hl.2,λr hr=>?_⟩;rw[Yqn hp];refine h r _ _ G1 ((g1.trans g2).trans (.hid s2.seen hr _)) ((g1.trans g2).h.free hr) (s2.seen.free hr) Yy (.ints _)
   ·cases e
  ·cases e⟩
theorem Ypk(hc:X.calm=true)(hu:X.A.units+64<cLine)(hm:X.mg "len"=none)(hm2:X.mg "set"=none)(hg:Gl X "len")(hg2:Gl X "set")(ha:ZCA X [e] ga)(hs:starEach [e] X.env=[(false,eval e X.env)]:=by rfl)(he:starEach [.Call (.Name "set" p2) [e] [] pos2] X.env=[(false,eval (.Call (.Name "set" p2) [e] [] pos2) X.env)]:=by rfl)(hpl:(backTo pos2 (starEach [] X.env)).any (·.1)=false:=by rfl)(hpl2:(backTo pos (starEach [] X.env)).any (·.1)=false:=by rfl):ZE X (.Call (.Name "len" p) [.Call (.Name "set" p2) [e] [] pos2] [] pos) (cC ga Ykv):=⟨have ha:=ha.un;
 PE.imp (Yi9 y2e hg hm (by decide +kernel) (Yb7 (Yja (y2d hc hu) hg2 hm2 boot_set ha (by decide) (by decide) hs hpl) Yer he) (by decide) (by decide) he hpl2) λσ H Q hx_=>by
  obtain⟨ρ,d,H0,G0,G,e,s,h⟩:=hx_;unfold cC at e;obtain⟨ds,h1,e⟩:=qa e;refine tCAof.at h1 s λvs H1 G1 g1 r1 s1=>?_;unfold Ykv at e
  split at e
  case h_2=>cases e
  rename_i l;obtain⟨v,rfl,rv⟩:=Yci r1;rw[Ct]at rv;obtain⟨a,xs,rfl,hq,rl⟩:=rv;unfold Yf1 at e
  split at e
  ·rename_i ns hns
   split at e
   case isFalse=>cases e
   rename_i hl;cases e;cases Yhp hns;cases Yl1 rl;refine⟨a,_,(ddup [] ns).length,rfl,.inl hq,.inl ⟨ns,rfl,hl,rfl⟩,λm hm'=>?_⟩;have g2:=Gr.hid s1.seen hm' (setC X.w m (ddup [] ns).length);refine⟨m,_,rfl,Yy,by have:=Yxf ns [];simp at this;lia,?_⟩;exact h _ _ G1 (g1.trans g2) (by rw[Rp])
  ·obtain⟨ps,h2,e⟩:=qa e
   have hv:=y2g s1.seen h2 rl
   obtain⟨n,hn,hc,rfl⟩:∃n:Nat,n<4000/\((Yqo ps=true/\n=ps.length)\/(y5f ps=true/\n=1))/\d=.int n:=by
    split at e
    ·rename_i hd
     refine⟨_,?_,.inl ⟨hd,rfl⟩,by cases e;rfl⟩;rcases ps with _|⟨p1,_|⟨p2,_|⟨p3,r⟩⟩⟩
     ·simp
     ·simp
     ·simp
     ·simp[Yqo]at hd
    ·split at e
     ·rename_i hd
      exact⟨1,by decide,.inr ⟨hd,rfl⟩,by cases e;rfl⟩
     ·cases e
   refine⟨a,xs,n,rfl,.inl hq,.inr ⟨ps,hv,hc⟩,λm hm'=>?_⟩;have g2:=Gr.hid s1.seen hm' (setC X.w m n)
   exact⟨m,_,rfl,Yy,hn,h _ _ G1 (g1.trans g2) (by rw[Rp])⟩⟩
theorem y5h(he:ZE X e f)(hse:swapsWith e none pos.line X.env=pure false:=by rfl):ZS X (.Expr e pos) (sExp f):=⟨have he:=he.un;PS.imp (Ykm he hse) λF σ H hx_=>by
 obtain⟨ρ,out,H0,G0,G,e,s,h⟩:=hx_;obtain⟨d,h1,rfl⟩:=qc e
 exact tOf.at h1 s λv H1 G1 g1 r1 s1=>h σ H1 G1 s1⟩
end
end
section
variable {K:W.Frag}
def wo(H:Hp)(p:Addr):Hp:=λa=>if a=p then none else H a
def Yafk(K:W.Frag)(j:Nat)(x:Option (Option V))(H0 G0:Hp)(F:Ends):Out->Prop
 | .nx ρ'=>∀σ' H' G',SR K H0 G0 σ' H' G' ρ'->σ'[j]?=x->F.nx σ' H'
 | .rt _=>False
 | .bk ρ'=>∀σ' H' G',SR K H0 G0 σ' H' G' ρ'->σ'[j]?=x->F.bk σ' H'
 | .ct ρ'=>∀σ' H' G',SR K H0 G0 σ' H' G' ρ'->σ'[j]?=x->F.ct σ' H'
def sOfK(K:W.Frag)(j:Nat)(f:AS):TS:=λF σ H=>∃ρ out H0 G0 G,f ρ=some out/\SR K H0 G0 σ H G ρ/\Yafk K j σ[j]? H0 G0 F out
structure KS(j:Nat)(X:Cx)(st:Stmt)(f:AS):Prop where
 un:PS X st (sOfK X.K j f)
structure KB(j:Nat)(X:Cx)(sts:List Stmt)(f:AS):Prop where
 un:PSs X sts (sOfK X.K j f)
def sOfR(K:W.Frag)(j r:Nat)(fb:AS):TS:=λF σ H=>∃ρ ρ' l d H0 G0 G,fb ρ=some (.nx ρ')/\getO j ρ'=some l/\getV r (frz [r] ρ')=some d/\SR K H0 G0 σ H G ρ/\
 ∀v σ' H' G',SR K H0 G0 σ' H' G' (frz [r] ρ')->σ'[j]?=σ[j]?->Rp K G' d v->F.rt v H'
structure KR(j r:Nat)(X:Cx)(sts:List Stmt)(f:AS):Prop where
 un:PSs X sts (sOfR X.K j r f)
def sOfL(K:W.Frag)(gl:AW)(fb:AS):TS:=λF σ H=>∃ρ ρ' l H0 G0 G,fb ρ=some (.nx ρ')/\gl ρ'=some l/\SR K H0 G0 σ H G ρ/\
 ∀p xs H' G',Gr H0 G0 H' G'->H0 p=none->G' p=none->H' p=some (.lst xs)->RpL K G' l xs->F.rt (.ref p) H'
structure KL(gl:AW)(X:Cx)(sts:List Stmt)(f:AS):Prop where
 un:PSs X sts (sOfL X.K gl f)
theorem len1{us:AC}(h:us.length=1):∃a0,us=[a0]:=List.length_eq_one_iff.mp h
theorem len2{us:AC}(h:us.length=2):∃a0 a1,us=[a0,a1]:=by
 cases us with
 | nil=>cases h
 | cons a us=>
   obtain⟨b0,rfl⟩:=len1 (Nat.succ.inj h);grind
theorem len3{us:AC}(h:us.length=3):∃a0 a1 a2,us=[a0,a1,a2]:=by
 cases us with
 | nil=>cases h
 | cons a us=>
   obtain⟨b0,b1,rfl⟩:=len2 (Nat.succ.inj h);grind
theorem len4{us:AC}(h:us.length=4):∃a0 a1 a2 a3,us=[a0,a1,a2,a3]:=by
 cases us with
 | nil=>cases h
 | cons a us=>
   obtain⟨b0,b1,b2,rfl⟩:=len3 (Nat.succ.inj h);grind
theorem len5{us:AC}(h:us.length=5):∃a0 a1 a2 a3 a4,us=[a0,a1,a2,a3,a4]:=by
 cases us with
 | nil=>cases h
 | cons a us=>
   obtain⟨b0,b1,b2,b3,rfl⟩:=len4 (Nat.succ.inj h);grind
theorem len6{us:AC}(h:us.length=6):∃a0 a1 a2 a3 a4 a5,us=[a0,a1,a2,a3,a4,a5]:=by
 cases us with
 | nil=>cases h
 | cons a us=>
   obtain⟨b0,b1,b2,b3,b4,rfl⟩:=len5 (Nat.succ.inj h);grind
theorem len7{us:AC}(h:us.length=7):∃a0 a1 a2 a3 a4 a5 a6,us=[a0,a1,a2,a3,a4,a5,a6]:=by
 cases us with
 | nil=>cases h
 | cons a us=>
   obtain⟨b0,b1,b2,b3,b4,b5,rfl⟩:=len6 (Nat.succ.inj h);grind
end
end M
namespace M
open PySem L2
theorem nr{α:Sort _}{a b:α}(h:a=b):a=b:=h
section
variable {ρ:Ro}
@[simp] theorem Yafl(fa fb:AV)(g:D->D->Option α):b2 fa fb g ρ=(fa ρ).bind λx=>(fb ρ).bind λy=>g x y:=nr rfl
@[simp] theorem y9e(fa:AV)(g:D->Option α):b1 fa g ρ=(fa ρ).bind g:=nr rfl
@[simp] theorem Yafm(d:D):kD d ρ=some d:=nr rfl
@[simp] theorem ap_mB(f:AU):mB f ρ=(f ρ).map D.bl:=nr rfl
@[simp] theorem ap_andT(f g:AU):andT f g ρ=(f ρ).bind λk=>if k=true then g ρ else some false:=nr rfl
@[simp] theorem ap_orT(f g:AU):orT f g ρ=(f ρ).bind λk=>if k=true then some true else g ρ:=nr rfl
@[simp] theorem y9f(f:AU):notT f ρ=(f ρ).map (!·):=nr rfl
@[simp] theorem ap_andV(f g:AV):andV f g ρ=((f ρ).bind blD).bind λk=>if k=true then g ρ else some (.bl false):=nr rfl
@[simp] theorem ap_notV(f:AV):notV f ρ=((f ρ).bind blD).map λk=>.bl (!k):=nr rfl
@[simp] theorem ap_ifV(c:AU)(f g:AV):ifV c f g ρ=(c ρ).bind λk=>if k=true then f ρ else g ρ:=nr rfl
@[simp] theorem ap_lF(f:AW):lF f ρ=(f ρ).map D.lst:=nr rfl
@[simp] theorem y2o:aNil ρ=some []:=nr rfl
@[simp] theorem Yxj(f:AV)(g:AW):Yg f g ρ=(f ρ).bind λd=>(g ρ).map (d::·):=nr rfl
@[simp] theorem ap_dTup(f:AW):dTup f ρ=(f ρ).bind λl=>if l.length<=cap6 then some (.tup l)else none:=nr rfl
@[simp] theorem ap_dLst(f:AW):dLst f ρ=(f ρ).bind λl=>if l.length<=cap6 then some l else none:=nr rfl
@[simp] theorem Yac7(f:AW)(g:AQ->Option D):cC f g ρ=(f ρ).bind g:=nr rfl
@[simp] theorem ap_cF(f:AW)(g:AQ->Option AQ):cF f g ρ=(f ρ).bind g:=nr rfl
@[simp] theorem ap_slF(f:AV)(lo hi:Option AV):slF f lo hi ρ=((f ρ).bind lstD).bind λl=>(optI lo ρ).bind λi=>(optI hi ρ).bind λj=>some (cutD l i j):=nr rfl
@[simp] theorem ap_optN:optI none ρ=some none:=nr rfl
@[simp] theorem ap_optS(f:AV):optI (some f) ρ=((f ρ).bind intD).map some:=nr rfl
@[simp] theorem ap_sNil:sNil ρ=some (.nx ρ):=nr rfl
@[simp] theorem ap_sSet(i:Nat)(f:AV):sSet i f ρ=(f ρ).map λd=>.nx (ρ.set i (some (.sh d))):=nr rfl
@[simp] theorem ap_sOwn(i:Nat)(f:AW):sOwn i f ρ=(f ρ).map λl=>.nx (ρ.set i (some (.ow l))):=nr rfl
@[simp] theorem ap_sRet(f:AV):sRet f ρ=(f ρ).map .rt:=nr rfl
@[simp] theorem ap_sIf(c:AU)(f g:AS):sIf c f g ρ=(c ρ).bind λk=>if k=true then f ρ else g ρ:=nr rfl
@[simp] theorem ap_sMut(i:Nat)(f:AV)(g:AQ->D->Option AQ):sMut i f g ρ=(getO i ρ).bind λl=>(f ρ).bind λd=>(g l d).map λl'=>.nx (ρ.set i (some (.ow l'))):=nr rfl
@[simp] theorem ap_sFor(gl:AW)(gt:AT)(fb:AS):sFor gl gt fb ρ=(gl ρ).bind λds=>forM gt fb ds ρ:=nr rfl
@[simp] theorem ap_fComp(gl:AW)(src:List AM)(gt:AT)(fc:AU)(fe:AV):Ybd gl src gt fc fe ρ=(gl ρ).bind λds=>Yed gt fc fe (capR src ρ) ds:=nr rfl
@[simp] theorem ap_wF(is:AF)(f:AS):wF is f ρ=f (frz is ρ):=nr rfl
@[simp] theorem ap_tY:tY ρ=some true:=nr rfl
@[simp] theorem ap_gSet(i:Nat)(d:D):gSet i d ρ=some (ρ.set i (some (.sh d))):=nr rfl
def y9g(g:AS):Out->Option Out
 | .nx ρ'=>g ρ'
 | o=>some o
@[simp] theorem thenS_nx(g:AS)(ρ':Ro):y9g g (.nx ρ')=g ρ':=nr rfl
@[simp] theorem thenS_rt(g:AS)(d:D):y9g g (.rt d)=some (.rt d):=nr rfl
@[simp] theorem Yeh(f g:AS):sSeq f g ρ=(f ρ).bind (y9g g):=nr rfl
def endB:Out->Option D
 | .rt d=>some d
 | .nx _=>some .non
 | _=>none
@[simp] theorem endB_rt(d:D):endB (.rt d)=some d:=nr rfl
@[simp] theorem endB_nx(ρ:Ro):endB (.nx ρ)=some .non:=nr rfl
theorem y9(h:ds.length=k):runB k n fb ds=(fb (Yq n ds)).bind endB:=by
 unfold runB;rw[if_pos h];rfl
@[simp] theorem ap_ch3(fa fb fc:AV)(g g':D->D->Option Bool):ch3 fa fb fc g g' ρ=(fa ρ).bind λx=>(fb ρ).bind λy=>(g x y).bind λk=>if k=true then (fc ρ).bind λz=>g' y z else some false:=nr rfl
@[simp] theorem frz_nil:frz [] ρ=ρ:=nr rfl
@[simp] theorem frz_cons(i:Nat)(is:AF):frz (i::is) ρ=frz is (frz1 i ρ):=nr rfl
end
@[simp] theorem add_int'(i j:Int):addI (.int i) (.int j)=some (.int (i+j)):=nr rfl
@[simp] theorem sub_int'(i j:Int):subI (.int i) (.int j)=some (.int (i-j)):=nr rfl
theorem y5i(h:-(2^64)<i/\i<2^64):mulI (.int i) (.int j)=some (.int (i*j)):=by
 simp only[mulI,i2];rw[if_pos];simp only[Bool.or_eq_true,Qe,wm];exact .inl h
@[simp] theorem y5j(h:0<j)(h':j<1073741824):divI (.int i) (.int j)=some (.int (i/j)):=by
 simp only[divI,i2];rw[if_pos];simp only[Qe,wm];exact⟨h,h'⟩
@[simp] theorem Ymz(h:0<j):modI (.int i) (.int j)=some (.int (i%j)):=by
 simp only[modI,i2];rw[if_pos];simp only[wm];exact h
@[simp] theorem lt_int'(i j:Int):ltI (.int i) (.int j)=some (decide (i<j)):=nr rfl
@[simp] theorem le_int'(i j:Int):leI (.int i) (.int j)=some (decide (i<=j)):=nr rfl
@[simp] theorem gt_int'(i j:Int):gtI (.int i) (.int j)=some (decide (j<i)):=nr rfl
@[simp] theorem ge_int'(i j:Int):geI (.int i) (.int j)=some (decide (j<=i)):=nr rfl
@[simp] theorem blD_bl(b:Bool):blD (.bl b)=some b:=nr rfl
@[simp] theorem truD_bl(b:Bool):truD (.bl b)=some b:=nr rfl
@[simp] theorem truD_lst(l:AQ):truD (.lst l)=some (!l.isEmpty):=nr rfl
@[simp] theorem truD_tup(l:AQ):truD (.tup l)=some (!l.isEmpty):=nr rfl
@[simp] theorem itemsOf_tup(l:AQ):Yr (.tup l)=some l:=nr rfl
@[simp] theorem itemsOf_lst(l:AQ):Yr (.lst l)=some l:=nr rfl
@[simp] theorem itemsOf_scr(ns:AG):Yr (.scr ns)=some (ns.map D.int):=nr rfl
@[simp] theorem lenC_one(c:D):lenC [c]=(Yr c).map λl=>.int l.length:=nr rfl
@[simp] theorem tupC_one(c:D):tupC [c]=(Yr c).map D.tup:=nr rfl
@[simp] theorem listF_one(c:D):Yy1 [c]=Yr c:=nr rfl
@[simp] theorem intC_int(i:Int):intC [.int i]=some (.int i):=nr rfl
@[simp] theorem intC_bl(b:Bool):intC [.bl b]=some (.int (if b then 1 else 0)):=nr rfl
@[simp] theorem ixD_int(c:D)(i:Int):ixD c (.int i)=(Yr c).bind λl=>atI l i:=nr rfl
@[simp] theorem lstD_lst(l:AQ):lstD (.lst l)=some l:=nr rfl
@[simp] theorem lstD_scr(ns:AG):lstD (.scr ns)=some (ns.map D.int):=nr rfl
@[simp] theorem intD_int(i:Int):intD (.int i)=some i:=nr rfl
@[simp] theorem negI_int(i:Int):negI (.int i)=some (.int (-i)):=nr rfl
@[simp] theorem y2p(i j:Int):eqD (.int i) (.int j)=(i==j):=by simp[eqD,toPy,PyData.eqv]
@[simp] theorem y7j(i j:Bool):eqD (.bl i) (.bl j)=(i==j):=by simp[eqD,toPy,PyData.eqv]
@[simp] theorem y2q(i j:Str):eqD (.str i) (.str j)=(i==j):=by simp[eqD,toPy,PyData.eqv]
@[simp] theorem Yf2(l m:AQ):eqD (.tup l) (.tup m)=eqL l m:=by simp[eqD,eqL,toPy,PyData.eqv]
@[simp] theorem y9h(l m:AQ):eqD (.lst l) (.lst m)=eqL l m:=by simp[eqD,eqL,toPy,PyData.eqv]
@[simp] theorem y9i:eqL [] []=true:=by simp[eqL,Yeb,PyData.eqvAll]
@[simp] theorem Yd0(a b:D)(l m:AQ):eqL (a::l) (b::m)=(eqD a b&&eqL l m):=by simp[eqL,eqD,Yeb,PyData.eqvAll]
@[simp] theorem eqL_cn(b:D)(m:AQ):eqL (b::m) []=false:=by simp[eqL,Yeb,PyData.eqvAll]
@[simp] theorem dep_int(i:Int):dep (.int i)=0:=by simp[dep]
@[simp] theorem y7k(i:Bool):dep (.bl i)=0:=by simp[dep]
@[simp] theorem dep_str(i:Str):dep (.str i)=0:=by simp[dep]
@[simp] theorem dep_non:dep .non=0:=by simp[dep]
@[simp] theorem Ykz(l:AQ):dep (.tup l)=depL l+1:=by simp[dep]
@[simp] theorem y9j(l:AQ):dep (.lst l)=depL l+1:=by simp[dep]
@[simp] theorem Yxk:depL []=0:=by simp[depL]
@[simp] theorem Yei(d:D)(l:AQ):depL (d::l)=max (dep d) (depL l):=by simp[depL]
theorem Yjp(h:dep d<=60)(h':dep e<=60):eqM neg d e=some (if neg then !eqD d e else eqD d e):=by
 unfold eqM;grind
theorem Yxl(hc:Yr c=some l)(h:dep d<=60)(h':depL l<=60):inM neg d c=some (if neg then !inD d l else inD d l):=by
 unfold inM;grind
@[simp] theorem compM_nil(gt:AT)(fc:AU)(fe:AV)(ρ:Ro):Yed gt fc fe ρ []=some []:=nr rfl
theorem Yjq{α:Type}(enc:α->D)(p:α->Bool)(f:α->D):∀(l:List α),(∀a∈l,∃ρ1,gt (enc a) ρ=some ρ1/\fc ρ1=some (p a)/\(p a=true->fe ρ1=some (f a)))->
 Yed gt fc fe ρ (l.map enc)=some ((l.filter p).map f)
 | [],_=>rfl
 | a::l,h=>by
   obtain⟨ρ1,h1,h2,h3⟩:=h a qh;have ih:=Yjq enc p f l λb hb=>h b (qg _ hb);rw[Qa,Yed,h1,qd,h2,qd];grind
@[simp] theorem Yqs(a:α)(l:List α):atI (a::l) 0=some a:=by
 have:=Yp8 (xs:=a::l) (j:=0) (v:=a) rfl;simpa using this
@[simp] theorem y9k(a b:α)(l:List α):atI (a::b::l) 1=some b:=by
 have:=Yp8 (xs:=a::b::l) (j:=1) (v:=b) rfl;simpa using this
theorem Yjr{α:Type}(enc:α->D)(I:List α->Ro->Prop):∀(l pre:List α) (ρ:Ro),I pre ρ->
 (∀q a r ρ,pre++l=q++a::r->I q ρ->∃ρ1 ρ2,gt (enc a) ρ=some ρ1/\fb ρ1=some (.nx ρ2)/\I (q++[a]) ρ2)->∃ρ',M.forM gt fb (l.map enc) ρ=some (.nx ρ')/\I (pre++l) ρ'
 | [],pre,ρ,h0,_=>⟨ρ,rfl,by grind⟩
 | a::l,pre,ρ,h0,hs=>by
   obtain⟨ρ1,ρ2,e1,e2,h2⟩:=hs pre a l ρ rfl h0;obtain⟨ρ',e3,h3⟩:=Yjr enc I l (pre++[a]) ρ2 h2 λq b r ρ e hI=>hs q b r ρ (by grind) hI;refine⟨ρ',?_,by grind⟩;rw[Qa,M.forM,e1,qd,e2,qd];exact e3
theorem Yvk(a n:Int):rngD a n=(List.range (n-a).toNat).map λi=>D.int (a+(i:Nat)):=rfl
theorem Yvl(h:-1000000<=n)(h':n<=1000000):rng1 [.int n]=some (rngD 0 n):=by
 have hcap:(cap6:Int)=1000000:=by decide
 simp only[rng1];rw[if_pos];simp only[Qe,wm];lia
theorem Yjs{i:Nat}(h:i<l.length):atI l (i:Int)=some l[i]:=Yp8 (qq h)
theorem Yiz(f:α->β)(l:List α)(i:Int):atI (l.map f) i=(atI l i).map f:=by
 unfold atI;rw[qf]
 cases ixN l.length i with
 | none=>rfl
 | some j=>
   grind
@[simp] theorem nat_eq_iff(x b:Nat):((x:Int)=(b:Int))↔x=b:=by lia
@[simp] theorem y9l(neg:Bool)(i j:Int):eqM neg (.int i) (.int j)=some (if neg then !decide (i=j)else decide (i=j)):=by
 rw[Yjp (by simp) (by simp),y2p];rfl
@[simp] theorem eqM_bl(neg:Bool)(i j:Bool):eqM neg (.bl i) (.bl j)=some (if neg then !(i==j)else i==j):=by
 rw[Yjp (by simp) (by simp),y7j]
@[simp] theorem isN_non(neg:Bool):isN neg .non .non=some (if neg then false else true):=by cases neg<;>rfl
@[simp] theorem isN_int(neg:Bool)(i:Int):isN neg (.int i) .non=some (if neg then true else false):=by cases neg<;>rfl
@[simp] theorem isN_bl(neg:Bool)(l:Bool):isN neg (.bl l) .non=some (if neg then true else false):=by cases neg<;>rfl
@[simp] theorem Yl3{α:Type}(f:α->Bool):∀l:List α,blsD (l.map λa=>.bl (f a))=some (l.map f)
 | []=>rfl
 | a::l=>by rw[Qa,blsD,Yl3 f l];rfl
@[simp] theorem Ym0{α:Type}(f:α->Int):∀l:List α,Yee (l.map λa=>.int (f a))=some (l.map f)
 | []=>rfl
 | a::l=>by rw[Qa,Yee,Ym0 f l];rfl
@[simp] theorem Ys8(l:AG):Yee (l.map D.int)=some l:=by simpa using Ym0 id l
@[simp] theorem anyC_lst(l:AQ):anyC [.lst l]=(blsD l).map λbs=>.bl (bs.any id):=nr rfl
@[simp] theorem allC_lst(l:AQ):allC [.lst l]=(blsD l).map λbs=>.bl (bs.all id):=nr rfl
@[simp] theorem ap_sMut2(i:Nat)(fi f:AV)(g:AQ->D->D->Option AQ):y1t i fi f g ρ=(f ρ).bind λd=>(getO i ρ).bind λl=>(fi ρ).bind λk=>(g l k d).map λl'=>.nx (ρ.set i (some (.ow l'))):=nr rfl
@[simp] theorem enumD_of(c:D):Yy9 c=(Yr c).map Yog:=nr rfl
@[simp] theorem cap6_eq:cap6=1000000:=nr rfl
@[simp] theorem gV0(d:D)(r:Ro):getV 0 (some (.sh d)::r)=some d:=nr rfl
@[simp] theorem gC0(d:D)(r:Ro):getC 0 (some (.sh d)::r)=some d:=nr rfl
@[simp] theorem gC0o(l:AQ)(r:Ro):getC 0 (some (.ow l)::r)=some (.lst l):=nr rfl
@[simp] theorem gO0(l:AQ)(r:Ro):getO 0 (some (.ow l)::r)=some l:=nr rfl
@[simp] theorem gVs(n:Nat)(b:AR)(r:Ro):getV (n+1) (b::r)=getV n r:=by simp[getV]
@[simp] theorem gCs(n:Nat)(b:AR)(r:Ro):getC (n+1) (b::r)=getC n r:=by simp[getC]
@[simp] theorem gOs(n:Nat)(b:AR)(r:Ro):getO (n+1) (b::r)=getO n r:=by simp[getO]
@[simp] theorem frz0o(l:AQ)(r:Ro):frz1 0 (some (.ow l)::r)=some (.sh (.lst l))::r:=nr rfl
@[simp] theorem frz_s(n:Nat)(b:AR)(r:Ro):frz1 (n+1) (b::r)=b::frz1 n r:=by
 unfold frz1;rw[List.getElem?_cons_succ]
 cases h:r[n]? with
 | none=>rfl
 | some o=>
   cases o with
   | none=>rfl
   | some b=>cases b<;>rfl
theorem Ycu{r:Ro}{α:Type}{enc:α->D}(f:α->D){l:List α}(h:∀a∈l,fe (some (.sh (enc a))::r)=some (f a)):Yed (gSet 0) tY fe (none::r) (l.map enc)=some (l.map f):=by
 have:=Yjq (gt:=gSet 0) (fc:=tY) (fe:=fe) (ρ:=none::r) enc (λ_=>true) f l λa ha=>⟨_,rfl,rfl,λ_=>h a ha⟩
 rw[List.filter_eq_self.mpr (λ_ _=>rfl)]at this;exact this
theorem Yxm{r:Ro}{α:Type}{enc:α->D}(p:α->Bool)(f:α->D){l:List α}(h1:∀a∈l,fc (some (.sh (enc a))::r)=some (p a))(h2:∀a∈l,p a=true->fe (some (.sh (enc a))::r)=some (f a)) :
 Yed (gSet 0) fc fe (none::r) (l.map enc)=some ((l.filter p).map f):=
 Yjq (gt:=gSet 0) enc p f l λa ha=>⟨_,rfl,h1 a ha,h2 a ha⟩
theorem Yac8{fc:AU}{fe:AV}{r:Ro}{α:Type}{e1 e2:α->D}(p:α->Bool)(f:α->D){l:List α}(h1:∀a∈l,fc (some (.sh (e1 a))::some (.sh (e2 a))::r)=some (p a))(h2:∀a∈l,p a=true->fe (some (.sh (e1 a))::some (.sh (e2 a))::r)=some (f a)) :
 Yed (Yof 0 1) fc fe (none::none::r) (l.map λa=>.tup [e1 a,e2 a])=some ((l.filter p).map f):=
 Yjq (gt:=Yof 0 1) (λa=>.tup [e1 a,e2 a]) p f l λa ha=>⟨_,rfl,h1 a ha,h2 a ha⟩
theorem Ys9{α:Type}(enc:α->D)(d:α)(l:List α):Yog (l.map enc)=(List.range l.length).map λi=>.tup [.int i,enc (l.getD i d)]:=by
 unfold Yog;rw[qf];refine List.map_congr_left λi hi=>?_;have h:=List.mem_range.mp hi;simp[h]
end M
namespace Bk
open PySem L2 M
abbrev Say:=Nat×Bool
abbrev AY:=List Say
inductive Kd where
 | e|s|i|n
 deriving DecidableEq
inductive Rl where
 | ei (l:AY)
 | su (b:AF) (o:Bool)
 | im (b:AF) (h:AM)
 deriving DecidableEq
def kS:Kd->Str
 | .e=>Str.ofString "eithers"
 | .s=>Str.ofString "sums"
 | .i=>Str.ofString "ifs"
 | .n=>Str.ofString "nots"
def kdD(k:Kd):D:=.str (kS k)
abbrev nD(n:Nat):D:=.int n
def sayD(s:Say):D:=.tup [.int s.1,.bl s.2]
def optD:AM->D
 | none=>.non
 | some n=>.int n
def rlD:Rl->D
 | .ei l=>.tup (l.map sayD)
 | .su b o=>.tup [.tup (b.map nD),.bl o]
 | .im b h=>.tup [.tup (b.map nD),optD h]
def Yah(k:Kd)(R:List Rl):D:=.tup [kdD k,.tup (R.map rlD)]
@[simp] theorem dep_kd(k:Kd):dep (kdD k)=0:=by simp[kdD]
@[simp] theorem dep_say(s:Say):dep (sayD s)=1:=by simp[sayD]
@[simp] theorem y2r(h:AM):dep (optD h)=0:=by cases h<;>simp[optD]
theorem Yac9:∀{k j:Kd},kS k=kS j->k=j:=by
 intro k j
 cases k<;>cases j<;>first|grind|(intro h;exact absurd h (by decide +kernel))
@[simp] theorem Yada(k j:Kd):eqD (kdD k) (kdD j)=decide (k=j):=by
 rw[kdD,kdD,y2q];by_cases h:k=j
 ·simp[h]
 ·have h':¬kS k=kS j:=λe=>h (Yac9 e)
  simp[h,h']
theorem Yxn(neg:Bool)(k j:Kd):eqM neg (kdD k) (kdD j)=some (if neg then !decide (k=j)else decide (k=j)):=by
 rw[Yjp (by simp) (by simp),Yada]
@[simp] theorem eqM_e(neg:Bool)(k:Kd):eqM neg (kdD k) (.str (Str.ofString "eithers"))=some (if neg then !decide (k=.e)else decide (k=.e)):=Yxn neg k .e
@[simp] theorem eqM_s(neg:Bool)(k:Kd):eqM neg (kdD k) (.str (Str.ofString "sums"))=some (if neg then !decide (k=.s)else decide (k=.s)):=Yxn neg k .s
@[simp] theorem eqM_i(neg:Bool)(k:Kd):eqM neg (kdD k) (.str (Str.ofString "ifs"))=some (if neg then !decide (k=.i)else decide (k=.i)):=Yxn neg k .i
@[simp] theorem eqM_n(neg:Bool)(k:Kd):eqM neg (kdD k) (.str (Str.ofString "nots"))=some (if neg then !decide (k=.n)else decide (k=.n)):=Yxn neg k .n
@[simp] theorem Yadb(a b:Nat):eqD (nD a) (nD b)=decide (a=b):=by
 rw[nD,nD,y2p];grind
@[simp] theorem y9m(s t:Say):eqD (sayD s) (sayD t)=decide (s=t):=by
 obtain⟨a,p⟩:=s;obtain⟨b,q⟩:=t;have:=Yadb a b;simp only[nD]at this;simp only[sayD,Yf2,Yd0,this,y7j,y9i,Bool.and_true];by_cases h1:a=b<;>by_cases h2:p=q<;>simp[h1,h2]
theorem Yvm{α:Type} [DecidableEq α] {enc:α->D} (he:∀a b,eqD (enc a) (enc b)=decide (a=b)) (s:α):∀l:List α,inD (enc s) (l.map enc)=decide (s∈l)
 | []=>by simp[inD]
 | t::l=>by
   have ih:=Yvm he s l;unfold inD at ih ⊢;grind
theorem Ye5:∀{l:AQ},(∀d∈l,dep d<=n)->depL l<=n
 | [],_=>by simp
 | d::l,h=>by
   rw[Yei];exact Nat.max_le.mpr ⟨h d qh,Ye5 λe he=>h e (qg _ he)⟩
theorem Yadc(s:Say)(l:AY)(neg:Bool)(hc:Yr c=some (l.map sayD)):inM neg (sayD s) c=some (if neg then !decide (s∈l)else decide (s∈l)):=by
 rw[Yxl hc (by simp) (Ye5 λd hd=>by obtain⟨x,_,rfl⟩:=qx hd;simp),Yvm y9m];grind
theorem in_n(s:Nat)(l:AF)(neg:Bool)(hc:Yr c=some (l.map nD)):inM neg (nD s) c=some (if neg then !decide (s∈l)else decide (s∈l)):=by
 rw[Yxl hc (by simp) (Ye5 λd hd=>by obtain⟨x,_,rfl⟩:=qx hd;simp),Yvm Yadb]
@[simp] theorem ix_say0(s:Say):(Yr (sayD s)).bind (λl=>atI l 0)=some (.int s.1):=by simp[sayD]
@[simp] theorem ix_say1(s:Say):(Yr (sayD s)).bind (λl=>atI l 1)=some (.bl s.2):=by simp[sayD]
@[simp] theorem items_ei(l:AY):Yr (rlD (.ei l))=some (l.map sayD):=nr rfl
@[simp] theorem items_su(b:AF)(o:Bool):Yr (rlD (.su b o))=some [.tup (b.map nD),.bl o]:=nr rfl
@[simp] theorem items_im(b:AF)(h:AM):Yr (rlD (.im b h))=some [.tup (b.map nD),optD h]:=nr rfl
@[simp] theorem items_book(k:Kd)(R:List Rl):Yr (Yah k R)=some [kdD k,.tup (R.map rlD)]:=nr rfl
def at'(ev:AH)(n:Nat):Bool:=ev.getD n false
theorem y5k{ev:AH}(h:n<ev.length):atI (ev.map D.bl) (n:Int)=some (.bl (at' ev n)):=by
 rw[Yiz,Yjs h];simp[at',h]
def In(k:Kd)(n:Nat):Rl->Prop
 | .ei l=>k=.e/\∀s∈l,s.1<n
 | .su b _=>k=.s/\∀x∈b,x<n
 | .im b h=>(k=.i\/k=.n)/\(∀x∈b,x<n)/\∀x,h=some x->x<n
def slt(s t:Say):Prop:=s.1<t.1\/(s.1=t.1/\s.2=false/\t.2=true)
def Srt:Rl->Prop
 | .ei l=>l.length<=2/\l.Pairwise slt
 | .su b _=>b.Pairwise (·<·)
 | .im b _=>b.Pairwise (·<·)
def hd(ev:AH)(w:Bool):AM->Bool
 | none=>false
 | some x=>at' ev x==w
def nth(R:List Rl)(i:Nat):Rl:=R.getD i (.ei [])
theorem y9n{R:List Rl}{i:Nat}(h:i<R.length):nth R i∈R:=by simp[nth,h]
theorem y9o(R:List Rl):Yog (R.map rlD)=(List.range R.length).map λi:Nat=>.tup [.int (i:Int),rlD (nth R i)]:=Ys9 rlD (.ei []) R
def so(k:Kd)(ev:AH):Rl->Bool
 | .ei l=>l.any λs=>at' ev s.1==s.2
 | .su b o=>decide ((b.filter (at' ev)).length%2=1)==o
 | .im b h=>(b.any λx=>at' ev x != decide (k=.i))||hd ev (decide (k=.i)) h
end Bk
namespace Bk
def brk(k:Kd)(ev:AH)(R:List Rl):AF:=(List.range R.length).filter λi=>!so k ev (nth R i)
end Bk
namespace Bk
open PySem L2 M
def wo(b:Nat)(l:AF):AF:=l.filter λx=>!decide (x=b)
def woS(b:Nat)(l:AY):AY:=l.filter λs=>!decide (s.1=b)
theorem y2s(k:Kd)(R:List Rl):D.tup [kdD k,.tup (R.map rlD)]=Yah k R:=rfl
theorem y9p(l:AY):D.tup (l.map sayD)=rlD (.ei l):=rfl
theorem y2t(l:AF)(h:AM):D.tup [.tup (l.map nD),optD h]=rlD (.im l h):=rfl
theorem y5l(l:AF):D.tup [.tup (l.map nD),.non]=rlD (.im l none):=rfl
def Ydg(k:Kd)(b:Nat)(lit:Bool):Rl->Option Rl
 | .ei l=>if (b,lit)∈l then none else some (.ei (woS b l))
 | .su l o=>if b∈l then (if wo b l=[]/\o=lit then none else some (.su (wo b l) (o != lit)))else some (.su l o)
 | .im l h=>if (h=some b/\lit=decide (k=.i))\/(b∈l/\¬lit=decide (k=.i))then none else some (.im (wo b l) (if h=some b then none else h))
def optR:Option Rl->D
 | none=>.non
 | some r=>rlD r
@[simp] theorem isN_rl(neg:Bool)(r:Rl):isN neg (rlD r) .non=some (if neg then true else false):=by cases r<;>cases neg<;>rfl
@[simp] theorem eqM_opt(neg:Bool)(h:AM)(b:Nat):eqM neg (optD h) (.int (b:Int))=some (if neg then !decide (h=some b)else decide (h=some b)):=by
 cases h with
 | none=>
   rw[Yjp (by simp) (by simp)]
   have:eqD (optD none) (.int (b:Int))=false:=by simp[optD,eqD,toPy,PyData.eqv]
   rw[this];simp
 | some x=>
   show eqM neg (.int (x:Int)) (.int (b:Int))=_;rw[y9l];simp
theorem opts:∀Q:List (Option Rl),((Q.filter λo=>o.isSome).map optR)=(Q.filterMap id).map rlD
 | []=>rfl
 | none::Q=>by
   have:=opts Q;simpa using this
 | some r::Q=>by
   have:=opts Q;simp[this,optR]
def sz:Rl->Nat
 | .ei l=>l.length
 | .su b _=>b.length
 | .im b _=>b.length
theorem y7l(b:AF):dep (.tup (b.map nD))<=1:=by
 rw[Ykz]
 have:depL (b.map nD)<=0:=Ye5 λd hd=>by
  obtain⟨x,_,rfl⟩:=qx hd;simp
 lia
theorem Yadd(r:Rl):dep (rlD r)<=2:=by
 cases r with
 | ei l=>
   rw[rlD,Ykz]
   have:depL (l.map sayD)<=1:=Ye5 λd hd=>by
    obtain⟨x,_,rfl⟩:=qx hd;simp
   lia
 | su b o=>
   have:=y7l b;rw[rlD,Ykz,Yei,Yei,Yxk]
   first|rw[y7k]|rw[y2r]
   lia
 | im b o=>
   have:=y7l b;rw[rlD,Ykz,Yei,Yei,Yxk]
   first|rw[y7k]|rw[y2r]
   lia
theorem y5m(k:Kd)(R:List Rl):dep (Yah k R)<=4:=by
 rw[Yah,Ykz,Yei,Yei,Ykz]
 have:depL (R.map rlD)<=2:=Ye5 λd hd=>by
  obtain⟨x,_,rfl⟩:=qx hd;exact Yadd x
 simp;lia
theorem y2u{n:Nat}:∀{l:AF}{a:Nat},l.Pairwise (·<·)->(∀x∈l,a<=x/\x<n)->l.length<=n-a
 | [],_,_,_=>jc _
 | x::l,a,h,hl=>by
   have hx:=hl x qh;have hp:=List.pairwise_cons.mp h
   have ih:=y2u (n:=n) (l:=l) (a:=x+1) hp.2 λy hy=>⟨hp.1 y hy,(hl y (qg _ hy)).2⟩
   rw[qr];lia
theorem y2v{n:Nat}{l:AF}(h:l.Pairwise (·<·))(hl:∀x∈l,x<n):l.length<=n:=y2u (a:=0) h λx hx=>⟨jc _,hl x hx⟩
end Bk
namespace Bk
def bcs:Rl->AF
 | .ei l=>l.map (·.1)
 | .su b _=>b
 | .im b none=>b
 | .im b (some x)=>b++[x]
theorem Ym1{b:Nat}{l:AF}(h:b∉l):wo b l=l:=List.filter_eq_self.mpr λx hx=>by
 have:¬x=b:=λe=>h (e ▸ hx);simp[this]
theorem Yzi{k:Kd}{b:Nat}{lit:Bool}{r:Rl}(h:b∉bcs r):Ydg k b lit r=some r:=by
 cases r with
 | ei l=>
   have h1:(b,lit)∉l:=λe=>h (List.mem_map.mpr ⟨(b,lit),e,rfl⟩)
   have h2:woS b l=l:=List.filter_eq_self.mpr λs hs=>by
    have:¬s.1=b:=λe=>h (List.mem_map.mpr ⟨s,hs,e⟩);simp[this]
   simp[Ydg,h1,h2]
 | su l o=>simp[Ydg,show b∉l from h]
 | im l o=>
   cases o with
   | none=>
     have h1:b∉l:=h;simp[Ydg,h1,Ym1 h1]
   | some x=>
     have h1:b∉l:=λe=>h (by simp[bcs,e]);have h2:¬x=b:=λe=>h (by simp[bcs,e]);simp[Ydg,h1,h2,Ym1 h1]
end Bk
namespace Bk
open PySem L2 M
theorem mem_wo{b x:Nat}{l:AF}:x∈wo b l↔x∈l/\x≠b:=by simp[wo]
theorem mem_woS{b:Nat}{s:Say}{l:AY}:s∈woS b l↔s∈l/\s.1≠b:=by simp[woS]
theorem y7m{k:Kd}{n:Nat}{r:Rl}(h:In k n r):∀x∈bcs r,x<n:=by
 cases r with
 | ei l=>
   intro x hx;obtain⟨s,hs,rfl⟩:=qx hx;exact h.2 s hs
 | su b o=>exact h.2
 | im b o=>
   intro x hx
   cases o with
   | none=>exact h.2.1 x hx
   | some y=>
     rcases qv hx with hx|hx
     ·exact h.2.1 x hx
     ·rw[List.mem_singleton.mp hx];exact h.2.2 y rfl
theorem y7n{b:Nat}{ev:AH}:∀{l:AF},l.Pairwise (·<·)->b∈l->(l.filter (at' ev)).length=((wo b l).filter (at' ev)).length+if at' ev b=true then 1 else 0
 | [],_,h=>by cases h
 | a::l,hp,h=>by
   have hp':=List.pairwise_cons.mp hp;by_cases e:a=b
   ·subst e
    have hn:a∉l:=λhm=>Nat.lt_irrefl _ (hp'.1 a hm)
    have hw:wo a (a::l)=l:=by
     have:=Ym1 hn;simpa [wo]using this
    rw[hw];cases hat:at' ev a<;>simp[hat]
   ·have hm:b∈l:=by
     rcases qt h with z|z
     ·exact absurd z.symm e
     ·exact z
    have ih:=y7n (ev:=ev) hp'.2 hm
    have hw:wo b (a::l)=a::wo b l:=by simp[wo,e]
    rw[hw];cases hat:at' ev a<;>simp[hat,ih];lia
theorem y2w{k:Kd}{n:Nat}{ev:AH}{b:Nat}{r q:Rl}(hi:In k n r)(hs:Srt r)(h:Ydg k b (at' ev b) r=some q) :
 so k ev q=so k ev r/\(∀x∈bcs q,x∈bcs r/\x≠b)/\(r≠.su [] false->q≠.su [] false)/\In k n q/\Srt q/\sz q<=sz r:=by
 cases r with
 | ei l=>
   rw[Ydg]at h
   split at h
   ·cases h
   ·rename_i hm
    cases h;refine⟨?_,λx hx=>?_,λ_ z=>(by cases z),⟨hi.1,λs hs'=>hi.2 s (mem_woS.mp hs').1⟩,⟨Qb (List.length_filter_le _ _) hs.1,hs.2.filter _⟩,List.length_filter_le _ _⟩
    ·rw[so,so,Bool.eq_iff_iff,List.any_eq_true,List.any_eq_true]
     refine⟨λ⟨s,h1,h2⟩=>⟨s,(mem_woS.mp h1).1,h2⟩,λ⟨s,h1,h2⟩=>⟨s,mem_woS.mpr ⟨h1,λe=>hm ?_⟩,h2⟩⟩
     have:at' ev b=s.2:=by rw[<-e];simpa using h2
     rw[this,<-e];exact h1
    ·obtain⟨s,hs',rfl⟩:=qx hx
     exact⟨List.mem_map.mpr ⟨s,(mem_woS.mp hs').1,rfl⟩,(mem_woS.mp hs').2⟩
 | su l o=>
   rw[Ydg]at h
   split at h
   ·rename_i hm
    split at h
    ·cases h
    ·rename_i hc
     cases h;have hp:l.Pairwise (·<·):=hs;have hpar:=y7n (ev:=ev) hp hm;refine⟨?_,λx hx=>mem_wo.mp hx,λ_ z=>hc ?_,⟨hi.1,λx hx=>hi.2 x (mem_wo.mp hx).1⟩,hp.filter _,List.length_filter_le _ _⟩
     ·rw[so,so,hpar]
      generalize ((wo b l).filter (at' ev)).length=m
      cases at' ev b with
      | false=>cases o<;>simp
      | true=>
        have:((m+1)%2=1)↔¬(m%2=1):=by lia
        by_cases hmm:m%2=1
        ·have h2:¬(m+1)%2=1:=by lia
         cases o<;>simp[hmm,h2]
        ·have h2:(m+1)%2=1:=by lia
         have h3:m%2=0:=by lia
         cases o<;>simp[h3,h2]
     ·injection z with z1 z2
      exact⟨z1,by cases o<;>cases hat:at' ev b<;>simp[hat]at z2 ⊢⟩
   ·rename_i hm
    cases h;exact⟨rfl,λx hx=>⟨hx,λe=>hm (e ▸ hx)⟩,λz=>z,hi,hs,qu _⟩
 | im l o=>
   rw[Ydg]at h
   split at h
   ·cases h
   ·rename_i hc
    cases h;have hp:l.Pairwise (·<·):=hs;have hc1:o=some b->¬at' ev b=decide (k=.i):=λe z=>hc (.inl ⟨e,z⟩);have hc2:b∈l->at' ev b=decide (k=.i):=λe=>Classical.byContradiction λz=>hc (.inr ⟨e,z⟩);refine⟨?_,λx hx=>?_,λ_ z=>(by cases z),⟨hi.1,λx hx=>hi.2.1 x (mem_wo.mp hx).1,λx hx=>?_⟩,hp.filter _,List.length_filter_le _ _⟩
    ·rw[so,so]
     have e1:((wo b l).any λx=>at' ev x != decide (k=.i))=l.any λx=>at' ev x != decide (k=.i):=by
      rw[Bool.eq_iff_iff,List.any_eq_true,List.any_eq_true];refine⟨λ⟨x,h1,h2⟩=>⟨x,(mem_wo.mp h1).1,h2⟩,λ⟨x,h1,h2⟩=>⟨x,mem_wo.mpr ⟨h1,λe=>?_⟩,h2⟩⟩;rw[e]at h1 h2;rw[hc2 h1]at h2;simp at h2
     rw[e1];by_cases ho:o=some b
     ·have:=hc1 ho
      rw[if_pos ho,ho,hd,hd]
      have:(at' ev b==decide (k=.i))=false:=by simpa using this
      rw[this]
     ·rw[if_neg ho]
    ·have key:x∈wo b l\/(o≠some b/\o=some x):=by
      by_cases ho:o=some b
      ·rw[if_pos ho]at hx
       exact .inl hx
      ·rw[if_neg ho]at hx
       cases o with
       | none=>exact .inl hx
       | some y=>
         rcases qv hx with hx|hx
         ·exact .inl hx
         ·rw[List.mem_singleton.mp hx];exact .inr ⟨ho,rfl⟩
     rcases key with hx|⟨ho,hx⟩
     ·have:=mem_wo.mp hx
      refine⟨?_,this.2⟩
      cases o with
      | none=>exact this.1
      | some y=>exact List.mem_append_left _ this.1
     ·subst hx
      exact⟨Qh _ qh,λe=>ho (by rw[e])⟩
    ·split at hx
     ·cases hx
     ·exact hi.2.2 x hx
end Bk
namespace M
open PySem PySem.Spec PyProof.Rows L2
section
variable {K:W.Frag}
section
variable {X:Cx}{pos:Pos}
def sAsg(f:AV)(gt:AT):AS:=λρ=>(f ρ).bind λd=>(gt d ρ).map Out.nx
@[simp] theorem ap_sAsg{ρ:Ro}(f:AV)(gt:AT):sAsg f gt ρ=(f ρ).bind λd=>(gt d ρ).map Out.nx:=nr1 rfl
theorem y9q{tg e:Expr}{f:AV}{gt:AT}(hg:ZG X tg gt)(he:ZE X e f)(hs:swapsWithSole [tg] e pos.line X.env=pure false:=by rfl)(hw:swappedStores [tg] e X.env=pure none:=by rfl)
 (h1:(assignEach [tg] X.env).map (·.2)=[assign tg X.env]:=by rfl):ZS X (.Assign [tg] e pos) (sAsg f gt):=⟨have hg:=hg.un;have he:=he.un;PS.imp (y62 he hg hs hw h1) λF σ H hx_=>by
 obtain⟨ρ,out,H0,G0,G,e,s,h⟩:=hx_;obtain⟨d,h1,e⟩:=qa e;obtain⟨ρ',h2,rfl⟩:=qc e
 exact tOf.at h1 s λv H1 G1 g1 r1 s1=>⟨d,ρ,ρ',_,_,G1,h2,s1,r1,λσ' s'=>h _ H1 G1 s'⟩⟩
end
end
section
section
variable {prog:Program}{w:World}{A:Around}{E:AA}{X:Cx}{pos:Pos}
theorem Ypl{it t:Addr}{items:Array Value}(hne:t≠it):∀(n i:Nat) (s:Shared) (Q:AC->Shared->Prop),s.heap.IsListIter it t i->s.heap.IsList t items->i+n<=items.size->
 (∀h':Heap,h'.IsListIter it t (i+n)->Heap.SameBut it s.heap h'->Q ((items.toList.drop i).take n) { s with heap:=h' })->wpAny (model prog w) A (draw (.ref it) n) Q E s
 | 0,i,s,Q,hit,_,_,hQ=>by
   show wpAny _ _ (pure []) Q E s;exact wc (by simpa using hQ s.heap hit (Heap.SameBut.refl ..))
 | n+1,i,s,Q,hit,ht,hle,hQ=>by
   have hlt:i<items.size:=by lia
   show wpAny _ _ (pyNext (.ref it)>>=_) Q E s;refine wa (wpAny_pyNext_list_item hit ht (x:=items[i]) (by simp[hlt]) λh₁ hit₁ hs₁=>?_);refine wa (we (Ypl hne n (i+1) _ _ hit₁ (ht.extBut hs₁.extBut hne) (by lia) λh₂ hit₂ hs₂=>wc ?_))
   have hd:items.toList.drop i=items[i]::items.toList.drop (i+1):=by simp[List.drop_eq_getElem_cons,hlt]
   have:=hQ h₂ (by rw[show i+(n+1)=i+1+n by lia];exact hit₂) (hs₁.trans hs₂);rw[hd,List.take_succ_cons]at this;exact this
theorem Yk0{s:Shared}{t:Addr}{items:Array Value}{Q:AC->Shared->Prop}(hh:A.handled=none)(ht:s.heap.IsList t items)
 (hQ:∀h',Heap.ExtBut (~~~s) s.heap h'->Q items.toList { s with heap:=h' }):wpAny (model prog w) A (unpackItems (.ref t) items.size none) Q E s:=by
 have hlt:t≠(~~~s):=by obtain⟨o,ho,_⟩:=ht;exact qm (ql ho)
 unfold unpackItems;refine wa ?_
 ·unfold notIterableAtAll
  refine wa (wpAny_specialOf ht.typeIs slot_list_iter.lookup ?_);refine wc ?_;simp only[Bool.false_eq_true,if_false];refine wa (we (wpAny_pyIter_list ht ?_));refine wa (we (Ypl hlt items.size 0 _ _ ⟨_,qp _ rfl,rfl,rfl⟩ (ht.push _) (by lia) λh₁ hit₁ hs₁=>?_))
  have hall:List.take items.size (List.drop 0 items.toList)=items.toList:=by
   rw[List.drop_zero];exact List.take_of_length_le (by simp)
  rw[hall];rw[if_neg (by simp)];have ht₁:h₁.IsList t items:=(ht.push _).extBut hs₁.extBut hlt;refine wa (we (wpAny_pyNext_list_end hh hit₁ ht₁ (by simp) λh₂ he₂=>?_));simp only[Option.isSome_none,Bool.false_eq_true,if_false];refine wc (hQ h₂ λb o hb e=>he₂ b o hb (hs₁.extBut b o hb (qe _ e)))
theorem Yjt{s:Shared}{env:Env}{elts:AL}{x1}{pos:Pos}{t:Addr}{items:Array Value}{Q:Unit->Shared->Prop}(hh:A.handled=none)(ht:s.heap.IsList t items)
 (hn:(assignEach elts env).length=items.size) (hstar:(assignEach elts env).findIdx? (·.1)=none)
 (h:∀h',Heap.ExtBut (~~~s) s.heap h'->wpAny (model prog w) A (assignInOrder ((assignEach elts env).map (·.2)) items.toList) Q E { s with heap:=h' }) :
 wpAny (model prog w) A (assign (.Tuple elts x1 pos) env (.ref t)) Q E s:=by
 rw[assign_Tuple];refine wa (wpAny_standAt ?_);unfold unpack;rw[hn,hstar];exact wa (we (Yk0 hh ht h))
def Yafn(K:W.Frag)(n:Nat)(t:TGs):TG:=λv σ H Q=>∃a xs,v=.ref a/\SqL K H a xs/\xs.length=n/\t xs σ H Q
theorem y9r{es:AL}{k:Nat}{t:TGs}{n:Nat}(hc:X.calm=true)(h:PGs X es t)
 (hn:(assignEach es X.env).length=n:=by rfl) (hst:(assignEach es X.env).findIdx? (·.1)=none:=by rfl):PG X (.Tuple es k pos) (Yafn X.K n t):=by
 intro pins s σ H v u Q I r hw;obtain⟨a,xs,e1,hq,hl,hw⟩:=hw;subst e1;cases r;obtain⟨its,rv,⟨o,nn,ho,hcl,_,hd⟩,hz⟩:=I.list hq;refine Yjt (I.ok.hd hc) ⟨o,ho,hcl,nn,hd⟩ (by simp[hn,<-hl,rv.length]) hst λh' hx=>?_;have I1:Inv X pins σ H { s with heap:=h' }:=I.kept (t':=s.toks) λb o e=>hx b o (qm (ql e)) e;exact h pins _ σ H xs _ Q I1 (by simpa using rv) hw
end
end
section
variable {K:W.Frag}
end
section
variable {K:W.Frag}
def fldD(c f:Str):D->Option D
 | .obj c' ks vs=>if c'=c then (ks.zip vs).lookup f else none
 | _=>none
def CF(K:W.Frag)(c f:Str):Prop:=∀C,W.nsIn K mainGlobals c=some (some (.ref C))->Cls K C/\NoAttr K C f
theorem RpL.look{G:Hp}{f:Str}:∀{ks:AK}{vs:AQ}{xs:AN}{d:D},RpL K G vs xs->(ks.zip vs).lookup f=some d->∃v,(ks.zip xs).lookup f=some v/\Rp K G d v
 | [],_,_,_,_,e=>by simp at e
 | _::_,[],_,_,_,e=>by simp at e
 | k::ks,d'::vs,xs,d,r,e=>by
   rw[RpL]at r;obtain⟨x,xs',rfl,g,q⟩:=r;rw[List.zip_cons_cons,List.lookup_cons]at e ⊢
   cases h:(f==k)with
   | true=>
     rw[h]at e;cases e;exact⟨x,rfl,g⟩
   | false=>
     rw[h]at e;exact RpL.look q e
section
variable {X:Cx}{e o:Expr}{fa fo:AV}{pos apos:Pos}{c f:Str}
def Okm(P:Program)(w:World)(K:W.Frag)(mg:AE)(base:Heap)(k:Nat)(c m:Str)(ps:AK)(sp:Sp):Prop:=
 ∃C f fd,FnOk P w K mg base CX0 k f fd ps sp/\Binds K fd ps []/\W.nsIn K mainGlobals c=some (some (.ref C))/\Cls K C/\Meth K C m f
def mthD(c m:Str)(fn:AQ->Option D):D->Option D
 | .obj c' ks vs=>if c'=c/\m∉ks then fn [.obj c' ks vs]else none
 | _=>none
theorem Yqt{f:Str}:∀{ks:AK}{xs:AN},f∉ks->(ks.zip xs).lookup f=none
 | [],_,_=>by simp
 | _::_,[],_=>by simp
 | k::ks,x::xs,h=>by
   rw[List.zip_cons_cons,List.lookup_cons]
   have h1:(f==k)=false:=by
    rw[beq_eq_false_iff_ne];exact λz=>h (by rw[z];exact qh)
   rw[h1];exact Yqt λz=>h (qg _ z)
end
end
section
variable {K:W.Frag}
inductive OutW (τ:Type) where
 | nx (ρ:Ro) (t:τ)|rt (d:D) (t:τ)|bk (ρ:Ro) (t:τ)|ct (ρ:Ro) (t:τ)
def Off(l:Addr)(H H':Hp):Prop:=∀a,a≠l->H' a=H a
structure WR(K:W.Frag)(l:Addr)(o:HO)(H0 G0:Hp)(σ:L2.St)(H G:Hp)(ρ:Ro):Prop where
 sr:SR K H0 G0 σ H G ρ
 g0:G0 l=none
 h0:H0 l=some o
def Yafo{τ:Type}(rep:τ->HO)(K:W.Frag)(l:Addr)(H0 G0:Hp)(F:Ends):OutW τ->Prop
 | .nx ρ' t=>∀σ' H' G' H1,Off l H0 H1->WR K l (rep t) H1 G0 σ' H' G' ρ'->F.nx σ' H'
 | .rt d t=>∀v H' G' H1,Off l H0 H1->H1 l=some (rep t)->Gr H1 G0 H' G'->Rp K G' d v->F.rt v H'
 | .bk ρ' t=>∀σ' H' G' H1,Off l H0 H1->WR K l (rep t) H1 G0 σ' H' G' ρ'->F.bk σ' H'
 | .ct ρ' t=>∀σ' H' G' H1,Off l H0 H1->WR K l (rep t) H1 G0 σ' H' G' ρ'->F.ct σ' H'
def sOfW{τ:Type}(rep:τ->HO)(K:W.Frag)(l:Addr)(f:Ro->τ->Option (OutW τ)):TS:=λF σ H=>∃ρ t out H0 G0 G,f ρ t=some out/\WR K l (rep t) H0 G0 σ H G ρ/\Yafo rep K l H0 G0 F out
abbrev WS{τ:Type}(rep:τ->HO)(X:Cx)(l:Addr)(st:Stmt)(f:Ro->τ->Option (OutW τ)):Prop:=PS X st (sOfW rep X.K l f)
abbrev WB{τ:Type}(rep:τ->HO)(X:Cx)(l:Addr)(sts:List Stmt)(f:Ro->τ->Option (OutW τ)):Prop:=PSs X sts (sOfW rep X.K l f)
section
variable {τ:Type}{rep:τ->HO}{X:Cx}{l:Addr}{st:Stmt}{sts:List Stmt}{fs gs:Ro->τ->Option (OutW τ)}{pos:Pos}{tg:Expr}{gl:AW}
def WT(rep:τ->HO)(X:Cx)(l:Addr)(c:Expr)(f:Ro->τ->Option Bool):Prop:=PT X c λσ H Q=>∃ρ t k H0 G0 G,f ρ t=some k/\WR X.K l (rep t) H0 G0 σ H G ρ/\∀H' G',Gr H G H' G'->Q k H'
end
end
section
variable {K:W.Frag}
abbrev wl(t:AH):HO:=.lst (t.map V.bl)
abbrev wks:AK:=["book","hands","truths"]
abbrev watD(b h x:D):D:=.obj "Watch" wks [b,h,x]
theorem y2x{G:Hp}:∀t:AH,RpL K G (t.map D.bl) (t.map V.bl)
 | []=>.nil
 | b::t=>.cons (by rw[Rp]) (y2x t)
theorem RpL.three{G:Hp}{a b c:D}{xs:AN}(r:RpL K G [a,b,c] xs):∃x y z,xs=[x,y,z]/\Rp K G a x/\Rp K G b y/\Rp K G c z:=by
 rw[RpL]at r;obtain⟨x,r1,rfl,h1,r⟩:=r;rw[RpL]at r;obtain⟨y,r2,rfl,h2,r⟩:=r;rw[RpL]at r;obtain⟨z,r3,rfl,h3,r⟩:=r;rw[RpL]at r;subst r;exact⟨x,y,z,rfl,h1,h2,h3⟩
end
section
variable {K:W.Frag}
end
section
variable {K:W.Frag}
def ifP(p:Prop)(a:Option Out):Option Out:=@ite _ p (Classical.propDecidable p) a none
theorem y2y{p:Prop}{a:Option Out}(h:p):ifP p a=a:=@if_pos p (Classical.propDecidable p) h _ _ _
theorem y5o{p:Prop}{a:Option Out}{o:Out}(e:ifP p a=some o):p/\a=some o:=by
 by_cases h:p
 ·rw[y2y h]at e
  exact⟨h,e⟩
 ·have:ifP p a=none:=@if_neg p (Classical.propDecidable p) h _ _ _
  rw[this]at e;cases e
end
section
abbrev Wm:=Ro->AH->Option (OutW AH)
structure ZWS(X:Cx)(l:Addr)(st:Stmt)(f:Wm):Prop where
 un:WS wl X l st f
structure ZWB(X:Cx)(l:Addr)(sts:List Stmt)(f:Wm):Prop where
 un:WB wl X l sts f
structure ZWT(X:Cx)(l:Addr)(c:Expr)(f:Ro->AH->Option Bool):Prop where
 un:WT wl X l c f
section
variable {X:Cx}{l:Addr}{st:Stmt}{sts:List Stmt}{fs gs:Wm}{pos apos:Pos}{tg e o:Expr}{gl:AW}{f fa fo:AV}{c m:Str}
theorem Ycv{f:Str}(k:CF X.K c f)(he:ZE X e fa)(hb:attributeBase e f X.env (eval e X.env)=eval e X.env:=by rfl):ZE X (.Attribute e f pos) (b1 fa (fldD c f)):=⟨have he:=he.un;
 PE.imp (y0m he hb) λσ H Q hx_=>by
  obtain⟨ρ,d,H0,G0,G,e,s,h⟩:=hx_;obtain⟨x,h1,h2⟩:=Yaw e;refine tOf.at h1 s λv H1 G1 g1 r1 s1=>?_
  cases x with
  | obj c' ks vs=>
    change (if c'=c then (ks.zip vs).lookup f else none)=some d at h2
    by_cases hc:c'=c
    ·rw[if_pos hc]at h2
     subst hc;rw[Rp]at r1;obtain⟨a,C,dx,xs,rfl,n,g,l,q⟩:=r1;obtain⟨v,hv,rv⟩:=q.look h2;exact⟨a,C,dx,_,v,rfl,s1.seen _ _ g,(k C n).1,(k C n).2,hv,h v H1 G1 g1 rv⟩
    ·rw[if_neg hc]at h2
     cases h2
  | _=>cases h2⟩
theorem Yby{j k:Nat}{ps:AK}{fn:AQ->Option D}{pl:Sem Bool}(O:Okm X.prog X.w X.K X.mg X.base j c m ps (spOf X.K 1 fn))(hr:Room k X.A)(ho:ZE X o fo)(hj:j<=k:=by first|exact qu _|lia)
 (ht:eval (.Call (.Attribute o m apos) [] [] pos) X.env=(do
  let ov <-eval o X.env
  standAt apos.atName
  let (f,first) <-holding [ov] (getMethod ov m pl)
  callWith pos f first (backTo pos (starEach [] X.env)) (backToKw pos (keywordEach [] X.env))):=by rfl):ZE X (.Call (.Attribute o m apos) [] [] pos) (b1 fo (mthD c m fn)):=⟨have ho:=ho.un;by
 intro pins s σ H Q I hx_;obtain⟨ρ,d,H0,G0,G,e,sr,h⟩:=hx_;obtain⟨x,h1,h2⟩:=Yaw e
 cases x with
 | obj c' ks vs=>
   change (if c'=c/\m∉ks then fn [.obj c' ks vs]else none)=some d at h2
   by_cases hc:c'=c/\m∉ks
   ·rw[if_pos hc]at h2
    obtain⟨rfl,hm⟩:=hc;obtain⟨C,f,fd,F,hb,hn,cl,me⟩:=O;refine Yw0 (E:=E0) ho cl me F (hr.mono hj) hb .nil Yuy ht pins s σ H Q I ?_;refine tOf.at h1 sr λv H1 G1 g1 r1 s1=>?_;rw[Rp]at r1;obtain⟨a,C',dx,xs,rfl,n,g,l,q⟩:=r1;rw[hn]at n;cases n;refine⟨a,dx,_,rfl,s1.seen _ _ g,Yqt hm,?_⟩;refine⟨rfl,[_],d,G1,s1.seen,.one ?_,h2,λv H' G' g2 r2=>h v H' G' (g1.trans g2) r2⟩;rw[Rp];exact⟨a,C,dx,xs,rfl,hn,g,l,q⟩
   ·rw[if_neg hc]at h2
    cases h2
 | _=>cases h2⟩
end
def Mq(K:W.Frag)(c m q:Str)(st:Stmt):Prop:=∃C f fd,W.nsIn K mainGlobals c=some (some (.ref C))/\Cls K C/\Meth K C m f/\Fun K m q st f fd
theorem mq_mk{K:W.Frag}{c m q:Str}{st:Stmt}{C f:Addr}{oc:Value}{od an:Option Addr}{osl:Array (Option Value)}{kV doc pm cdv ct:Value}(a:W.nsIn K mainGlobals c=some (some (.ref C)))(pg:W.plainGet K C Str.empty=true)(hd:W.hasDictIn K C=true)(po:W.plainOver K C=true)(sa:W.findIn K (.ref C) "__setattr__"=some (some (.builtin "object.__setattr__")))
 (i:W.findIn K (.ref C) m=some (some (.ref f))) (n:W.isFn K (.ref f)=true) (l:K.lookup f=some ⟨oc,od,.func (W.fnOf m q (defArgs st) (defBody st) (defScope st) .none kV doc pm an cdv ct),osl⟩) (cd:W.codeIn K cdv q=true) (k:W.keepIn K (.ref f)=true):Mq K c m q st:=
 ⟨C,f,_,a,⟨pg,hd,po,sa⟩,⟨i,n,k⟩,Yss l cd k⟩
def Nq(K:W.Frag)(c f:Str):Prop:=∃C,W.nsIn K mainGlobals c=some (some (.ref C))/\Cls K C/\NoAttr K C f
theorem nq_mk{K:W.Frag}{c f:Str}{C:Addr}(a:W.nsIn K mainGlobals c=some (some (.ref C)))(pg:W.plainGet K C Str.empty=true)(hd:W.hasDictIn K C=true)(po:W.plainOver K C=true)(sa:W.findIn K (.ref C) "__setattr__"=some (some (.builtin "object.__setattr__")))(n:W.findIn K (.ref C) f=some none):Nq K c f:=
 ⟨C,a,⟨pg,hd,po,sa⟩,n⟩
theorem Nq.cf{K:W.Frag}{c f:Str}(h:Nq K c f):CF K c f:=λC e=>by
 obtain⟨C',a,cl,n⟩:=h;rw[a]at e;cases e;exact⟨cl,n⟩
def Bnm(x q:Str)(st:Stmt)(ps:AK):Prop:=∀(kV doc pm:Value) (an:Option Addr) (cdv ct:Value) (us:AC),us.length=ps.length->bindArgs (W.fnOf x q (defArgs st) (defBody st) (defScope st) .none kV doc pm an cdv ct) ⟨us,[]⟩=pure (ps.zip us)
section
variable {P:Program}{w:World}{K:W.Frag}{mg:AE}{base:Heap}
theorem okmn{c x q:Str}{st:Stmt}{k n m:Nat}{N ps:AK}{fb:AS}(F:Mq K c x q st)(S:FnScope N ps (defScope st))(hb:∀{f:Addr}{cdv:Value}{A:Around}{outer:List Env}{s:Shared}{H:Hp}{E:XK},Room k (A.deeper (envOfC q (defScope st) (~~~s) f cdv))->ZB (cxOf CX0 P w K mg base N q (defScope st) f cdv A outer s H E).nox (defBody st) fb)(hn:N.length=n:=by rfl)(hm:ps.length=m:=by rfl)
 (B:Bnm x q st ps:=by(intro _ _ _ _ _ _ us hl;first|(obtain⟨_,rfl⟩:=len1 hl;rfl)|(obtain⟨_,_,rfl⟩:=len2 hl;rfl)|(obtain⟨_,_,_,rfl⟩:=len3 hl;rfl))):Okm P w K mg base (k+1) c x ps (spOf K m (runB m n fb)):=by
 obtain⟨C,f,fd,a,cl,me,fu⟩:=F;exact⟨C,f,fd,Ykx (k:=k) fu S hn hm λ_ _ _ _ _ _ hr=>hb hr,fu.binds B,a,cl,me⟩
end
end
section
section
variable {X:Cx}{a:Expr}{fa:AV}{pos px:Pos}{x:Str}{ks:AK}
theorem Yadg(hu:X.A.units+64<cLine){p:Addr}{o:Obj}{its:Array Value}{n:Nat}(hl:X.K.lookup p=some o)(hc:o.cls=.type "tuple")(hd:o.data=.seq its n)(hs:y49 its.toList ks):OpR X (compareOp .In) (rInG p ks false):=by
 intro pins s σ H x y v u Q I rx ry h;obtain⟨k,rfl,hk,rfl,q⟩:=h;cases ry;obtain⟨t,rfl⟩:=rx;obtain⟨as,h1,h2⟩:=Yku (h:=s.heap) hs;have ht:Reads s.heap (.ref p) (.tuple (ks.map PyData.str)) _:=.tuple (I.kIn p o hl) hc hd h1;refine SeqAt.in_tuple_reads ht (.str k t) (by simpa [PyData.canLay0]using h2) (by simp[PyData.canLay0,hk]) ?_ ⟨.bl _,H,I,rfl,?_⟩
 ·have e:(PyData.str k).depth=0:=by simp[PyData.depth]
  rw[e];lia
 ·rw[Yu9]
  have e:decide (k∈ks)=(decide (k∈ks)!=false):=by cases decide (k∈ks)<;>rfl
  rw[e];exact q
theorem y9s(hu:X.A.units+64<cLine)(g:GT X.K X.mg x ks)(hg:Gl X x)(ha:ZC X a fa)(hm:behindInMarks .In (.Name x px)=false:=by with_unfolding_all rfl)(hd:Ndb x:=by decide):ZE X (.Compare a [.In] [.Name x px] pos) (mB (b1 fa (inG false ks))):=by
 obtain⟨p,o,its,n,hmg,hl,hc,hdt,hs⟩:=g;refine⟨PE.imp (y0i (Yadg hu hl hc hdt hs) ha.un (Yl6 (v:=.ref p) hg hmg rfl hd) hm) λσ H Q hx_=>?_⟩;obtain⟨ρ,b,H0,G0,G,e,s,h⟩:=hx_;obtain⟨k,ek,rfl⟩:=Yqg e;obtain⟨d,h1,h2⟩:=Yaw ek;refine tCof.at h1 s λv H1 G1 g1 r1 s1=>?_;unfold inG at h2
 split at h2
 ·rename_i k
  cases h2;rw[Ct]at r1;exact⟨k,r1.1,r1.2,rfl,h _ H1 G1 g1 (by rw[Rp])⟩
 ·cases h2
end
end
section
end
section
variable {K:W.Frag}
inductive HS where
 | bls (t:AH)
 | ins (c:Str) (C dx:Addr) (ks:AK) (vs:AN) (ds:AQ)
abbrev Hs:=Addr->Option HS
def HS.ho:HS->HO
 | .bls t=>.lst (t.map V.bl)
 | .ins _ C dx ks vs _=>.ins C dx (ks.zip vs)
def HS.d:HS->D
 | .bls t=>.lst (t.map D.bl)
 | .ins c _ _ ks _ ds=>.obj c ks ds
def HS.ok(K:W.Frag)(G:Hp):HS->Prop
 | .bls _=>True
 | .ins c C _ ks vs ds=>W.nsIn K mainGlobals c=some (some (.ref C))/\vs.length=ks.length/\RpL K G ds vs
theorem HS.ok.mono{G G':Hp}(h:Same G G'):∀{s:HS},s.ok K G->s.ok K G'
 | .bls _,_=>trivial
 | .ins ..,⟨a,b,c⟩=>⟨a,b,c.mono h⟩
def pt(t:Hs)(a:Addr)(s:Option HS):Hs:=λb=>if b=a then s else t b
theorem Yas{t:Hs}{a:Addr}{s:Option HS}:pt t a s a=s:=if_pos rfl
theorem Ybn{t:Hs}{a b:Addr}{s:Option HS}(h:b≠a):pt t a s b=t b:=if_neg h
structure HW(K:W.Frag)(t:Hs)(H G:Hp):Prop where
 g:∀a s,t a=some s->G a=none
 h:∀a s,t a=some s->H a=some s.ho
 ok:∀a s,t a=some s->s.ok K G
structure WH(K:W.Frag)(t:Hs)(H0 G0:Hp)(σ:L2.St)(H G:Hp)(ρ:Ro):Prop where
 sr:SR K H0 G0 σ H G ρ
 h0:∀a s,t a=some s->H0 a=some s.ho
 g0:∀a s,t a=some s->G0 a=none
 ok:∀a s,t a=some s->s.ok K G
structure OffH(t t':Hs)(H0 H1:Hp):Prop where
 keep:∀a,t' a=none->H1 a=H0 a
 grow:∀a,t' a=none->t a=none
 new:∀a,t a=none->t' a≠none->H0 a=none
theorem OffH.refl{t:Hs}{H:Hp}:OffH t t H H:=⟨λ_ _=>rfl,λ_ h=>h,λ_ h h'=>absurd h h'⟩
theorem OffH.trans{t t1 t2:Hs}{H H1 H2:Hp}(a:OffH t t1 H H1)(b:OffH t1 t2 H1 H2):OffH t t2 H H2:=
 ⟨λx h=>(b.keep x h).trans (a.keep x (b.grow x h)),λx h=>a.grow x (b.grow x h),λx h h'=>by
  by_cases z:t1 x=none
  ·rw[<-a.keep x z];exact b.new x z h'
  ·exact a.new x h z⟩
structure Aft(K:W.Frag)(t t':Hs)(H G H' G':Hp):Prop where
 keep:∀a o,t a=none->H a=some o->H' a=some o
 grow:∀a,t' a=none->t a=none
 new:∀a,t a=none->t' a≠none->H a=none
 hw:HW K t' H' G'
 g:Same G G'
 s:Same G' H'
 n:∀a,G a=none->G' a≠none->H a=none
section
variable {t t':Hs}{H0 G0 H G H' G':Hp}{σ:L2.St}{ρ:Ro}
theorem WH.no(w:WH K t H0 G0 σ H G ρ){a:Addr}{s:HS}(e:t a=some s):G a=none:=by
 cases h:G a with
 | none=>rfl
 | some u=>
   have:=w.sr.gr.n a (w.g0 a s e) (by rw[h];exact λz=>nomatch z);rw[w.h0 a s e]at this;cases this
theorem WH.hw(w:WH K t H0 G0 σ H G ρ):HW K t H G:=⟨λ_ _ e=>w.no e,λa s e=>w.sr.gr.h _ _ (w.h0 a s e),w.ok⟩
theorem WH.grow(w:WH K t H0 G0 σ H G ρ)(g:Gr H G H' G'):WH K t H0 G0 σ H' G' ρ:=⟨w.sr.grow g,w.h0,w.g0,λa s e=>(w.ok a s e).mono g.g⟩
theorem WH.bare(w:WH K t H0 G0 σ H G ρ):WH K t H0 G0 [] H G []:=⟨SR.mkSh w.sr.gr rfl (λi d e=>(by simp at e)) (λi l e=>(by simp at e)) (λi t ks vs e=>(by simp at e)),w.h0,w.g0,w.ok⟩
theorem WH.after(w:WH K t H0 G0 σ H G ρ)(a:Aft K t t' H G H' G'):∃H1,OffH t t' H0 H1/\WH K t' H1 G0 σ H' G' ρ:=by
 have s:=w.sr
 have tn:∀{b:Addr},H0 b=none->t b=none:=λ{b} h=>by
  cases z:t b with
  | none=>rfl
  | some x=>have:=w.h0 b x z;rw[h]at this;cases this
 have own:∀{b:Addr}{o:HO},H0 b=none->H b=some o->G b=none->t' b=none/\H' b=some o/\G' b=none:=λ{b o} h1 h2 h3=>by
  refine⟨?_,a.keep b o (tn h1) h2,?_⟩
  ·refine Classical.byContradiction λz=>?_
   have:=a.new b (tn h1) z;rw[h2]at this;cases this
  ·refine Classical.byContradiction λz=>?_
   have:=a.n b h3 z;rw[h2]at this;cases this
 refine⟨λb=>if t' b=none then H0 b else H' b,⟨λb h=>if_pos h,a.grow,λb h h'=>s.gr.h.free (a.new b h h')⟩,⟨⟨λb u e=>?_,s.gr.g.trans a.g,a.s,λb h h'=>?_⟩,s.len,λi d e=>?_,λi l e=>?_,s.ap,λi t1 ks vs e=>?_,s.apd⟩,λb x e=>?_,λb x e=>(s.gr.g.trans a.g).free (a.hw.g b x e),a.hw.ok⟩
 ·by_cases z:t' b=none
  ·simp only[if_pos z]at e
   exact a.keep b u (a.grow b z) (s.gr.h b u e)
  ·simp only[if_neg z]at e
   exact e
 ·have z:t' b=none:=by
   cases z:t' b with
   | none=>rfl
   | some x=>exact absurd (a.hw.g b x z) h'
  show(if t' b=none then H0 b else H' b)=none;rw[if_pos z];by_cases y:G b=none
  ·exact s.gr.h.free (a.n b y h')
  ·exact s.gr.n b h y
 ·obtain⟨v,q1,q2⟩:=s.sh i d e
  exact⟨v,q1,q2.mono a.g⟩
 ·obtain⟨b,xs,q1,q2,q3,q4,q5⟩:=s.ow i l e
  obtain⟨z1,z2,z3⟩:=own q3 q4 q2;exact⟨b,xs,q1,z3,by show(if t' b=none then H0 b else H' b)=none;rw[if_pos z1];exact q3,z2,q5.mono a.g⟩
 ·obtain⟨b,kxs,vxs,q1,q2,q3,q4,q5,q6⟩:=s.od i t1 ks vs e
  obtain⟨o,h4,_⟩:=q4.some;obtain⟨z1,z2,z3⟩:=own q3 h4 q2;exact⟨b,kxs,vxs,q1,z3,by show(if t' b=none then H0 b else H' b)=none;rw[if_pos z1];exact q3,q4.mono a.g λo' z=>by rw[h4]at z;rw[z2];exact z,q5.mono a.g,q6.mono a.g⟩
 ·show(if t' b=none then H0 b else H' b)=_
  rw[if_neg (by rw[e];exact λz=>nomatch z)];exact a.hw.h b x e
theorem WH.aft(w:WH K t' H0 G0 σ H G ρ){Ha Ga:Hp}(o:OffH t t' Ha H0)(g:Ga=G0):Aft K t t' Ha Ga H G:=by
 subst g;refine⟨λa u h e=>?_,o.grow,o.new,w.hw,w.sr.gr.g,w.sr.gr.s,λa h h'=>?_⟩
 ·by_cases z:t' a=none
  ·exact w.sr.gr.h a u (by rw[o.keep a z];exact e)
  ·have:=o.new a h z
   rw[e]at this;cases this
 ·have h1:=w.sr.gr.n a h h'
  by_cases z:t' a=none
  ·rw[<-o.keep a z];exact h1
  ·obtain⟨x,hx⟩:=Option.ne_none_iff_exists'.mp z
   rw[w.h0 a x hx]at h1;cases h1
theorem WH.rebase(w:WH K t H0 G0 σ H G ρ):∃H1,WH K t H1 G σ H G ρ/\∀t' H2 σ' H' G' ρ',OffH t t' H1 H2->WH K t' H2 G σ' H' G' ρ'->∃H3,OffH t t' H0 H3/\WH K t' H3 G0 σ' H' G' ρ':=by
 classical
 have s:=w.sr
 let own:Addr->Prop:=λa=>∃(i:Nat),((∃l:AQ,ρ[i]?=some (some (B.ow l)))\/(∃t ks vs,ρ[i]?=some (some (B.od t ks vs))))/\σ[i]?=some (some (V.ref a))
 have hh:∀a,own a->H0 a=none/\G a=none:=λa ha=>by
  obtain⟨i,e1,e2⟩:=ha;rcases e1 with⟨l,e1⟩|⟨t,ks,vs,e1⟩
  ·obtain⟨b,xs,q1,q2,q3,_⟩:=s.ow i l e1
   rw[e2]at q1;cases q1;exact⟨q3,q2⟩
  ·obtain⟨b,kxs,vxs,q1,q2,q3,_⟩:=s.od i t ks vs e1
   rw[e2]at q1;cases q1;exact⟨q3,q2⟩
 have back:∀a,(if own a then (none:Option HO)else H a)=none->H0 a=none:=λa h=>by
  by_cases o:own a
  ·exact(hh a o).1
  ·rw[if_neg o]at h;exact s.gr.h.free h
 refine⟨λa=>if own a then none else H a,⟨⟨⟨λb o e=>?_,Same.refl _,s.gr.s,λ_ h h'=>absurd h h'⟩,s.len,s.sh,λi l e=>?_,s.ap,λi t ks vs e=>?_,s.apd⟩,λa x e=>?_,λa x e=>w.no e,w.ok⟩,λt' H2 σ' H' G' ρ' f w'=>?_⟩
 ·by_cases z:own b
  ·simp only[if_pos z]at e;cases e
  ·simp only[if_neg z]at e;exact e
 ·obtain⟨a,xs,q1,q2,q3,q4,q5⟩:=s.ow i l e
  exact⟨a,xs,q1,q2,if_pos ⟨i,.inl ⟨l,e⟩,q1⟩,q4,q5⟩
 ·obtain⟨a,kxs,vxs,q1,q2,q3,q4⟩:=s.od i t ks vs e
  exact⟨a,kxs,vxs,q1,q2,if_pos ⟨i,.inr ⟨t,ks,vs,e⟩,q1⟩,q4⟩
 ·have z:¬own a:=λz=>by
   have:=(hh a z).1;rw[w.h0 a x e]at this;cases this
  show(if own a then none else H a)=_;rw[if_neg z];exact w.hw.h a x e
 ·have t1:=w'.sr
  have bk2:∀a,H2 a=none->(if t' a=none then H0 a else H2 a)=none:=λa h=>by
   by_cases z:t' a=none
   ·rw[if_pos z]
    rw[f.keep a z]at h;exact back a h
   ·rw[if_neg z];exact h
  refine⟨λa=>if t' a=none then H0 a else H2 a,⟨λa h=>if_pos h,f.grow,λa h h'=>back a (f.new a h h')⟩,⟨⟨λb u e=>?_,s.gr.g.trans t1.gr.g,t1.gr.s,λb h h'=>?_⟩,t1.len,t1.sh,λi l e=>?_,t1.ap,λi t1' ks vs e=>?_,t1.apd⟩,λa x e=>?_,λa x e=>s.gr.g.free (w'.g0 a x e),w'.ok⟩
  ·refine t1.gr.h b u ?_
   by_cases z:t' b=none
   ·simp only[if_pos z]at e
    rw[f.keep b z]
    have z2:¬own b:=λq=>by rw[(hh b q).1]at e;cases e
    show(if own b then none else H b)=some u;rw[if_neg z2];exact s.gr.h b u e
   ·simp only[if_neg z]at e;exact e
  ·by_cases z:G b=none
   ·exact bk2 b (t1.gr.n b z h')
   ·have q:=s.gr.n b h z
    have z2:t' b=none:=by
     cases y:t' b with
     | none=>rfl
     | some x=>exact absurd (w'.g0 b x y) z
    show(if t' b=none then H0 b else H2 b)=none;rw[if_pos z2];exact q
  ·obtain⟨a,xs,q1,q2,q3,q4,q5⟩:=t1.ow i l e
   exact⟨a,xs,q1,q2,bk2 a q3,q4,q5⟩
  ·obtain⟨a,kxs,vxs,q1,q2,q3,q4⟩:=t1.od i t1' ks vs e
   exact⟨a,kxs,vxs,q1,q2,bk2 a q3,q4⟩
  ·show(if t' a=none then H0 a else H2 a)=_
   rw[if_neg (by rw[e];exact λz=>nomatch z)];exact w'.h0 a x e
end
def ContH(K:W.Frag)(t:Hs)(H0 G0:Hp)(F:Ends):OutW Hs->Prop
 | .nx ρ' t'=>∀σ' H' G' H1,OffH t t' H0 H1->WH K t' H1 G0 σ' H' G' ρ'->F.nx σ' H'
 | .rt d t'=>∀v H' G' H1,OffH t t' H0 H1->WH K t' H1 G0 [] H' G' []->Rp K G' d v->F.rt v H'
 | .bk ρ' t'=>∀σ' H' G' H1,OffH t t' H0 H1->WH K t' H1 G0 σ' H' G' ρ'->F.bk σ' H'
 | .ct ρ' t'=>∀σ' H' G' H1,OffH t t' H0 H1->WH K t' H1 G0 σ' H' G' ρ'->F.ct σ' H'
theorem ContH.off{t t':Hs}{H0 G0 H1:Hp}{F:Ends}{o:OutW Hs}(f:OffH t t' H0 H1)(c:ContH K t H0 G0 F o):ContH K t' H1 G0 F o:=by
 cases o with
 | nx ρ t2=>exact λσ' H' G' H2 g w=>c σ' H' G' H2 (f.trans g) w
 | rt d t2=>exact λv H' G' H2 g w=>c v H' G' H2 (f.trans g) w
 | bk ρ t2=>exact λσ' H' G' H2 g w=>c σ' H' G' H2 (f.trans g) w
 | ct ρ t2=>exact λσ' H' G' H2 g w=>c σ' H' G' H2 (f.trans g) w
abbrev Hm:=Ro->Hs->(OutW Hs->Prop)->Prop
abbrev He:=Ro->Hs->(D->Hs->Prop)->Prop
abbrev Ha:=Ro->Hs->(AQ->Hs->Prop)->Prop
def sOfH(K:W.Frag)(f:Hm):TS:=λF σ H=>∃ρ t H0 G0 G Q,WH K t H0 G0 σ H G ρ/\f ρ t Q/\∀o,Q o->ContH K t H0 G0 F o
def tHE(K:W.Frag)(f:He):TE:=λσ H Q=>∃ρ t H0 G0 G R,WH K t H0 G0 σ H G ρ/\f ρ t R/\∀d t',R d t'->∀v H' G' H1,OffH t t' H0 H1->WH K t' H1 G0 σ H' G' ρ->Same G G'->Rp K G' d v->Q v H'
def tHA(K:W.Frag)(f:Ha):TA:=λσ H Q=>∃ρ t H0 G0 G R,WH K t H0 G0 σ H G ρ/\f ρ t R/\∀ds t',R ds t'->∀vs H' G' H1,OffH t t' H0 H1->WH K t' H1 G0 σ H' G' ρ->Same G G'->RpL K G' ds vs->Q vs H'
def tHT(K:W.Frag)(f:Ro->Hs->Option Bool):TT:=λσ H Q=>∃ρ t k H0 G0 G,f ρ t=some k/\WH K t H0 G0 σ H G ρ/\∀H' G',Gr H G H' G'->Q k H'
structure ZHS(X:Cx)(st:Stmt)(f:Hm):Prop where
 un:PS X st (sOfH X.K f)
structure ZHB(X:Cx)(sts:List Stmt)(f:Hm):Prop where
 un:PSs X sts (sOfH X.K f)
structure ZHE(X:Cx)(e:Expr)(f:He):Prop where
 un:PE X e (tHE X.K f)
structure ZHA(X:Cx)(es:AL)(f:Ha):Prop where
 un:PA X es (tHA X.K f)
structure ZHT(X:Cx)(e:Expr)(f:Ro->Hs->Option Bool):Prop where
 un:PT X e (tHT X.K f)
def outH(t:Hs):Out->OutW Hs
 | .nx ρ'=>.nx ρ' t
 | .rt d=>.rt d t
 | .bk ρ'=>.bk ρ' t
 | .ct ρ'=>.ct ρ' t
def Yg4(f:AS):Hm:=λρ t Q=>∃o,f ρ=some o/\Q (outH t o)
def nilH:Hm:=λρ t Q=>Q (.nx ρ t)
def seqH(f g:Hm):Hm:=λρ t Q=>f ρ t fun
 | .nx ρ' t'=>g ρ' t' Q
 | o=>Q o
def ifH(c:Ro->Hs->Option Bool)(f g:Hm):Hm:=λρ t Q=>∃k,c ρ t=some k/\((k=true->f ρ t Q)/\(k=false->g ρ t Q))
def forR(gt:AT)(fb:Hm):AQ->Hm
 | [],ρ,t,Q=>Q (.nx ρ t)
 | d::ds,ρ,t,Q=>∃ρ1,gt d ρ=some ρ1/\fb ρ1 t fun
   | .nx ρ2 t2=>forR gt fb ds ρ2 t2 Q
   | .ct ρ2 t2=>forR gt fb ds ρ2 t2 Q
   | .bk ρ2 t2=>Q (.nx ρ2 t2)
   | .rt d t2=>Q (.rt d t2)
def forH(gl:AW)(gt:AT)(fb:Hm):Hm:=λρ t Q=>∃ds,gl ρ=some ds/\forR gt fb ds ρ t Q
def Ypm(c:Ro->Hs->Option Bool)(fb:Hm):Nat->Hm
 | 0,_,_,_=>False
 | n+1,ρ,t,Q=>∃k,c ρ t=some k/\((k=true->fb ρ t fun
   | .nx ρ2 t2=>Ypm c fb n ρ2 t2 Q
   | .ct ρ2 t2=>Ypm c fb n ρ2 t2 Q
   | .bk ρ2 t2=>Q (.nx ρ2 t2)
   | .rt d t2=>Q (.rt d t2))/\(k=false->Q (.nx ρ t)))
def y7o(c:Ro->Hs->Option Bool)(fb:Hm):Hm:=λρ t Q=>∃n,Ypm c fb n ρ t Q
section
variable {X:Cx}{st:Stmt}{sts:List Stmt}{fs gs:Hm}{pos:Pos}{tg:Expr}{gl:AW}
theorem Ybg{f:AS}(h:ZS X st f):ZHS X st (Yg4 f):=⟨PS.imp h.un λF σ H hx_=>by
 obtain⟨ρ,t,H0,G0,G,Q,w,⟨o,h1,q⟩,c⟩:=hx_;obtain⟨H1,w1,back⟩:=w.rebase;have c:=c _ q;refine⟨ρ,o,H1,G,G,h1,w1.sr,?_⟩;have mk:∀{σ':L2.St}{H' G':Hp}{ρ':Ro},SR X.K H1 G σ' H' G' ρ'->∃H3,OffH t t H0 H3/\WH X.K t H3 G0 σ' H' G' ρ':=λ{σ' H' G' ρ'} s'=>back t H1 σ' H' G' ρ' OffH.refl ⟨s',w1.h0,w1.g0,λa s e=>(w1.ok a s e).mono s'.gr.g⟩
 cases o with
 | nx ρ'=>
   exact λσ' H' G' s'=>by
    obtain⟨H3,f3,w3⟩:=mk s';exact c σ' H' G' H3 f3 w3
 | rt d=>
   exact λv H' G' g r=>by
    obtain⟨H3,f3,w3⟩:=mk (σ':=[]) (ρ':=[]) (SR.mkSh g rfl (λi d e=>(by simp at e)) (λi l e=>(by simp at e)) (λi t ks vs e=>(by simp at e)));exact c v H' G' H3 f3 w3 r
 | bk ρ'=>
   exact λσ' H' G' s'=>by
    obtain⟨H3,f3,w3⟩:=mk s';exact c σ' H' G' H3 f3 w3
 | ct ρ'=>
   exact λσ' H' G' s'=>by
    obtain⟨H3,f3,w3⟩:=mk s'
    exact c σ' H' G' H3 f3 w3⟩
theorem Yi0:ZHB X [] nilH:=⟨PSs.imp Yuu λF σ H hx_=>by
 obtain⟨ρ,t,H0,G0,G,Q,w,q,c⟩:=hx_
 exact c _ q σ H G H0 OffH.refl w⟩
theorem Ybm(h:ZHS X st fs):ZHB X [st] fs:=⟨Yuv h.un⟩
theorem Yan(h1:ZHS X st fs)(h2:ZHB X sts gs):ZHB X (st::sts) (seqH fs gs):=⟨PSs.imp (Yly h1.un h2.un) λF σ H hx_=>by
 obtain⟨ρ,t,H0,G0,G,Q,w,q,c⟩:=hx_;refine⟨ρ,t,H0,G0,G,_,w,q,λo hq=>?_⟩
 cases o with
 | nx ρ' t'=>exact λσ' H' G' H1 f w'=>⟨ρ',t',H1,G0,G',Q,w',hq,λo ho=>(c o ho).off f⟩
 | rt d t'=>exact c _ hq
 | bk ρ' t'=>exact c _ hq
 | ct ρ' t'=>exact c _ hq⟩
theorem Ym2{c:Expr}{a b:List Stmt}{fc:Ro->Hs->Option Bool}(hc:ZHT X c fc)(ha:ZHB X a fs)(hb:ZHB X b gs):ZHS X (.If c a b pos) (ifH fc fs gs):=⟨PS.imp (y4a hc.un ha.un hb.un) λF σ H hx_=>by
 obtain⟨ρ,t,H0,G0,G,Q,w,⟨k,h1,ht,hf⟩,c⟩:=hx_;refine⟨ρ,t,k,H0,G0,G,h1,w,λH1 G1 g1=>?_⟩
 cases k with
 | true=>exact iteT ⟨ρ,t,H0,G0,G1,Q,w.grow g1,ht rfl,c⟩
 | false=>exact iteF ⟨ρ,t,H0,G0,G1,Q,w.grow g1,hf rfl,c⟩⟩
theorem y9t{iter:Expr}{body:List Stmt}{gt:AT}(hp:PassesOwn (model X.prog X.w) X.A X.env X.xe)(hc:X.calm=true)(hi:ZI X tg iter gl)(hg:ZG X tg gt)(hb:ZHB X body fs)
 (hs:∀x,foldedSetIterable iter X.env x=pure x:=by intro _;rfl):ZHS X (.For tg iter body [] pos) (forH gl gt fs):=
 ⟨PS.imp (y63 hp hc hi.un hg.un hb.un hs) λF σ H hx_=>by
  obtain⟨ρ,t,H0,G0,G,Q,w,⟨ds,h1,h2⟩,c⟩:=hx_;refine⟨ρ,ds,H0,G0,G,h1,w.sr,λJ H1 G1 g1 wk=>?_⟩;obtain⟨Hb,wb,back⟩:=(w.grow g1).rebase;refine⟨λi m σ' H'=>m=ds.length-i/\i<=ds.length/\∃ρ' t' G' Hc,OffH t t' Hb Hc/\WH X.K t' Hc G1 σ' H' G' ρ'/\forR gt fs (ds.drop i) ρ' t' Q,⟨_,rfl,jc _,ρ,t,G1,Hb,OffH.refl,wb,h2⟩,?_⟩;rintro i m σ' H' ⟨rfl,hi,ρ',t',G',Hc,fc,w',e'⟩;have W:=wk.2 i H' G' w'.sr.gr.g w'.sr.seen;by_cases hlt:i<ds.length
  ·have hd:ds[i]?=some ds[i]:=qq hlt
   obtain⟨go,yl⟩:=W.1 _ hd;rw[List.drop_eq_getElem_cons hlt,forR]at e';obtain⟨ρ1,e1,e'⟩:=e';refine .inr ⟨go,λσ' H'=>i+1<=ds.length/\∃ρ' t' G' Hc,OffH t t' Hb Hc/\WH X.K t' Hc G1 σ' H' G' ρ'/\forR gt fs (ds.drop (i+1)) ρ' t' Q,λσ2 H2 q=>⟨ds.length-(i+1),by lia,rfl,q.1,q.2⟩,λx H2 y=>?_⟩;obtain⟨G2,g2,r2⟩:=yl x H2 y;have w2:=w'.grow g2;refine⟨_,ρ',ρ1,Hc,G1,G2,e1,w2.sr,r2,λσ3 s3=>?_⟩;refine⟨ρ1,t',Hc,G1,G2,_,⟨s3,w2.h0,w2.g0,w2.ok⟩,e',λo ho=>?_⟩
   cases o with
   | nx ρ2 t2=>exact λσ4 H4 G4 Hd f4 w4=>⟨hlt,ρ2,t2,G4,Hd,fc.trans f4,w4,ho⟩
   | ct ρ2 t2=>exact λσ4 H4 G4 Hd f4 w4=>⟨hlt,ρ2,t2,G4,Hd,fc.trans f4,w4,ho⟩
   | bk ρ2 t2=>
     exact λσ4 H4 G4 Hd f4 w4=>by
      obtain⟨He,f5,w5⟩:=back _ _ _ _ _ _ (fc.trans f4) w4;exact c _ ho σ4 H4 G4 He f5 w5
   | rt d t2=>
     exact λv H4 G4 Hd f4 w4 r4=>by
      obtain⟨He,f5,w5⟩:=back _ _ _ _ _ _ (fc.trans f4) w4;exact c _ ho v H4 G4 He f5 w5 r4
  ·have ei:i=ds.length:=by lia
   subst ei;rw[List.drop_length,forR]at e';obtain⟨He,f5,w5⟩:=back _ _ _ _ _ _ fc w'
   exact .inl ⟨W.2 (qu _),c _ e' σ' H' G' He f5 w5⟩⟩
theorem y2z{c:Expr}{body:List Stmt}{fc:Ro->Hs->Option Bool}(hp:PassesOwn (model X.prog X.w) X.A X.env X.xe)(hc:ZHT X c fc)(hb:ZHB X body fs):ZHS X (.While c body [] pos) (y7o fc fs):=
 ⟨PS.imp (y4b hp hc.un hb.un) λF σ H hx_=>by
  obtain⟨ρ,t,H0,G0,G,Q,w,⟨n,h2⟩,c⟩:=hx_;refine⟨λm σ' H'=>∃ρ' t' G' H1,OffH t t' H0 H1/\WH X.K t' H1 G0 σ' H' G' ρ'/\Ypm fc fs m ρ' t' Q,⟨n,ρ,t,G,H0,OffH.refl,w,h2⟩,?_⟩;rintro m σ1 Ha ⟨ρ1,t1,G1,H1,f1,w1,e1⟩
  cases m with
  | zero=>exact e1.elim
  | succ m=>
    obtain⟨k,hk,ht,hf⟩:=e1;refine⟨ρ1,t1,k,H1,G0,G1,hk,w1,λH2 G2 g2=>?_⟩;have w2:=w1.grow g2
    cases k with
    | true=>
      refine iteT ⟨λσ' H'=>∃ρ' t' G' H1,OffH t t' H0 H1/\WH X.K t' H1 G0 σ' H' G' ρ'/\Ypm fc fs m ρ' t' Q,λσ' H' q=>⟨m,qz m,q⟩,ρ1,t1,H1,G0,G2,_,w2,ht rfl,λo ho=>?_⟩
      cases o with
      | nx ρ2 t2=>exact λσ4 H4 G4 Hd f4 w4=>⟨ρ2,t2,G4,Hd,f1.trans f4,w4,ho⟩
      | ct ρ2 t2=>exact λσ4 H4 G4 Hd f4 w4=>⟨ρ2,t2,G4,Hd,f1.trans f4,w4,ho⟩
      | bk ρ2 t2=>exact λσ4 H4 G4 Hd f4 w4=>c _ ho σ4 H4 G4 Hd (f1.trans f4) w4
      | rt d t2=>exact λv H4 G4 Hd f4 w4 r4=>c _ ho v H4 G4 Hd (f1.trans f4) w4 r4
    | false=>exact iteF (c _ (hf rfl) σ1 H2 G2 H1 f1 w2)⟩
end
end
section
variable {K:W.Frag}
mutual
def thD(t:Hs):D->D
 | .non=>.non
 | .bl b=>.bl b
 | .int i=>.int i
 | .str x=>.str x
 | .tup l=>.tup (thL t l)
 | .lst l=>.lst (thL t l)
 | .scr ns=>.scr ns
 | .dct b ks vs=>.dct b ks vs
 | .obj c ks vs=>.obj c ks (thL t vs)
 | .adr a=>match t a with
   | some s=>s.d
   | none=>.adr a
def thL(t:Hs):AQ->AQ
 | []=>[]
 | d::l=>thD t d::thL t l
end
def thB(t:Hs):B->B
 | .sh d=>.sh (thD t d)
 | .ow l=>.ow l
 | .od b ks vs=>.od b ks vs
def thR(t:Hs)(ρ:Ro):Ro:=ρ.map (Option.map (thB t))
def thG(t:Hs)(G:Hp):Hp:=λa=>match t a with
 | some s=>some s.ho
 | none=>G a
section
variable {t:Hs}{G:Hp}
theorem Yqu{a:Addr}{s:HS}(h:t a=some s):thG t G a=some s.ho:=by unfold thG;rw[h]
theorem Yju{a:Addr}(h:t a=none):thG t G a=G a:=by unfold thG;rw[h]
theorem HW.same{H:Hp}(w:HW K t H G):Same G (thG t G):=λa o e=>by
 cases h:t a with
 | none=>rw[Yju h];exact e
 | some s=>rw[w.g a s h]at e;cases e
mutual
theorem Rp.thaw{H:Hp}(w:HW K t H G):∀{d:D}{v:V},Rp K G d v->Rp K (thG t G) (thD t d) v
 | .non,_,r=>by rw[thD];exact r.mono w.same
 | .bl _,_,r=>by rw[thD];exact r.mono w.same
 | .int _,_,r=>by rw[thD];exact r.mono w.same
 | .str _,_,r=>by rw[thD];exact r.mono w.same
 | .tup l,_,r=>by
   rw[thD,Rp];rw[Rp]at r;obtain⟨a,xs,e,g,q⟩:=r;exact⟨a,xs,e,w.same _ _ g,RpL.thaw w q⟩
 | .lst l,_,r=>by
   rw[thD,Rp];rw[Rp]at r;obtain⟨a,xs,e,g,q⟩:=r;exact⟨a,xs,e,Yba w.same g,RpL.thaw w q⟩
 | .scr _,_,r=>by rw[thD];exact r.mono w.same
 | .dct _ _ _,_,r=>by rw[thD];exact r.mono w.same
 | .obj c ks vs,_,r=>by
   rw[thD,Rp];rw[Rp]at r;obtain⟨a,C,dx,xs,e,n,g,l,q⟩:=r;exact⟨a,C,dx,xs,e,n,w.same _ _ g,l,RpL.thaw w q⟩
 | .adr a,_,r=>by
   rw[Rp]at r;subst r;rw[thD]
   cases h:t a with
   | none=>rw[Rp]
   | some s=>
     cases s with
     | bls y=>
       show Rp K _ (.lst (y.map D.bl)) _;rw[Rp];exact⟨a,y.map V.bl,rfl,.inl (Yqu h),y2x y⟩
     | ins c C dx ks vs ds=>
       obtain⟨o1,o2,o3⟩:=w.ok a _ h;show Rp K _ (.obj c ks ds) _;rw[Rp];exact⟨a,C,dx,vs,rfl,o1,Yqu h,o2,o3.mono w.same⟩
theorem RpL.thaw{H:Hp}(w:HW K t H G):∀{l:AQ}{xs:AN},RpL K G l xs->RpL K (thG t G) (thL t l) xs
 | [],_,r=>by rw[RpL]at r;subst r;rw[thL];exact .nil
 | d::l,_,r=>by
   rw[RpL]at r;obtain⟨x,xs,rfl,g,q⟩:=r;rw[thL];exact .cons (Rp.thaw w g) (RpL.thaw w q)
end
theorem Yi1{ρ:Ro}{j:Nat}{b:B}(h:(thR t ρ)[j]?=some (some b)):∃b0,ρ[j]?=some (some b0)/\thB t b0=b:=by
 unfold thR at h;rw[Qg]at h;obtain⟨o,h1,h2⟩:=qc h;obtain⟨b0,rfl,h3⟩:=qc h2;exact⟨b0,h1,h3⟩
theorem WH.thaw{H0 G0 H:Hp}{σ:L2.St}{ρ:Ro}(w:WH K t H0 G0 σ H G ρ):∃H2,SR K H2 G0 σ H (thG t G) (thR t ρ):=by
 have s:=w.sr
 have tn:∀{b:Addr},H0 b=none->t b=none:=λ{b} h=>by
  cases z:t b with
  | none=>rfl
  | some x=>have:=w.h0 b x z;rw[h]at this;cases this
 refine⟨λa=>if t a=none then H0 a else none,⟨⟨λb o e=>?_,s.gr.g.trans w.hw.same,λb o e=>?_,λb h h'=>?_⟩,by unfold thR;rw[qf];exact s.len,λj d e=>?_,λj l e=>?_,λj k l l' a b h1 h2 h3 h4 h5=>?_,λj t1 ks vs e=>?_,λj k ta ka va tb kb vb a b h1 h2 h3 h4 h5=>?_⟩⟩
 ·by_cases z:t b=none
  ·simp only[if_pos z]at e;exact s.gr.h b o e
  ·simp only[if_neg z]at e;cases e
 ·cases z:t b with
  | none=>rw[Yju z]at e;exact s.gr.s b o e
  | some x=>rw[Yqu z]at e;rw[<-e];exact w.hw.h b x z
 ·show(if t b=none then H0 b else none)=none
  cases z:t b with
  | none=>
    rw[Yju z]at h';rw[if_pos rfl];exact s.gr.n b h h'
  | some x=>exact if_neg (λy=>nomatch y)
 ·obtain⟨b0,h1,h2⟩:=Yi1 e
  cases b0 with
  | sh d0=>
    cases h2;obtain⟨v,q1,q2⟩:=s.sh j d0 h1;exact⟨v,q1,q2.thaw w.hw⟩
  | ow l=>cases h2
  | od b ks vs=>cases h2
 ·obtain⟨b0,h1,h2⟩:=Yi1 e
  cases b0 with
  | sh d0=>cases h2
  | ow l0=>
    cases h2;obtain⟨a,xs,q1,q2,q3,q4,q5⟩:=s.ow j l h1;exact⟨a,xs,q1,by rw[Yju (tn q3)];exact q2,by show(if t a=none then H0 a else none)=none;rw[if_pos (tn q3)];exact q3,q4,q5.mono w.hw.same⟩
  | od b ks vs=>cases h2
 ·obtain⟨b1,e1,e2⟩:=Yi1 h1
  obtain⟨b2,e3,e4⟩:=Yi1 h2;cases b1<;>cases e2;cases b2<;>cases e4;exact s.ap j k _ _ a b e1 e3 h3 h4 h5
 ·obtain⟨b0,h1,h2⟩:=Yi1 e
  cases b0 with
  | sh d0=>cases h2
  | ow l0=>cases h2
  | od b0 ks0 vs0=>
    cases h2;obtain⟨a,kxs,vxs,q1,q2,q3,q4,q5,q6⟩:=s.od j t1 ks vs h1;exact⟨a,kxs,vxs,q1,by rw[Yju (tn q3)];exact q2,by show(if t a=none then H0 a else none)=none;rw[if_pos (tn q3)];exact q3,q4.mono w.hw.same λ_ z=>z,q5.mono w.hw.same,q6.mono w.hw.same⟩
 ·obtain⟨b1,e1,e2⟩:=Yi1 h1
  obtain⟨b2,e3,e4⟩:=Yi1 h2;cases b1<;>cases e2;cases b2<;>cases e4;exact s.apd j k _ _ _ _ _ _ a b e1 e3 h3 h4 h5
end
def y7p(f:AV):He:=λρ t Q=>∃d,f ρ=some d/\Q d t
def rdE(f:AV):He:=λρ t Q=>∃d,f (thR t ρ)=some d/\y48 d=true/\Q d t
def rdT(f:AU):Ro->Hs->Option Bool:=λρ t=>f (thR t ρ)
def y20(f:AU):Ro->Hs->Option Bool:=λρ _=>f ρ
def setH(i:Nat)(f:He):Hm:=λρ t Q=>f ρ t λd t'=>Q (.nx (ρ.set i (some (.sh d))) t')
def retH(f:He):Hm:=λρ t Q=>f ρ t λd t'=>Q (.rt d t')
def exH(f:He):Hm:=λρ t Q=>f ρ t λ_ t'=>Q (.nx ρ t')
def frzH(is:AF)(f:Hm):Hm:=λρ t Q=>f (frz is ρ) t Q
section
variable {X:Cx}{e c:Expr}{es:AL}{f:AV}{fe:He}{ga:Ha}{pos p1:Pos}{st:Stmt}{fs:Hm}
theorem y5p(h:ZE X e f):ZHE X e (y7p f):=⟨PE.imp h.un λσ H Q hx_=>by
 obtain⟨ρ,t,H0,G0,G,R,w,⟨d,h1,q⟩,k⟩:=hx_
 exact⟨ρ,d,H0,G0,G,h1,w.sr,λv H' G' g r=>k d t q v H' G' H0 OffH.refl (w.grow g) g.g r⟩⟩
theorem Yxo(h:ZE X e f):ZHE X e (rdE f):=⟨PE.imp h.un λσ H Q hx_=>by
 obtain⟨ρ,t,H0,G0,G,R,w,⟨d,h1,hs,q⟩,k⟩:=hx_;obtain⟨H2,s2⟩:=w.thaw
 exact⟨_,d,H2,G0,_,h1,s2,λv H' G' g r=>k d t q v H' G H0 OffH.refl (w.grow (.back w.sr.seen g)) (Same.refl _) (r.scal hs)⟩⟩
theorem Yxp{fc:AU}(h:ZT X c fc):ZHT X c (y20 fc):=⟨PT.imp h.un λσ H Q hx_=>by
 obtain⟨ρ,t,k,H0,G0,G,e,w,q⟩:=hx_
 exact⟨ρ,k,H0,G0,G,e,w.sr,q⟩⟩
theorem Yf3{fc:AU}(h:ZT X c fc):ZHT X c (rdT fc):=⟨PT.imp h.un λσ H Q hx_=>by
 obtain⟨ρ,t,k,H0,G0,G,e,w,q⟩:=hx_;obtain⟨H2,s2⟩:=w.thaw
 exact⟨_,k,H2,G0,_,e,s2,λH' G' g=>q H' G (.back w.sr.seen g)⟩⟩
theorem Yvn(i:Nat){y:Str}(hN:X.N.Nodup)(h:ZHE X e fe)(hy:X.N[i]?=some y:=by rfl)(hx:Loc X.env.scope y:=by trivial)(hse:swapsWith e (some (.Name y p1)) pos.line X.env=pure false:=by rfl)
 (hf:X.fn y=true\/X.env.scope.names.lookup y=some .local:=by trivial):ZHS X (.Assign [.Name y p1] e pos) (setH i fe):=⟨PS.imp (Ywx hN hy hx h.un hse hf) λF σ H hx_=>by
 obtain⟨ρ,t,H0,G0,G,Q,w,q,c⟩:=hx_
 exact⟨ρ,t,H0,G0,G,_,w,q,λd t' hq v H' G' H1 f1 w1 s1 r1=>c _ hq _ H' G' H1 f1 ⟨w1.sr.set_sh i r1,w1.h0,w1.g0,w1.ok⟩⟩⟩
theorem Yqv(h:ZHE X e fe):ZHS X (.Return (some e) pos) (retH fe):=⟨PS.imp (y0a h.un) λF σ H hx_=>by
 obtain⟨ρ,t,H0,G0,G,Q,w,q,c⟩:=hx_
 exact⟨ρ,t,H0,G0,G,_,w,q,λd t' hq v H' G' H1 f1 w1 s1 r1=>c _ hq v H' G' H1 f1 w1.bare r1⟩⟩
theorem Yqw(h:ZHE X e fe)(hse:swapsWith e none pos.line X.env=pure false:=by rfl):ZHS X (.Expr e pos) (exH fe):=⟨PS.imp (Ykm h.un hse) λF σ H hx_=>by
 obtain⟨ρ,t,H0,G0,G,Q,w,q,c⟩:=hx_
 exact⟨ρ,t,H0,G0,G,_,w,q,λd t' hq v H' G' H1 f1 w1 s1 r1=>c _ hq σ H' G' H1 f1 w1⟩⟩
theorem Yvo(is:AF)(h:ZHS X st fs):ZHS X st (frzH is fs):=⟨PS.imp h.un λF σ H hx_=>by
 obtain⟨ρ,t,H0,G0,G,Q,w,q,c⟩:=hx_;obtain⟨Hb,wb,back⟩:=w.rebase;obtain⟨Gf,sf⟩:=SR.frz is wb.sr;obtain⟨H3,f3,w3⟩:=back t Hb σ H Gf _ OffH.refl ⟨sf,wb.h0,wb.g0,λa s e=>(wb.ok a s e).mono sf.gr.g⟩
 exact⟨_,t,H3,G0,Gf,Q,w3,q,λo ho=>(c o ho).off f3⟩⟩
end
def spH(K:W.Frag)(n:Nat)(m:AQ->Hs->(D->Hs->Prop)->Prop):Sp:=λvs H Q _=>vs.length=n/\∃ds t G R,RpL K G ds vs/\Same G H/\HW K t H G/\m ds t R/\∀d t',R d t'->∀v H' G',Aft K t t' H G H' G'->Rp K G' d v->Q v H'
def runH(n:Nat)(g:Hm)(ds:AQ)(t:Hs)(R:D->Hs->Prop):Prop:=g (Yq n ds) t fun
 | .rt d t'=>R d t'
 | .nx _ t'=>R .non t'
 | _=>False
def OkH(P:Program)(w:World)(K:W.Frag)(mg:AE)(base:Heap)(k n:Nat)(x:Str)(ps:AK)(m:AQ->Hs->(D->Hs->Prop)->Prop):Prop:=
 ∃a fd,FnOk P w K mg base CX0 k a fd ps (spH K n m)/\Binds K fd ps []/\W.keepIn K (.ref a)=true/\mg x=some (.ref a)
section
variable {P:Program}{w:World}{mg:AE}{base:Heap}
theorem Yvp{x qual:Str}{st:Stmt}{f:Addr}{fd:FuncData}{N ps:AK}{k n m:Nat}{g:Hm}(F:Fun K x qual st f fd)(S:FnScope N ps (defScope st))(hn:N.length=n)(hm:ps.length=m)
 (hb:∀(cdv:Value) (A:Around) (outer:List Env) (s:Shared) (H:Hp) (E:XK),Room k (A.deeper (envOfC qual (defScope st) (~~~s) f cdv))->ZHB (cxOf CX0 P w K mg base N qual (defScope st) f cdv A outer s H E).nox (defBody st) g) :
 FnOk P w K mg base CX0 (k+1) f fd ps (spH K m (runH n g)):=by
 refine F.ok S (λvs H Q E h=>by rw[h.1,hm]) λcdv A outer s H vs Q E hr h=>?_;obtain⟨hl,ds,t,G,R,rr,sm,hw,e,q⟩:=h;refine⟨_,(hb cdv A outer s H E hr).un,?_⟩
 have s0:SR K H G (start N vs) H G (Yq n ds):=by
  rw[<-hn];exact SR.start (N:=N) sm rr
 refine⟨_,t,H,G,G,_,⟨s0,hw.h,hw.g,hw.ok⟩,e,λo ho=>?_⟩
 cases o with
 | rt d t'=>exact λv H' G' H1 f1 w1 r1=>q d t' ho v H' G' (w1.aft f1 rfl) r1
 | nx ρ' t'=>exact λσ' H' G' H1 f1 w1=>q .non t' ho .non H' G' (w1.aft f1 rfl) (by rw[Rp])
 | bk ρ' t'=>exact ho.elim
 | ct ρ' t'=>exact ho.elim
end
def y5q(ga:AW)(m:AQ->Hs->(D->Hs->Prop)->Prop):He:=λρ t Q=>∃ds,ga ρ=some ds/\∃R,m ds t R/\∀d t',R d t'->Q d t'
section
variable {X:Cx}{e o:Expr}{es:AL}{ga:AW}{m:AQ->Hs->(D->Hs->Prop)->Prop}{p cpos apos:Pos}
theorem Yqx{j k n:Nat}{x:Str}{ps:AK}(c:OkH X.prog X.w X.K X.mg X.base j n x ps m)(hr:Room k X.A)(hg:Gl X x)(ha:ZA X (e::es) ga)(hl:∀ρ ds,ga ρ=some ds->ds.length=n)(hj:j<=k:=by first|exact qu _|lia)(hdb:Ndb x:=by decide)
 (he:starEach (e::es) X.env=(false,eval e X.env)::starEach es X.env:=by rfl) (hpl:(backTo cpos (starEach es X.env)).any (·.1)=false:=by rfl):ZHE X (.Call (.Name x p) (e::es) [] cpos) (y5q ga m):=by
 obtain⟨a,fd,F,hb,hk,hm⟩:=c;refine⟨PE.imp (y0o (E:=E0) (F.mono hj) hr hg hm hk hb .nil Yuy ha.un hdb he hpl) λσ H Q hx_=>?_⟩;obtain⟨ρ,t,H0,G0,G,R,w,⟨ds,h1,R',h2,h3⟩,k⟩:=hx_;refine tAof.at h1 w.sr λvs H1 G1 g1 r1 s1=>?_;have w1:=w.grow g1;show spH X.K n m (vs++[]) H1 Q E0;rw[jb];refine⟨by rw[r1.length,hl ρ ds h1],ds,t,G1,R',r1,s1.seen,w1.hw,h2,λd t' hd v H' G' af r=>?_⟩;obtain⟨H3,f3,w3⟩:=w1.after af;exact k d t' (h3 d t' hd) v H' G' H3 f3 w3 (g1.g.trans af.g) r
end
section
variable {X:Cx}{k:Nat}{m:Str}{pos apos:Pos}{e o:Expr}{es:AL}{ta:TE}{t:TA}{ι:Type}{Cf:ι->Addr}{S:ι->Sp}
theorem y5r{pl:Sem Bool}(he:PE X o ta)(hm:∀i:ι,∃f fd ps,Cls X.K (Cf i)/\Meth X.K (Cf i) m f/\FnOk X.prog X.w X.K X.mg X.base CX0 k f fd ps (S i)/\Binds X.K fd ps [])(hr:Room k X.A)(ha:PA X (e::es) t)
 (hst:starEach (e::es) X.env=(false,eval e X.env)::starEach es X.env:=by rfl) (hpl:(backTo pos (starEach es X.env)).any (·.1)=false:=by rfl)
 (ht:eval (.Call (.Attribute o m apos) (e::es) [] pos) X.env=(do
  let ov <-eval o X.env
  standAt apos.atName
  let (f,first) <-holding [ov] (getMethod ov m pl)
  callWith pos f first (backTo pos (starEach (e::es) X.env)) (backToKw pos (keywordEach [] X.env))):=by rfl) :
 PE X (.Call (.Attribute o m apos) (e::es) [] pos) (λσ H Q=>ta σ H λx H1=>∃i a dx fs,x=.ref a/\H1 a=some (.ins (Cf i) dx fs)/\fs.lookup m=none/\t σ H1 λvs H2=>S i (x::vs) H2 Q E0):=by
 intro pins s σ H Q I h;refine W.methodCall_KW (pl:=pl) (thn (he pins s σ H _ I h) λu s1 hx_=>?_) ht;obtain⟨x,H1,I1,rx,i,a,dx,fs,ex,ea,l,q⟩:=hx_;subst ex;obtain rfl:u=Value.ref a:=rx;obtain⟨f,fd,ps,cl,me,F,hb⟩:=hm i;refine Ypb I1 ea cl me l ?_;refine W.callWith_K (first:=[.ref a]) (h₀:=X.base) I.ok.mod.kin me.kp (thn (ha pos pins s1 σ H1 _ I1 q) λus s2 hy_=>?_) hst hpl;obtain⟨vs,H2,I2,r,q2⟩:=hy_;refine⟨I2.kIn,?_⟩;refine Ywz (us:=.ref a::us) (vs:=.ref a::vs) (dvs:=[]) (E:=E0) F hr hb .nil Yuy I2 (.cons rfl r) ?_;rw[jb];exact q2
end
abbrev Hf:=AQ->Hs->(D->Hs->Prop)->Prop
def OkTb(P:Program)(w:World)(K:W.Frag)(mg:AE)(base:Heap)(k:Nat)(m:Str){α:Type}(sp:α->Sp):List (Str×α)->Prop
 | []=>True
 | (c,fn)::r=>(∃ps,Okm P w K mg base k c m ps (sp fn))/\OkTb P w K mg base k m sp r
theorem OkTb.look{P:Program}{w:World}{mg:AE}{base:Heap}{k:Nat}{m:Str}{α:Type}{sp:α->Sp}{c:Str}{fn:α}:∀{tb:List (Str×α)},OkTb P w K mg base k m sp tb->tb.lookup c=some fn->∃ps,Okm P w K mg base k c m ps (sp fn)
 | [],_,e=>by cases e
 | (c',fn')::r,h,e=>by
   rw[List.lookup_cons]at e
   split at e
   ·rename_i hc
    cases e;rw[eq_of_beq hc];exact h.1
   ·exact OkTb.look h.2 e
def clsH(t:Hs):D->Option (Str×AK)
 | .obj c ks _=>some (c,ks)
 | .adr a=>match t a with
   | some (.ins c _ _ ks _ _)=>some (c,ks)
   | _=>none
 | _=>none
def y9u(m:Str)(tb:List (Str×Hf))(fo:AV)(ga:AW):He:=λρ t Q=>∃x ds c ks fn R,fo ρ=some x/\ga ρ=some ds/\clsH t x=some (c,ks)/\m∉ks/\tb.lookup c=some fn/\fn (x::ds) t R/\∀d t',R d t'->Q d t'
section
variable {X:Cx}{e o:Expr}{es:AL}{fo:AV}{ga:AW}{p cpos apos:Pos}{m:Str}
theorem Yxq{j k n:Nat}{tb:List (Str×Hf)}{pl:Sem Bool}(T:OkTb X.prog X.w X.K X.mg X.base j m (spH X.K (n+1)) tb)(hr:Room k X.A)(ho:ZE X o fo)(ha:ZA X (e::es) ga)(hl:∀ρ ds,ga ρ=some ds->ds.length=n)(hj:j<=k:=by first|exact qu _|lia)
 (hst:starEach (e::es) X.env=(false,eval e X.env)::starEach es X.env:=by rfl) (hpl:(backTo cpos (starEach es X.env)).any (·.1)=false:=by rfl)
 (ht:eval (.Call (.Attribute o m apos) (e::es) [] cpos) X.env=(do
  let ov <-eval o X.env
  standAt apos.atName
  let (f,first) <-holding [ov] (getMethod ov m pl)
  callWith cpos f first (backTo cpos (starEach (e::es) X.env)) (backToKw cpos (keywordEach [] X.env))):=by rfl):ZHE X (.Call (.Attribute o m apos) (e::es) [] cpos) (y9u m tb fo ga):=by
 have hm:∀i:{ p:Addr×Hf // ∃c ps f fd,FnOk X.prog X.w X.K X.mg X.base CX0 j f fd ps (spH X.K (n+1) p.2)/\Binds X.K fd ps []/\W.nsIn X.K mainGlobals c=some (some (.ref p.1))/\Cls X.K p.1/\Meth X.K p.1 m f },∃f fd ps,Cls X.K i.1.1/\Meth X.K i.1.1 m f/\FnOk X.prog X.w X.K X.mg X.base CX0 k f fd ps (spH X.K (n+1) i.1.2)/\Binds X.K fd ps []:=λi=>by
  obtain⟨c,ps,f,fd,F,hb,hn,cl,me⟩:=i.2;exact⟨f,fd,ps,cl,me,F.mono hj,hb⟩
 refine⟨PE.imp (y5r ho.un hm hr ha.un hst hpl ht) λσ H Q hx_=>?_⟩;obtain⟨ρ,t,H0,G0,G,R,w,⟨x,ds,c,ks,fn,R',h1,h2,h3,h4,h5,h6,h7⟩,kk⟩:=hx_;obtain⟨ps,C,f,fd,F,hb,hn,cl,me⟩:=T.look h5;refine tOf.at h1 w.sr λv H1 G1 g1 r1 s1=>?_;have w1:=w.grow g1
 have at_:∃a dx xs,v=.ref a/\H1 a=some (.ins C dx (ks.zip xs)):=by
  unfold clsH at h3
  split at h3
  ·cases h3
   rw[Rp]at r1;obtain⟨a,C',dx,xs,rfl,n',g,l,q⟩:=r1;rw[hn]at n';cases n';exact⟨a,dx,xs,rfl,s1.seen _ _ g⟩
  ·rename_i a
   split at h3
   ·rename_i c' C' dx ks' vs ds' ha
    cases h3;rw[Rp]at r1;subst r1;obtain⟨o1,o2,o3⟩:=w1.ok a _ ha;rw[hn]at o1;cases o1;exact⟨a,dx,vs,rfl,w1.hw.h a _ ha⟩
   ·cases h3
  ·cases h3
 obtain⟨a,dx,xs,rfl,hat⟩:=at_;refine⟨⟨(C,fn),c,ps,f,fd,F,hb,hn,cl,me⟩,a,dx,_,rfl,hat,Yqt h4,tAof.at h2 s1 λvs H2 G2 g2 r2 s2=>?_⟩;have w2:=w1.grow g2;refine⟨by rw[qr,r2.length,hl ρ ds h2],x::ds,t,G2,R',.cons (r1.mono g2.g) r2,s2.seen,w2.hw,h6,λd t' hd v H' G' af r=>?_⟩;obtain⟨H3,f3,w3⟩:=w2.after af;exact kk d t' (h7 d t' hd) v H' G' H3 f3 w3 ((g1.g.trans g2.g).trans af.g) r
end
end
section
variable {K:W.Frag}
def qB:D->Bool
 | .adr _=>true
 | d=>plB d
def HS.pl:HS->Bool
 | .bls _=>true
 | .ins _ _ _ _ _ ds=>ds.all qB
theorem Rp.q{G G':Hp}(hG:∀b ys,G b=some (HO.tup ys)->G' b=some (HO.tup ys)){d:D}{v:V}(h:qB d=true)(r:Rp K G d v):Rp K G' d v:=by
 cases d with
 | adr a=>rw[Rp]at r ⊢;exact r
 | _=>exact r.plain hG h
theorem RpL.q{G G':Hp}(hG:∀b ys,G b=some (HO.tup ys)->G' b=some (HO.tup ys)):∀{l:AQ}{xs:AN},l.all qB=true->RpL K G l xs->RpL K G' l xs
 | [],_,_,r=>by rw[RpL]at r ⊢;exact r
 | d::l,_,h,r=>by
   rw[RpL]at r ⊢;rw[List.all_cons,Qe]at h;obtain⟨x,xs,e,g,q⟩:=r;exact⟨x,xs,e,g.q hG h.1,RpL.q hG h.2 q⟩
theorem HS.ok.q{G G':Hp}(hG:∀b ys,G b=some (HO.tup ys)->G' b=some (HO.tup ys)):∀{s:HS},s.pl=true->s.ok K G->s.ok K G'
 | .bls _,_,_=>trivial
 | .ins ..,h,⟨a,b,c⟩=>⟨a,b,c.q hG h⟩
def OkC(P:Program)(w:World)(K:W.Frag)(mg:AE)(base:Heap)(k n:Nat)(c:Str)(ps:AK)(dvs:AQ)(m:Hf):Prop:=
 ∃C f fd ds vs,W.nsIn K mainGlobals c=some (some (.ref C))/\mg c=some (.ref C)/\Mk K C f/\FnOk P w K mg base CX0 k f fd ps (spH K n m)/\Binds K fd ps ds/\Vals vs ds/\∀G,RpL K G dvs vs
def y9v(c:Str)(shown:Bool)(is:AF)(dvs:AQ)(ga:AW)(m:Hf):He:=λρ t Q=>∃ds,ga (frz is ρ)=some ds/\∀x C dx,t x=none->∃R,m (.adr x::(ds++dvs)) (pt t x (some (.ins c C dx [] [] []))) R/\
 ∀d t',R d t'->(∀a s,t' a=some s->t a=some s\/s.pl=true)/\d=.non/\(shown=false->Q (.adr x) t')/\(shown=true->∃ks vs es,t' x=some (.ins c C dx ks vs es)/\Q (.obj c ks es) (pt t' x none))
section
variable {X:Cx}{e:Expr}{es:AL}{ga:AW}{p cpos:Pos}{m:Hf}
theorem y5s(shown:Bool)(is:AF){k k' n:Nat}{c:Str}{ps:AK}{dvs:AQ}(O:OkC X.prog X.w X.K X.mg X.base k (n+1) c ps dvs m)(hr:Room k' X.A)(hg:Gl X c)(ha:ZA X (e::es) ga)(hl:∀ρ ds,ga ρ=some ds->ds.length+dvs.length=n)(hk:k+1<=k':=by first|exact qu _|lia)
 (hdb:(c==("__debug__":Str))=false:=by decide) (he:starEach (e::es) X.env=(false,eval e X.env)::starEach es X.env:=by rfl) (hpl:(backTo cpos (starEach es X.env)).any (·.1)=false:=by rfl) :
 ZHE X (.Call (.Name c p) (e::es) [] cpos) (y9v c shown is dvs ga m):=by
 obtain⟨C,f,fd,dfs,dfv,hC,hm,mk,F,hb,hdv,hdd⟩:=O;refine⟨PE.imp (y77 (E:=E0) mk F (hr.mono hk) hg hm hb hdv Yuy ha.un hdb he hpl) λσ H Q hx_=>?_⟩;obtain⟨ρ,t,H0,G0,G,R,w,⟨ds,h1,h2⟩,kk⟩:=hx_;obtain⟨Hb,wb,_⟩:=w.rebase;obtain⟨Gf,sf,ht⟩:=SR.frzT is wb.sr;have smf:Same G Gf:=sf.gr.g;refine tAof.at h1 sf λvs H1 G1 g1 r1 s1=>?_;intro x dx hx0 hdx hne;have hHx:H x=none:=g1.h.free hx0;have hHdx:H dx=none:=g1.h.free hdx
 have hid1:∀a s,t a=some s->G1 a=none:=λa s e=>by
  have h3:=w.hw.h a s e
  have h4:Gf a=none:=by
   refine Classical.byContradiction λz=>?_;have:=sf.gr.n a (w.no e) z;rw[wb.h0 a s e]at this;cases this
  refine Classical.byContradiction λz=>?_;have:=g1.n a h4 z;rw[h3]at this;cases this
 have tx:t x=none:=by
  cases z:t x with
  | none=>rfl
  | some s=>rw[w.hw.h x s z]at hHx;cases hHx
 have g1x:G1 x=none:=s1.seen.free hx0;have g1dx:G1 dx=none:=s1.seen.free hdx;obtain⟨R',hi,hR⟩:=h2 x C dx tx;show spH X.K (n+1) m (.ref x::(vs++dfv)) _ _ E0;refine⟨by rw[qr,qy,r1.length,(hdd G1).length,hl _ ds h1],.adr x::(ds++dvs),_,G1,R',.cons (by rw[Rp]) (r1.append (hdd G1)),λa o ho=>?_,⟨λa s e=>?_,λa s e=>?_,λa s e=>?_⟩,hi,λd t' hd v H' G' af rd=>?_⟩
 ·have n1:a≠x:=λz=>by rw[z,g1x]at ho;cases ho
  have n2:a≠dx:=λz=>by rw[z,g1dx]at ho;cases ho
  rw[Yx n1,Yx n2];exact s1.seen a o ho
 ·by_cases z:a=x
  ·rw[z];exact g1x
  ·rw[Ybn z]at e;exact hid1 a s e
 ·by_cases z:a=x
  ·subst z
   rw[Yas]at e;cases e;rw[Yy];rfl
  ·rw[Ybn z]at e
   have h3:=g1.h _ _ (w.hw.h a s e)
   have n2:a≠dx:=λy=>by rw[y,hdx]at h3;cases h3
   rw[Yx z,Yx n2];exact h3
 ·by_cases z:a=x
  ·subst z
   rw[Yas]at e;cases e;exact⟨hC,rfl,.nil⟩
  ·rw[Ybn z]at e
   exact(w.ok a s e).mono (smf.trans g1.g)
 obtain⟨hpl,rfl,hsf,hst⟩:=hR d t' hd;rw[Rp]at rd;subst rd;refine⟨rfl,?_⟩;have at1:∀a,a≠x->pt t x (some (HS.ins c C dx [] [] [])) a=t a:=λa z=>Ybn z
 have hnew:∀a,t a=none->t' a≠none->H a=none:=λa h h'=>by
  by_cases z:a=x
  ·rw[z];exact hHx
  ·have h3:=af.new a (by rw[at1 a z];exact h) h'
   rw[Yx z]at h3;by_cases y:a=dx
   ·rw[y];exact hHdx
   ·rw[Yx y]at h3;exact g1.h.free h3
 have hgrow:∀a,t' a=none->t a=none:=λa h=>by
  have h3:=af.grow a h;by_cases z:a=x
  ·rw[z];exact tx
  ·rw[at1 a z]at h3;exact h3
 have hkeep:∀a o,t a=none->H a=some o->H' a=some o:=λa o h ho=>by
  have h3:=g1.h a o ho
  have n1:a≠x:=λz=>by rw[z,hHx]at ho;cases ho
  have n2:a≠dx:=λz=>by rw[z,hHdx]at ho;cases ho
  exact af.keep a o (by rw[at1 a n1];exact h) (by rw[Yx n1,Yx n2];exact h3)
 let G2:Hp:=λa=>if H a=none then G' a else G a
 have g2p:∀{a},H a=none->G2 a=G' a:=λh=>if_pos h;have g2n:∀{a},H a≠none->G2 a=G a:=λh=>if_neg h
 have hsm:Same G G2:=λa o ho=>by
  rw[g2n (by rw[w.sr.seen a o ho];exact λy=>nomatch y)];exact ho
 have hs2:Same G2 H':=λa o ho=>by
  by_cases z:H a=none
  ·rw[g2p z]at ho;exact af.s a o ho
  ·rw[g2n z]at ho
   have tn:t a=none:=by
    cases y:t a with
    | none=>rfl
    | some s=>rw[w.no y]at ho;cases ho
   exact hkeep a o tn (w.sr.seen a o ho)
 have tup:∀b ys,G' b=some (HO.tup ys)->G2 b=some (HO.tup ys):=λb ys hb=>by
  by_cases z:H b=none
  ·rw[g2p z];exact hb
  ·rw[g2n z]
   refine ht b ys ?_
   have hb1:G1 b=some (HO.tup ys):=by
    cases q:G1 b with
    | none=>
      have h3:=af.n b q (by rw[hb];exact λy=>nomatch y);have n1:b≠x:=λy=>z (by rw[y];exact hHx);have n2:b≠dx:=λy=>z (by rw[y];exact hHdx);rw[Yx n1,Yx n2]at h3;exact absurd (g1.h.free h3) z
    | some o=>
      have:=af.g _ _ q;rw[hb]at this;cases this;rfl
   cases q:Gf b with
   | none=>exact absurd (g1.n b q (by rw[hb1];exact λy=>nomatch y)) z
   | some o=>
     have:=g1.g _ _ q;rw[hb1]at this;cases this;rfl
 have hw2:HW X.K t' H' G2:=⟨λa s e=>by
  by_cases z:H a=none
  ·rw[g2p z];exact af.hw.g a s e
  ·rw[g2n z]
   cases y:t a with
   | none=>exact absurd (hnew a y (by rw[e];exact λq=>nomatch q)) z
   | some s'=>exact w.no y,af.hw.h,λa s e=>by
  rcases hpl a s e with h|h
  ·exact(w.ok a s h).mono hsm
  ·exact(af.hw.ok a s e).q tup h⟩
 have hn2:∀a,G a=none->G2 a≠none->H a=none:=λa h h'=>Classical.byContradiction λz=>h' (by rw[g2n z];exact h)
 cases shown with
 | false=>
   obtain⟨H3,f3,w3⟩:=w.after ⟨hkeep,hgrow,hnew,hw2,hsm,hs2,hn2⟩;exact kk _ _ (hsf rfl) _ H' G2 H3 f3 w3 hsm (by rw[Rp])
 | true=>
   obtain⟨ks,ws,es,hx,hq⟩:=hst rfl;have g2x:=hw2.g x _ hx
   have sm3:Same G2 (upd G2 x (.ins C dx (ks.zip ws))):=λa o ho=>by rw[Yx (y4 ho g2x)];exact ho
   obtain⟨o1,o2,o3⟩:=hw2.ok x _ hx
   obtain⟨H3,f3,w3⟩:=w.after (t':=pt t' x none) (H':=H') (G':=upd G2 x (.ins C dx (ks.zip ws))) ⟨hkeep,λa h=>by
    by_cases z:a=x
    ·rw[z];exact tx
    ·rw[Ybn z]at h;exact hgrow a h,λa h h'=>by
    by_cases z:a=x
    ·rw[z];exact hHx
    ·rw[Ybn z]at h';exact hnew a h h',⟨λa s e=>by
    have z:a≠x:=λz=>by rw[z,Yas]at e;cases e
    rw[Ybn z]at e
    rw[Yx z];exact hw2.g a s e,λa s e=>by
    have z:a≠x:=λz=>by rw[z,Yas]at e;cases e
    rw[Ybn z]at e
    exact hw2.h a s e,λa s e=>by
    have z:a≠x:=λz=>by rw[z,Yas]at e;cases e
    rw[Ybn z]at e
    exact(hw2.ok a s e).mono sm3⟩,hsm.trans sm3,λa o ho=>by
    by_cases z:a=x
    ·subst z
     rw[Yy]at ho;rw[<-ho];exact hw2.h a _ hx
    ·rw[Yx z]at ho;exact hs2 a o ho,λa h h'=>by
    by_cases z:a=x
    ·rw[z];exact hHx
    ·rw[Yx z]at h';exact hn2 a h h'⟩
   refine kk _ _ hq _ H' _ H3 f3 w3 (hsm.trans sm3) ?_;rw[Rp];exact⟨x,C,dx,ws,rfl,o1,Yy,o2,o3.mono sm3⟩
end
theorem Yqy{f:Str}{y:V}:∀{ks:AK}{vs:AN},f∉ks->vs.length=ks.length->putF f y (ks.zip vs)=(ks++[f]).zip (vs++[y])
 | [],[],_,_=>rfl
 | [],_::_,_,h=>nomatch h
 | _::_,[],_,h=>nomatch h
 | k::ks,v::vs,h,hl=>by
   rw[List.zip_cons_cons,List.cons_append,List.cons_append,List.zip_cons_cons];show(if k=f then _ else (k,v)::putF f y (ks.zip vs))=_;rw[if_neg λz=>h (by rw[z];exact qh),Yqy (λz=>h (qg _ z)) (by simpa using hl)]
theorem Aft.put{t:Hs}{H G:Hp}{x:Addr}{s s':HS}(w:HW K t H G)(sm:Same G H)(e:t x=some s)(ok:s'.ok K G):Aft K t (pt t x (some s')) H G (upd H x s'.ho) G:=by
 have gx:=w.g x s e;refine⟨λa o h ho=>?_,λa h=>?_,λa h h'=>?_,⟨λa s e'=>?_,λa s e'=>?_,λa s e'=>?_⟩,Same.refl _,λa o ho=>?_,λa h h'=>absurd h h'⟩
 ·have z:a≠x:=λz=>by rw[z,e]at h;cases h
  rw[Yx z];exact ho
 ·by_cases z:a=x
  ·rw[z,Yas]at h;cases h
  ·rw[Ybn z]at h;exact h
 ·by_cases z:a=x
  ·rw[z,e]at h;cases h
  ·rw[Ybn z]at h';exact absurd h h'
 ·by_cases z:a=x
  ·rw[z];exact gx
  ·rw[Ybn z]at e';exact w.g a s e'
 ·by_cases z:a=x
  ·subst z;rw[Yas]at e';cases e';exact Yy
  ·rw[Ybn z]at e';rw[Yx z];exact w.h a s e'
 ·by_cases z:a=x
  ·subst z;rw[Yas]at e';cases e';exact ok
  ·rw[Ybn z]at e';exact w.ok a s e'
 ·rw[Yx (y4 ho gx)];exact sm a o ho
def fldH(i:Nat)(f:Str)(cs:AK)(fe:AV):Hm:=λρ t Q=>∃x c C dx ks vs ds d,ρ[i]?=some (some (.sh (.adr x)))/\t x=some (.ins c C dx ks vs ds)/\c∈cs/\f∉ks/\ks.length<1000/\fe ρ=some d/\∀v,Q (.nx ρ (pt t x (some (.ins c C dx (ks++[f]) (vs++[v]) (ds++[d])))))
def fldN(i:Nat)(f:Str)(cs:AK):Hm:=λρ t Q=>∃x c C dx ks vs ds,ρ[i]?=some (some (.sh (.adr x)))/\t x=some (.ins c C dx ks vs ds)/\c∈cs/\f∉ks/\ks.length<1000/\∀l,t l=none->Q (.nx ρ (pt (pt t l (some (.bls []))) x (some (.ins c C dx (ks++[f]) (vs++[.ref l]) (ds++[.adr l])))))
def appH(i:Nat)(fe:AV):Hm:=λρ t Q=>∃b h l y k,ρ[i]?=some (some (.sh (watD b h (.adr l))))/\t l=some (.bls y)/\y.length<1000000/\fe ρ=some (.bl k)/\Q (.nx ρ (pt t l (some (.bls (y++[k])))))
section
variable {X:Cx}{e:Expr}{fe:AV}{pos p1 tpos:Pos}{f x:Str}{cs:AK}
theorem y7q{H0 G0 H G:Hp}{σ:L2.St}{ρ:Ro}{i:Nat}{a:Addr}(s:SR K H0 G0 σ H G ρ)(h:ρ[i]?=some (some (.sh (.adr a)))):σ[i]?=some (some (V.ref a)):=by
 obtain⟨v,q1,q2⟩:=s.sh i _ h;rw[Rp]at q2;rw[q1,q2]
theorem y21{ks:AK}{vs:AN}(h:vs.length=ks.length):(ks.zip vs).length=ks.length:=by
 rw[List.length_zip,h,Nat.min_self]
theorem y22(i:Nat)(hcs:∀c∈cs,CF X.K c f)(he:ZE X e fe)(hN:X.N[i]?=some x:=by rfl)(hv:Vis X.env.scope x:=by trivial)
 (hd:Ndb x:=by decide) (hcd:Ncd x:=by decide) (hs:swapsWith e (some (.Attribute (.Name x p1) f tpos)) pos.line X.env=pure false:=by rfl) :
 ZHS X (.Assign [.Attribute (.Name x p1) f tpos] e pos) (fldH i f cs fe):=⟨PS.imp (y66 (Yh7 hN hv hd hcd) he.un hs) λF σ H hx_=>by
 obtain⟨ρ,t,H0,G0,G,Q,w,⟨a,c,C,dx,ks,vs,ds,d,h1,h2,h3,h4,h5,h6,h7⟩,cc⟩:=hx_;refine tOf.at h6 w.sr λy H1 G1 g1 r1 s1=>?_;have w1:=w.grow g1;obtain⟨o1,o2,o3⟩:=w1.ok a _ h2;obtain⟨cl,na⟩:=hcs c h3 C o1;refine⟨_,y7q s1 h1,a,C,dx,_,rfl,w1.hw.h a _ h2,cl,na,by rw[y21 o2];exact h5,?_⟩
 have e1:HO.ins C dx (putF f y (ks.zip vs))=HS.ho (.ins c C dx (ks++[f]) (vs++[y]) (ds++[d])):=by rw[Yqy h4 o2];rfl
 rw[e1];obtain⟨H3,f3,w3⟩:=w1.after (Aft.put w1.hw s1.seen h2 (s':=.ins c C dx (ks++[f]) (vs++[y]) (ds++[d])) ⟨o1,by simp[o2],o3.append (.one r1)⟩)
 exact cc _ (h7 y) σ _ G1 H3 f3 w3⟩
theorem Aft.add{t:Hs}{H G:Hp}{l:Addr}{s:HS}(w:HW K t H G)(sm:Same G H)(h:H l=none)(ok:s.ok K G):Aft K t (pt t l (some s)) H G (upd H l s.ho) G:=by
 have gl:=sm.free h
 have tl:t l=none:=by
  cases z:t l with
  | none=>rfl
  | some x=>rw[w.h l x z]at h;cases h
 refine⟨λa o _ ho=>?_,λa h=>?_,λa h1 h'=>?_,⟨λa s e'=>?_,λa s e'=>?_,λa s e'=>?_⟩,Same.refl _,λa o ho=>?_,λa h h'=>absurd h h'⟩
 ·rw[Yx (y4 ho h)];exact ho
 ·by_cases z:a=l
  ·rw[z];exact tl
  ·rw[Ybn z]at h;exact h
 ·by_cases z:a=l
  ·rw[z];exact h
  ·rw[Ybn z]at h';exact absurd h1 h'
 ·by_cases z:a=l
  ·rw[z];exact gl
  ·rw[Ybn z]at e';exact w.g a s e'
 ·by_cases z:a=l
  ·subst z;rw[Yas]at e';cases e';exact Yy
  ·rw[Ybn z]at e';rw[Yx z];exact w.h a s e'
 ·by_cases z:a=l
  ·subst z;rw[Yas]at e';cases e';exact ok
  ·rw[Ybn z]at e';exact w.ok a s e'
 ·rw[Yx (y4 ho gl)];exact sm a o ho
theorem y5t(i:Nat){lp:Pos}(hcs:∀c∈cs,CF X.K c f)(hN:X.N[i]?=some x:=by rfl)(hv:Vis X.env.scope x:=by trivial)
 (hd:Ndb x:=by decide) (hcd:Ncd x:=by decide) (hs:swapsWith (.List [] lp) (some (.Attribute (.Name x p1) f tpos)) pos.line X.env=pure false:=by rfl) :
 ZHS X (.Assign [.Attribute (.Name x p1) f tpos] (.List [] lp) pos) (fldN i f cs):=⟨PS.imp (y66 (Yh7 hN hv hd hcd) (Ywy Yer) hs) λF σ H hx_=>by
 obtain⟨ρ,t,H0,G0,G,Q,w,⟨a,c,C,dx,ks,vs,ds,h1,h2,h3,h4,h5,h7⟩,cc⟩:=hx_;refine⟨jc _,λl hl=>?_⟩
 have tl:t l=none:=by
  cases z:t l with
  | none=>rfl
  | some x=>rw[w.hw.h l x z]at hl;cases hl
 obtain⟨o1,o2,o3⟩:=w.ok a _ h2;obtain⟨cl,na⟩:=hcs c h3 C o1;obtain⟨H3,f3,w3⟩:=w.after (Aft.add (s:=.bls []) w.hw w.sr.seen hl trivial)
 have hal:a≠l:=λz=>by rw[z,tl]at h2;cases h2
 have h2':pt t l (some (.bls [])) a=some (.ins c C dx ks vs ds):=by rw[Ybn hal];exact h2
 refine⟨_,y7q w3.sr h1,a,C,dx,_,rfl,w3.hw.h a _ h2',cl,na,by rw[y21 o2];exact h5,?_⟩
 have e1:HO.ins C dx (putF f (.ref l) (ks.zip vs))=HS.ho (.ins c C dx (ks++[f]) (vs++[.ref l]) (ds++[.adr l])):=by rw[Yqy h4 o2];rfl
 rw[e1];obtain⟨H4,f4,w4⟩:=w3.after (Aft.put w3.hw w3.sr.seen h2' (s':=.ins c C dx (ks++[f]) (vs++[.ref l]) (ds++[.adr l])) ⟨o1,by simp[o2],o3.append (.one (by rw[Rp]))⟩)
 exact cc _ (h7 l tl) σ _ G H4 (f3.trans f4) w4⟩
theorem y9w(i:Nat){p2 apos cpos:Pos}(k:CF X.K "Watch" "truths")(he:ZE X e fe)(hN:X.N[i]?=some x:=by rfl)(hv:Vis X.env.scope x:=by trivial)
 (hd:Ndb x:=by decide) (hcd:Ncd x:=by decide) (hse:swapsWith (.Call (.Attribute (.Attribute (.Name x p1) "truths" p2) "append" apos) [e] [] cpos) none pos.line X.env=pure false:=by rfl)
 (hs:starEach [e] X.env=[(false,eval e X.env)]:=by rfl)
 (hfew:Few X cpos [e]:=by rfl)
 (hline:(apos.endLine==cpos.line)=true:=by rfl) (hbase:attributeBase (.Attribute (.Name x p1) "truths" p2) "append" X.env (eval (.Attribute (.Name x p1) "truths" p2) X.env)=eval (.Attribute (.Name x p1) "truths" p2) X.env:=by rfl)
 (hb1:attributeBase (.Name x p1) "truths" X.env (eval (.Name x p1) X.env)=eval (.Name x p1) X.env:=by rfl) :
 ZHS X (.Expr (.Call (.Attribute (.Attribute (.Name x p1) "truths" p2) "append" apos) [e] [] cpos) pos) (appH i fe):=
 ⟨PS.imp (Ykm (Yux PySem.F.plainAttrs_list PySem.F.slot_list_append PySem.F.type_list_append Yjb (y0m (Yh7 hN hv hd hcd) hb1) (Yb7 he.un Yer hs) hbase hfew hline hs rfl) hse) λF σ H hx_=>by
  obtain⟨ρ,t,H0,G0,G,Q,w,⟨b,h,l,y,kk,h1,h2,h3,h4,h7⟩,cc⟩:=hx_;obtain⟨v,q1,q2⟩:=w.sr.sh i _ h1;rw[Rp]at q2;obtain⟨a,C,dx,xs,rfl,n,g,lx,q⟩:=q2;obtain⟨y1,y2,y3,rfl,r1,r2,r3⟩:=q.three;rw[Rp]at r3;subst r3;refine⟨_,q1,a,C,dx,_,.ref l,rfl,w.sr.seen _ _ g,(k C n).1,(k C n).2,rfl,.inl ⟨rfl,_,SqL.of (w.hw.h l _ h2)⟩,tOf.at h4 w.sr λv H1 G1 g1 rv s1=>?_⟩;rw[Rp]at rv;subst rv;have w1:=w.grow g1;refine⟨l,y.map V.bl,_,rfl,rfl,w1.hw.h l _ h2,?_,?_⟩
  ·rw[qf]
   exact Qc h3 (Yit (qu _))
  ·obtain⟨H4,f4,w4⟩:=w1.after (Aft.put w1.hw s1.seen h2 (s':=.bls (y++[kk])) trivial)
   have e2:HS.ho (.bls (y++[kk]))=HO.lst (y.map V.bl++[V.bl kk]):=by
    show HO.lst ((y++[kk]).map V.bl)=_;rw[wt];rfl
   have:=cc _ h7 σ _ G1 H4 f4 w4;rw[e2]at this
   exact this⟩
end
def y23(g:Hm):AS:=λρ=>ifP (g ρ (λ_=>none) fun
 | .rt (.bl true) _=>True
 | _=>False) (some (.rt (.bl true)))
section
variable {X:Cx}{e:Expr}{fe:He}{a b sts:List Stmt}{fs gs g:Hm}{pos cp np:Pos}
theorem y9x(h:ZHB X sts g):ZB X sts (y23 g):=⟨PSs.imp h.un λF σ H hx_=>by
 obtain⟨ρ,out,H0,G0,G,er,s,c⟩:=hx_;obtain⟨hg,er⟩:=y5o er;cases er;refine⟨ρ,λ_=>none,H0,G0,G,_,⟨s,λ_ _ e=>(nomatch (show(none:Option HS)=some _ from e)),λ_ _ e=>(nomatch (show(none:Option HS)=some _ from e)),λ_ _ e=>(nomatch (show(none:Option HS)=some _ from e))⟩,hg,λo ho=>?_⟩
 split at ho
 ·exact λv H' G' H1 f1 w1 r1=>by
   have af:=w1.aft f1 rfl;exact c v H' G' ⟨λa o e=>af.keep a o rfl e,af.g,af.s,af.n⟩ r1
 ·exact ho.elim⟩
end
end
section
variable {K:W.Frag}
def IsK(K:W.Frag)(c0 c:Str)(b:Bool):Prop:=∃C C0,W.nsIn K mainGlobals c=some (some (.ref C))/\W.nsIn K mainGlobals c0=some (some (.ref C0))/\Cls K C/\W.findIn K (.ref C) "__class__"=some (some (.builtin "object.__class__"))/\
 W.specialIn K (.builtin "object.__class__") "__get__"=some (some (.builtin "getset_descriptor.__get__"))/\W.takesIn K (.builtin "object.__class__")=some true/\W.mroIn K C (.type "object")=some true/\W.kitOne K (.ref C) (.ref C0)=some b
theorem isk_mk{c0 c:Str}{b:Bool}{C C0:Addr}(a:W.nsIn K mainGlobals c=some (some (.ref C)))(a0:W.nsIn K mainGlobals c0=some (some (.ref C0)))(pg:W.plainGet K C Str.empty=true)(hd:W.hasDictIn K C=true)(po:W.plainOver K C=true)(sa:W.findIn K (.ref C) "__setattr__"=some (some (.builtin "object.__setattr__")))
 (e:W.findIn K (.ref C) "__class__"=some (some (.builtin "object.__class__"))) (f:W.specialIn K (.builtin "object.__class__") "__get__"=some (some (.builtin "getset_descriptor.__get__"))) (g:W.takesIn K (.builtin "object.__class__")=some true) (m:W.mroIn K C (.type "object")=some true) (k:W.kitOne K (.ref C) (.ref C0)=some b):IsK K c0 c b:=⟨C,C0,a,a0,⟨pg,hd,po,sa⟩,e,f,g,m,k⟩
section
variable {X:Cx}{a:Expr}{fa:AV}{pos p p2:Pos}{c0:Str}
theorem y5u{P:Program}{w:World}{mg:AE}{base:Heap}{j k:Nat}{c m:Str}{ps:AK}{sp:Sp}(O:Okm P w K mg base j c m ps sp)(h:j<=k:=by decide):Okm P w K mg base k c m ps sp:=by
 obtain⟨C,f,fd,F,r⟩:=O;exact⟨C,f,fd,F.mono h,r⟩
end
def Iqc(K:W.Frag)(c q:Str)(st:Stmt):Prop:=∃C f fd,W.nsIn K mainGlobals c=some (some (.ref C))/\Mk K C f/\Fun K "__init__" q st f fd
theorem iqc_mk{c q:Str}{st:Stmt}{C f:Addr}{oc:Value}{od an:Option Addr}{osl:Array (Option Value)}{kV doc pm cdv ct:Value}(a:W.nsIn K mainGlobals c=some (some (.ref C)))(mk:W.makesIn K C=true)(kc:W.keepIn K (.ref C)=true)
 (i:W.findIn K (.ref C) "__init__"=some (some (.ref f))) (n:W.isFn K (.ref f)=true) (l:K.lookup f=some ⟨oc,od,.func (W.fnOf "__init__" q (defArgs st) (defBody st) (defScope st) .none kV doc pm an cdv ct),osl⟩) (cd:W.codeIn K cdv q=true) (k:W.keepIn K (.ref f)=true):Iqc K c q st:=
 ⟨C,f,_,a,⟨mk,i,n,kc⟩,Yss l cd k⟩
structure FunZ(K:W.Frag)(x q:Str)(st:Stmt)(f:Addr)(fd:FuncData)(T:Addr)(t:Tok):Prop where
 ex:∃(oc:Value) (od:Option Addr) (kV doc pm:Value) (an:Option Addr) (cdv ct:Value) (osl:Array (Option Value)),
  fd=W.fnOf x q (defArgs st) (defBody st) (defScope st) (.ref T) kV doc pm an cdv ct/\K.lookup f=some ⟨oc,od,.func fd,osl⟩/\W.codeIn K cdv q=true
 df:∃(oc:Value) (od:Option Addr) (n:Nat) (osl:Array (Option Value)),K.lookup T=some ⟨oc,od,.seq #[.int 0 t] n,osl⟩
def Iqz(K:W.Frag)(c q:Str)(st:Stmt):Prop:=∃C f fd T t,W.nsIn K mainGlobals c=some (some (.ref C))/\Mk K C f/\FunZ K "__init__" q st f fd T t
theorem iqz_mk{c q:Str}{st:Stmt}{C f T:Addr}{oc oc':Value}{od od' an:Option Addr}{osl osl':Array (Option Value)}{kV doc pm cdv ct:Value}{t:Tok}{n':Nat}(a:W.nsIn K mainGlobals c=some (some (.ref C)))(mk:W.makesIn K C=true)(kc:W.keepIn K (.ref C)=true)
 (i:W.findIn K (.ref C) "__init__"=some (some (.ref f))) (n:W.isFn K (.ref f)=true) (l:K.lookup f=some ⟨oc,od,.func (W.fnOf "__init__" q (defArgs st) (defBody st) (defScope st) (.ref T) kV doc pm an cdv ct),osl⟩) (cd:W.codeIn K cdv q=true) (d:K.lookup T=some ⟨oc',od',.seq #[.int 0 t] n',osl'⟩):Iqz K c q st:=
 ⟨C,f,_,T,t,a,⟨mk,i,n,kc⟩,⟨_,_,_,_,_,_,_,_,_,rfl,l,cd⟩,_,_,_,_,d⟩
section
variable {P:Program}{w:World}{mg:AE}{base:Heap}
theorem okmh{c x q:Str}{st:Stmt}{k n m:Nat}{N ps:AK}{g:Hm}(F:Mq K c x q st)(S:FnScope N ps (defScope st))(hb:∀{f:Addr}{cdv:Value}{A:Around}{outer:List Env}{s:Shared}{H:Hp}{E:XK},Room k (A.deeper (envOfC q (defScope st) (~~~s) f cdv))->ZHB (cxOf CX0 P w K mg base N q (defScope st) f cdv A outer s H E).nox (defBody st) g)(hn:N.length=n:=by rfl)(hm:ps.length=m:=by rfl)
 (B:Bnm x q st ps:=by(intro _ _ _ _ _ _ us hl;first|(obtain⟨_,rfl⟩:=len1 hl;rfl)|(obtain⟨_,_,rfl⟩:=len2 hl;rfl)|(obtain⟨_,_,_,rfl⟩:=len3 hl;rfl))):Okm P w K mg base (k+1) c x ps (spH K m (runH n g)):=by
 obtain⟨C,f,fd,a,cl,me,fu⟩:=F;exact⟨C,f,fd,Yvp (k:=k) fu S hn hm λ_ _ _ _ _ _ hr=>hb hr,fu.binds B,a,cl,me⟩
theorem okch{c q:Str}{st:Stmt}{k n m:Nat}{N ps:AK}{g:Hm}(F:Iqc K c q st)(hW:∀C,W.nsIn K mainGlobals c=some (some (.ref C))->mg c=some (.ref C))(S:FnScope N ps (defScope st))(hb:∀{f:Addr}{cdv:Value}{A:Around}{outer:List Env}{s:Shared}{H:Hp}{E:XK},Room k (A.deeper (envOfC q (defScope st) (~~~s) f cdv))->ZHB (cxOf CX0 P w K mg base N q (defScope st) f cdv A outer s H E).nox (defBody st) g)(hn:N.length=n:=by rfl)(hm:ps.length=m:=by rfl)
 (B:Bnm "__init__" q st ps:=by(intro _ _ _ _ _ _ us hl;first|(obtain⟨_,_,rfl⟩:=len2 hl;rfl)|(obtain⟨_,_,_,rfl⟩:=len3 hl;rfl))):OkC P w K mg base (k+1) m c ps [] (runH n g):=by
 obtain⟨C,f,fd,a,mk,fu⟩:=F;exact⟨C,f,fd,[],[],a,hW C a,mk,Yvp (k:=k) fu S hn hm λ_ _ _ _ _ _ hr=>hb hr,fu.binds B,.nil,λG=>.nil⟩
end
def Kq(K:W.Frag)(c f q:Str)(st:Stmt):Prop:=∃C a fd mc,W.nsIn K mainGlobals c=some (some (.ref C))/\Fun K f q st a fd/\W.specialIn K (.ref C) "__getattribute__"=some (some (.builtin "type.__getattribute__"))/\W.readsIn K C mc=true/\W.findCls K (.ref C) mc f=some (.val (.ref a))/\W.handedIn (.ref a)=true
theorem kq_mk{c f q:Str}{st:Stmt}{C a:Addr}{mc:Value}{oc:Value}{od an:Option Addr}{osl:Array (Option Value)}{kV doc pm cdv ct:Value}(e:W.nsIn K mainGlobals c=some (some (.ref C)))(i:W.findIn K (.ref C) f=some (some (.ref a)))(l:K.lookup a=some ⟨oc,od,.func (W.fnOf f q (defArgs st) (defBody st) (defScope st) .none kV doc pm an cdv ct),osl⟩)(cd:W.codeIn K cdv q=true)(k:W.keepIn K (.ref a)=true)
 (s:W.specialIn K (.ref C) "__getattribute__"=some (some (.builtin "type.__getattribute__"))) (r:W.readsIn K C mc=true) (g:W.findCls K (.ref C) mc f=some (.val (.ref a))) (h:W.handedIn (.ref a)=true):Kq K c f q st:=⟨C,a,_,mc,e,Yss l cd k,s,r,g,h⟩
end
section
variable {K:W.Frag}
def y24(c m:Str)(fn:Hf)(fo:AV):He:=λρ t Q=>∃ks vs R,fo ρ=some (.obj c ks vs)/\m∉ks/\fn [.obj c ks vs] t R/\∀d t',R d t'->Q d t'
def popH(i:Nat):Hm:=λρ t Q=>∃b h l y k,ρ[i]?=some (some (.sh (watD b h (.adr l))))/\t l=some (.bls (y++[k]))/\Q (.rt (.bl k) (pt t l (some (.bls y))))
def neH(fe:He)(fb:AV)(fc:Ro->Hs->Option Bool)(fs gs:Hm):Hm:=λρ t Q=>fe ρ t λd t'=>∃d2 k,fb ρ=some d2/\eqM true d d2=some k/\(k=true->fs ρ t' Q)/\(k=false->ifH fc fs gs ρ t' Q)
section
variable {X:Cx}{o e c:Expr}{fo fb:AV}{fe:He}{fs gs:Hm}{pos apos cpos p1 p2:Pos}{m x cc:Str}
theorem Yta{j k:Nat}{ps:AK}{fn:Hf}{pl:Sem Bool}(O:Okm X.prog X.w X.K X.mg X.base j cc m ps (spH X.K 1 fn))(hr:Room k X.A)(ho:ZE X o fo)(hj:j<=k:=by first|exact qu _|lia)
 (ht:eval (.Call (.Attribute o m apos) [] [] pos) X.env=(do
  let ov <-eval o X.env
  standAt apos.atName
  let (f,first) <-holding [ov] (getMethod ov m pl)
  callWith pos f first (backTo pos (starEach [] X.env)) (backToKw pos (keywordEach [] X.env))):=by rfl):ZHE X (.Call (.Attribute o m apos) [] [] pos) (y24 cc m fn fo):=by
 obtain⟨C,f,fd,F,hb,hn,cl,me⟩:=O;refine⟨PE.imp (Yw0 (E:=E0) ho.un cl me F (hr.mono hj) hb .nil Yuy ht) λσ H Q hx_=>?_⟩;obtain⟨ρ,t,H0,G0,G,R,w,⟨ks,vs,R',h1,h2,h3,h4⟩,kk⟩:=hx_;refine tOf.at h1 w.sr λv H1 G1 g1 r1 s1=>?_;have w1:=w.grow g1;have r1':=r1;rw[Rp]at r1';obtain⟨a,C',dx,xs,rfl,n,g,l,q⟩:=r1';rw[hn]at n;cases n;refine⟨a,dx,_,rfl,s1.seen _ _ g,Yqt h2,?_⟩;refine⟨rfl,[.obj cc ks vs],t,G1,R',.one r1,s1.seen,w1.hw,h3,λd t' hd v H' G' af r=>?_⟩;obtain⟨H3,f3,w3⟩:=w1.after af;exact kk d t' (h4 d t' hd) v H' G' H3 f3 w3 (g1.g.trans af.g) r
theorem y5v{y:AH}{k:Bool}:((y++[k]).map V.bl)[((y++[k]).map V.bl).length-1]?=some (V.bl k):=by simp
theorem y5w{y:AH}{k:Bool}:((y++[k]).map V.bl).dropLast=y.map V.bl:=by simp
theorem Yzj(i:Nat)(k:CF X.K "Watch" "truths")(hN:X.N[i]?=some x:=by rfl)(hv:Vis X.env.scope x:=by trivial)
 (hd:Ndb x:=by decide) (hcd:Ncd x:=by decide)
 (hline:(apos.endLine==cpos.line)=true:=by rfl) (hbase:attributeBase (.Attribute (.Name x p1) "truths" p2) "pop" X.env (eval (.Attribute (.Name x p1) "truths" p2) X.env)=eval (.Attribute (.Name x p1) "truths" p2) X.env:=by rfl)
 (hb1:attributeBase (.Name x p1) "truths" X.env (eval (.Name x p1) X.env)=eval (.Name x p1) X.env:=by rfl) :
 ZHS X (.Return (some (.Call (.Attribute (.Attribute (.Name x p1) "truths" p2) "pop" apos) [] [] cpos)) pos) (popH i):=
 ⟨PS.imp (y0a (Yabp PySem.F.plainAttrs_list PySem.F.slot_list_pop PySem.F.type_list_pop Yabq (y0m (Yh7 hN hv hd hcd) hb1) hbase hline)) λF σ H hx_=>by
  obtain⟨ρ,t,H0,G0,G,Q,w,⟨b,h,l,y,kk,h1,h2,h7⟩,c⟩:=hx_;obtain⟨v,q1,q2⟩:=w.sr.sh i _ h1;rw[Rp]at q2;obtain⟨a,C,dx,xs,rfl,n,g,lx,q⟩:=q2;obtain⟨y1,y2,y3,rfl,r1,r2,r3⟩:=q.three;rw[Rp]at r3;subst r3;refine⟨_,q1,a,C,dx,_,.ref l,rfl,w.sr.seen _ _ g,(k C n).1,(k C n).2,rfl,.inl ⟨rfl,_,SqL.of (w.hw.h l _ h2)⟩,l,_,.bl kk,rfl,rfl,w.hw.h l _ h2,y5v,?_⟩;obtain⟨H4,f4,w4⟩:=w.after (Aft.put w.hw w.sr.seen h2 (s':=.bls y) trivial);have:=c _ h7 (.bl kk) _ G H4 f4 w4.bare (by rw[Rp])
  have e2:HS.ho (.bls y)=HO.lst ((((y++[kk]).map V.bl)).dropLast):=by rw[y5w];rfl
  rw[e2]at this
  exact this⟩
theorem y5x{a b:List Stmt}{fc:Ro->Hs->Option Bool}{cp bp:Pos}(hu:X.A.units+64<cLine)(h:ZHE X o fe)(hb:ZE X e fb)(hc:ZHT X c fc)(ha:ZHB X a fs)(he:ZHB X b gs):ZHS X (.If (.BoolOp .Or [.Compare o [.NotEq] [e] cp,c] bp) a b pos) (neH fe fb fc fs gs):=
 ⟨PS.imp (y4a (Yaa3 (Yp5 (y06 hu) h.un hb.un (Yeq _)) (y61 hc.un)).pt ha.un he.un) λF σ H hx_=>by
  obtain⟨ρ,t,H0,G0,G,Q,w,q,c⟩:=hx_;refine⟨ρ,t,H0,G0,G,_,w,q,λd t' hq v H' G' H1 f1 w1 s1 r1=>?_⟩;obtain⟨d2,k,e1,e2,ht,hf⟩:=hq;refine tOf.at e1 w1.sr λv2 H2 G2 g2 r2 s2=>?_;have w2:=w1.grow g2;refine Ymk v v2 d d2 k H2 G2 _ e2 s2.seen (Ct.of s2.seen (r1.mono g2.g)) (Ct.of s2.seen r2) ⟨k,rfl,?_⟩
  cases k with
  | true=>exact iteT (iteT ⟨ρ,t',H1,G0,G2,Q,w2,ht rfl,λo ho=>(c o ho).off f1⟩)
  | false=>
    refine iteF ?_;obtain⟨k2,e3,ht2,hf2⟩:=hf rfl;refine⟨ρ,t',k2,H1,G0,G2,e3,w2,λH3 G3 g3=>?_⟩
    cases k2 with
    | true=>exact iteT ⟨ρ,t',H1,G0,G3,Q,w2.grow g3,ht2 rfl,λo ho=>(c o ho).off f1⟩
    | false=>exact iteF ⟨ρ,t',H1,G0,G3,Q,w2.grow g3,hf2 rfl,λo ho=>(c o ho).off f1⟩⟩
theorem y9y{a:List Stmt}{h0:ExceptHandler}{hs:List ExceptHandler}(hx:∀e s,X.xe e s->False)(h:ZHB X a fs):ZHS X (.Try a (h0::hs) [] [] pos) fs:=
 ⟨λpins s σ H D I q=>wpAny_Try_except (wz (h.un pins s σ H D I q) (λf s1 z=>by
  cases f with
  | next=>exact wpAny_execs_nil z
  | _=>exact z) λe s1 z=>(hx e s1 z).elim)⟩
end
end
section
theorem Ym3(s:String):PyData.strOk (Str.ofString s)=true:=by
 rw[Str.ofString_eq_toList];unfold PyData.strOk;simp only[List.all_toArray,List.all_map,List.all_eq_true,Function.comp_apply,wm];intro c _;have h:=c.valid;have e:c.toNat=c.val.toNat:=rfl;rcases h with h|h
 ·have h:c.val.toNat<0xd800:=h
  lia
 ·have h2:c.val.toNat<0x110000:=h.2
  lia
theorem Ypn(a b:Str):PyData.strOk (a++b)=(PyData.strOk a&&PyData.strOk b):=by
 show(a.cps++b.cps).all _=_;unfold PyData.strOk;rw[Array.all_append]
theorem y25{sep:Str}(hs:PyData.strOk sep=true):∀(l:AK) (acc:Array Nat),PyData.strOk ⟨acc⟩=true->(∀x∈l,PyData.strOk x=true)->PyData.strOk ⟨l.foldl (λacc p=>acc++sep.cps++p.cps) acc⟩=true
 | [],_,h,_=>h
 | x::l,acc,h,hl=>by
   rw[List.foldl_cons];refine y25 hs l _ ?_ λy hy=>hl y (.tail _ hy);have e:PyData.strOk ⟨acc++sep.cps++x.cps⟩=PyData.strOk (((⟨acc⟩:Str)++sep)++x):=rfl;rw[e,Ypn,Ypn,h,hs,hl x (.head _)];rfl
theorem y9z{sep:Str}(hs:PyData.strOk sep=true){l:AK}(hl:∀x∈l,PyData.strOk x=true):PyData.strOk (Txt.join sep l)=true:=by
 cases l with
 | nil=>show PyData.strOk ⟨Str.empty.cps⟩=true;decide +kernel
 | cons x l=>exact y25 hs l x.cps (hl x (.head _)) λy hy=>hl y (.tail _ hy)
theorem y26(a b:Str):(a++b).length=a.length+b.length:=by
 show(a.cps++b.cps).size=_;rw[Array.size_append];rfl
theorem Yxr{sep:Str}:∀(l:AK) (acc:Array Nat),(l.foldl (λacc p=>acc++sep.cps++p.cps) acc).size=acc.size+(l.map λx:Str=>sep.length+x.length).sum
 | [],_=>by simp
 | x::l,acc=>by
   rw[List.foldl_cons,Yxr l];simp[Str.length];lia
theorem Yjv(sep:Str)(l:AK):(Txt.join sep l).length<=(l.map λx:Str=>sep.length+x.length).sum:=by
 cases l with
 | nil=>exact jc _
 | cons x l=>
   show(l.foldl (λacc p=>acc++sep.cps++p.cps) x.cps).size<=_;rw[Yxr];simp[Str.length]
theorem Ytb(sep:Str):∀(l:AK) (n:Nat),l.foldl (fun(a:Nat) (s:Str)=>a+s.length+sep.length) n=n+(l.map λx:Str=>sep.length+x.length).sum
 | [],n=>by simp
 | x::l,n=>by
   rw[List.foldl_cons,Ytb sep l];simp;lia
theorem y27{sep:Str}{l:AK}(h:(l.map λx:Str=>sep.length+x.length).sum<=16000000):JoinOk sep l=true:=by
 unfold JoinOk;rw[Bool.not_eq_true'];unfold Builtin.Str.tooLong;rw[List.foldl_toArray,Ytb];have:=jj;simp;lia
def strC:AQ->Option D
 | [.int i]=>if i.natAbs<2^64 then some (.str (Str.ofString (toString i)))else none
 | _=>none
def Ytc:AQ->Option AK
 | []=>some []
 | .str x::l=>(Ytc l).map (x::·)
 | _=>none
def Yg5(sep:Str):AQ->Option D
 | [.lst l]=>(Ytc l).bind λxs=>if JoinOk sep xs=true then some (.str (Txt.join sep xs))else none
 | _=>none
def fsD(x:Str):D->Option D
 | .int i=>if i.natAbs<2^64/\(x++Str.ofString (toString i)).length<=1000000 then some (.str (x++Str.ofString (toString i)))else none
 | _=>none
def addS:D->D->Option D
 | .str a,.str b=>if a.length+b.length<=1000000 then some (.str (a++b))else none
 | _,_=>none
def ixS:D->D->Option D
 | .str z,.int i=>if z.length<=1000000 then (atI z.cps.toList i).map λc=>.str ⟨#[c]⟩else none
 | _,_=>none
theorem Ytd{i:Int}(h:i.natAbs<2^64):i.natAbs.log2<1920:=by
 by_cases h0:i.natAbs=0
 ·rw[h0];decide
 ·exact Nat.lt_trans ((Nat.log2_lt h0).mpr h) (by decide)
section
variable {K:W.Frag}{X:Cx}{e a b:Expr}{fa fb:AV}{ga:AW}{pos cpos apos p p2:Pos}
theorem Yjw:SemC K (λxs H Q=>∃i,xs=[.int i]/\i.natAbs.log2<1920/\Q (.str (Str.ofString (toString i))) H) strC:=by
 intro vs ds d H G Q h s r q
 match ds,h,r with
 | [.int i],h,r=>
   change (if i.natAbs<2^64 then some (D.str (Str.ofString (toString i)))else none)=some d at h
   by_cases hi:i.natAbs<2^64
   ·rw[if_pos hi]at h
    cases h;obtain⟨v,rfl,rv⟩:=Yci r;rw[Ct]at rv;subst rv;exact⟨i,rfl,Ytd hi,q _ H G (.refl s) (by rw[Rp];exact⟨rfl,Ym3 _⟩)⟩
   ·rw[if_neg hi]at h
    cases h
theorem y5y:Sem2 K (λx y H Q=>∃i j,x=.str i/\y=.str j/\i.length+j.length<=sizeLine/\Q (.str (i++j)) H) addS:=by
 intro x y dx dy d H G Q h s rx ry q
 match dx,dy,h,rx,ry with
 | .str a,.str b,h,rx,ry=>
   change (if a.length+b.length<=1000000 then some (D.str (a++b))else none)=some d at h
   by_cases hi:a.length+b.length<=1000000
   ·rw[if_pos hi]at h
    cases h;rw[Ct]at rx ry;have:=jj;exact⟨a,b,rx.1,ry.1,by lia,q _ H G (.refl s) (by rw[Rp];exact⟨rfl,by rw[Ypn,rx.2,ry.2];rfl⟩)⟩
   ·rw[if_neg hi]at h
    cases h
theorem y90:Sem2 K rIxS ixS:=by
 intro x y dx dy d H G Q h s rx ry q
 match dx,dy,h,rx,ry with
 | .str z,.int i,h,rx,ry=>
   change (if z.length<=1000000 then (atI z.cps.toList i).map λc=>D.str ⟨#[c]⟩else none)=some d at h
   by_cases hi:z.length<=1000000
   ·rw[if_pos hi]at h
    obtain⟨c,hc,rfl⟩:=qc h;rw[Ct]at rx;rw[Ct]at ry;have:=jj
    have hok:PyData.strOk ⟨#[c]⟩=true:=by
     have hm:c∈z.cps.toList:=by
      unfold atI at hc;obtain⟨j,_,hj⟩:=qa hc;exact List.mem_of_getElem? hj
     have h2:=rx.2;unfold PyData.strOk at h2 ⊢;rw[Array.all_eq_true']at h2;have:=h2 c (Array.mem_toList_iff.mp hm);simpa using this
    exact⟨z,i,c,rx.1,ry,by lia,hc,q _ H G (.refl s) (by rw[Rp];exact⟨rfl,hok⟩)⟩
   ·rw[if_neg hi]at h
    cases h
theorem Yk1:∀{l:AQ}{ts:AK},Ytc l=some ts->l=ts.map D.str
 | [],ts,h=>by cases h;rfl
 | d::l,ts,h=>by
   cases d with
   | str x=>
     obtain⟨ts',h1,rfl⟩:=qc h;rw[Qa,<-Yk1 h1]
   | _=>cases h
@[simp] theorem Ym4:∀ts:AK,Ytc (ts.map D.str)=some ts
 | []=>rfl
 | x::ts=>by
   rw[Qa,Ytc,Ym4 ts];rfl
theorem Yqz{G:Hp}:∀{ts:AK}{xs:AN},RpL K G (ts.map D.str) xs->xs=ts.map V.str/\∀x∈ts,PyData.strOk x=true
 | [],xs,r=>by
   rw[List.map_nil,RpL]at r;exact⟨r,λ_ h=>nomatch h⟩
 | t::ts,xs,r=>by
   rw[Qa,RpL]at r;obtain⟨x,xr,rfl,rx,rr⟩:=r;rw[Rp]at rx;obtain⟨h1,h2⟩:=Yqz rr
   exact⟨by rw[rx.1,h1];rfl,λy hy=>by
    rcases qt hy with rfl|hy
    ·exact rx.2
    ·exact h2 y hy⟩
def Yafp(K:W.Frag):V->AN->Hp->VK->Prop:=λx xs H Q=>∃sep a ts,x=.str sep/\xs=[.ref a]/\SqL K H a (ts.map V.str)/\JoinOk sep ts=true/\Q (.str (Txt.join sep ts)) H
theorem Yte:∀{ts:AK}{its:AC},Vals (ts.map V.str) its->∃l:List (Str×Tok),its=strValues l/\l.map (·.1)=ts
 | [],its,r=>by cases r;exact⟨[],rfl,rfl⟩
 | t::ts,its,r=>by
   cases r with
   | cons r1 r2=>
     obtain⟨tk,rfl⟩:=r1;obtain⟨l,h1,h2⟩:=Yte r2;exact⟨(t,tk)::l,by rw[h1];rfl,by rw[Qa,h2]⟩
theorem y91:MtR X "str.join" (Yafp X.K):=by
 intro pins s σ H x xs v us Q I rx r h;obtain⟨sep,a,ts,rfl,rfl,hq,hok,q⟩:=h;obtain⟨tk,rfl⟩:=rx;obtain⟨u,rfl,ru⟩:=Yfj r;cases ru;obtain⟨its,rv,pl,hz⟩:=I.list hq;obtain⟨l,rfl,hl⟩:=Yte rv
 exact SC.join pl.isList hl hok λt' k=>⟨.str _,H,I.tok k,⟨_,rfl⟩,q⟩
theorem Yey{sep:Str}{j}(ha:ZCA X [e] ga)(hx:PyData.strOk sep=true:=by decide +kernel)
 (hbase:attributeBase (.Constant (.str sep) j p) "join" X.env (eval (.Constant (.str sep) j p) X.env)=eval (.Constant (.str sep) j p) X.env:=by rfl)
 (hfew:((backTo cpos (starEach [e] X.env)).all (λx=>!x.1)&&(backToKw cpos (keywordEach [] X.env)).all (λx=>x.1.isSome)
  &&decide ([e].length+([]:List Keyword).length+(if ([]:List Keyword).isEmpty then 0 else 1)<30))=true:=by rfl)
 (hline:(apos.endLine==cpos.line)=true:=by rfl) (hs:starEach [e] X.env=(false,eval e X.env)::starEach [] X.env:=by rfl) (hplain:(backTo cpos (starEach [] X.env)).any (·.1)=false:=by rfl) :
 ZE X (.Call (.Attribute (.Constant (.str sep) j p) "join" apos) [e] [] cpos) (cC ga (Yg5 sep)):=⟨have ha:=ha.un;
 PE.imp (Yux F.plainAttrs_str F.slot_str_join F.type_str_join y91 Yz9 ha hbase hfew hline hs hplain) λσ H Q ⟨ρ,d,H0,G0,G,e,s,h⟩=>by
  unfold cC at e;obtain⟨ds,h1,e⟩:=qa e;refine⟨rfl,tCAof.at h1 s λvs H1 G1 g1 r1 s1=>?_⟩;unfold Yg5 at e
  split at e
  case h_2=>cases e
  rename_i l;obtain⟨ts,h2,e⟩:=qa e;by_cases hok:JoinOk sep ts=true
  ·rw[if_pos hok]at e
   cases e;obtain⟨v,rfl,rv⟩:=Yci r1;rw[Ct]at rv;obtain⟨a,xs,rfl,hq,rl⟩:=rv;rw[Yk1 h2]at rl;obtain⟨rfl,hoks⟩:=Yqz rl;exact⟨sep,a,ts,rfl,rfl,.inl hq,hok,h _ H1 G1 g1 (by rw[Rp];exact⟨rfl,y9z hx hoks⟩)⟩
  ·rw[if_neg hok]at e
   cases e⟩
theorem y7r{x:Str}{j}(ha:ZC X e fa)(hx:PyData.strOk x=true:=by decide +kernel)(hxl:x.length<=1000:=by decide +kernel) :
 ZE X (.JoinedStr [.Constant (.str x) j p,.FormattedValue e (-1) none p2] pos) (b1 fa (fsD x)):=⟨have ha:=ha.un;by
 intro pins s σ H Q I hq;obtain⟨ρ,d,H0,G0,G,er,sr,h⟩:=hq;obtain⟨y,h1,h2⟩:=Yaw er;have hsz:=jj
 have hem:(Str.empty++x:Str)=x:=by
  show(⟨Str.empty.cps++x.cps⟩:Str)=x;have:Str.empty.cps=#[]:=rfl;rw[this,Array.empty_append]
 refine wpAny_JoinedStr ?_;show wpAny (model X.prog X.w) X.A (eval (.Constant (.str x) j p) X.env) _ X.xe s;refine Calls.Constant_str ⟨x,_,rfl,by rw[hem];lia,?_⟩;rw[hem];show wpAny (model X.prog X.w) X.A (eval (.FormattedValue e (-1) none p2) X.env) _ X.xe _;refine wpAny_FormattedValue_plain (thn (ha pins _ σ H _ (I.tok _) (tCof.at h1 sr λv H1 G1 g1 r1 s1=>(⟨G1,g1,r1⟩:∃G1,Gr H G H1 G1/\Ct X.K G1 H1 y v))) λu s2 hx2=>?_);obtain⟨v,H2,I2,rv,G2,g2,r2⟩:=hx2
 cases y with
 | int i=>
   change (if i.natAbs<2^64/\(x++Str.ofString (toString i)).length<=1000000 then some (D.str (x++Str.ofString (toString i)))else none)=some d at h2
   by_cases hi:i.natAbs<2^64/\(x++Str.ofString (toString i)).length<=1000000
   ·rw[if_pos hi]at h2
    cases h2;rw[Ct]at r2;subst r2;obtain⟨t,rfl⟩:=rv;refine wpAny_formatField_int (Ytd hi.1) ⟨_,_,rfl,by lia,?_⟩;exact⟨by lia,.str _,H2,(I2.tok _),⟨_,rfl⟩,h _ H2 G2 g2 (by rw[Rp];exact⟨rfl,by rw[Ypn,hx,Ym3];rfl⟩)⟩
   ·rw[if_neg hi]at h2
    cases h2
 | _=>cases h2⟩
theorem y5z(ha:ZC X a fa)(hb:ZC X b fb):ZE X (.BinOp a .Add b pos) (b2 fa fb addS):=⟨have ha:=ha.un;have hb:=hb.un;Ypi Yyq y5y ha hb⟩
theorem Yq0(ha:ZC X a fa)(hb:ZC X b fb)(hs:Yip b):ZE X (.Subscript a b pos) (b2 fa fb ixS):=⟨have ha:=ha.un;have hb:=hb.un;Yabx y68 y90 ha hb hs⟩
end
theorem nrT{α:Sort _}{a b:α}(h:a=b):a=b:=h
theorem y50(i:Int):strC [.int i]=if i.natAbs<2^64 then some (.str (Str.ofString (toString i)))else none:=nrT rfl
theorem y28(sep:Str)(l:AQ):Yg5 sep [.lst l]=(Ytc l).bind λxs=>if JoinOk sep xs=true then some (.str (Txt.join sep xs))else none:=nrT rfl
theorem y94(x:Str)(i:Int):fsD x (.int i)=if i.natAbs<2^64/\(x++Str.ofString (toString i)).length<=1000000 then some (.str (x++Str.ofString (toString i)))else none:=nrT rfl
theorem y51(a b:Str):addS (.str a) (.str b)=if a.length+b.length<=1000000 then some (.str (a++b))else none:=nrT rfl
end
section
section
variable {X:Cx}{pos:Pos}
def Yxs(i j k m:Nat):AT:=λd ρ=>match d with
 | .lst [a,b,c,q]=>some ((((ρ.set i (some (.sh a))).set j (some (.sh b))).set k (some (.sh c))).set m (some (.sh q)))
 | _=>none
theorem y29(i j k m:Nat){x y z z':Str}{px py pz pz':Pos}{n:Nat}(hc:X.calm=true)(hN:X.N.Nodup)(hi:X.N[i]?=some x:=by rfl)(hj:X.N[j]?=some y:=by rfl)(hk:X.N[k]?=some z:=by rfl)(hm:X.N[m]?=some z':=by rfl)(hx:Loc X.env.scope x:=by trivial)(hy:Loc X.env.scope y:=by trivial)(hz:Loc X.env.scope z:=by trivial)(hz':Loc X.env.scope z':=by trivial)
 (hf:X.fn x=true\/X.env.scope.names.lookup x=some .local:=by trivial) (hf2:X.fn y=true\/X.env.scope.names.lookup y=some .local:=by trivial) (hf3:X.fn z=true\/X.env.scope.names.lookup z=some .local:=by trivial) (hf4:X.fn z'=true\/X.env.scope.names.lookup z'=some .local:=by trivial):ZG X (.Tuple [.Name x px,.Name y py,.Name z pz,.Name z' pz'] n pos) (Yxs i j k m):=⟨
 PG.imp (y9r (n:=4) hc (Yhl (Yio hN hi hx hf) (Yhl (Yio hN hj hy hf2) (Yhl (Yio hN hk hz hf3) (Yhl (Yio hN hm hz' hf4) y0b))))) λv σ H Q hx_=>by
  obtain⟨d,ρ,ρ',H0,G0,G,e,s,r,h⟩:=hx_
  match d,e,r with
  | .lst [a,b,c,q],e,r=>
    cases e;rw[Rp]at r;obtain⟨p,xs,rfl,g,rl⟩:=r;rw[RpL]at rl;obtain⟨u,us,rfl,ru,rl⟩:=rl;rw[RpL]at rl;obtain⟨w,ws,rfl,rw',rl⟩:=rl;rw[RpL]at rl;obtain⟨w2,ws2,rfl,rw2,rl⟩:=rl;obtain⟨t,rfl,rt⟩:=Ykq rl
    exact⟨p,[u,w,w2,t],rfl,.inl (Yba s.seen g),rfl,u,[w,w2,t],rfl,w,[w2,t],rfl,w2,[t],rfl,t,[],rfl,rfl,h _ ((((s.set_sh i ru).set_sh j rw').set_sh k rw2).set_sh m rt)⟩⟩
end
theorem Gr.pokeShow{H G H' G':Hp}(g:Gr H G H' G'){b:Addr}(hb:H b=none)(gb:G' b=none)(o:HO):Gr H G (upd H' b o) (upd G' b o):=by
 refine⟨λx u e=>?_,λx u e=>?_,λx u e=>?_,λx h h'=>?_⟩
 ·rw[Yx (y4 e hb)];exact g.h x u e
 ·have:=g.g x u e
  rw[Yx (y4 this gb)];exact this
 ·by_cases z:x=b
  ·subst z;rw[Yy]at e ⊢;exact e
  ·rw[Yx z]at e ⊢;exact g.s x u e
 ·by_cases z:x=b
  ·rw[z];exact hb
  ·rw[Yx z]at h'
   exact g.n x h h'
theorem SR.blur{K:W.Frag}{H0 G0 H G:Hp}{σ:L2.St}{ρ:Ro}(s:SR K H0 G0 σ H G ρ)(i:Nat)(v:Option V):SR K H0 G0 (σ.set i v) H G (ρ.set i none):=by
 have get:∀(m:Nat) (o:B),(ρ.set i none)[m]?=some (some o)->m≠i/\ρ[m]?=some (some o):=λm o e=>by
  by_cases z:m=i
  ·subst z
   rw[List.getElem?_set,if_pos rfl]at e
   split at e<;>cases e
  ·rw[Qf (Ne.symm z)]at e
   exact⟨z,e⟩
 have gs:∀m,m≠i->(σ.set i v)[m]?=σ[m]?:=λm z=>Qf (Ne.symm z);refine⟨s.gr,by rw[List.length_set,List.length_set];exact s.len,λm d e=>?_,λm l e=>?_,λm m' l l' a b e e' ne q q'=>?_,λm t ks vs e=>?_,λm m' t ks vs t' ks' vs' a b e e' ne q q'=>?_⟩
 ·obtain⟨z,e⟩:=get _ _ e
  rw[gs m z];exact s.sh m d e
 ·obtain⟨z,e⟩:=get _ _ e
  rw[gs m z];exact s.ow m l e
 ·obtain⟨z,e⟩:=get _ _ e
  obtain⟨z',e'⟩:=get _ _ e';rw[gs m z]at q;rw[gs m' z']at q';exact s.ap m m' l l' a b e e' ne q q'
 ·obtain⟨z,e⟩:=get _ _ e
  rw[gs m z];exact s.od m t ks vs e
 ·obtain⟨z,e⟩:=get _ _ e
  obtain⟨z',e'⟩:=get _ _ e';rw[gs m z]at q;rw[gs m' z']at q';exact s.apd m m' t ks vs t' ks' vs' a b e e' ne q q'
def y53(i:Nat)(f1 f2:AV)(fc:AU)(fe:AV)(fr:AS):AS:=λρ=>if i<ρ.length then (f1 ρ).bind λd1=>(f2 ρ).bind λd2=>(fc (ρ.set i none)).bind λk=>
 if k=true then (fe (ρ.set i none)).bind λd=>fr (ρ.set i (some (.ow [d1,.lst [d2,d]])))else fr (ρ.set i (some (.ow [d1,.lst [d2]])))else none
section
variable {X:Cx}{e1 e2 c e:Expr}{f1 f2 fe:AV}{fc:AU}{fr:AS}{sts:List Stmt}{y:Str}{p1 q1 q2 q3 apos cpos pos pos2 pos3 l1 l2:Pos}
theorem y54(i:Nat){j:_}(hN:X.N.Nodup)(h1:ZE X e1 f1)(h2:ZE X e2 f2)(hc:ZT X c fc)(he:ZE X e fe)(hr:ZB X sts fr)(hy:X.N[i]?=some y:=by rfl)(hx:Loc X.env.scope y:=by trivial)(hv:Vis X.env.scope y:=by trivial)
 (hd:(y==("__debug__":Str))=false:=by decide) (hcd:(y==("__classdict__":Str))=false:=by decide)
 (hs1:starEach [e1,.List [e2] l1] X.env=(false,eval e1 X.env)::starEach [.List [e2] l1] X.env:=by rfl) (hs2:starEach [.List [e2] l1] X.env=(false,eval (.List [e2] l1) X.env)::starEach [] X.env:=by rfl) (hs3:starEach [e2] X.env=(false,eval e2 X.env)::starEach [] X.env:=by rfl)
 (hse:swapsWith (.List [e1,.List [e2] l1] l2) (some (.Name y p1)) pos.line X.env=pure false:=by rfl) (hf:X.fn y=true\/X.env.scope.names.lookup y=some .local:=by trivial)
 (hpi:Yip (.Constant (.int 1) j q2):=by exact λ_ _=>rfl)
 (hse2:swapsWith (.Call (.Attribute (.Subscript (.Name y q1) (.Constant (.int 1) j q2) q3) "append" apos) [e] [] cpos) none pos2.line X.env=pure false:=by rfl)
 (hs:starEach [e] X.env=(false,eval e X.env)::starEach [] X.env:=by rfl) (hpl:(backTo cpos (starEach [] X.env)).any (·.1)=false:=by rfl)
 (hbase:attributeBase (.Subscript (.Name y q1) (.Constant (.int 1) j q2) q3) "append" X.env (eval (.Subscript (.Name y q1) (.Constant (.int 1) j q2) q3) X.env)=eval (.Subscript (.Name y q1) (.Constant (.int 1) j q2) q3) X.env:=by rfl)
 (hfew:Few X cpos [e]:=by rfl)
 (hline:(apos.endLine==cpos.line)=true:=by rfl) :
 ZB X (.Assign [.Name y p1] (.List [e1,.List [e2] l1] l2) pos::.If c [.Expr (.Call (.Attribute (.Subscript (.Name y q1) (.Constant (.int 1) j q2) q3) "append" apos) [e] [] cpos) pos2] [] pos3::sts) (y53 i f1 f2 fc fe fr):=
 ⟨PSs.imp (Yly (Ywx hN hy hx (Ywy (Yb7 h1.un (Yb7 (Ywy (Yb7 h2.un Yer hs3)) Yer hs2) hs1)) hse hf) (Yly (y4a hc.un (Yuv (Ykm (Yux PySem.F.plainAttrs_list PySem.F.slot_list_append PySem.F.type_list_append Yjb (Yabn ix_list (Yh7 hy hv hd hcd) Yz8 hpi) (Yb7 he.un Yer hs) hbase hfew hline hs hpl) hse2)) Yuu) hr.un)) λF σ H hx_=>by
  obtain⟨ρ,out,H0,G0,G,er,s,h⟩:=hx_;unfold y53 at er
  have hil:i<ρ.length:=Classical.byContradiction λz=>by rw[if_neg z]at er;cases er
  rw[if_pos hil]at er;rw[<-s.len]at hil;obtain⟨d1,a1,er⟩:=qa er;obtain⟨d2,a2,er⟩:=qa er;obtain⟨k,a3,er⟩:=qa er;have hsz:=jj;refine tOf.at a1 s λv1 H1 G1 g1 r1 s1=>tOf.at a2 s1 λv2 H2 G2 g2 r2 s2=>?_;refine⟨by simp;lia,λb hb=>⟨by simp;lia,λo ho=>?_⟩⟩
  have hbo:o≠b:=λz=>by rw[z,Yy]at ho;cases ho
  have ho2:H2 o=none:=by rw[Yx hbo]at ho;exact ho
  have gb2:G2 b=none:=s2.seen.free hb;have go2:G2 o=none:=s2.seen.free ho2;have k1:Gr H2 G2 (upd H2 b (.lst [v2])) G2:=Gr.hid s2.seen hb _;have k2:Gr (upd H2 b (.lst [v2])) G2 (upd (upd H2 b (.lst [v2])) o (.lst [v1,.ref b])) G2:=Gr.hid k1.s ho _;have s4:=(s2.grow (k1.trans k2)).blur i (some (.ref o));refine tTof.at a3 s4 λH5 G5 g5 s5=>?_
  have hb4:(upd (upd H2 b (.lst [v2])) o (.lst [v1,.ref b])) b=some (.lst [v2]):=by rw[Yx (Ne.symm hbo),Yy]
  have hb5:H5 b=some (.lst [v2]):=g5.h _ _ hb4;have ho5:H5 o=some (.lst [v1,.ref b]):=g5.h _ _ Yy;have gb5:G5 b=none:=Yfk g5 hb4 gb2;have go5:G5 o=none:=Yfk g5 Yy go2;have gall:=(k1.trans k2).trans g5
  cases k with
  | false=>
    rw[if_neg qi]at er ⊢;have g7:=gall.show hb gb5 hb5;refine⟨_,out,H0,G0,_,er,s2.set_ow i g7 ho2 (by rw[Yx hbo];exact go5) ho5 (.cons (r1.mono (g2.g.trans g7.g)) (.one ?_)),h⟩;rw[Rp];exact⟨b,[v2],rfl,.inl Yy,.one (r2.mono g7.g)⟩
  | true=>
    rw[if_pos rfl]at er ⊢;obtain⟨d,a4,er⟩:=qa er;refine⟨_,?_,o,_,1,.ref b,rfl,rfl,SqL.of ho5,rfl,.inl ⟨rfl,_,SqL.of hb5⟩,tOf.at a4 s5 λv H6 G6 g6 r6 s6=>?_⟩
    ·exact List.getElem?_set_self hil
    have hb6:=g6.h _ _ hb5;have ho6:=g6.h _ _ ho5;have gb6:=Yfk g6 hb5 gb5;have go6:=Yfk g6 ho5 go5;refine⟨b,[v2],v,rfl,rfl,hb6,by simp;lia,?_⟩;have g7:=(gall.trans g6).pokeShow hb gb6 (.lst [v2,v])
    have sm6:Same G6 (upd G6 b (.lst [v2,v])):=λx u q=>by rw[Yx (y4 q gb6)];exact q
    refine⟨_,out,H0,G0,_,er,s2.set_ow i g7 ho2 (by rw[Yx hbo];exact go6) (by rw[Yx hbo];exact ho6) (.cons (r1.mono (g2.g.trans g7.g)) (.one ?_)),h⟩;rw[Rp]
    exact⟨b,[v2,v],rfl,.inl Yy,.cons (r2.mono g7.g) (.one (r6.mono sm6))⟩⟩
end
end
end M
namespace M
open PySem PySem.Spec PyProof.Rows L2 Builtin Builtin.Str
variable {K:W.Frag}
theorem Ytf{sep:Str}:∀(l:AK) (acc:Array Nat),PyData.strOk ⟨l.foldl (λacc p=>acc++sep.cps++p.cps) acc⟩=true->PyData.strOk ⟨acc⟩=true/\∀x∈l,PyData.strOk x=true
 | [],_,h=>⟨h,λ_ z=>(nomatch z)⟩
 | x::l,acc,h=>by
   rw[List.foldl_cons]at h;obtain⟨h1,h2⟩:=Ytf l _ h;have e:PyData.strOk ⟨acc++sep.cps++x.cps⟩=PyData.strOk (((⟨acc⟩:Str)++sep)++x):=rfl;rw[e,Ypn,Ypn,Qe,Qe]at h1;refine⟨h1.1.1,λy hy=>?_⟩
   cases hy with
   | head=>exact h1.2
   | tail _ hy=>exact h2 y hy
theorem Yjx(x y:Str):Txt.join y (Txt.split x y)=x:=(beq_iff_eq.mp (join_plain_closes y (Txt.split x y))).trans (StrLaws.join_split x y)
theorem y55{x y:Str}(h:PyData.strOk x=true):∀z∈Txt.split x y,PyData.strOk z=true:=by
 have e:=Yjx x y
 cases hs:Txt.split x y with
 | nil=>exact λ_ z=>(nomatch z)
 | cons a l=>
   rw[hs]at e;rw[<-e]at h;obtain⟨h1,h2⟩:=Ytf (sep:=y) l a.cps h;intro z hz
   cases hz with
   | head=>exact h1
   | tail _ hz=>exact h2 z hz
def Ytg(sep:Str):D->Option D
 | .str x=>if x.length<=1000000 then some (.lst ((Txt.split x sep).map D.str))else none
 | _=>none
def Yadi:V->AN->Hp->VK->Prop:=λx xs H Q=>∃t y,x=.str t/\xs=[.str y]/\(y.length==0)=false/\t.length<=1000000/\∀p,H p=none->Q (.ref p) (upd H p (.lst ((Txt.split t y).map V.str)))
theorem Ylg:∀l:List (Str×Tok),Vals ((l.map (·.1)).map V.str) (strValues l)
 | []=>.nil
 | (x,t)::l=>.cons ⟨t,rfl⟩ (Ylg l)
theorem Yxt{G:Hp}:∀{l:AK},(∀x∈l,PyData.strOk x=true)->RpL K G (l.map D.str) (l.map V.str)
 | [],_=>.nil
 | x::l,h=>.cons (by rw[Rp];exact⟨rfl,h x (.head _)⟩) (Yxt λy hy=>h y (.tail _ hy))
section
variable {X:Cx}{e a b:Expr}{fa fb:AV}{ga:AW}{pos cpos apos p p2:Pos}
theorem y56:MtR X "str.split" Yadi:=by
 intro pins s σ H x xs v us Q I rx r h;obtain⟨t,y,rfl,rfl,hy,hz,q⟩:=h;obtain⟨tk,rfl⟩:=rx;obtain⟨u,rfl,ru⟩:=Yfj r;obtain⟨tu,rfl⟩:=ru;have hsl:=jj;have hle:=split_le t y
 have fin:∀(l:List (Str×Tok)) (k:Nat),l.map (·.1)=Txt.split t y->EP X pins σ Q (.ref (~~~s)) { s with heap:=s.heap.push { cls:=.type "list",data:=.seq (strValues l).toArray },toks:=k }:=λl k hl=>by
  have hv:=Ylg l;rw[hl]at hv;exact⟨.ref (~~~s),_,I.lnew hv (by rw[qf];lia),rfl,q _ I.fresh⟩
 cases h1:(decide (t.length<y.length)||decide (strKind t<strKind y))
 ·cases hf:(occurrences t y 0 t.length (t.length+1)).isEmpty
  ·have hsp:Txt.split t y=partsBetween t (occurrences t y 0 t.length (t.length+1)) y.length:=(if_neg (ne_true_of_eq_false h1)).trans (if_neg (ne_true_of_eq_false hf))
   refine call_meets F.slot_str_split (typeIs_str _ _ _) F.entry_str_split (F.args_str_split_2 _ _) (meets_str_split_sep t y tk tu h1 hy hf (by lia) (by rw[<-hsp];lia)) ?_;show wants (EP X pins σ Q) X.xe _ { s with toks:=_,heap:=s.heap.push { cls:=.type "list",data:=.seq (strsFrom s.toks (partsBetween t (occurrences t y 0 t.length (t.length+1)) y.length)).toArray } };rw[strsFrom_eq];exact fin (numbered s.toks _) _ ((numbered_texts _ _).trans hsp.symm)
  ·exact call_meets F.slot_str_split (typeIs_str _ _ _) F.entry_str_split (F.args_str_split_2 _ _) (meets_str_split_not_found t y tk tu h1 hy hf)
    (fin [(t,tk)] s.toks ((if_neg (ne_true_of_eq_false h1)).trans (if_pos hf)).symm)
 ·exact call_meets F.slot_str_split (typeIs_str _ _ _) F.entry_str_split (F.args_str_split_2 _ _) (meets_str_split_cannot_occur t y tk tu h1)
   (fin [(t,tk)] s.toks (if_pos h1).symm)
theorem Yth{sep:Str}{j}(ha:ZE X e fa)(hx:(sep.length==0)=false:=by decide +kernel)
 (hbase:attributeBase e "split" X.env (eval e X.env)=eval e X.env:=by rfl)
 (hfew:((backTo cpos (starEach [.Constant (.str sep) j p] X.env)).all (λx=>!x.1)&&(backToKw cpos (keywordEach [] X.env)).all (λx=>x.1.isSome)
  &&decide ([Expr.Constant (.str sep) j p].length+([]:List Keyword).length+(if ([]:List Keyword).isEmpty then 0 else 1)<30))=true:=by rfl)
 (hline:(apos.endLine==cpos.line)=true:=by rfl) (hs:starEach [.Constant (.str sep) j p] X.env=(false,eval (.Constant (.str sep) j p) X.env)::starEach [] X.env:=by rfl) (hplain:(backTo cpos (starEach [] X.env)).any (·.1)=false:=by rfl) :
 ZE X (.Call (.Attribute e "split" apos) [.Constant (.str sep) j p] [] cpos) (b1 fa (Ytg sep)):=
 ⟨PE.imp (Yux F.plainAttrs_str F.slot_str_split F.type_str_split y56 ha.un (Yb7 Yz9 Yer hs) hbase hfew hline hs hplain) λσ H Q hx_=>by
  obtain⟨ρ,d,H0,G0,G,er,s,h⟩:=hx_;obtain⟨y,h1,h2⟩:=Yaw er;refine tOf.at h1 s λv H1 G1 g1 r1 s1=>?_
  cases y with
  | str t=>
    change (if t.length<=1000000 then some (D.lst ((Txt.split t sep).map D.str))else none)=some d at h2
    split at h2
    ·rename_i hl
     cases h2;rw[Rp]at r1;obtain⟨rfl,hok⟩:=r1;refine⟨rfl,t,sep,rfl,rfl,hx,hl,λq hq=>?_⟩;have gn:=Gr.new s1.seen hq (.lst ((Txt.split t sep).map V.str));refine h _ _ _ (g1.trans gn) ?_;rw[Rp];exact⟨q,_,rfl,.inl Yy,Yxt (y55 hok)⟩
    ·cases h2
  | _=>cases h2⟩
def lenS:AQ->Option D
 | [.str s]=>if s.length<=1000000 then some (.int s.length)else none
 | _=>none
theorem Yxu:SemC K (λxs H Q=>∃z:Str,xs=[.str z]/\z.length<=sizeLine/\Q (.int z.length) H) lenS:=by
 intro vs ds d H G Q e sm r q;unfold lenS at e
 split at e
 ·rename_i s
  split at e
  ·rename_i hl
   cases e;obtain⟨v,rfl,rv⟩:=Yci r;rw[Ct]at rv;obtain⟨rfl,hok⟩:=rv;exact⟨s,rfl,by rw[jj];lia,q _ H G (Gr.refl sm) (by rw[Rp])⟩
  ·cases e
 ·cases e
def intS:AQ->Option D
 | [.str s]=>if s.length<=640 then (intText? s).map D.int else none
 | _=>none
theorem y3a:Ydd X (.type "int") (λxs H Q=>∃z n,xs=[.str z]/\z.length<=640/\intText? z=some n/\Q (.int n) H):=by
 intro pins s σ H xs us Q I r h;obtain⟨z,n,rfl,hl,hn,q⟩:=h;obtain⟨u,rfl,ru⟩:=Yfj r;obtain⟨t,rfl⟩:=ru;exact W.KIN.call_text hn hl ⟨.int n,H,I.tok _,⟨_,rfl⟩,q⟩
theorem y57:SemC K (λxs H Q=>∃(z:Str) (n:Int),xs=[.str z]/\z.length<=640/\intText? z=some n/\Q (.int n) H) intS:=by
 intro vs ds d H G Q e sm r q;unfold intS at e
 split at e
 ·rename_i s
  split at e
  ·rename_i hl
   obtain⟨n,h1,rfl⟩:=qc e;obtain⟨v,rfl,rv⟩:=Yci r;rw[Ct]at rv;obtain⟨rfl,hok⟩:=rv;exact⟨s,n,rfl,hl,h1,q _ H G (Gr.refl sm) (by rw[Rp])⟩
  ·cases e
 ·cases e
def inS:D->D->Option Bool
 | .str i,.str j=>some (!(occurrences j i 0 j.length 1).isEmpty)
 | _,_=>none
theorem y95:Yf0 K (λx y H Q=>∃i j,x=.str i/\y=.str j/\Q (.bl (!(occurrences j i 0 j.length 1).isEmpty)) H) inS:=by
 intro x y dx dy b H G Q e sm rx ry q;unfold inS at e
 split at e
 ·cases e
  rw[Ct]at rx ry;exact⟨_,_,rx.1,ry.1,q⟩
 ·cases e
theorem y96(ha:ZC X a fa)(hb:ZC X b fb)(hm:behindInMarks .In b=false:=by with_unfolding_all rfl):ZE X (.Compare a [.In] [b] pos) (mB (b2 fa fb inS)):=⟨Ymi y0g y95 ha.un hb.un hm⟩
def cutS(i:Int):D->Option D
 | .str s=>if s.length<=1000000 then some (.str (Txt.slice s (some i) none))else none
 | _=>none
end
end M
namespace M
open PySem PySem.Spec PyProof.Rows L2 Builtin Builtin.Str
variable {K:W.Frag}
def Its(x:Str):It:=⟨λi _=>∃c,x.cps[i]?=some c,λi H v H'=>H'=H/\∃c,x.cps[i]?=some c/\v=.str ⟨#[c]⟩,λi _=>x.cps[i]?=none⟩
theorem y58{P:Program}{w:World}{K:W.Frag}{tg:Expr}(x:Str)(t:Tok)(it:Addr):Turn P w K tg (Its x) [it] it (λi h=>h.IsStrIter it "str_ascii_iterator" x t i) where
 mem:=by simp
 obj:=λi h st b hb=>by
  have e:b=it:=by simpa using hb
  subst e;obtain⟨o,e,c,d⟩:=st;exact⟨o,e,λv z=>by rw[d]at z;cases z⟩
 keep:=λi h h' st k=>by
  obtain⟨o,e,c,d⟩:=st;exact⟨o,k it (by simp) o e,c,d⟩
 item:=by
  intro X hP hw hK hc i pins s σ H E I hf st hg;subst hP hw hK;obtain⟨c,hx⟩:=hg;obtain⟨f0,f1,f2,f3,f4,f5⟩:=hf it (by simp);refine wpAny_pyNext_ascii_item st hx λh' st' sb=>?_;have I1:Inv X pins σ H { s with heap:=h',toks:=s.toks+1 }:=I.turned (t':=s.toks+1) (λb o hb e=>(sb.2 b hb).trans e) f0 f1 f3 f4 f5;obtain⟨o,e,c',d⟩:=id st';exact⟨_,rfl,y4c (s:={ s with heap:=h',toks:=s.toks+1 }) e c' d (by decide) ⟨.str ⟨#[c]⟩,H,I1,⟨_,rfl⟩,⟨rfl,c,hx,rfl⟩,st',λb hb=>(hf b hb).1⟩⟩
 done:=by
  intro X hP hw hK hc i pins s σ H E I hf st hg;subst hP hw hK;obtain⟨f0,f1,f2,f3,f4,f5⟩:=hf it (by simp)
  exact wpAny_pyNext_ascii_end (I.ok.hd hc) st hg λh' eb=>⟨rfl,I.turned (t':=s.toks) (λb o hb e=>eb b o hb e) f0 f1 f3 f4 f5⟩
 self:=λA i s Q E st h=>by
  refine wpAny_pyIter_slot st.typeIs F.slot_str_ascii_iterator_iter (wf F.slot_str_ascii_iterator_iter st.typeIs F.entry_str_ascii_iterator_iter ?_ (F.args_str_ascii_iterator_iter_1 _));show wpAny _ _ (ret (.ref it)) _ _ s;exact wc ⟨_,rfl,"str_ascii_iterator",_,st.typeIs,F.slot_str_ascii_iterator_next.lookup,h⟩
def iStr(te:TE):TI:=λσ H R=>te σ H λv H1=>∃x:Str,v=.str x/\x.cps.all (·<128)=true/\R (Its x) H1
theorem Yadj{X:Cx}{tg e:Expr}{te:TE}(he:PE X e te):PI X tg e (iStr te):=by
 intro pins s σ H R I h;refine thn (he pins s σ H _ I h) λv s1 hx_=>?_;obtain⟨x,H1,I1,r1,q1⟩:=hx_;obtain⟨z,e,ha,q⟩:=q1;subst e;obtain⟨t,rfl⟩:=r1;refine wpAny_pyIter_ascii ha ?_;refine⟨~~~s1,[~~~s1],_,_,H1,rfl,I1.kept (t':=s1.toks) λb o e=>qe _ e,y58 z t _,⟨_,qp _ rfl,rfl,rfl⟩,λb hb=>?_,q⟩
 have e:b= ~~~s1:=by simpa using hb
 subst e;exact I1.fpOk (qu _) (I1.hok.fresh (qu _))
def Yic:D->Option AQ
 | .str s=>if s.cps.all (·<128)=true/\s.length<=1000000 then some (s.cps.toList.map λc=>.str ⟨#[c]⟩)else none
 | _=>none
theorem y97{s:Str}{c:Nat}(ha:s.cps.all (·<128)=true)(h:c∈s.cps.toList):PyData.strOk ⟨#[c]⟩=true:=by
 rw[<-Array.all_toList,List.all_eq_true]at ha;have:=ha c h;simp at this;show(#[c]:Array Nat).all _=true;simp;lia
section
variable {X:Cx}{tg e a:Expr}{fa:AV}{pos p px apos cpos:Pos}{x:Str}
theorem y3b(ha:ZE X e fa):ZI X tg e (b1 fa Yic):=⟨PI.imp (Yadj ha.un) λσ H R hx_=>by
 obtain⟨ρ,ds,H0,G0,G,er,s,h⟩:=hx_;obtain⟨y,h1,h2⟩:=Yaw er;refine tOf.at h1 s λv H1 G1 g1 r1 s1=>?_
 cases y with
 | str z=>
   change (if z.cps.all (·<128)=true/\z.length<=1000000 then some (z.cps.toList.map λc=>D.str ⟨#[c]⟩)else none)=some ds at h2
   split at h2
   ·rename_i hz
    cases h2;rw[Rp]at r1;obtain⟨rfl,hok⟩:=r1;have hsl:=jj;refine⟨z,rfl,hz.1,h _ H1 G1 g1 (y1h (by rw[qf,qj];have:=hz.2;show z.length<=_;lia) λi H2 G2 e1 e2=>⟨λd hd=>?_,λhi=>?_⟩)⟩
    ·rw[Qg]at hd
     obtain⟨c,hc,rfl⟩:=qc hd;rw[Array.getElem?_toList]at hc;refine⟨⟨c,hc⟩,λv H3 q=>?_⟩;obtain⟨rfl,c',hc',rfl⟩:=q;rw[hc]at hc';cases hc';refine⟨rfl,?_⟩;rw[Rp];exact⟨rfl,y97 hz.1 (List.mem_of_getElem? (by rw[Array.getElem?_toList];exact hc))⟩
    ·rw[qf,qj]at hi
     exact Array.getElem?_eq_none hi
   ·cases h2
 | _=>cases h2⟩
def rSlS:V->Option Int->Option Int->Hp->VK->Prop:=λx lo hi H Q=>∃z i,x=.str z/\lo=some i/\hi=none/\z.length<=1000000/\Q (.str (Txt.slice z (some i) none)) H
theorem Yadk:SlR X rSlS:=by
 intro pins s σ H x v vl vu lo hi sl Q I rx hs pl pu h;obtain⟨z,i,rfl,rfl,rfl,hz,q⟩:=h;obtain⟨t,rfl⟩:=rx
 cases pl with
 | int _ ti=>
   cases pu;have hsl:=jj;exact⟨"str",_,F.slot_str_getitem.lookup,typeIs_str _ _ _,wpAny_getItem_str_slice (l:=some (i,ti)) (u:=none) (st:=none) hs rfl (post_val_or_str ⟨Qb (Txt.slice_le z (some i) none) (by lia),λt' k=>⟨.str _,H,I.tok k,⟨t',rfl⟩,q⟩⟩)⟩
theorem y59{z:Str}{lo hi:Option Int}(h:PyData.strOk z=true):PyData.strOk (Txt.slice z lo hi)=true:=by
 unfold Txt.slice
 split
 ·exact h
 ·unfold PyData.strOk at h ⊢
  rw[<-Array.all_toList,List.all_eq_true]at h;rw[List.all_toArray,List.all_eq_true];intro c hc;obtain⟨j,_,hj⟩:=List.mem_filterMap.mp hc;exact h c (by rw[<-Array.getElem?_toList]at hj;exact List.mem_of_getElem? hj)
theorem y6a{i:Int}{p2:Pos}{j}(ha:ZE X a fa):ZE X (.Subscript a (.Slice (some (.Constant (.int i) j p)) none none p2) pos) (b1 fa (cutS i)):=
 ⟨PE.imp (Yp7 Yadk ha.un (y0u Yz8) y0t) λσ H Q hx_=>by
  obtain⟨ρ,d,H0,G0,G,er,s,h⟩:=hx_;obtain⟨y,h1,h2⟩:=Yaw er;refine tOf.at h1 s λv H1 G1 g1 r1 s1=>?_
  cases y with
  | str z=>
    change (if z.length<=1000000 then some (D.str (Txt.slice z (some i) none))else none)=some d at h2
    split at h2
    ·rename_i hz
     cases h2;rw[Rp]at r1;obtain⟨rfl,hok⟩:=r1;exact⟨i,rfl,z,i,rfl,rfl,rfl,hz,h _ H1 G1 g1 (by rw[Rp];exact⟨rfl,y59 hok⟩)⟩
    ·cases h2
  | _=>cases h2⟩
def GS(mg:AE)(x y:Str):Prop:=PyData.strOk y=true/\∃t,mg x=some (.str y t)
theorem y6b{y:Str}(g:GS X.mg x y)(hg:Gl X x)(hd:Ndb x:=by decide):ZE X (.Name x px) (kD (.str y)):=by
 obtain⟨hok,t,hm⟩:=g;exact⟨Yho (v:=.str y) (Yl6 (v:=.str y) hg hm ⟨t,rfl⟩ hd) (λ_ _ _ q=>q) λ_=>by rw[Rp];exact⟨rfl,hok⟩⟩
end
end M
namespace M
open PySem PySem.Spec PyProof.Rows L2
section
variable {K:W.Frag}
structure ZTs(h:Heap)(z I O a b t u:Addr)(k:Nat)(f x y:Value)(xs ys:Array Value):Prop where
 zip:IsZip h z I O f
 ins:IsPair h I (.ref a) (.ref b)
 out:IsPair h O x y
 ita:h.IsTupleIter a t k
 itb:h.IsTupleIter b u k
 tua:h.IsTuple t xs
 tub:h.IsTuple u ys
end
section
variable {K:W.Frag}
structure ZTt(h:Heap)(z I O a b t u:Addr)(k:Nat)(f x y:Value):Prop where
 zip:IsZip h z I O f
 ins:IsPair h I (.ref a) (.ref b)
 out:IsPair h O x y
 ita:h.IsTupleIter a t k
 itb:h.IsTupleIter b u k
end
section
variable {K:W.Frag}
def SEK(w:World):List DictEntry->AK->Prop:=Paired λe k=>e.hash=PyData.keyHash w.params k/\∃t,e.key=.str k t
def GK(K:W.Frag)(w:World)(mg:AE)(x:Str)(ks:AK):Prop:=∃p o es ep,mg x=some (.ref p)/\(p==sysModules)=false/\K.lookup p=some o/\o.ExactDict/\o.data=.dict es ep/\SEK w es.toList ks
theorem SE.keys{w:World}:∀{l:List DictEntry}{kvs:List (Str×Str)},SE w l kvs->SEK w l (kvs.map (·.1))
 | _,_,.nil=>.nil
 | _,_,.cons r t=>.cons ⟨r.1,r.2.1⟩ (SE.keys t)
theorem y3c{P:Program}{w:World}{k:Str}:∀{l:List DictEntry}{ks:AK},SEK w l ks->(l.find? (λe=>(PySem.strKind P w).is k e.key)).isSome=decide (k∈ks)
 | _,_,.nil=>by simp
 | _,_,.cons (a:=e) (b:=a) r t=>by
   obtain⟨_,⟨t1,h1⟩⟩:=r;have ih:=y3c (P:=P) (k:=k) t;rw[List.find?_cons]
   have he:(PySem.strKind P w).is k e.key=(a==k):=by rw[h1];rfl
   rw[he];by_cases q:a=k
   ·subst q;simp
   ·have hn:(a==k)=false:=by simpa using q
    have q':¬k=a:=λz=>q z.symm;rw[hn];simp[ih,q']
theorem Yhr{P:Program}{w:World}:∀{l:List DictEntry}{ks:AK},SEK w l ks->∀e∈l,∃k,(PySem.strKind P w).is k e.key=true/\e.hash=(PySem.strKind P w).hash k
 | _,_,.nil,e,h=>by cases h
 | _,_,.cons (b:=p) r t,e,h=>by
   rcases qt h with rfl|h
   ·obtain⟨h0,⟨t1,h1⟩⟩:=r
    exact⟨p,by rw[h1];simp[PySem.strKind,Value.isStrOf],h0⟩
   ·exact Yhr t e h
section
variable {X:Cx}{a:Expr}{fa:AV}{pos px:Pos}{x:Str}{ks:AK}
theorem Yadl{p:Addr}{o:Obj}{es:Array DictEntry}{ep:Nat}(hp:(p==sysModules)=false)(hl:X.K.lookup p=some o)(hx:o.ExactDict)(hd:o.data=.dict es ep)(hs:SEK X.w es.toList ks):OpR X (compareOp .In) (rInG p ks false)/\OpR X (compareOp .NotIn) (rInG p ks true):=by
 have hf:∀k,(findBy (PySem.strKind X.prog X.w).is es k).isSome=decide (k∈ks):=λk=>by
  show((es.find? λe=>(PySem.strKind X.prog X.w).is k e.key).map (·.val)).isSome=_;rw[<-Array.find?_toList,Option.isSome_map,y3c hs]
 constructor
 ·intro pins s σ H x y v u Q I rx ry h
  obtain⟨k,rfl,hk,rfl,q⟩:=h;cases ry;obtain⟨t,rfl⟩:=rx;refine wpAny_in_of (knd:=PySem.strKind X.prog X.w) (k:=k) (f:=λk=>findBy (PySem.strKind X.prog X.w).is es k) (by simp[PySem.strKind,Value.isStrOf]) hp ⟨o,es,ep,I.kIn p o hl,hx,hd,λe he=>Yhr hs e (by simpa using he),λ_=>rfl⟩ ⟨.bl _,H,I.tok _,rfl,?_⟩;rw[hf k]
  have e:decide (k∈ks)=(decide (k∈ks)!=false):=by cases decide (k∈ks)<;>rfl
  rw[e];exact q
 ·intro pins s σ H x y v u Q I rx ry h
  obtain⟨k,rfl,hk,rfl,q⟩:=h;cases ry;obtain⟨t,rfl⟩:=rx;refine wpAny_notIn_of (knd:=PySem.strKind X.prog X.w) (k:=k) (f:=λk=>findBy (PySem.strKind X.prog X.w).is es k) (by simp[PySem.strKind,Value.isStrOf]) hp ⟨o,es,ep,I.kIn p o hl,hx,hd,λe he=>Yhr hs e (by simpa using he),λ_=>rfl⟩ ⟨.bl _,H,I.tok _,rfl,?_⟩;rw[hf k]
  have e:(!decide (k∈ks))=(decide (k∈ks)!=true):=by cases decide (k∈ks)<;>rfl
  rw[e];exact q
theorem Yxv(g:GK X.K X.w X.mg x ks)(hg:Gl X x)(ha:ZC X a fa)(hm:behindInMarks .NotIn (.Name x px)=false:=by with_unfolding_all rfl)(hd:Ndb x:=by decide):ZT X (.Compare a [.NotIn] [.Name x px] pos) (b1 fa (inG true ks)):=by
 obtain⟨p,o,es,ep,hmg,hp,hl,hx,hdt,hs⟩:=g;refine⟨PT.imp (Yp5 (Yadl hp hl hx hdt hs).2 ha.un (Yl6 (v:=.ref p) hg hmg rfl hd) hm) λσ H Q ⟨ρ,b,H0,G0,G,e,s,h⟩=>?_⟩;obtain⟨d,h1,h2⟩:=Yaw e;refine tCof.at h1 s λv H1 G1 g1 r1 s1=>?_;unfold inG at h2
 split at h2
 ·rename_i k
  cases h2;rw[Ct]at r1;exact⟨k,r1.1,r1.2,rfl,_,rfl,h H1 G1 g1⟩
 ·cases h2
end
end
section
variable {K:W.Frag}
def SEB(w:World):List DictEntry->List (Str×Bool)->Prop:=Paired λe p=>e.hash=PyData.keyHash w.params p.1/\(∃t,e.key=.str p.1 t)/\e.val=.bool p.2
def GDB(K:W.Frag)(w:World)(mg:AE)(x:Str)(kvs:List (Str×Bool)):Prop:=∃p o es ep,mg x=some (.ref p)/\(p==sysModules)=false/\K.lookup p=some o/\o.ExactDict/\o.data=.dict es ep/\SEB w es.toList kvs
theorem SEB.keys{w:World}:∀{l:List DictEntry}{kvs:List (Str×Bool)},SEB w l kvs->SEK w l (kvs.map (·.1))
 | _,_,.nil=>.nil
 | _,_,.cons r t=>.cons ⟨r.1,r.2.1⟩ (SEB.keys t)
theorem Yq1{P:Program}{w:World}{k:Str}:∀{l:List DictEntry}{kvs:List (Str×Bool)},SEB w l kvs->(l.find? (λe=>(PySem.strKind P w).is k e.key)).map (·.val)=(kvs.lookup k).map Value.bool
 | _,_,.nil=>rfl
 | _,_,.cons (a:=e) (b:=p) r t=>by
   obtain⟨_,⟨t1,h1⟩,h2⟩:=r;obtain⟨a,b⟩:=p
   have he:(PySem.strKind P w).is k e.key=(a==k):=by rw[h1];rfl
   rw[List.find?_cons,he,List.lookup_cons];by_cases q:a=k
   ·subst q
    simp[h2]
   ·have hn:(a==k)=false:=by simpa using q
    have hn':(k==a)=false:=by simpa using λz:k=a=>q z.symm
    rw[hn,hn'];exact Yq1 t
def Ym5(kvs:List (Str×Bool)):D->Option D
 | .str k=>(kvs.lookup k).map D.bl
 | _=>none
def y6c(kvs:List (Str×Bool)):D->Option D
 | .str k=>some (match kvs.lookup k with
   | some b=>.bl b
   | none=>.non)
 | _=>none
section
variable {X:Cx}{ke:Expr}{fk:AV}{pos px apos cpos:Pos}{x:Str}{kvs:List (Str×Bool)}
theorem Ypo(g:GDB X.K X.w X.mg x kvs)(hg:Gl X x)(hk:ZC X ke fk)(hs:NoSl ke:=by intro _ _;rfl)(hd:Ndb x:=by decide):ZE X (.Subscript (.Name x px) ke pos) (b1 fk (Ym5 kvs)):=by
 obtain⟨p,o,es,ep,hm,hp,hl,hx,hdt,hse⟩:=g;refine⟨λpins s σ H Q I hx_=>?_⟩;obtain⟨ρ,d,H0,G0,G,e,sr,h⟩:=hx_;obtain⟨dk,h1,h2⟩:=Yaw e;refine y0q PySem.F.slot_dict_getitem.lookup hs (Ygu I hg hm ?_ hd);refine thn (hk.un pins s σ H (fun(v':V) (H':Hp)=>∃k r,v'=.str k/\kvs.lookup k=some r/\Q (.bl r) H') I (tCof.at h1 sr λv H1 G1 g1 r1 s1=>?_)) λiv s2 q0=>?_
 ·unfold Ym5 at h2
  split at h2
  ·rename_i k
   obtain⟨r,h3,rfl⟩:=qc h2;rw[Ct]at r1;exact⟨k,r,r1.1,h3,h _ H1 G1 g1 (by rw[Rp])⟩
  ·cases h2
 ·obtain⟨y,H2,I2,ry,k,r,rfl,h3,q⟩:=q0
  obtain⟨t,rfl⟩:=ry;have ho:s2.heap.get? p=some o:=I2.kIn p o hl;have f1:=Yq1 (P:=X.prog) (k:=k) hse;rw[h3]at f1;refine⟨⟨o,ho,hx.1⟩,wpAny_getItem_of (knd:=PySem.strKind X.prog X.w) (k:=k) (f:=λk=>findBy (PySem.strKind X.prog X.w).is es k) (v:=.bool r) (by simp[PySem.strKind,Value.isStrOf]) ⟨o,es,ep,ho,hx,hdt,?_,λ_=>rfl⟩ ?_ ⟨.bl r,H2,I2.tok _,rfl,q⟩⟩
  ·intro e'' he
   exact Yhr hse.keys e'' (by simpa using he)
  ·show(es.find? λe=>(PySem.strKind X.prog X.w).is k e.key).map (·.val)=_
   rw[<-Array.find?_toList,f1];rfl
theorem y3d(g:GDB X.K X.w X.mg x kvs)(hg:Gl X x)(hk:ZC X ke fk)(hd:Ndb x:=by decide)(hb:attributeBase (.Name x px) "get" X.env (eval (.Name x px) X.env)=eval (.Name x px) X.env:=by rfl)
 (hfew:((backTo cpos (starEach [ke] X.env)).all (λx=>!x.1)&&(backToKw cpos (keywordEach [] X.env)).all (λx=>x.1.isSome)&&decide (([ke]:AL).length+([]:List Keyword).length+(if ([]:List Keyword).isEmpty then 0 else 1)<30))=true:=by rfl)
 (hline:(apos.endLine==cpos.line)=true:=by rfl) (ht:backTo cpos (starEach [ke] X.env)=[(false,eval ke X.env)]:=by rfl):ZE X (.Call (.Attribute (.Name x px) "get" apos) [ke] [] cpos) (b1 fk (y6c kvs)):=by
 obtain⟨p,o,es,ep,hm,hp,hl,hx,hdt,hse⟩:=g;refine⟨λpins s σ H Q I hx_=>?_⟩;obtain⟨ρ,d,H0,G0,G,e,sr,h⟩:=hx_;obtain⟨dk,h1,h2⟩:=Yaw e;have ho1:s.heap.get? p=some o:=I.kIn p o hl;refine wpAny_Call_method hb hfew hline PySem.F.plainAttrs_dict PySem.F.slot_dict_get PySem.F.type_dict_get (Ygu I hg hm ?_ hd);refine⟨⟨o,ho1,hx.1⟩,λr hr=>?_,?_⟩
 ·cases hr
  exact⟨o,ho1,hx.2.1⟩
 rw[ht];refine wpAny_dict_get1 (knd:=PySem.strKind X.prog X.w) hp (thn (hk.un pins s σ H (fun(v':V) (H':Hp)=>∃k,v'=.str k/\Q (match kvs.lookup k with|some b=>.bl b|none=>.non) H') I (tCof.at h1 sr λv H1 G1 g1 r1 s1=>?_)) λiv s2 q0=>?_)
 ·unfold y6c at h2
  split at h2
  ·rename_i k
   cases h2;rw[Ct]at r1;refine⟨k,r1.1,h _ H1 G1 g1 ?_⟩;cases kvs.lookup k<;>rw[Rp]
  ·cases h2
 ·obtain⟨y,H2,I2,ry,k,rfl,q⟩:=q0
  obtain⟨t,rfl⟩:=ry;have ho:s2.heap.get? p=some o:=I2.kIn p o hl;have f1:=Yq1 (P:=X.prog) (k:=k) hse;refine⟨k,λk=>findBy (PySem.strKind X.prog X.w).is es k,by simp[PySem.strKind,Value.isStrOf],⟨o,es,ep,ho,hx,hdt,λe'' he=>Yhr hse.keys e'' (by simpa using he),λ_=>rfl⟩,?_⟩
  have f2:findBy (PySem.strKind X.prog X.w).is es k=(kvs.lookup k).map Value.bool:=by
   show(es.find? λe=>(PySem.strKind X.prog X.w).is k e.key).map (·.val)=_;rw[<-Array.find?_toList,f1]
  refine⟨_,H2,I2.tok _,?_,q⟩;show RelV _ ((findBy (PySem.strKind X.prog X.w).is es k).getD .none);rw[f2];cases kvs.lookup k<;>rfl
end
end
section
variable {K:W.Frag}
def GA(mg:AE)(x:Str)(a:Addr):Prop:=mg x=some (.ref a)
def OkFt(P:Program)(w:World)(K:W.Frag)(mg:AE)(base:Heap)(k n:Nat):List (Addr×(AQ->Option D))->Prop
 | []=>True
 | (a,fn)::r=>(∃fd ps,FnOk P w K mg base CX0 k a fd ps (spOf K n fn)/\Binds K fd ps []/\W.keepIn K (.ref a)=true)/\OkFt P w K mg base k n r
theorem OkFt.look{P:Program}{w:World}{mg:AE}{base:Heap}{k n:Nat}{a:Addr}{fn:AQ->Option D}:∀{tb:List (Addr×(AQ->Option D))},OkFt P w K mg base k n tb->tb.lookup a=some fn->∃fd ps,FnOk P w K mg base CX0 k a fd ps (spOf K n fn)/\Binds K fd ps []/\W.keepIn K (.ref a)=true
 | [],_,e=>by cases e
 | (c',fn')::r,h,e=>by
   rw[List.lookup_cons]at e
   split at e
   ·rename_i hc
    cases e;rw[eq_of_beq hc];exact h.1
   ·exact OkFt.look h.2 e
theorem okft{P:Program}{w:World}{mg:AE}{base:Heap}{k j n:Nat}{a:Addr}{x:Str}{ps:AK}{fn:AQ->Option D}(g:GA mg x a)(o:Okf P w K mg base j n x ps fn)(hj:j<=k:=by first|exact qu _|lia):∃fd ps,FnOk P w K mg base CX0 k a fd ps (spOf K n fn)/\Binds K fd ps []/\W.keepIn K (.ref a)=true:=by
 obtain⟨b,fd,F,hb,hk,hm⟩:=o;rw[g]at hm;cases hm;exact⟨fd,ps,F.mono hj,hb,hk⟩
def y6d(tb:List (Addr×(AQ->Option D)))(fo:AV)(ga:AW):AV:=λρ=>match fo ρ with
 | some (.adr a)=>(ga ρ).bind λds=>(tb.lookup a).bind λfn=>fn ds
 | _=>none
def orI(f g:AW):AW:=λρ=>match f ρ with
 | some l=>some l
 | none=>g ρ
def y6e(kvs:List (Str×Str)):D->Option D
 | .str k=>some (match kvs.lookup k with
   | some b=>.str b
   | none=>.non)
 | _=>none
section
variable {X:Cx}{e tg ke:Expr}{es:AL}{fo fk:AV}{ga:AW}{p cpos px apos:Pos}{x:Str}
theorem Yhs{a:Addr}(g:GA X.mg x a)(hg:Gl X x)(hd:Ndb x:=by decide):ZE X (.Name x px) (kD (.adr a)):=⟨λpins s σ H Q I hx_=>by
 obtain⟨ρ,d,H0,G0,G,er,sr,h⟩:=hx_;cases er
 exact Ygu I hg g ⟨.ref a,H,I,rfl,h _ H G (Gr.refl sr.seen) (by rw[Rp])⟩ hd⟩
theorem y3e{j k n:Nat}{tb:List (Addr×(AQ->Option D))}(c:OkFt X.prog X.w X.K X.mg X.base j n tb)(hr:Room k X.A)(ho:ZE X (.Name x p) fo)(ha:ZA X (e::es) ga)(hl:∀ρ ds,ga ρ=some ds->ds.length=n)(hj:j<=k:=by first|exact qu _|lia)
 (he:starEach (e::es) X.env=(false,eval e X.env)::starEach es X.env:=by rfl) (hpl:(backTo cpos (starEach es X.env)).any (·.1)=false:=by rfl):ZE X (.Call (.Name x p) (e::es) [] cpos) (y6d tb fo ga):=⟨λpins s σ H Q I hx_=>by
 obtain⟨ρ,d,H0,G0,G,er,sr,h⟩:=hx_;unfold y6d at er
 split at er
 ·rename_i a h1
  obtain⟨ds,h2,er⟩:=qa er;obtain⟨fn,h3,h4⟩:=qa er;obtain⟨fd,ps,F,hb,hk⟩:=c.look h3;refine wpAny_Call_Name_kw (thn (ho.un pins s σ H (λv H1=>v=.ref a/\∃G1,Gr H G H1 G1/\SR X.K H0 G0 σ H1 G1 ρ) I (tOf.at h1 sr λv H1 G1 g1 r1 s1=>⟨by rw[Rp]at r1;exact r1,G1,g1,s1⟩)) λfv s1 hq=>?_);obtain⟨v,H1,I1,rv,rfl,G1,g1,sr1⟩:=hq;obtain rfl:fv=Value.ref a:=rv;refine W.callWith_K (h₀:=X.base) I.ok.mod.kin hk (thn (ha.un cpos pins s1 σ H1 (λvs H2=>spOf X.K n fn vs H2 Q E0) I1 (tAof.at h2 sr1 λvs H2 G2 g2 r2 s2=>?_)) λus s2 hq=>?_) he hpl
  ·exact⟨by rw[r2.length,hl ρ ds h2],ds,d,G2,s2.seen,r2,h4,λv H' G' g' rd=>h v H' G' ((g1.trans g2).trans g') rd⟩
  ·obtain⟨vs,H2,I2,r,q⟩:=hq
   refine⟨I2.kIn,?_⟩;exact Ywz (dvs:=[]) (E:=E0) (F.mono hj) hr hb .nil Yuy I2 r (by rw[jb];exact q)
 ·cases er⟩
theorem Yadm{f g:AW}(hf:ZI X tg e f)(hg:ZI X tg e g):ZI X tg e (orI f g):=⟨λpins s σ H R I hx_=>by
 obtain⟨ρ,ds,H0,G0,G,er,sr,h⟩:=hx_;unfold orI at er
 split at er
 ·rename_i l h1
  cases er;exact hf.un pins s σ H R I ⟨ρ,ds,H0,G0,G,h1,sr,h⟩
 ·exact hg.un pins s σ H R I ⟨ρ,ds,H0,G0,G,er,sr,h⟩⟩
theorem y3f{P:Program}{w:World}{k:Str}:∀{l:List DictEntry}{kvs:List (Str×Str)},SE w l kvs->kvs.lookup k=none->l.find? (λe=>(PySem.strKind P w).is k e.key)=none
 | _,_,.nil,_=>rfl
 | _,_,.cons (a:=e) (b:=p) r t,h=>by
   obtain⟨_,⟨t1,h1⟩,h2⟩:=r;obtain⟨a,b⟩:=p
   have he:(PySem.strKind P w).is k e.key=(a==k):=by rw[h1];rfl
   rw[List.lookup_cons]at h;rw[List.find?_cons,he];by_cases q:a=k
   ·subst q
    simp at h
   ·have hn:(a==k)=false:=by simpa using q
    have hn':(k==a)=false:=by simpa using λz:k=a=>q z.symm
    rw[hn']at h;rw[hn];exact y3f t h
theorem SE.ok{w:World}{k v:Str}:∀{l:List DictEntry}{kvs:List (Str×Str)},SE w l kvs->kvs.lookup k=some v->PyData.strOk v=true
 | _,_,.nil,h=>by cases h
 | _,_,.cons (a:=e) (b:=p) r t,h=>by
   obtain⟨a,b⟩:=p;rw[List.lookup_cons]at h
   split at h
   ·cases h
    exact r.2.2.2
   ·exact SE.ok t h
theorem y3g{kvs:List (Str×Str)}{ks:AK}(g:GD X.K X.w X.mg x kvs)(gk:GK X.K X.w X.mg x ks)(hg:Gl X x)(hk:ZC X ke fk)(hd:Ndb x:=by decide)(hb:attributeBase (.Name x px) "get" X.env (eval (.Name x px) X.env)=eval (.Name x px) X.env:=by rfl)
 (hfew:((backTo cpos (starEach [ke] X.env)).all (λx=>!x.1)&&(backToKw cpos (keywordEach [] X.env)).all (λx=>x.1.isSome)&&decide (([ke]:AL).length+([]:List Keyword).length+(if ([]:List Keyword).isEmpty then 0 else 1)<30))=true:=by rfl)
 (hline:(apos.endLine==cpos.line)=true:=by rfl) (ht:backTo cpos (starEach [ke] X.env)=[(false,eval ke X.env)]:=by rfl):ZE X (.Call (.Attribute (.Name x px) "get" apos) [ke] [] cpos) (b1 fk (y6e kvs)):=by
 obtain⟨p,o,es,ep,hm,hl,hx,hdt,hse⟩:=g;obtain⟨p',_,_,_,hm',hp,_⟩:=gk;rw[hm]at hm';cases hm';refine⟨λpins s σ H Q I hx_=>?_⟩;obtain⟨ρ,d,H0,G0,G,e,sr,h⟩:=hx_;obtain⟨dk,h1,h2⟩:=Yaw e;have ho1:s.heap.get? p=some o:=I.kIn p o hl;refine wpAny_Call_method hb hfew hline PySem.F.plainAttrs_dict PySem.F.slot_dict_get PySem.F.type_dict_get (Ygu I hg hm ?_ hd);refine⟨⟨o,ho1,hx.1⟩,λr hr=>?_,?_⟩
 ·cases hr
  exact⟨o,ho1,hx.2.1⟩
 rw[ht];refine wpAny_dict_get1 (knd:=PySem.strKind X.prog X.w) hp (thn (hk.un pins s σ H (fun(v':V) (H':Hp)=>∃k,v'=.str k/\Q (match kvs.lookup k with|some b=>.str b|none=>.non) H') I (tCof.at h1 sr λv H1 G1 g1 r1 s1=>?_)) λiv s2 q0=>?_)
 ·unfold y6e at h2
  split at h2
  ·rename_i k
   cases h2;rw[Ct]at r1;refine⟨k,r1.1,h _ H1 G1 g1 ?_⟩
   cases hlk:kvs.lookup k with
   | none=>rw[Rp]
   | some b=>rw[Rp];exact⟨rfl,SE.ok hse hlk⟩
  ·cases h2
 ·obtain⟨y,H2,I2,ry,k,rfl,q⟩:=q0
  obtain⟨t,rfl⟩:=ry;have ho:s2.heap.get? p=some o:=I2.kIn p o hl;refine⟨k,λk=>findBy (PySem.strKind X.prog X.w).is es k,by simp[PySem.strKind,Value.isStrOf],⟨o,es,ep,ho,hx,hdt,λe'' he=>Yhr hse.keys e'' (by simpa using he),λ_=>rfl⟩,?_⟩
  have f2:findBy (PySem.strKind X.prog X.w).is es k=(es.toList.find? λe=>(PySem.strKind X.prog X.w).is k e.key).map (·.val):=by
   show(es.find? λe=>(PySem.strKind X.prog X.w).is k e.key).map (·.val)=_;rw[<-Array.find?_toList]
  refine⟨_,H2,I2.tok _,?_,q⟩;show RelV _ ((findBy (PySem.strKind X.prog X.w).is es k).getD .none);rw[f2]
  cases hlk:kvs.lookup k with
  | none=>rw[y3f hse hlk];rfl
  | some b=>
    obtain⟨e1,t1,q1,q2⟩:=Yu7 (P:=X.prog) hse hlk;rw[q1];show RelV _ e1.val;rw[q2];exact⟨t1,rfl⟩
end
end
section
variable {K:W.Frag}
theorem Yzk{ns:AK}:∀{us:AC},Vals (ns.map V.str) us->StrsAre us ns:=by
 induction ns with
 | nil=>intro us r;rw[List.map_nil]at r;cases r;exact .nil
 | cons n ns ih=>
   intro us r;rw[Qa]at r
   cases r with
   | cons h t=>
     obtain⟨tk,rfl⟩:=h;exact .cons n tk (ih t)
theorem Yk2(k:Str):∀{vs:AC}{ns:AK},StrsAre vs ns->∀(j:Nat) (h1:j<vs.length) (h2:j<ns.length),isStrOf k vs[j]=(ns[j]==k)
 | _,_,.cons n t _,0,_,_=>rfl
 | _,_,.cons n t r,j+1,h1,h2=>Yk2 k r j (Nat.lt_of_succ_lt_succ h1) (Nat.lt_of_succ_lt_succ h2)
theorem StrsAre.len:∀{vs:AC}{ns:AK},StrsAre vs ns->vs.length=ns.length
 | _,_,.nil=>rfl
 | _,_,.cons _ _ r=>congrArg (·+1) (StrsAre.len r)
theorem Yjy{k:Str}:∀{ns:AK}{j:Nat},j<ns.idxOf k->∀(h2:j<ns.length),(ns[j]==k)=false
 | n::r,0,h,_=>by
   by_cases e:n=k
   ·subst e;simp at h
   ·simpa using e
 | n::r,j+1,h,h2=>by
   by_cases e:n=k
   ·subst e;simp at h
   ·have e':(n==k)=false:=by simpa using e
    rw[List.idxOf_cons,e']at h;exact Yjy (Nat.lt_of_succ_lt_succ h) (Nat.lt_of_succ_lt_succ h2)
section
variable {prog:Program}{w:World}{A:Around}{E:AA}{s:Shared}
theorem Yzl{l:Addr}{vs:AC}{ns:AK}{k:Str}{t:Tok}{Q:AA}(hl:s.heap.IsList l vs.toArray)(hi:StrsAre vs ns)
 (hb:ns.length<=2^24) (hk:k∈ns) (h:Q (.int (ns.idxOf k:Nat) s.toks) { s with toks:=s.toks+1 }) :
 wpAny (model prog w) A (call (.builtin "list.index") [.ref l,.str k t]) Q E s:=by
 obtain⟨⟨cls,dd,data,sl⟩,ho,hc,n,hd⟩:=id hl;simp only at hc hd;subst hc hd;have hlen:=StrsAre.len hi;have hj:ns.idxOf k<ns.length:=List.idxOf_lt_length_iff.mpr hk
 refine call_meets PySem.F.slot_list_index ⟨_,ho,rfl⟩ PySem.F.entry_list_index (PySem.F.args_list_index_2 _ _)
  (PySem.SeqAt.list_indexAt l vs.toArray n dd sl (.str k t) (isStrOf k) (ns.idxOf k) (by simpa [hlen]using hj) (by lia) ?_ ?_) ⟨ho,λy hy=>(eq_isStrOf k t hi y (by simpa using hy)).at _ _,h⟩
 ·show isStrOf k vs[ns.idxOf k]=true
  rw[Yk2 k hi _ (by lia) hj];simpa using List.getElem_idxOf hj
 ·intro j hjs hlt
  show isStrOf k vs[j]=false;rw[Yk2 k hi j (by simpa using hjs) (by lia)];exact Yjy hlt _
end
def idxT:D->D->Option D
 | .lst l,.str k=>(Ytc l).bind λns=>if k∈ns then some (.int (ns.idxOf k:Nat))else none
 | _,_=>none
theorem Yxw(l:AK)(k:Str):idxT (.lst (l.map D.str)) (.str k)=if k∈l then some (.int (l.idxOf k:Nat))else none:=by
 show(Ytc (l.map D.str)).bind _=_;rw[Ym4];rfl
section
variable {X:Cx}{a e:Expr}{fa f:AV}{pos:Pos}
def Yafr(K:W.Frag):V->AN->Hp->VK->Prop:=λx vs H Q=>∃(l:Addr) (ns:AK) (k:Str),x=.ref l/\vs=[.str k]/\SqL K H l (ns.map V.str)/\k∈ns/\Q (.int (ns.idxOf k:Nat)) H
theorem y3h:MtM X "list.index" (Yafr X.K):=by
 intro pins s σ H x vs v us Q I rx rv h;obtain⟨l,ns,k,rfl,rfl,hH,hk,q⟩:=h;cases rx;obtain⟨u,rfl,⟨t,rfl⟩⟩:=Yfj rv;obtain⟨its,r,pl,hz⟩:=I.list hH;exact Yzl pl.isList (Yzk r) (by rw[qf]at hz;exact hz) hk ⟨.int (ns.idxOf k:Nat),H,I.tok _,⟨_,rfl⟩,q⟩
theorem Ypp{apos cpos:Pos}(ha:ZC X a fa)(he:ZE X e f)(hs:starEach [e] X.env=[(false,eval e X.env)]:=by rfl)
 (hfew:Few X cpos [e]:=by rfl)
 (hline:(apos.endLine==cpos.line)=true:=by rfl) (hbase:attributeBase a "index" X.env (eval a X.env)=eval a X.env:=by rfl) :
 ZE X (.Call (.Attribute a "index" apos) [e] [] cpos) (b2 fa f idxT):=
 ⟨PE.imp (Yux PySem.F.plainAttrs_list PySem.F.slot_list_index PySem.F.type_list_index y3h ha.un (Yb7 he.un Yer hs) hbase hfew hline hs rfl) λσ H Q hx_=>by
  obtain⟨ρ,d,H0,G0,G,e,s,h⟩:=hx_;obtain⟨dx,h1,e⟩:=qa e;obtain⟨dy,h2,h3⟩:=qa e
  cases dx<;>try cases h3
  rename_i l
  cases dy<;>try cases h3
  rename_i k;obtain⟨ns,h4,h5⟩:=qa h3;by_cases hk:k∈ns
  ·rw[if_pos hk]at h5
   cases h5;have:=Yk1 h4;subst this;refine tCof.at h1 s λv H1 G1 g1 r1 s1=>?_;rw[Ct]at r1;obtain⟨p,xs,rfl,g,rl⟩:=r1;obtain⟨rfl,_⟩:=Yqz rl;refine⟨.inl ⟨rfl,_,.inl g⟩,tOf.at h2 s1 λu H2 G2 g2 r2 s2=>?_⟩;rw[Rp]at r2;obtain⟨rfl,_⟩:=r2;refine⟨p,ns,k,rfl,rfl,.inl (g.imp (g2.h _ _) λq=>q.imp λo q=>g2.h _ _ q),hk,?_⟩;exact h _ H2 G2 (g1.trans g2) (by rw[Rp])
  ·rw[if_neg hk]at h5
   cases h5⟩
end
end
end M
namespace Lw
open PySem PySem.Spec PyProof.Rows L2 M
def top(i:Nat):Stmt:=PySem.Challenge.pw_duskbook_k56_pages_read.main.body.getD i (.Pass ⟨0,0,0,0⟩)
def Yjz:AK:=[(Str.ofString "k"),(Str.ofString "s")]
def Ycl:AK:=[(Str.ofString "odd"),(Str.ofString "even")]
def Ya0:AK:=[(Str.ofString "+"),(Str.ofString "-")]
def Yxx:AK:=[(Str.ofString "keeper"),(Str.ofString "storm")]
def gt_HANDS_BY_LETTER:List (Str×Str):=[((Str.ofString "k"),(Str.ofString "keeper")),((Str.ofString "s"),(Str.ofString "storm"))]
def Yf4:AK:=[(Str.ofString "eithers"),(Str.ofString "sums"),(Str.ofString "ifs"),(Str.ofString "nots")]
def Yk3:List (Str×Str):=[((Str.ofString "keeper"),(Str.ofString "k")),((Str.ofString "storm"),(Str.ofString "s"))]
def gt_ODDS_BY_WORD:List (Str×Bool):=[((Str.ofString "odd"),true),((Str.ofString "even"),false)]
def gt_TRUTHS_BY_MARK:List (Str×Bool):=[((Str.ofString "+"),true),((Str.ofString "-"),false)]
def gt_TRUTHS_BY_SIGN:List (Str×Bool):=[((Str.ofString "1"),true),((Str.ofString "0"),false)]
set_option maxHeartbeats 4000000
def Fq(K:W.Frag)(mg:AE)(x:Str)(i:Nat):Prop:=∃a fd,Fun K x x (top i) a fd/\mg x=some (.ref a)
def Fk(K:W.Frag)(x:Str)(i:Nat):Prop:=∃a fd,W.nsIn K mainGlobals x=some (some (.ref a))/\Fun K x x (top i) a fd
theorem Fk.on{K:W.Frag}(F:Fk K x i)(X:K.In h)(G:h.Ns mainGlobals mg):Fq K mg x i:=by
 obtain⟨a,fd,n,f⟩:=F;exact⟨a,fd,f,W.mg_of X G n⟩
theorem fk_mk{K:W.Frag}{kV doc pm cdv ct:Value}(a:W.nsIn K mainGlobals x=some (some (.ref f)))(l:K.lookup f=some ⟨oc,od,.func (W.fnOf x x (defArgs (top i)) (defBody (top i)) (defScope (top i)) .none kV doc pm an cdv ct),osl⟩)(c:W.codeIn K cdv x=true)(k:W.keepIn K (.ref f)=true):Fk K x i:=⟨_,_,a,Yss l c k⟩
theorem fns{N ps:AK}{sc:Scope}(a:sc.kind=.function:=by rfl)(b:sc.isCoroutine=false:=by rfl)(c:sc.isGenerator=false:=by rfl)(d:N.Nodup:=by decide +kernel)(e:N.take ps.length=ps:=by rfl)(f:∀x∈ps,sc.names.lookup x=some .local\/sc.names.lookup x=some .cell:=by decide +kernel)(g:∀y∈sc.names,y.2≠.free:=by decide +kernel):FnScope N ps sc:=⟨a,b,c,d,e,f,g⟩
def Bnd(x:Str)(i:Nat)(ps:AK):Prop:=∀(kV doc pm:Value) (an:Option Addr) (cdv ct:Value) (us:AC),us.length=ps.length->bindArgs (W.fnOf x x (defArgs (top i)) (defBody (top i)) (defScope (top i)) .none kV doc pm an cdv ct) ⟨us,[]⟩=pure (ps.zip us)
theorem okfn{K:W.Frag}{i k n m:Nat}(F:Fq K mg x i)(S:FnScope N ps (defScope (top i)))(hb:∀{f:Addr}{cdv:Value}{A:Around}{outer:List Env}{s:Shared}{H:Hp}{E:XK},Room k (A.deeper (envOfC x (defScope (top i)) (~~~s) f cdv))->ZB (cxOf CX0 P w K mg base N x (defScope (top i)) f cdv A outer s H E).nox (defBody (top i)) fb)(hn:N.length=n:=by rfl)(hm:ps.length=m:=by rfl)(B:Bnd x i ps:=by(intro _ _ _ _ _ _ us hl;first|(obtain⟨_,rfl⟩:=len1 hl;rfl)|(obtain⟨_,_,rfl⟩:=len2 hl;rfl)|(obtain⟨_,_,_,rfl⟩:=len3 hl;rfl)|(obtain⟨_,_,_,_,rfl⟩:=len4 hl;rfl)|(obtain⟨_,_,_,_,_,rfl⟩:=len5 hl;rfl)|(obtain⟨_,_,_,_,_,_,rfl⟩:=len6 hl;rfl)|(obtain⟨_,_,_,_,_,_,_,rfl⟩:=len7 hl;rfl))):Okf P w K mg base (k+1) m x ps (runB m n fb):=by
 obtain⟨a,fd,f,h⟩:=F;exact Yacs f (f.binds B) h (Ykx (k:=k) f S hn hm λ_ _ _ _ _ _ hr=>hb hr)
theorem aL1:∀ρ l,Yg f0 aNil ρ=some l->l.length=1:=Ygx λ_ _ h=>y4x h
theorem aL2:∀ρ l,Yg f0 (Yg f1 aNil) ρ=some l->l.length=2:=Ygx aL1
theorem aL3:∀ρ l,Yg f0 (Yg f1 (Yg f2 aNil)) ρ=some l->l.length=3:=Ygx aL2
theorem aL4:∀ρ l,Yg f0 (Yg f1 (Yg f2 (Yg f3 aNil))) ρ=some l->l.length=4:=Ygx aL3
theorem aL5:∀ρ l,Yg f0 (Yg f1 (Yg f2 (Yg f3 (Yg f4 aNil)))) ρ=some l->l.length=5:=Ygx aL4
theorem okfh{P:Program}{w:World}{K:W.Frag}{mg:AE}{base:Heap}{x:Str}{i k n m:Nat}{N ps:AK}{g:Hm}(F:Fq K mg x i)(S:FnScope N ps (defScope (top i)))(hb:∀{f:Addr}{cdv:Value}{A:Around}{outer:List Env}{s:Shared}{H:Hp}{E:XK},Room k (A.deeper (envOfC x (defScope (top i)) (~~~s) f cdv))->ZHB (cxOf CX0 P w K mg base N x (defScope (top i)) f cdv A outer s H E).nox (defBody (top i)) g)(hn:N.length=n:=by rfl)(hm:ps.length=m:=by rfl)(B:Bnd x i ps:=by(intro _ _ _ _ _ _ us hl;first|(obtain⟨_,rfl⟩:=len1 hl;rfl)|(obtain⟨_,_,rfl⟩:=len2 hl;rfl)|(obtain⟨_,_,_,rfl⟩:=len3 hl;rfl)|(obtain⟨_,_,_,_,rfl⟩:=len4 hl;rfl))):OkH P w K mg base (k+1) m x ps (runH n g):=by
 obtain⟨a,fd,f,h⟩:=F;exact⟨a,fd,Yvp (k:=k) f S hn hm λ_ _ _ _ _ _ hr=>hb hr,f.binds B,f.kp,h⟩
theorem fcs1{K:W.Frag}{a f:Str}(h:CF K a f):∀c∈[a],CF K c f:=λc hc=>by
 cases List.mem_singleton.mp hc;exact h
theorem aM2{f0 f1:AV}:∀ρ l,Yg f0 (Yg f1 aNil) ρ=some l->l.length+([]:AQ).length=2:=aL2
structure Bl(K:W.Frag)(w:World)(mg:AE):Prop where
 Len:mg "len"=none
 Range:mg "range"=none
 List:mg "list"=none
 Tuple:mg "tuple"=none
 Int:mg "int"=none
 Bool:mg "bool"=none
 Str:mg "str"=none
 Sorted:mg "sorted"=none
 Any:mg "any"=none
 All:mg "all"=none
 Isinstance:mg "isinstance"=none
 Enumerate:mg "enumerate"=none
 Reversed:mg "reversed"=none
 Set:mg "set"=none
 Max:mg "max"=none
 g_BEACON_COUNT:GI mg "BEACON_COUNT" 60
 g_FIGURES:GS mg "FIGURES" "0123456789"
 g_HANDS:GT K mg "HANDS" Yxx
 g_HANDS_BY_LETTER:GD K w mg "HANDS_BY_LETTER" gt_HANDS_BY_LETTER
 g_KINDS:GT K mg "KINDS" Yf4
 g_LETTERS:GD K w mg "LETTERS" Yk3
 g_MOST_FIGURES:GI mg "MOST_FIGURES" 3
 g_MOST_RULES:GI mg "MOST_RULES" 60
 g_MOST_SAYINGS:GI mg "MOST_SAYINGS" 2
 g_ODDS_BY_WORD:GDB K w mg "ODDS_BY_WORD" gt_ODDS_BY_WORD
 g_TRUTHS_BY_MARK:GDB K w mg "TRUTHS_BY_MARK" gt_TRUTHS_BY_MARK
 g_TRUTHS_BY_SIGN:GDB K w mg "TRUTHS_BY_SIGN" gt_TRUTHS_BY_SIGN
 k_HANDS_BY_LETTER:GK K w mg "HANDS_BY_LETTER" Yjz
 k_ODDS_BY_WORD:GK K w mg "ODDS_BY_WORD" Ycl
 k_TRUTHS_BY_MARK:GK K w mg "TRUTHS_BY_MARK" Ya0
 f13:Fq K mg "is_beacon" 13
 f14:Fq K mg "checked_beacon" 14
 f15:Fq K mg "checked_truth" 15
 f16:Fq K mg "checked_beacons" 16
 f17:Fq K mg "either_made" 17
 f18:Fq K mg "sum_made" 18
 f19:Fq K mg "if_made" 19
 f20:Fq K mg "rule_made" 20
 f21:Fq K mg "book_made" 21
 f22:Fq K mg "either_holds" 22
 f23:Fq K mg "sum_holds" 23
 f24:Fq K mg "if_holds" 24
 f25:Fq K mg "rule_holds" 25
 f26:Fq K mg "broken_rules" 26
 f27:Fq K mg "holds" 27
 f28:Fq K mg "beacons_in" 28
 f29:Fq K mg "beacons_of" 29
 f30:Fq K mg "without" 30
 f31:Fq K mg "either_left" 31
 f32:Fq K mg "sum_left" 32
 f33:Fq K mg "if_left" 33
 f34:Fq K mg "rule_left" 34
 f35:Fq K mg "left_behind" 35
 f38:Fq K mg "is_hand" 38
 f39:Fq K mg "check_hands" 39
 f49:Fq K mg "saying_written" 49
 f50:Fq K mg "rule_written" 50
 f51:Fq K mg "signs_written" 51
 f52:Fq K mg "page_written" 52
 f53:Fq K mg "number_read" 53
 f54:Fq K mg "beacon_read" 54
 f55:Fq K mg "saying_read" 55
 f56:Fq K mg "hand_read" 56
 f57:Fq K mg "truth_read" 57
 f58:Fq K mg "each_read" 58
 f59:Fq K mg "sum_read" 59
 f60:Fq K mg "if_read" 60
 f61:Fq K mg "rule_read" 61
 f62:Fq K mg "kind_read" 62
 f63:Fq K mg "hands_read" 63
 f64:Fq K mg "settled_read" 64
 f65:Fq K mg "rows_read" 65
 f66:Fq K mg "watch_made" 66
 f67:Fq K mg "page_read" 67
 f69:Fq K mg "_law_cell" 69
 f70:Fq K mg "_law_mixed" 70
 f71:Fq K mg "_law_rule" 71
 f72:Fq K mg "_law_drawn" 72
 f73:Fq K mg "_law_saying_word" 73
 f74:Fq K mg "_law_rule_words" 74
 f75:Fq K mg "_law_rows" 75
 f76:Fq K mg "_law_page" 76
 f77:Fq K mg "_law_turned" 77
 f78:Fq K mg "_law_left" 78
 f79:Fq K mg "_law_right" 79
 r_Watch_back:Mq K "Watch" "back" "Watch.back" (inClass (top 40) 6)
 r_Watch_evening:Mq K "Watch" "evening" "Watch.evening" (inClass (top 40) 2)
 r_Watch_left:Mq K "Watch" "left" "Watch.left" (inClass (top 40) 3)
 r_Watch_settle:Mq K "Watch" "settle" "Watch.settle" (inClass (top 40) 5)
 r_Watch_turn:Mq K "Watch" "turn" "Watch.turn" (inClass (top 40) 1)
 r_Watch_winner:Mq K "Watch" "winner" "Watch.winner" (inClass (top 40) 4)
 i_Watch:Iqc K "Watch" "Watch.__init__" (inClass (top 40) 0)
 n_Watch_book:Nq K "Watch" "book"
 n_Watch_hands:Nq K "Watch" "hands"
 n_Watch_truths:Nq K "Watch" "truths"
 c_Watch:∀C,W.nsIn K mainGlobals "Watch"=some (some (.ref C))->mg "Watch"=some (.ref C)
 a_beacon_read:GA mg "beacon_read" 356
 a_hand_read:GA mg "hand_read" 370
 a_truth_read:GA mg "truth_read" 377
 a_saying_read:GA mg "saying_read" 363
section
variable {P:Program}{w:World}{K:W.Frag}{mg:AE}{base:Heap}
theorem Yti:FnScope ["thing"] ["thing"] (defScope (top 13)):=fns
def Yi2:AS:=(sRet (andV (mB (b1 (getC 0) (isiD "int"))) (andV (notV (mB (b1 (getC 0) (isiD "bool")))) (mB (ch3 (kD (.int 0)) (getC 0) (kD (.int 60)) leI ltI)))))
def Yb8:AQ->Option D:=runB 1 1 Yi2
theorem Ylh(bl:Bl K w mg):Okf P w K mg base 1 1 "is_beacon" ["thing"] Yb8:=by
 refine okfn bl.f13 Yti λhr=>?_;exact(Yk (Yp (Yqq (Yky (Yd 0) rfl rfl bl.Isinstance bl.Int boot_int (y8z)) (Yqq (y2j (Yky (Yd 0) rfl rfl bl.Isinstance bl.Bool boot_bool (Yxa))) (Yqp (y2l y72 Yis Yabh Yis (Yc Yh) (Yd 0) (Yc (Yjn bl.g_BEACON_COUNT rfl))))))))
theorem Yk4:FnScope ["thing"] ["thing"] (defScope (top 14)):=fns
def Ygm:AS:=(sSeq (sIf (notT (b1 (cC (Yg (getV 0) aNil) Yb8) truD)) nS sNil) (sRet (getV 0)))
def Ya4:AQ->Option D:=runB 1 1 Ygm
theorem Ycw(bl:Bl K w mg):Okf P w K mg base 2 1 "checked_beacon" ["thing"] Ya4:=by
 refine okfn bl.f14 Yk4 λhr=>?_;exact(Yi (y8 (Ycj (Yaq (Yc (Ym (Ylh bl) hr rfl (Yb (Ye 0) Yj) aL1)))) (Yk Yaf) Yw) (Yk (Yp (Ye 0))))
theorem Ylr:FnScope ["thing"] ["thing"] (defScope (top 15)):=fns
def Yg6:AS:=(sSeq (sIf (orT (b2 (getC 0) (kD (.bl true)) (isB false)) (b2 (getC 0) (kD (.bl false)) (isB false))) (sRet (getV 0)) sNil) nS)
def Ybp:AQ->Option D:=runB 1 1 Yg6
theorem Ygn(bl:Bl K w mg):Okf P w K mg base 1 1 "checked_truth" ["thing"] Ybp:=by
 refine okfn bl.f15 Ylr λhr=>?_;exact(Yi (y8 (Ycd (Yew (y2n (Yd 0) (Yc Yet)) (Ydq (y2n (Yd 0) (Yc Yet))))) (Yk (Yp (Ye 0))) Yw) (Yk Yaf))
theorem sc_checked_beacons:FnScope ["beacons","checked"] ["beacons"] (defScope (top 16)):=fns
theorem cs_checked_beacons_0:CompSc ["beacons","checked"] (defScope (top 16)) ["beacon"] [none] (fsc [(".0",.local),("beacon",.local),("checked_beacon",.globalImplicit)]):=y6 (by decide +kernel)
def Ybx:AV:=(cC (Yg (getV 0) aNil) Ya4)
@[simp] def Yi3:AS:=(sRet (cC (Yg (lF (cF (Yg (getC 1) aNil) Ymo)) aNil) tupC))
@[simp] def Yi4:AS:=(sSeq (sIf (b2 (cC (Yg (getC 1) aNil) Ykv) (cC (Yg (getC 1) aNil) lenC) ltI) nS sNil) Yi3)
def Yfp:AS:=(sSeq (sOwn 1 (Ybd (b1 (getV 0) Yr) [none] (gSet 0) tY (Ybx))) Yi4)
def Ybb:AQ->Option D:=runB 1 2 Yfp
theorem Yez(bl:Bl K w mg):Okf P w K mg base 3 1 "checked_beacons" ["beacons"] Ybb:=by
 refine okfn bl.f16 sc_checked_beacons λhr=>?_;exact(Yi (Yck 1 sc_checked_beacons.nd cs_checked_beacons_0 rfl (Yae (Ye 0)) (λ_ _ _ _ _=>(y7 0 cs_checked_beacons_0.nd)) (λ_ _ _ _ _=>Yar) (λ_ _ _ _ _=>(Ym (Ycw bl) hr rfl (Yb (Ye 0) Yj) aL1)) (Yaj (i:=0) rfl)) (Yi (y8 (Ys7 (Yc (Ypk rfl hr.units bl.Len bl.Set rfl rfl (Yl (Yd 1) Yn))) (Yc (Yt Ys Yai rfl bl.Len PySem.boot_len (Yl (Yd 1) Yn)))) (Yk Yaf) Yw) (Yk (Yp (Yad Yak Ydp rfl bl.Tuple boot_tuple (Yl (Yc (Yu (Yg2 Ydf Yef rfl bl.Sorted boot_sorted (Yl (Yd 1) Yn)))) Yn))))))
theorem sc_either_made:FnScope ["sayings","checked"] ["sayings"] (defScope (top 17)):=fns
theorem cs_either_made_0:CompSc ["sayings","checked"] (defScope (top 17)) ["saying"] [none] (fsc [(".0",.local),("saying",.local),("checked_beacon",.globalImplicit),("checked_truth",.globalImplicit)]):=y6 (by decide +kernel)
def Ydr:AV:=(dTup (Yg (cC (Yg (b2 (getC 0) (kD (.int 0)) ixD) aNil) Ya4) (Yg (cC (Yg (b2 (getC 0) (kD (.int 1)) ixD) aNil) Ybp) aNil)))
@[simp] def Ym6:AS:=(sRet (cC (Yg (lF (cF (Yg (getC 1) aNil) Ymo)) aNil) tupC))
@[simp] def Ym7:AS:=(sSeq (sIf (b2 (cC (Yg (getC 1) aNil) Ykv) (cC (Yg (getC 1) aNil) lenC) ltI) nS sNil) Ym6)
@[simp] def Ym8:AS:=(sSeq (sOwn 1 (Ybd (b1 (getV 0) Yr) [none] (gSet 0) tY (Ydr))) Ym7)
def Yj0:AS:=(sSeq (sIf (b2 (cC (Yg (getC 0) aNil) lenC) (kD (.int 2)) gtI) nS sNil) Ym8)
def Yd1:AQ->Option D:=runB 1 2 Yj0
theorem Yoj(bl:Bl K w mg):Okf P w K mg base 3 1 "either_made" ["sayings"] Yd1:=by
 refine okfn bl.f17 sc_either_made λhr=>?_;exact(Yi (y8 (Yib (Yc (Yt Ys Yai rfl bl.Len PySem.boot_len (Yl (Yd 0) Yn))) (Yc (Yjn bl.g_MOST_SAYINGS rfl))) (Yk Yaf) Yw) (Yi (Yck 1 sc_either_made.nd cs_either_made_0 rfl (Yae (Ye 0)) (λ_ _ _ _ _=>(y7 0 cs_either_made_0.nd)) (λ_ _ _ _ _=>Yar) (λ_ _ _ _ _=>(Ybw (Yb (Ym (Ycw bl) hr rfl (Yb (Yo (Yd 0) (Yc Yh)) Yj) aL1) (Yb (Ym (Ygn bl) hr rfl (Yb (Yo (Yd 0) (Yc Yh)) Yj) aL1) Yj)))) (Yaj (i:=0) rfl)) (Yi (y8 (Ys7 (Yc (Ypk rfl hr.units bl.Len bl.Set rfl rfl (Yl (Yd 1) Yn))) (Yc (Yt Ys Yai rfl bl.Len PySem.boot_len (Yl (Yd 1) Yn)))) (Yk Yaf) Yw) (Yk (Yp (Yad Yak Ydp rfl bl.Tuple boot_tuple (Yl (Yc (Yu (Yg2 Ydf Yef rfl bl.Sorted boot_sorted (Yl (Yd 1) Yn)))) Yn)))))))
theorem Yvq:FnScope ["rule"] ["rule"] (defScope (top 18)):=fns
def Ypq:AS:=(sRet (dTup (Yg (cC (Yg (b2 (getC 0) (kD (.int 0)) ixD) aNil) Ybb) (Yg (cC (Yg (b2 (getC 0) (kD (.int 1)) ixD) aNil) Ybp) aNil))))
def Yht:AQ->Option D:=runB 1 1 Ypq
theorem Yvr(bl:Bl K w mg):Okf P w K mg base 4 1 "sum_made" ["rule"] Yht:=by
 refine okfn bl.f18 Yvq λhr=>?_;exact(Yk (Yp (Ybw (Yb (Ym (Yez bl) hr rfl (Yb (Yo (Yd 0) (Yc Yh)) Yj) aL1) (Yb (Ym (Ygn bl) hr rfl (Yb (Yo (Yd 0) (Yc Yh)) Yj) aL1) Yj)))))
theorem sc_if_made:FnScope ["rule","head"] ["rule"] (defScope (top 19)):=fns
@[simp] def Yvs:AS:=(sRet (dTup (Yg (cC (Yg (b2 (getC 0) (kD (.int 0)) ixD) aNil) Ybb) (Yg (getV 1) aNil))))
@[simp] def Yvt:AS:=(sSeq (sIf (b2 (getC 1) (kD .non) (isN true)) (sSet 1 (cC (Yg (getV 1) aNil) Ya4)) sNil) Yvs)
def Ym9:AS:=(sSeq (sSet 1 (b2 (getC 0) (kD (.int 1)) ixD)) Yvt)
def Yj1:AQ->Option D:=runB 1 2 Ym9
theorem Yzm(bl:Bl K w mg):Okf P w K mg base 4 1 "if_made" ["rule"] Yj1:=by
 refine okfn bl.f19 sc_if_made λhr=>?_;exact(Yi (Yab 1 sc_if_made.nd (Yo (Yd 0) (Yc Yh))) (Yi (y8 (Yl2 (Yd 1) (Yc Yay)) (Yk (Yab 1 sc_if_made.nd (Ym (Ycw bl) hr rfl (Yb (Ye 1) Yj) aL1))) Yw) (Yk (Yp (Ybw (Yb (Ym (Yez bl) hr rfl (Yb (Yo (Yd 0) (Yc Yh)) Yj) aL1) (Yb (Ye 1) Yj)))))))
theorem Ytj:FnScope ["kind","rule"] ["kind","rule"] (defScope (top 20)):=fns
@[simp] def Yq2:AS:=(sRet (cC (Yg (getV 1) aNil) Yj1))
@[simp] def Yq3:AS:=(sSeq (sIf (b2 (getC 0) (kD (.str "sums")) (eqM false)) (sRet (cC (Yg (getV 1) aNil) Yht)) sNil) Yq2)
def Yf5:AS:=(sSeq (sIf (b2 (getC 0) (kD (.str "eithers")) (eqM false)) (sRet (cC (Yg (getV 1) aNil) Yd1)) sNil) Yq3)
def Yf6:AQ->Option D:=runB 2 2 Yf5
theorem Ytk(bl:Bl K w mg):Okf P w K mg base 5 2 "rule_made" ["kind","rule"] Yf6:=by
 refine okfn bl.f20 Ytj λhr=>?_;exact(Yi (y8 (Ya1 hr.units (Yd 0) (Yc Yv)) (Yk (Yp (Ym (Yoj bl) hr rfl (Yb (Ye 1) Yj) aL1))) Yw) (Yi (y8 (Ya1 hr.units (Yd 0) (Yc Yv)) (Yk (Yp (Ym (Yvr bl) hr rfl (Yb (Ye 1) Yj) aL1))) Yw) (Yk (Yp (Ym (Yzm bl) hr rfl (Yb (Ye 1) Yj) aL1)))))
theorem Ytl:FnScope ["kind","rules"] ["kind","rules"] (defScope (top 21)):=fns
theorem cs_book_made_0:CompSc ["kind","rules"] (defScope (top 21)) ["rule","kind"] [none,some 0] (fsc [(".0",.local),("rule",.local),("rule_made",.globalImplicit),("kind",.free)]):=y6 (by decide +kernel)
def Ye6:AV:=(cC (Yg (getV 1) (Yg (getV 0) aNil)) Yf6)
@[simp] def Yq4:AS:=(sRet (dTup (Yg (getV 0) (Yg (cC (Yg (lF (Ybd (b1 (getV 1) Yr) [none,some 0] (gSet 0) tY (Ye6))) aNil) tupC) aNil))))
@[simp] def Yq5:AS:=(sSeq (sIf (b2 (cC (Yg (getC 1) aNil) lenC) (kD (.int 60)) gtI) nS sNil) Yq4)
def Yna:AS:=(sSeq (sIf (orT (notT (b1 (mB (b1 (getC 0) (isiD "str"))) truD)) (b1 (getC 0) (inG true Yf4))) nS sNil) Yq5)
def Yf7:AQ->Option D:=runB 2 2 Yna
theorem Ytm(bl:Bl K w mg):Okf P w K mg base 6 2 "book_made" ["kind","rules"] Yf7:=by
 refine okfn bl.f21 Ytl λhr=>?_;exact(Yi (y8 (Ycd (Yew (Ycj (Yaq (Yc (Yky (Yd 0) rfl rfl bl.Isinstance bl.Str boot_str (y1m))))) (Ydq (Yxi hr.units bl.g_KINDS rfl (Yd 0))))) (Yk Yaf) Yw) (Yi (y8 (Yib (Yc (Yt Ys Yai rfl bl.Len PySem.boot_len (Yl (Yd 1) Yn))) (Yc (Yjn bl.g_MOST_RULES rfl))) (Yk Yaf) Yw) (Yk (Yp (Ybw (Yb (Ye 0) (Yb (Yad Yak Ydp rfl bl.Tuple boot_tuple (Yl (Yc (Yu (Yat cs_book_made_0 rfl (Yae (Ye 1)) (λ_ _ _ _ _=>(y7 0 cs_book_made_0.nd)) (λ_ _ _ _ _=>Yar) (λ_ _ _ _ _=>(Ym (Ytk bl) hr rfl (Yb (Ye 1) (Yb (Ye 0) Yj)) aL2)) (Yaj (i:=0) rfl)))) Yn)) Yj)))))))
theorem Ynb:FnScope ["rule","evening"] ["rule","evening"] (defScope (top 22)):=fns
theorem cs_either_holds_0:CompSc ["rule","evening"] (defScope (top 22)) ["saying","evening"] [none,some 1] (fsc [(".0",.local),("saying",.local),("evening",.free)]):=y6 (by decide +kernel)
def Ycx:AV:=(mB (b2 (b2 (getC 1) (b2 (getC 0) (kD (.int 0)) ixD) ixD) (b2 (getC 0) (kD (.int 1)) ixD) (eqM false)))
def Yid:AS:=(sRet (cC (Yg (lF (Ybd (b1 (getV 0) Yr) [none,some 1] (gSet 0) tY (Ycx))) aNil) anyC))
def Yc7:AQ->Option D:=runB 2 2 Yid
theorem Ync(bl:Bl K w mg):Okf P w K mg base 1 2 "either_holds" ["rule","evening"] Yc7:=by
 refine okfn bl.f22 Ynb λhr=>?_;exact(Yk (Yp (Yt (Yji rfl) Yql rfl bl.Any boot_any (Yl (Yc (Yu (Yat cs_either_holds_0 rfl (Yae (Ye 0)) (λ_ _ _ _ _=>(y7 0 cs_either_holds_0.nd)) (λ_ _ _ _ _=>Yar) (λ_ _ _ _ _=>(Yfo hr.units (Yc (Yo (Yd 1) (Yc (Yo (Yd 0) (Yc Yh))))) (Yc (Yo (Yd 0) (Yc Yh))))) (Yaj (i:=0) rfl)))) Yn))))
theorem sc_sum_holds:FnScope ["rule","evening","lit_ones"] ["rule","evening"] (defScope (top 23)):=fns
theorem cs_sum_holds_0:CompSc ["rule","evening","lit_ones"] (defScope (top 23)) ["beacon","evening"] [none,some 1] (fsc [(".0",.local),("beacon",.local),("evening",.free)]):=y6 (by decide +kernel)
def Ye7:AU:=(b1 (b2 (getC 1) (getC 0) ixD) truD)
def Ye8:AV:=(getV 0)
def Ynd:AS:=(sSeq (sOwn 2 (Ybd (b1 (b2 (getC 0) (kD (.int 0)) ixD) Yr) [none,some 1] (gSet 0) (Ye7) (Ye8))) (sRet (mB (b2 (mB (b2 (b2 (cC (Yg (getC 2) aNil) lenC) (kD (.int 2)) modI) (kD (.int 1)) (eqM false))) (b2 (getC 0) (kD (.int 1)) ixD) (eqM false)))))
def Yf8:AQ->Option D:=runB 2 3 Ynd
theorem Ytn(bl:Bl K w mg):Okf P w K mg base 1 2 "sum_holds" ["rule","evening"] Yf8:=by
 refine okfn bl.f23 sc_sum_holds λhr=>?_;exact(Yi (Yck 2 sc_sum_holds.nd cs_sum_holds_0 rfl (Yae (Yo (Yd 0) (Yc Yh))) (λ_ _ _ _ _=>(y7 0 cs_sum_holds_0.nd)) (λ_ _ _ _ _=>(Yjo (Yaq (Yc (Yo (Yd 1) (Yd 0)))))) (λ_ _ _ _ _=>(Ye 0)) (Yaj (i:=0) rfl)) (Yk (Yp (Yfo hr.units (Yc (Yfo hr.units (Yc (Ya7 (Yc (Yt Ys Yai rfl bl.Len PySem.boot_len (Yl (Yd 2) Yn))) (Yc Yh))) (Yc Yh))) (Yc (Yo (Yd 0) (Yc Yh)))))))
theorem Yvu:FnScope ["rule","evening","lit"] ["rule","evening","lit"] (defScope (top 24)):=fns
theorem cs_if_holds_0:CompSc ["rule","evening","lit"] (defScope (top 24)) ["beacon","evening","lit"] [none,some 1,some 2] (fsc [(".0",.local),("beacon",.local),("evening",.free),("lit",.free)]):=y6 (by decide +kernel)
def Yf9:AV:=(mB (b2 (b2 (getC 1) (getC 0) ixD) (getC 2) (eqM true)))
def Yhu:AS:=(sSeq (sIf (b1 (cC (Yg (lF (Ybd (b1 (b2 (getC 0) (kD (.int 0)) ixD) Yr) [none,some 1,some 2] (gSet 0) tY (Yf9))) aNil) anyC) truD) (sRet (kD (.bl true))) sNil) (sRet (andV (mB (b2 (b2 (getC 0) (kD (.int 1)) ixD) (kD .non) (isN true))) (mB (b2 (b2 (getC 1) (b2 (getC 0) (kD (.int 1)) ixD) ixD) (getC 2) (eqM false))))))
def Yhv:AQ->Option D:=runB 3 3 Yhu
theorem Yvv(bl:Bl K w mg):Okf P w K mg base 1 3 "if_holds" ["rule","evening","lit"] Yhv:=by
 refine okfn bl.f24 Yvu λhr=>?_;exact(Yi (y8 (Yaq (Yc (Yt (Yji rfl) Yql rfl bl.Any boot_any (Yl (Yc (Yu (Yat cs_if_holds_0 rfl (Yae (Yo (Yd 0) (Yc Yh))) (λ_ _ _ _ _=>(y7 0 cs_if_holds_0.nd)) (λ_ _ _ _ _=>Yar) (λ_ _ _ _ _=>(y7i hr.units (Yc (Yo (Yd 1) (Yd 0))) (Yd 2))) (Yaj (i:=0) rfl)))) Yn)))) (Yk (Yp Yet)) Yw) (Yk (Yp (Yqq (y5g (Yc (Yo (Yd 0) (Yc Yh))) (Yc Yay)) (Yqp (Yfo hr.units (Yc (Yo (Yd 1) (Yc (Yo (Yd 0) (Yc Yh))))) (Yd 2)))))))
theorem Yq6:FnScope ["kind","rule","evening"] ["kind","rule","evening"] (defScope (top 25)):=fns
@[simp] def Yok:AS:=(sRet (cC (Yg (getV 1) (Yg (getV 2) (Yg (mB (b2 (getC 0) (kD (.str "ifs")) (eqM false))) aNil))) Yhv))
@[simp] def Yol:AS:=(sSeq (sIf (b2 (getC 0) (kD (.str "sums")) (eqM false)) (sRet (cC (Yg (getV 1) (Yg (getV 2) aNil)) Yf8)) sNil) Yok)
def Ydh:AS:=(sSeq (sIf (b2 (getC 0) (kD (.str "eithers")) (eqM false)) (sRet (cC (Yg (getV 1) (Yg (getV 2) aNil)) Yc7)) sNil) Yol)
def Ye0:AQ->Option D:=runB 3 3 Ydh
theorem Yq7(bl:Bl K w mg):Okf P w K mg base 2 3 "rule_holds" ["kind","rule","evening"] Ye0:=by
 refine okfn bl.f25 Yq6 λhr=>?_;exact(Yi (y8 (Ya1 hr.units (Yd 0) (Yc Yv)) (Yk (Yp (Ym (Ync bl) hr rfl (Yb (Ye 1) (Yb (Ye 2) Yj)) aL2))) Yw) (Yi (y8 (Ya1 hr.units (Yd 0) (Yc Yv)) (Yk (Yp (Ym (Ytn bl) hr rfl (Yb (Ye 1) (Yb (Ye 2) Yj)) aL2))) Yw) (Yk (Yp (Ym (Yvv bl) hr rfl (Yb (Ye 1) (Yb (Ye 2) (Yb (Yfo hr.units (Yd 0) (Yc Yv)) Yj))) aL3)))))
theorem Yne:FnScope ["book","evening"] ["book","evening"] (defScope (top 26)):=fns
theorem cs_broken_rules_0:CompSc ["book","evening"] (defScope (top 26)) ["place","rule","book","evening"] [none,none,some 0,some 1] (fsc [(".0",.local),("place",.local),("rule",.local),("rule_holds",.globalImplicit),("book",.free),("evening",.free)]):=y6 (by decide +kernel)
def Ycy:AU:=(notT (b1 (cC (Yg (b2 (getC 2) (kD (.int 0)) ixD) (Yg (getV 1) (Yg (getV 3) aNil))) Ye0) truD))
def Ycz:AV:=(getV 0)
def Yie:AS:=(sRet (lF (Ybd (b1 (b2 (getC 0) (kD (.int 1)) ixD) Yy9) [none,none,some 0,some 1] (Yof 0 1) (Ycy) (Ycz))))
def Yc8:AQ->Option D:=runB 2 2 Yie
theorem Ynf(bl:Bl K w mg):Okf P w K mg base 3 2 "broken_rules" ["book","evening"] Yc8:=by
 refine okfn bl.f26 Yne λhr=>?_;exact(Yk (Yp (Yu (Yat cs_broken_rules_0 rfl (Yjm rfl bl.Enumerate (Yo (Yd 0) (Yc Yh))) (λ_ _ _ _ _=>(Yxg 0 1 rfl cs_broken_rules_0.nd)) (λ_ _ _ _ _=>(Yjo (Ycj (Yaq (Yc (Ym (Yq7 bl) hr rfl (Yb (Yo (Yd 2) (Yc Yh)) (Yb (Ye 1) (Yb (Ye 3) Yj))) aL3)))))) (λ_ _ _ _ _=>(Ye 0)) (y4y (i:=0) (k:=1) rfl rfl)))))
theorem y6f:FnScope ["book","evening"] ["book","evening"] (defScope (top 27)):=fns
def y3i:AS:=(sRet (mB (b2 (cC (Yg (cC (Yg (getV 0) (Yg (getV 1) aNil)) Yc8) aNil) lenC) (kD (.int 0)) (eqM false))))
def Yq8:AQ->Option D:=runB 2 2 y3i
theorem y6g(bl:Bl K w mg):Okf P w K mg base 4 2 "holds" ["book","evening"] Yq8:=by
 refine okfn bl.f27 y6f λhr=>?_;exact(Yk (Yp (Yfo hr.units (Yc (Yt Ys Yai rfl bl.Len PySem.boot_len (Yl (Yc (Ym (Ynf bl) hr rfl (Yb (Ye 0) (Yb (Ye 1) Yj)) aL2)) Yn))) (Yc Yh))))
theorem Yq9:FnScope ["kind","rule"] ["kind","rule"] (defScope (top 28)):=fns
theorem cs_beacons_in_0:CompSc ["kind","rule"] (defScope (top 28)) ["saying"] [none] (fsc [(".0",.local),("saying",.local)]):=y6 (by decide +kernel)
def Yej:AV:=(b2 (getC 0) (kD (.int 0)) ixD)
@[simp] def Yom:AS:=(sRet (lF (b2 (lF (cF (Yg (b2 (getC 1) (kD (.int 0)) ixD) aNil) Yy1)) (lF (dLst (Yg (b2 (getC 1) (kD (.int 1)) ixD) aNil))) catD)))
@[simp] def Yon:AS:=(sSeq (sIf (orT (b2 (getC 0) (kD (.str "sums")) (eqM false)) (b2 (b2 (getC 1) (kD (.int 1)) ixD) (kD .non) (isN false))) (sRet (lF (cF (Yg (b2 (getC 1) (kD (.int 0)) ixD) aNil) Yy1))) sNil) Yom)
def Ydi:AS:=(sSeq (sIf (b2 (getC 0) (kD (.str "eithers")) (eqM false)) (sRet (lF (Ybd (b1 (getV 1) Yr) [none] (gSet 0) tY (Yej)))) sNil) Yon)
def Ydj:AQ->Option D:=runB 2 2 Ydi
theorem Yj2(bl:Bl K w mg):Okf P w K mg base 1 2 "beacons_in" ["kind","rule"] Ydj:=by
 refine okfn bl.f28 Yq9 λhr=>?_;exact(Yi (y8 (Ya1 hr.units (Yd 0) (Yc Yv)) (Yk (Yp (Yu (Yat cs_beacons_in_0 rfl (Yae (Ye 1)) (λ_ _ _ _ _=>(y7 0 cs_beacons_in_0.nd)) (λ_ _ _ _ _=>Yar) (λ_ _ _ _ _=>(Yo (Yd 0) (Yc Yh))) (Yaj (i:=0) rfl))))) Yw) (Yi (y8 (Ycd (Yew (Ya1 hr.units (Yd 0) (Yc Yv)) (Ydq (Yqr (Yc (Yo (Yd 1) (Yc Yh))) (Yc Yay))))) (Yk (Yp (Yu (Ykw Ygv Yqi rfl bl.List boot_list (Yl (Yc (Yo (Yd 1) (Yc Yh))) Yn))))) Yw) (Yk (Yp (Yu (Yct (Yc (Yu (Ykw Ygv Yqi rfl bl.List boot_list (Yl (Yc (Yo (Yd 1) (Yc Yh))) Yn)))) (Yc (Yu (Yag (Yb (Yo (Yd 1) (Yc Yh)) Yj))))))))))
theorem sc_beacons_of:FnScope ["book","found","rule"] ["book"] (defScope (top 29)):=fns
def Yek:AS:=(sMut 1 (cC (Yg (b2 (getC 0) (kD (.int 0)) ixD) (Yg (getV 2) aNil)) Ydj) extD)
@[simp] def Yoo:AS:=(sRet (lF (Yjk (getC 1))))
@[simp] def Yop:AS:=(sSeq (sFor (b1 (b2 (getC 0) (kD (.int 1)) ixD) Yr) (gSet 2) Yek) Yoo)
def Yli:AS:=(sSeq (sOwn 1 (dLst aNil)) Yop)
def Ye1:AQ->Option D:=runB 1 3 Yli
theorem Yra(bl:Bl K w mg):Okf P w K mg base 2 1 "beacons_of" ["book"] Ye1:=by
 refine okfn bl.f29 sc_beacons_of λhr=>?_;exact(Yi (Yiw 1 sc_beacons_of.nd (Yag Yj)) (Yi (Yix jg rfl (Yae (Yo (Yd 0) (Yc Yh))) (y7 2 sc_beacons_of.nd) (Yk (Ypj 1 (Ym (Yj2 bl) hr rfl (Yb (Yo (Yd 0) (Yc Yh)) (Yb (Ye 2) Yj)) aL2)))) (Yk (Yp (Yu (Yvj rfl rfl bl.Sorted rfl bl.Set (Yd 1)))))))
theorem Yzn:FnScope ["beacons","beacon"] ["beacons","beacon"] (defScope (top 30)):=fns
theorem cs_without_0:CompSc ["beacons","beacon"] (defScope (top 30)) ["other","beacon"] [none,some 1] (fsc [(".0",.local),("other",.local),("beacon",.free)]):=y6 (by decide +kernel)
def Yg7:AU:=(b2 (getC 0) (getC 1) (eqM true))
def Yg8:AV:=(getV 0)
def Yto:AS:=(sRet (cC (Yg (lF (Ybd (b1 (getV 0) Yr) [none,some 1] (gSet 0) (Yg7) (Yg8))) aNil) tupC))
def Yg9:AQ->Option D:=runB 2 2 Yto
theorem Ypr(bl:Bl K w mg):Okf P w K mg base 1 2 "without" ["beacons","beacon"] Yg9:=by
 refine okfn bl.f30 Yzn λhr=>?_;exact(Yk (Yp (Yad Yak Ydp rfl bl.Tuple boot_tuple (Yl (Yc (Yu (Yat cs_without_0 rfl (Yae (Ye 0)) (λ_ _ _ _ _=>(y7 0 cs_without_0.nd)) (λ_ _ _ _ _=>(Yjo (Yeu hr.units (Yd 0) (Yd 1)))) (λ_ _ _ _ _=>(Ye 0)) (Yaj (i:=0) rfl)))) Yn))))
theorem Yoq:FnScope ["rule","beacon","lit"] ["rule","beacon","lit"] (defScope (top 31)):=fns
theorem cs_either_left_0:CompSc ["rule","beacon","lit"] (defScope (top 31)) ["saying","beacon"] [none,some 1] (fsc [(".0",.local),("saying",.local),("beacon",.free)]):=y6 (by decide +kernel)
def Yds:AU:=(b2 (b2 (getC 0) (kD (.int 0)) ixD) (getC 1) (eqM true))
def Ydt:AV:=(getV 0)
def Yga:AS:=(sSeq (sIf (b2 (dTup (Yg (getV 1) (Yg (getV 2) aNil))) (getC 0) (inM false)) (sRet (kD .non)) sNil) (sRet (cC (Yg (lF (Ybd (b1 (getV 0) Yr) [none,some 1] (gSet 0) (Yds) (Ydt))) aNil) tupC)))
def Yd2:AQ->Option D:=runB 3 3 Yga
theorem Yor(bl:Bl K w mg):Okf P w K mg base 1 3 "either_left" ["rule","beacon","lit"] Yd2:=by
 refine okfn bl.f31 Yoq λhr=>?_;exact(Yi (y8 (y2i hr.units (Yc (Ybw (Yb (Ye 1) (Yb (Ye 2) Yj)))) (Yd 0)) (Yk (Yp Yay)) Yw) (Yk (Yp (Yad Yak Ydp rfl bl.Tuple boot_tuple (Yl (Yc (Yu (Yat cs_either_left_0 rfl (Yae (Ye 0)) (λ_ _ _ _ _=>(y7 0 cs_either_left_0.nd)) (λ_ _ _ _ _=>(Yjo (Yeu hr.units (Yc (Yo (Yd 0) (Yc Yh))) (Yd 1)))) (λ_ _ _ _ _=>(Ye 0)) (Yaj (i:=0) rfl)))) Yn)))))
theorem sc_sum_left:FnScope ["rule","beacon","lit","beacons","odd"] ["rule","beacon","lit"] (defScope (top 32)):=fns
@[simp] def Ytp:AS:=(sRet (dTup (Yg (getV 3) (Yg (getV 4) aNil))))
@[simp] def Ytq:AS:=(sSeq (sIf (andT (b2 (cC (Yg (getC 3) aNil) lenC) (kD (.int 0)) (eqM false)) (notT (b1 (getC 4) truD))) (sRet (kD .non)) sNil) Ytp)
@[simp] def Ytr:AS:=(sSeq (sSet 4 (mB (b2 (b2 (getC 0) (kD (.int 1)) ixD) (getC 2) (eqM true)))) Ytq)
def Yk5:AS:=(sSeq (sSet 3 (cC (Yg (b2 (getC 0) (kD (.int 0)) ixD) (Yg (getV 1) aNil)) Yg9)) Ytr)
def Yhw:AQ->Option D:=runB 3 5 Yk5
theorem Yvw(bl:Bl K w mg):Okf P w K mg base 2 3 "sum_left" ["rule","beacon","lit"] Yhw:=by
 refine okfn bl.f32 sc_sum_left λhr=>?_;exact(Yi (Yab 3 sc_sum_left.nd (Ym (Ypr bl) hr rfl (Yb (Yo (Yd 0) (Yc Yh)) (Yb (Ye 1) Yj)) aL2)) (Yi (Yab 4 sc_sum_left.nd (y7i hr.units (Yc (Yo (Yd 0) (Yc Yh))) (Yd 2))) (Yi (y8 (Ycd (Yg0 (Ya1 hr.units (Yc (Yt Ys Yai rfl bl.Len PySem.boot_len (Yl (Yd 3) Yn))) (Yc Yh)) (Yev (Ycj (Yaq (Yd 4)))))) (Yk (Yp Yay)) Yw) (Yk (Yp (Ybw (Yb (Ye 3) (Yb (Ye 4) Yj))))))))
theorem sc_if_left:FnScope ["rule","beacon","so","head"] ["rule","beacon","so"] (defScope (top 33)):=fns
@[simp] def Yvx:AS:=(sRet (dTup (Yg (cC (Yg (b2 (getC 0) (kD (.int 0)) ixD) (Yg (getV 1) aNil)) Yg9) (Yg (getV 3) aNil))))
@[simp] def Yvy:AS:=(sSeq (sSet 3 (ifV (b2 (b2 (getC 0) (kD (.int 1)) ixD) (getC 1) (eqM false)) (kD .non) (b2 (getC 0) (kD (.int 1)) ixD))) Yvx)
@[simp] def Yvz:AS:=(sSeq (sIf (andT (notT (b1 (getC 2) truD)) (b2 (getC 1) (b2 (getC 0) (kD (.int 0)) ixD) (inM false))) (sRet (kD .non)) sNil) Yvy)
def Yha:AS:=(sSeq (sIf (andT (b1 (getC 2) truD) (b2 (b2 (getC 0) (kD (.int 1)) ixD) (getC 1) (eqM false))) (sRet (kD .non)) sNil) Yvz)
def Yj3:AQ->Option D:=runB 3 4 Yha
theorem Yzo(bl:Bl K w mg):Okf P w K mg base 2 3 "if_left" ["rule","beacon","so"] Yj3:=by
 refine okfn bl.f33 sc_if_left λhr=>?_;exact(Yi (y8 (Ycd (Yg0 (Yaq (Yd 2)) (Yev (Ya1 hr.units (Yc (Yo (Yd 0) (Yc Yh))) (Yd 1))))) (Yk (Yp Yay)) Yw) (Yi (y8 (Ycd (Yg0 (Ycj (Yaq (Yd 2))) (Yev (y2i hr.units (Yd 1) (Yc (Yo (Yd 0) (Yc Yh))))))) (Yk (Yp Yay)) Yw) (Yi (Yab 3 sc_if_left.nd (Yg1 (Ya1 hr.units (Yc (Yo (Yd 0) (Yc Yh))) (Yd 1)) Yay (Yo (Yd 0) (Yc Yh)))) (Yk (Yp (Ybw (Yb (Ym (Ypr bl) hr rfl (Yb (Yo (Yd 0) (Yc Yh)) (Yb (Ye 1) Yj)) aL2) (Yb (Ye 3) Yj))))))))
theorem Yts:FnScope ["kind","rule","beacon","lit"] ["kind","rule","beacon","lit"] (defScope (top 34)):=fns
@[simp] def Yrb:AS:=(sRet (cC (Yg (getV 1) (Yg (getV 2) (Yg (mB (b2 (getC 3) (mB (b2 (getC 0) (kD (.str "ifs")) (eqM false))) (eqM false))) aNil))) Yj3))
@[simp] def Yrc:AS:=(sSeq (sIf (b2 (getC 0) (kD (.str "sums")) (eqM false)) (sRet (cC (Yg (getV 1) (Yg (getV 2) (Yg (getV 3) aNil))) Yhw)) sNil) Yrb)
@[simp] def Yrd:AS:=(sSeq (sIf (b2 (getC 0) (kD (.str "eithers")) (eqM false)) (sRet (cC (Yg (getV 1) (Yg (getV 2) (Yg (getV 3) aNil))) Yd2)) sNil) Yrc)
def Yel:AS:=(sSeq (sIf (b2 (getC 2) (cC (Yg (getV 0) (Yg (getV 1) aNil)) Ydj) (inM true)) (sRet (getV 1)) sNil) Yrd)
def Ygb:AQ->Option D:=runB 4 4 Yel
theorem Ytt(bl:Bl K w mg):Okf P w K mg base 3 4 "rule_left" ["kind","rule","beacon","lit"] Ygb:=by
 refine okfn bl.f34 Yts λhr=>?_;exact(Yi (y8 (Yvg hr.units (Yd 2) (Yc (Ym (Yj2 bl) hr rfl (Yb (Ye 0) (Yb (Ye 1) Yj)) aL2))) (Yk (Yp (Ye 1))) Yw) (Yi (y8 (Ya1 hr.units (Yd 0) (Yc Yv)) (Yk (Yp (Ym (Yor bl) hr rfl (Yb (Ye 1) (Yb (Ye 2) (Yb (Ye 3) Yj))) aL3))) Yw) (Yi (y8 (Ya1 hr.units (Yd 0) (Yc Yv)) (Yk (Yp (Ym (Yvw bl) hr rfl (Yb (Ye 1) (Yb (Ye 2) (Yb (Ye 3) Yj))) aL3))) Yw) (Yk (Yp (Ym (Yzo bl) hr rfl (Yb (Ye 1) (Yb (Ye 2) (Yb (Yfo hr.units (Yd 3) (Yc (Yfo hr.units (Yd 0) (Yc Yv)))) Yj))) aL3))))))
theorem sc_left_behind:FnScope ["book","beacon","lit","turned"] ["book","beacon","lit"] (defScope (top 35)):=fns
theorem cs_left_behind_0:CompSc ["book","beacon","lit","turned"] (defScope (top 35)) ["rule","book","beacon","lit"] [none,some 0,some 1,some 2] (fsc [(".0",.local),("rule",.local),("rule_left",.globalImplicit),("beacon",.free),("book",.free),("lit",.free)]):=y6 (by decide +kernel)
theorem cs_left_behind_1:CompSc ["book","beacon","lit","turned"] (defScope (top 35)) ["rule"] [none] (fsc [(".0",.local),("rule",.local)]):=y6 (by decide +kernel)
def Ydu:AV:=(cC (Yg (b2 (getC 1) (kD (.int 0)) ixD) (Yg (getV 0) (Yg (getV 2) (Yg (getV 3) aNil)))) Ygb)
def Yb1:AU:=(b2 (getC 0) (kD .non) (isN true))
def Yb2:AV:=(getV 0)
def Yj4:AS:=(sSeq (sOwn 3 (Ybd (b1 (b2 (getC 0) (kD (.int 1)) ixD) Yr) [none,some 0,some 1,some 2] (gSet 0) tY (Ydu))) (wF [3] (sRet (dTup (Yg (b2 (getC 0) (kD (.int 0)) ixD) (Yg (cC (Yg (lF (Ybd (b1 (getV 3) Yr) [none] (gSet 0) (Yb1) (Yb2))) aNil) tupC) aNil))))))
def Ycm:AQ->Option D:=runB 3 4 Yj4
theorem Yif(bl:Bl K w mg):Okf P w K mg base 4 3 "left_behind" ["book","beacon","lit"] Ycm:=by
 refine okfn bl.f35 sc_left_behind λhr=>?_;exact(Yi (Yck 3 sc_left_behind.nd cs_left_behind_0 rfl (Yae (Yo (Yd 0) (Yc Yh))) (λ_ _ _ _ _=>(y7 0 cs_left_behind_0.nd)) (λ_ _ _ _ _=>Yar) (λ_ _ _ _ _=>(Ym (Ytt bl) hr rfl (Yb (Yo (Yd 1) (Yc Yh)) (Yb (Ye 0) (Yb (Ye 2) (Yb (Ye 3) Yj)))) aL4)) (Yaj (i:=0) rfl)) (Yk (Yg3 [3] (Yp (Ybw (Yb (Yo (Yd 0) (Yc Yh)) (Yb (Yad Yak Ydp rfl bl.Tuple boot_tuple (Yl (Yc (Yu (Yat cs_left_behind_1 rfl (Yae (Ye 3)) (λ_ _ _ _ _=>(y7 0 cs_left_behind_1.nd)) (λ_ _ _ _ _=>(Yjo (Yl2 (Yd 0) (Yc Yay)))) (λ_ _ _ _ _=>(Ye 0)) (Yaj (i:=0) rfl)))) Yn)) Yj)))))))
theorem Yzp:FnScope ["thing"] ["thing"] (defScope (top 38)):=fns
def y3j:AS:=(sRet (andV (mB (b1 (getC 0) (isiD "str"))) (mB (b1 (getC 0) (inG false Yxx)))))
def Yng:AQ->Option D:=runB 1 1 y3j
theorem Yzq(bl:Bl K w mg):Okf P w K mg base 1 1 "is_hand" ["thing"] Yng:=by
 refine okfn bl.f38 Yzp λhr=>?_;exact(Yk (Yp (Yqq (Yky (Yd 0) rfl rfl bl.Isinstance bl.Str boot_str (y1m)) (Yqp (y9s hr.units bl.g_HANDS rfl (Yd 0))))))
theorem Yos:FnScope ["book","hands"] ["book","hands"] (defScope (top 39)):=fns
theorem cs_check_hands_0:CompSc ["book","hands"] (defScope (top 39)) ["thing"] [none] (fsc [(".0",.local),("thing",.local),("is_hand",.globalImplicit)]):=y6 (by decide +kernel)
theorem cs_check_hands_1:CompSc ["book","hands"] (defScope (top 39)) ["beacon","hands"] [none,some 1] (fsc [(".0",.local),("beacon",.local),("len",.globalImplicit),("hands",.free)]):=y6 (by decide +kernel)
def Ydv:AV:=(cC (Yg (getV 0) aNil) Yng)
def Ydw:AV:=(mB (b2 (getC 0) (cC (Yg (getC 1) aNil) lenC) geI))
@[simp] def Ynh:AS:=(sIf (b1 (cC (Yg (lF (Ybd (b1 (cC (Yg (getV 0) aNil) Ye1) Yr) [none,some 1] (gSet 0) tY (Ydw))) aNil) anyC) truD) nS sNil)
@[simp] def Yni:AS:=(sSeq (sIf (notT (b1 (cC (Yg (lF (Ybd (b1 (getV 1) Yr) [none] (gSet 0) tY (Ydv))) aNil) allC) truD)) nS sNil) Ynh)
def Ygc:AS:=(sSeq (sIf (b2 (cC (Yg (getC 1) aNil) lenC) (kD (.int 60)) gtI) nS sNil) Yni)
def Ybh:AQ->Option D:=runB 2 2 Ygc
theorem Yot(bl:Bl K w mg):Okf P w K mg base 3 2 "check_hands" ["book","hands"] Ybh:=by
 refine okfn bl.f39 Yos λhr=>?_;exact(Yi (y8 (Yib (Yc (Yt Ys Yai rfl bl.Len PySem.boot_len (Yl (Yd 1) Yn))) (Yc (Yjn bl.g_BEACON_COUNT rfl))) (Yk Yaf) Yw) (Yi (y8 (Ycj (Yaq (Yc (Yt (Ymp rfl) Yu5 rfl bl.All boot_all (Yl (Yc (Yu (Yat cs_check_hands_0 rfl (Yae (Ye 1)) (λ_ _ _ _ _=>(y7 0 cs_check_hands_0.nd)) (λ_ _ _ _ _=>Yar) (λ_ _ _ _ _=>(Ym (Yzq bl) hr rfl (Yb (Ye 0) Yj) aL1)) (Yaj (i:=0) rfl)))) Yn))))) (Yk Yaf) Yw) (Yk (y8 (Yaq (Yc (Yt (Yji rfl) Yql rfl bl.Any boot_any (Yl (Yc (Yu (Yat cs_check_hands_1 rfl (Yae (Ym (Yra bl) hr rfl (Yb (Ye 0) Yj) aL1)) (λ_ _ _ _ _=>(y7 0 cs_check_hands_1.nd)) (λ_ _ _ _ _=>Yar) (λ_ _ _ _ _=>(Yac5 (Yd 0) (Yc (Yt Ys Yai rfl bl.Len PySem.boot_len (Yl (Yd 1) Yn))))) (Yaj (i:=0) rfl)))) Yn)))) (Yk Yaf) Yw))))
theorem sc_saying_written:FnScope ["saying","beacon"] ["saying"] (defScope (top 49)):=fns
def Ygo:AS:=(sSeq (sSet 1 (b2 (getC 0) (kD (.int 0)) ixD)) (sRet (ifV (b1 (b2 (getC 0) (kD (.int 1)) ixD) truD) (b1 (getC 1) (fsD (Str.ofString "+"))) (b1 (getC 1) (fsD (Str.ofString "-"))))))
def Yb3:AQ->Option D:=runB 1 2 Ygo
theorem Yk6(bl:Bl K w mg):Okf P w K mg base 1 1 "saying_written" ["saying"] Yb3:=by
 refine okfn bl.f49 sc_saying_written λhr=>?_;exact(Yi (Yab 1 sc_saying_written.nd (Yo (Yd 0) (Yc Yh))) (Yk (Yp (Yg1 (Yaq (Yc (Yo (Yd 0) (Yc Yh)))) (y7r (Yd 1)) (y7r (Yd 1))))))
theorem sc_rule_written:FnScope ["kind","rule","beacons"] ["kind","rule"] (defScope (top 50)):=fns
theorem cs_rule_written_0:CompSc ["kind","rule","beacons"] (defScope (top 50)) ["saying"] [none] (fsc [(".0",.local),("saying",.local),("saying_written",.globalImplicit)]):=y6 (by decide +kernel)
theorem cs_rule_written_1:CompSc ["kind","rule","beacons"] (defScope (top 50)) ["beacon"] [none] (fsc [(".0",.local),("beacon",.local),("str",.globalImplicit)]):=y6 (by decide +kernel)
def Yc0:AV:=(cC (Yg (getV 0) aNil) Yb3)
def Ybc:AV:=(cC (Yg (getC 0) aNil) strC)
@[simp] def Yls:AS:=(sRet (lF (b2 (lF (b2 (lF (b2 (lF (dLst (Yg (kD (.str "rule")) aNil))) (getC 2) catD)) (lF (dLst (Yg (kD (.str ">")) aNil))) catD)) (ifV (b2 (b2 (getC 1) (kD (.int 1)) ixD) (kD .non) (isN false)) (lF (dLst aNil)) (lF (dLst (Yg (cC (Yg (b2 (getC 1) (kD (.int 1)) ixD) aNil) strC) aNil)))) catD)))
@[simp] def Ylt:AS:=(sSeq (sIf (b2 (getC 0) (kD (.str "sums")) (eqM false)) (sRet (lF (b2 (lF (dLst (Yg (kD (.str "rule")) (Yg (ifV (b1 (b2 (getC 1) (kD (.int 1)) ixD) truD) (kD (.str "odd")) (kD (.str "even"))) aNil)))) (getC 2) catD))) sNil) Yls)
@[simp] def Ylu:AS:=(sSeq (sOwn 2 (Ybd (b1 (b2 (getC 1) (kD (.int 0)) ixD) Yr) [none] (gSet 0) tY (Ybc))) Ylt)
def Ybz:AS:=(sSeq (sIf (b2 (getC 0) (kD (.str "eithers")) (eqM false)) (sRet (lF (b2 (lF (dLst (Yg (kD (.str "rule")) aNil))) (lF (Ybd (b1 (getV 1) Yr) [none] (gSet 0) tY (Yc0))) catD))) sNil) Ylu)
def Yc9:AQ->Option D:=runB 2 3 Ybz
theorem Ynj(bl:Bl K w mg):Okf P w K mg base 2 2 "rule_written" ["kind","rule"] Yc9:=by
 refine okfn bl.f50 sc_rule_written λhr=>?_;exact(Yi (y8 (Ya1 hr.units (Yd 0) (Yc Yv)) (Yk (Yp (Yu (Yct (Yc (Yu (Yag (Yb Yv Yj)))) (Yc (Yu (Yat cs_rule_written_0 rfl (Yae (Ye 1)) (λ_ _ _ _ _=>(y7 0 cs_rule_written_0.nd)) (λ_ _ _ _ _=>Yar) (λ_ _ _ _ _=>(Ym (Yk6 bl) hr rfl (Yb (Ye 0) Yj) aL1)) (Yaj (i:=0) rfl)))))))) Yw) (Yi (Yck 2 sc_rule_written.nd cs_rule_written_1 rfl (Yae (Yo (Yd 1) (Yc Yh))) (λ_ _ _ _ _=>(y7 0 cs_rule_written_1.nd)) (λ_ _ _ _ _=>Yar) (λ_ _ _ _ _=>(Yad Yde Yjw rfl bl.Str boot_str (Yl (Yd 0) Yn))) (Yaj (i:=0) rfl)) (Yi (y8 (Ya1 hr.units (Yd 0) (Yc Yv)) (Yk (Yp (Yu (Yct (Yc (Yu (Yag (Yb Yv (Yb (Yg1 (Yaq (Yc (Yo (Yd 1) (Yc Yh)))) Yv Yv) Yj))))) (Yd 2))))) Yw) (Yk (Yp (Yu (Yct (Yc (Yu (Yct (Yc (Yu (Yct (Yc (Yu (Yag (Yb Yv Yj)))) (Yd 2)))) (Yc (Yu (Yag (Yb Yv Yj))))))) (Yc (Yg1 (Yqr (Yc (Yo (Yd 1) (Yc Yh))) (Yc Yay)) (Yu (Yag Yj)) (Yu (Yag (Yb (Yad Yde Yjw rfl bl.Str boot_str (Yl (Yc (Yo (Yd 1) (Yc Yh))) Yn)) Yj))))))))))))
theorem Ylv:FnScope ["word","signs"] ["word","signs"] (defScope (top 51)):=fns
def Yem:AS:=(sRet (ifV (b1 (getC 1) truD) (lF (dLst (Yg (getV 0) (Yg (cC (Yg (getC 1) aNil) (Yg5 (Str.ofString ""))) aNil)))) (lF (dLst (Yg (getV 0) aNil)))))
def Ybq:AQ->Option D:=runB 2 2 Yem
theorem Ygp(bl:Bl K w mg):Okf P w K mg base 1 2 "signs_written" ["word","signs"] Ybq:=by
 refine okfn bl.f51 Ylv λhr=>?_;exact(Yk (Yp (Yg1 (Yaq (Yd 1)) (Yu (Yag (Yb (Ye 0) (Yb (Yey (Yl (Yd 1) Yn)) Yj)))) (Yu (Yag (Yb (Ye 0) Yj))))))
theorem Ylw:FnScope ["self"] ["self"] (defScope (inClass (top 40) 2)):=fns
def Yhb:AS:=(sRet (cC (Yg (b1 (getV 0) (fldD "Watch" "truths")) aNil) tupC))
def Yaa:AQ->Option D:=runB 1 1 Yhb
theorem Yb4(bl:Bl K w mg){c:Str}(F:Mq K c "evening" "Watch.evening" (inClass (top 40) 2)):Okm P w K mg base 1 c "evening" ["self"] (spOf K 1 Yaa):=by
 refine okmn F Ylw λhr=>?_;exact(Yk (Yp (Yad Yak Ydp rfl bl.Tuple boot_tuple (Yl (Yc (Ycv bl.n_Watch_truths.cf (Ye 0))) Yn))))
theorem sc_page_written:FnScope ["watch","kind","rows"] ["watch"] (defScope (top 52)):=fns
theorem cs_page_written_0:CompSc ["watch","kind","rows"] (defScope (top 52)) ["hand"] [none] (fsc [(".0",.local),("hand",.local),("LETTERS",.globalImplicit)]):=y6 (by decide +kernel)
theorem cs_page_written_1:CompSc ["watch","kind","rows"] (defScope (top 52)) ["rule","kind"] [none,some 1] (fsc [(".0",.local),("rule",.local),("rule_written",.globalImplicit),("kind",.free)]):=y6 (by decide +kernel)
theorem cs_page_written_2:CompSc ["watch","kind","rows"] (defScope (top 52)) ["lit"] [none] (fsc [(".0",.local),("lit",.local)]):=y6 (by decide +kernel)
theorem cs_page_written_3:CompSc ["watch","kind","rows"] (defScope (top 52)) ["words"] [none] (fsc [(".0",.local),("words",.local)]):=y6 (by decide +kernel)
def Yc1:AV:=(b1 (getC 0) (y1y Yk3))
def Yc2:AV:=(cC (Yg (getV 1) (Yg (getV 0) aNil)) Yc9)
def Yfq:AV:=(ifV (b1 (getC 0) truD) (kD (.str "1")) (kD (.str "0")))
def Yc3:AV:=(cC (Yg (getC 0) aNil) (Yg5 (Str.ofString " ")))
@[simp] def Ybj:AS:=(wF [2] (sRet (cC (Yg (lF (Ybd (b1 (getV 2) Yr) [none] (gSet 0) tY (Yc3))) aNil) (Yg5 (Str.ofString "\n")))))
@[simp] def Yb5:AS:=(sSeq (sIf (b1 (b1 (getV 0) (mthD "Watch" "evening" Yaa)) truD) (sMut 2 (cC (Yg (kD (.str "settled")) (Yg (lF (Ybd (b1 (b1 (getV 0) (mthD "Watch" "evening" Yaa)) Yr) [none] (gSet 0) tY (Yfq))) aNil)) Ybq) appD) sNil) Ybj)
@[simp] def Ygq:AS:=(sSeq (sMut 2 (lF (Ybd (b1 (b2 (b1 (getV 0) (fldD "Watch" "book")) (kD (.int 1)) ixD) Yr) [none,some 1] (gSet 0) tY (Yc2))) extD) Yb5)
@[simp] def Ygr:AS:=(sSeq (sOwn 2 (dLst (Yg (lF (dLst (Yg (kD (.str "kind")) (Yg (getV 1) aNil)))) (Yg (cC (Yg (kD (.str "hands")) (Yg (lF (Ybd (b1 (b1 (getV 0) (fldD "Watch" "hands")) Yr) [none] (gSet 0) tY (Yc1))) aNil)) Ybq) aNil)))) Ygq)
def Yig:AS:=(sSeq (sSet 1 (b2 (b1 (getV 0) (fldD "Watch" "book")) (kD (.int 0)) ixD)) Ygr)
def Yda:AQ->Option D:=runB 1 3 Yig
theorem Ynk(bl:Bl K w mg):Okf P w K mg base 3 1 "page_written" ["watch"] Yda:=by
 refine okfn bl.f52 sc_page_written λhr=>?_;exact(Yi (Yab 1 sc_page_written.nd (Yo (Yc (Ycv bl.n_Watch_book.cf (Ye 0))) (Yc Yh))) (Yi (Yiw 2 sc_page_written.nd (Yag (Yb (Yu (Yag (Yb Yv (Yb (Ye 1) Yj)))) (Yb (Ym (Ygp bl) hr rfl (Yb Yv (Yb (Yu (Yat cs_page_written_0 rfl (Yae (Ycv bl.n_Watch_hands.cf (Ye 0))) (λ_ _ _ _ _=>(y7 0 cs_page_written_0.nd)) (λ_ _ _ _ _=>Yar) (λ_ _ _ _ _=>(y2k bl.g_LETTERS rfl (Yd 0))) (Yaj (i:=0) rfl))) Yj)) aL2) Yj)))) (Yi (Ypj 2 (Yu (Yat cs_page_written_1 rfl (Yae (Yo (Yc (Ycv bl.n_Watch_book.cf (Ye 0))) (Yc Yh))) (λ_ _ _ _ _=>(y7 0 cs_page_written_1.nd)) (λ_ _ _ _ _=>Yar) (λ_ _ _ _ _=>(Ym (Ynj bl) hr rfl (Yb (Ye 1) (Yb (Ye 0) Yj)) aL2)) (Yaj (i:=0) rfl)))) (Yi (y8 (Yaq (Yc (Yby (Yb4 bl bl.r_Watch_evening) hr (Ye 0)))) (Yk (Ycc 2 (Ym (Ygp bl) hr rfl (Yb Yv (Yb (Yu (Yat cs_page_written_2 rfl (Yae (Yby (Yb4 bl bl.r_Watch_evening) hr (Ye 0))) (λ_ _ _ _ _=>(y7 0 cs_page_written_2.nd)) (λ_ _ _ _ _=>Yar) (λ_ _ _ _ _=>(Yg1 (Yaq (Yd 0)) Yv Yv)) (Yaj (i:=0) rfl))) Yj)) aL2))) Yw) (Yk (Yg3 [2] (Yp (Yey (Yl (Yc (Yu (Yat cs_page_written_3 rfl (Yae (Ye 2)) (λ_ _ _ _ _=>(y7 0 cs_page_written_3.nd)) (λ_ _ _ _ _=>Yar) (λ_ _ _ _ _=>(Yey (Yl (Yd 0) Yn))) (Yaj (i:=0) rfl)))) Yn)))))))))
theorem You:FnScope ["word"] ["word"] (defScope (top 53)):=fns
theorem cs_number_read_0:CompSc ["word"] (defScope (top 53)) ["sign"] [none] (fsc [(".0",.local),("sign",.local),("FIGURES",.globalImplicit)]):=y6 (by decide +kernel)
def Ygs:AV:=(mB (b2 (getC 0) (kD (.str "0123456789")) inS))
@[simp] def Ynl:AS:=(sRet (cC (Yg (getC 0) aNil) intS))
@[simp] def Ynm:AS:=(sSeq (sIf (andT (b2 (cC (Yg (getC 0) aNil) lenS) (kD (.int 1)) gtI) (b2 (b2 (getC 0) (kD (.int 0)) ixS) (kD (.str "0")) (eqM false))) (sRet (kD .non)) sNil) Ynl)
def Ygd:AS:=(sSeq (sIf (orT (notT (ch3 (kD (.int 1)) (cC (Yg (getC 0) aNil) lenS) (kD (.int 3)) leI leI)) (notT (b1 (cC (Yg (lF (Ybd (b1 (getV 0) Yic) [none] (gSet 0) tY (Ygs))) aNil) allC) truD))) (sRet (kD .non)) sNil) Ynm)
def Yd3:AQ->Option D:=runB 1 1 Ygd
theorem Yov(bl:Bl K w mg):Okf P w K mg base 1 1 "number_read" ["word"] Yd3:=by
 refine okfn bl.f53 You λhr=>?_;exact(Yi (y8 (Ycd (Yew (Ycj (y2m y72 Yis y72 Yis (Yc Yh) (Yc (Yt Ylc Yxu rfl bl.Len PySem.boot_len (Yl (Yd 0) Yn))) (Yc (Yjn bl.g_MOST_FIGURES rfl)))) (Ydq (Ycj (Yaq (Yc (Yt (Ymp rfl) Yu5 rfl bl.All boot_all (Yl (Yc (Yu (Yat cs_number_read_0 rfl (y3b (Ye 0)) (λ_ _ _ _ _=>(y7 0 cs_number_read_0.nd)) (λ_ _ _ _ _=>Yar) (λ_ _ _ _ _=>(y96 (Yd 0) (Yc (y6b bl.g_FIGURES rfl)))) (Yaj (i:=0) rfl)))) Yn)))))))) (Yk (Yp Yay)) Yw) (Yi (y8 (Ycd (Yg0 (Yib (Yc (Yt Ylc Yxu rfl bl.Len PySem.boot_len (Yl (Yd 0) Yn))) (Yc Yh)) (Yev (Ya1 hr.units (Yc (Yq0 (Yd 0) (Yc Yh) (λ_ _=>rfl))) (Yc Yv))))) (Yk (Yp Yay)) Yw) (Yk (Yp (Yad y3a y57 rfl bl.Int boot_int (Yl (Yd 0) Yn))))))
theorem sc_beacon_read:FnScope ["word","number"] ["word"] (defScope (top 54)):=fns
def Yj5:AS:=(sSeq (sSet 1 (cC (Yg (getV 0) aNil) Yd3)) (sRet (ifV (b1 (cC (Yg (getV 1) aNil) Yb8) truD) (getV 1) (kD .non))))
def Ybu:AQ->Option D:=runB 1 2 Yj5
theorem Yih(bl:Bl K w mg):Okf P w K mg base 2 1 "beacon_read" ["word"] Ybu:=by
 refine okfn bl.f54 sc_beacon_read λhr=>?_;exact(Yi (Yab 1 sc_beacon_read.nd (Ym (Yov bl) hr rfl (Yb (Ye 0) Yj) aL1)) (Yk (Yp (Yg1 (Yaq (Yc (Ym (Ylh bl) hr rfl (Yb (Ye 1) Yj) aL1))) (Ye 1) Yay))))
theorem sc_saying_read:FnScope ["word","beacon"] ["word"] (defScope (top 55)):=fns
@[simp] def Ynn:AS:=(sRet (dTup (Yg (getV 1) (Yg (b1 (b2 (getC 0) (kD (.int 0)) ixS) (Ym5 gt_TRUTHS_BY_MARK)) aNil))))
@[simp] def Yno:AS:=(sSeq (sIf (orT (b2 (getC 1) (kD .non) (isN false)) (b1 (b2 (getC 0) (kD (.int 0)) ixS) (inG true Ya0))) (sRet (kD .non)) sNil) Ynn)
def Yge:AS:=(sSeq (sSet 1 (cC (Yg (b1 (getV 0) (cutS 1)) aNil) Ybu)) Yno)
def Ycn:AQ->Option D:=runB 1 2 Yge
theorem Yow(bl:Bl K w mg):Okf P w K mg base 3 1 "saying_read" ["word"] Ycn:=by
 refine okfn bl.f55 sc_saying_read λhr=>?_;exact(Yi (Yab 1 sc_saying_read.nd (Ym (Yih bl) hr rfl (Yb (y6a (Ye 0)) Yj) aL1)) (Yi (y8 (Ycd (Yew (Yqr (Yd 1) (Yc Yay)) (Ydq (Yxv bl.k_TRUTHS_BY_MARK rfl (Yc (Yq0 (Yd 0) (Yc Yh) (λ_ _=>rfl))))))) (Yk (Yp Yay)) Yw) (Yk (Yp (Ybw (Yb (Ye 1) (Yb (Ypo bl.g_TRUTHS_BY_MARK rfl (Yc (Yq0 (Yd 0) (Yc Yh) (λ_ _=>rfl)))) Yj)))))))
theorem Ytu:FnScope ["letter"] ["letter"] (defScope (top 56)):=fns
def Ynp:AS:=(sRet (b1 (getC 0) (y6e gt_HANDS_BY_LETTER)))
def Yen:AQ->Option D:=runB 1 1 Ynp
theorem Ytv(bl:Bl K w mg):Okf P w K mg base 1 1 "hand_read" ["letter"] Yen:=by
 refine okfn bl.f56 Ytu λhr=>?_;exact(Yk (Yp (y3g bl.g_HANDS_BY_LETTER bl.k_HANDS_BY_LETTER rfl (Yd 0))))
theorem Yre:FnScope ["sign"] ["sign"] (defScope (top 57)):=fns
def Ylj:AS:=(sRet (b1 (getC 0) (y6c gt_TRUTHS_BY_SIGN)))
def Ydk:AQ->Option D:=runB 1 1 Ylj
theorem Yrf(bl:Bl K w mg):Okf P w K mg base 1 1 "truth_read" ["sign"] Ydk:=by
 refine okfn bl.f57 Yre λhr=>?_;exact(Yk (Yp (y3d bl.g_TRUTHS_BY_SIGN rfl (Yd 0))))
theorem sc_each_read:FnScope ["read","words","things"] ["read","words"] (defScope (top 58)):=fns
theorem cs_each_read_0:CompSc ["read","words","things"] (defScope (top 58)) ["word","read"] [none,some 0] (fsc [(".0",.local),("word",.local),("read",.free)]):=y6 (by decide +kernel)
def tv:List (Addr×(AQ->Option D)):=[(356,Ybu),(370,Yen),(377,Ydk),(363,Ycn)]
theorem ftv(bl:Bl K w mg):OkFt P w K mg base 3 1 tv:=⟨okft bl.a_beacon_read (Yih bl),⟨okft bl.a_hand_read (Ytv bl),⟨okft bl.a_truth_read (Yrf bl),⟨okft bl.a_saying_read (Yow bl),trivial⟩⟩⟩⟩
def Ye9:AV:=(y6d tv (getV 1) (Yg (getV 0) aNil))
@[simp] def Yrg:AS:=(wF [2] (sRet (getV 2)))
@[simp] def Yrh:AS:=(sSeq (sIf (b2 (kD .non) (getC 2) (inM false)) nS sNil) Yrg)
def Ynq:AS:=(sSeq (sOwn 2 (Ybd (orI (b1 (getV 1) Yr) (b1 (getV 1) Yic)) [none,some 0] (gSet 0) tY (Ye9))) Yrh)
def Yau:AQ->Option D:=runB 2 3 Ynq
theorem Yce(bl:Bl K w mg):Okf P w K mg base 4 2 "each_read" ["read","words"] Yau:=by
 refine okfn bl.f58 sc_each_read λhr=>?_;exact(Yi (Yck 2 sc_each_read.nd cs_each_read_0 rfl (Yadm (Yae (Ye 1)) (y3b (Ye 1))) (λ_ _ _ _ _=>(y7 0 cs_each_read_0.nd)) (λ_ _ _ _ _=>Yar) (λ_ _ _ _ _=>(y3e (ftv bl) hr (Ye 1) (Yb (Ye 0) Yj) aL1)) (Yaj (i:=0) rfl)) (Yi (y8 (y2i hr.units (Yc Yay) (Yd 2)) (Yk Yaf) Yw) (Yk (Yg3 [2] (Yp (Ye 2))))))
theorem Yv0:FnScope ["words"] ["words"] (defScope (top 59)):=fns
def Yps:AS:=(sSeq (sIf (orT (b2 (cC (Yg (getC 0) aNil) lenC) (kD (.int 0)) (eqM false)) (b1 (b2 (getC 0) (kD (.int 0)) ixD) (inG true Ycl))) nS sNil) (sRet (dTup (Yg (cC (Yg (kD (.adr 356)) (Yg (lF (slF (getC 0) (some (kD (.int 1))) none)) aNil)) Yau) (Yg (b1 (b2 (getC 0) (kD (.int 0)) ixD) (Ym5 gt_ODDS_BY_WORD)) aNil)))))
def Yhx:AQ->Option D:=runB 1 1 Yps
theorem Yv1(bl:Bl K w mg):Okf P w K mg base 5 1 "sum_read" ["words"] Yhx:=by
 refine okfn bl.f59 Yv0 λhr=>?_;exact(Yi (y8 (Ycd (Yew (Ya1 hr.units (Yc (Yt Ys Yai rfl bl.Len PySem.boot_len (Yl (Yd 0) Yn))) (Yc Yh)) (Ydq (Yxv bl.k_ODDS_BY_WORD rfl (Yc (Yo (Yd 0) (Yc Yh))))))) (Yk Yaf) Yw) (Yk (Yp (Ybw (Yb (Ym (Yce bl) hr rfl (Yb (Yhs bl.a_beacon_read rfl) (Yb (Yu (Ya6 (fl:=(some (kD (.int 1)))) (fh:=none) (Yd 0) (Ycb (Yc Yh)) Yex)) Yj)) aL2) (Yb (Ypo bl.g_ODDS_BY_WORD rfl (Yc (Yo (Yd 0) (Yc Yh)))) Yj))))))
theorem sc_if_read:FnScope ["words","end","heads"] ["words"] (defScope (top 60)):=fns
@[simp] def Yv2:AS:=(sRet (dTup (Yg (cC (Yg (kD (.adr 356)) (Yg (lF (slF (getC 0) none (some (getC 1)))) aNil)) Yau) (Yg (ifV (b1 (getC 2) truD) (b2 (getC 2) (kD (.int 0)) ixD) (kD .non)) aNil))))
@[simp] def Yv3:AS:=(sSeq (sIf (b2 (cC (Yg (getC 2) aNil) lenC) (kD (.int 1)) gtI) nS sNil) Yv2)
@[simp] def Yv4:AS:=(sSeq (sSet 2 (cC (Yg (kD (.adr 356)) (Yg (lF (slF (getC 0) (some (b2 (getC 1) (kD (.int 1)) addI)) none)) aNil)) Yau)) Yv3)
@[simp] def Yv5:AS:=(sSeq (sSet 1 (b2 (getC 0) (kD (.str ">")) idxT)) Yv4)
def Ynr:AS:=(sSeq (sIf (b2 (kD (.str ">")) (getC 0) (inM true)) nS sNil) Yv5)
def Yj6:AQ->Option D:=runB 1 3 Ynr
theorem Yzr(bl:Bl K w mg):Okf P w K mg base 5 1 "if_read" ["words"] Yj6:=by
 refine okfn bl.f60 sc_if_read λhr=>?_;exact(Yi (y8 (Yvg hr.units (Yc Yv) (Yd 0)) (Yk Yaf) Yw) (Yi (Yab 1 sc_if_read.nd (Ypp (Yd 0) Yv)) (Yi (Yab 2 sc_if_read.nd (Ym (Yce bl) hr rfl (Yb (Yhs bl.a_beacon_read rfl) (Yb (Yu (Ya6 (fl:=(some (b2 (getC 1) (kD (.int 1)) addI))) (fh:=none) (Yd 0) (Ycb (Yc (Yiy (Yd 1) (Yc Yh)))) Yex)) Yj)) aL2)) (Yi (y8 (Yib (Yc (Yt Ys Yai rfl bl.Len PySem.boot_len (Yl (Yd 2) Yn))) (Yc Yh)) (Yk Yaf) Yw) (Yk (Yp (Ybw (Yb (Ym (Yce bl) hr rfl (Yb (Yhs bl.a_beacon_read rfl) (Yb (Yu (Ya6 (fl:=none) (fh:=(some (getC 1))) (Yd 0) Yex (Ycb (Yd 1)))) Yj)) aL2) (Yb (Yg1 (Yaq (Yd 2)) (Yo (Yd 2) (Yc Yh)) Yay) Yj)))))))))
theorem Ytw:FnScope ["kind","words"] ["kind","words"] (defScope (top 61)):=fns
@[simp] def Yri:AS:=(sRet (cC (Yg (lF (slF (getC 1) (some (kD (.int 1))) none)) aNil) Yj6))
@[simp] def Yrj:AS:=(sSeq (sIf (b2 (getC 0) (kD (.str "sums")) (eqM false)) (sRet (cC (Yg (lF (slF (getC 1) (some (kD (.int 1))) none)) aNil) Yhx)) sNil) Yri)
@[simp] def Yrk:AS:=(sSeq (sIf (b2 (getC 0) (kD (.str "eithers")) (eqM false)) (sRet (cC (Yg (kD (.adr 363)) (Yg (lF (slF (getC 1) (some (kD (.int 1))) none)) aNil)) Yau)) sNil) Yrj)
def Ygf:AS:=(sSeq (sIf (b2 (b2 (getC 1) (kD (.int 0)) ixD) (kD (.str "rule")) (eqM true)) nS sNil) Yrk)
def Ygg:AQ->Option D:=runB 2 2 Ygf
theorem Ytx(bl:Bl K w mg):Okf P w K mg base 6 2 "rule_read" ["kind","words"] Ygg:=by
 refine okfn bl.f61 Ytw λhr=>?_;exact(Yi (y8 (Yeu hr.units (Yc (Yo (Yd 1) (Yc Yh))) (Yc Yv)) (Yk Yaf) Yw) (Yi (y8 (Ya1 hr.units (Yd 0) (Yc Yv)) (Yk (Yp (Ym (Yce bl) hr rfl (Yb (Yhs bl.a_saying_read rfl) (Yb (Yu (Ya6 (fl:=(some (kD (.int 1)))) (fh:=none) (Yd 1) (Ycb (Yc Yh)) Yex)) Yj)) aL2))) Yw) (Yi (y8 (Ya1 hr.units (Yd 0) (Yc Yv)) (Yk (Yp (Ym (Yv1 bl) hr rfl (Yb (Yu (Ya6 (fl:=(some (kD (.int 1)))) (fh:=none) (Yd 1) (Ycb (Yc Yh)) Yex)) Yj) aL1))) Yw) (Yk (Yp (Ym (Yzr bl) hr rfl (Yb (Yu (Ya6 (fl:=(some (kD (.int 1)))) (fh:=none) (Yd 1) (Ycb (Yc Yh)) Yex)) Yj) aL1))))))
theorem Yty:FnScope ["words"] ["words"] (defScope (top 62)):=fns
def Yns:AS:=(sSeq (sIf (orT (b2 (cC (Yg (getC 0) aNil) lenC) (kD (.int 2)) (eqM true)) (orT (b2 (b2 (getC 0) (kD (.int 0)) ixD) (kD (.str "kind")) (eqM true)) (b1 (b2 (getC 0) (kD (.int 1)) ixD) (inG true Yf4)))) nS sNil) (sRet (b2 (getC 0) (kD (.int 1)) ixD)))
def Ygh:AQ->Option D:=runB 1 1 Yns
theorem Ytz(bl:Bl K w mg):Okf P w K mg base 1 1 "kind_read" ["words"] Ygh:=by
 refine okfn bl.f62 Yty λhr=>?_;exact(Yi (y8 (Ycd (Yew (Yeu hr.units (Yc (Yt Ys Yai rfl bl.Len PySem.boot_len (Yl (Yd 0) Yn))) (Yc Yh)) (Yew (Yeu hr.units (Yc (Yo (Yd 0) (Yc Yh))) (Yc Yv)) (Ydq (Yxi hr.units bl.g_KINDS rfl (Yc (Yo (Yd 0) (Yc Yh)))))))) (Yk Yaf) Yw) (Yk (Yp (Yo (Yd 0) (Yc Yh)))))
theorem Yrl:FnScope ["words"] ["words"] (defScope (top 63)):=fns
def Yhc:AS:=(sSeq (sIf (orT (b2 (cC (Yg (getC 0) aNil) lenC) (kD (.int 2)) gtI) (b2 (b2 (getC 0) (kD (.int 0)) ixD) (kD (.str "hands")) (eqM true))) nS sNil) (sRet (cC (Yg (kD (.adr 370)) (Yg (cC (Yg (lF (slF (getC 0) (some (kD (.int 1))) none)) aNil) (Yg5 (Str.ofString ""))) aNil)) Yau)))
def Ye2:AQ->Option D:=runB 1 1 Yhc
theorem Yrm(bl:Bl K w mg):Okf P w K mg base 5 1 "hands_read" ["words"] Ye2:=by
 refine okfn bl.f63 Yrl λhr=>?_;exact(Yi (y8 (Ycd (Yew (Yib (Yc (Yt Ys Yai rfl bl.Len PySem.boot_len (Yl (Yd 0) Yn))) (Yc Yh)) (Ydq (Yeu hr.units (Yc (Yo (Yd 0) (Yc Yh))) (Yc Yv))))) (Yk Yaf) Yw) (Yk (Yp (Ym (Yce bl) hr rfl (Yb (Yhs bl.a_hand_read rfl) (Yb (Yey (Yl (Yc (Yu (Ya6 (fl:=(some (kD (.int 1)))) (fh:=none) (Yd 0) (Ycb (Yc Yh)) Yex))) Yn)) Yj)) aL2))))
theorem Ynt:FnScope ["words"] ["words"] (defScope (top 64)):=fns
def Yii:AS:=(sSeq (sIf (b2 (cC (Yg (getC 0) aNil) lenC) (kD (.int 2)) (eqM true)) nS sNil) (sRet (cC (Yg (kD (.adr 377)) (Yg (b2 (getC 0) (kD (.int 1)) ixD) aNil)) Yau)))
def Ydb:AQ->Option D:=runB 1 1 Yii
theorem Ynu(bl:Bl K w mg):Okf P w K mg base 5 1 "settled_read" ["words"] Ydb:=by
 refine okfn bl.f64 Ynt λhr=>?_;exact(Yi (y8 (Yeu hr.units (Yc (Yt Ys Yai rfl bl.Len PySem.boot_len (Yl (Yd 0) Yn))) (Yc Yh)) (Yk Yaf) Yw) (Yk (Yp (Ym (Yce bl) hr rfl (Yb (Yhs bl.a_truth_read rfl) (Yb (Yo (Yd 0) (Yc Yh)) Yj)) aL2))))
theorem sc_rows_read:FnScope ["text","rows"] ["text"] (defScope (top 65)):=fns
theorem cs_rows_read_0:CompSc ["text","rows"] (defScope (top 65)) ["row"] [none] (fsc [(".0",.local),("row",.local)]):=y6 (by decide +kernel)
theorem cs_rows_read_1:CompSc ["text","rows"] (defScope (top 65)) ["words"] [none] (fsc [(".0",.local),("words",.local)]):=y6 (by decide +kernel)
def Yfa:AV:=(b1 (getV 0) (Ytg (Str.ofString " ")))
def Yfb:AV:=(mB (b2 (kD (.str "")) (getC 0) (inM false)))
@[simp] def Yrn:AS:=(wF [1] (sRet (getV 1)))
@[simp] def Yro:AS:=(sSeq (wF [1] (sIf (orT (b2 (cC (Yg (getC 1) aNil) lenC) (kD (.int 2)) ltI) (b1 (cC (Yg (lF (Ybd (b1 (getV 1) Yr) [none] (gSet 0) tY (Yfb))) aNil) anyC) truD)) nS sNil)) Yrn)
def Ynv:AS:=(sSeq (sOwn 1 (Ybd (b1 (b1 (getV 0) (Ytg (Str.ofString "\n"))) Yr) [none] (gSet 0) tY (Yfa))) Yro)
def Ygi:AQ->Option D:=runB 1 2 Ynv
theorem Yt0(bl:Bl K w mg):Okf P w K mg base 1 1 "rows_read" ["text"] Ygi:=by
 refine okfn bl.f65 sc_rows_read λhr=>?_;exact(Yi (Yck 1 sc_rows_read.nd cs_rows_read_0 rfl (Yae (Yth (Ye 0))) (λ_ _ _ _ _=>(y7 0 cs_rows_read_0.nd)) (λ_ _ _ _ _=>Yar) (λ_ _ _ _ _=>(Yth (Ye 0))) (Yaj (i:=0) rfl)) (Yi (Yg3 [1] (y8 (Ycd (Yew (Ys7 (Yc (Yt Ys Yai rfl bl.Len PySem.boot_len (Yl (Yd 1) Yn))) (Yc Yh)) (Ydq (Yaq (Yc (Yt (Yji rfl) Yql rfl bl.Any boot_any (Yl (Yc (Yu (Yat cs_rows_read_1 rfl (Yae (Ye 1)) (λ_ _ _ _ _=>(y7 0 cs_rows_read_1.nd)) (λ_ _ _ _ _=>Yar) (λ_ _ _ _ _=>(Yac6 hr.units (Yc Yv) (Yd 0))) (Yaj (i:=0) rfl)))) Yn))))))) (Yk Yaf) Yw)) (Yk (Yg3 [1] (Yp (Ye 1))))))
theorem Ynw:FnScope ["self","book","hands"] ["self","book","hands"] (defScope (inClass (top 40) 0)):=fns
def Yfr:Hm:=(fldN 0 "truths" ["Watch"])
def Yfs:Hm:=(seqH (fldH 0 "hands" ["Watch"] (cC (Yg (getC 2) aNil) tupC)) Yfr)
def Yft:Hm:=(seqH (fldH 0 "book" ["Watch"] (getV 1)) Yfs)
def Yij:Hm:=(seqH (Yg4 (sExp (cC (Yg (getV 1) (Yg (getV 2) aNil)) Ybh))) Yft)
def Yb0:Hf:=runH 3 Yij
theorem Ylx(bl:Bl K w mg):OkC P w K mg base 4 3 "Watch" ["self","book","hands"] [] Yb0:=by
 refine okch bl.i_Watch bl.c_Watch Ynw (λhr=>?_);exact(Yan (Ybg (y5h (Ym (Yot bl) hr rfl (Yb (Ye 1) (Yb (Ye 2) Yj)) aL2))) (Yan (y22 0 (cs:=["Watch"]) (fcs1 bl.n_Watch_book.cf) (Ye 1)) (Yan (y22 0 (cs:=["Watch"]) (fcs1 bl.n_Watch_hands.cf) (Yad Yak Ydp rfl bl.Tuple boot_tuple (Yl (Yd 2) Yn))) (Ybm (y5t 0 (cs:=["Watch"]) (fcs1 bl.n_Watch_truths.cf))))))
theorem Yrp:FnScope ["self"] ["self"] (defScope (inClass (top 40) 1)):=fns
def Yhd:AS:=(sSeq (sIf (b2 (cC (Yg (b1 (getV 0) (fldD "Watch" "truths")) aNil) lenC) (cC (Yg (b1 (getV 0) (fldD "Watch" "hands")) aNil) lenC) (eqM false)) (sRet (kD .non)) sNil) (sRet (b2 (b1 (getV 0) (fldD "Watch" "hands")) (cC (Yg (b1 (getV 0) (fldD "Watch" "truths")) aNil) lenC) ixD)))
def Yap:AQ->Option D:=runB 1 1 Yhd
theorem Yd4(bl:Bl K w mg){c:Str}(F:Mq K c "turn" "Watch.turn" (inClass (top 40) 1)):Okm P w K mg base 1 c "turn" ["self"] (spOf K 1 Yap):=by
 refine okmn F Yrp λhr=>?_;exact(Yi (y8 (Ya1 hr.units (Yc (Yt Ys Yai rfl bl.Len PySem.boot_len (Yl (Yc (Ycv bl.n_Watch_truths.cf (Ye 0))) Yn))) (Yc (Yt Ys Yai rfl bl.Len PySem.boot_len (Yl (Yc (Ycv bl.n_Watch_hands.cf (Ye 0))) Yn)))) (Yk (Yp Yay)) Yw) (Yk (Yp (Yo (Yc (Ycv bl.n_Watch_hands.cf (Ye 0))) (Yc (Yt Ys Yai rfl bl.Len PySem.boot_len (Yl (Yc (Ycv bl.n_Watch_truths.cf (Ye 0))) Yn)))))))
theorem Ynx:FnScope ["self"] ["self"] (defScope (inClass (top 40) 4)):=fns
def Ydc:AS:=(sSeq (sIf (b2 (b1 (getV 0) (mthD "Watch" "turn" Yap)) (kD .non) (isN true)) (sRet (kD .non)) sNil) (sRet (ifV (b1 (cC (Yg (b1 (getV 0) (fldD "Watch" "book")) (Yg (b1 (getV 0) (fldD "Watch" "truths")) aNil)) Yq8) truD) (kD (.str "keeper")) (kD (.str "storm")))))
def Ya8:AQ->Option D:=runB 1 1 Ydc
theorem Yny(bl:Bl K w mg){c:Str}(F:Mq K c "winner" "Watch.winner" (inClass (top 40) 4)):Okm P w K mg base 5 c "winner" ["self"] (spOf K 1 Ya8):=by
 refine okmn F Ynx λhr=>?_;exact(Yi (y8 (Yl2 (Yc (Yby (Yd4 bl bl.r_Watch_turn) hr (Ye 0))) (Yc Yay)) (Yk (Yp Yay)) Yw) (Yk (Yp (Yg1 (Yaq (Yc (Ym (y6g bl) hr rfl (Yb (Ycv bl.n_Watch_book.cf (Ye 0)) (Yb (Ycv bl.n_Watch_truths.cf (Ye 0)) Yj)) aL2))) Yv Yv))))
theorem Ynz:FnScope ["self","lit"] ["self","lit"] (defScope (inClass (top 40) 5)):=fns
def Yfu:Hm:=(retH (rdE (b1 (getV 0) (mthD "Watch" "winner" Ya8))))
def Yfv:Hm:=(seqH (appH 0 (getV 1)) Yfu)
def Yfw:Hm:=(seqH (Yg4 (sIf (andT (b2 (getC 1) (kD (.bl true)) (isB true)) (b2 (getC 1) (kD (.bl false)) (isB true))) nS sNil)) Yfv)
def Yik:Hm:=(seqH (ifH (rdT (b2 (b1 (getV 0) (mthD "Watch" "turn" Yap)) (kD .non) (isN false))) (Yg4 nS) nilH) Yfw)
def Ybl:Hf:=runH 2 Yik
theorem Yn0(bl:Bl K w mg){c:Str}(F:Mq K c "settle" "Watch.settle" (inClass (top 40) 5)):Okm P w K mg base 6 c "settle" ["self","lit"] (spH K 2 Ybl):=by
 refine okmh F Ynz λhr=>?_;exact(Yan (Ym2 (Yf3 (Yqr (Yc (Yby (Yd4 bl bl.r_Watch_turn) hr (Ye 0))) (Yc Yay))) (Ybm (Ybg Yaf)) Yi0) (Yan (Ybg (y8 (Ycd (Yg0 (Yxh (Yd 1) (Yc Yet)) (Yev (Yxh (Yd 1) (Yc Yet))))) (Yk Yaf) Yw)) (Yan (y9w 0 bl.n_Watch_truths.cf (Ye 1)) (Ybm (Yqv (Yxo (Yby (Yny bl bl.r_Watch_winner) hr (Ye 0))))))))
theorem sc_watch_made:FnScope ["kind","rules","hands","truths","watch","lit"] ["kind","rules","hands","truths"] (defScope (top 66)):=fns
def Yn1:List (Str×Hf):=[("Watch",Ybl)]
theorem Ypt(bl:Bl K w mg):OkTb P w K mg base 6 "settle" (spH K 2) Yn1:=⟨⟨_,y5u (Yn0 bl bl.r_Watch_settle)⟩,trivial⟩
def Yhe:Hm:=(exH (y9u "settle" Yn1 (getV 4) (Yg (getV 5) aNil)))
def Yhf:Hm:=(retH (y7p (getV 4)))
def Yhg:Hm:=(seqH (forH (b1 (getV 3) Yr) (gSet 5) Yhe) Yhf)
def Ylk:Hm:=(seqH (setH 4 (y9v "Watch" true [] [] (Yg (cC (Yg (getV 0) (Yg (getV 1) aNil)) Yf7) (Yg (getV 2) aNil)) Yb0)) Yhg)
def Ye3:Hf:=runH 6 Ylk
theorem Yrq(bl:Bl K w mg):OkH P w K mg base 7 4 "watch_made" ["kind","rules","hands","truths"] Ye3:=by
 refine okfh bl.f66 sc_watch_made λhr=>?_;exact(Yan (Yvn 4 sc_watch_made.nd (y5s true [] (Ylx bl) hr rfl (Yb (Ym (Ytm bl) hr rfl (Yb (Ye 0) (Yb (Ye 1) Yj)) aL2) (Yb (Ye 2) Yj)) aM2)) (Yan (y9t jg rfl (Yae (Ye 3)) (y7 5 sc_watch_made.nd) (Ybm (Yqw (Yxq (Ypt bl) hr (Ye 4) (Yb (Ye 5) Yj) aL1)))) (Ybm (Yqv (y5p (Ye 4))))))
theorem sc_page_read:FnScope ["text","rows","kind","hands","some_settled","truths","rules","error"] ["text"] (defScope (top 67)):=fns
theorem cs_page_read_0:CompSc ["text","rows","kind","hands","some_settled","truths","rules","error"] (defScope (top 67)) ["words","kind"] [none,some 2] (fsc [(".0",.local),("words",.local),("rule_read",.globalImplicit),("kind",.free)]):=y6 (by decide +kernel)
def Yfc:AV:=(cC (Yg (getV 1) (Yg (getV 0) aNil)) Ygg)
def Yfd:Hm:=(frzH [6] (retH (y5q (Yg (getV 2) (Yg (getV 6) (Yg (getV 3) (Yg (getV 5) aNil)))) Ye3)))
def Yfe:Hm:=(seqH (Yg4 (sOwn 6 (Ybd (b1 (ifV (b1 (getC 4) truD) (lF (slF (getC 1) (some (kD (.int 2))) (some (b1 (kD (.int 1)) negI)))) (lF (slF (getC 1) (some (kD (.int 2))) none))) Yr) [none,some 2] (gSet 0) tY (Yfc)))) Yfd)
def Yff:Hm:=(seqH (Yg4 (sSet 5 (ifV (b1 (getC 4) truD) (cC (Yg (b2 (getC 1) (b1 (kD (.int 1)) negI) ixD) aNil) Ydb) (lF (dLst aNil))))) Yfe)
def Yil:Hm:=(seqH (Yg4 (sSet 4 (mB (b2 (b2 (b2 (getC 1) (b1 (kD (.int 1)) negI) ixD) (kD (.int 0)) ixD) (kD (.str "settled")) (eqM false))))) Yff)
def Yim:Hm:=(seqH (Yg4 (sSet 3 (cC (Yg (b2 (getC 1) (kD (.int 1)) ixD) aNil) Ye2))) Yil)
def Yin:Hm:=(seqH (Yg4 (sSet 2 (cC (Yg (b2 (getC 1) (kD (.int 0)) ixD) aNil) Ygh))) Yim)
def Yn2:Hm:=(seqH (Yg4 (sSet 1 (cC (Yg (getV 0) aNil) Ygi))) Yin)
def Yeo:Hf:=runH 8 Yn2
theorem Yll(bl:Bl K w mg):OkH P w K mg base 8 1 "page_read" ["text"] Yeo:=by
 refine okfh bl.f67 sc_page_read λhr=>?_;exact(Yan (Ybg (Yab 1 sc_page_read.nd (Ym (Yt0 bl) hr rfl (Yb (Ye 0) Yj) aL1))) (Yan (Ybg (Yab 2 sc_page_read.nd (Ym (Ytz bl) hr rfl (Yb (Yo (Yd 1) (Yc Yh)) Yj) aL1))) (Yan (Ybg (Yab 3 sc_page_read.nd (Ym (Yrm bl) hr rfl (Yb (Yo (Yd 1) (Yc Yh)) Yj) aL1))) (Yan (Ybg (Yab 4 sc_page_read.nd (Yfo hr.units (Yc (Yo (Yc (Yo (Yd 1) (Yc (Ymx (Yc Yh))))) (Yc Yh))) (Yc Yv)))) (Yan (Ybg (Yab 5 sc_page_read.nd (Yg1 (Yaq (Yd 4)) (Ym (Ynu bl) hr rfl (Yb (Yo (Yd 1) (Yc (Ymx (Yc Yh)))) Yj) aL1) (Yu (Yag Yj))))) (Yan (Ybg (Yck 6 sc_page_read.nd cs_page_read_0 rfl (Yae (Yg1 (Yaq (Yd 4)) (Yu (Ya6 (fl:=(some (kD (.int 2)))) (fh:=(some (b1 (kD (.int 1)) negI))) (Yd 1) (Ycb (Yc Yh)) (Ycb (Yc (Ymx (Yc Yh)))))) (Yu (Ya6 (fl:=(some (kD (.int 2)))) (fh:=none) (Yd 1) (Ycb (Yc Yh)) Yex)))) (λ_ _ _ _ _=>(y7 0 cs_page_read_0.nd)) (λ_ _ _ _ _=>Yar) (λ_ _ _ _ _=>(Ym (Ytx bl) hr rfl (Yb (Ye 1) (Yb (Ye 0) Yj)) aL2)) (Yaj (i:=0) rfl))) (Ybm (y9y (λ_ _ h=>h) (Ybm (Yvo [6] (Yqv (Yqx (Yrq bl) hr rfl (Yb (Ye 2) (Yb (Ye 6) (Yb (Ye 3) (Yb (Ye 5) Yj)))) aL4))))))))))))
theorem Yv6:FnScope ["script","k"] ["script","k"] (defScope (top 69)):=fns
def Yk7:AS:=(sSeq (sIf (b2 (getC 1) (cC (Yg (getC 0) aNil) lenC) ltI) (sRet (b2 (getC 0) (getC 1) ixD)) sNil) (sRet (kD (.int 0))))
def Yav:AQ->Option D:=runB 2 2 Yk7
theorem Ybi(bl:Bl K w mg):Okf P w K mg base 1 2 "_law_cell" ["script","k"] Yav:=by
 refine okfn bl.f69 Yv6 λhr=>?_;exact(Yi (y8 (Ys7 (Yd 1) (Yc (Yt Ys Yai rfl bl.Len PySem.boot_len (Yl (Yd 0) Yn)))) (Yk (Yp (Yo (Yd 0) (Yd 1)))) Yw) (Yk (Yp Yh)))
theorem Yt1:FnScope ["cell","by"] ["cell","by"] (defScope (top 70)):=fns
def Yn3:AS:=(sRet (b2 (b2 (b2 (getC 0) (kD (.int 2305843009213693951)) modI) (getC 1) mulI) (kD (.int 2305843009213693951)) modI))
def Yc4:AQ->Option D:=runB 2 2 Yn3
theorem Yhh(bl:Bl K w mg):Okf P w K mg base 1 2 "_law_mixed" ["cell","by"] Yc4:=by
 refine okfn bl.f70 Yt1 λhr=>?_;exact(Yk (Yp (Ya7 (Yc (y9c (Yc (Ya7 (Yd 0) (Yc Yh))) (Yd 1))) (Yc Yh))))
theorem sc_law_rule:FnScope ["kind","cell","many","left","size","odd","head","some","k","sayings","beacon"] ["kind","cell","many"] (defScope (top 71)):=fns
def Yco:AS:=(sSeq (sIf (andT (b2 (getC 2) (kD (.int 0)) gtI) (b2 (b2 (getC 3) (getC 2) modI) (getC 7) (inM true))) (sMut 7 (b2 (getC 3) (getC 2) modI) appD) sNil) (sSet 3 (b2 (getC 3) (cC (Yg (getC 2) (Yg (kD (.int 1)) aNil)) maxC) divI)))
def Yd5:AS:=(sSeq (sMut 9 (dTup (Yg (getV 10) (Yg (getV 5) aNil))) appD) (sSet 5 (mB (b2 (b2 (getC 3) (kD (.int 2)) modI) (kD (.int 1)) (eqM false)))))
@[simp] def Yrr:AS:=(sRet (dTup (Yg (cC (Yg (lF (cF (Yg (getC 7) aNil) Ymo)) aNil) tupC) (Yg (getV 6) aNil))))
@[simp] def Yrs:AS:=(sSeq (sIf (b2 (getC 0) (kD (.str "sums")) (eqM false)) (sRet (dTup (Yg (cC (Yg (lF (cF (Yg (getC 7) aNil) Ymo)) aNil) tupC) (Yg (getV 5) aNil)))) sNil) Yrr)
@[simp] def Ycf:AS:=(sSeq (sIf (b2 (getC 0) (kD (.str "eithers")) (eqM false)) (sSeq (sOwn 9 (dLst aNil)) (sSeq (sFor (b1 (lF (slF (getC 7) none (some (kD (.int 2))))) Yr) (gSet 10) Yd5) (sSeq (sIf (andT (b2 (cC (Yg (getC 9) aNil) lenC) (kD (.int 2)) (eqM false)) (b2 (b2 (b2 (getC 3) (kD (.int 2)) divI) (kD (.int 6)) modI) (kD (.int 1)) (eqM false))) (y1t 9 (kD (.int 1)) (dTup (Yg (b2 (b2 (getC 9) (kD (.int 0)) ixD) (kD (.int 0)) ixD) (Yg (notV (b2 (b2 (getC 9) (kD (.int 0)) ixD) (kD (.int 1)) ixD)) aNil))) setD) sNil) (sRet (cC (Yg (lF (cF (Yg (getC 9) aNil) Ymo)) aNil) tupC))))) sNil) Yrs)
@[simp] def Ye4:AS:=(sSeq (sFor (cF (Yg (getV 4) aNil) rng1) (gSet 8) Yco) Ycf)
@[simp] def Yt2:AS:=(sSeq (sOwn 7 (dLst aNil)) Ye4)
@[simp] def Ycg:AS:=(sSeq (sSet 3 (b2 (b2 (getC 3) (kD (.int 6)) divI) (cC (Yg (getC 2) (Yg (kD (.int 1)) aNil)) maxC) divI)) Yt2)
@[simp] def Yt3:AS:=(sSeq (sIf (andT (b2 (b2 (getC 3) (kD (.int 6)) modI) (kD (.int 0)) gtI) (b2 (getC 2) (kD (.int 0)) gtI)) (sSet 6 (b2 (b2 (getC 3) (kD (.int 6)) divI) (getC 2) modI)) sNil) Ycg)
@[simp] def Yt4:AS:=(sSeq (sSet 6 (kD .non)) Yt3)
@[simp] def Yt5:AS:=(sSeq (sSet 3 (b2 (getC 3) (kD (.int 8)) divI)) Yt4)
@[simp] def Yt6:AS:=(sSeq (sSet 5 (mB (b2 (b2 (b2 (getC 3) (kD (.int 4)) divI) (kD (.int 2)) modI) (kD (.int 1)) (eqM false)))) Yt5)
@[simp] def Yt7:AS:=(sSeq (sSet 4 (b2 (getC 3) (kD (.int 4)) modI)) Yt6)
def Yk8:AS:=(sSeq (sSet 3 (cC (Yg (getV 1) (Yg (kD (.int 1181783497276652981)) aNil)) Yc4)) Yt7)
def Yhy:AQ->Option D:=runB 3 11 Yk8
theorem Yv7(bl:Bl K w mg):Okf P w K mg base 2 3 "_law_rule" ["kind","cell","many"] Yhy:=by
 refine okfn bl.f71 sc_law_rule λhr=>?_;exact(Yi (Yab 3 sc_law_rule.nd (Ym (Yhh bl) hr rfl (Yb (Ye 1) (Yb Yh Yj)) aL2)) (Yi (Yab 4 sc_law_rule.nd (Ya7 (Yd 3) (Yc Yh))) (Yi (Yab 5 sc_law_rule.nd (Yfo hr.units (Yc (Ya7 (Yc (Yeg (Yd 3) (Yc Yh))) (Yc Yh))) (Yc Yh))) (Yi (Yab 3 sc_law_rule.nd (Yeg (Yd 3) (Yc Yh))) (Yi (Yab 6 sc_law_rule.nd Yay) (Yi (y8 (Ycd (Yg0 (Yib (Yc (Ya7 (Yd 3) (Yc Yh))) (Yc Yh)) (Yev (Yib (Yd 2) (Yc Yh))))) (Yk (Yab 6 sc_law_rule.nd (Ya7 (Yc (Yeg (Yd 3) (Yc Yh))) (Yd 2)))) Yw) (Yi (Yab 3 sc_law_rule.nd (Yeg (Yc (Yeg (Yd 3) (Yc Yh))) (Yc (Yt (Ysm rfl) y11 rfl bl.Max boot_max (Yl (Yd 2) (Yl (Yc Yh) Yn)))))) (Yi (Yiw 7 sc_law_rule.nd (Yag Yj)) (Yi (Yix jg rfl (Yhq rfl bl.Range (Yb (Ye 4) Yj)) (y7 8 sc_law_rule.nd) (Yi (y8 (Ycd (Yg0 (Yib (Yd 2) (Yc Yh)) (Yev (Yvg hr.units (Yc (Ya7 (Yd 3) (Yd 2))) (Yd 7))))) (Yk (Ycc 7 (Ya7 (Yd 3) (Yd 2)))) Yw) (Yk (Yab 3 sc_law_rule.nd (Yeg (Yd 3) (Yc (Yt (Ysm rfl) y11 rfl bl.Max boot_max (Yl (Yd 2) (Yl (Yc Yh) Yn))))))))) (Yi (y8 (Ya1 hr.units (Yd 0) (Yc Yv)) (Yi (Yiw 9 sc_law_rule.nd (Yag Yj)) (Yi (Yix jg rfl (Yae (Yu (Ya6 (fl:=none) (fh:=(some (kD (.int 2)))) (Yd 7) Yex (Ycb (Yc Yh))))) (y7 10 sc_law_rule.nd) (Yi (Ycc 9 (Ybw (Yb (Ye 10) (Yb (Ye 5) Yj)))) (Yk (Yab 5 sc_law_rule.nd (Yfo hr.units (Yc (Ya7 (Yd 3) (Yc Yh))) (Yc Yh)))))) (Yi (y8 (Ycd (Yg0 (Ya1 hr.units (Yc (Yt Ys Yai rfl bl.Len PySem.boot_len (Yl (Yd 9) Yn))) (Yc Yh)) (Yev (Ya1 hr.units (Yc (Ya7 (Yc (Yeg (Yd 3) (Yc Yh))) (Yc Yh))) (Yc Yh))))) (Yk (Yvh 9 (Yc Yh) (Ybw (Yb (Yo (Yc (Yo (Yd 9) (Yc Yh))) (Yc Yh)) (Yb (y2j (Yo (Yc (Yo (Yd 9) (Yc Yh))) (Yc Yh))) Yj))))) Yw) (Yk (Yp (Yad Yak Ydp rfl bl.Tuple boot_tuple (Yl (Yc (Yu (Yg2 Ydf Yef rfl bl.Sorted boot_sorted (Yl (Yd 9) Yn)))) Yn))))))) Yw) (Yi (y8 (Ya1 hr.units (Yd 0) (Yc Yv)) (Yk (Yp (Ybw (Yb (Yad Yak Ydp rfl bl.Tuple boot_tuple (Yl (Yc (Yu (Yg2 Ydf Yef rfl bl.Sorted boot_sorted (Yl (Yd 7) Yn)))) Yn)) (Yb (Ye 5) Yj))))) Yw) (Yk (Yp (Ybw (Yb (Yad Yak Ydp rfl bl.Tuple boot_tuple (Yl (Yc (Yu (Yg2 Ydf Yef rfl bl.Sorted boot_sorted (Yl (Yd 7) Yn)))) Yn)) (Yb (Ye 6) Yj))))))))))))))))
theorem sc_law_drawn:FnScope ["script","kind","many","rules","hands","lights","k"] ["script"] (defScope (top 72)):=fns
theorem cs_law_drawn_0:CompSc ["script","kind","many","rules","hands","lights","k"] (defScope (top 72)) ["cell","kind","many"] [none,some 1,some 2] (fsc [(".0",.local),("cell",.local),("_law_rule",.globalImplicit),("kind",.free),("many",.free)]):=y6 (by decide +kernel)
def Yfg:AV:=(cC (Yg (getV 1) (Yg (getV 0) (Yg (getV 2) aNil))) Yhy)
def Yfh:AS:=(sSeq (sMut 4 (b2 (lF (dLst (Yg (kD (.str "keeper")) (Yg (kD (.str "storm")) aNil)))) (b2 (cC (Yg (cC (Yg (getV 0) (Yg (b2 (kD (.int 2)) (getC 6) addI) aNil)) Yav) (Yg (kD (.int 1442695040888963407)) aNil)) Yc4) (kD (.int 2)) modI) ixD) appD) (sMut 5 (mB (b2 (b2 (cC (Yg (cC (Yg (getV 0) (Yg (b2 (kD (.int 2)) (getC 6) addI) aNil)) Yav) (Yg (kD (.int 2049848353892358983)) aNil)) Yc4) (kD (.int 2)) modI) (kD (.int 1)) (eqM false))) appD))
@[simp] def Yd6:AS:=(wF [4] (sRet (lF (dLst (Yg (getV 1) (Yg (cC (Yg (getC 3) aNil) tupC) (Yg (getV 4) (Yg (lF (slF (getC 5) none (some (b2 (cC (Yg (getV 0) (Yg (kD (.int 2)) aNil)) Yav) (b2 (getC 2) (kD (.int 1)) addI) modI)))) aNil))))))))
@[simp] def Yd7:AS:=(sSeq (sFor (cF (Yg (getV 2) aNil) rng1) (gSet 6) Yfh) Yd6)
@[simp] def Yrt:AS:=(sSeq (sOwn 5 (dLst aNil)) Yd7)
@[simp] def Yru:AS:=(sSeq (sOwn 4 (dLst aNil)) Yrt)
@[simp] def Ycp:AS:=(sSeq (sOwn 3 (Ybd (b1 (lF (slF (getC 0) (some (kD (.int 3))) (some (b2 (kD (.int 3)) (b2 (cC (Yg (getV 0) (Yg (kD (.int 1)) aNil)) Yav) (kD (.int 21)) modI) addI)))) Yr) [none,some 1,some 2] (gSet 0) tY (Yfg))) Yru)
@[simp] def Yrv:AS:=(sSeq (sIf (b2 (b2 (b2 (cC (Yg (getV 0) (Yg (kD (.int 0)) aNil)) Yav) (kD (.int 244)) divI) (kD (.int 2)) modI) (kD (.int 1)) (eqM false)) (sSet 2 (b2 (getC 2) (kD (.int 9)) modI)) sNil) Ycp)
@[simp] def Yd8:AS:=(sSeq (sSet 2 (b2 (b2 (cC (Yg (getV 0) (Yg (kD (.int 0)) aNil)) Yav) (kD (.int 4)) divI) (kD (.int 61)) modI)) Yrv)
def Yn4:AS:=(sSeq (sSet 1 (b2 (lF (dLst (Yg (kD (.str "eithers")) (Yg (kD (.str "sums")) (Yg (kD (.str "ifs")) (Yg (kD (.str "nots")) aNil)))))) (b2 (cC (Yg (getV 0) (Yg (kD (.int 0)) aNil)) Yav) (kD (.int 4)) modI) ixD)) Yd8)
def Yc5:AQ->Option D:=runB 1 7 Yn4
theorem Yt8(bl:Bl K w mg):Okf P w K mg base 3 1 "_law_drawn" ["script"] Yc5:=by
 refine okfn bl.f72 sc_law_drawn λhr=>?_;exact(Yi (Yab 1 sc_law_drawn.nd (Yo (Yc (Yu (Yag (Yb Yv (Yb Yv (Yb Yv (Yb Yv Yj))))))) (Yc (Ya7 (Yc (Ym (Ybi bl) hr rfl (Yb (Ye 0) (Yb Yh Yj)) aL2)) (Yc Yh))))) (Yi (Yab 2 sc_law_drawn.nd (Ya7 (Yc (Yeg (Yc (Ym (Ybi bl) hr rfl (Yb (Ye 0) (Yb Yh Yj)) aL2)) (Yc Yh))) (Yc Yh))) (Yi (y8 (Ya1 hr.units (Yc (Ya7 (Yc (Yeg (Yc (Ym (Ybi bl) hr rfl (Yb (Ye 0) (Yb Yh Yj)) aL2)) (Yc Yh))) (Yc Yh))) (Yc Yh)) (Yk (Yab 2 sc_law_drawn.nd (Ya7 (Yd 2) (Yc Yh)))) Yw) (Yi (Yck 3 sc_law_drawn.nd cs_law_drawn_0 rfl (Yae (Yu (Ya6 (fl:=(some (kD (.int 3)))) (fh:=(some (b2 (kD (.int 3)) (b2 (cC (Yg (getV 0) (Yg (kD (.int 1)) aNil)) Yav) (kD (.int 21)) modI) addI))) (Yd 0) (Ycb (Yc Yh)) (Ycb (Yc (Yiy (Yc Yh) (Yc (Ya7 (Yc (Ym (Ybi bl) hr rfl (Yb (Ye 0) (Yb Yh Yj)) aL2)) (Yc Yh))))))))) (λ_ _ _ _ _=>(y7 0 cs_law_drawn_0.nd)) (λ_ _ _ _ _=>Yar) (λ_ _ _ _ _=>(Ym (Yv7 bl) hr rfl (Yb (Ye 1) (Yb (Ye 0) (Yb (Ye 2) Yj))) aL3)) (Yaj (i:=0) rfl)) (Yi (Yiw 4 sc_law_drawn.nd (Yag Yj)) (Yi (Yiw 5 sc_law_drawn.nd (Yag Yj)) (Yi (Yix jg rfl (Yhq rfl bl.Range (Yb (Ye 2) Yj)) (y7 6 sc_law_drawn.nd) (Yi (Ycc 4 (Yo (Yc (Yu (Yag (Yb Yv (Yb Yv Yj))))) (Yc (Ya7 (Yc (Ym (Yhh bl) hr rfl (Yb (Ym (Ybi bl) hr rfl (Yb (Ye 0) (Yb (Yiy (Yc Yh) (Yd 6)) Yj)) aL2) (Yb Yh Yj)) aL2)) (Yc Yh))))) (Yk (Ycc 5 (Yfo hr.units (Yc (Ya7 (Yc (Ym (Yhh bl) hr rfl (Yb (Ym (Ybi bl) hr rfl (Yb (Ye 0) (Yb (Yiy (Yc Yh) (Yd 6)) Yj)) aL2) (Yb Yh Yj)) aL2)) (Yc Yh))) (Yc Yh)))))) (Yk (Yg3 [4] (Yp (Yu (Yag (Yb (Ye 1) (Yb (Yad Yak Ydp rfl bl.Tuple boot_tuple (Yl (Yd 3) Yn)) (Yb (Ye 4) (Yb (Yu (Ya6 (fl:=none) (fh:=(some (b2 (cC (Yg (getV 0) (Yg (kD (.int 2)) aNil)) Yav) (b2 (getC 2) (kD (.int 1)) addI) modI))) (Yd 5) Yex (Ycb (Yc (Ya7 (Yc (Ym (Ybi bl) hr rfl (Yb (Ye 0) (Yb Yh Yj)) aL2)) (Yc (Yiy (Yd 2) (Yc Yh)))))))) Yj))))))))))))))))
theorem Yj7:FnScope ["saying"] ["saying"] (defScope (top 73)):=fns
def Yfx:AS:=(sRet (b2 (b2 (lF (dLst (Yg (kD (.str "-")) (Yg (kD (.str "+")) aNil)))) (cC (Yg (b2 (getC 0) (kD (.int 1)) ixD) aNil) intC) ixD) (cC (Yg (b2 (getC 0) (kD (.int 0)) ixD) aNil) strC) addS))
def Ybv:AQ->Option D:=runB 1 1 Yfx
theorem Yj8(bl:Bl K w mg):Okf P w K mg base 1 1 "_law_saying_word" ["saying"] Ybv:=by
 refine okfn bl.f73 Yj7 λhr=>?_;exact(Yk (Yp (y5z (Yc (Yo (Yc (Yu (Yag (Yb Yv (Yb Yv Yj))))) (Yc (Yad Yl8 Yu3 rfl bl.Int boot_int (Yl (Yc (Yo (Yd 0) (Yc Yh))) Yn))))) (Yc (Yad Yde Yjw rfl bl.Str boot_str (Yl (Yc (Yo (Yd 0) (Yc Yh))) Yn))))))
theorem sc_law_rule_words:FnScope ["kind","rule","numbers","words"] ["kind","rule"] (defScope (top 74)):=fns
theorem cs_law_rule_words_0:CompSc ["kind","rule","numbers","words"] (defScope (top 74)) ["saying"] [none] (fsc [(".0",.local),("saying",.local),("_law_saying_word",.globalImplicit)]):=y6 (by decide +kernel)
theorem cs_law_rule_words_1:CompSc ["kind","rule","numbers","words"] (defScope (top 74)) ["beacon"] [none] (fsc [(".0",.local),("beacon",.local),("str",.globalImplicit)]):=y6 (by decide +kernel)
def Yb9:AV:=(cC (Yg (getV 0) aNil) Ybv)
def Ya2:AV:=(cC (Yg (getC 0) aNil) strC)
@[simp] def Yj9:AS:=(wF [3] (sRet (getV 3)))
@[simp] def Yka:AS:=(sSeq (sIf (b2 (b2 (getC 1) (kD (.int 1)) ixD) (kD .non) (isN true)) (sMut 3 (cC (Yg (b2 (getC 1) (kD (.int 1)) ixD) aNil) strC) appD) sNil) Yj9)
@[simp] def Ykb:AS:=(sSeq (sOwn 3 (b2 (lF (b2 (lF (dLst (Yg (kD (.str "rule")) aNil))) (getC 2) catD)) (lF (dLst (Yg (kD (.str ">")) aNil))) catD)) Yka)
@[simp] def Ykc:AS:=(sSeq (sIf (b2 (getC 0) (kD (.str "sums")) (eqM false)) (sRet (lF (b2 (lF (dLst (Yg (kD (.str "rule")) (Yg (b2 (lF (dLst (Yg (kD (.str "even")) (Yg (kD (.str "odd")) aNil)))) (cC (Yg (b2 (getC 1) (kD (.int 1)) ixD) aNil) intC) ixD) aNil)))) (getC 2) catD))) sNil) Ykb)
@[simp] def Ykd:AS:=(sSeq (sOwn 2 (Ybd (b1 (b2 (getC 1) (kD (.int 0)) ixD) Yr) [none] (gSet 0) tY (Ya2))) Ykc)
def Ybk:AS:=(sSeq (sIf (b2 (getC 0) (kD (.str "eithers")) (eqM false)) (sRet (lF (b2 (lF (dLst (Yg (kD (.str "rule")) aNil))) (lF (Ybd (b1 (getV 1) Yr) [none] (gSet 0) tY (Yb9))) catD))) sNil) Ykd)
def Yb6:AQ->Option D:=runB 2 4 Ybk
theorem Yk9(bl:Bl K w mg):Okf P w K mg base 2 2 "_law_rule_words" ["kind","rule"] Yb6:=by
 refine okfn bl.f74 sc_law_rule_words λhr=>?_;exact(Yi (y8 (Ya1 hr.units (Yd 0) (Yc Yv)) (Yk (Yp (Yu (Yct (Yc (Yu (Yag (Yb Yv Yj)))) (Yc (Yu (Yat cs_law_rule_words_0 rfl (Yae (Ye 1)) (λ_ _ _ _ _=>(y7 0 cs_law_rule_words_0.nd)) (λ_ _ _ _ _=>Yar) (λ_ _ _ _ _=>(Ym (Yj8 bl) hr rfl (Yb (Ye 0) Yj) aL1)) (Yaj (i:=0) rfl)))))))) Yw) (Yi (Yck 2 sc_law_rule_words.nd cs_law_rule_words_1 rfl (Yae (Yo (Yd 1) (Yc Yh))) (λ_ _ _ _ _=>(y7 0 cs_law_rule_words_1.nd)) (λ_ _ _ _ _=>Yar) (λ_ _ _ _ _=>(Yad Yde Yjw rfl bl.Str boot_str (Yl (Yd 0) Yn))) (Yaj (i:=0) rfl)) (Yi (y8 (Ya1 hr.units (Yd 0) (Yc Yv)) (Yk (Yp (Yu (Yct (Yc (Yu (Yag (Yb Yv (Yb (Yo (Yc (Yu (Yag (Yb Yv (Yb Yv Yj))))) (Yc (Yad Yl8 Yu3 rfl bl.Int boot_int (Yl (Yc (Yo (Yd 1) (Yc Yh))) Yn)))) Yj))))) (Yd 2))))) Yw) (Yi (Yiw 3 sc_law_rule_words.nd (Yct (Yc (Yu (Yct (Yc (Yu (Yag (Yb Yv Yj)))) (Yd 2)))) (Yc (Yu (Yag (Yb Yv Yj)))))) (Yi (y8 (Yl2 (Yc (Yo (Yd 1) (Yc Yh))) (Yc Yay)) (Yk (Ycc 3 (Yad Yde Yjw rfl bl.Str boot_str (Yl (Yc (Yo (Yd 1) (Yc Yh))) Yn)))) Yw) (Yk (Yg3 [3] (Yp (Ye 3)))))))))
theorem sc_law_rows:FnScope ["kind","rules","hands","lights","rows","rule"] ["kind","rules","hands","lights"] (defScope (top 75)):=fns
theorem cs_law_rows_0:CompSc ["kind","rules","hands","lights","rows","rule"] (defScope (top 75)) ["hand"] [none] (fsc [(".0",.local),("hand",.local)]):=y6 (by decide +kernel)
theorem cs_law_rows_1:CompSc ["kind","rules","hands","lights","rows","rule"] (defScope (top 75)) ["lit"] [none] (fsc [(".0",.local),("lit",.local),("int",.globalImplicit)]):=y6 (by decide +kernel)
def Ygj:AV:=(b2 (getC 0) (kD (.int 0)) ixS)
def Ygk:AS:=(sMut 4 (cC (Yg (getV 0) (Yg (getV 5) aNil)) Yb6) appD)
def Yke:AV:=(b2 (lF (dLst (Yg (kD (.str "0")) (Yg (kD (.str "1")) aNil)))) (cC (Yg (getC 0) aNil) intC) ixD)
@[simp] def Yt9:AS:=(wF [4] (sRet (getV 4)))
@[simp] def Yhi:AS:=(sSeq (sIf (b2 (getC 3) (lF (dLst aNil)) (eqM true)) (sMut 4 (lF (dLst (Yg (kD (.str "settled")) (Yg (cC (Yg (lF (Ybd (b1 (getV 3) Yr) [none] (gSet 0) tY (Yke))) aNil) (Yg5 (Str.ofString ""))) aNil)))) appD) sNil) Yt9)
@[simp] def Ydl:AS:=(sSeq (sFor (b1 (getV 1) Yr) (gSet 5) Ygk) Yhi)
def Ypu:AS:=(y53 4 (lF (dLst (Yg (kD (.str "kind")) (Yg (getV 0) aNil)))) (kD (.str "hands")) (b2 (getC 2) (lF (dLst aNil)) (eqM true)) (cC (Yg (lF (Ybd (b1 (getV 2) Yr) [none] (gSet 0) tY (Ygj))) aNil) (Yg5 (Str.ofString ""))) Ydl)
def Yc6:AQ->Option D:=runB 4 6 Ypu
theorem Yn5(bl:Bl K w mg):Okf P w K mg base 3 4 "_law_rows" ["kind","rules","hands","lights"] Yc6:=by
 refine okfn bl.f75 sc_law_rows λhr=>?_;exact(y54 4 sc_law_rows.nd (Yu (Yag (Yb Yv (Yb (Ye 0) Yj)))) Yv (Yeu hr.units (Yd 2) (Yc (Yu (Yag Yj)))) (Yey (Yl (Yc (Yu (Yat cs_law_rows_0 rfl (Yae (Ye 2)) (λ_ _ _ _ _=>(y7 0 cs_law_rows_0.nd)) (λ_ _ _ _ _=>Yar) (λ_ _ _ _ _=>(Yq0 (Yd 0) (Yc Yh) (λ_ _=>rfl))) (Yaj (i:=0) rfl)))) Yn)) (Yi (Yix jg rfl (Yae (Ye 1)) (y7 5 sc_law_rows.nd) (Yk (Ycc 4 (Ym (Yk9 bl) hr rfl (Yb (Ye 0) (Yb (Ye 5) Yj)) aL2)))) (Yi (y8 (Yeu hr.units (Yd 3) (Yc (Yu (Yag Yj)))) (Yk (Ycc 4 (Yu (Yag (Yb Yv (Yb (Yey (Yl (Yc (Yu (Yat cs_law_rows_1 rfl (Yae (Ye 3)) (λ_ _ _ _ _=>(y7 0 cs_law_rows_1.nd)) (λ_ _ _ _ _=>Yar) (λ_ _ _ _ _=>(Yo (Yc (Yu (Yag (Yb Yv (Yb Yv Yj))))) (Yc (Yad Yl8 Yu3 rfl bl.Int boot_int (Yl (Yd 0) Yn))))) (Yaj (i:=0) rfl)))) Yn)) Yj)))))) Yw) (Yk (Yg3 [4] (Yp (Ye 4)))))))
theorem Yv8:FnScope ["rows"] ["rows"] (defScope (top 76)):=fns
theorem cs_law_page_0:CompSc ["rows"] (defScope (top 76)) ["row"] [none] (fsc [(".0",.local),("row",.local)]):=y6 (by decide +kernel)
def Ygl:AV:=(cC (Yg (getC 0) aNil) (Yg5 (Str.ofString " ")))
def Ypv:AS:=(sRet (cC (Yg (lF (Ybd (b1 (getV 0) Yr) [none] (gSet 0) tY (Ygl))) aNil) (Yg5 (Str.ofString "\n"))))
def Yea:AQ->Option D:=runB 1 1 Ypv
theorem Yi5(bl:Bl K w mg):Okf P w K mg base 1 1 "_law_page" ["rows"] Yea:=by
 refine okfn bl.f76 Yv8 λhr=>?_;exact(Yk (Yp (Yey (Yl (Yc (Yu (Yat cs_law_page_0 rfl (Yae (Ye 0)) (λ_ _ _ _ _=>(y7 0 cs_law_page_0.nd)) (λ_ _ _ _ _=>Yar) (λ_ _ _ _ _=>(Yey (Yl (Yd 0) Yn))) (Yaj (i:=0) rfl)))) Yn))))
theorem sc_law_turned:FnScope ["kind","row","cell","begin","end"] ["kind","row","cell"] (defScope (top 77)):=fns
@[simp] def Yox:AS:=(sRet (lF (b2 (lF (b2 (slD (getC 1) none (some (getC 3))) (lF (revF (slD (getC 1) (some (getC 3)) (some (getC 4))))) catD)) (slD (getC 1) (some (getC 4)) none) catD)))
@[simp] def Yoy:AS:=(sSeq (sIf (orT (b2 (getC 0) (kD (.str "ifs")) (eqM false)) (b2 (getC 0) (kD (.str "nots")) (eqM false))) (sSet 4 (b2 (getC 1) (kD (.str ">")) idxT)) sNil) Yox)
@[simp] def Yoz:AS:=(sSeq (sIf (b2 (getC 0) (kD (.str "sums")) (eqM false)) (sSet 3 (kD (.int 2))) sNil) Yoy)
@[simp] def Yo0:AS:=(sSeq (sSet 4 (cC (Yg (getC 1) aNil) lenC)) Yoz)
@[simp] def Yo1:AS:=(sSeq (sSet 3 (kD (.int 1))) Yo0)
def Ybr:AS:=(sSeq (sIf (orT (b2 (b2 (getC 1) (kD (.int 0)) ixD) (kD (.str "rule")) (eqM true)) (b2 (b2 (getC 2) (kD (.int 2)) modI) (kD (.int 0)) (eqM false))) (sRet (getV 1)) sNil) Yo1)
def Yaz:AQ->Option D:=runB 3 5 Ybr
theorem Yrw(bl:Bl K w mg):Okf P w K mg base 1 3 "_law_turned" ["kind","row","cell"] Yaz:=by
 refine okfn bl.f77 sc_law_turned λhr=>?_;exact(Yi (y8 (Ycd (Yew (Yeu hr.units (Yc (Yo (Yd 1) (Yc Yh))) (Yc Yv)) (Ydq (Ya1 hr.units (Yc (Ya7 (Yd 2) (Yc Yh))) (Yc Yh))))) (Yk (Yp (Ye 1))) Yw) (Yi (Yab 3 sc_law_turned.nd Yh) (Yi (Yab 4 sc_law_turned.nd (Yt Ys Yai rfl bl.Len PySem.boot_len (Yl (Yd 1) Yn))) (Yi (y8 (Ya1 hr.units (Yd 0) (Yc Yv)) (Yk (Yab 3 sc_law_turned.nd Yh)) Yw) (Yi (y8 (Ycd (Yew (Ya1 hr.units (Yd 0) (Yc Yv)) (Ydq (Ya1 hr.units (Yd 0) (Yc Yv))))) (Yk (Yab 4 sc_law_turned.nd (Ypp (Yd 1) Yv))) Yw) (Yk (Yp (Yu (Yct (Yc (Yu (Yct (Yc (Ymy (fl:=none) (fh:=(some (getC 3))) (Yd 1) Yex (Ycb (Yd 3)))) (Yc (Yu (Yvi rfl rfl bl.List rfl bl.Reversed (Yc (Ymy (fl:=(some (getC 3))) (fh:=(some (getC 4))) (Yd 1) (Ycb (Yd 3)) (Ycb (Yd 4)))))))))) (Yc (Ymy (fl:=(some (getC 4))) (fh:=none) (Yd 1) (Ycb (Yd 4)) Yex)))))))))))
theorem sc_law_left:FnScope ["kind","rules","lights","book","k"] ["kind","rules","lights"] (defScope (top 78)):=fns
def Yd9:AS:=(sSet 3 (cC (Yg (getV 3) (Yg (getV 4) (Yg (b2 (getC 2) (getC 4) ixD) aNil))) Ycm))
@[simp] def Yua:AS:=(sRet (getV 3))
@[simp] def Yub:AS:=(sSeq (sFor (cF (Yg (cC (Yg (getC 2) aNil) lenC) aNil) rng1) (gSet 4) Yd9) Yua)
def Ypw:AS:=(sSeq (sSet 3 (dTup (Yg (getV 0) (Yg (getV 1) aNil)))) Yub)
def Yhz:AQ->Option D:=runB 3 5 Ypw
theorem Yv9(bl:Bl K w mg):Okf P w K mg base 5 3 "_law_left" ["kind","rules","lights"] Yhz:=by
 refine okfn bl.f78 sc_law_left λhr=>?_;exact(Yi (Yab 3 sc_law_left.nd (Ybw (Yb (Ye 0) (Yb (Ye 1) Yj)))) (Yi (Yix jg rfl (Yhq rfl bl.Range (Yb (Yt Ys Yai rfl bl.Len PySem.boot_len (Yl (Yd 2) Yn)) Yj)) (y7 4 sc_law_left.nd) (Yk (Yab 3 sc_law_left.nd (Ym (Yif bl) hr rfl (Yb (Ye 3) (Yb (Ye 4) (Yb (Yo (Yd 2) (Yd 4)) Yj))) aL3)))) (Yk (Yp (Ye 3)))))
theorem sc_Watch_left:FnScope ["self","book","beacon","lit"] ["self"] (defScope (inClass (top 40) 3)):=fns
def Ycq:AS:=(sSet 1 (cC (Yg (getV 1) (Yg (getV 2) (Yg (getV 3) aNil))) Ycm))
@[simp] def Yo2:AS:=(sRet (getV 1))
@[simp] def Yo3:AS:=(sSeq (sFor (b1 (b1 (getV 0) (fldD "Watch" "truths")) Yy9) (Yof 2 3) Ycq) Yo2)
def Ylm:AS:=(sSeq (sSet 1 (b1 (getV 0) (fldD "Watch" "book"))) Yo3)
def Ybs:AQ->Option D:=runB 1 4 Ylm
theorem Yrx(bl:Bl K w mg){c:Str}(F:Mq K c "left" "Watch.left" (inClass (top 40) 3)):Okm P w K mg base 5 c "left" ["self"] (spOf K 1 Ybs):=by
 refine okmn F sc_Watch_left λhr=>?_;exact(Yi (Yab 1 sc_Watch_left.nd (Ycv bl.n_Watch_book.cf (Ye 0))) (Yi (Yix jg rfl (Yjm rfl bl.Enumerate (Ycv bl.n_Watch_truths.cf (Ye 0))) (Yxg 2 3 rfl sc_Watch_left.nd) (Yk (Yab 1 sc_Watch_left.nd (Ym (Yif bl) hr rfl (Yb (Ye 1) (Yb (Ye 2) (Yb (Ye 3) Yj))) aL3)))) (Yk (Yp (Ye 1)))))
theorem sc_law_right:FnScope ["watch","kind","rules","hands","lights","evening"] ["watch","kind","rules","hands","lights"] (defScope (top 79)):=fns
theorem cs_law_right_0:CompSc ["watch","kind","rules","hands","lights","evening"] (defScope (top 79)) ["lit"] [none] (fsc [(".0",.local),("lit",.local),("isinstance",.globalImplicit),("bool",.globalImplicit)]):=y6 (by decide +kernel)
def Yfi:AV:=(mB (b1 (getC 0) (isiD "bool")))
@[simp] def Yry:AS:=(sRet (mB (b2 (b1 (getV 0) (mthD "Watch" "turn" Yap)) (b2 (getC 3) (cC (Yg (getC 4) aNil) lenC) ixD) (eqM false))))
@[simp] def Yrz:AS:=(sSeq (sIf (b2 (cC (Yg (getC 4) aNil) lenC) (cC (Yg (getC 3) aNil) lenC) (eqM false)) (sRet (mB (b2 (b1 (getV 0) (mthD "Watch" "turn" Yap)) (kD .non) (isN false)))) sNil) Yry)
@[simp] def Yr0:AS:=(sSeq (sIf (orT (notT (b1 (mB (b1 (getC 5) (isiD "tuple"))) truD)) (orT (b2 (lF (cF (Yg (getC 5) aNil) Yy1)) (getC 4) (eqM true)) (notT (b1 (cC (Yg (lF (Ybd (b1 (getV 5) Yr) [none] (gSet 0) tY (Yfi))) aNil) allC) truD)))) (sRet (kD (.bl false))) sNil) Yrz)
@[simp] def Yr1:AS:=(sSeq (sSet 5 (b1 (getV 0) (mthD "Watch" "evening" Yaa))) Yr0)
@[simp] def Yr2:AS:=(sSeq (sIf (b2 (cC (Yg (getV 0) aNil) Yda) (cC (Yg (cC (Yg (getV 1) (Yg (getV 2) (Yg (getV 3) (Yg (getV 4) aNil)))) Yc6) aNil) Yea) (eqM true)) (sRet (kD (.bl false))) sNil) Yr1)
def Yi6:AS:=(sSeq (sIf (b2 (b1 (getV 0) (mthD "Watch" "left" Ybs)) (cC (Yg (getV 1) (Yg (getV 2) (Yg (getV 4) aNil))) Yhz) (eqM true)) (sRet (kD (.bl false))) sNil) Yr2)
def Ya9:AQ->Option D:=runB 5 6 Yi6
theorem Ydm(bl:Bl K w mg):Okf P w K mg base 6 5 "_law_right" ["watch","kind","rules","hands","lights"] Ya9:=by
 refine okfn bl.f79 sc_law_right λhr=>?_;exact(Yi (y8 (Yeu hr.units (Yc (Yby (Yrx bl bl.r_Watch_left) hr (Ye 0))) (Yc (Ym (Yv9 bl) hr rfl (Yb (Ye 1) (Yb (Ye 2) (Yb (Ye 4) Yj))) aL3))) (Yk (Yp Yet)) Yw) (Yi (y8 (Yeu hr.units (Yc (Ym (Ynk bl) hr rfl (Yb (Ye 0) Yj) aL1)) (Yc (Ym (Yi5 bl) hr rfl (Yb (Ym (Yn5 bl) hr rfl (Yb (Ye 1) (Yb (Ye 2) (Yb (Ye 3) (Yb (Ye 4) Yj)))) aL4) Yj) aL1))) (Yk (Yp Yet)) Yw) (Yi (Yab 5 sc_law_right.nd (Yby (Yb4 bl bl.r_Watch_evening) hr (Ye 0))) (Yi (y8 (Ycd (Yew (Ycj (Yaq (Yc (Yky (Yd 5) rfl rfl bl.Isinstance bl.Tuple boot_tuple (y1n))))) (Yew (Yeu hr.units (Yc (Yu (Ykw Ygv Yqi rfl bl.List boot_list (Yl (Yd 5) Yn)))) (Yd 4)) (Ydq (Ycj (Yaq (Yc (Yt (Ymp rfl) Yu5 rfl bl.All boot_all (Yl (Yc (Yu (Yat cs_law_right_0 rfl (Yae (Ye 5)) (λ_ _ _ _ _=>(y7 0 cs_law_right_0.nd)) (λ_ _ _ _ _=>Yar) (λ_ _ _ _ _=>(Yky (Yd 0) rfl rfl bl.Isinstance bl.Bool boot_bool (Yxa))) (Yaj (i:=0) rfl)))) Yn))))))))) (Yk (Yp Yet)) Yw) (Yi (y8 (Ya1 hr.units (Yc (Yt Ys Yai rfl bl.Len PySem.boot_len (Yl (Yd 4) Yn))) (Yc (Yt Ys Yai rfl bl.Len PySem.boot_len (Yl (Yd 3) Yn)))) (Yk (Yp (y9d (Yc (Yby (Yd4 bl bl.r_Watch_turn) hr (Ye 0))) (Yc Yay)))) Yw) (Yk (Yp (Yfo hr.units (Yc (Yby (Yd4 bl bl.r_Watch_turn) hr (Ye 0))) (Yc (Yo (Yd 3) (Yc (Yt Ys Yai rfl bl.Len PySem.boot_len (Yl (Yd 4) Yn)))))))))))))
theorem Yr3:FnScope ["self"] ["self"] (defScope (inClass (top 40) 6)):=fns
def Yln:Hm:=(seqH (ifH (rdT (b2 (cC (Yg (b1 (getV 0) (fldD "Watch" "truths")) aNil) lenC) (kD (.int 0)) (eqM false))) (Yg4 nS) nilH) (popH 0))
def Ydn:Hf:=runH 1 Yln
theorem Ykf(bl:Bl K w mg){c:Str}(F:Mq K c "back" "Watch.back" (inClass (top 40) 6)):Okm P w K mg base 1 c "back" ["self"] (spH K 1 Ydn):=by
 refine okmh F Yr3 λhr=>?_;exact(Yan (Ym2 (Yf3 (Ya1 hr.units (Yc (Yt Ys Yai rfl bl.Len PySem.boot_len (Yl (Yc (Ycv bl.n_Watch_truths.cf (Ye 0))) Yn))) (Yc Yh))) (Ybm (Ybg Yaf)) Yi0) (Ybm (Yzj 0 bl.n_Watch_truths.cf)))
theorem sc_law:FnScope ["script","kind","rules","hands","lights","rows","turned","watch","other","less"] ["script"] (defScope (top 80)):=fns
theorem cs_law_0:CompSc ["script","kind","rules","hands","lights","rows","turned","watch","other","less"] (defScope (top 80)) ["k","kind","rows","script"] [none,some 1,some 5,some 0] (fsc [(".0",.local),("k",.local),("_law_turned",.globalImplicit),("_law_cell",.globalImplicit),("kind",.free),("rows",.free),("script",.free)]):=y6 (by decide +kernel)
def Yh0:AV:=(cC (Yg (getV 1) (Yg (b2 (getC 2) (getC 0) ixD) (Yg (b2 (cC (Yg (getV 3) (Yg (b2 (kD (.int 3)) (getC 0) addI) aNil)) Yav) (kD (.int 3)) divI) aNil))) Yaz)
def Yr4:Hm:=(exH (y24 "Watch" "back" Ydn (getV 8)))
def Yxy:Hm:=(retH (rdE (cC (Yg (getV 8) (Yg (getV 1) (Yg (getV 2) (Yg (getV 3) (Yg (lF (slF (getC 4) none (some (getC 9)))) aNil))))) Ya9)))
def Yxz:Hm:=(seqH (y7o (rdT (b2 (cC (Yg (b1 (getV 8) (mthD "Watch" "evening" Yaa)) aNil) lenC) (getC 9) gtI)) Yr4) Yxy)
def Yx0:Hm:=(seqH (Yg4 (sSet 9 (b2 (cC (Yg (getC 4) aNil) lenC) (b2 (b2 (cC (Yg (getV 0) (Yg (kD (.int 1)) aNil)) Yav) (kD (.int 21)) divI) (b2 (cC (Yg (getC 4) aNil) lenC) (kD (.int 1)) addI) modI) subI))) Yxz)
def Yr5:Hm:=(seqH (ifH (rdT (notT (b1 (cC (Yg (getV 8) (Yg (getV 1) (Yg (getV 2) (Yg (getV 3) (Yg (getV 4) aNil))))) Ya9) truD))) (Yg4 (sRet (kD (.bl false)))) nilH) Yx0)
def Yx1:Hm:=(seqH (ifH (y20 (b2 (cC (Yg (getC 4) aNil) lenC) (cC (Yg (getC 3) aNil) lenC) ltI)) (seqH (exH (y9u "settle" Yn1 (getV 7) (Yg (kD (.bl true)) aNil))) (ifH (rdT (notT (b1 (cC (Yg (getV 7) (Yg (getV 1) (Yg (getV 2) (Yg (getV 3) (Yg (lF (b2 (getC 4) (lF (dLst (Yg (kD (.bl true)) aNil))) catD)) aNil))))) Ya9) truD))) (Yg4 (sRet (kD (.bl false)))) nilH)) (ifH (y20 (b2 (getC 4) (lF (dLst aNil)) (eqM true))) (neH (y24 "Watch" "back" Ydn (getV 7)) (b2 (getC 4) (b1 (kD (.int 1)) negI) ixD) (rdT (notT (b1 (cC (Yg (getV 7) (Yg (getV 1) (Yg (getV 2) (Yg (getV 3) (Yg (lF (slF (getC 4) none (some (b1 (kD (.int 1)) negI)))) aNil))))) Ya9) truD))) (Yg4 (sRet (kD (.bl false)))) nilH) nilH)) Yr5)
def Yr6:Hm:=(seqH (ifH (rdT (notT (b1 (cC (Yg (getV 7) (Yg (getV 1) (Yg (getV 2) (Yg (getV 3) (Yg (getV 4) aNil))))) Ya9) truD))) (Yg4 (sRet (kD (.bl false)))) nilH) Yx1)
def Yx2:Hm:=(seqH (frzH [6] (setH 8 (y5q (Yg (cC (Yg (getV 6) aNil) Yea) aNil) Yeo))) Yr6)
def Yx3:Hm:=(seqH (frzH [6] (setH 7 (y5q (Yg (cC (Yg (getV 6) aNil) Yea) aNil) Yeo))) Yx2)
def Ywa:AS:=(y23 Yx3)
def Yr7:AS:=(sSeq (sOwn 6 (Ybd (cF (Yg (cC (Yg (getC 5) aNil) lenC) aNil) rng1) [none,some 1,some 5,some 0] (gSet 0) tY (Yh0))) Ywa)
def Yr8:AS:=(sSeq (sSet 5 (cC (Yg (getV 1) (Yg (getV 2) (Yg (getV 3) (Yg (getV 4) aNil)))) Yc6)) Yr7)
def y6h:AS:=(sSeq (sAsg (cC (Yg (getV 0) aNil) Yc5) (Yxs 1 2 3 4)) Yr8)
def Ywb:AQ->Option D:=runB 1 10 y6h
theorem Yadn(bl:Bl K w mg)(F:Fun K "law" "law" (top 80) a fd):FnOk P w K mg base CX0 9 a fd ["script"] (spOf K 1 Ywb):=by
 refine Ykx (k:=8) F sc_law rfl rfl λcdv A outer s H E hr=>?_;exact(Yi (y9q (y29 1 2 3 4 rfl sc_law.nd) (Ym (Yt8 bl) hr rfl (Yb (Ye 0) Yj) aL1)) (Yi (Yab 5 sc_law.nd (Ym (Yn5 bl) hr rfl (Yb (Ye 1) (Yb (Ye 2) (Yb (Ye 3) (Yb (Ye 4) Yj)))) aL4)) (Yi (Yck 6 sc_law.nd cs_law_0 rfl (Yhq rfl bl.Range (Yb (Yt Ys Yai rfl bl.Len PySem.boot_len (Yl (Yd 5) Yn)) Yj)) (λ_ _ _ _ _=>(y7 0 cs_law_0.nd)) (λ_ _ _ _ _=>Yar) (λ_ _ _ _ _=>(Ym (Yrw bl) hr rfl (Yb (Ye 1) (Yb (Yo (Yd 2) (Yd 0)) (Yb (Yeg (Yc (Ym (Ybi bl) hr rfl (Yb (Ye 3) (Yb (Yiy (Yc Yh) (Yd 0)) Yj)) aL2)) (Yc Yh)) Yj))) aL3)) (Yaj (i:=0) rfl)) (y9x (Yan (Yvo [6] (Yvn 7 sc_law.nd (Yqx (Yll bl) hr rfl (Yb (Ym (Yi5 bl) hr rfl (Yb (Ye 6) Yj) aL1) Yj) aL1))) (Yan (Yvo [6] (Yvn 8 sc_law.nd (Yqx (Yll bl) hr rfl (Yb (Ym (Yi5 bl) hr rfl (Yb (Ye 6) Yj) aL1) Yj) aL1))) (Yan (Ym2 (Yf3 (Ycj (Yaq (Yc (Ym (Ydm bl) hr rfl (Yb (Ye 7) (Yb (Ye 1) (Yb (Ye 2) (Yb (Ye 3) (Yb (Ye 4) Yj))))) aL5))))) (Ybm (Ybg (Yp Yet))) Yi0) (Yan (Ym2 (Yxp (Ys7 (Yc (Yt Ys Yai rfl bl.Len PySem.boot_len (Yl (Yd 4) Yn))) (Yc (Yt Ys Yai rfl bl.Len PySem.boot_len (Yl (Yd 3) Yn))))) (Yan (Yqw (Yxq (Ypt bl) hr (Ye 7) (Yb Yet Yj) aL1)) (Ybm (Ym2 (Yf3 (Ycj (Yaq (Yc (Ym (Ydm bl) hr rfl (Yb (Ye 7) (Yb (Ye 1) (Yb (Ye 2) (Yb (Ye 3) (Yb (Yu (Yct (Yd 4) (Yc (Yu (Yag (Yb Yet Yj)))))) Yj))))) aL5))))) (Ybm (Ybg (Yp Yet))) Yi0))) (Ybm (Ym2 (Yxp (Yeu hr.units (Yd 4) (Yc (Yu (Yag Yj))))) (Ybm (y5x hr.units (Yta (Ykf bl bl.r_Watch_back) hr (Ye 7)) (Yo (Yd 4) (Yc (Ymx (Yc Yh)))) (Yf3 (Ycj (Yaq (Yc (Ym (Ydm bl) hr rfl (Yb (Ye 7) (Yb (Ye 1) (Yb (Ye 2) (Yb (Ye 3) (Yb (Yu (Ya6 (fl:=none) (fh:=(some (b1 (kD (.int 1)) negI))) (Yd 4) Yex (Ycb (Yc (Ymx (Yc Yh)))))) Yj))))) aL5))))) (Ybm (Ybg (Yp Yet))) Yi0)) Yi0))) (Yan (Ym2 (Yf3 (Ycj (Yaq (Yc (Ym (Ydm bl) hr rfl (Yb (Ye 8) (Yb (Ye 1) (Yb (Ye 2) (Yb (Ye 3) (Yb (Ye 4) Yj))))) aL5))))) (Ybm (Ybg (Yp Yet))) Yi0) (Yan (Ybg (Yab 9 sc_law.nd (y9b (Yc (Yt Ys Yai rfl bl.Len PySem.boot_len (Yl (Yd 4) Yn))) (Yc (Ya7 (Yc (Yeg (Yc (Ym (Ybi bl) hr rfl (Yb (Ye 0) (Yb Yh Yj)) aL2)) (Yc Yh))) (Yc (Yiy (Yc (Yt Ys Yai rfl bl.Len PySem.boot_len (Yl (Yd 4) Yn))) (Yc Yh)))))))) (Yan (y2z jg (Yf3 (Yib (Yc (Yt Ys Yai rfl bl.Len PySem.boot_len (Yl (Yc (Yby (Yb4 bl bl.r_Watch_evening) hr (Ye 8))) Yn))) (Yd 9))) (Ybm (Yqw (Yta (Ykf bl bl.r_Watch_back) hr (Ye 8))))) (Ybm (Yqv (Yxo (Ym (Ydm bl) hr rfl (Yb (Ye 8) (Yb (Ye 1) (Yb (Ye 2) (Yb (Ye 3) (Yb (Yu (Ya6 (fl:=none) (fh:=(some (getC 9))) (Yd 4) Yex (Ycb (Yd 9)))) Yj))))) aL5)))))))))))))))
end
abbrev Yr9:Nat:=9
theorem all_mk{l:W.OpenLaw}{w:World}{K:W.Frag}{h:Heap}{mg:AE}{fa vk:Addr}(X:K.In h)(G:h.Ns mainGlobals mg)(hfa:mg "law"=some (.ref fa))
 {xl v3:Option Addr}{xm:Array (Option Value)}{xn v4 v5 v6 vd v7:Value}
 (F_is_beacon:Fk K "is_beacon" 13)
 (F_checked_beacon:Fk K "checked_beacon" 14)
 (F_checked_truth:Fk K "checked_truth" 15)
 (F_checked_beacons:Fk K "checked_beacons" 16)
 (F_either_made:Fk K "either_made" 17)
 (F_sum_made:Fk K "sum_made" 18)
 (F_if_made:Fk K "if_made" 19)
 (F_rule_made:Fk K "rule_made" 20)
 (F_book_made:Fk K "book_made" 21)
 (F_either_holds:Fk K "either_holds" 22)
 (F_sum_holds:Fk K "sum_holds" 23)
 (F_if_holds:Fk K "if_holds" 24)
 (F_rule_holds:Fk K "rule_holds" 25)
 (F_broken_rules:Fk K "broken_rules" 26)
 (F_holds:Fk K "holds" 27)
 (F_beacons_in:Fk K "beacons_in" 28)
 (F_beacons_of:Fk K "beacons_of" 29)
 (F_without:Fk K "without" 30)
 (F_either_left:Fk K "either_left" 31)
 (F_sum_left:Fk K "sum_left" 32)
 (F_if_left:Fk K "if_left" 33)
 (F_rule_left:Fk K "rule_left" 34)
 (F_left_behind:Fk K "left_behind" 35)
 (F_is_hand:Fk K "is_hand" 38)
 (F_check_hands:Fk K "check_hands" 39)
 (F_saying_written:Fk K "saying_written" 49)
 (F_rule_written:Fk K "rule_written" 50)
 (F_signs_written:Fk K "signs_written" 51)
 (F_page_written:Fk K "page_written" 52)
 (F_number_read:Fk K "number_read" 53)
 (F_beacon_read:Fk K "beacon_read" 54)
 (F_saying_read:Fk K "saying_read" 55)
 (F_hand_read:Fk K "hand_read" 56)
 (F_truth_read:Fk K "truth_read" 57)
 (F_each_read:Fk K "each_read" 58)
 (F_sum_read:Fk K "sum_read" 59)
 (F_if_read:Fk K "if_read" 60)
 (F_rule_read:Fk K "rule_read" 61)
 (F_kind_read:Fk K "kind_read" 62)
 (F_hands_read:Fk K "hands_read" 63)
 (F_settled_read:Fk K "settled_read" 64)
 (F_rows_read:Fk K "rows_read" 65)
 (F_watch_made:Fk K "watch_made" 66)
 (F_page_read:Fk K "page_read" 67)
 (F_law_cell:Fk K "_law_cell" 69)
 (F_law_mixed:Fk K "_law_mixed" 70)
 (F_law_rule:Fk K "_law_rule" 71)
 (F_law_drawn:Fk K "_law_drawn" 72)
 (F_law_saying_word:Fk K "_law_saying_word" 73)
 (F_law_rule_words:Fk K "_law_rule_words" 74)
 (F_law_rows:Fk K "_law_rows" 75)
 (F_law_page:Fk K "_law_page" 76)
 (F_law_turned:Fk K "_law_turned" 77)
 (F_law_left:Fk K "_law_left" 78)
 (F_law_right:Fk K "_law_right" 79)
 (xo:W.nsIn K mainGlobals "law"=some (some (.ref vk))) (xp:K.lookup vk=some ⟨xn,xl,.func (W.fnOf "law" "law" (defArgs (top 80)) (defBody (top 80)) (defScope (top 80)) .none v4 v5 v6 v3 vd v7),xm⟩) (xq:W.codeIn K vd "law"=true) (xt:W.keepIn K (.ref vk)=true)
 (R_Watch_back:Mq K "Watch" "back" "Watch.back" (inClass (top 40) 6))
 (R_Watch_evening:Mq K "Watch" "evening" "Watch.evening" (inClass (top 40) 2))
 (R_Watch_left:Mq K "Watch" "left" "Watch.left" (inClass (top 40) 3))
 (R_Watch_settle:Mq K "Watch" "settle" "Watch.settle" (inClass (top 40) 5))
 (R_Watch_turn:Mq K "Watch" "turn" "Watch.turn" (inClass (top 40) 1))
 (R_Watch_winner:Mq K "Watch" "winner" "Watch.winner" (inClass (top 40) 4))
 (I_Watch:Iqc K "Watch" "Watch.__init__" (inClass (top 40) 0))
 (N_Watch_book:Nq K "Watch" "book")
 (N_Watch_hands:Nq K "Watch" "hands")
 (N_Watch_truths:Nq K "Watch" "truths")
 (A_beacon_read:W.nsIn K mainGlobals "beacon_read"=some (some (.ref 356)))
 (A_hand_read:W.nsIn K mainGlobals "hand_read"=some (some (.ref 370)))
 (A_truth_read:W.nsIn K mainGlobals "truth_read"=some (some (.ref 377)))
 (A_saying_read:W.nsIn K mainGlobals "saying_read"=some (some (.ref 363)))
 {uy:Tok} (uz:W.nsIn K mainGlobals "BEACON_COUNT"=some (some (.int 60 uy)))
 {vm:Tok} (vn:W.nsIn K mainGlobals "FIGURES"=some (some (.str "0123456789" vm)))
 {ve:Addr}{v8:_}{v9:_}{xb:_}{vt vv:_} (xc:W.nsIn K mainGlobals "HANDS"=some (some (.ref ve))) (xf:K.lookup ve=some ⟨.type "tuple",v8,.seq #[.str "keeper" vt,.str "storm" vv] v9,xb⟩)
 {up:_}{ug uh ui uj:_} (ua:W.nsIn K mainGlobals "HANDS_BY_LETTER"=some (some (.ref 317))) (ub:K.lookup 317=some ⟨.type "dict",none,.dict #[⟨PyData.keyHash w.params (Str.ofString "k"),.str "k" ug,.str "keeper" uh⟩,⟨PyData.keyHash w.params (Str.ofString "s"),.str "s" ui,.str "storm" uj⟩] up,#[]⟩)
 {vf:Addr}{xg:_}{xh:_}{xi:_}{vw vy vz v0:_} (xj:W.nsIn K mainGlobals "KINDS"=some (some (.ref vf))) (xk:K.lookup vf=some ⟨.type "tuple",xg,.seq #[.str "eithers" vw,.str "sums" vy,.str "ifs" vz,.str "nots" v0] xh,xi⟩)
 {vo:_}{vg vh vi vj:_} (vp:W.nsIn K mainGlobals "LETTERS"=some (some (.ref 316))) (vq:K.lookup 316=some ⟨.type "dict",none,.dict #[⟨PyData.keyHash w.params (Str.ofString "keeper"),.str "keeper" vg,.str "k" vh⟩,⟨PyData.keyHash w.params (Str.ofString "storm"),.str "storm" vi,.str "s" vj⟩] vo,#[]⟩)
 {u0:Tok} (u4:W.nsIn K mainGlobals "MOST_FIGURES"=some (some (.int 3 u0)))
 {u8:Tok} (u9:W.nsIn K mainGlobals "MOST_RULES"=some (some (.int 60 u8)))
 {u5:Tok} (u6:W.nsIn K mainGlobals "MOST_SAYINGS"=some (some (.int 2 u5)))
 {u7:_}{uw ux:_} (ue:W.nsIn K mainGlobals "ODDS_BY_WORD"=some (some (.ref 320))) (uf:K.lookup 320=some ⟨.type "dict",none,.dict #[⟨PyData.keyHash w.params (Str.ofString "odd"),.str "odd" uw,.bool true⟩,⟨PyData.keyHash w.params (Str.ofString "even"),.str "even" ux,.bool false⟩] u7,#[]⟩)
 {uq:_}{uk ul:_} (uc:W.nsIn K mainGlobals "TRUTHS_BY_MARK"=some (some (.ref 319))) (ud:K.lookup 319=some ⟨.type "dict",none,.dict #[⟨PyData.keyHash w.params (Str.ofString "+"),.str "+" uk,.bool true⟩,⟨PyData.keyHash w.params (Str.ofString "-"),.str "-" ul,.bool false⟩] uq,#[]⟩)
 {ut:_}{um uo:_} (uu:W.nsIn K mainGlobals "TRUTHS_BY_SIGN"=some (some (.ref 318))) (uv:K.lookup 318=some ⟨.type "dict",none,.dict #[⟨PyData.keyHash w.params (Str.ofString "1"),.str "1" um,.bool true⟩,⟨PyData.keyHash w.params (Str.ofString "0"),.str "0" uo,.bool false⟩] ut,#[]⟩)
 (z_len:W.nsIn K mainGlobals "len"=some none)
 (z_range:W.nsIn K mainGlobals "range"=some none)
 (z_list:W.nsIn K mainGlobals "list"=some none)
 (z_tuple:W.nsIn K mainGlobals "tuple"=some none)
 (z_int:W.nsIn K mainGlobals "int"=some none)
 (z_bool:W.nsIn K mainGlobals "bool"=some none)
 (z_str:W.nsIn K mainGlobals "str"=some none)
 (z_sorted:W.nsIn K mainGlobals "sorted"=some none)
 (z_any:W.nsIn K mainGlobals "any"=some none)
 (z_all:W.nsIn K mainGlobals "all"=some none)
 (z_isinstance:W.nsIn K mainGlobals "isinstance"=some none)
 (z_enumerate:W.nsIn K mainGlobals "enumerate"=some none)
 (z_reversed:W.nsIn K mainGlobals "reversed"=some none)
 (z_set:W.nsIn K mainGlobals "set"=some none)
 (z_max:W.nsIn K mainGlobals "max"=some none)
 : ∃fd:FuncData,(∀(s:Shared) (v:Value),BindsTo s fd ⟨[v],[]⟩ [("script",v)])/\∀base:Heap,K.In base->base.Ns mainGlobals mg->FnOk l.prog w K mg base CX0 Yr9 fa fd ["script"] (spOf K 1 Ywb):=by
 have e:=hfa.symm.trans (W.mg_of X G xo);cases e
 have bl:Bl K w mg:=⟨W.mg_none_of X G z_len,W.mg_none_of X G z_range,W.mg_none_of X G z_list,W.mg_none_of X G z_tuple,W.mg_none_of X G z_int,W.mg_none_of X G z_bool,W.mg_none_of X G z_str,W.mg_none_of X G z_sorted,W.mg_none_of X G z_any,W.mg_none_of X G z_all,W.mg_none_of X G z_isinstance,W.mg_none_of X G z_enumerate,W.mg_none_of X G z_reversed,W.mg_none_of X G z_set,W.mg_none_of X G z_max,⟨_,W.mg_of X G uz⟩,⟨by decide +kernel,_,W.mg_of X G vn⟩,⟨_,_,_,_,W.mg_of X G xc,xf,rfl,rfl,(.cons ⟨⟨_,rfl⟩,by decide +kernel⟩ (.cons ⟨⟨_,rfl⟩,by decide +kernel⟩ .nil))⟩,⟨_,_,_,_,W.mg_of X G ua,ub,⟨rfl,rfl,rfl⟩,rfl,(.cons ⟨rfl,⟨_,rfl⟩,⟨_,rfl⟩,by decide +kernel⟩ (.cons ⟨rfl,⟨_,rfl⟩,⟨_,rfl⟩,by decide +kernel⟩ .nil))⟩,⟨_,_,_,_,W.mg_of X G xj,xk,rfl,rfl,(.cons ⟨⟨_,rfl⟩,by decide +kernel⟩ (.cons ⟨⟨_,rfl⟩,by decide +kernel⟩ (.cons ⟨⟨_,rfl⟩,by decide +kernel⟩ (.cons ⟨⟨_,rfl⟩,by decide +kernel⟩ .nil))))⟩,⟨_,_,_,_,W.mg_of X G vp,vq,⟨rfl,rfl,rfl⟩,rfl,(.cons ⟨rfl,⟨_,rfl⟩,⟨_,rfl⟩,by decide +kernel⟩ (.cons ⟨rfl,⟨_,rfl⟩,⟨_,rfl⟩,by decide +kernel⟩ .nil))⟩,⟨_,W.mg_of X G u4⟩,⟨_,W.mg_of X G u9⟩,⟨_,W.mg_of X G u6⟩,⟨_,_,_,_,W.mg_of X G ue,by decide,uf,⟨rfl,rfl,rfl⟩,rfl,(.cons ⟨rfl,⟨_,rfl⟩,rfl⟩ (.cons ⟨rfl,⟨_,rfl⟩,rfl⟩ .nil))⟩,⟨_,_,_,_,W.mg_of X G uc,by decide,ud,⟨rfl,rfl,rfl⟩,rfl,(.cons ⟨rfl,⟨_,rfl⟩,rfl⟩ (.cons ⟨rfl,⟨_,rfl⟩,rfl⟩ .nil))⟩,⟨_,_,_,_,W.mg_of X G uu,by decide,uv,⟨rfl,rfl,rfl⟩,rfl,(.cons ⟨rfl,⟨_,rfl⟩,rfl⟩ (.cons ⟨rfl,⟨_,rfl⟩,rfl⟩ .nil))⟩,⟨_,_,_,_,W.mg_of X G ua,by decide,ub,⟨rfl,rfl,rfl⟩,rfl,(.cons ⟨rfl,⟨_,rfl⟩⟩ (.cons ⟨rfl,⟨_,rfl⟩⟩ .nil))⟩,⟨_,_,_,_,W.mg_of X G ue,by decide,uf,⟨rfl,rfl,rfl⟩,rfl,(.cons ⟨rfl,⟨_,rfl⟩⟩ (.cons ⟨rfl,⟨_,rfl⟩⟩ .nil))⟩,⟨_,_,_,_,W.mg_of X G uc,by decide,ud,⟨rfl,rfl,rfl⟩,rfl,(.cons ⟨rfl,⟨_,rfl⟩⟩ (.cons ⟨rfl,⟨_,rfl⟩⟩ .nil))⟩,F_is_beacon.on X G,F_checked_beacon.on X G,F_checked_truth.on X G,F_checked_beacons.on X G,F_either_made.on X G,F_sum_made.on X G,F_if_made.on X G,F_rule_made.on X G,F_book_made.on X G,F_either_holds.on X G,F_sum_holds.on X G,F_if_holds.on X G,F_rule_holds.on X G,F_broken_rules.on X G,F_holds.on X G,F_beacons_in.on X G,F_beacons_of.on X G,F_without.on X G,F_either_left.on X G,F_sum_left.on X G,F_if_left.on X G,F_rule_left.on X G,F_left_behind.on X G,F_is_hand.on X G,F_check_hands.on X G,F_saying_written.on X G,F_rule_written.on X G,F_signs_written.on X G,F_page_written.on X G,F_number_read.on X G,F_beacon_read.on X G,F_saying_read.on X G,F_hand_read.on X G,F_truth_read.on X G,F_each_read.on X G,F_sum_read.on X G,F_if_read.on X G,F_rule_read.on X G,F_kind_read.on X G,F_hands_read.on X G,F_settled_read.on X G,F_rows_read.on X G,F_watch_made.on X G,F_page_read.on X G,F_law_cell.on X G,F_law_mixed.on X G,F_law_rule.on X G,F_law_drawn.on X G,F_law_saying_word.on X G,F_law_rule_words.on X G,F_law_rows.on X G,F_law_page.on X G,F_law_turned.on X G,F_law_left.on X G,F_law_right.on X G,R_Watch_back,R_Watch_evening,R_Watch_left,R_Watch_settle,R_Watch_turn,R_Watch_winner,I_Watch,N_Watch_book,N_Watch_hands,N_Watch_truths,λC h=>W.mg_of X G h,W.mg_of X G A_beacon_read,W.mg_of X G A_hand_read,W.mg_of X G A_truth_read,W.mg_of X G A_saying_read⟩
 have xu:=Yss (st:=(top 80)) xp xq xt;refine⟨W.fnOf "law" "law" (defArgs (top 80)) (defBody (top 80)) (defScope (top 80)) .none v4 v5 v6 v3 vd v7,λs v=>.of_eq rfl,λbase _ _=>?_⟩;exact Yadn bl xu
theorem walk(hlaw:∀ns:AG,ns.length<=63->Ywb [.scr ns]=some (.bl true)){l:W.OpenLaw}{K:Params->W.Frag}(hn:l.most=some 63)(hdf:d.params.defaults=[])
 (hY:∀(w:World) (h:Heap),YP w h->(K w.params).In h)
 (F:∀(w:World) (mg:AE) (fa:Addr) (h:Heap),(K w.params).In h->h.Ns mainGlobals mg->mg d.name=some (.ref fa)->
  ∃fd:FuncData,(∀(s:Shared) (u:Value),BindsTo s fd ⟨[u],[]⟩ [("script",u)])/\∀base:Heap,(K w.params).In base->base.Ns mainGlobals mg->FnOk l.prog w (K w.params) mg base CX0 Yr9 fa fd ["script"] (spOf (K w.params) 1 Ywb)) :
 W.WalkO q loose XP YP l.row.toRowW d [] (λf vs=>PySem.call f vs):=
 L2.walk_of (n:=63) (k:=Yr9) (x:="script") (CX:=λ_=>CX0) (sp:=λw=>spOf (K w.params) 1 Ywb) hn (by decide) hdf ⟨rfl,by decide,by decide⟩ hY F
  (λw H a ns hl _ hS=>⟨rfl,[.scr ns],.bl true,H,Same.refl H,.one (by rw[Rp];grind),hlaw ns hl,λv H' G' g r=>by rw[Rp]at r;exact r⟩) λ_ _ _ _ _ z=>z
end Lw
namespace Lw
open PySem L2 M Bk
theorem Yx4:∀(l acc:AG) (x:Int),x∈ddup acc l↔x∈acc\/x∈l
 | [],acc,x=>by simp[ddup]
 | k::l,acc,x=>by
   rw[ddup,Yx4];by_cases h:k∈acc
   ·rw[if_pos h]
    simp;constructor
    ·rintro(h1|h1)
     ·exact .inl h1
     ·exact .inr (.inr h1)
    ·rintro(h1|h1|h1)
     ·exact .inl h1
     ·subst h1;exact .inl h
     ·exact .inr h1
   ·rw[if_neg h]
    simp[or_assoc]
theorem Ypx:∀(l acc:AG),acc.Nodup->(ddup acc l).Nodup
 | [],_,h=>h
 | k::l,acc,h=>by
   rw[ddup];refine Ypx l _ ?_;by_cases hk:k∈acc
   ·rw[if_pos hk];exact h
   ·rw[if_neg hk,List.nodup_append]
    refine⟨h,by simp,λx hx y hy z=>?_⟩;simp at hy;subst hy;exact hk (z ▸ hx)
theorem y6i{n:Nat}(hn:n<64)(l:AF)(h:∀x∈l,x<n)(hl:l.length<4000):∃l':AF,l'.Pairwise (·<·)/\(∀x,x∈l'↔x∈l)/\y14 (l.map nD)=some (l'.map nD):=by
 have e1:l.map nD=(l.map Int.ofNat).map D.int:=by simp[nD,wu]
 generalize hd:ddup [] (l.map Int.ofNat)=d
 have hnd:d.Nodup:=by rw[<-hd];exact Ypx _ _ .nil
 have hmem:∀x,x∈d↔∃y∈l,(y:Int)=x:=λx=>by rw[<-hd,Yx4];simp
 have hp:=Ybt d;have hs:=Ybo d
 obtain⟨l',e2⟩:∃l':AF,Yfn d=l'.map Int.ofNat:=by
  refine⟨(Yfn d).map Int.toNat,?_⟩;rw[Qd];refine(List.map_id _).symm.trans (List.map_congr_left λx hx=>?_);obtain⟨y,_,rfl⟩:=(hmem x).mp (hp.mem_iff.mp hx);simp[wu]
 have hm2:∀x,x∈l'↔x∈l:=λx=>by
  have h1:x∈l'↔(x:Int)∈Yfn d:=by
   rw[e2];constructor
   ·exact λh=>List.mem_map_of_mem (f:=Int.ofNat) h
   ·intro h
    obtain⟨y,hy,hyx⟩:=qx h
    have:y=x:=by simpa using hyx
    exact this ▸ hy
  rw[h1,hp.mem_iff,hmem];constructor
  ·rintro⟨y,hy,hyx⟩
   have:y=x:=by lia
   exact this ▸ hy
  ·exact λh=>⟨x,h,rfl⟩
 have hpw:l'.Pairwise (·<·):=by
  rw[e2]at hp hs
  have hn':l'.Nodup:=by
   have:=hp.nodup_iff.mpr hnd;rw[List.nodup_iff_pairwise_ne,List.pairwise_map]at this;exact this.imp λh z=>h (by rw[z])
  have hs':l'.Pairwise (·<=·):=(List.pairwise_map.mp hs).imp λh=>by simpa using h
  exact(hs'.and hn').imp λh=>Nat.lt_of_le_of_ne h.1 h.2
 have hlen:d.length<=n:=by
  rw[<-hp.length_eq,e2,qf];exact y2v hpw λx hx=>h x ((hm2 x).mp hx)
 refine⟨l',hpw,hm2,?_⟩;unfold y14;rw[e1,Ys8];dsimp only;rw[if_pos ⟨by rw[qf];exact hl,by rw[hd];lia⟩,hd,e2];simp[nD,wu]
theorem Yuc(ns:AG)(k:Nat):Yav [.scr ns,.int k]=some (.int (ns.getD k 0)):=by
 rw[Yav,y9 (by rfl)];by_cases h:k<ns.length
 ·have e:atI (ns.map D.int) (k:Int)=some (.int ns[k]):=by
   rw[Yiz,Yjs h];rfl
  simp[Yk7,Yq,h,e]
 ·simp[Yk7,Yq,h]
theorem Yx5(ns:AG)(k:Nat)(i:Int)(hi:i=(k:Int)):Yav [.scr ns,.int i]=some (.int (ns.getD k 0)):=by
 subst hi;exact Yuc ns k
theorem y98(ns:AG)(a b:Nat):cutD (ns.map D.int) (some (a:Int)) (some (b:Int))=((ns.drop (min a ns.length)).take (min b ns.length-min a ns.length)).map D.int:=by
 unfold cutD;rw[HT.sIx_nat,HT.sIx_nat];simp
theorem drawn{fe:AV}{r:Ro}{P:Rl->Prop}(h:∀c:Int,∃x:Rl,P x/\fe (some (.sh (.int c))::r)=some (rlD x)):∀cells:AG,∃R:List Rl,R.length=cells.length/\(∀x∈R,P x)/\Yed (gSet 0) tY fe (none::r) (cells.map D.int)=some (R.map rlD)
 | []=>⟨[],rfl,λ_ h=>(nomatch h),rfl⟩
 | c::cells=>by
   obtain⟨R,h1,h2,h3⟩:=drawn h cells;obtain⟨x,hx,hr⟩:=h c;refine⟨x::R,by simp[h1],λy hy=>?_,?_⟩
   ·rcases qt hy with rfl|hy
    ·exact hx
    ·exact h2 y hy
   ·rw[Qa,Yed,h3]
    simp[hr]
theorem Ywc(c m:Int):∃v:Int,0<=v/\Yc4 [.int c,.int m]=some (.int v):=by
 refine⟨c%2305843009213693951*m%2305843009213693951,Int.emod_nonneg _ (by decide),?_⟩;rw[Yc4,y9 (by rfl)];have h1:0<=c%2305843009213693951:=Int.emod_nonneg _ (by decide);have h2:c%2305843009213693951<2305843009213693951:=Int.emod_lt_of_pos _ (by decide);have h3:mulI (.int (c%2305843009213693951)) (.int m)=some (.int (c%2305843009213693951*m)):=y5i ⟨by lia,by lia⟩;simp[Yn3,Yq,h3]
theorem Yx6(l:AF)(hn:l.Nodup)(hl:l.length<64):∃l':AF,l'.Perm l/\l'.Pairwise (·<·)/\Ymo [.lst (l.map nD)]=some (l'.map nD):=by
 have e1:l.map nD=(l.map Int.ofNat).map D.int:=by simp[nD,wu]
 have hp:=Ybt (l.map Int.ofNat);have hs:=Ybo (l.map Int.ofNat)
 have e2:∃l':AF,Yfn (l.map Int.ofNat)=l'.map Int.ofNat:=by
  have hm:∀x∈Yfn (l.map Int.ofNat),0<=x:=λx hx=>by
   obtain⟨y,_,rfl⟩:=qx (hp.mem_iff.mp hx);exact Int.natCast_nonneg y
  refine⟨(Yfn (l.map Int.ofNat)).map Int.toNat,?_⟩;rw[Qd];refine(List.map_id _).symm.trans (List.map_congr_left λx hx=>?_);have:=hm x hx;simp[wu];lia
 obtain⟨l',e2⟩:=e2;rw[e2]at hp hs
 have hp':l'.Perm l:=by
  have:=hp.map Int.toNat;simpa [wu]using this
 refine⟨l',hp',?_,?_⟩
 ·have hn':l'.Nodup:=hp'.nodup_iff.mpr hn
  have hs':l'.Pairwise (·<=·):=by
   have:=List.pairwise_map.mp hs
   exact this.imp λh=>by simpa using h
  exact(hs'.and hn').imp λh=>Nat.lt_of_le_of_ne h.1 h.2
 ·show y41 (l.map nD)=_
  rw[e1];unfold y41;rw[Ys8];simp[hl,e2,nD,wu]
theorem Yx7(l:AY)(h:l.length<=2)(hn:l.Nodup):∃l':AY,l'.Perm l/\l'.Pairwise slt/\Ymo [.lst (l.map sayD)]=some (l'.map sayD):=by
 match l,h,hn with
 | [],_,_=>exact⟨[],.refl _,.nil,rfl⟩
 | [a],_,_=>exact⟨[a],.refl _,by simp,rfl⟩
 | [a,b],_,hn=>
   have hab:a≠b:=by simpa using hn
   have e:Ymo [.lst ([a,b].map sayD)]=some (if plt b.1 b.2 a.1 a.2=true then [sayD b,sayD a]else [sayD a,sayD b]):=rfl;obtain⟨x,p⟩:=a;obtain⟨y,q⟩:=b
   cases hp:plt (y:Int) q (x:Int) p with
   | true=>
     refine⟨[(y,q),(x,p)],.swap _ _ [],?_,by rw[e];simp[hp]⟩;unfold plt at hp
     have:slt (y,q) (x,p):=by
      unfold slt
      split at hp
      ·rename_i hxy
       simp at hp;exact .inr ⟨by lia,hp.1,hp.2⟩
      ·simp at hp
       exact .inl hp
     simpa using this
   | false=>
     refine⟨[(x,p),(y,q)],.refl _,?_,by rw[e];simp[hp]⟩;unfold plt at hp
     have:slt (x,p) (y,q):=by
      unfold slt
      split at hp
      ·rename_i hxy
       have hxy':y=x:=by lia
       subst hxy';have hpq:p≠q:=λz=>hab (by rw[z]);refine .inr ⟨rfl,?_⟩;cases p<;>cases q<;>simp at hp hpq ⊢
      ·rename_i hxy
       simp at hp;left;show x<y;lia
     simpa using this
section
variable {c:D}{ev:AH} (hc:Yr c=some (ev.map D.bl))
include hc
theorem Yo4(hl:∀s∈l,s.1<ev.length):Yc7 [rlD (.ei l),c]=some (.bl (l.any λs=>at' ev s.1==s.2)):=by
 have h:=Ycu (fe:=Ycx) (r:=[↑c]) (enc:=sayD) (λs=>.bl (at' ev s.1==s.2)) (l:=l) (λs hs=>by
  simp[Ycx,hc,y5k (hl s hs)])
 rw[Yc7,y9 (by rfl)];simp[Yid,Yq,capR,h,wu]
theorem Ywd(hl:∀x∈b,x<ev.length):Yf8 [rlD (.su b o),c]=some (.bl (decide ((b.filter (at' ev)).length%2=1)==o)):=by
 have h:=Yxm (fc:=Ye7) (fe:=Ye8) (r:=[↑c]) (enc:=nD) (at' ev) nD (l:=b) (λs hs=>by
  simp[Ye7,hc,nD,y5k (hl s hs)]) (λs _ _=>by simp[Ye8])
 have e:∀n:Nat,decide (((n:Nat):Int)%2=1)=decide (n%2=1):=λn=>by
  grind
 rw[Yf8,y9 (by rfl)];simp[Ynd,Yq,capR,h,e]
theorem Ypy(hl:∀x∈b,x<ev.length)(hh:∀x,h=some x->x<ev.length):Yhv [rlD (.im b h),c,.bl w]=some (.bl ((b.any λx=>at' ev x != w)||hd ev w h)):=by
 have h1:=Ycu (fe:=Yf9) (r:=[↑c,↑(.bl w)]) (enc:=nD) (λx=>.bl (at' ev x != w)) (l:=b) (λs hs=>by
  simp[Yf9,hc,nD,y5k (hl s hs),bne])
 rw[Yhv,y9 (by rfl)]
 cases hb:(b.any λx=>at' ev x != w)with
 | true=>simp[Yhu,Yq,capR,h1,wu,hb]
 | false=>
   cases h with
   | none=>simp[Yhu,Yq,capR,h1,wu,hb,optD,hd]
   | some x=>simp[Yhu,Yq,capR,h1,wu,hb,optD,hd,hc,y5k (hh x rfl)]
theorem Yud{r:Rl}(hr:In k ev.length r):Ye0 [kdD k,rlD r,c]=some (.bl (so k ev r)):=by
 rw[Ye0,y9 (by rfl)]
 cases r with
 | ei l=>
   obtain⟨rfl,hl⟩:=hr;simp[Ydh,Yq,Yo4 hc hl,so]
 | su b o=>
   obtain⟨rfl,hl⟩:=hr;simp[Ydh,Yq,Ywd hc hl,so]
 | im b h=>
   obtain⟨hk,hl,hh⟩:=hr;rcases hk with rfl|rfl
   ·simp[Ydh,Yq,Ypy hc hl hh,so]
   ·simp[Ydh,Yq,Ypy hc hl hh,so]
end
section
variable {c:D}{ev:AH} (hc:Yr c=some (ev.map D.bl))
include hc
theorem Yo5{k:Kd}{R:List Rl}(hR:∀r∈R,In k ev.length r):Yc8 [Yah k R,c]=some (.lst ((brk k ev R).map nD)):=by
 have h:=Yac8 (fc:=Ycy) (fe:=Ycz) (r:=[↑(Yah k R),↑c]) (e1:=λi:Nat=>.int i) (e2:=λi=>rlD (nth R i)) (λi=>!so k ev (nth R i)) nD (l:=List.range R.length) (λi hi=>by
  have hi':=List.mem_range.mp hi;have hr:=Yud hc (hR (nth R i) (y9n hi'))
  simp[Ycy,hr]) (λi _ _=>by simp[Ycz,nD])
 rw[Yc8,y9 (by rfl)];simp[Yie,Yq,capR,y9o,h,brk]
end
section
variable {c:D}{ev:AH} (hc:Yr c=some (ev.map D.bl))
include hc
theorem y99{k:Kd}{R:List Rl}(hR:∀r∈R,In k ev.length r):Yq8 [Yah k R,c]=some (.bl (decide (brk k ev R=[]))):=by
 rw[Yq8,y9 (by rfl)]
 have e:decide (((brk k ev R).length:Int)=0)=decide (brk k ev R=[]):=by
  cases brk k ev R with
  | nil=>rfl
  | cons a l=>simp;lia
 simp[y3i,Yq,Yo5 hc hR,e]
end
theorem Ylo{r:Rl}(hr:In k n r)(hs:sz r<=999999):Ydj [kdD k,rlD r]=some (.lst ((bcs r).map nD)):=by
 rw[Ydj,y9 (by rfl)]
 cases r with
 | ei l=>
   obtain⟨rfl,_⟩:=hr;have h:=Ycu (fe:=Yej) (r:=[]) (enc:=sayD) (λs=>nD s.1) (l:=l) (λs _=>by simp[Yej]);simp[Ydi,Yq,capR,h,bcs,wu]
 | su b o=>
   obtain⟨rfl,_⟩:=hr;simp[Ydi,Yq,bcs]
 | im b h=>
   obtain⟨hk,_⟩:=hr
   have hke:¬k=.e:=by grind
   have hks:¬k=.s:=by grind
   have hs':b.length+1<=1000000:=by simp[sz]at hs;lia
   cases h with
   | none=>simp[Ydi,Yq,bcs,hke,hks,optD]
   | some x=>simp[Ydi,Yq,bcs,hke,hks,optD,catD,hs']
theorem Yaaa(r:Rl):(bcs r).length<=sz r+1:=by
 cases r with
 | ei l=>simp[bcs,sz]
 | su l o=>simp[bcs,sz]
 | im l h=>cases h<;>simp[bcs,sz]
theorem Yue{k:Kd}{n m:Nat}(hn:n<64){R:List Rl}(hR:∀r∈R,In k n r/\sz r+1<=m)(hm:R.length*m<4000):∃l:AF,l.Pairwise (·<·)/\(∀x,x∈l↔∃r∈R,x∈bcs r)/\Ye1 [Yah k R]=some (.lst (l.map nD)):=by
 obtain⟨ρ',e1,f,y,hf,hfl,rfl⟩:=Yjr (gt:=gSet 2) (fb:=Yek) rlD (λpre ρ=>∃(f:AF) (y:AR),f=pre.flatMap bcs/\f.length<=pre.length*m/\
  ρ=[↑(Yah k R),some (.ow (f.map nD)),y]) R [] [↑(Yah k R),some (.ow []),none] ⟨[],none,rfl,by simp,rfl⟩ (by
  rintro q a r ρ e ⟨f,y,hf,hfl,rfl⟩
  have ha:a∈R:=by rw[List.nil_append]at e;rw[e];simp
  obtain⟨h1,h2⟩:=hR a ha
  have hq:q.length<R.length:=by rw[List.nil_append]at e;rw[e];simp
  have hpos:q.length*m+m<=R.length*m:=by
   have:=Nat.mul_le_mul_right m (show q.length+1<=R.length from hq);rw[Nat.add_mul,Nat.one_mul]at this;exact this
  have hb:=Ylo h1 (by lia);have hbl:=Yaaa a
  have hcap:f.length+(bcs a).length<=1000000:=by lia
  refine⟨_,_,rfl,?_,f++bcs a,↑(rlD a),by rw[hf];simp,?_,rfl⟩
  ·simp[Yek,hb,extD,hcap]
  ·rw[qy,qy,Nat.add_mul]
   simp
   lia)
 rw[List.nil_append]at hf hfl
 obtain⟨l,h1,h2,h3⟩:=y6i hn f (λx hx=>by
  rw[hf]at hx;obtain⟨r,hr,hx⟩:=List.mem_flatMap.mp hx
  exact y7m (hR r hr).1 x hx) (by lia)
 refine⟨l,h1,λx=>?_,?_⟩
 ·rw[h2,hf,List.mem_flatMap]
 ·rw[Ye1,y9 (by rfl)]
  simp[Yli,Yq,e1,h3]
theorem Yuf(l:AF)(b:Nat):Yg9 [.tup (l.map nD),.int (b:Int)]=some (.tup ((Bk.wo b l).map nD)):=by
 have h:=Yxm (fc:=Yg7) (fe:=Yg8) (r:=[↑(.int (b:Int))]) (enc:=nD) (λx=>!decide (x=b)) nD (l:=l) (λx _=>by
  simp[Yg7]) (λx _ _=>by simp[Yg8])
 rw[Yg9,y9 (by rfl)];simp[Yto,Yq,capR,h,Bk.wo]
theorem Ysa(l:AY)(b:Nat)(lit:Bool):Yd2 [rlD (.ei l),.int (b:Int),.bl lit]=some (optR (Ydg .e b lit (.ei l))):=by
 have hsd:D.tup [.int (b:Int),.bl lit]=sayD (b,lit):=rfl;have hin:=Yadc (c:=rlD (.ei l)) (b,lit) l false rfl
 have h:=Yxm (fc:=Yds) (fe:=Ydt) (r:=[↑(.int (b:Int))]) (enc:=sayD) (λs=>!decide (s.1=b)) sayD (l:=l) (λx _=>by
  simp[Yds]) (λx _ _=>by simp[Ydt])
 rw[Yd2,y9 (by rfl)];by_cases hm:(b,lit)∈l
 ·simp[Yga,Yq,hsd,hin,hm,Ydg,optR]
 ·simp[Yga,Yq,capR,hsd,hin,hm,Ydg,optR,h,woS,y9p]
theorem Yzs(l:AF)(o:Bool)(b:Nat)(lit:Bool)(hb:b∈l):Yhw [rlD (.su l o),.int (b:Int),.bl lit]=some (optR (Ydg .s b lit (.su l o))):=by
 have hw:=Yuf l b;rw[Yhw,y9 (by rfl)];rw[Ydg];generalize Bk.wo b l=q at hw ⊢
 cases q with
 | nil=>cases o<;>cases lit<;>simp[Yk5,Yq,hw,hb,optR]<;>rfl
 | cons a q=>cases o<;>cases lit<;>simp[Yk5,Yq,hw,hb,optR]<;>first|rfl|lia
theorem y3k(k:Kd)(l:AF)(h:AM)(b:Nat)(lit:Bool):Yj3 [rlD (.im l h),.int (b:Int),.bl (lit==decide (k=.i))]=some (optR (Ydg k b lit (.im l h))):=by
 have hw:=Yuf l b;have hin:=in_n (c:=.tup (l.map nD)) b l false rfl;rw[Yj3,y9 (by rfl)];generalize hso:(lit==decide (k=Kd.i))=w
 have hso':(lit=decide (k=.i))↔w=true:=by rw[<-hso];simp
 rw[Ydg];simp only[hso'];by_cases h1:h=some b
 ·by_cases h2:b∈l
  ·cases w<;>simp[Yha,Yq,hin,h1,h2,hw,optR]
  ·cases w<;>simp[Yha,Yq,hin,h1,h2,hw,optR,y5l]
 ·by_cases h2:b∈l
  ·cases w<;>simp[Yha,Yq,hin,h1,h2,hw,optR,y2t]
  ·cases w<;>simp[Yha,Yq,hin,h1,h2,hw,optR,y2t]
theorem Ywe{k:Kd}{n:Nat}{r:Rl}(hr:In k n r)(hs:sz r<=999999)(b:Nat)(lit:Bool):Ygb [kdD k,rlD r,.int (b:Int),.bl lit]=some (optR (Ydg k b lit r)):=by
 have hb:=Ylo hr hs;have hin:=in_n (c:=.lst ((bcs r).map nD)) b (bcs r) true rfl;rw[Ygb,y9 (by rfl)];by_cases hm:b∈bcs r
 ·cases r with
  | ei l=>
    obtain⟨rfl,_⟩:=hr;simp[Yel,Yq,hb,hin,hm,Ysa]
  | su l o=>
    obtain⟨rfl,_⟩:=hr;simp[Yel,Yq,hb,hin,hm,Yzs l o b lit hm]
  | im l h=>
    obtain⟨hk,_⟩:=hr
    have hke:¬k=.e:=by rcases hk with rfl|rfl<;>decide
    have hks:¬k=.s:=by rcases hk with rfl|rfl<;>decide
    simp[Yel,Yq,hb,hin,hm,hke,hks,y3k]
 ·have:Ydg k b lit r=some r:=Yzi hm
  simp[Yel,Yq,hb,hin,hm,this,optR]
theorem Ykg{k:Kd}{n:Nat}{R:List Rl}(hR:∀r∈R,In k n r)(hs:∀r∈R,sz r<=999999)(b:Nat)(lit:Bool):Ycm [Yah k R,.int (b:Int),.bl lit]=some (Yah k (R.filterMap (Ydg k b lit))):=by
 have h1:=Ycu (fe:=Ydu) (r:=[↑(Yah k R),↑(.int (b:Int)),↑(.bl lit)]) (enc:=rlD) (λr=>optR (Ydg k b lit r)) (l:=R) (λr hr=>by
  simp[Ydu,Ywe (hR r hr) (hs r hr)])
 have h2:∀Q:List (Option Rl),Yed (gSet 0) Yb1 Yb2 [none] (Q.map optR)=some ((Q.filterMap id).map rlD):=λQ=>by
  have:=Yxm (fc:=Yb1) (fe:=Yb2) (r:=[]) (enc:=optR) (λo=>o.isSome) optR (l:=Q) (λo _=>by
   cases o<;>simp[Yb1,optR]) (λo _ _=>by simp[Yb2])
  rw[this,opts]
 have h3:=h2 (R.map (Ydg k b lit));rw[Ycm,y9 (by rfl)];simp[wu]at h3;simp[Yj4,Yq,capR,h1,h3,y2s]
def tabH:AG:=(List.range 120).map λi=>pH (((i/2:Nat):Int),decide (i%2=1))
def Ysb:AG->Bool
 | []=>true
 | a::l=>!(l.contains a)&&Ysb l
set_option maxRecDepth 100000 in
theorem Yado:Ysb tabH=true:=by decide +kernel
theorem Ykh:∀{l:AG},Ysb l=true->l.Nodup
 | [],_=>.nil
 | a::l,h=>by
   rw[Ysb,Qe]at h;refine List.nodup_cons.mpr ⟨λhm=>?_,Ykh h.2⟩
   have:l.contains a=true:=by simpa using hm
   rw[this]at h;exact Bool.noConfusion h.1
def sIdx(s:Say):Nat:=2*s.1+if s.2 then 1 else 0
theorem y7s(s:Say)(h:s.1<60):tabH[sIdx s]?=some (pH ((s.1:Int),s.2)):=by
 obtain⟨b,l⟩:=s
 have hi:sIdx (b,l)<120:=by cases l<;>simp[sIdx]at *<;>lia
 unfold tabH;rw[Qg,List.getElem?_range hi,Option.map_some];cases l
 ·have e1:sIdx (b,false)/2=b:=by simp[sIdx]
  have e2:sIdx (b,false)%2=0:=by simp[sIdx]
  dsimp only;rw[e1,e2];rfl
 ·have e1:sIdx (b,true)/2=b:=by simp only[sIdx,if_true];lia
  have e2:sIdx (b,true)%2=1:=by simp only[sIdx,if_true];lia
  dsimp only;rw[e1,e2];rfl
theorem Yadp{T:AG}(hn:T.Nodup){i j:Nat}{x:Int}(h1:T[i]?=some x)(h2:T[j]?=some x):i=j:=by
 obtain⟨hi,a1⟩:=qo h1;obtain⟨hj,a2⟩:=qo h2;exact(List.getElem_inj hn).mp (a1.trans a2.symm)
theorem Yzt{s t:Say}(h:sIdx s=sIdx t):s=t:=by
 obtain⟨b,l⟩:=s;obtain⟨c,m⟩:=t;cases l<;>cases m<;>simp[sIdx]at h ⊢<;>lia
theorem Yafs{s t:Say}(hs:s.1<60)(ht:t.1<60)(hst:s≠t):pH ((s.1:Int),s.2)≠pH ((t.1:Int),t.2):=λe=>by
 have h1:=y7s s hs;have h2:=y7s t ht;rw[<-e]at h2;exact hst (Yzt (Yadp (Ykh Yado) h1 h2))
theorem Ywf:∀l:AY,prsD (l.map sayD)=some (l.map λs=>((s.1:Int),s.2))
 | []=>by simp[prsD]
 | s::l=>by
   rw[Qa,sayD,prsD,Ywf l];rfl
theorem Ypz{l:AQ}{ps:List (Int×Bool)}(h1:Yee l=none)(h2:prsD l=some ps)(h3:Yqo ps=true):Yf1 l=some (.int ps.length):=by
 unfold Yf1;rw[h1];dsimp only;rw[h2,qd,if_pos h3]
theorem y3l{p q:Int×Bool}(h:pH p≠pH q):Yqo [p,q]=true:=wn h
theorem y3m(p:Int×Bool):Yqo [p]=true:=wn (Nat.le_succ 1)
theorem Yx8(a:Say)(l:AY):Yee ((a::l).map sayD)=none:=by
 rw[Qa,sayD];simp[Yee]
theorem Yzu(l:AY)(h2:l.length<=2)(hn:l.Nodup)(h60:∀s∈l,s.1<60):Yf1 (l.map sayD)=some (.int l.length):=by
 rcases l with _|⟨a,_|⟨b,_|⟨c,r⟩⟩⟩
 ·simp[Yf1,Yee,ddup]
 ·exact Ypz (Yx8 a []) (Ywf [a]) (y3m _)
 ·have hab:a≠b:=by simpa using hn
  exact Ypz (Yx8 a [b]) (Ywf [a,b]) (y3l (Yafs (h60 a qh) (h60 b (qg _ qh)) hab))
 ·simp at h2
theorem Yp0:∀(l acc:AG),(acc++l).Nodup->ddup acc l=acc++l
 | [],acc,_=>by simp[ddup]
 | k::l,acc,h=>by
   have hk:k∉acc:=λhm=>by
    rw[List.nodup_append]at h;exact h.2.2 k hm k qh rfl
   rw[ddup,if_neg hk,Yp0 l (acc++[k]) (by simpa using h)];simp
theorem Yzv(l:AF)(hn:l.Nodup)(hl:l.length<=1000):Yf1 (l.map nD)=some (.int l.length):=by
 unfold Yf1;have e:Yee (l.map nD)=some (l.map λx:Nat=>(x:Int)):=Ym0 (λx:Nat=>(x:Int)) l
 have hn':(l.map λx:Nat=>(x:Int)).Nodup:=by
  rw[List.nodup_iff_pairwise_ne,List.pairwise_map];exact(List.nodup_iff_pairwise_ne.mp hn).imp λh z=>h (by lia)
 rw[e];dsimp only;rw[if_pos (by rw[qf];lia),Yp0 _ [] (by simpa using hn')];simp
theorem Ysc(b:Nat)(h:b<60):Ya4 [nD b]=some (nD b):=by
 have h1:Yb8 [nD b]=some (.bl true):=by
  rw[Yb8,y9 (by rfl)]
  have q1:(0:Int)<=(b:Int):=by lia
  have q2:(b:Int)<60:=by lia
  simp[Yi2,Yq,isiD,Yy2,Ygy,nD,q1,q2]
 rw[Ya4,y9 (by rfl)];simp[Ygm,Yq,h1]
theorem y3n(o:Bool):Ybp [.bl o]=some (.bl o):=by
 rw[Ybp,y9 (by rfl)];cases o<;>simp[Yg6,Yq,isB]
theorem Yug{c:D}(l b:AF)(hc:Yr c=some (l.map nD))(hp:l.Perm b)(hb:b.Pairwise (·<·))(h60:∀x∈b,x<60)(hl:b.length<=60):Ybb [c]=some (.tup (b.map nD)):=by
 have hn:l.Nodup:=hp.nodup_iff.mpr (hb.imp λh=>qm h)
 have hll:l.length<=60:=by rw[hp.length_eq];exact hl
 have hcm:=Ycu (fe:=Ybx) (r:=[]) (enc:=nD) nD (l:=l) (λx hx=>by
  have:=Ysc x (h60 x (hp.mem_iff.mp hx))
  simp[Ybx,this])
 obtain⟨l',s1,s2,s3⟩:=Yx6 l hn (by lia);have e:l'=b:=(s1.trans hp).eq_of_pairwise (λa b _ _ h1 h2=>absurd h1 (Nat.lt_asymm h2)) s2 hb;rw[e]at s3;have hls:=Yzv l hn (by lia);rw[Ybb,y9 (by rfl)];simp[Yfp,Yq,hc,capR,hcm,hls,s3]
def sayL(f:Bool)(s:Say):D:=if f then .lst [.int s.1,.bl s.2]else sayD s
def Hd:Rl->D->Prop
 | .ei l,d=>∃(l':AY) (f:Bool),l'.Perm l/\Yr d=some (l'.map (sayL f))
 | .su b o,d=>∃(b':AF) (c:D),b'.Perm b/\d=.tup [c,.bl o]/\Yr c=some (b'.map nD)
 | .im b h,d=>∃(b':AF) (c:D),b'.Perm b/\d=.tup [c,optD h]/\Yr c=some (b'.map nD)
theorem Yuh{a b:Say}(h1:slt a b)(h2:slt b a):False:=by
 unfold slt at h1 h2;rcases h1 with h1|⟨h1,h3,h4⟩
 ·rcases h2 with h2|⟨h2,_,_⟩<;>lia
 ·rcases h2 with h2|⟨h2,h5,h6⟩
  ·lia
  ·rw[h3]at h6
   cases h6
theorem Yx9{b:AF}(hb:b.Pairwise (·<·))(h60:∀x∈b,x<60):b.length<=60:=by
 have hn:b.Nodup:=hb.imp λh=>qm h;have hs:b⊆List.range 60:=λx hx=>List.mem_range.mpr (h60 x hx);have:=List.Nodup.length_le_of_subset hn hs;simpa using this
theorem Ywg(k:Kd)(r:Rl)(hin:In k 60 r)(hs:Srt r){d:D}(hd:Hd r d):Yf6 [kdD k,d]=some (rlD r):=by
 rw[Yf6,y9 (by rfl)]
 cases r with
 | ei l=>
   obtain⟨rfl,h60⟩:=hin;obtain⟨h2,hpw⟩:=hs;obtain⟨l',f,hp,hit⟩:=hd;have hn:l'.Nodup:=hp.nodup_iff.mpr (hpw.imp λh z=>by subst z;exact Yuh h h)
   have hl':l'.length<=2:=by rw[hp.length_eq];exact h2
   have h60':∀s∈l',s.1<60:=λs hs=>h60 s (hp.mem_iff.mp hs)
   have hcm:=Ycu (fe:=Ydr) (r:=[]) (enc:=sayL f) sayD (l:=l') (λs hs=>by
    have h1:=Ysc s.1 (h60' s hs);have h2:=y3n s.2;simp only[nD]at h1
    cases f<;>simp[Ydr,sayL,sayD,h1,h2])
   obtain⟨ls,s1,s2,s3⟩:=Yx7 l' hl' hn;have e:ls=l:=(s1.trans hp).eq_of_pairwise (λa b _ _ h1 h2=>(Yuh h1 h2).elim) s2 hpw;rw[e]at s3;have hls:=Yzu l' hl' hn h60'
   have hle:¬(2:Int)<(l'.length:Int):=by lia
   have hem:Yd1 [d]=some (.tup (l.map sayD)):=by
    rw[Yd1,y9 (by rfl)];generalize hq:l'.map (sayL f)=q at hit hcm
    have hql:q.length=l'.length:=by rw[<-hq];simp
    simp[Yj0,Yq,hit,hql,hle,capR,hcm,hls,s3]
   simp[Yf5,Yq,hem,rlD]
 | su b o=>
   obtain⟨rfl,h60⟩:=hin;obtain⟨b',c,hp,rfl,hc⟩:=hd;have hbm:=Yug b' b hc hp hs h60 (Yx9 hs h60)
   have hem:Yht [.tup [c,.bl o]]=some (.tup [.tup (b.map nD),.bl o]):=by
    rw[Yht,y9 (by rfl)];simp[Ypq,Yq,hbm,y3n]
   simp[Yf5,Yq,hem,rlD]
 | im b h=>
   obtain⟨hk,h60,hh⟩:=hin;obtain⟨b',c,hp,rfl,hc⟩:=hd;have hbm:=Yug b' b hc hp hs h60 (Yx9 hs h60)
   have hem:Yj1 [.tup [c,optD h]]=some (.tup [.tup (b.map nD),optD h]):=by
    rw[Yj1,y9 (by rfl)]
    cases h with
    | none=>simp[Ym9,Yq,hbm,optD]
    | some x=>
      have hx:=Ysc x (hh x rfl);simp only[nD]at hx;simp[Ym9,Yq,hbm,optD,hx]
   have hk1:k≠.e:=by rcases hk with rfl|rfl<;>decide
   have hk2:k≠.s:=by rcases hk with rfl|rfl<;>decide
   simp[Yf5,Yq,hem,rlD,hk1,hk2]
theorem y6j(k:Kd):kS k∈Yf4:=by cases k<;>simp[Yf4,kS]
def HdL:List Rl->AQ->Prop
 | [],[]=>True
 | r::R,d::ds=>Hd r d/\HdL R ds
 | _,_=>False
theorem HdL.length:∀{R:List Rl}{ds:AQ},HdL R ds->ds.length=R.length
 | [],[],_=>rfl
 | r::R,d::ds,h=>by rw[qr,qr,HdL.length h.2]
 | [],_::_,h=>h.elim
 | _::_,[],h=>h.elim
theorem Yui(k:Kd):∀{R:List Rl}{ds:AQ},(∀r∈R,In k 60 r/\Srt r)->HdL R ds->Yed (gSet 0) tY Ye6 [none,↑(kdD k)] ds=some (R.map rlD)
 | [],[],_,_=>by simp
 | r::R,d::ds,h,hd=>by
   have ih:=Yui k (R:=R) (ds:=ds) (λr hr=>h r (qg _ hr)) hd.2;have h1:=Ywg k r (h r qh).1 (h r qh).2 hd.1;rw[Yed,ih];simp[Ye6,h1]
 | [],_::_,_,h=>h.elim
 | _::_,[],_,h=>h.elim
theorem Ywh(k:Kd){R:List Rl}{c:D}{ds:AQ}(hR:∀r∈R,In k 60 r/\Srt r)(hd:HdL R ds)(hc:Yr c=some ds)(hl:R.length<=60):Yf7 [kdD k,c]=some (Yah k R):=by
 rw[Yf7,y9 (by rfl)];have hcm:=Yui k hR hd;have hlen:=hd.length
 have hle:¬(60:Int)<(ds.length:Int):=by lia
 have hk:=y6j k;simp[Yna,Yq,kdD,isiD,Yy2,Ygy,hk,hc,hle,capR,Yah];simp only[kdD]at hcm;rw[hcm];simp
def hnD(b:Bool):D:=.str (Str.ofString (if b then "keeper" else "storm"))
abbrev wtD(k:Kd)(R:List Rl)(H ev:AH):D:=watD (Yah k R) (.tup (H.map hnD)) (.lst (ev.map D.bl))
@[simp] theorem fld_b(b h x:D):fldD "Watch" "book" (watD b h x)=some b:=nr rfl
@[simp] theorem fld_h(b h x:D):fldD "Watch" "hands" (watD b h x)=some h:=nr rfl
@[simp] theorem fld_t(b h x:D):fldD "Watch" "truths" (watD b h x)=some x:=nr rfl
theorem Yzw(m:Str)(hm:m∉wks)(fn:AQ->Option D)(b h x:D):mthD "Watch" m fn (watD b h x)=fn [watD b h x]:=if_pos ⟨rfl,hm⟩
def Yo6(H ev:AH):D:=match H[ev.length]? with
 | some b=>hnD b
 | none=>.non
theorem Yn6{H ev:AH}(h:ev.length<H.length):Yo6 H ev=hnD (H[ev.length]):=by
 unfold Yo6;rw[qq h]
theorem Ywi{H ev:AH}(h:¬ev.length<H.length):Yo6 H ev=.non:=by
 unfold Yo6;rw[List.getElem?_eq_none (by lia)]
theorem y3o{k:Kd}{R:List Rl}{H ev:AH}(h:ev.length<=H.length):Yap [wtD k R H ev]=some (Yo6 H ev):=by
 rw[Yap,y9 (by rfl)];have hst:Yq 1 [wtD k R H ev]=[↑(wtD k R H ev)]:=rfl;rw[hst];by_cases hl:ev.length=H.length
 ·rw[Ywi (by lia)]
  simp[Yhd,hl]
 ·have hlt:ev.length<H.length:=by lia
  rw[Yn6 hlt]
  have hi:¬((ev.length:Int)=(H.length:Int)):=by lia
  have hat:atI (H.map hnD) (ev.length:Int)=some (hnD (H[ev.length])):=by
   rw[Yiz,Yjs hlt];rfl
  simp[Yhd,hi,hl,hat]
theorem Yn7(k:Kd)(R:List Rl)(H ev:AH):Yaa [wtD k R H ev]=some (.tup (ev.map D.bl)):=by
 rw[Yaa,y9 (by rfl)];have hst:Yq 1 [wtD k R H ev]=[↑(wtD k R H ev)]:=rfl;rw[hst];simp[Yhb]
def OkR(k:Kd)(n:Nat)(r:Rl):Prop:=In k n r/\Srt r
def wonO(k:Kd)(R:List Rl)(H ev:AH):D:=if ev.length<H.length then .non else .str (Str.ofString (if brk k ev R=[]then "keeper" else "storm"))
theorem Yadq(k:Kd)(R:List Rl)(H ev:AH):y48 (wonO k R H ev)=true:=by
 unfold wonO
 split<;>rfl
theorem y6k{k:Kd}{R:List Rl}{H ev:AH}(h:ev.length<=H.length)(hR:∀r∈R,OkR k H.length r/\sz r<=9999):Ya8 [wtD k R H ev]=some (wonO k R H ev):=by
 rw[Ya8,y9 (by rfl)];have hst:Yq 1 [wtD k R H ev]=[↑(wtD k R H ev)]:=rfl;rw[hst];have ht:=y3o (k:=k) (R:=R) h;have hm:=Yzw "turn" (by decide) Yap (Yah k R) (.tup (H.map hnD)) (.lst (ev.map D.bl));rw[ht]at hm;by_cases hl:ev.length<H.length
 ·rw[Yn6 hl]at hm
  have hn:isN true (hnD H[ev.length]) .non=some true:=rfl;simp[Ydc,hm,hn,wonO,hl]
 ·rw[Ywi hl]at hm
  have he:=y99 (c:=.lst (ev.map D.bl)) (ev:=ev) rfl (k:=k) (R:=R) (λr hr=>by rw[show ev.length=H.length by lia];exact(hR r hr).1.1);by_cases hb:brk k ev R=[]
  ·simp[Ydc,hm,he,wonO,hl,hb]
  ·simp[Ydc,hm,he,wonO,hl,hb]
def lfs(k:Kd):Nat->AH->List Rl->List Rl
 | _,[],R=>R
 | i,b::ev,R=>lfs k (i+1) ev (R.filterMap (Ydg k i b))
theorem y6l{k:Kd}{n b:Nat}{lit:Bool}{r q:Rl}(hr:OkR k n r)(h:Ydg k b lit r=some q):OkR k n q/\sz q<=sz r:=by
 have hat:at' (List.replicate (b+1) lit) b=lit:=by simp[at']
 obtain⟨_,_,_,h1,h2,h3⟩:=y2w (ev:=List.replicate (b+1) lit) (b:=b) hr.1 hr.2 (by rw[hat];exact h);exact⟨⟨h1,h2⟩,h3⟩
theorem Yuj{k:Kd}{n b:Nat}{lit:Bool}{R:List Rl}(hR:∀r∈R,OkR k n r/\sz r<=9999):∀r∈R.filterMap (Ydg k b lit),OkR k n r/\sz r<=9999:=λq hq=>by
 obtain⟨r,hr,h⟩:=List.mem_filterMap.mp hq;obtain⟨h1,h2⟩:=y6l (hR r hr).1 h;exact⟨h1,Qb h2 (hR r hr).2⟩
def enB(i:Nat):AH->AQ
 | []=>[]
 | b::ev=>.tup [.int (i:Int),.bl b]::enB (i+1) ev
theorem y7t:∀(ev:AH) (i:Nat),enB i ev=(List.range ev.length).map λj:Nat=>D.tup [.int ((i:Int)+(j:Int)),.bl (ev.getD j false)]
 | [],_=>rfl
 | b::ev,i=>by
   rw[enB,qr,List.range_succ_eq_map,Qa,Qd,y7t ev (i+1)]
   have h0:D.tup [.int (i:Int),.bl b]=D.tup [.int ((i:Int)+((0:Nat):Int)),.bl ((b::ev).getD 0 false)]:=by simp
   rw[h0]
   congr 1
   refine List.map_congr_left λj _=>?_
   have h1:((i+1:Nat):Int)+(j:Int)=(i:Int)+((j+1:Nat):Int):=by push_cast;lia
   rw[h1];rfl
theorem Yadr(ev:AH):Yog (ev.map D.bl)=enB 0 ev:=by
 rw[Ys9 D.bl false ev,y7t ev 0];refine List.map_congr_left λj _=>?_;simp
theorem Yuk{k:Kd}{n:Nat}{y0:AR}:∀(ev:AH) (i:Nat) (R:List Rl) (y2 y3:AR),(∀r∈R,OkR k n r/\sz r<=9999)->∃z2 z3,M.forM (Yof 2 3) Ycq (enB i ev) [y0,↑(Yah k R),y2,y3]=some (.nx [y0,↑(Yah k (lfs k i ev R)),z2,z3])
 | [],i,R,y2,y3,_=>⟨y2,y3,rfl⟩
 | b::ev,i,R,y2,y3,hR=>by
   have h:=Ykg (λr hr=>(hR r hr).1.1) (λr hr=>Qb (hR r hr).2 (by lia)) i b;obtain⟨z2,z3,e⟩:=Yuk (y0:=y0) ev (i+1) _ (some (.sh (.int (i:Int)))) (some (.sh (.bl b))) (Yuj (b:=i) (lit:=b) hR);refine⟨z2,z3,?_⟩;rw[enB,M.forM];have hg:Yof 2 3 (.tup [.int (i:Int),.bl b]) [y0,↑(Yah k R),y2,y3]=some [y0,↑(Yah k R),↑(.int (i:Int)),↑(.bl b)]:=rfl
   have hl:Ycq [y0,↑(Yah k R),↑(.int (i:Int)),↑(.bl b)]=some (.nx [y0,↑(Yah k (R.filterMap (Ydg k i b))),↑(.int (i:Int)),↑(.bl b)]):=by
    simp[Ycq,h]
   rw[hg,qd,hl,qd];exact e
theorem Yads{k:Kd}{n:Nat}{R:List Rl}(H ev:AH)(hR:∀r∈R,OkR k n r/\sz r<=9999):Ybs [wtD k R H ev]=some (Yah k (lfs k 0 ev R)):=by
 rw[Ybs,y9 (by rfl)];have hst:Yq 4 [wtD k R H ev]=[↑(wtD k R H ev),none,none,none]:=rfl;rw[hst];obtain⟨y2,y3,e⟩:=Yuk (y0:=some (.sh (wtD k R H ev))) ev 0 R none none hR;rw[<-Yadr]at e;simp[Ylm,Yy9,e]
theorem y3p(b:Bool):Yng [hnD b]=some (.bl true):=by
 cases b<;>rfl
theorem y6m{k:Kd}{m:Nat}{R:List Rl}{H:AH}(hH:H.length<=60)(hl:R.length*m<4000)(hR:∀r∈R,OkR k H.length r/\sz r+1<=m){h:D}(hh:h=.lst (H.map hnD)\/h=.tup (H.map hnD)):Ybh [Yah k R,h]=some .non:=by
 rw[Ybh,y9 (by rfl)];have hst:Yq 2 [Yah k R,h]=[↑(Yah k R),↑h]:=rfl;rw[hst];obtain⟨l,_,hm,hb⟩:=Yue (k:=k) (n:=H.length) (m:=m) (R:=R) (by lia) (λr hr=>⟨(hR r hr).1.1,(hR r hr).2⟩) hl
 have c0:=Ycu (fe:=Ydv) (r:=[]) (enc:=hnD) (λ_=>D.bl true) (l:=H) (λb _=>by
  have:=y3p b
  simp[Ydv,this])
 have hi:Yr h=some (H.map hnD):=by rcases hh with rfl|rfl<;>rfl
 have hlen:lenC [h]=some (.int (H.length:Int)):=by rcases hh with rfl|rfl<;>simp
 have c1:=Ycu (fe:=Ydw) (r:=[↑h]) (enc:=nD) (λ_=>D.bl false) (l:=l) (λb hb=>by
  have:b<H.length:=by
   obtain⟨r,hr,hx⟩:=(hm b).mp hb;exact y7m (hR r hr).1.1 b hx
  simp[Ydw,hlen,nD]
  lia)
 have g1:¬((60:Int)<(H.length:Int)):=by lia
 have b0:=Yl3 (λ_:Bool=>true) H;have b1:=Yl3 (λ_:Nat=>false) l;rcases hh with rfl|rfl
 ·simp[Ygc,hlen,g1,capR,c0,c1,hb,hi,b0,b1]
 ·simp[Ygc,hlen,g1,capR,c0,c1,hb,hi,b0,b1]
theorem Yaab{k:Kd}{R:List Rl}{H:AH}(hH:H.length<=60)(hl:R.length<=20)(hR:∀r∈R,OkR k H.length r/\sz r<=100){h:D}(hh:h=.lst (H.map hnD)\/h=.tup (H.map hnD)):Ybh [Yah k R,h]=some .non:=
 y6m (m:=101) hH (by lia) (λr hr=>⟨(hR r hr).1,by have:=(hR r hr).2;lia⟩) hh
theorem Yaft(r:Rl):plB (rlD r)=true:=by
 have hs:∀l:AY,plBL (l.map sayD)=true:=λl=>by
  induction l with
  | nil=>rfl
  | cons a l ih=>rw[Qa,plBL,ih];rfl
 have hn:∀l:AF,plBL (l.map nD)=true:=λl=>by
  induction l with
  | nil=>rfl
  | cons a l ih=>rw[Qa,plBL,ih];rfl
 cases r with
 | ei l=>exact hs l
 | su l o=>show(plBL (l.map nD)&&(plB (.bl o)&&plBL []))=true;rw[hn];rfl
 | im l h=>show(plBL (l.map nD)&&(plB (optD h)&&plBL []))=true;rw[hn];cases h<;>rfl
theorem Yadt(R:List Rl):plBL (R.map rlD)=true:=by
 induction R with
 | nil=>rfl
 | cons a l ih=>rw[Qa,plBL,ih,Yaft];rfl
theorem y6n(k:Kd)(R:List Rl):plB (Yah k R)=true:=by
 show(plB (kdD k)&&(plBL (R.map rlD)&&plBL []))=true;rw[Yadt];rfl
theorem Yadu(H:AH):plBL (H.map hnD)=true:=by
 induction H with
 | nil=>rfl
 | cons a l ih=>rw[Qa,plBL,ih];rfl
theorem Ysd(l:AQ)(i:Nat)(h:i<=l.length):cutD l none (some (i:Int))=l.take i:=by
 unfold cutD;rw[HT.sIx_nat,HT.sIx_none,Nat.min_eq_left h];simp
theorem Yep(l:AQ)(i:Nat)(h:i<=l.length):cutD l (some (i:Int)) none=l.drop i:=by
 unfold cutD;rw[HT.sIx_nat,HT.sIx_none,Nat.min_eq_left h];exact List.take_of_length_le (by simp)
theorem y6o(k:Kd)(c:Int)(n:Nat)(hn:n<=60):∃r:Rl,In k n r/\Srt r/\Yhy [kdD k,.int c,.int n]=some (rlD r):=by
 obtain⟨v,hv0,hv⟩:=Ywc c 1181783497276652981
 have hmx:(if (1:Int) > (n:Int)then (1:Int)else (n:Int))=((max n 1:Nat):Int):=by
  split<;>lia
 generalize hm1:max n 1=m at hmx
 have hm0:(0:Int)<(m:Int):=by lia
 have hdm:∀x:Int,divI (.int x) (.int (m:Int))=some (.int (x/m)):=λx=>y5j hm0 (by lia);have hst:Yq 11 [kdD k,.int c,.int n]=[↑(kdD k),↑(.int c),↑(.int n),none,none,none,none,none,none,none,none]:=rfl;rw[Yhy,y9 (by rfl),hst];generalize hsz:v%4=size
 have hs0:0<=size:=by lia
 have hs4:size<4:=by lia
 generalize hod:decide (v/4%2=1)=odd
 obtain⟨hd,hhd,hhn⟩:∃hd:AM,(if 0<v/8%6/\0<n then D.int (v/8/6%n)else .non)=optD hd/\∀x,hd=some x->x<n:=by
  by_cases h:0<v/8%6/\0<n
  ·rw[if_pos h]
   have h0:(0:Int)<n:=by lia
   refine⟨some (v/8/6%n).toNat,?_,λx hx=>?_⟩
   ·have:=Int.emod_nonneg (v/8/6) (show(n:Int)≠0 by lia)
    show D.int _=D.int _
    congr 1
    lia
   ·cases hx
    have:=Int.emod_lt_of_pos (v/8/6) h0;have:=Int.emod_nonneg (v/8/6) (show(n:Int)≠0 by lia);lia
  ·rw[if_neg h]
   exact⟨none,rfl,λ_ h=>nomatch h⟩
 obtain⟨ρ',e1,l,left,y,hl,hnd,hlt,rfl⟩:=Yjr (gt:=gSet 8) (fb:=Yco) (λi:Nat=>D.int (0+(i:Nat))) (λpre ρ=>∃(l:AF) (left:Int) (y:AR),l.length<=pre.length/\l.Nodup/\(∀s∈l,s<n)/\
  ρ=[↑(kdD k),↑(.int c),↑(.int n),↑(.int left),↑(.int size),↑(.bl odd),↑(optD hd),some (.ow (l.map nD)),y,none,none]) (List.range (size-0).toNat) []
  [↑(kdD k),↑(.int c),↑(.int n),↑(.int (v/8/6/m)),↑(.int size),↑(.bl odd),↑(optD hd),some (.ow []),none,none,none] ⟨[],v/8/6/m,none,qu _,.nil,by simp,rfl⟩ (by
   rintro q a r ρ e ⟨l,left,y,hl,hnd,hlt,rfl⟩
   have hq:q.length<1000:=by have:=congrArg List.length e;simp at this;lia
   have hcap:l.length<1000000:=by lia
   by_cases h0:0<n
   ·have hn0:(0:Int)<n:=by lia
    have hmod:∀x:Int,modI (.int x) (.int (n:Int))=some (.int (x%n)):=λx=>Ymz hn0
    obtain⟨b,hb⟩:∃b:Nat,left%(n:Int)=(b:Int):=⟨(left%n).toNat,by have:=Int.emod_nonneg left (show(n:Int)≠0 by lia);lia⟩
    have hbn:b<n:=by have:=Int.emod_lt_of_pos left hn0;lia
    have hin:=in_n (c:=.lst (l.map nD)) b l true rfl;simp only[nD]at hin;by_cases hm:b∈l
    ·refine⟨_,_,rfl,?_,l,left/m,↑(.int (0+(a:Int))),by simp;lia,hnd,hlt,rfl⟩
     simp[Yco,hmod,hmx,hdm,hb,hin,hm,nD,h0]
    ·refine⟨_,_,rfl,?_,l++[b],left/m,↑(.int (0+(a:Int))),by simp;lia,?_,?_,rfl⟩
     ·simp[Yco,hmod,hmx,hdm,hb,hin,hm,appD,hcap,nD,h0]
     ·rw[List.nodup_append]
      refine⟨hnd,by simp,?_⟩;intro x hx y hy z;simp at hy;subst hy;exact hm (z ▸ hx)
     ·intro s hs
      rcases qv hs with hs|hs
      ·exact hlt s hs
      ·simp at hs
       subst hs;exact hbn
   ·refine⟨_,_,rfl,?_,l,left/m,↑(.int (0+(a:Int))),by simp;lia,hnd,hlt,rfl⟩
    simp[Yco,hmx,hdm,h0])
 have hl3:l.length<=3:=by simp at hl;lia
 have hr:=Yvl (n:=size) (by lia) (by lia);rw[Yvk]at hr
 have pre:Yk8 [↑(kdD k),↑(.int c),↑(.int n),none,none,none,none,none,none,none,none]=Ycf [↑(kdD k),↑(.int c),↑(.int n),↑(.int left),↑(.int size),↑(.bl odd),↑(optD hd),some (.ow (l.map nD)),y,none,none]:=by
  have q8:Ye4 [↑(kdD k),↑(.int c),↑(.int n),↑(.int (v/8/6/m)),↑(.int size),↑(.bl odd),↑(optD hd),some (.ow []),none,none,none]=Ycf [↑(kdD k),↑(.int c),↑(.int n),↑(.int left),↑(.int size),↑(.bl odd),↑(optD hd),some (.ow (l.map nD)),y,none,none]:=by
   rw[Ye4,Yeh];simp[hr,-Ycf]at e1 ⊢;rw[e1];rfl
  have q6:Ycg [↑(kdD k),↑(.int c),↑(.int n),↑(.int (v/8)),↑(.int size),↑(.bl odd),↑(optD hd),none,none,none,none]=Ycf [↑(kdD k),↑(.int c),↑(.int n),↑(.int left),↑(.int size),↑(.bl odd),↑(optD hd),some (.ow (l.map nD)),y,none,none]:=by
   rw[<-q8,Ycg,Yeh];simp[hmx,hdm,-Ye4]
  rw[<-q6,Yk8,Yeh];by_cases h:0<v/8%6/\0<n
  ·have h0:(0:Int)<n:=by lia
   have hmod:∀x:Int,modI (.int x) (.int (n:Int))=some (.int (x%n)):=λx=>Ymz h0;rw[if_pos h]at hhd;simp[hv,hsz,hod,h.1,h.2,hmod,hhd,-Ycg]
  ·rw[if_neg h]at hhd
   by_cases h1:0<v/8%6
   ·have h2:¬0<n:=λz=>h ⟨h1,z⟩
    simp[hv,hsz,hod,h1,h2,<-hhd,-Ycg]
   ·simp[hv,hsz,hod,h1,<-hhd,-Ycg]
 rw[pre];clear e1 hr hv pre;by_cases hk:k=.e
 ·subst hk
  have hcut:cutD (l.map nD) none (some 2)=(l.take 2).map nD:=by
   unfold cutD;rw[HT.sIx_none]
   have:HT.sIx (l.map nD).length (l.map nD).length (some 2)=min 2 l.length:=by
    have:=HT.sIx_nat (l.map nD).length (l.map nD).length 2;simpa using this
   rw[this,List.map_take,List.drop_zero,Nat.sub_zero];by_cases h:2<=l.length
   ·rw[Nat.min_eq_left h]
   ·rw[Nat.min_eq_right (by lia),List.take_of_length_le (by simp),List.take_of_length_le (by simp;lia)]
  obtain⟨S,hS2,hSn,hSl,hSr⟩:∃S:AY,S.length<=2/\S.Nodup/\(∀s∈S,s.1<n)/\Ycf [↑(kdD .e),↑(.int c),↑(.int n),↑(.int left),↑(.int size),↑(.bl odd),↑(optD hd),some (.ow (l.map nD)),y,none,none]=(Ymo [.lst (S.map sayD)]).map λq=>Out.rt (.tup q):=by
   match l,hnd,hlt,hcut with
   | [],_,_,hcut=>
     refine⟨[],by simp,.nil,by simp,?_⟩;simp[hcut];rfl
   | [a],_,hlt,hcut=>
     refine⟨[(a,odd)],by simp,by simp,λs hs=>by simp at hs;subst hs;exact hlt a (.head _),?_⟩;simp[hcut,M.forM,gSet,Yd5,appD,sayD];rfl
   | a::b::l,hnd,hlt,hcut=>
     have hab:a≠b:=by
      intro z;subst z;simp at hnd
     have hcut2:cutD (nD a::nD b::l.map nD) none (some 2)=[nD a,nD b]:=hcut;by_cases h6:left/2%6=1
     ·refine⟨[(a,odd),(a,!odd)],by simp,by cases odd<;>simp,λs hs=>?_,?_⟩
      ·simp at hs
       rcases hs with rfl|rfl<;>exact hlt a (.head _)
      ·simp[hcut2,M.forM,gSet,Yd5,appD,sayD,h6,setD]
       rfl
     ·refine⟨[(a,odd),(b,decide (left%2=1))],by simp,by simp[hab],λs hs=>?_,?_⟩
      ·simp at hs
       rcases hs with rfl|rfl
       ·exact hlt a (.head _)
       ·exact hlt b (.tail _ (.head _))
      ·simp[hcut2,M.forM,gSet,Yd5,appD,sayD,h6]
       rfl
  obtain⟨l',hp,hpw,hs⟩:=Yx7 S hS2 hSn;refine⟨.ei l',⟨rfl,λs hs=>hSl s (hp.mem_iff.mp hs)⟩,⟨by rw[hp.length_eq];exact hS2,hpw⟩,?_⟩;rw[hSr,hs];rfl
 ·obtain⟨l',hp,hpw,hs⟩:=Yx6 l hnd (by lia)
  by_cases hks:k=.s
  ·subst hks
   refine⟨.su l' odd,⟨rfl,λs hs=>hlt s (hp.mem_iff.mp hs)⟩,hpw,?_⟩;simp[hs,rlD]
  ·have hki:k=.i\/k=.n:=by cases k<;>simp at hk hks ⊢
   refine⟨.im l' hd,⟨hki,λs hs=>hlt s (hp.mem_iff.mp hs),hhn⟩,hpw,?_⟩;simp[hs,rlD,hk,hks]
def num(b:Nat):Str:=Str.ofString (toString (b:Int))
theorem Yla:∀b,b<60->(num b).length<=2:=by decide +kernel
theorem Ywj{b:Nat}(h:b<60):strC [.int (b:Int)]=some (.str (num b)):=by
 rw[y50,if_pos (by lia)];rfl
theorem e_fs{b:Nat}(h:b<60){x:Str}(hx:x.length<=10):fsD x (.int (b:Int))=some (.str (x++num b)):=by
 have:=Yla b h;have e:Str.ofString (toString (b:Int))=num b:=rfl;rw[y94,e,if_pos ⟨by lia,by rw[y26];lia⟩]
theorem y7u{a b:Str}(ha:a.length<=10)(hb:b.length<=10):addS (.str a) (.str b)=some (.str (a++b)):=by
 rw[y51,if_pos (by lia)]
theorem Yn8{sep:Str}{l:AQ}{xs:AK}(h:l=xs.map D.str)(hs:(xs.map λx:Str=>sep.length+x.length).sum<=16000000):Yg5 sep [.lst l]=some (.str (Txt.join sep xs)):=by
 rw[y28,h,Ym4,qd,if_pos (y27 hs)]
abbrev T(s:String):Str:=Str.ofString s
def sayW(s:Say):Str:=(if s.2=true then T "+" else T "-")++num s.1
def Yac:Rl->AK
 | .ei l=>T "rule"::l.map sayW
 | .su b o=>T "rule"::(if o=true then T "odd" else T "even")::b.map num
 | .im b h=>T "rule"::(b.map num++[T ">"]++h.toList.map num)
theorem lenPM:(T "+").length=1/\(T "-").length=1:=by decide +kernel
theorem y6p{s:Say}(h:s.1<60):Yb3 [sayD s]=some (.str (sayW s)):=by
 rw[Yb3,y9 (by rfl)];have h1:=e_fs h (x:=T "+") (by rw[lenPM.1];decide);have h2:=e_fs h (x:=T "-") (by rw[lenPM.2];decide);obtain⟨b,o⟩:=s;cases o<;>simp[Ygo,Yq,sayD,h1,h2,sayW]
theorem Yse{s:Say}(h:s.1<60):Ybv [sayD s]=some (.str (sayW s)):=by
 rw[Ybv,y9 (by rfl)];have h0:=Ywj h;have hn:=Yla s.1 h;have h1:=y7u (a:=T "+") (b:=num s.1) (by rw[lenPM.1];decide) (by lia);have h2:=y7u (a:=T "-") (b:=num s.1) (by rw[lenPM.2];decide) (by lia);obtain⟨b,o⟩:=s;cases o<;>simp[Yfx,Yq,sayD,h0,h1,h2,sayW]
theorem Yfy{a b:AQ}(h:a.length+b.length<=1000000):catD (.lst a) (.lst b)=some (a++b):=if_pos h
theorem Yo7{k:Kd}{r:Rl}(hr:In k 60 r)(hs:sz r<=1000):Yc9 [kdD k,rlD r]=some (.lst ((Yac r).map D.str)):=by
 rw[Yc9,y9 (by rfl)]
 cases r with
 | ei l=>
   obtain⟨rfl,h60⟩:=hr
   have h:=Ycu (fe:=Yc0) (r:=[]) (enc:=sayD) (λs=>D.str (sayW s)) (l:=l) (λs hs=>by
    have:=y6p (h60 s hs)
    simp[Yc0,this])
   have hl:l.length<=1000:=by simpa [sz]using hs
   have hc:=Yfy (a:=[.str (T "rule")]) (b:=l.map λs=>D.str (sayW s)) (by simp;lia);simp[Ybz,Yq,rlD,capR,h,hc,Yac,wu]
 | su b o=>
   obtain⟨rfl,h60⟩:=hr
   have h:=Ycu (fe:=Ybc) (r:=[]) (enc:=nD) (λx=>D.str (num x)) (l:=b) (λx hx=>by
    have:=Ywj (h60 x hx)
    simp[Ybc,nD,this])
   have hl:b.length<=1000:=by simpa [sz]using hs
   have hc:=λw:Str=>Yfy (a:=[.str (T "rule"),.str w]) (b:=b.map λx=>D.str (num x)) (by simp;lia);cases o<;>simp[Ybz,Yq,rlD,capR,h,hc,Yac,wu]
 | im b h=>
   obtain⟨hk,h60,hh⟩:=hr
   have hke:¬k=.e:=by rcases hk with rfl|rfl<;>decide
   have hks:¬k=.s:=by rcases hk with rfl|rfl<;>decide
   have hcm:=Ycu (fe:=Ybc) (r:=[]) (enc:=nD) (λx=>D.str (num x)) (l:=b) (λx hx=>by
    have:=Ywj (h60 x hx)
    simp[Ybc,nD,this])
   have hl:b.length<=1000:=by simp[sz]at hs;lia
   have hc1:=Yfy (a:=[.str (T "rule")]) (b:=b.map λx=>D.str (num x)) (by simp;lia);have hc2:=Yfy (a:=[.str (T "rule")]++b.map λx=>D.str (num x)) (b:=[.str (T ">")]) (by simp;lia)
   cases h with
   | none=>
     have hc3:=Yfy (a:=[.str (T "rule")]++(b.map λx=>D.str (num x))++[.str (T ">")]) (b:=[]) (by simp;lia);simp only[jd,List.cons_append,List.nil_append]at hc1 hc2 hc3;simp[Ybz,Yq,rlD,capR,hcm,hc1,hc2,hc3,hke,hks,Yac,optD,wu]
   | some x=>
     have hx:=Ywj (hh x rfl);have hc3:=Yfy (a:=[.str (T "rule")]++(b.map λx=>D.str (num x))++[.str (T ">")]) (b:=[.str (num x)]) (by simp;lia);simp only[jd,List.cons_append,List.nil_append]at hc1 hc2 hc3;simp[Ybz,Yq,rlD,capR,hcm,hc1,hc2,hc3,hke,hks,hx,Yac,optD,wu]
theorem Yul{k:Kd}{r:Rl}(hr:In k 60 r)(hs:sz r<=1000):Yb6 [kdD k,rlD r]=some (.lst ((Yac r).map D.str)):=by
 rw[Yb6,y9 (by rfl)]
 cases r with
 | ei l=>
   obtain⟨rfl,h60⟩:=hr
   have h:=Ycu (fe:=Yb9) (r:=[]) (enc:=sayD) (λs=>D.str (sayW s)) (l:=l) (λs hs=>by
    have:=Yse (h60 s hs)
    simp[Yb9,this])
   have hl:l.length<=1000:=by simpa [sz]using hs
   have hc:=Yfy (a:=[.str (T "rule")]) (b:=l.map λs=>D.str (sayW s)) (by simp;lia);simp[Ybk,Yq,rlD,capR,h,hc,Yac,wu]
 | su b o=>
   obtain⟨rfl,h60⟩:=hr
   have h:=Ycu (fe:=Ya2) (r:=[]) (enc:=nD) (λx=>D.str (num x)) (l:=b) (λx hx=>by
    have:=Ywj (h60 x hx)
    simp[Ya2,nD,this])
   have hl:b.length<=1000:=by simpa [sz]using hs
   have hc:=λw:Str=>Yfy (a:=[.str (T "rule"),.str w]) (b:=b.map λx=>D.str (num x)) (by simp;lia);cases o<;>simp[Ybk,Yq,rlD,capR,h,hc,Yac,wu]
 | im b h=>
   obtain⟨hk,h60,hh⟩:=hr
   have hke:¬k=.e:=by rcases hk with rfl|rfl<;>decide
   have hks:¬k=.s:=by rcases hk with rfl|rfl<;>decide
   have hcm:=Ycu (fe:=Ya2) (r:=[]) (enc:=nD) (λx=>D.str (num x)) (l:=b) (λx hx=>by
    have:=Ywj (h60 x hx)
    simp[Ya2,nD,this])
   have hl:b.length<=1000:=by simp[sz]at hs;lia
   have hc1:=Yfy (a:=[.str (T "rule")]) (b:=b.map λx=>D.str (num x)) (by simp;lia);have hc2:=Yfy (a:=[.str (T "rule")]++b.map λx=>D.str (num x)) (b:=[.str (T ">")]) (by simp;lia);simp only[jd,List.cons_append,List.nil_append]at hc1 hc2
   cases h with
   | none=>simp[Ybk,Yq,rlD,capR,hcm,hc1,hc2,hke,hks,Yac,optD,wu,frz,frz1]
   | some x=>
     have hx:=Ywj (hh x rfl)
     have hcap:b.length+2<1000000:=by lia
     simp[Ybk,Yq,rlD,capR,hcm,hc1,hc2,hke,hks,hx,Yac,optD,wu,frz,frz1,appD,hcap]
theorem Yp1{s B:Nat}:∀{l:AK},(∀x∈l,x.length<=B)->(l.map λx:Str=>s+x.length).sum<=l.length*(s+B)
 | [],_=>by simp
 | x::l,h=>by
   have h1:=Yp1 (s:=s) (l:=l) λy hy=>h y (.tail _ hy);have h2:=h x (.head _);rw[Qa,List.sum_cons,qr,Nat.add_mul,Nat.one_mul];lia
def Yam(b:Bool):Str:=if b=true then T "k" else T "s"
def Ycr(b:Bool):Str:=if b=true then T "1" else T "0"
def kS:Kd->Str
 | .e=>T "eithers" | .s=>T "sums" | .i=>T "ifs" | .n=>T "nots"
theorem y3q(k:Kd):kdD k=.str (kS k):=by cases k<;>rfl
def Yao(w:Str)(xs:AK):AK:=if xs=[]then [w]else [w,Txt.join (T "") xs]
def Yal(k:Kd)(R:List Rl)(H ev:AH):List AK:=[T "kind",kS k]::Yao (T "hands") (H.map Yam)::(R.map Yac++if ev=[]then []else [Yao (T "settled") (ev.map Ycr)])
def Ygt(L:List AK):Str:=Txt.join (T "\n") (L.map (Txt.join (T " ")))
def Yzx(w:AK):Prop:=(∀x∈w,x.length<=100)/\w.length<=1010
theorem lens:(T "").length=0/\(T " ").length=1/\(T "\n").length=1/\(T "rule").length=4/\(T "odd").length=3/\(T "even").length=4/\(T ">").length=1/\(T "kind").length=4/\(T "hands").length=5/\(T "settled").length=7:=by decide +kernel
theorem Yh1(b:Bool):(Yam b).length=1:=by cases b<;>decide +kernel
theorem Yn9(b:Bool):(Ycr b).length=1:=by cases b<;>decide +kernel
theorem Yadv(k:Kd):(kS k).length<=10:=by cases k<;>decide +kernel
theorem Ywk{k:Kd}{r:Rl}(hr:In k 60 r)(hs:sz r<=1000):Yzx (Yac r):=by
 obtain⟨_,_,_,l4,l5,l6,l7,_⟩:=lens
 cases r with
 | ei l=>
   obtain⟨rfl,h60⟩:=hr
   have hl:l.length<=1000:=by simpa [sz]using hs
   refine⟨λx hx=>?_,by simp[Yac];lia⟩;rcases qt hx with rfl|hx
   ·lia
   ·obtain⟨s,hs,rfl⟩:=qx hx
    have:=Yla s.1 (h60 s hs);obtain⟨p1,p2⟩:=lenPM;unfold sayW;rw[y26]
    split<;>lia
 | su b o=>
   obtain⟨rfl,h60⟩:=hr
   have hl:b.length<=1000:=by simpa [sz]using hs
   refine⟨λx hx=>?_,by simp[Yac];lia⟩;rcases qt hx with rfl|hx
   ·lia
   ·rcases qt hx with rfl|hx
    ·split<;>lia
    ·obtain⟨s,hs,rfl⟩:=qx hx
     have:=Yla s (h60 s hs);lia
 | im b h=>
   obtain⟨hk,h60,hh⟩:=hr
   have hl:b.length<=1000:=by simp[sz]at hs;lia
   have hol:h.toList.length<=1:=by cases h<;>simp
   refine⟨λx hx=>?_,by simp[Yac];lia⟩;rcases qt hx with rfl|hx
   ·lia
   ·rcases qv hx with hx|hx
    ·rcases qv hx with hx|hx
     ·obtain⟨s,hs,rfl⟩:=qx hx
      have:=Yla s (h60 s hs);lia
     ·have:x=T ">":=by simpa using hx
      rw[this];lia
    ·obtain⟨s,hs,rfl⟩:=qx hx
     have:=Yla s (hh s (by simpa using hs));lia
theorem Yh2{α:Type}{f:α->Str}(hf:∀a,(f a).length=1)(l:List α):((l.map f).map λx:Str=>(T "").length+x.length).sum<=l.length:=by
 have h:=Yp1 (s:=(T "").length) (B:=1) (l:=l.map f) (λx hx=>by
  obtain⟨a,_,rfl⟩:=qx hx;rw[hf]
  exact qu _)
 rw[qf,lens.1]at h;simpa [lens.1]using h
theorem Yoa{α:Type}{f:α->Str}(hf:∀a,(f a).length=1){l:List α}(hl:l.length<=60){w:Str}(hw:w.length<=100):Yzx (Yao w (l.map f)):=by
 unfold Yao
 split
 ·exact⟨λx hx=>by simp at hx;subst hx;exact hw,by simp⟩
 ·refine⟨λx hx=>?_,by simp⟩
  rcases qt hx with rfl|hx
  ·exact hw
  ·have:x=Txt.join (T "") (l.map f):=by simpa using hx
   rw[this];have h1:=Yjv (T "") (l.map f);have h2:=Yh2 hf l;lia
theorem Ylb{k:Kd}{R:List Rl}{H ev:AH}(hR:∀r∈R,In k 60 r/\sz r<=1000)(hH:H.length<=60)(he:ev.length<=60):∀w∈Yal k R H ev,Yzx w:=by
 obtain⟨_,_,_,_,_,_,_,l8,l9,l10⟩:=lens;intro w hw;have hk:=Yadv k;rcases qt hw with rfl|hw
 ·refine⟨λx hx=>?_,by simp⟩
  simp at hx;rcases hx with rfl|rfl<;>lia
 ·rcases qt hw with rfl|hw
  ·exact Yoa Yh1 hH (by lia)
  ·rcases qv hw with hw|hw
   ·obtain⟨r,hr,rfl⟩:=qx hw
    exact Ywk (hR r hr).1 (hR r hr).2
   ·split at hw
    ·cases hw
    ·have:w=Yao (T "settled") (ev.map Ycr):=by simpa using hw
     rw[this];exact Yoa Yn9 he (by lia)
theorem Ysf{w:AK}(h:Yzx w):Yg5 (T " ") [.lst (w.map D.str)]=some (.str (Txt.join (T " ") w))/\(Txt.join (T " ") w).length<=110000:=by
 have h1:=Yp1 (s:=(T " ").length) h.1;rw[lens.2.1]at h1;have h2:=h.2;have h3:w.length*(1+100)<=1010*101:=Nat.mul_le_mul_right _ h2;have h4:=Yjv (T " ") w;rw[lens.2.1]at h4;exact⟨Yn8 rfl (by rw[lens.2.1];lia),by lia⟩
theorem Yum{L:List AK}(hL:∀w∈L,Yzx w)(hl:L.length<=100):Yg5 (T "\n") [.lst (L.map λw=>D.str (Txt.join (T " ") w))]=some (.str (Ygt L)):=by
 have e:(L.map λw=>D.str (Txt.join (T " ") w))=(L.map (Txt.join (T " "))).map D.str:=by rw[Qd];rfl
 have h1:=Yp1 (s:=(T "\n").length) (B:=110000) (l:=L.map (Txt.join (T " "))) (λx hx=>by
  obtain⟨w,hw,rfl⟩:=qx hx
  exact(Ysf (hL w hw)).2)
 rw[qf]at h1
 have h2:L.length*((T "\n").length+110000)<=100*(1+110000):=by rw[lens.2.2.1];exact Nat.mul_le_mul_right _ hl
 exact Yn8 e (Qb h1 (Qb h2 (by decide)))
abbrev wD(w:AK):D:=.lst (w.map D.str)
theorem Yp2{L:List AK}(hL:∀w∈L,Yzx w)(hl:L.length<=100):Yea [.lst (L.map wD)]=some (.str (Ygt L)):=by
 rw[Yea,y9 (by rfl)]
 have hc:=Ycu (fe:=Ygl) (r:=[]) (enc:=wD) (λw=>D.str (Txt.join (T " ") w)) (l:=L) (λw hw=>by
  have:=(Ysf (hL w hw)).1
  simp[Ygl,this])
 have hj:=Yum hL hl;generalize L.map wD=LL,(L.map λw=>D.str (Txt.join (T " ") w))=TT at *;simp[Ypv,Yq,capR,hc,hj]
theorem y3r{w:Str}{xs:AK}(h:(xs.map λx:Str=>(T "").length+x.length).sum<=1000):Ybq [.str w,.lst (xs.map D.str)]=some (wD (Yao w xs)):=by
 rw[Ybq,y9 (by rfl)];have hj:=Yn8 (sep:=T "") (l:=xs.map D.str) (xs:=xs) rfl (by lia);unfold Yao
 cases xs with
 | nil=>simp[Yem,Yq]
 | cons x xs=>
   rw[if_neg (by simp)];simp only[Qa]at hj;simp[Yem,Yq,hj]
theorem y6q(b:Bool):y1y Yk3 (hnD b)=some (.str (Yam b)):=by cases b<;>rfl
theorem Yadw(b:Bool):ixS (hnD b) (.int 0)=some (.str (Yam b)):=by cases b<;>rfl
theorem Yo8{k:Kd}{R:List Rl}{H ev:AH}(hR:∀r∈R,In k 60 r/\sz r<=1000)(hl:R.length<=60)(hH:H.length<=60)(he:ev.length<=60):Yda [wtD k R H ev]=some (.str (Ygt (Yal k R H ev))):=by
 rw[Yda,y9 (by rfl)]
 have c0:=Ycu (fe:=Yc1) (r:=[]) (enc:=hnD) (λb=>D.str (Yam b)) (l:=H) (λb _=>by
  have:=y6q b
  simp[Yc1,this])
 have c1:=Ycu (fe:=Yc2) (r:=[↑(kdD k)]) (enc:=rlD) (λr=>wD (Yac r)) (l:=R) (λr hr=>by
  have:=Yo7 (hR r hr).1 (hR r hr).2
  simp[Yc2,this])
 have c2:=Ycu (fe:=Yfq) (r:=[]) (enc:=D.bl) (λb=>D.str (Ycr b)) (l:=ev) (λb _=>by cases b<;>rfl);have hsm:=Ylb hR hH he
 have c3:=Ycu (fe:=Yc3) (r:=[]) (enc:=wD) (λw=>D.str (Txt.join (T " ") w)) (l:=Yal k R H ev) (λw hw=>by
  have:=(Ysf (hsm w hw)).1
  simp[Yc3,this])
 have hj:=Yum hsm (by unfold Yal;simp;split<;>simp<;>lia);have s1:=y3r (w:=T "hands") (xs:=H.map Yam) (Qb (Yh2 Yh1 H) (by lia));have s2:=y3r (w:=T "settled") (xs:=ev.map Ycr) (Qb (Yh2 Yn9 ev) (by lia));rw[Qd]at s1 s2;have m2:=Yzw "evening" (by decide) Yaa (Yah k R) (.tup (H.map hnD)) (.lst (ev.map D.bl));rw[Yn7]at m2;have hst:Yq 3 [wtD k R H ev]=[↑(wtD k R H ev),none,none]:=rfl;rw[hst];have e1:(D.str ∘ Yam)=λb=>D.str (Yam b):=rfl;have e2:(D.str ∘ Ycr)=λb=>D.str (Ycr b):=rfl;rw[e1]at s1;rw[e2]at s2
 have q4:Ybj [↑(wtD k R H ev),↑(kdD k),some (.ow ((Yal k R H ev).map wD))]=some (.rt (.str (Ygt (Yal k R H ev)))):=by
  generalize (Yal k R H ev).map wD=LL,((Yal k R H ev).map λw=>D.str (Txt.join (T " ") w))=TT at *;simp[Ybj,frz,frz1,capR,c3,hj]
 have q3:Yb5 [↑(wtD k R H ev),↑(kdD k),some (.ow (wD [T "kind",kS k]::wD (Yao (T "hands") (H.map Yam))::R.map λr=>wD (Yac r)))]=some (.rt (.str (Ygt (Yal k R H ev)))):=by
  rw[Yb5,Yeh];by_cases hev:ev=[]
  ·subst hev
   have hr:(Yal k R H []).map wD=wD [T "kind",kS k]::wD (Yao (T "hands") (H.map Yam))::R.map λr=>wD (Yac r):=by
    simp[Yal,Qd,wu]
   rw[hr]at q4;simp only[List.map_nil]at m2;simp[m2,-Ybj];exact q4
  ·have hr:(Yal k R H ev).map wD=(wD [T "kind",kS k]::wD (Yao (T "hands") (H.map Yam))::R.map λr=>wD (Yac r))++[wD (Yao (T "settled") (ev.map Ycr))]:=by
    simp[Yal,hev,Qd,wu]
   rw[hr]at q4
   have hne:(ev.map D.bl).isEmpty=false:=by cases ev<;>simp at hev ⊢
   have hcap:R.length+2<1000000:=by lia
   generalize (ev.map λb=>D.str (Ycr b))=LD,wD (Yao (T "settled") (ev.map Ycr))=WS',wD (Yao (T "hands") (H.map Yam))=WH,wD [T "kind",kS k]=WK at *;simp[m2,hne,capR,c2,s2,appD,hcap,-Ybj];exact q4
 have hcapx:2+R.length<=1000000:=by lia
 have hk:D.lst [D.str (T "kind"),kdD k]=wD [T "kind",kS k]:=by rw[y3q];rfl
 rw[Yig,Yeh];generalize (H.map λb=>D.str (Yam b))=LH,wD (Yao (T "hands") (H.map Yam))=WH,wD [T "kind",kS k]=WK at *;simp[Ygr,Ygq,capR,c0,s1,hk,c1,extD,hcapx,-Yb5];rw[q3];rfl
theorem y3s{l:AQ}(hd:depL l<=50)(neg:Bool):eqM neg (.lst l) (.lst [])=some (if neg then !l.isEmpty else l.isEmpty):=by
 rw[Yjp (by simp only[dep];lia) (by simp only[dep,depL];lia)];cases l<;>simp
theorem Yaac(H:AH):depL (H.map hnD)<=50:=Qb (Ye5 (n:=0) λd hd=>by
 obtain⟨x,_,rfl⟩:=qx hd
 exact qu _) (by lia)
theorem Ywl(H:AH):depL (H.map D.bl)<=50:=Qb (Ye5 (n:=0) λd hd=>by
 obtain⟨x,_,rfl⟩:=qx hd
 exact qu _) (by lia)
theorem Yp3{k:Kd}{R:List Rl}{H ev:AH}(hR:∀r∈R,In k 60 r/\sz r<=1000)(hl:R.length<=60)(hH:H.length<=60)(he:ev.length<=60):Yc6 [kdD k,.tup (R.map rlD),.lst (H.map hnD),.lst (ev.map D.bl)]=some (.lst ((Yal k R H ev).map wD)):=by
 rw[Yc6,y9 (by rfl)];have hst:Yq 6 [kdD k,.tup (R.map rlD),.lst (H.map hnD),.lst (ev.map D.bl)]=[↑(kdD k),↑(.tup (R.map rlD)),↑(.lst (H.map hnD)),↑(.lst (ev.map D.bl)),none,none]:=rfl;rw[hst]
 have c0:=Ycu (fe:=Ygj) (r:=[]) (enc:=hnD) (λb=>D.str (Yam b)) (l:=H) (λb _=>by
  have:=Yadw b
  simp[Ygj,this])
 have c1:=Ycu (fe:=Yke) (r:=[]) (enc:=D.bl) (λb=>D.str (Ycr b)) (l:=ev) (λb _=>by cases b<;>rfl);have j0:=Yn8 (sep:=T "") (l:=H.map λb=>D.str (Yam b)) (xs:=H.map Yam) (by rw[Qd];rfl) (Qb (Yh2 Yh1 H) (by lia));have j1:=Yn8 (sep:=T "") (l:=ev.map λb=>D.str (Ycr b)) (xs:=ev.map Ycr) (by rw[Qd];rfl) (Qb (Yh2 Yn9 ev) (by lia));have n0:=y3s (Yaac H) true;have n1:=y3s (Ywl ev) true
 have q0:∀WH:D,Ydl [↑(kdD k),↑(.tup (R.map rlD)),↑(.lst (H.map hnD)),↑(.lst (ev.map D.bl)),some (.ow [wD [T "kind",kS k],WH]),none]=some (.rt (.lst (wD [T "kind",kS k]::WH::((R.map λr=>wD (Yac r))++if ev=[]then []else [wD (Yao (T "settled") (ev.map Ycr))])))):=by
  intro WH
  obtain⟨ρ',e1,y,rfl⟩:=Yjr (gt:=gSet 5) (fb:=Ygk) rlD (λpre ρ=>∃y:AR,ρ=[↑(kdD k),↑(.tup (R.map rlD)),↑(.lst (H.map hnD)),↑(.lst (ev.map D.bl)),some (.ow (wD [T "kind",kS k]::WH::pre.map λr=>wD (Yac r))),y]) R []
   [↑(kdD k),↑(.tup (R.map rlD)),↑(.lst (H.map hnD)),↑(.lst (ev.map D.bl)),some (.ow [wD [T "kind",kS k],WH]),none] ⟨none,rfl⟩ (by
    rintro q a r ρ e ⟨y,rfl⟩;rw[List.nil_append]at e
    have ha:a∈R:=by rw[e];simp
    have hq:q.length<R.length:=by rw[e];simp
    have hw:=Yul (hR a ha).1 (hR a ha).2
    have hcap:q.length+2<1000000:=by lia
    refine⟨_,_,rfl,?_,↑(rlD a),rfl⟩;generalize wD [T "kind",kS k]=WK at *
    simp[Ygk,hw,appD,hcap])
  rw[List.nil_append]at e1;rw[Ydl,Yeh];generalize wD [T "kind",kS k]=WK at *;simp[e1,-Yhi];rw[Yhi,Yeh];by_cases hev:ev=[]
  ·subst hev
   simp only[List.map_nil]at n1;simp[n1,frz,frz1]
  ·have hne:(ev.map D.bl).isEmpty=false:=by cases ev<;>simp at hev ⊢
   have hsg:Yao (T "settled") (ev.map Ycr)=[T "settled",Txt.join (T "") (ev.map Ycr)]:=if_neg (by simpa using hev)
   have hcap:R.length+2<1000000:=by lia
   rw[hne]at n1;generalize (ev.map λb=>D.str (Ycr b))=LD,ev.map D.bl=LE at *;simp[n1,capR,c1,j1,appD,hcap,frz,frz1,hev,hsg]
 have hk:D.lst [D.str (T "kind"),kdD k]=wD [T "kind",kS k]:=by rw[y3q];rfl
 have hrow:(Yal k R H ev).map wD=wD [T "kind",kS k]::wD (Yao (T "hands") (H.map Yam))::((R.map λr=>wD (Yac r))++if ev=[]then []else [wD (Yao (T "settled") (ev.map Ycr))]):=by
  unfold Yal;rw[Qa,Qa,wt,Qd];by_cases hev:ev=[]
  ·simp[hev,wu]
  ·simp[hev,wu]
 rw[hrow];unfold Ypu y53;rw[if_pos (by simp)];by_cases hHe:H=[]
 ·subst hHe
  have q:=q0 (wD [T "hands"]);have hsg:Yao (T "hands") (([]:AH).map Yam)=[T "hands"]:=if_pos rfl;rw[hsg];simp only[List.map_nil]at n0 q;simp[n0,hk,-Ydl];exact(congrArg (λo:Option Out=>o.bind endB) q).trans rfl
 ·have q:=q0 (wD [T "hands",Txt.join (T "") (H.map Yam)])
  have hne:(H.map hnD).isEmpty=false:=by cases H<;>simp at hHe ⊢
  have hsg:Yao (T "hands") (H.map Yam)=[T "hands",Txt.join (T "") (H.map Yam)]:=if_neg (by simpa using hHe);rw[hsg];rw[hne]at n0;generalize (H.map λb=>D.str (Yam b))=LD,H.map hnD=LE at *;simp[n0,hk,capR,c0,j0,-Ydl];exact(congrArg (λo:Option Out=>o.bind endB) q).trans rfl
theorem Yl4(k:Kd)(R:List Rl)(H ev:AH):(Yal k R H ev).length<=R.length+3:=by
 unfold Yal;simp
 split<;>simp
theorem Yafu(x:Int):∃k:Kd,atI [D.str "eithers",D.str "sums",D.str "ifs",D.str "nots"] (x%4)=some (kdD k):=by
 have e:x%4=0\/x%4=1\/x%4=2\/x%4=3:=by lia
 rcases e with e|e|e|e<;>rw[e]
 ·exact⟨.e,rfl⟩
 ·exact⟨.s,rfl⟩
 ·exact⟨.i,rfl⟩
 ·exact⟨.n,rfl⟩
theorem Yafv(x:Int):atI [D.str "keeper",D.str "storm"] (x%2)=some (hnD (decide (x%2=0))):=by
 have e:x%2=0\/x%2=1:=by lia
 rcases e with e|e<;>rw[e]<;>rfl
theorem Yaad(ns:AG)(hns:ns.length<=63):∃(k:Kd) (n:Nat) (R:List Rl) (H EV:AH),n<=60/\H.length=n/\EV.length<=n/\R.length<=20/\(∀r∈R,In k n r/\Srt r)/\
 Yc5 [.scr ns]=some (.lst [kdD k,.tup (R.map rlD),.lst (H.map hnD),.lst (EV.map D.bl)]):=by
 have c0:=Yuc ns 0;have c1:=Yuc ns 1;have c2:=Yuc ns 2;have cc:=λi:Nat=>Yuc ns (2+i);generalize ns.getD 0 0=x0 at c0;generalize ns.getD 1 0=x1 at c1;generalize ns.getD 2 0=x2 at c2;obtain⟨k,hk⟩:=Yafu x0
 obtain⟨n,hn60,hn⟩:∃n:Nat,n<=60/\(if x0/244%2=1 then x0/4%61%9 else x0/4%61)=(n:Int):=by
  by_cases h:x0/244%2=1
  ·rw[if_pos h]
   exact⟨(x0/4%61%9).toNat,by lia,by lia⟩
  ·rw[if_neg h]
   exact⟨(x0/4%61).toNat,by lia,by lia⟩
 have k1:=y98 ns 3 (3+(x1%21).toNat)
 have e21:((3+(x1%21).toNat:Nat):Int)=3+x1%21:=by lia
 rw[e21]at k1;generalize hcl:(ns.drop (min 3 ns.length)).take (min (3+(x1%21).toNat) ns.length-min 3 ns.length)=cells at k1
 have hcl':cells.length<=20:=by
  rw[<-hcl,List.length_take,List.length_drop];lia
 obtain⟨R,hRl,hR,hRc⟩:=drawn (fe:=Yfg) (r:=[↑(kdD k),↑(.int (n:Int))]) (P:=λr=>In k n r/\Srt r) (λc=>by
  obtain⟨r,hin,hs,hr⟩:=y6o k c n hn60
  exact⟨r,⟨hin,hs⟩,by simp[Yfg,hr]⟩) cells
 obtain⟨ρ',e1,H,L,y,hH,hL,rfl⟩:=Yjr (gt:=gSet 6) (fb:=Yfh) (λi:Nat=>D.int (0+(i:Nat))) (λpre ρ=>∃(H L:AH) (y:AR),H.length=pre.length/\L.length=pre.length/\
  ρ=[↑(.scr ns),↑(kdD k),↑(.int (n:Int)),some (.ow (R.map rlD)),some (.ow (H.map hnD)),some (.ow (L.map D.bl)),y]) (List.range n) []
  [↑(.scr ns),↑(kdD k),↑(.int (n:Int)),some (.ow (R.map rlD)),some (.ow []),some (.ow []),none] ⟨[],[],none,rfl,rfl,rfl⟩ (by
   rintro q a r ρ e ⟨H,L,y,hH,hL,rfl⟩;rw[List.nil_append]at e
   have hq:q.length<n:=by have:=congrArg List.length e;simp at this;lia
   have hc:=cc a
   push_cast at hc
   generalize ns.getD (2+a) 0=xa at hc;obtain⟨v,_,hv⟩:=Ywc xa 1442695040888963407;obtain⟨u,_,hu⟩:=Ywc xa 2049848353892358983;have ha:=Yafv v
   have cap1:H.length<1000000:=by lia
   have cap2:L.length<1000000:=by lia
   refine⟨_,_,rfl,?_,H++[decide (v%2=0)],L++[decide (u%2=1)],↑(.int (0+(a:Int))),by simp[hH],by simp[hL],rfl⟩
   simp[Yfh,hc,hv,hu,ha,appD,cap1,cap2])
 simp only[List.nil_append,List.length_range]at hH hL
 obtain⟨j,hj⟩:∃j:Nat,x2%((n:Int)+1)=(j:Int):=⟨(x2%((n:Int)+1)).toNat,by
  have:=Int.emod_nonneg x2 (show(n:Int)+1≠0 by lia)
  lia⟩
 have hjn:j<=n:=by
  have:=Int.emod_lt_of_pos x2 (show(0:Int)<(n:Int)+1 by lia);lia
 have hmod:modI (.int x2) (.int ((n:Int)+1))=some (.int (j:Int)):=by rw[Ymz (by lia),hj]
 have hcut:=Ysd (L.map D.bl) j (by rw[qf];lia);rw[<-List.map_take]at hcut;have hr:=Yvl (n:=(n:Int)) (by lia) (by lia);rw[Yvk]at hr
 have hn':((n:Int)-0).toNat=n:=by lia
 rw[hn']at hr;refine⟨k,n,R,H,L.take j,hn60,hH,by rw[List.length_take];lia,by lia,hR,?_⟩;rw[Yc5,y9 (by rfl)];have hst:Yq 7 [D.scr ns]=[↑(.scr ns),none,none,none,none,none,none]:=rfl;rw[hst];simp at c0 c1 c2 k1
 have q6:Yd7 [↑(.scr ns),↑(kdD k),↑(.int (n:Int)),some (.ow (R.map rlD)),some (.ow []),some (.ow []),none]=some (.rt (.lst [kdD k,.tup (R.map rlD),.lst (H.map hnD),.lst ((L.take j).map D.bl)])):=by
  have q7:Yd6 [↑(.scr ns),↑(kdD k),↑(.int (n:Int)),some (.ow (R.map rlD)),some (.ow (H.map hnD)),some (.ow (L.map D.bl)),y]=some (.rt (.lst [kdD k,.tup (R.map rlD),.lst (H.map hnD),.lst ((L.take j).map D.bl)])):=by
   generalize (L.take j).map D.bl=LT,L.map D.bl=LL,H.map hnD=HH,R.map rlD=RR at *;simp[Yd6,frz,frz1,optI,c2,hmod,hcut]
  clear hcut;generalize (L.take j).map D.bl=LT at *;rw[Yd7,Yeh];simp[hr,-Yd6]at e1 ⊢;rw[e1];exact q7
 have q3:Ycp [↑(.scr ns),↑(kdD k),↑(.int (n:Int)),none,none,none,none]=some (.rt (.lst [kdD k,.tup (R.map rlD),.lst (H.map hnD),.lst ((L.take j).map D.bl)])):=by
  rw[Ycp,Yeh];generalize (L.take j).map D.bl=LT,H.map hnD=HH at *;simp[optI,c1,k1,capR,hRc,-Yd7];exact q6
 have q2:Yd8 [↑(.scr ns),↑(kdD k),none,none,none,none,none]=some (.rt (.lst [kdD k,.tup (R.map rlD),.lst (H.map hnD),.lst ((L.take j).map D.bl)])):=by
  clear q6 e1;generalize (L.take j).map D.bl=LT,H.map hnD=HH,R.map rlD=RR at *;rw[Yd8,Yeh];by_cases h:x0/244%2=1
  ·rw[if_pos h]at hn
   simp[c0,h,hn,-Ycp];exact q3
  ·rw[if_neg h]at hn
   simp[c0,h,hn,-Ycp];exact q3
 rw[Yn4,Yeh];clear q6 q3 e1;generalize (L.take j).map D.bl=LT,H.map hnD=HH,R.map rlD=RR at *;simp[c0,hk,-Yd8];rw[q2];rfl
end Lw
namespace Lw
open PySem L2 M Bk Builtin Builtin.Str
theorem Yob(neg:Bool)(a b:Str):eqM neg (.str a) (.str b)=some (if neg then !decide (a=b)else decide (a=b)):=by
 rw[Yjp (by simp) (by simp),y2q];by_cases h:a=b<;>cases neg<;>simp[h]
theorem y6r{neg:Bool}{ks:AK}{f:Str}(h:f∈ks):inG neg ks (.str f)=some (!neg):=by
 show some (decide (f∈ks)!=neg)=_;rw[wn h];cases neg<;>rfl
abbrev FIG:Str:=Str.ofString "0123456789"
def Yadx(n:Nat):Bool:=(num n).cps.all (·<128)&&decide (1<=(num n).length)&&decide ((num n).length<=3)&&(num n).cps.toList.all (λc=>!(occurrences FIG ⟨#[c]⟩ 0 FIG.length 1).isEmpty)&&(decide ((num n).length<=1)||!((num n).cps.toList.head?==some 48))
theorem Yady:∀n,n<60->Yadx n=true:=by decide +kernel
theorem y6s{c:Nat}(h:¬c=48):¬(⟨#[c]⟩:Str)=Str.ofString "0":=λe=>h (by
 have e2:Str.ofString "0"=⟨#[48]⟩:=by decide +kernel
 rw[e2]at e;injection e with e;injection e with e
 injection e with e)
theorem Ysg{n:Nat}(h:n<60):Yd3 [.str (num n)]=some (.int n):=by
 rw[Yd3,y9 (by rfl)];have hok:=Yady n h;unfold Yadx at hok;simp only[Qe,Bool.or_eq_true,wm,List.all_eq_true]at hok;obtain⟨⟨⟨⟨h1,h2⟩,h3⟩,h4⟩,h5⟩:=hok;have hl:lenS [.str (num n)]=some (.int ((num n).length:Int)):=if_pos (by lia);have hc:Yic (.str (num n))=some ((num n).cps.toList.map λc=>D.str ⟨#[c]⟩):=if_pos ⟨h1,by lia⟩
 have hi:intS [.str (num n)]=some (.int (n:Int)):=by
  show(if (num n).length<=640 then (intText? (num n)).map D.int else none)=_;rw[if_pos (by lia),show num n=Str.ofString (toString (n:Int)) from rfl,W.KIN.num_reads (by lia) (by lia)];rfl
 have hm:=Ycu (fe:=Ygs) (r:=[]) (enc:=λc:Nat=>D.str ⟨#[c]⟩) (λ_=>.bl true) (l:=(num n).cps.toList) (λc hc=>by
  have:=h4 c hc;show(inS (.str ⟨#[c]⟩) (.str FIG)).map D.bl=_;show some (D.bl (!(occurrences FIG ⟨#[c]⟩ 0 FIG.length 1).isEmpty))=_
  rw[this])
 have h2':(1:Int)<=((num n).length:Int):=by lia
 have h3':((num n).length:Int)<=3:=by lia
 by_cases h6:(num n).length<=1
 ·have h6':¬(1:Int)<((num n).length:Int):=by lia
  simp[Ygd,Yq,capR,hl,hc,hm,hi,h2',h3',h6',ch3]
 ·have h6':(1:Int)<((num n).length:Int):=by lia
  obtain⟨c,hc0⟩:∃c,(num n).cps.toList.head?=some c:=by
   cases e:(num n).cps.toList with
   | nil=>
     have:(num n).cps.toList.length=0:=by rw[e];rfl
     rw[qj]at this;exact absurd this (by have h:(num n).cps.size=(num n).length:=rfl;lia)
   | cons c l=>exact⟨c,rfl⟩
  have hne:¬c=48:=λz=>by
   rcases h5 with h5|h5
   ·exact h6 h5
   ·rw[hc0,z]at h5
    exact absurd h5 (by decide)
  have hx:ixS (.str (num n)) (.int 0)=some (.str ⟨#[c]⟩):=by
   show(if (num n).length<=1000000 then (atI (num n).cps.toList 0).map (λc=>D.str ⟨#[c]⟩)else none)=_;rw[if_pos (by lia)]
   cases e:(num n).cps.toList with
   | nil=>rw[e]at hc0;cases hc0
   | cons d l=>
     rw[e]at hc0;cases hc0;rw[Yqs];rfl
  have hz:=y6s hne;simp[Ygd,Yq,capR,hl,hc,hm,hi,h2',h3',h6',ch3,hx,Yob,hz]
theorem Yafw{n:Nat}(h:n<60):Yb8 [.int n]=some (.bl true):=by
 rw[Yb8,y9 (by rfl)]
 have h1:((n:Nat):Int)<60:=by lia
 have h0:(0:Int)<=((n:Nat):Int):=by lia
 simp[Yi2,Yq,isiD,Ygy,Yy2,ch3,h0,h1]
theorem Yki{n:Nat}(h:n<60):Ybu [.str (num n)]=some (nD n):=by
 rw[Ybu,y9 (by rfl)];have h1:=Ysg h;have h2:=Yafw h;simp[Yj5,Yq,h1,h2,nD]
theorem y3t:∀n,n<60->∀b:Bool,(sayW (n,b)).length<=10/\Txt.slice (sayW (n,b)) (some 1) none=num n/\atI (sayW (n,b)).cps.toList 0=some (if b=true then 43 else 45):=by decide +kernel
theorem Yzy:(⟨#[43]⟩:Str)∈Ya0/\(⟨#[45]⟩:Str)∈Ya0/\gt_TRUTHS_BY_MARK.lookup ⟨#[43]⟩=some true/\gt_TRUTHS_BY_MARK.lookup ⟨#[45]⟩=some false:=by decide +kernel
theorem Ysh{s:Say}(h:s.1<60):Ycn [.str (sayW s)]=some (sayD s):=by
 rw[Ycn,y9 (by rfl)];obtain⟨n,b⟩:=s;obtain⟨f1,f2,f3⟩:=y3t n h b
 have hc:cutS 1 (.str (sayW (n,b)))=some (.str (num n)):=by
  show(if _ then some (D.str (Txt.slice (sayW (n,b)) (some 1) none))else none)=_;rw[if_pos (by lia),f2]
 have hb:=Yki (n:=n) h;obtain⟨m1,m2,m3,m4⟩:=Yzy
 have hx:ixS (.str (sayW (n,b))) (.int 0)=some (.str ⟨#[if b=true then 43 else 45]⟩):=by
  show(if _ then (atI (sayW (n,b)).cps.toList 0).map (λc=>D.str ⟨#[c]⟩)else none)=_;rw[if_pos (by lia),f3];rfl
 cases b with
 | true=>
   have i1:inG true Ya0 (.str ⟨#[43]⟩)=some false:=y6r m1
   have l1:Ym5 gt_TRUTHS_BY_MARK (.str ⟨#[43]⟩)=some (.bl true):=by
    show(gt_TRUTHS_BY_MARK.lookup ⟨#[43]⟩).map _=_;rw[m3];rfl
   simp at hx;simp[Yge,Yq,hc,hb,hx,i1,l1,isN,Ysz,sayD,nD]
 | false=>
   have i1:inG true Ya0 (.str ⟨#[45]⟩)=some false:=y6r m2
   have l1:Ym5 gt_TRUTHS_BY_MARK (.str ⟨#[45]⟩)=some (.bl false):=by
    show(gt_TRUTHS_BY_MARK.lookup ⟨#[45]⟩).map _=_;rw[m4];rfl
   simp at hx;simp[Yge,Yq,hc,hb,hx,i1,l1,isN,Ysz,sayD,nD]
def lc(b:Bool):Nat:=if b=true then 107 else 115
def dc(b:Bool):Nat:=if b=true then 49 else 48
theorem Yya:∀b,Yam b=⟨#[lc b]⟩:=by decide +kernel
theorem y3u:∀b,Ycr b=⟨#[dc b]⟩:=by decide +kernel
theorem Yzz:∀b,gt_HANDS_BY_LETTER.lookup ⟨#[lc b]⟩=some (Str.ofString (if b then "keeper" else "storm")):=by decide +kernel
theorem Ywm:∀b,gt_TRUTHS_BY_SIGN.lookup ⟨#[dc b]⟩=some b:=by decide +kernel
theorem Ywn(b:Bool):Yen [.str ⟨#[lc b]⟩]=some (hnD b):=by
 rw[Yen,y9 (by rfl)]
 have h:y6e gt_HANDS_BY_LETTER (.str ⟨#[lc b]⟩)=some (hnD b):=by
  show some (match gt_HANDS_BY_LETTER.lookup ⟨#[lc b]⟩with|some b=>D.str b|none=>.non)=_;rw[Yzz];rfl
 simp[Ynp,Yq,h]
theorem Yun(b:Bool):Ydk [.str ⟨#[dc b]⟩]=some (.bl b):=by
 rw[Ydk,y9 (by rfl)]
 have h:y6c gt_TRUTHS_BY_SIGN (.str ⟨#[dc b]⟩)=some (.bl b):=by
  show some (match gt_TRUTHS_BY_SIGN.lookup ⟨#[dc b]⟩with|some b=>D.bl b|none=>.non)=_;rw[Ywm]
 simp[Ylj,Yq,h]
theorem Yaae{l:AQ}(h:∀d∈l,eqD d .non=false):inD .non l=false:=by
 induction l with
 | nil=>rfl
 | cons a l ih=>
   simp only[inD]at ih ⊢;simp;exact⟨h a (.head _),λx hx=>h x (.tail _ hx)⟩
theorem Yyb{A:Addr}{fn:AQ->Option D}(hA:tv.lookup A=some fn){α:Type}{enc out:α->D}{c:D}{l:List α}(hc:orI (b1 (getV 1) Yr) (b1 (getV 1) Yic) [↑(.adr A),↑c,none]=some (l.map enc))(hf:∀a∈l,fn [enc a]=some (out a))(hn:∀a∈l,eqD (out a) .non=false)(hd:∀a∈l,dep (out a)<=1)(hl:l.length<=1000):Yau [.adr A,c]=some (.lst (l.map out)):=by
 rw[Yau,y9 (by rfl)];have hst:Yq 3 [.adr A,c]=[↑(.adr A),↑c,none]:=rfl;rw[hst]
 have hm:=Ycu (fe:=Ye9) (r:=[↑(.adr A)]) (enc:=enc) out (l:=l) (λa ha=>by
  unfold Ye9 y6d
  simp[hA,hf a ha])
 have hi:inM false .non (.lst (l.map out))=some false:=by
  rw[Yxl rfl (by simp[dep]) (Qb (Ye5 (n:=1) λd hd'=>by
   obtain⟨a,ha,rfl⟩:=qx hd'
   exact hd a ha) (by decide))]
  rw[Yaae λd hd'=>by
   obtain⟨a,ha,rfl⟩:=qx hd'
   exact hn a ha]
  rfl
 simp[Ynq,hc,hm,capR,hi,frz,frz1]
end Lw
namespace Lw
open PySem L2 M Bk
theorem Yaaf:tv.lookup 356=some Ybu:=rfl
theorem Yaag:tv.lookup 363=some Ycn:=rfl
theorem Yaah:tv.lookup 370=some Yen:=rfl
theorem Yaai:tv.lookup 377=some Ydk:=rfl
theorem y3v(A:Addr)(l:AQ):orI (b1 (getV 1) Yr) (b1 (getV 1) Yic) [↑(.adr A),↑(.lst l),none]=some l:=rfl
theorem Yhj{b:AF}(h:∀x∈b,x<60)(hl:b.length<=1000):Yau [.adr 356,.lst (b.map λx=>D.str (num x))]=some (.lst (b.map nD)):=
 Yyb Yaaf (enc:=λx=>D.str (num x)) (out:=nD) (y3v _ _) (λx hx=>Yki (h x hx)) (λx _=>rfl) (λx _=>by simp[dep]) hl
theorem Yuo{b:AY}(h:∀x∈b,x.1<60)(hl:b.length<=1000):Yau [.adr 363,.lst (b.map λx=>D.str (sayW x))]=some (.lst (b.map sayD)):=
 Yyb Yaag (enc:=λx=>D.str (sayW x)) (out:=sayD) (y3v _ _) (λx hx=>Ysh (h x hx)) (λx _=>rfl) (λx _=>by simp[dep,sayD,depL]) hl
theorem y3w:∀o:Bool,(if o=true then T "odd" else T "even")∈Ycl/\gt_ODDS_BY_WORD.lookup (if o=true then T "odd" else T "even")=some o:=by decide +kernel
theorem Yz0{b:AF}(o:Bool)(h:∀x∈b,x<60)(hl:b.length<=1000):Yhx [.lst (.str (if o=true then T "odd" else T "even")::b.map λx=>D.str (num x))]=some (.tup [.lst (b.map nD),.bl o]):=by
 rw[Yhx,y9 (by rfl)];obtain⟨f1,f2⟩:=y3w o;have i1:inG true Ycl (.str (if o=true then T "odd" else T "even"))=some false:=y6r f1
 have l1:Ym5 gt_ODDS_BY_WORD (.str (if o=true then T "odd" else T "even"))=some (.bl o):=by
  show(gt_ODDS_BY_WORD.lookup _).map _=_;rw[f2];rfl
 have he:=Yhj h hl;generalize hw:(if o=true then T "odd" else T "even")=w at *;have hc:=Yep (.str w::b.map λx=>D.str (num x)) 1 (by simp);simp at hc
 have hz:¬((b.length:Int)+1=0):=by lia
 simp[Yps,Yq,i1,l1,he,hc,hz]
theorem Yadz:∀n,n<60->¬num n=T ">":=by decide +kernel
theorem y7v{b:AF}{r:AK}(h:∀x∈b,x<60):(b.map num++T ">"::r).idxOf (T ">")=b.length:=by
 induction b with
 | nil=>simp
 | cons x b ih=>
   have hx:(num x==T ">")=false:=by simpa using Yadz x (h x (.head _))
   rw[Qa,List.cons_append,List.idxOf_cons,hx,ih λy hy=>h y (.tail _ hy)];rfl
theorem y6t(l:AK):depL (l.map D.str)<=60:=Qb (Ye5 (n:=0) λd hd=>by
 obtain⟨a,_,rfl⟩:=qx hd
 simp[dep]) (by decide)
theorem y3x(neg:Bool)(x:Str)(l:AK):inM neg (.str x) (.lst (l.map D.str))=some (if neg then !decide (x∈l)else decide (x∈l)):=by
 rw[Yxl rfl (by simp[dep]) (y6t l)]
 have:inD (.str x) (l.map D.str)=decide (x∈l):=by
  induction l with
  | nil=>rfl
  | cons a l ih=>
    simp only[inD]at ih ⊢;rw[Qa,List.any_cons,ih];by_cases h:x=a
    ·subst h;simp
    ·have h':¬a=x:=λz=>h z.symm
     simp[h,h']
 rw[this]
theorem y3y{b:AF}{hd:AM}(h:∀x∈b,x<60)(hh:∀x,hd=some x->x<60)(hl:b.length<=1000):Yj6 [wD (b.map num++T ">"::hd.toList.map num)]=some (.tup [.lst (b.map nD),optD hd]):=by
 rw[Yj6,y9 (by rfl)]
 have i1:inM true (.str (T ">")) (wD (b.map num++T ">"::hd.toList.map num))=some false:=by
  rw[y3x];simp
 have i2:idxT (wD (b.map num++T ">"::hd.toList.map num)) (.str (T ">"))=some (.int (b.length:Nat)):=by
  rw[Yxw,y7v h,if_pos (by simp)]
 have c1:cutD ((b.map num++T ">"::hd.toList.map num).map D.str) (some ((b.length:Int)+1)) none=hd.toList.map λx=>D.str (num x):=by
  have:=Yep ((b.map num++T ">"::hd.toList.map num).map D.str) (b.length+1) (by simp);rw[Int.natCast_add]at this;rw[show((b.length:Int)+1)=((b.length:Int)+((1:Nat):Int)) from rfl,this];rw[wt,List.drop_append];simp[wu]
 have c2:cutD ((b.map num++T ">"::hd.toList.map num).map D.str) none (some (b.length:Int))=b.map λx=>D.str (num x):=by
  rw[Ysd _ _ (by simp),wt,List.take_append];simp[wu];exact List.take_of_length_le (by simp)
 have e1:=Yhj (b:=hd.toList) (λx hx=>hh x (by simpa using hx)) (by cases hd<;>simp);have e2:=Yhj h hl;have hst:Yq 3 [wD (b.map num++T ">"::hd.toList.map num)]=[↑(wD (b.map num++T ">"::hd.toList.map num)),none,none]:=rfl;rw[hst];clear hst;simp only[wD]at i1 i2 ⊢;generalize (b.map num++T ">"::hd.toList.map num).map D.str=W at *
 have hcap:(b.length:Int)+1<=1001:=by lia
 cases hd with
 | none=>
   simp at c1 e1;simp[Ynr,i1,i2,c1,c2,e1,e2,optD]
 | some x=>
   simp at c1 e1;simp[Ynr,i1,i2,c1,c2,e1,e2,optD]
def rdR:Rl->D
 | .ei l=>.lst (l.map sayD)
 | .su b o=>.tup [.lst (b.map nD),.bl o]
 | .im b h=>.tup [.lst (b.map nD),optD h]
theorem Ywo{k:Kd}{r:Rl}(hr:In k 60 r)(hs:sz r<=1000):Ygg [kdD k,wD (Yac r)]=some (rdR r):=by
 rw[Ygg,y9 (by rfl)]
 have er:eqM true (.str (T "rule")) (.str "rule")=some false:=by rw[Yob];simp
 cases r with
 | ei l=>
   obtain⟨rfl,h60⟩:=hr;have he:=Yuo h60 hs;have hc:=Yep (.str (T "rule")::l.map λx=>D.str (sayW x)) 1 (by simp);simp at hc;simp[Ygf,Yq,er,rdR,Yac,wu,hc,he]
 | su b o=>
   obtain⟨rfl,h60⟩:=hr;have he:=Yz0 o h60 hs;have hc:=Yep (.str (T "rule")::.str (if o=true then T "odd" else T "even")::b.map λx=>D.str (num x)) 1 (by simp);simp at hc;simp[Ygf,Yq,er,rdR,Yac,wu,hc,he]
 | im b h=>
   obtain⟨hk,h60,hh⟩:=hr
   have hke:¬k=.e:=by rcases hk with rfl|rfl<;>decide
   have hks:¬k=.s:=by rcases hk with rfl|rfl<;>decide
   have he:=y3y h60 hh hs;have hc:=Yep ((T "rule"::(b.map num++[T ">"]++h.toList.map num)).map D.str) 1 (by simp)
   have e1:((T "rule"::(b.map num++[T ">"]++h.toList.map num)).map D.str).drop 1=(b.map num++T ">"::h.toList.map num).map D.str:=by simp
   rw[e1]at hc;have e0:(Yac (.im b h)).map D.str=D.str (T "rule")::(b.map num++[T ">"]++h.toList.map num).map D.str:=rfl;simp only[wD]at he ⊢;rw[e0];rw[Qa]at hc;generalize (b.map num++T ">"::h.toList.map num).map D.str=W,(b.map num++[T ">"]++h.toList.map num).map D.str=W2 at *;have hc:cutD (D.str (T "rule")::W2) (some 1) none=W:=hc;simp[Ygf,Yq,er,rdR,hke,hks,hc,he]
theorem Yaaj:∀k:Kd,kS k∈Yf4:=by intro k;cases k<;>decide +kernel
theorem Ywp(k:Kd):Ygh [wD [T "kind",kS k]]=some (kdD k):=by
 rw[Ygh,y9 (by rfl)]
 have e1:eqM true (.str (T "kind")) (.str "kind")=some false:=by rw[Yob];simp
 have e2:inG true Yf4 (.str (kS k))=some false:=y6r (Yaaj k);simp[Yns,Yq,e1,e2,y3q]
theorem Yup{α:Type}{f:α->Str}{c:α->Nat}(hf:∀a,f a=⟨#[c a]⟩):∀(l:List α) (acc:Array Nat),((l.map f).foldl (λacc p=>acc++(T "").cps++p.cps) acc).toList=acc.toList++l.map c
 | [],acc=>by simp
 | x::l,acc=>by
   rw[Qa,List.foldl_cons,Yup hf l,hf]
   have:(T "").cps=#[]:=by decide +kernel
   simp[this]
theorem Yyc{α:Type}{f:α->Str}{c:α->Nat}(hf:∀a,f a=⟨#[c a]⟩)(l:List α):(Txt.join (T "") (l.map f)).cps.toList=l.map c:=by
 cases l with
 | nil=>rfl
 | cons x l=>
   have:=Yup hf l (f x).cps;rw[show(f x).cps=#[c x] from by rw[hf]]at this;rw[Qa];show((l.map f).foldl (λacc p=>acc++(T "").cps++p.cps) (f x).cps).toList=_;rw[hf x,this];rfl
theorem Yp4{α:Type}{f:α->Str}{c:α->Nat}(hf:∀a,f a=⟨#[c a]⟩)(hc:∀a,c a<128)(l:List α)(hl:l.length<=1000):Yic (.str (Txt.join (T "") (l.map f)))=some (l.map λa=>D.str ⟨#[c a]⟩):=by
 have h:=Yyc hf l
 have h1:(Txt.join (T "") (l.map f)).cps.all (·<128)=true:=by
  rw[<-Array.all_toList,h];simp[hc]
 have h2:(Txt.join (T "") (l.map f)).length<=1000000:=by
  show(Txt.join (T "") (l.map f)).cps.size<=_;rw[<-qj,h,qf];lia
 show(if _/\_ then some _ else none)=_;rw[if_pos ⟨h1,h2⟩,h,Qd];rfl
theorem y3z{A:Addr}{x:Str}{l:AQ}(h:Yic (.str x)=some l):orI (b1 (getV 1) Yr) (b1 (getV 1) Yic) [↑(.adr A),↑(.str x),none]=some l:=by
 show(match (b1 (getV 1) Yr [↑(.adr A),↑(.str x),none])with|some l=>some l|none=>_)=_;have:b1 (getV 1) Yr [↑(.adr A),↑(.str x),none]=none:=rfl;rw[this];show Yic (.str x)=_;exact h
theorem Yz1(H:AH)(hl:H.length<=1000):Yau [.adr 370,.str (Txt.join (T "") (H.map Yam))]=some (.lst (H.map hnD)):=
 Yyb Yaah (enc:=λb=>D.str ⟨#[lc b]⟩) (out:=hnD) (y3z (Yp4 Yya (λb=>by cases b<;>decide) H hl)) (λb _=>Ywn b) (λb _=>rfl) (λb _=>by simp[dep,hnD]) hl
theorem Ywq(H:AH)(hl:H.length<=1000):Yau [.adr 377,.str (Txt.join (T "") (H.map Ycr))]=some (.lst (H.map D.bl)):=
 Yyb Yaai (enc:=λb=>D.str ⟨#[dc b]⟩) (out:=D.bl) (y3z (Yp4 y3u (λb=>by cases b<;>decide) H hl)) (λb _=>Yun b) (λb _=>rfl) (λb _=>by simp[dep]) hl
theorem y6u(x:Str):Txt.join (T "") [x]=x:=rfl
theorem Yuq(H:AH)(hl:H.length<=60):Ye2 [wD (Yao (T "hands") (H.map Yam))]=some (.lst (H.map hnD)):=by
 rw[Ye2,y9 (by rfl)]
 have e1:eqM true (.str (T "hands")) (.str "hands")=some false:=by rw[Yob];simp
 have he:=Yz1 H (by lia);unfold Yao
 cases H with
 | nil=>
   have hj:Yg5 (Str.ofString "") [.lst []]=some (.str (Txt.join (T "") [])):=Yn8 (xs:=[]) rfl (by decide);simp at he;have hc:cutD [D.str (T "hands")] (some 1) none=[]:=rfl;simp[Yhc,Yq,e1,hj,hc,he]
 | cons x H=>
   have hw:=Yh2 Yh1 (x::H);have hlen:=Yjv (T "") ((x::H).map Yam)
   have hj:Yg5 (Str.ofString "") [.lst [.str (Txt.join (T "") ((x::H).map Yam))]]=some (.str (Txt.join (T "") [Txt.join (T "") ((x::H).map Yam)])):=Yn8 (xs:=[_]) rfl (by
    rw[lens.1]at hlen hw ⊢;simp only[Qa,List.map_nil,List.sum_cons,List.sum_nil]at hw hlen ⊢
    lia)
   rw[y6u]at hj;rw[if_neg (by simp)];have hc:cutD ([T "hands",Txt.join (T "") ((x::H).map Yam)].map D.str) (some 1) none=[.str (Txt.join (T "") ((x::H).map Yam))]:=rfl;generalize Txt.join (T "") ((x::H).map Yam)=X,(x::H).map hnD=HD at *;simp at hc;simp[Yhc,Yq,e1,hj,hc,he]
theorem Yo9(ev:AH)(h0:ev≠[])(hl:ev.length<=60):Ydb [wD (Yao (T "settled") (ev.map Ycr))]=some (.lst (ev.map D.bl)):=by
 rw[Ydb,y9 (by rfl)];have he:=Ywq ev (by lia);unfold Yao;rw[if_neg (by simpa using h0)];generalize Txt.join (T "") (ev.map Ycr)=X at *;simp[Yii,Yq,he]
def Ns(c:Nat)(l:AK):Prop:=∀x∈l,c∉x.cps.toList
def sp(c:Nat):Str:=⟨#[c]⟩
theorem sp_b:T " "=sp 32/\T "\n"=sp 10:=by decide +kernel
section
variable {c:Nat}
theorem Ykj:∀(l:AK) (acc:Array Nat),(l.foldl (λacc p=>acc++(sp c).cps++p.cps) acc).toList=acc.toList++l.flatMap λp=>c::p.cps.toList
 | [],acc=>by simp
 | x::l,acc=>by
   rw[List.foldl_cons,Ykj l,List.flatMap_cons];simp[sp]
theorem y6v{a r:AF}(h:c∉a)(hr:r=[]\/∃r',r=c::r'):(a++r).takeWhile (· != c)=a:=by
 induction a with
 | nil=>
   rcases hr with rfl|⟨r',rfl⟩
   ·rfl
   ·simp
 | cons x a ih=>
   have hx:x≠c:=λz=>h (by rw[z];exact .head _);rw[List.cons_append,List.takeWhile_cons]
   have:(x != c)=true:=by simpa using hx
   rw[if_pos this,ih λz=>h (.tail _ z)]
theorem Yh3(l:AK):(l.flatMap λp=>c::p.cps.toList)=[]\/∃r',(l.flatMap λp=>c::p.cps.toList)=c::r':=by
 cases l with
 | nil=>exact .inl rfl
 | cons x l=>exact .inr ⟨_,by rw[List.flatMap_cons,List.cons_append]⟩
theorem y30{x y:Str}(h:x.cps.toList=y.cps.toList):x=y:=by
 obtain⟨⟨a⟩⟩:=x;obtain⟨⟨b⟩⟩:=y;have:a=b:=h;rw[this]
theorem Yyd:∀(l l':AK),Ns c l->Ns c l'->(l.flatMap λp=>c::p.cps.toList)=(l'.flatMap λp=>c::p.cps.toList)->l=l'
 | [],[],_,_,_=>rfl
 | [],y::l',_,_,e=>by simp at e
 | x::l,[],_,_,e=>by simp at e
 | x::l,y::l',h,h',e=>by
   rw[List.flatMap_cons,List.flatMap_cons,List.cons_append,List.cons_append]at e;injection e with _ e;have e1:=congrArg (List.takeWhile (· != c)) e;rw[y6v (h x (.head _)) (Yh3 l),y6v (h' y (.head _)) (Yh3 l')]at e1;have e2:=y30 e1;subst e2;rw[Yyd l l' (λz hz=>h z (.tail _ hz)) (λz hz=>h' z (.tail _ hz)) (List.append_cancel_left e)]
theorem Ykk{x:Str}{l:AK}(h:Ns c (x::l)):Txt.split (Txt.join (sp c) (x::l)) (sp c)=x::l:=by
 have hf:Ns c (Txt.split (Txt.join (sp c) (x::l)) (sp c)):=StrLaws.split_free (Txt.join (sp c) (x::l)) c;have hj:=Yjx (Txt.join (sp c) (x::l)) (sp c);have hp:=PyProof.Rows.split_pos (Txt.join (sp c) (x::l)) (sp c);generalize hs:Txt.split (Txt.join (sp c) (x::l)) (sp c)=ys at *
 cases ys with
 | nil=>exact absurd hp (by decide)
 | cons y m=>
   have e:(m.foldl (λacc p=>acc++(sp c).cps++p.cps) y.cps)=(l.foldl (λacc p=>acc++(sp c).cps++p.cps) x.cps):=by
    have:(⟨m.foldl (λacc p=>acc++(sp c).cps++p.cps) y.cps⟩:Str)=⟨l.foldl (λacc p=>acc++(sp c).cps++p.cps) x.cps⟩:=hj;injection this
   have e:=congrArg Array.toList e;rw[Ykj,Ykj]at e;have e1:=congrArg (List.takeWhile (· != c)) e;rw[y6v (hf y (.head _)) (Yh3 m),y6v (h x (.head _)) (Yh3 l)]at e1;have e2:=y30 e1;subst e2;rw[Yyd m l (λz hz=>hf z (.tail _ hz)) (λz hz=>h z (.tail _ hz)) (List.append_cancel_left e)]
theorem y31{d:Nat}(hd:d≠c){l:AK}(h:Ns d l):d∉(Txt.join (sp c) l).cps.toList:=by
 cases l with
 | nil=>exact λz=>(nomatch z)
 | cons x l=>
   show d∉(l.foldl (λacc p=>acc++(sp c).cps++p.cps) x.cps).toList;rw[Ykj,List.mem_append,List.mem_flatMap];rintro(z|⟨p,hp,z⟩)
   ·exact h x (.head _) z
   ·rcases qt z with z|z
    ·exact hd z
    ·exact h p (.tail _ hp) z
end
structure Wd(w:AK):Prop where
 ne:w≠[]
 b:Ns 32 w
 n:Ns 10 w
 em:T ""∉w
 sm:∀x∈w,x.length<=100
 ln:w.length<=70
theorem Wd.len{w:AK}(h:Wd w):(Txt.join (T " ") w).length<=7070:=by
 have h1:=Yp1 (s:=(T " ").length) h.sm;rw[lens.2.1]at h1;have h2:=h.ln;have h3:w.length*(1+100)<=70*101:=Nat.mul_le_mul_right _ h2;have h4:=Yjv (T " ") w;rw[lens.2.1]at h4;lia
theorem Wd.split{w:AK}(h:Wd w):Ytg (Str.ofString " ") (.str (Txt.join (T " ") w))=some (wD w):=by
 show(if _ then some (D.lst ((Txt.split _ (T " ")).map D.str))else none)=_;rw[if_pos (by have:=h.len;lia),sp_b.1]
 cases w with
 | nil=>exact absurd rfl h.ne
 | cons x l=>rw[Ykk h.b]
theorem Yz2{L:List AK}(h0:L≠[])(hL:∀w∈L,Wd w)(hl:L.length<=100):Ytg (Str.ofString "\n") (.str (Ygt L))=some (.lst (L.map λw=>D.str (Txt.join (T " ") w))):=by
 have hlen:(Ygt L).length<=1000000:=by
  have h1:=Yp1 (s:=(T "\n").length) (B:=7070) (l:=L.map (Txt.join (T " "))) (λx hx=>by
   obtain⟨w,hw,rfl⟩:=qx hx
   exact(hL w hw).len)
  rw[qf,lens.2.2.1]at h1;have h2:L.length*(1+7070)<=100*7071:=Nat.mul_le_mul_right _ hl;have h4:=Yjv (T "\n") (L.map (Txt.join (T " ")));rw[lens.2.2.1]at h4;show(Txt.join (T "\n") (L.map (Txt.join (T " ")))).length<=_;lia
 show(if _ then some (D.lst ((Txt.split _ (T "\n")).map D.str))else none)=_;rw[if_pos hlen]
 have hn:Ns 10 (L.map (Txt.join (T " "))):=λx hx=>by
  obtain⟨w,hw,rfl⟩:=qx hx;rw[sp_b.1];exact y31 (by decide) (hL w hw).n
 unfold Ygt;rw[sp_b.2]
 cases L with
 | nil=>exact absurd rfl h0
 | cons x l=>
   rw[Qa]at hn ⊢;rw[Ykk hn,<-Qa,Qd];rfl
theorem Ywr{L:List AK}(h0:2<=L.length)(hL:∀w∈L,Wd w)(hl:L.length<=100):Ygi [.str (Ygt L)]=some (.lst (L.map wD)):=by
 rw[Ygi,y9 (by rfl)];have hs:=Yz2 (λz=>by rw[z]at h0;cases h0) hL hl
 have hm:=Ycu (fe:=Yfa) (r:=[]) (enc:=λw=>D.str (Txt.join (T " ") w)) wD (l:=L) (λw hw=>by
  have:=(hL w hw).split
  simp[Yfa,this])
 have hm2:=Ycu (fe:=Yfb) (r:=[]) (enc:=wD) (λ_=>D.bl false) (l:=L) (λw hw=>by
  have:=y3x false (T "") w;simp[(hL w hw).em]at this
  simp[Yfb,this])
 have hlen:¬((L.length:Int)<2):=by lia
 generalize (L.map λw=>D.str (Txt.join (T " ") w))=TT at *
 have ha:anyC [.lst (L.map λ_=>D.bl false)]=some (.bl false):=by
  simp
 have hll:(L.map wD).length=L.length:=by simp
 generalize L.map wD=LL at *;simp[Ynv,Yq,hs,hm,hm2,capR,frz,frz1,hll,hlen,ha]
def rv:Rl->Rl
 | .ei l=>.ei l.reverse
 | .su b o=>.su b.reverse o
 | .im b h=>.im b.reverse h
def TR:Rl->Rl->Prop
 | .ei l,.ei l'=>l'.Perm l
 | .su b o,.su b' o'=>b'.Perm b/\o'=o
 | .im b h,.im b' h'=>b'.Perm b/\h'=h
 | _,_=>False
theorem Yaak(r:Rl):TR r r:=by
 cases r with
 | ei l=>exact .refl _
 | su b o=>exact⟨.refl _,rfl⟩
 | im b h=>exact⟨.refl _,rfl⟩
theorem Yafx(r:Rl):TR r (rv r):=by
 cases r with
 | ei l=>exact List.reverse_perm l
 | su b o=>exact⟨List.reverse_perm b,rfl⟩
 | im b h=>exact⟨List.reverse_perm b,rfl⟩
theorem TR.inn{k:Kd}{n:Nat}:∀{r r':Rl},TR r r'->In k n r->In k n r'
 | .ei _,.ei _,h,i=>⟨i.1,λs hs=>i.2 s (h.mem_iff.mp hs)⟩
 | .su _ _,.su _ _,h,i=>⟨i.1,λs hs=>i.2 s (h.1.mem_iff.mp hs)⟩
 | .im _ _,.im _ _,h,i=>⟨i.1,λs hs=>i.2.1 s (h.1.mem_iff.mp hs),λx hx=>i.2.2 x (by rw[<-h.2];exact hx)⟩
theorem TR.sz:∀{r r':Rl},TR r r'->Bk.sz r'=Bk.sz r
 | .ei _,.ei _,h=>h.length_eq
 | .su _ _,.su _ _,h=>h.1.length_eq
 | .im _ _,.im _ _,h=>h.1.length_eq
theorem Yafy:∀{r r':Rl},TR r r'->Hd r (rdR r')
 | .ei _,.ei l',h=>⟨l',false,h,rfl⟩
 | .su _ _,.su b' _,⟨p,rfl⟩=>⟨b',_,p,rfl,rfl⟩
 | .im _ _,.im b' _,⟨p,rfl⟩=>⟨b',_,p,rfl,rfl⟩
theorem Yafz(A M Z:AQ):cutD (A++(M++Z)) none (some (A.length:Int))=A:=by
 rw[Ysd _ _ (by simp)];simp
theorem Yaf0(A M Z:AQ):cutD (A++(M++Z)) (some ((A.length+M.length:Nat):Int)) none=Z:=by
 rw[Yep _ _ (by simp),<-jd];exact List.drop_left' (by simp)
theorem Yaf1(A M Z:AQ):cutD (A++(M++Z)) (some (A.length:Int)) (some ((A.length+M.length:Nat):Int))=M:=by
 unfold cutD;rw[HT.sIx_nat,HT.sIx_nat,Nat.min_eq_left (by simp),Nat.min_eq_left (by simp)];simp
theorem Yws{k:Kd}{x:Str}{w:AK}(h:¬x=T "rule")(c:Int):Yaz [kdD k,wD (x::w),.int c]=some (wD (x::w)):=by
 rw[Yaz,y9 (by rfl)]
 have er:eqM true (.str x) (.str "rule")=some true:=by rw[Yob];simp[h]
 simp[Ybr,Yq,er]
theorem Yi7{k:Kd}{w:AK}{c:Int}(hc:c%2=0):Yaz [kdD k,wD (T "rule"::w),.int c]=some (wD (T "rule"::w)):=by
 rw[Yaz,y9 (by rfl)]
 have er:eqM true (.str (T "rule")) (.str "rule")=some false:=by rw[Yob];simp
 simp[Ybr,Yq,er,hc]
theorem Yi8{k:Kd}{A M Z:AK}{c:Int}(hc:¬c%2=0)(hl:A.length+M.length+Z.length<=1000)(h0:(A++(M++Z))[0]?=some (T "rule"))
 (hk:(k=.e/\A.length=1/\Z=[])\/(k=.s/\A.length=2/\Z=[])\/((k=.i\/k=.n)/\A.length=1/\(A++(M++Z)).idxOf (T ">")=A.length+M.length/\T ">"∈A++(M++Z))) :
 Yaz [kdD k,wD (A++(M++Z)),.int c]=some (wD (A++(M.reverse++Z))):=by
 rw[Yaz,y9 (by rfl)]
 have er:eqM true (.str (T "rule")) (.str "rule")=some false:=by rw[Yob];simp
 have c1:=Yafz (A.map D.str) (M.map D.str) (Z.map D.str);have c2:=Yaf1 (A.map D.str) (M.map D.str) (Z.map D.str);have c3:=Yaf0 (A.map D.str) (M.map D.str) (Z.map D.str)
 have hx:atI ((A++(M++Z)).map D.str) 0=some (.str (T "rule")):=by
  rw[Yiz]
  rw[show atI (A++(M++Z)) 0=some (T "rule") from by
   cases hA:A++(M++Z)with
   | nil=>rw[hA]at h0;cases h0
   | cons x l=>rw[hA]at h0;cases h0;rw[Yqs]]
  rfl
 have hle:lenC [wD (A++(M++Z))]=some (.int ((A.length+M.length+Z.length:Nat):Int)):=by simp[Nat.add_assoc]
 have k1:=Yfy (a:=A.map D.str) (b:=(M.map D.str).reverse) (by simp;lia);have k2:=Yfy (a:=A.map D.str++(M.map D.str).reverse) (b:=Z.map D.str) (by simp;lia);have hi:=Yxw (A++(M++Z)) (T ">")
 have ew:wD (A++(M.reverse++Z))=.lst (A.map D.str++(M.map D.str).reverse++Z.map D.str):=by simp[wD]
 rw[ew]
 have e0:(A++(M++Z)).map D.str=A.map D.str++(M.map D.str++Z.map D.str):=by simp
 simp only[wD]at hle ⊢;rw[qf]at c1 c2;rw[qf,qf]at c3;rw[qf]at c2;rw[<-e0]at c1 c2 c3;generalize (A++(M++Z)).map D.str=W at *;have hst:Yq 5 [kdD k,.lst W,.int c]=[↑(kdD k),↑(.lst W),↑(.int c),none,none]:=rfl;rw[hst];clear hst e0 ew;generalize hj:A.length+M.length=j at *;generalize A.map D.str=AD at *;generalize M.map D.str=MD at *;rcases hk with⟨rfl,h1,rfl⟩|⟨rfl,h1,rfl⟩|⟨hk,h1,h2,h3⟩
 ·rw[h1]at c1 c2
  simp only[List.length_nil,Nat.add_zero,List.map_nil,Int.natCast_one]at hle c1 c2 c3 k2 ⊢;simp[Ybr,hx,er,hc,hle,c1,c2,c3,k1,k2,cutC,revF,lstD]
 ·rw[h1]at c1 c2
  simp only[List.length_nil,Nat.add_zero,List.map_nil]at hle c1 c2 c3 k2 ⊢;have c1:cutD W none (some 2)=AD:=c1;have c2:cutD W (some 2) (some j)=MD:=c2;simp[Ybr,hx,er,hc,hle,c1,c2,c3,k1,k2,cutC,revF,lstD]
 ·rw[if_pos h3,h2]at hi
  rw[h1]at c1 c2
  have hks:¬k=.s:=by rcases hk with rfl|rfl<;>decide
  have hkin:k=.i\/k=.n:=hk;simp only[Int.natCast_one]at c1 c2;rcases hk with rfl|rfl
  ·simp[Ybr,hx,er,hc,hle,c1,c2,c3,k1,k2,cutC,revF,lstD,hi]
  ·simp[Ybr,hx,er,hc,hle,c1,c2,c3,k1,k2,cutC,revF,lstD,hi]
theorem y6w{k:Kd}{r:Rl}(hr:In k 60 r)(hs:sz r<=900)(c:Int):∃r',TR r r'/\Yaz [kdD k,wD (Yac r),.int c]=some (wD (Yac r')):=by
 by_cases hc:c%2=0
 ·refine⟨r,Yaak r,?_⟩
  cases r with
  | ei l=>exact Yi7 hc
  | su b o=>exact Yi7 hc
  | im b h=>exact Yi7 hc
 ·refine⟨rv r,Yafx r,?_⟩
  cases r with
  | ei l=>
    have h:=Yi8 (k:=k) (A:=[T "rule"]) (M:=l.map sayW) (Z:=[]) hc (by simp[sz]at hs ⊢;lia) rfl (.inl ⟨hr.1,rfl,rfl⟩);simpa [Yac,rv,wD]using h
  | su b o=>
    have h:=Yi8 (k:=k) (A:=[T "rule",if o=true then T "odd" else T "even"]) (M:=b.map num) (Z:=[]) hc (by simp[sz]at hs ⊢;lia) rfl (.inr (.inl ⟨hr.1,rfl,rfl⟩));simpa [Yac,rv,wD]using h
  | im b h=>
    have hne:(T "rule"==T ">")=false:=by decide +kernel
    have h:=Yi8 (k:=k) (A:=[T "rule"]) (M:=b.map num) (Z:=T ">"::h.toList.map num) hc (by cases h<;>simp[sz]at hs ⊢<;>lia) rfl (.inr (.inr ⟨hr.1,rfl,by
     rw[List.singleton_append,List.idxOf_cons,hne,y7v hr.2.1,qf]
     simp[Nat.add_comm],by simp⟩))
    simpa [Yac,rv,wD]using h
def wok(x:Str):Prop:=32∉x.cps.toList/\10∉x.cps.toList/\¬T ""=x/\x.length<=100
instance (x:Str):Decidable (wok x):=by unfold wok;infer_instance
theorem Yz3{w:AK}(h0:w≠[])(h:∀x∈w,wok x)(hl:w.length<=70):Wd w:=⟨h0,λx hx=>(h x hx).1,λx hx=>(h x hx).2.1,λz=>(h _ z).2.2.1 rfl,λx hx=>(h x hx).2.2.2,hl⟩
theorem Ywt:∀n,n<60->wok (num n):=by decide +kernel
theorem Yaal:∀n,n<60->∀b,wok (sayW (n,b)):=by decide +kernel
theorem Yad0:wok (T "rule")/\wok (T "odd")/\wok (T "even")/\wok (T ">")/\wok (T "kind")/\wok (T "hands")/\wok (T "settled")/\∀k:Kd,wok (kS k):=by
 refine⟨by decide +kernel,by decide +kernel,by decide +kernel,by decide +kernel,by decide +kernel,by decide +kernel,by decide +kernel,λk=>?_⟩;cases k<;>decide +kernel
theorem Yaam{k:Kd}{r:Rl}(hr:In k 60 r)(hs:sz r<=60):Wd (Yac r):=by
 obtain⟨w1,w2,w3,w4,_⟩:=Yad0
 cases r with
 | ei l=>
   refine Yz3 (by simp[Yac]) (λx hx=>?_) (by simp[Yac,sz]at hs ⊢;lia);rcases qt hx with rfl|hx
   ·exact w1
   ·obtain⟨s,hs,rfl⟩:=qx hx
    exact Yaal s.1 (hr.2 s hs) s.2
 | su b o=>
   refine Yz3 (by simp[Yac]) (λx hx=>?_) (by simp[Yac,sz]at hs ⊢;lia);rcases qt hx with rfl|hx
   ·exact w1
   rcases qt hx with rfl|hx
   ·cases o
    ·exact w3
    ·exact w2
   ·obtain⟨s,hs,rfl⟩:=qx hx
    exact Ywt s (hr.2 s hs)
 | im b h=>
   refine Yz3 (by simp[Yac]) (λx hx=>?_) (by cases h<;>simp[Yac,sz]at hs ⊢<;>lia);rcases qt hx with rfl|hx
   ·exact w1
   rcases qv hx with hx|hx
   ·rcases qv hx with hx|hx
    ·obtain⟨s,hs,rfl⟩:=qx hx
     exact Ywt s (hr.2.1 s hs)
    ·rw[List.mem_singleton.mp hx];exact w4
   ·obtain⟨s,hs,rfl⟩:=qx hx
    exact Ywt s (hr.2.2 s (by simpa using hs))
theorem Yye{w:Str}(hw:wok w){α:Type}{f:α->Str}{c:α->Nat}(hf:∀a,f a=⟨#[c a]⟩)(hc:∀a,c a≠32/\c a≠10){l:List α}(hl:l.length<=60):Wd (Yao w (l.map f)):=by
 unfold Yao;have hj:=Yyc hf l;by_cases h:l.map f=[]
 ·rw[if_pos h]
  exact Yz3 (by simp) (λx hx=>by rw[List.mem_singleton.mp hx];exact hw) (by simp)
 ·rw[if_neg h]
  refine Yz3 (by simp) (λx hx=>?_) (by simp);rcases qt hx with rfl|hx
  ·exact hw
  ·rw[List.mem_singleton.mp hx]
   refine⟨?_,?_,λz=>?_,?_⟩
   ·rw[hj]
    intro z;obtain⟨a,_,ha⟩:=qx z;exact(hc a).1 ha
   ·rw[hj]
    intro z;obtain⟨a,_,ha⟩:=qx z;exact(hc a).2 ha
   ·rw[<-z]at hj
    have e0:(T "").cps.toList=[]:=by decide +kernel
    rw[e0]at hj
    cases l with
    | nil=>exact h rfl
    | cons a l=>cases hj
   ·show(Txt.join (T "") (l.map f)).cps.size<=_
    rw[<-qj,hj,qf];lia
theorem Yaan{k:Kd}{R:List Rl}{H ev:AH}(hR:∀r∈R,In k 60 r/\sz r<=60)(hH:H.length<=60)(he:ev.length<=60):∀w∈Yal k R H ev,Wd w:=by
 obtain⟨_,_,_,_,w5,w6,w7,w8⟩:=Yad0;intro w hw;unfold Yal at hw;rcases qt hw with rfl|hw
 ·exact Yz3 (by simp) (λx hx=>by
   rcases qt hx with rfl|hx
   ·exact w5
   ·rw[List.mem_singleton.mp hx];exact w8 k) (by simp)
 rcases qt hw with rfl|hw
 ·exact Yye w6 Yya (λb=>by cases b<;>decide) hH
 rcases qv hw with hw|hw
 ·obtain⟨r,hr,rfl⟩:=qx hw
  exact Yaam (hR r hr).1 (hR r hr).2
 ·split at hw
  ·cases hw
  ·rw[List.mem_singleton.mp hw]
   exact Yye w7 y3u (λb=>by cases b<;>decide) he
def Al{α β:Type}(P:α->β->Prop):List α->List β->Prop
 | [],[]=>True
 | a::l,b::m=>P a b/\Al P l m
 | _,_=>False
theorem Al.len{α β:Type}{P:α->β->Prop}:∀{l:List α}{m:List β},Al P l m->m.length=l.length
 | [],[],_=>rfl
 | _::_,_::_,h=>congrArg (·+1) (Al.len h.2)
 | [],_::_,h=>h.elim
 | _::_,[],h=>h.elim
theorem Al.app{α β:Type}{P:α->β->Prop}:∀{x y:List α}{m:List β},Al P (x++y) m->∃x' y',m=x'++y'/\Al P x x'/\Al P y y'
 | [],y,m,h=>⟨[],m,rfl,trivial,h⟩
 | a::x,y,b::m,h=>by
   obtain⟨x',y',e,h1,h2⟩:=Al.app (x:=x) h.2;exact⟨b::x',y',by rw[e];rfl,⟨h.1,h1⟩,h2⟩
 | _::_,_,[],h=>h.elim
theorem Yyf{fe:AV}{r:Ro}{α β:Type}{enc:β->D}{P:α->β->Prop}:∀(l:List α) (s:Nat),(∀j (hj:j<l.length),∃w',P l[j] w'/\fe (some (.sh (.int ((s+j:Nat):Int)))::r)=some (enc w'))->
 ∃L',Al P l L'/\Yed (gSet 0) tY fe (none::r) ((List.range' s l.length).map λn:Nat=>D.int (n:Int))=some (L'.map enc)
 | [],s,_=>⟨[],trivial,by simp⟩
 | a::l,s,h=>by
   obtain⟨w',p,e⟩:=h 0 (by simp)
   obtain⟨L',p',e'⟩:=Yyf (P:=P) (enc:=enc) (fe:=fe) (r:=r) l (s+1) (λj hj=>by
    obtain⟨w,q,e⟩:=h (j+1) (by simpa using hj);rw[show s+(j+1)=s+1+j by lia]at e
    exact⟨w,q,e⟩)
   refine⟨w'::L',⟨p,p'⟩,?_⟩;rw[qr,List.range'_succ,Qa,Yed,e'];simp at e;simp[e]
section
variable {f g:Hm}{fe:He}{ρ ρ':Ro}{t:Hs}{Q:OutW Hs->Prop}{i:Nat}
theorem Ydx{f:AS}(h:f ρ=some (.nx ρ'))(k:g ρ' t Q):seqH (Yg4 f) g ρ t Q:=⟨_,h,k⟩
theorem Yad1(h:fe ρ t λd t'=>g (ρ.set i (some (.sh d))) t' Q):seqH (setH i fe) g ρ t Q:=h
theorem Yaf2(h:fe ρ t λ_ t'=>g ρ t' Q):seqH (exH fe) g ρ t Q:=h
theorem y6x{c:Ro->Hs->Option Bool}{f:Hm}(h:c ρ t=some false)(k:g ρ t Q):seqH (ifH c f nilH) g ρ t Q:=⟨false,h,λz=>(nomatch z),λ_=>k⟩
theorem Yad2{gl:AW}{gt:AT}{ds:AQ}(h:gl ρ=some ds)(k:forR gt f ds ρ t fun
 | .nx ρ' t'=>g ρ' t' Q
 | o=>Q o):seqH (forH gl gt f) g ρ t Q:=⟨ds,h,k⟩
theorem Yyg{gt:AT}{fb:Hm}{α:Type}(enc:α->D)(I:List α->Ro->Hs->Prop):∀(l pre:List α) (ρ:Ro) (t:Hs) (Q:OutW Hs->Prop),I pre ρ t->
 (∀q a r ρ t (Q:OutW Hs->Prop),pre++l=q++a::r->I q ρ t->(∀ρ2 t2,I (q++[a]) ρ2 t2->Q (.nx ρ2 t2))->∃ρ1,gt (enc a) ρ=some ρ1/\fb ρ1 t Q)->(∀ρ' t',I (pre++l) ρ' t'->Q (.nx ρ' t'))->forR gt fb (l.map enc) ρ t Q
 | [],pre,ρ,t,Q,h0,_,k=>k ρ t (by rw[jb];exact h0)
 | a::l,pre,ρ,t,Q,h0,hs,k=>by
   rw[Qa,forR];refine hs pre a l ρ t _ rfl h0 λρ2 t2 h2=>?_;refine Yyg enc I l (pre++[a]) ρ2 t2 Q h2 (λq b r ρ t Q e hI hq=>hs q b r ρ t Q (by rw[<-e,jd];rfl) hI hq) λρ' t' h3=>k ρ' t' ?_;rw[jd]at h3;exact h3
end
theorem Yaf3{t:Hs}{a:Addr}{s s':Option HS}:pt (pt t a s) a s'=pt t a s':=by
 funext b
 by_cases h:b=a
 ·rw[h,Yas,Yas]
 ·rw[Ybn h,Ybn h,Ybn h]
theorem Yhk{α:Type}{enc:α->D}{t:Hs}(h:∀a,thD t (enc a)=enc a):∀l:List α,thL t (l.map enc)=l.map enc
 | []=>by rw[List.map_nil,thL]
 | a::l=>by rw[Qa,thL,h,Yhk h l]
theorem y32(t:Hs)(i:Int):thD t (.int i)=.int i:=by rw[thD]
theorem Yad3(t:Hs)(b:Bool):thD t (.bl b)=.bl b:=by rw[thD]
theorem Yad4(t:Hs)(b:Bool):thD t (hnD b)=hnD b:=by unfold hnD;rw[thD]
theorem Yad5(t:Hs)(s:Say):thD t (sayD s)=sayD s:=by
 show thD t (.tup [.int s.1,.bl s.2])=.tup [.int s.1,.bl s.2];simp[thD,thL]
theorem Yad6(t:Hs)(o:AM):thD t (optD o)=optD o:=by
 cases o with
 | none=>show thD t .non=.non;rw[thD]
 | some x=>show thD t (.int _)=.int _;rw[thD]
theorem Yad7(t:Hs)(b:AF):thD t (.tup (b.map nD))=.tup (b.map nD):=by
 have h:=Yhk (enc:=nD) (t:=t) (λn=>y32 t n) b;rw[thD,h]
theorem Yad8(t:Hs)(r:Rl):thD t (rlD r)=rlD r:=by
 cases r with
 | ei l=>show thD t (.tup (l.map sayD))=.tup (l.map sayD);rw[thD,Yhk (Yad5 t)]
 | su b o=>show thD t (.tup [.tup (b.map nD),.bl o])=.tup [.tup (b.map nD),.bl o];rw[thD,thL,thL,thL,Yad7,Yad3]
 | im b h=>show thD t (.tup [.tup (b.map nD),optD h])=.tup [.tup (b.map nD),optD h];rw[thD,thL,thL,thL,Yad7,Yad6]
theorem Yad9(t:Hs)(k:Kd):thD t (kdD k)=kdD k:=by unfold kdD;rw[thD]
theorem Yaao(t:Hs)(k:Kd)(R:List Rl):thD t (Yah k R)=Yah k R:=by
 show thD t (.tup [kdD k,.tup (R.map rlD)])=.tup [kdD k,.tup (R.map rlD)];rw[thD,thL,thL,thL,thD,Yhk (Yad8 t),Yad9]
theorem Yur{t:Hs}{k:Kd}{R:List Rl}{H ev:AH}{l:Addr}(h:t l=some (.bls ev)):thD t (watD (Yah k R) (.tup (H.map hnD)) (.adr l))=wtD k R H ev:=by
 show thD t (.obj "Watch" wks [Yah k R,.tup (H.map hnD),.adr l])=.obj "Watch" wks [Yah k R,.tup (H.map hnD),.lst (ev.map D.bl)];rw[thD,thL,thL,thL,thL,Yaao,thD,Yhk (Yad4 t),thD,h];rfl
section
variable {k:Kd}{R:List Rl}{H ev:AH}{l:Addr}{t:Hs}
theorem Yyh(b h x:D):mthD "Watch" "turn" Yap (watD b h x)=Yap [watD b h x]:=Yzw "turn" (by decide) Yap b h x
theorem Yz4(b h x:D):mthD "Watch" "winner" Ya8 (watD b h x)=Ya8 [watD b h x]:=Yzw "winner" (by decide) Ya8 b h x
theorem Yoc(b h x:D):mthD "Watch" "evening" Yaa (watD b h x)=Yaa [watD b h x]:=Yzw "evening" (by decide) Yaa b h x
theorem Yyi(hl:t l=some (.bls ev))(hlt:ev.length<H.length)(hH:H.length<=60)(hR:∀r∈R,OkR k H.length r/\sz r<=9999)(c:Bool){W:D->Hs->Prop}(kk:W (wonO k R H (ev++[c])) (pt t l (some (.bls (ev++[c]))))) :
 Ybl [watD (Yah k R) (.tup (H.map hnD)) (.adr l),.bl c] t W:=by
 unfold Ybl runH;have hst:Yq 2 [watD (Yah k R) (.tup (H.map hnD)) (.adr l),.bl c]=[↑(watD (Yah k R) (.tup (H.map hnD)) (.adr l)),↑(.bl c)]:=rfl;rw[hst];have m1:=Yyh (Yah k R) (.tup (H.map hnD)) (.lst (ev.map D.bl));rw[y3o (Nat.le_of_lt hlt),Yn6 hlt]at m1;have m4:=Yz4 (Yah k R) (.tup (H.map hnD)) (.lst ((ev++[c]).map D.bl));rw[y6k (by rw[qy];exact hlt) hR]at m4;have sc:=Yadq k R H (ev++[c]);have hn:isN false (hnD H[ev.length]) .non=some false:=rfl;have t1:=Yur (H:=H) (k:=k) (R:=R) hl;have t2:=Yur (H:=H) (k:=k) (R:=R) (t:=pt t l (some (.bls (ev++[c])))) Yas;unfold Yik;refine y6x ?_ ?_
 ·show(b2 (b1 (getV 0) (mthD "Watch" "turn" Yap)) (kD .non) (isN false)) (thR t _)=_
  have:thR t [↑(watD (Yah k R) (.tup (H.map hnD)) (.adr l)),↑(.bl c)]=[↑(wtD k R H ev),↑(thD t (.bl c))]:=by
   show([↑(thD t (watD _ _ _)),↑(thD t (.bl c))]:Ro)=_;rw[t1]
  rw[this];generalize hnD H[ev.length]=tq at *;simp only[Yafl,y9e,gV0,qd,Yafm];rw[m1,qd];exact hn
 unfold Yfw;refine Ydx (ρ':=[↑(watD (Yah k R) (.tup (H.map hnD)) (.adr l)),↑(.bl c)]) (by cases c<;>rfl) ?_;unfold Yfv;refine⟨_,_,l,ev,c,rfl,hl,by lia,rfl,?_⟩;unfold Yfu;refine⟨wonO k R H (ev++[c]),?_,sc,kk⟩
 have:thR (pt t l (some (.bls (ev++[c])))) [↑(watD (Yah k R) (.tup (H.map hnD)) (.adr l)),↑(.bl c)]=[↑(wtD k R H (ev++[c])),↑(thD (pt t l (some (.bls (ev++[c])))) (.bl c))]:=by
  show([↑(thD _ (watD _ _ _)),↑(thD _ (.bl c))]:Ro)=_;rw[t2]
 rw[this];generalize wonO k R H (ev++[c])=wq at *;simp only[y9e,gV0,qd];exact m4
end
section
variable {t:Hs}{x:Addr}{R Q:D->Hs->Prop}{ρ:Ro}{is:AF}{ga:AW}
theorem Yaap{C dx:Addr}{b h:D}{l:AQ}(hx:t x=some (.ins "Watch" C dx [] [] []))(hc:Ybh [b,h]=some .non)(hr:tupC [h]=some (.tup l))
 (k:∀a v1 v2 t',a≠x->t a=none->t' x=some (.ins "Watch" C dx wks [v1,v2,.ref a] [b,.tup l,.adr a])->t' a=some (.bls [])->(∀y,y≠x->y≠a->t' y=t y)->R .non t'):Yb0 [.adr x,b,h] t R:=by
 unfold Yb0 runH;have hst:Yq 3 [.adr x,b,h]=[↑(.adr x),↑b,↑h]:=rfl;rw[hst];unfold Yij;refine Ydx (ρ':=[↑(.adr x),↑b,↑h]) ?_ ?_
 ·simp only[y89,Yac7,Yxj,y2o,gVs,gV0,qd,Option.map_some,hc]
 unfold Yft;refine⟨x,"Watch",C,dx,[],[],[],b,rfl,hx,by decide,by decide,by decide,rfl,λv1=>?_⟩;unfold Yfs;refine⟨x,"Watch",C,dx,["book"],[v1],[b],.tup l,rfl,Yas,by decide,by decide,by decide,?_,λv2=>?_⟩
 ·show(cC (Yg (getC 2) aNil) tupC) [↑(.adr x),↑b,↑h]=_
  simp only[Yac7,Yxj,y2o,gCs,gC0,qd,Option.map_some];exact hr
 rw[Yaf3];unfold Yfr;refine⟨x,"Watch",C,dx,["book","hands"],[v1,v2],[b,.tup l],rfl,Yas,by decide,by decide,by decide,λa ha=>?_⟩
 have hax:a≠x:=λz=>by rw[z,Yas]at ha;cases ha
 rw[Ybn hax]at ha;refine k a v1 v2 _ hax ha Yas ?_ λy h1 h2=>?_
 ·rw[Ybn hax,Yas]
 ·rw[Ybn h1,Ybn h2,Ybn h1]
theorem y6y{b h:D}{l:AQ}(hg:ga (frz is ρ)=some [b,h])(hc:Ybh [b,h]=some .non)(hr:tupC [h]=some (.tup l))(hb:plB b=true)(hl:plBL l=true)(k:∀a t',t a=none->t' a=some (.bls [])->(∀y,y≠a->t' y=t y)->Q (watD b (.tup l) (.adr a)) t'):y9v "Watch" true is [] ga Yb0 ρ t Q:=by
 refine⟨[b,h],hg,λx C dx tx=>⟨λe t'=>e=.non/\∃a v1 v2,a≠x/\t a=none/\t' x=some (.ins "Watch" C dx wks [v1,v2,.ref a] [b,.tup l,.adr a])/\t' a=some (.bls [])/\(∀y,y≠x->y≠a->t' y=t y),Yaap Yas hc hr (λa v1 v2 t' h1 h2 h3 h4 h5=>⟨rfl,a,v1,v2,h1,by rw[Ybn h1]at h2;exact h2,h3,h4,λy g1 g2=>by rw[h5 y g1 g2,Ybn g1]⟩),λe t' h=>?_⟩⟩;obtain⟨rfl,a,v1,v2,h1,h2,h3,h4,h5⟩:=h;refine⟨λy s h=>?_,rfl,λz=>(nomatch z),λ_=>⟨_,_,_,h3,?_⟩⟩
 ·by_cases e:y=x
  ·subst e
   rw[h3]at h;cases h;refine .inr ?_
   have q:∀{d:D},plB d=true->qB d=true:=λ{d} hd=>by cases d<;>first|exact hd|rfl
   have g3:qB (.tup l)=true:=q (by rw[plB];exact hl);show[b,.tup l,.adr a].all qB=true;simp[q hb,g3];rfl
  ·by_cases e2:y=a
   ·subst e2
    rw[h4]at h;cases h;exact .inr rfl
   ·rw[h5 y e e2]at h
    exact .inl h
 ·refine k a _ h2 ?_ λy hy=>?_
  ·rw[Ybn h1]
   exact h4
  ·by_cases e:y=x
   ·rw[e,Yas,tx]
   ·rw[Ybn e]
    exact h5 y e hy
end
theorem Yaaq{k:Kd}{n m:Nat}(h:n<=m){r:Rl}(hi:In k n r):In k m r:=by
 cases r with
 | ei l=>exact⟨hi.1,λs hs=>Qc (hi.2 s hs) h⟩
 | su b o=>exact⟨hi.1,λs hs=>Qc (hi.2 s hs) h⟩
 | im b o=>exact⟨hi.1,λs hs=>Qc (hi.2.1 s hs) h,λx hx=>Qc (hi.2.2 x hx) h⟩
section
variable {k:Kd}{R:List Rl}{H ev:AH}{t:Hs}
abbrev wA(k:Kd)(R:List Rl)(H:AH)(l:Addr):D:=watD (Yah k R) (.tup (H.map hnD)) (.adr l)
def OkG(k:Kd)(R:List Rl)(H:AH):Prop:=R.length<=20/\H.length<=60/\∀r∈R,OkR k H.length r/\sz r<=60
theorem OkG.r(g:OkG k R H):∀r∈R,OkR k H.length r/\sz r<=9999:=λr hr=>⟨(g.2.2 r hr).1,by have:=(g.2.2 r hr).2;lia⟩
theorem OkG.i(g:OkG k R H):∀r∈R,In k 60 r/\Srt r:=λr hr=>⟨Yaaq g.2.1 (g.2.2 r hr).1.1,(g.2.2 r hr).1.2⟩
theorem Yaea(g:OkG k R H)(he:ev.length<=H.length){ds:AQ}(hd:HdL R ds){W:D->Hs->Prop}(kk:∀a t',t a=none->t' a=some (.bls ev)->(∀y,y≠a->t' y=t y)->W (wA k R H a) t') :
 Ye3 [kdD k,.lst ds,.lst (H.map hnD),.lst (ev.map D.bl)] t W:=by
 unfold Ye3 runH;have hst:Yq 6 [kdD k,.lst ds,.lst (H.map hnD),.lst (ev.map D.bl)]=[↑(kdD k),↑(.lst ds),↑(.lst (H.map hnD)),↑(.lst (ev.map D.bl)),none,none]:=rfl;rw[hst];have hb:=Ywh k (c:=.lst ds) g.i hd rfl (by have:=g.1;lia);have hc:=Yaab (k:=k) (R:=R) g.2.1 g.1 (λr hr=>⟨(g.2.2 r hr).1,by have:=(g.2.2 r hr).2;lia⟩) (h:=.lst (H.map hnD)) (.inl rfl);unfold Ylk;refine Yad1 (y6y (b:=Yah k R) (h:=.lst (H.map hnD)) (l:=H.map hnD) ?_ hc (by simp) (y6n k R) (Yadu H) λa t' h1 h2 h3=>?_)
 ·simp[frz,hb]
 unfold Yhg;refine Yad2 (ds:=ev.map D.bl) rfl (Yyg D.bl (λpre ρ t1=>(∃y,ρ=[↑(kdD k),↑(.lst ds),↑(.lst (H.map hnD)),↑(.lst (ev.map D.bl)),↑(wA k R H a),y])/\t1 a=some (.bls pre)/\∀y,y≠a->t1 y=t y) ev [] _ t' _ ⟨⟨none,rfl⟩,h2,h3⟩ (λq c r ρ t1 Q e hI hq=>?_) λρ' t1 hI=>?_)
 ·obtain⟨⟨y,rfl⟩,i2,i3⟩:=hI
  refine⟨_,rfl,?_⟩
  have hlt:q.length<H.length:=by
   have:=congrArg List.length e;simp at this;lia
  unfold Yhe;refine⟨wA k R H a,[.bl c],"Watch",wks,Ybl,λ_ t2=>t2 a=some (.bls (q++[c]))/\∀y,y≠a->t2 y=t y,rfl,rfl,rfl,by decide,rfl,Yyi i2 hlt g.2.1 g.r c ⟨Yas,λy hy=>by rw[Ybn hy];exact i3 y hy⟩,λd t2 hd2=>?_⟩;exact hq _ t2 ⟨⟨some (.sh (.bl c)),rfl⟩,hd2.1,hd2.2⟩
 ·obtain⟨⟨y,rfl⟩,i2,i3⟩:=hI
  unfold Yhf;exact⟨wA k R H a,rfl,kk a t1 h1 i2 i3⟩
end
theorem Yaeb:∀{R R':List Rl},Al TR R R'->HdL R (R'.map rdR)
 | [],[],_=>trivial
 | r::R,r'::R',h=>⟨Yafy h.1,Yaeb h.2⟩
 | [],_::_,h=>h.elim
 | _::_,[],h=>h.elim
theorem y33{P Q:Rl->Prop}(hP:∀{r r'},TR r r'->P r->Q r'):∀{R R':List Rl},Al TR R R'->(∀r∈R,P r)->∀r∈R',Q r
 | [],[],_,_,_,h=>nomatch h
 | r::R,r'::R',h,hR,x,hx=>by
   rcases qt hx with rfl|hx
   ·exact hP h.1 (hR r (.head _))
   ·exact y33 hP h.2 (λy hy=>hR y (.tail _ hy)) x hx
 | [],_::_,h,_,_,_=>h.elim
 | _::_,[],h,_,_,_=>h.elim
theorem Yaec(a b z:D)(l:AQ):cutD (a::b::(l++[z])) (some 2) (some (-1))=l:=by
 unfold cutD
 have h1:HT.sIx (a::b::(l++[z])).length 0 (some 2)=2:=by
  have:=HT.sIx_nat (a::b::(l++[z])).length 0 2;rw[Nat.min_eq_left (by simp)]at this;exact this
 have h2:HT.sIx (a::b::(l++[z])).length (a::b::(l++[z])).length (some (-1))=l.length+2:=by
  show(if (-1:Int)<0 then ((-1:Int)+((a::b::(l++[z])).length:Int)).toNat else min (-1:Int).toNat (a::b::(l++[z])).length)=_;rw[if_pos (by decide)];simp;lia
 rw[h1,h2];simp
theorem Yaf4(a b:D)(l:AQ):cutD (a::b::l) (some 2) none=l:=Yep (a::b::l) 2 (by simp)
theorem Yz5(r:Rl):∃w,Yac r=T "rule"::w:=by
 cases r with
 | ei l=>exact⟨_,rfl⟩
 | su b o=>exact⟨_,rfl⟩
 | im b h=>exact⟨_,rfl⟩
theorem Yyj:¬T "hands"=T "settled"/\¬T "rule"=T "settled"/\¬T "kind"=T "rule"/\¬T "hands"=T "rule"/\¬T "settled"=T "rule":=by decide +kernel
theorem Yh4(w:Str)(xs:AK):∃l,Yao w xs=w::l:=by
 unfold Yao
 split
 ·exact⟨_,rfl⟩
 ·exact⟨_,rfl⟩
theorem Yaar(k:Kd)(R:List Rl)(H:AH):∃x w,atI ((Yal k R H []).map wD) (-1)=some (wD (x::w))/\¬x=T "settled":=by
 obtain⟨h1,h2,_⟩:=Yyj;unfold Yal;rw[if_pos rfl,jb];rcases List.eq_nil_or_concat R with rfl|⟨R0,r,rfl⟩
 ·obtain⟨l,hl⟩:=Yh4 (T "hands") (H.map Yam)
  refine⟨T "hands",l,?_,h1⟩;rw[hl];exact Ylz [wD [T "kind",kS k]] _
 ·obtain⟨w,hw⟩:=Yz5 r
  refine⟨T "rule",w,?_,h2⟩;have:=Ylz (wD [T "kind",kS k]::wD (Yao (T "hands") (H.map Yam))::(R0.map λr=>wD (Yac r))) (wD (Yac r));rw[hw]at this;simp only[Qa,wt,Qd,List.concat_eq_append,List.map_nil,hw];exact this
section
variable {k:Kd}{R R':List Rl}{H ev:AH}{t:Hs}
theorem y7w(g:OkG k R H)(he:ev.length<=H.length)(hT:Al TR R R'){W:D->Hs->Prop}(kk:∀a t',t a=none->t' a=some (.bls ev)->(∀y,y≠a->t' y=t y)->W (wA k R H a) t') :
 Yeo [.str (Ygt (Yal k R' H ev))] t W:=by
 have hR':∀r∈R',In k 60 r/\sz r<=60:=y33 (P:=λr=>In k 60 r/\sz r<=60) (λtr p=>⟨tr.inn p.1,by rw[tr.sz];exact p.2⟩) hT λr hr=>⟨(g.i r hr).1,(g.2.2 r hr).2⟩
 have hl:R'.length<=20:=by rw[hT.len];exact g.1
 have hev:ev.length<=60:=Qb he g.2.1
 have hlen:2<=(Yal k R' H ev).length:=by unfold Yal;simp
 have hlen2:=Yl4 k R' H ev;have hrd:=Ywr hlen (Yaan hR' g.2.1 hev) (by lia);have hkr:=Ywp k;have hhr:=Yuq H g.2.1
 have hcm:=Ycu (fe:=Yfc) (r:=[↑(kdD k)]) (enc:=λr=>wD (Yac r)) rdR (l:=R') (λr hr=>by
  have:=Ywo (hR' r hr).1 (by have:=(hR' r hr).2;lia);generalize wD (Yac r)=w at *
  simp[Yfc,this])
 have hwm:=@Yaea k R H ev t g he _ (Yaeb hT) W kk
 have hL0:atI ((Yal k R' H ev).map wD) 0=some (wD [T "kind",kS k]):=by unfold Yal;rw[Qa,Yqs]
 have hL1:atI ((Yal k R' H ev).map wD) 1=some (wD (Yao (T "hands") (H.map Yam))):=by unfold Yal;rw[Qa,Qa,y9k]
 unfold Yeo runH;have hst:Yq 8 [.str (Ygt (Yal k R' H ev))]=[↑(.str (Ygt (Yal k R' H ev))),none,none,none,none,none,none,none]:=rfl;rw[hst]
 have hE:(ev=[]/\∃x w,atI ((Yal k R' H ev).map wD) (-1)=some (wD (x::w))/\(¬x=T "settled")/\cutD ((Yal k R' H ev).map wD) (some 2) none=R'.map λr=>wD (Yac r))\/
  (ev≠[]/\atI ((Yal k R' H ev).map wD) (-1)=some (wD (Yao (T "settled") (ev.map Ycr)))/\cutD ((Yal k R' H ev).map wD) (some 2) (some (-1))=R'.map λr=>wD (Yac r)):=by
  by_cases h0:ev=[]
  ·subst h0
   obtain⟨x,w,h1,h2⟩:=Yaar k R' H;refine .inl ⟨rfl,x,w,h1,h2,?_⟩;unfold Yal;rw[if_pos rfl,jb,Qa,Qa,Yaf4,Qd];rfl
  ·refine .inr ⟨h0,?_,?_⟩
   ·unfold Yal
    rw[if_neg h0];have:=Ylz (wD [T "kind",kS k]::wD (Yao (T "hands") (H.map Yam))::(R'.map λr=>wD (Yac r))) (wD (Yao (T "settled") (ev.map Ycr)));simp only[Qa,wt,Qd,List.map_nil];exact this
   ·unfold Yal
    rw[if_neg h0];have:=Yaec (wD [T "kind",kS k]) (wD (Yao (T "hands") (H.map Yam))) (wD (Yao (T "settled") (ev.map Ycr))) (R'.map λr=>wD (Yac r));simp only[Qa,wt,Qd,List.map_nil];exact this
 generalize Ygt (Yal k R' H ev)=tx,(Yal k R' H ev).map wD=LL at *;unfold Yn2;refine Ydx (ρ':=[↑(.str tx),↑(.lst LL),none,none,none,none,none,none]) (by simp[hrd]) ?_;unfold Yin;refine Ydx (ρ':=[↑(.str tx),↑(.lst LL),↑(kdD k),none,none,none,none,none]) (by simp[hL0,hkr]) ?_;unfold Yim;refine Ydx (ρ':=[↑(.str tx),↑(.lst LL),↑(kdD k),↑(.lst (H.map hnD)),none,none,none,none]) (by simp[hL1,hhr]) ?_;unfold Yil;rcases hE with⟨rfl,x,w,h1,h2,h3⟩|⟨h0,h1,h3⟩
 ·have e1:eqM false (.str x) (.str "settled")=some false:=by rw[Yob];simp[h2]
  refine Ydx (ρ':=[↑(.str tx),↑(.lst LL),↑(kdD k),↑(.lst (H.map hnD)),↑(.bl false),none,none,none]) (by simp[h1,e1]) ?_;unfold Yff;refine Ydx (ρ':=[↑(.str tx),↑(.lst LL),↑(kdD k),↑(.lst (H.map hnD)),↑(.bl false),↑(.lst []),none,none]) (by simp) ?_;unfold Yfe;refine Ydx (ρ':=[↑(.str tx),↑(.lst LL),↑(kdD k),↑(.lst (H.map hnD)),↑(.bl false),↑(.lst []),some (.ow (R'.map rdR)),none]) (by simp[h3,hcm,capR]) ?_;unfold Yfd;exact⟨[kdD k,.lst (R'.map rdR),.lst (H.map hnD),.lst []],by simp[frz,frz1],W,hwm,λd t' h=>h⟩
 ·have hsr:=Yo9 ev h0 hev
  obtain⟨l,hl0⟩:=Yh4 (T "settled") (ev.map Ycr)
  have e1:eqM false (.str (T "settled")) (.str "settled")=some true:=by rw[Yob];simp
  rw[hl0]at h1 hsr;refine Ydx (ρ':=[↑(.str tx),↑(.lst LL),↑(kdD k),↑(.lst (H.map hnD)),↑(.bl true),none,none,none]) (by simp[h1,e1]) ?_;unfold Yff;refine Ydx (ρ':=[↑(.str tx),↑(.lst LL),↑(kdD k),↑(.lst (H.map hnD)),↑(.bl true),↑(.lst (ev.map D.bl)),none,none]) (by simp[h1,hsr]) ?_;unfold Yfe;refine Ydx (ρ':=[↑(.str tx),↑(.lst LL),↑(kdD k),↑(.lst (H.map hnD)),↑(.bl true),↑(.lst (ev.map D.bl)),some (.ow (R'.map rdR)),none]) (by simp[h3,hcm,capR]) ?_;unfold Yfd;exact⟨[kdD k,.lst (R'.map rdR),.lst (H.map hnD),.lst (ev.map D.bl)],by simp[frz,frz1],W,hwm,λd t' h=>h⟩
end
section
variable {k:Kd}{R:List Rl}{H ev:AH}
theorem Ykl{n:Nat}{y0 y1:AR}{full:AH}:∀(suf pre:AH) (R:List Rl) (y:AR),full=pre++suf->(∀r∈R,OkR k n r/\sz r<=9999)->
 ∃z,M.forM (gSet 4) Yd9 ((List.range' pre.length suf.length).map λn:Nat=>D.int (n:Int)) [y0,y1,↑(.lst (full.map D.bl)),↑(Yah k R),y]=some (.nx [y0,y1,↑(.lst (full.map D.bl)),↑(Yah k (lfs k pre.length suf R)),z])
 | [],pre,R,y,_,_=>⟨y,rfl⟩
 | b::suf,pre,R,y,e,hR=>by
   have h:=Ykg (λr hr=>(hR r hr).1.1) (λr hr=>Qb (hR r hr).2 (by lia)) pre.length b;obtain⟨z,e2⟩:=Ykl (y0:=y0) (y1:=y1) (n:=n) (full:=full) suf (pre++[b]) _ (some (.sh (.int (pre.length:Int)))) (by rw[e,jd];rfl) (Yuj (b:=pre.length) (lit:=b) hR);refine⟨z,?_⟩;rw[qy]at e2;rw[qr,List.range'_succ,Qa,M.forM]
   have hat:atI (full.map D.bl) (pre.length:Int)=some (.bl b):=by
    rw[Yiz,e,Yp8 (v:=b) (by simp)];rfl
   have hg:gSet 4 (.int (pre.length:Int)) [y0,y1,↑(.lst (full.map D.bl)),↑(Yah k R),y]=some [y0,y1,↑(.lst (full.map D.bl)),↑(Yah k R),↑(.int (pre.length:Int))]:=rfl
   have hl:Yd9 [y0,y1,↑(.lst (full.map D.bl)),↑(Yah k R),↑(.int (pre.length:Int))]=some (.nx [y0,y1,↑(.lst (full.map D.bl)),↑(Yah k (R.filterMap (Ydg k pre.length b))),↑(.int (pre.length:Int))]):=by
    generalize full.map D.bl=F at *;simp[Yd9,hat,h]
   rw[hg,qd,hl,qd];exact e2
theorem y34(n:Nat)(h:n<=1000):rng1 [.int (n:Int)]=some ((List.range' 0 n).map λn:Nat=>D.int (n:Int)):=by
 rw[Yvl (by lia) (by lia),Yvk];simp[List.range_eq_range']
theorem Yz6{n:Nat}(hR:∀r∈R,OkR k n r/\sz r<=9999)(he:ev.length<=60):Yhz [kdD k,.tup (R.map rlD),.lst (ev.map D.bl)]=some (Yah k (lfs k 0 ev R)):=by
 rw[Yhz,y9 (by rfl)];have hst:Yq 5 [kdD k,.tup (R.map rlD),.lst (ev.map D.bl)]=[↑(kdD k),↑(.tup (R.map rlD)),↑(.lst (ev.map D.bl)),none,none]:=rfl;rw[hst];obtain⟨z,e⟩:=Ykl (k:=k) (n:=n) (y0:=some (.sh (kdD k))) (y1:=some (.sh (.tup (R.map rlD)))) (full:=ev) ev [] R none rfl hR;have hr:=y34 ev.length (by lia);rw[List.length_nil]at e
 have hlen:lenC [.lst (ev.map D.bl)]=some (.int (ev.length:Int)):=by simp
 have hb:D.tup [kdD k,.tup (R.map rlD)]=Yah k R:=rfl;generalize ev.map D.bl=E,R.map rlD=RR at *;simp[Ypw,hlen,hr,hb,e]
end
theorem eqL_map{α:Type}{enc:α->D}(h:∀a,eqD (enc a) (enc a)=true):∀l:List α,eqL (l.map enc) (l.map enc)=true
 | []=>by simp
 | a::l=>by rw[Qa,Yd0,h,eqL_map h l];rfl
theorem Yaed(s:Say):eqD (sayD s) (sayD s)=true:=by
 rw[sayD,Yf2];simp
theorem Yaf5(r:Rl):eqD (rlD r) (rlD r)=true:=by
 cases r with
 | ei l=>rw[rlD,Yf2,eqL_map Yaed]
 | su b o=>
   have:=eqL_map (enc:=nD) (λn=>by simp) b;rw[rlD,Yf2,Yd0,Yd0,Yf2,this];simp
 | im b o=>
   have:=eqL_map (enc:=nD) (λn=>by simp) b;rw[rlD,Yf2,Yd0,Yd0,Yf2,this];cases o<;>simp[optD,eqD,toPy,PyData.eqv]
theorem Yaas(neg:Bool)(k:Kd)(R:List Rl):eqM neg (Yah k R) (Yah k R)=some (!neg):=by
 have h:=y5m k R;rw[Yjp (by lia) (by lia)]
 have:eqD (Yah k R) (Yah k R)=true:=by
  rw[Yah,Yf2,Yd0,Yd0,Yf2,eqL_map Yaf5];simp[kdD]
 rw[this];cases neg<;>rfl
theorem Yaee(neg:Bool)(l:AH):eqM neg (.lst (l.map D.bl)) (.lst (l.map D.bl))=some (!neg):=by
 have hd:=Ywl l
 have hd':dep (.lst (l.map D.bl))<=60:=by rw[y9j];lia
 rw[Yjp hd' hd']
 have:eqD (.lst (l.map D.bl)) (.lst (l.map D.bl))=true:=by
  rw[y9h,eqL_map (λb=>by simp)]
 rw[this];cases neg<;>rfl
section
variable {k:Kd}{R:List Rl}{H ev:AH}
theorem y6z(b h x:D):mthD "Watch" "left" Ybs (watD b h x)=Ybs [watD b h x]:=Yzw "left" (by decide) Ybs b h x
theorem y35(g:OkG k R H)(he:ev.length<=H.length):Ya9 [wtD k R H ev,kdD k,.tup (R.map rlD),.lst (H.map hnD),.lst (ev.map D.bl)]=some (.bl true):=by
 rw[Ya9,y9 (by rfl)];have hst:Yq 6 [wtD k R H ev,kdD k,.tup (R.map rlD),.lst (H.map hnD),.lst (ev.map D.bl)]=[↑(wtD k R H ev),↑(kdD k),↑(.tup (R.map rlD)),↑(.lst (H.map hnD)),↑(.lst (ev.map D.bl)),none]:=rfl;rw[hst];have hH:=g.2.1
 have hi:∀r∈R,In k 60 r/\sz r<=1000:=λr hr=>⟨(g.i r hr).1,by have:=(g.2.2 r hr).2;lia⟩
 have m1:=y6z (Yah k R) (.tup (H.map hnD)) (.lst (ev.map D.bl));rw[Yads H ev g.r]at m1;have m2:=Yz6 (k:=k) (R:=R) (ev:=ev) (n:=H.length) g.r (by lia);have q1:=Yaas true k (lfs k 0 ev R);have m3:=Yo8 hi (by have:=g.1;lia) hH (by lia:ev.length<=60);have m4:=Yp3 (ev:=ev) hi (by have:=g.1;lia) hH (by lia);have m5:=Yp2 (Ylb (ev:=ev) hi hH (by lia)) (by have:=Yl4 k R H ev;have:=g.1;lia);have m6:=Yoc (Yah k R) (.tup (H.map hnD)) (.lst (ev.map D.bl));rw[Yn7]at m6;have q2:=Yaee true ev
 have c0:=Ycu (fe:=Yfi) (r:=[]) (enc:=D.bl) (λ_=>D.bl true) (l:=ev) (λb _=>by
  have:isiD "bool" (.bl b)=some true:=rfl
  simp[Yfi,this])
 have b0:=Yl3 (λ_:Bool=>true) ev;have m7:=Yyh (Yah k R) (.tup (H.map hnD)) (.lst (ev.map D.bl));rw[y3o he]at m7;have it:∀l:AQ,isiD "tuple" (.tup l)=some true:=λ_=>rfl
 have q3:eqM true (.str (Ygt (Yal k R H ev))) (.str (Ygt (Yal k R H ev)))=some false:=by rw[Yob];simp
 have hlen:lenC [.lst (ev.map D.bl)]=some (.int (ev.length:Int)):=by simp
 have hlen2:lenC [.lst (H.map hnD)]=some (.int (H.length:Int)):=by simp
 have hall:allC [.lst (ev.map λ_=>D.bl true)]=some (.bl true):=by simp[b0]
 have hlf:Yy1 [.tup (ev.map D.bl)]=some (ev.map D.bl):=by simp
 have hat:ev.length<H.length->atI (H.map hnD) (ev.length:Int)=some (Yo6 H ev):=λh=>by
  rw[Yn6 h,Yiz,Yjs h];rfl
 have q4:ev.length<H.length->eqM false (Yo6 H ev) (Yo6 H ev)=some true:=λh=>by
  rw[Yn6 h];unfold hnD;rw[Yob];simp
 have q5:¬ev.length<H.length->isN false (Yo6 H ev) .non=some true:=λh=>by
  rw[Ywi h];rfl
 generalize Yo6 H ev=tq,Ygt (Yal k R H ev)=pg,(Yal k R H ev).map wD=LL,Yah k (lfs k 0 ev R)=bk at *;have hw:wtD k R H ev=watD (Yah k R) (.tup (H.map hnD)) (.lst (ev.map D.bl)):=rfl;rw[hw]at m3 ⊢;generalize watD (Yah k R) (.tup (H.map hnD)) (.lst (ev.map D.bl))=wq,R.map rlD=RR at *;generalize H.map hnD=HD at *;generalize hED:ev.map D.bl=ED at *;generalize (ev.map λ_=>D.bl true)=TT at *;by_cases hl:ev.length<H.length
 ·have h1:¬((ev.length:Int)=(H.length:Int)):=by lia
  simp[Yi6,m1,m2,q1,m3,m4,m5,q3,m6,it,hlf,q2,c0,capR,hall,hlen,hlen2,h1,m7,hat hl,q4 hl]
 ·have h1:((ev.length:Int)=(H.length:Int)):=by lia
  simp[Yi6,m1,m2,q1,m3,m4,m5,q3,m6,it,hlf,q2,c0,capR,hall,hlen,hlen2,h1,m7,q5 hl]
end
section
variable {k:Kd}{R:List Rl}{H ev:AH}{t:Hs}{l:Addr}
theorem y7x{c:Bool}(hl:t l=some (.bls (ev++[c]))){W:D->Hs->Prop}(kk:W (.bl c) (pt t l (some (.bls ev)))):Ydn [wA k R H l] t W:=by
 unfold Ydn runH;have hst:Yq 1 [wA k R H l]=[↑(wA k R H l)]:=rfl;rw[hst];unfold Yln;refine y6x ?_ ?_
 ·show(b2 (cC (Yg (b1 (getV 0) (fldD "Watch" "truths")) aNil) lenC) (kD (.int 0)) (eqM false)) (thR t _)=_
  have:thR t [↑(wA k R H l)]=[↑(wtD k R H (ev++[c]))]:=by
   show([↑(thD t (watD _ _ _))]:Ro)=_;rw[Yur hl]
  rw[this]
  have hz:¬(((ev.length:Int)+1)=0):=by lia
  simp[hz]
 ·exact⟨_,_,l,ev,c,rfl,hl,kk⟩
end
def ro(ns:AG)(k:Kd)(R:List Rl)(H EV:AH)(LL TT:AQ)(a b:Addr)(z:AR):Ro:=[↑(.scr ns),↑(kdD k),↑(.tup (R.map rlD)),↑(.lst (H.map hnD)),↑(.lst (EV.map D.bl)),↑(.lst LL),↑(.lst TT),↑(wA k R H a),↑(wA k R H b),z]
section
variable {ns:AG}{k:Kd}{R:List Rl}{H EV x y:AH}{LL TT:AQ}{a b:Addr}{z:AR}{t:Hs}
theorem Ywu(ha:t a=some (.bls x))(hb:t b=some (.bls y)):thR t (ro ns k R H EV LL TT a b z)=[↑(.scr ns),↑(kdD k),↑(.tup (R.map rlD)),↑(.lst (H.map hnD)),↑(.lst (EV.map D.bl)),↑(thD t (.lst LL)),↑(thD t (.lst TT)),↑(wtD k R H x),↑(wtD k R H y),z.map (thB t)]:=by
 show([↑(thD t (.scr ns)),↑(thD t (kdD k)),↑(thD t (.tup (R.map rlD))),↑(thD t (.lst (H.map hnD))),↑(thD t (.lst (EV.map D.bl))),↑(thD t (.lst LL)),↑(thD t (.lst TT)),↑(thD t (watD _ _ _)),↑(thD t (watD _ _ _)),z.map (thB t)]:Ro)=_
 have e1:thD t (.scr ns)=.scr ns:=by rw[thD]
 have e2:thD t (.tup (R.map rlD))=.tup (R.map rlD):=by rw[thD,Yhk (Yad8 t)]
 have e3:thD t (.lst (H.map hnD))=.lst (H.map hnD):=by rw[thD,Yhk (Yad4 t)]
 have e4:thD t (.lst (EV.map D.bl))=.lst (EV.map D.bl):=by rw[thD,Yhk (Yad3 t)]
 rw[e1,e2,e3,e4,Yad9,Yur ha,Yur hb]
theorem ask7(g:OkG k R H)(hx:x.length<=H.length)(ha:t a=some (.bls x))(hb:t b=some (.bls y)){FL:AV}(hF:FL (thR t (ro ns k R H EV LL TT a b z))=some (.lst (x.map D.bl))) :
 rdT (notT (b1 (cC (Yg (getV 7) (Yg (getV 1) (Yg (getV 2) (Yg (getV 3) (Yg FL aNil))))) Ya9) truD)) (ro ns k R H EV LL TT a b z) t=some false:=by
 have hr:=y35 g hx;show notT _ (thR t _)=_;rw[Ywu ha hb]at hF ⊢;generalize thD t (.lst LL)=q1,thD t (.lst TT)=q2,wtD k R H x=w1,wtD k R H y=w2,R.map rlD=RR,H.map hnD=HD,EV.map D.bl=ED at *;simp[hF,hr]
theorem Yaef(g:OkG k R H)(hx:y.length<=H.length)(ha:t a=some (.bls x))(hb:t b=some (.bls y)){FL:AV}(hF:FL (thR t (ro ns k R H EV LL TT a b z))=some (.lst (y.map D.bl))) :
 (cC (Yg (getV 8) (Yg (getV 1) (Yg (getV 2) (Yg (getV 3) (Yg FL aNil))))) Ya9) (thR t (ro ns k R H EV LL TT a b z))=some (.bl true):=by
 have hr:=y35 g hx;rw[Ywu ha hb]at hF ⊢;generalize thD t (.lst LL)=q1,thD t (.lst TT)=q2,wtD k R H x=w1,wtD k R H y=w2,R.map rlD=RR,H.map hnD=HD,EV.map D.bl=ED at *;simp[hF,hr]
theorem Yus(ha:t a=some (.bls x))(hb:t b=some (.bls y)):getV 4 (thR t (ro ns k R H EV LL TT a b z))=some (.lst (EV.map D.bl)):=by
 rw[Ywu ha hb];rfl
theorem y36(hb0:a≠b){m:Nat}{Q:OutW Hs->Prop}(kk:∀t',t' a=some (.bls x)->t' b=some (.bls (EV.take m))->Q (.nx (ro ns k R H EV LL TT a b (some (.sh (.int m)))) t')):∀(d:Nat) (t:Hs),m+d<=EV.length->t a=some (.bls x)->t b=some (.bls (EV.take (m+d)))->
 Ypm (rdT (b2 (cC (Yg (b1 (getV 8) (mthD "Watch" "evening" Yaa)) aNil) lenC) (getC 9) gtI)) Yr4 (d+1) (ro ns k R H EV LL TT a b (some (.sh (.int m)))) t Q:=by
 have hev:∀(y:AH) (t:Hs),t a=some (.bls x)->t b=some (.bls y)->rdT (b2 (cC (Yg (b1 (getV 8) (mthD "Watch" "evening" Yaa)) aNil) lenC) (getC 9) gtI) (ro ns k R H EV LL TT a b (some (.sh (.int m)))) t=some (decide ((m:Int)<(y.length:Int))):=λy t ha hb=>by
  show(b2 _ _ gtI) (thR t _)=_;rw[Ywu ha hb];have m6:=Yoc (Yah k R) (.tup (H.map hnD)) (.lst (y.map D.bl));rw[Yn7]at m6
  have hlen:lenC [.tup (y.map D.bl)]=some (.int (y.length:Int)):=by simp
  have e9:thB t (.sh (.int (m:Int)))=.sh (.int (m:Int)):=by show B.sh (thD t (.int (m:Int)))=_;rw[y32]
  rw[Option.map_some,e9];generalize thD t (.lst LL)=q1,thD t (.lst TT)=q2 at *;have hw:wtD k R H y=watD (Yah k R) (.tup (H.map hnD)) (.lst (y.map D.bl)):=rfl;rw[hw];generalize watD (Yah k R) (.tup (H.map hnD)) (.lst (y.map D.bl))=wq,wtD k R H x=w1 at *;generalize y.map D.bl=YD at *;simp[m6,hlen]
 intro d
 induction d with
 | zero=>
   intro t hm ha hb;refine⟨false,?_,λz=>(nomatch z),λ_=>kk t ha hb⟩;rw[hev _ t ha hb,List.length_take]
   have:¬((m:Int)<((min (m+0) EV.length:Nat):Int)):=by lia
   rw[decide_eq_false this]
 | succ d ih=>
   intro t hm ha hb
   obtain⟨c,hc⟩:∃c,EV.take (m+(d+1))=EV.take (m+d)++[c]:=by
    refine⟨EV[m+d]'(by lia),?_⟩;rw[show m+(d+1)=(m+d)+1 by lia,List.take_succ,qq (by lia)];rfl
   refine⟨true,?_,λ_=>?_,λz=>(nomatch z)⟩
   ·rw[hev _ t ha hb,List.length_take]
    have:((m:Int)<((min (m+(d+1)) EV.length:Nat):Int)):=by lia
    simp[this]
   ·unfold Yr4
    rw[hc]at hb;refine⟨wks,_,λ_ t'=>t'=pt t b (some (.bls (EV.take (m+d)))),rfl,by decide,y7x hb rfl,λe t' ht=>?_⟩;subst ht;exact ih _ (by lia) (by rw[Ybn hb0];exact ha) Yas
end
section
variable {ns:AG}{k:Kd}{R R':List Rl}{H EV x y:AH}{LL TT:AQ}{a b:Addr}{t:Hs}
abbrev yes:OutW Hs->Prop:=fun
 | .rt (.bl true) _=>True
 | _=>False
theorem Yaeg(l:AH)(c:Bool):cutD ((l++[c]).map D.bl) none (some (-1))=l.map D.bl:=by
 unfold cutD
 have h2:HT.sIx ((l++[c]).map D.bl).length ((l++[c]).map D.bl).length (some (-1))=l.length:=by
  show(if (-1:Int)<0 then ((-1:Int)+(((l++[c]).map D.bl).length:Int)).toNat else min (-1:Int).toNat ((l++[c]).map D.bl).length)=_;rw[if_pos (by decide)];simp;lia
 rw[h2,HT.sIx_none];simp
theorem Yaat(n:Nat)(v:Int):∃m:Nat,m<=n/\(n:Int)-v/21%((n:Int)+1)=(m:Int):=by
 have g1:=Int.emod_nonneg (v/21) (show((n:Int)+1)≠0 by lia);have g2:=Int.emod_lt_of_pos (v/21) (show(0:Int)<(n:Int)+1 by lia);generalize v/21%((n:Int)+1)=w at *;exact⟨((n:Int)-w).toNat,by lia,by lia⟩
theorem Yaau(g:OkG k R H)(he:EV.length<=H.length)(hab:a≠b)(ha:t a=some (.bls x))(hb:t b=some (.bls EV)):Yr5 (ro ns k R H EV LL TT a b none) t yes:=by
 unfold Yr5;refine y6x ?_ ?_
 ·have h:=Yaef (ns:=ns) (LL:=LL) (TT:=TT) (z:=none) g he ha hb (FL:=getV 4) (Yus ha hb)
  show notT (b1 _ truD) (thR t _)=_;simp only[y9f,y9e];rw[h];rfl
 unfold Yx0;obtain⟨m,hm,em⟩:=Yaat EV.length (ns.getD 1 0);have c1:=Yx5 ns 1 1 rfl
 have hlen:lenC [.lst (EV.map D.bl)]=some (.int (EV.length:Int)):=by simp
 refine Ydx (ρ':=ro ns k R H EV LL TT a b (some (.sh (.int m)))) ?_ ?_
 ·unfold ro
  generalize ns.getD 1 0=v,EV.map D.bl=ED,R.map rlD=RR,H.map hnD=HD at *
  have hz:¬((EV.length:Int)+1=0):=by lia
  simp[c1,hlen,em,hz]
 unfold Yxz;refine⟨EV.length-m+1,y36 (x:=x) hab (λt' h1 h2=>?_) (EV.length-m) t (by lia) ha (by rw[show m+(EV.length-m)=EV.length by lia,List.take_length];exact hb)⟩;unfold Yxy;refine⟨.bl true,?_,rfl,trivial⟩;refine Yaef (y:=EV.take m) g (by rw[List.length_take];lia) h1 h2 ?_;rw[Ywu h1 h2]
 have e9:thB t' (.sh (.int (m:Int)))=.sh (.int (m:Int)):=by show B.sh (thD t' (.int (m:Int)))=_;rw[y32]
 rw[Option.map_some,e9];have hc:=Ysd (EV.map D.bl) m (by simpa using hm);rw[<-List.map_take]at hc;generalize thD t' (.lst LL)=q1,thD t' (.lst TT)=q2,wtD k R H x=w1,wtD k R H (EV.take m)=w2,R.map rlD=RR,H.map hnD=HD,EV.map D.bl=ED at *;simp[hc]
theorem Yaf6(g:OkG k R H)(he:EV.length<=H.length)(hab:a≠b)(ha:t a=some (.bls EV))(hb:t b=some (.bls EV)):Yr6 (ro ns k R H EV LL TT a b none) t yes:=by
 unfold Yr6;refine y6x (ask7 g he ha hb (Yus ha hb)) ?_;unfold Yx1
 have hlen:lenC [.lst (EV.map D.bl)]=some (.int (EV.length:Int)):=by simp
 have hlenH:lenC [.lst (H.map hnD)]=some (.int (H.length:Int)):=by simp
 by_cases hlt:EV.length<H.length
 ·refine⟨true,?_,λ_=>?_,λz=>(nomatch z)⟩
  ·show(b2 _ _ ltI) (ro ns k R H EV LL TT a b none)=_
   unfold ro;generalize EV.map D.bl=ED,R.map rlD=RR,H.map hnD=HD at *
   have:((EV.length:Int)<(H.length:Int)):=by lia
   simp[hlen,hlenH,this]
  ·refine Yaf2 ?_
   refine⟨wA k R H a,[.bl true],"Watch",wks,Ybl,λ_ t2=>t2=pt t a (some (.bls (EV++[true]))),rfl,rfl,rfl,by decide,rfl,Yyi ha hlt g.2.1 g.r true rfl,λd t2 hd2=>?_⟩;subst hd2
   have hb':pt t a (some (.bls (EV++[true]))) b=some (.bls EV):=by rw[Ybn hab.symm];exact hb
   refine⟨false,ask7 (x:=EV++[true]) g (by simp;lia) Yas hb' ?_,λz=>(nomatch z),λ_=>?_⟩
   ·rw[Ywu Yas hb']
    have hc:=Yfy (a:=EV.map D.bl) (b:=[.bl true]) (by have:=g.2.1;simp;lia)
    have e2:(EV++[true]).map D.bl=EV.map D.bl++[.bl true]:=by simp
    rw[e2];generalize wtD k R H (EV++[true])=w1,wtD k R H EV=w2,R.map rlD=RR,H.map hnD=HD,EV.map D.bl=ED at *;simp[hc]
   ·exact Yaau g he hab Yas hb'
 ·refine⟨false,?_,λz=>(nomatch z),λ_=>?_⟩
  ·show(b2 _ _ ltI) (ro ns k R H EV LL TT a b none)=_
   unfold ro;generalize EV.map D.bl=ED,R.map rlD=RR,H.map hnD=HD at *
   have:¬((EV.length:Int)<(H.length:Int)):=by lia
   simp[hlen,hlenH,this]
  ·have hne:=y3s (Ywl EV) true
   rcases List.eq_nil_or_concat EV with rfl|⟨E0,c,rfl⟩
   ·refine⟨false,?_,λz=>(nomatch z),λ_=>?_⟩
    ·show(b2 _ _ (eqM true)) (ro ns k R H [] LL TT a b none)=_
     unfold ro;simp at hne;simp[hne]
    ·exact Yaau g he hab ha hb
   ·rw[List.concat_eq_append]at *
    refine⟨true,?_,λ_=>?_,λz=>(nomatch z)⟩
    ·show(b2 _ _ (eqM true)) (ro ns k R H (E0++[c]) LL TT a b none)=_
     have hz:((E0++[c]).map D.bl).isEmpty=false:=by simp
     rw[hz]at hne;unfold ro;generalize (E0++[c]).map D.bl=ED,R.map rlD=RR,H.map hnD=HD at *;simp at hne;simp[hne]
    ·refine⟨wks,_,λd t2=>d=.bl c/\t2=pt t a (some (.bls E0)),rfl,by decide,y7x ha ⟨rfl,rfl⟩,λd t2 hd2=>?_⟩
     obtain⟨rfl,rfl⟩:=hd2
     have hb':pt t a (some (.bls E0)) b=some (.bls (E0++[c])):=by rw[Ybn hab.symm];exact hb
     refine⟨.bl c,false,?_,?_,λz=>(nomatch z),λ_=>⟨false,ask7 (x:=E0) g (by simp at he;lia) Yas hb' ?_,λz=>(nomatch z),λ_=>?_⟩⟩
     ·show(b2 _ _ ixD) (ro ns k R H (E0++[c]) LL TT a b none)=_
      have hat:atI ((E0++[c]).map D.bl) (-1)=some (.bl c):=by
       rw[wt];exact Ylz (E0.map D.bl) (.bl c)
      unfold ro;generalize (E0++[c]).map D.bl=ED,R.map rlD=RR,H.map hnD=HD at *;simp[hat]
     ·rw[Yjp (by simp) (by simp)]
      simp
     ·rw[Ywu Yas hb']
      have hc:=Yaeg E0 c;generalize wtD k R H E0=w1,wtD k R H (E0++[c])=w2,R.map rlD=RR,H.map hnD=HD,(E0++[c]).map D.bl=ED at *;simp[hc]
     ·exact Yaau g he hab Yas hb'
end
section
variable {ns:AG}{k:Kd}{R R':List Rl}{H EV:AH}{kd:D}{RR HD ED LL L2 rn:AQ}{nn:Int}
def wo:AK ⊕ Rl->AK
 | .inl w=>w
 | .inr r=>Yac r
def Tw:AK ⊕ Rl->AK->Prop
 | .inl w,w'=>w'=w
 | .inr r,w'=>∃r',TR r r'/\w'=Yac r'
def Fit(k:Kd):AK ⊕ Rl->Prop
 | .inl w=>∃x l,w=x::l/\¬x=T "rule"
 | .inr r=>In k 60 r/\sz r<=60
theorem Yaf7{w:AK ⊕ Rl}(h:Fit k w)(c:Int):∃w',Tw w w'/\Yaz [kdD k,wD (wo w),.int c]=some (wD w'):=by
 cases w with
 | inl w=>
   obtain⟨x,l,rfl,hx⟩:=h;exact⟨_,rfl,Yws hx c⟩
 | inr r=>
   obtain⟨r',h3,h4⟩:=y6w h.1 (by have:=h.2;lia) c;exact⟨_,⟨r',h3,rfl⟩,h4⟩
theorem Yyk:∀{R:List Rl}{M:List AK},Al Tw (R.map Sum.inr) M->∃R',Al TR R R'/\M=R'.map Yac
 | [],[],_=>⟨[],trivial,rfl⟩
 | r::R,m::M,h=>by
   obtain⟨⟨r',h1,rfl⟩,h2⟩:=h;obtain⟨R',h3,rfl⟩:=Yyk h2;exact⟨r'::R',⟨h1,h3⟩,rfl⟩
 | [],_::_,h=>h.elim
 | _::_,[],h=>h.elim
def Ysi(k:Kd)(R:List Rl)(H ev:AH):List (AK ⊕ Rl):=.inl [T "kind",kS k]::.inl (Yao (T "hands") (H.map Yam))::(R.map Sum.inr++if ev=[]then []else [.inl (Yao (T "settled") (ev.map Ycr))])
theorem Yyl(k:Kd)(R:List Rl)(H ev:AH):(Ysi k R H ev).map wo=Yal k R H ev:=by
 unfold Ysi Yal;rw[Qa,Qa,wt,Qd];have:(wo ∘ Sum.inr:Rl->AK)=Yac:=rfl;rw[this];by_cases h:ev=[]
 ·rw[if_pos h,if_pos h];rfl
 ·rw[if_neg h,if_neg h];rfl
theorem y37(hR:∀r∈R,In k 60 r/\sz r<=60):∀w∈Ysi k R H EV,Fit k w:=by
 obtain⟨_,_,n3,n4,n5⟩:=Yyj;intro w hw;unfold Ysi at hw;rcases qt hw with rfl|hw
 ·exact⟨_,_,rfl,n3⟩
 rcases qt hw with rfl|hw
 ·obtain⟨l,hl⟩:=Yh4 (T "hands") (H.map Yam)
  exact⟨_,l,hl,n4⟩
 rcases qv hw with hw|hw
 ·obtain⟨r,hr,rfl⟩:=qx hw
  exact hR r hr
 ·split at hw
  ·cases hw
  ·rw[List.mem_singleton.mp hw]
   obtain⟨l,hl⟩:=Yh4 (T "settled") (EV.map Ycr);exact⟨_,l,hl,n5⟩
theorem y60{M:List AK}(h:Al Tw (Ysi k R H EV) M):∃R',Al TR R R'/\M=Yal k R' H EV:=by
 unfold Ysi at h
 match M,h with
 | a::b::M,⟨h1,h2,h3⟩=>
   obtain⟨x',y',e,h4,h5⟩:=Al.app h3;obtain⟨R',h6,e6⟩:=Yyk h4;refine⟨R',h6,?_⟩;have h1:a=[T "kind",kS k]:=h1;have h2:b=Yao (T "hands") (H.map Yam):=h2;unfold Yal;rw[h1,h2,e,e6]
   congr 3
   by_cases h0:EV=[]
   ·rw[if_pos h0]at h5 ⊢
    match y',h5 with
    | [],_=>rfl
   ·rw[if_neg h0]at h5 ⊢
    match y',h5 with
    | [z],⟨hz,_⟩=>
      have hz:z=Yao (T "settled") (EV.map Ycr):=hz;rw[hz]
theorem Ysj(hR:∀r∈R,In k 60 r/\sz r<=60)(hl:R.length<=20):∃R',Al TR R R'/\Yed (gSet 0) tY Yh0 [none,↑(kdD k),↑(.lst ((Yal k R H EV).map wD)),↑(.scr ns)] ((List.range' 0 (Yal k R H EV).length).map λn:Nat=>D.int (n:Int))=some ((Yal k R' H EV).map wD):=by
 obtain⟨L',h1,h2⟩:=Yyf (fe:=Yh0) (r:=[↑(kdD k),↑(.lst ((Yal k R H EV).map wD)),↑(.scr ns)]) (enc:=wD) (P:=Tw) (Ysi k R H EV) 0 (λj hj=>by
  have hc:=Yx5 ns (3+j) (3+(j:Int)) (by lia)
  have hw:atI ((Yal k R H EV).map wD) (j:Int)=some (wD (wo (Ysi k R H EV)[j])):=by
   rw[<-Yyl,Qd,Yiz,Yjs hj];rfl
  obtain⟨w',p1,p2⟩:=Yaf7 (y37 hR _ (List.getElem_mem hj)) (ns.getD (3+j) 0/3);refine⟨w',p1,?_⟩;rw[Nat.zero_add];generalize (Yal k R H EV).map wD=LL,ns.getD (3+j) 0=v at *
  simp[Yh0,hc,hw,p2])
 obtain⟨R',h3,rfl⟩:=y60 h1;refine⟨R',h3,?_⟩
 have e:(Ysi k R H EV).length=(Yal k R H EV).length:=by rw[<-Yyl,qf]
 rw[e]at h2;exact h2
theorem run0(hd:Yc5 [.scr ns]=some (.lst [kd,.tup RR,.lst HD,.lst ED])):y6h [↑(.scr ns),none,none,none,none,none,none,none,none,none]=Yr8 [↑(.scr ns),↑kd,↑(.tup RR),↑(.lst HD),↑(.lst ED),none,none,none,none,none]:=by
 simp[y6h,hd,Yxs]
theorem run1(h:Yc6 [kd,.tup RR,.lst HD,.lst ED]=some (.lst LL)):Yr8 [↑(.scr ns),↑kd,↑(.tup RR),↑(.lst HD),↑(.lst ED),none,none,none,none,none]=Yr7 [↑(.scr ns),↑kd,↑(.tup RR),↑(.lst HD),↑(.lst ED),↑(.lst LL),none,none,none,none]:=by
 simp[Yr8,h]
theorem run2(h1:lenC [.lst LL]=some (.int nn))(h2:rng1 [.int nn]=some rn)(h3:Yed (gSet 0) tY Yh0 [none,↑kd,↑(.lst LL),↑(.scr ns)] rn=some L2):Yr7 [↑(.scr ns),↑kd,↑(.tup RR),↑(.lst HD),↑(.lst ED),↑(.lst LL),none,none,none,none]=Ywa [↑(.scr ns),↑kd,↑(.tup RR),↑(.lst HD),↑(.lst ED),↑(.lst LL),some (.ow L2),none,none,none]:=by
 simp[Yr7,h1,h2,h3,capR]
theorem Yaav(hd:Yc5 [.scr ns]=some (.lst [kd,.tup RR,.lst HD,.lst ED]))(h:Yc6 [kd,.tup RR,.lst HD,.lst ED]=some (.lst LL))(h1:lenC [.lst LL]=some (.int nn))(h2:rng1 [.int nn]=some rn)(h3:Yed (gSet 0) tY Yh0 [none,↑kd,↑(.lst LL),↑(.scr ns)] rn=some L2)
 (hx:y23 Yx3 [↑(.scr ns),↑kd,↑(.tup RR),↑(.lst HD),↑(.lst ED),↑(.lst LL),some (.ow L2),none,none,none]=some (.rt (.bl true))):(y6h [↑(.scr ns),none,none,none,none,none,none,none,none,none]).bind endB=some (.bl true):=by
 rw[run0 hd,run1 h,run2 h1 h2 h3,Ywa,hx];rfl
end
theorem Yaeh{k:Kd}{n:Nat}(hn:n<=60){r:Rl}(hi:In k n r)(hs:Srt r):sz r<=60:=by
 cases r with
 | ei l=>have:=hs.1;show l.length<=60;lia
 | su b o=>exact Qb (y2v hs hi.2) hn
 | im b h=>exact Qb (y2v hs hi.2.1) hn
theorem law_true(ns:AG)(hns:ns.length<=63):Ywb [.scr ns]=some (.bl true):=by
 obtain⟨k,n,R,H,EV,hn,rfl,hE,hl,hR,hd⟩:=Yaad ns hns
 have g:OkG k R H:=⟨hl,hn,λr hr=>⟨hR r hr,Yaeh hn (hR r hr).1 (hR r hr).2⟩⟩
 have hi:∀r∈R,In k 60 r/\sz r<=60:=λr hr=>⟨(g.i r hr).1,(g.2.2 r hr).2⟩
 obtain⟨R',hT,hcm⟩:=Ysj (ns:=ns) (H:=H) (EV:=EV) hi hl;have hlr:=Yp3 (ev:=EV) (λr hr=>⟨(hi r hr).1,by have:=(hi r hr).2;lia⟩:∀r∈R,In k 60 r/\sz r<=1000) (by lia) hn (by lia);have hi':∀r∈R',In k 60 r/\sz r<=60:=y33 (P:=λr=>In k 60 r/\sz r<=60) (λtr p=>⟨tr.inn p.1,by rw[tr.sz];exact p.2⟩) hT hi
 have hl':R'.length<=20:=by rw[hT.len];exact hl
 have hpg:=Yp2 (Ylb (ev:=EV) (λr hr=>⟨(hi' r hr).1,by have:=(hi' r hr).2;lia⟩:∀r∈R',In k 60 r/\sz r<=1000) hn (by lia)) (by have:=Yl4 k R' H EV;lia);rw[Ywb,y9 (by rfl)];have hst:Yq 10 [.scr ns]=[↑(.scr ns),none,none,none,none,none,none,none,none,none]:=rfl;rw[hst]
 have hx:y23 Yx3 [↑(.scr ns),↑(kdD k),↑(.tup (R.map rlD)),↑(.lst (H.map hnD)),↑(.lst (EV.map D.bl)),↑(.lst ((Yal k R H EV).map wD)),some (.ow ((Yal k R' H EV).map wD)),none,none,none]=some (.rt (.bl true)):=by
  unfold y23;refine y2y ?_;unfold Yx3;refine⟨[.str (Ygt (Yal k R' H EV))],?_,λd t'=>∃a,d=wA k R H a/\t' a=some (.bls EV),y7w g hE hT λa t' h1 h2 h3=>⟨a,rfl,h2⟩,λd t1 hd1=>?_⟩
  ·generalize (Yal k R' H EV).map wD=LL at *
   generalize R.map rlD=RR,H.map hnD=HD,EV.map D.bl=ED at *;simp[frz,frz1,hpg]
  obtain⟨a,rfl,ha⟩:=hd1;unfold Yx2;refine⟨[.str (Ygt (Yal k R' H EV))],?_,λd t'=>∃b,d=wA k R H b/\a≠b/\t' a=some (.bls EV)/\t' b=some (.bls EV),y7w g hE hT λb t' h1 h2 h3=>?_,λd t2 hd2=>?_⟩
  ·generalize (Yal k R' H EV).map wD=LL at *
   generalize R.map rlD=RR,H.map hnD=HD,EV.map D.bl=ED at *;simp[frz,frz1,hpg]
  ·have hab:a≠b:=λz=>by rw[<-z,ha]at h1;cases h1
   exact⟨b,rfl,hab,by rw[h3 a hab];exact ha,h2⟩
  ·obtain⟨b,rfl,hab,h1,h2⟩:=hd2
   exact Yaf6 g hE hab h1 h2
 have hrl:=Yl4 k R H EV;have hrn:=y34 (Yal k R H EV).length (by lia)
 have hlen:lenC [.lst ((Yal k R H EV).map wD)]=some (.int ((Yal k R H EV).length:Int)):=by simp
 exact Yaav hd hlr hlen hrn hcm hx
end Lw
end
namespace Op
open PySem PySem.W PyProof.Rows PySem.Calls
set_option maxRecDepth 100000
noncomputable abbrev pg:Program:=PySem.Challenge.pw_duskbook_k56_pages_read
noncomputable def topm(i j:Nat):Stmt:=L2.inClass (Lw.top i) j
noncomputable abbrev en(P:Params)(x:Str)(t:Nat)(v:Value):DictEntry:=⟨PyData.keyHash P x,.str x t,v⟩
noncomputable abbrev fn(name qual:Str)(s:Stmt)(dV kV doc pm:Value)(an:Option Addr)(cdv ct:Value)(g b:Nat):Data:=.func ⟨name,qual,L2.defArgs s,.stmts (L2.defBody s),L2.defScope s,g,[],dV,kV,doc,pm,an,cdv,ct,b⟩
noncomputable abbrev tu(l:AC):Obj:=⟨.type "tuple",none,.seq ⟨l⟩ 0,#[]⟩
noncomputable abbrev fl:Obj:=⟨.none,none,.fields #[],#[]⟩
noncomputable abbrev oZ(x:Str)(i:Nat):Obj:=⟨.none,none,fn x x (Lw.top i) .none .none .none .none none .none .none 0 0,#[]⟩
noncomputable abbrev oF(x:Str)(i:Nat)(pm:Value)(c:Nat):Obj:=⟨.type "function",none,.func (fnOf x x (L2.defArgs (Lw.top i)) (L2.defBody (Lw.top i)) (L2.defScope (Lw.top i)) .none .none .none pm none (.ref c) .none),#[]⟩
noncomputable abbrev oM(x q:Str)(i j:Nat)(pm:Value)(c:Nat):Obj:=⟨.type "function",none,.func (fnOf x q (L2.defArgs (L2.inClass (Lw.top i) j)) (L2.defBody (L2.inClass (Lw.top i) j)) (L2.defScope (L2.inClass (Lw.top i) j)) .none .none .none pm none (.ref c) .none),#[]⟩
noncomputable abbrev oC(x:Str)(t l n b:Nat)(u v:Value)(c k e:Nat):Obj:=⟨.type "code",none,.fields #[.str x t,.str x (t+1),.str "/claim/cut.py" (t+2),.int (.ofNat l) 0,.int (.ofNat n) 0,.int 0 0,.int 0 0,.int 3 0,.ref b,.bool true,.int (.ofNat k) 0,.ref (b+1),.none,u,v,.ref c,.int (.ofNat e) 0,.int (.ofNat l) 0,.str "/claim/cut.py" (e+1)],#[]⟩
noncomputable abbrev p0:Value:=(.str "duskbook.books" 303)
noncomputable abbrev p1:Value:=(.str "duskbook.watches" 486)
noncomputable abbrev p2:Value:=(.str "duskbook.pages" 579)
noncomputable abbrev p3:Value:=(.str "law_duskbook_k56_pages_read" 753)
noncomputable def et0(P:Params):List DictEntry:=[en P "__doc__" 166 .none,en P "__package__" 167 .none,en P "__loader__" 168 (.builtin "__main__.__loader__#opaque"),en P "__spec__" 169 .none,en P "__annotations__" 170 (.ref 6),en P "__builtins__" 171 (.ref 4),en P "__file__" 173 (.str "/claim/cut.py" 172),en P "__cached__" 174 .none,en P "DuskError" 206 (.ref 24),en P "NoBook" 222 (.ref 37),en P "NoHands" 238 (.ref 49),en P "Over" 254 (.ref 61),en P "NoLight" 270 (.ref 73),en P "NoneSettled" 286 (.ref 85),en P "NoPage" 302 (.ref 97),en P "KINDS" 309 (.ref 100),en P "BEACON_COUNT" 311 (.int (60) 310),en P "MOST_RULES" 313 (.int (60) 312),en P "MOST_SAYINGS" 315 (.int (2) 314),en P "is_beacon" 322 (.ref 107),en P "checked_beacon" 329 (.ref 114),en P "checked_truth" 336 (.ref 121),en P "checked_beacons" 342 (.ref 126),en P "either_made" 348 (.ref 131),en P "sum_made" 355 (.ref 138),en P "if_made" 363 (.ref 145),en P "rule_made" 371 (.ref 152),en P "book_made" 377 (.ref 157),en P "either_holds" 383 (.ref 162),en P "sum_holds" 389 (.ref 167),en P "if_holds" 395 (.ref 172),en P "rule_holds" 404 (.ref 179),en P "broken_rules" 410 (.ref 184),en P "holds" 418 (.ref 191),en P "beacons_in" 424 (.ref 196),en P "beacons_of" 433 (.ref 203),en P "without" 439 (.ref 208),en P "either_left" 445 (.ref 213),en P "sum_left" 456 (.ref 220),en P "if_left" 466 (.ref 227)]
noncomputable def et1(P:Params):List DictEntry:=[en P "rule_left" 476 (.ref 234),en P "left_behind" 482 (.ref 239),en P "HANDS" 485 (.ref 240),en P "is_hand" 494 (.ref 247),en P "check_hands" 500 (.ref 252),en P "Watch" 578 (.ref 311),en P "FIGURES" 582 (.str "0123456789" 581),en P "MOST_FIGURES" 584 (.int (3) 583),en P "LETTERS" 591 (.ref 316),en P "HANDS_BY_LETTER" 598 (.ref 317),en P "TRUTHS_BY_SIGN" 603 (.ref 318),en P "TRUTHS_BY_MARK" 608 (.ref 319),en P "ODDS_BY_WORD" 613 (.ref 320),en P "saying_written" 621 (.ref 327),en P "rule_written" 627 (.ref 332),en P "signs_written" 635 (.ref 339),en P "page_written" 641 (.ref 344),en P "number_read" 647 (.ref 349),en P "beacon_read" 655 (.ref 356),en P "saying_read" 663 (.ref 363),en P "hand_read" 670 (.ref 370),en P "truth_read" 677 (.ref 377),en P "each_read" 683 (.ref 382),en P "sum_read" 690 (.ref 389),en P "if_read" 699 (.ref 396),en P "rule_read" 707 (.ref 403),en P "kind_read" 714 (.ref 410),en P "hands_read" 721 (.ref 417),en P "settled_read" 728 (.ref 424),en P "rows_read" 734 (.ref 429),en P "watch_made" 746 (.ref 436),en P "page_read" 752 (.ref 441),en P "_law_cell" 762 (.ref 448),en P "_law_mixed" 770 (.ref 455),en P "_law_rule" 787 (.ref 462),en P "_law_drawn" 793 (.ref 467),en P "_law_saying_word" 800 (.ref 474),en P "_law_rule_words" 806 (.ref 479),en P "_law_rows" 812 (.ref 484),en P "_law_page" 818 (.ref 489)]
noncomputable def et2(P:Params):List DictEntry:=[en P "_law_turned" 829 (.ref 496),en P "_law_left" 840 (.ref 503),en P "_law_right" 846 (.ref 508),en P "law" 852 (.ref 513)]
noncomputable def et(P:Params):List DictEntry:=et0 P++et1 P++et2 P
noncomputable abbrev ns(P:Params)(x:DictEntry)(n k:Nat):Obj:=⟨.type "dict",none,.dict ⟨x::(et P).take n⟩ k,#[]⟩
noncomputable def ff0:AC:=[(.int (2) 0),(.int (0) 0),(.ref 20),(.int (4) 0),(.int (0) 0),(.ref 33),(.int (6) 0),(.int (0) 0),(.ref 45),(.int (8) 0),(.int (0) 0),(.ref 57),(.int (10) 0),(.int (0) 0),(.ref 69),(.int (12) 0),(.int (0) 0),(.ref 81),(.int (14) 0),(.int (0) 0),(.ref 93),(.int (21) 0),(.int (0) 0),(.ref 106),(.int (23) 0),(.int (0) 0),(.ref 113),(.int (27) 0),(.int (0) 0),(.ref 120),(.int (31) 0),(.int (0) 0),(.ref 125),(.int (36) 0),(.int (0) 0),(.ref 130),(.int (43) 0),(.int (0) 0),(.ref 137),(.int (45) 0)]
noncomputable def ff1:AC:=[(.int (0) 0),(.ref 144),(.int (50) 0),(.int (0) 0),(.ref 151),(.int (56) 0),(.int (0) 0),(.ref 156),(.int (62) 0),(.int (0) 0),(.ref 161),(.int (64) 0),(.int (0) 0),(.ref 166),(.int (67) 0),(.int (0) 0),(.ref 171),(.int (71) 0),(.int (0) 0),(.ref 178),(.int (77) 0),(.int (0) 0),(.ref 183),(.int (79) 0),(.int (0) 0),(.ref 190),(.int (81) 0),(.int (0) 0),(.ref 195),(.int (87) 0),(.int (0) 0),(.ref 202),(.int (92) 0),(.int (0) 0),(.ref 207),(.int (94) 0),(.int (0) 0),(.ref 212),(.int (98) 0),(.int (0) 0)]
noncomputable def ff2:AC:=[(.ref 219),(.int (104) 0),(.int (0) 0),(.ref 226),(.int (111) 0),(.int (0) 0),(.ref 233),(.int (119) 0),(.int (0) 0),(.ref 238),(.int (124) 0),(.int (0) 0),(.ref 246),(.int (126) 0),(.int (0) 0),(.ref 251),(.int (133) 0),(.int (0) 0),(.ref 258),(.int (180) 0),(.int (0) 0),(.ref 326),(.int (183) 0),(.int (0) 0),(.ref 331),(.int (190) 0),(.int (0) 0),(.ref 338),(.int (192) 0),(.int (0) 0),(.ref 343),(.int (199) 0),(.int (0) 0),(.ref 348),(.int (205) 0),(.int (0) 0),(.ref 355),(.int (208) 0),(.int (0) 0),(.ref 362)]
noncomputable def ff3:AC:=[(.int (213) 0),(.int (0) 0),(.ref 369),(.int (215) 0),(.int (0) 0),(.ref 376),(.int (217) 0),(.int (0) 0),(.ref 381),(.int (222) 0),(.int (0) 0),(.ref 388),(.int (226) 0),(.int (0) 0),(.ref 395),(.int (234) 0),(.int (0) 0),(.ref 402),(.int (242) 0),(.int (0) 0),(.ref 409),(.int (246) 0),(.int (0) 0),(.ref 416),(.int (250) 0),(.int (0) 0),(.ref 423),(.int (254) 0),(.int (0) 0),(.ref 428),(.int (259) 0),(.int (0) 0),(.ref 435),(.int (264) 0),(.int (0) 0),(.ref 440),(.int (276) 0),(.int (0) 0),(.ref 447),(.int (280) 0)]
noncomputable def ff4:AC:=[(.int (0) 0),(.ref 454),(.int (282) 0),(.int (0) 0),(.ref 461),(.int (307) 0),(.int (0) 0),(.ref 466),(.int (319) 0),(.int (0) 0),(.ref 473),(.int (321) 0),(.int (0) 0),(.ref 478),(.int (331) 0),(.int (0) 0),(.ref 483),(.int (340) 0),(.int (0) 0),(.ref 488),(.int (342) 0),(.int (0) 0),(.ref 495),(.int (352) 0),(.int (0) 0),(.ref 502),(.int (357) 0),(.int (0) 0),(.ref 507),(.int (368) 0),(.int (0) 0),(.ref 512)]
noncomputable def ff:AC:=ff0++ff1++ff2++ff3++ff4
noncomputable abbrev ft(n:Nat):Obj:=⟨.none,none,.fields ⟨ff.take n⟩,#[]⟩
noncomputable abbrev dF(x:Str)(i l n t b:Nat)(pm:Value)(k:Nat):List Obj:=[tu [],fl,oZ x i,oC x t l n b .none .none (b+2) k (t+3),oF x i pm (b+3)]
noncomputable abbrev dG(x:Str)(i l n t b:Nat)(pm:Value)(k:Nat)(u:AC):List Obj:=[tu [],fl,tu u,tu [],oZ x i,oC x t l n b (.ref (b+2)) (.ref (b+3)) (b+4) k (t+3+u.length),oF x i pm (b+5)]
noncomputable def al0(P:Params):List Obj:=[boot_o_0 P,boot_o_1 P,boot_o_2 P,ns P (en P "__name__" 165 (.str "law_duskbook_k56_pages_read" 753)) 84 85,boot_o_4 P,boot_o_5 P,boot_o_6 P,boot_o_7 P,boot_o_8 P,boot_o_9 P,boot_o_10 P,tu [],ft 192,⟨(.type "code"),none,(.fields #[(.str "<module>" 182),(.str "<module>" 183),(.str "/claim/cut.py" 184),(.int (1) 0),(.int (0) 0),(.int (0) 0),(.int (0) 0),(.int (0) 0),(.ref 11),(.bool false),(.int (181) 0),(.ref 12),.none,.none,.none,.none,(.int (185) 0),(.int (1) 0),(.str "/claim/cut.py" 186)]),#[]⟩,⟨(.type "frame"),none,.plain,#[(some (.ref 13)),(some (.ref 3)),(some (.ref 3)),none,(some (.str "__main__" 164)),none,(some (.ref 0))]⟩,tu [(.type "ValueError")],⟨(.type "builtin_function_or_method"),none,(.fields #[(.builtin "type.__prepare__"),(.type "type")]),#[]⟩,⟨(.type "dict"),none,(.dict #[en P "__module__" 196 (.str "duskbook.errors" 187),en P "__qualname__" 198 (.str "DuskError" 197),en P "__firstlineno__" 200 (.int (2) 199),en P "__static_attributes__" 201 (.ref 22)] 4),#[]⟩,tu [],fl,⟨(.type "code"),none,(.fields #[(.str "DuskError" 191),(.str "DuskError" 192),(.str "/claim/cut.py" 193),(.int (2) 0),(.int (0) 0),(.int (0) 0),(.int (0) 0),(.int (0) 0),(.ref 18),(.bool false),(.int (181) 0),(.ref 19),.none,.none,.none,.none,(.int (194) 0),(.int (2) 0),(.str "/claim/cut.py" 195)]),#[]⟩,⟨(.type "frame"),none,.plain,#[(some (.ref 20)),(some (.ref 3)),(some (.ref 17)),none,(some (.str "duskbook.errors" 187)),none,(some (.ref 0))]⟩,tu [],⟨(.type "dict"),none,(.dict #[en P "__module__" 196 (.str "duskbook.errors" 187),en P "__firstlineno__" 200 (.int (2) 199),en P "__static_attributes__" 201 (.ref 22),en P "__weakref__" 203 (.ref 25),en P "__doc__" 204 .none] 3),#[]⟩,⟨(.type "type"),none,(.cls ⟨"DuskError",[(.type "ValueError")],[(.ref 24),(.type "ValueError"),(.type "Exception"),(.type "BaseException"),(.type "object")],23,"DuskError",true,[],[(.ref 37),(.ref 49),(.ref 61),(.ref 73),(.ref 85),(.ref 97)],false,none,false⟩),#[(some (.ref 15)),none,(some (.str "DuskError" 189)),(some (.str "DuskError" 197)),(some (.builtin "ValueError.__new__")),(some (.bool true))]⟩,⟨(.type "getset_descriptor"),none,(.fields #[(.str "__weakref__" 202),(.ref 24),(.builtin "ExceptionGroup.__weakref__"),.none]),#[]⟩,⟨(.type "super"),none,(.fields #[(.ref 24),(.ref 24),(.ref 24)]),#[]⟩,⟨(.type "builtin_function_or_method"),none,(.fields #[(.builtin "object.__init_subclass__"),(.ref 24)]),#[]⟩,tu [(.ref 24)],⟨(.type "builtin_function_or_method"),none,(.fields #[(.builtin "type.__prepare__"),(.type "type")]),#[]⟩,⟨(.type "dict"),none,(.dict #[en P "__module__" 214 (.str "duskbook.errors" 187),en P "__qualname__" 216 (.str "NoBook" 215),en P "__firstlineno__" 218 (.int (4) 217),en P "__static_attributes__" 219 (.ref 35)] 4),#[]⟩,tu [],fl,⟨(.type "code"),none,(.fields #[(.str "NoBook" 209),(.str "NoBook" 210),(.str "/claim/cut.py" 211),(.int (4) 0),(.int (0) 0),(.int (0) 0),(.int (0) 0),(.int (0) 0),(.ref 31),(.bool false),(.int (181) 0),(.ref 32),.none,.none,.none,.none,(.int (212) 0),(.int (4) 0),(.str "/claim/cut.py" 213)]),#[]⟩,⟨(.type "frame"),none,.plain,#[(some (.ref 33)),(some (.ref 3)),(some (.ref 30)),none,(some (.str "duskbook.errors" 187)),none,(some (.ref 0))]⟩,tu [],⟨(.type "dict"),none,(.dict #[en P "__module__" 214 (.str "duskbook.errors" 187),en P "__firstlineno__" 218 (.int (4) 217),en P "__static_attributes__" 219 (.ref 35),en P "__doc__" 220 .none] 2),#[]⟩,⟨(.type "type"),none,(.cls ⟨"NoBook",[(.ref 24)],[(.ref 37),(.ref 24),(.type "ValueError"),(.type "Exception"),(.type "BaseException"),(.type "object")],36,"NoBook",true,[],[],false,none,false⟩),#[(some (.ref 28)),none,(some (.str "NoBook" 207)),(some (.str "NoBook" 215)),(some (.builtin "ValueError.__new__")),(some (.bool true))]⟩,⟨(.type "super"),none,(.fields #[(.ref 37),(.ref 37),(.ref 37)]),#[]⟩,⟨(.type "builtin_function_or_method"),none,(.fields #[(.builtin "object.__init_subclass__"),(.ref 37)]),#[]⟩]++([tu [(.ref 24)],⟨(.type "builtin_function_or_method"),none,(.fields #[(.builtin "type.__prepare__"),(.type "type")]),#[]⟩,⟨(.type "dict"),none,(.dict #[en P "__module__" 230 (.str "duskbook.errors" 187),en P "__qualname__" 232 (.str "NoHands" 231),en P "__firstlineno__" 234 (.int (6) 233),en P "__static_attributes__" 235 (.ref 47)] 4),#[]⟩,tu [],fl,⟨(.type "code"),none,(.fields #[(.str "NoHands" 225),(.str "NoHands" 226),(.str "/claim/cut.py" 227),(.int (6) 0),(.int (0) 0),(.int (0) 0),(.int (0) 0),(.int (0) 0),(.ref 43),(.bool false),(.int (181) 0),(.ref 44),.none,.none,.none,.none,(.int (228) 0),(.int (6) 0),(.str "/claim/cut.py" 229)]),#[]⟩,⟨(.type "frame"),none,.plain,#[(some (.ref 45)),(some (.ref 3)),(some (.ref 42)),none,(some (.str "duskbook.errors" 187)),none,(some (.ref 0))]⟩,tu [],⟨(.type "dict"),none,(.dict #[en P "__module__" 230 (.str "duskbook.errors" 187),en P "__firstlineno__" 234 (.int (6) 233),en P "__static_attributes__" 235 (.ref 47),en P "__doc__" 236 .none] 2),#[]⟩,⟨(.type "type"),none,(.cls ⟨"NoHands",[(.ref 24)],[(.ref 49),(.ref 24),(.type "ValueError"),(.type "Exception"),(.type "BaseException"),(.type "object")],48,"NoHands",true,[],[],false,none,false⟩),#[(some (.ref 40)),none,(some (.str "NoHands" 223)),(some (.str "NoHands" 231)),(some (.builtin "ValueError.__new__")),(some (.bool true))]⟩,⟨(.type "super"),none,(.fields #[(.ref 49),(.ref 49),(.ref 49)]),#[]⟩,⟨(.type "builtin_function_or_method"),none,(.fields #[(.builtin "object.__init_subclass__"),(.ref 49)]),#[]⟩,tu [(.ref 24)],⟨(.type "builtin_function_or_method"),none,(.fields #[(.builtin "type.__prepare__"),(.type "type")]),#[]⟩,⟨(.type "dict"),none,(.dict #[en P "__module__" 246 (.str "duskbook.errors" 187),en P "__qualname__" 248 (.str "Over" 247),en P "__firstlineno__" 250 (.int (8) 249),en P "__static_attributes__" 251 (.ref 59)] 4),#[]⟩,tu [],fl,⟨(.type "code"),none,(.fields #[(.str "Over" 241),(.str "Over" 242),(.str "/claim/cut.py" 243),(.int (8) 0),(.int (0) 0),(.int (0) 0),(.int (0) 0),(.int (0) 0),(.ref 55),(.bool false),(.int (181) 0),(.ref 56),.none,.none,.none,.none,(.int (244) 0),(.int (8) 0),(.str "/claim/cut.py" 245)]),#[]⟩,⟨(.type "frame"),none,.plain,#[(some (.ref 57)),(some (.ref 3)),(some (.ref 54)),none,(some (.str "duskbook.errors" 187)),none,(some (.ref 0))]⟩,tu [],⟨(.type "dict"),none,(.dict #[en P "__module__" 246 (.str "duskbook.errors" 187),en P "__firstlineno__" 250 (.int (8) 249),en P "__static_attributes__" 251 (.ref 59),en P "__doc__" 252 .none] 2),#[]⟩,⟨(.type "type"),none,(.cls ⟨"Over",[(.ref 24)],[(.ref 61),(.ref 24),(.type "ValueError"),(.type "Exception"),(.type "BaseException"),(.type "object")],60,"Over",true,[],[],false,none,false⟩),#[(some (.ref 52)),none,(some (.str "Over" 239)),(some (.str "Over" 247)),(some (.builtin "ValueError.__new__")),(some (.bool true))]⟩,⟨(.type "super"),none,(.fields #[(.ref 61),(.ref 61),(.ref 61)]),#[]⟩,⟨(.type "builtin_function_or_method"),none,(.fields #[(.builtin "object.__init_subclass__"),(.ref 61)]),#[]⟩,tu [(.ref 24)],⟨(.type "builtin_function_or_method"),none,(.fields #[(.builtin "type.__prepare__"),(.type "type")]),#[]⟩,⟨(.type "dict"),none,(.dict #[en P "__module__" 262 (.str "duskbook.errors" 187),en P "__qualname__" 264 (.str "NoLight" 263),en P "__firstlineno__" 266 (.int (10) 265),en P "__static_attributes__" 267 (.ref 71)] 4),#[]⟩,tu [],fl,⟨(.type "code"),none,(.fields #[(.str "NoLight" 257),(.str "NoLight" 258),(.str "/claim/cut.py" 259),(.int (10) 0),(.int (0) 0),(.int (0) 0),(.int (0) 0),(.int (0) 0),(.ref 67),(.bool false),(.int (181) 0),(.ref 68),.none,.none,.none,.none,(.int (260) 0),(.int (10) 0),(.str "/claim/cut.py" 261)]),#[]⟩,⟨(.type "frame"),none,.plain,#[(some (.ref 69)),(some (.ref 3)),(some (.ref 66)),none,(some (.str "duskbook.errors" 187)),none,(some (.ref 0))]⟩,tu [],⟨(.type "dict"),none,(.dict #[en P "__module__" 262 (.str "duskbook.errors" 187),en P "__firstlineno__" 266 (.int (10) 265),en P "__static_attributes__" 267 (.ref 71),en P "__doc__" 268 .none] 2),#[]⟩,⟨(.type "type"),none,(.cls ⟨"NoLight",[(.ref 24)],[(.ref 73),(.ref 24),(.type "ValueError"),(.type "Exception"),(.type "BaseException"),(.type "object")],72,"NoLight",true,[],[],false,none,false⟩),#[(some (.ref 64)),none,(some (.str "NoLight" 255)),(some (.str "NoLight" 263)),(some (.builtin "ValueError.__new__")),(some (.bool true))]⟩,⟨(.type "super"),none,(.fields #[(.ref 73),(.ref 73),(.ref 73)]),#[]⟩,⟨(.type "builtin_function_or_method"),none,(.fields #[(.builtin "object.__init_subclass__"),(.ref 73)]),#[]⟩,tu [(.ref 24)],⟨(.type "builtin_function_or_method"),none,(.fields #[(.builtin "type.__prepare__"),(.type "type")]),#[]⟩,⟨(.type "dict"),none,(.dict #[en P "__module__" 278 (.str "duskbook.errors" 187),en P "__qualname__" 280 (.str "NoneSettled" 279),en P "__firstlineno__" 282 (.int (12) 281),en P "__static_attributes__" 283 (.ref 83)] 4),#[]⟩,tu []]++([fl,⟨(.type "code"),none,(.fields #[(.str "NoneSettled" 273),(.str "NoneSettled" 274),(.str "/claim/cut.py" 275),(.int (12) 0),(.int (0) 0),(.int (0) 0),(.int (0) 0),(.int (0) 0),(.ref 79),(.bool false),(.int (181) 0),(.ref 80),.none,.none,.none,.none,(.int (276) 0),(.int (12) 0),(.str "/claim/cut.py" 277)]),#[]⟩,⟨(.type "frame"),none,.plain,#[(some (.ref 81)),(some (.ref 3)),(some (.ref 78)),none,(some (.str "duskbook.errors" 187)),none,(some (.ref 0))]⟩,tu [],⟨(.type "dict"),none,(.dict #[en P "__module__" 278 (.str "duskbook.errors" 187),en P "__firstlineno__" 282 (.int (12) 281),en P "__static_attributes__" 283 (.ref 83),en P "__doc__" 284 .none] 2),#[]⟩,⟨(.type "type"),none,(.cls ⟨"NoneSettled",[(.ref 24)],[(.ref 85),(.ref 24),(.type "ValueError"),(.type "Exception"),(.type "BaseException"),(.type "object")],84,"NoneSettled",true,[],[],false,none,false⟩),#[(some (.ref 76)),none,(some (.str "NoneSettled" 271)),(some (.str "NoneSettled" 279)),(some (.builtin "ValueError.__new__")),(some (.bool true))]⟩,⟨(.type "super"),none,(.fields #[(.ref 85),(.ref 85),(.ref 85)]),#[]⟩,⟨(.type "builtin_function_or_method"),none,(.fields #[(.builtin "object.__init_subclass__"),(.ref 85)]),#[]⟩,tu [(.ref 24)],⟨(.type "builtin_function_or_method"),none,(.fields #[(.builtin "type.__prepare__"),(.type "type")]),#[]⟩,⟨(.type "dict"),none,(.dict #[en P "__module__" 294 (.str "duskbook.errors" 187),en P "__qualname__" 296 (.str "NoPage" 295),en P "__firstlineno__" 298 (.int (14) 297),en P "__static_attributes__" 299 (.ref 95)] 4),#[]⟩,tu [],fl,⟨(.type "code"),none,(.fields #[(.str "NoPage" 289),(.str "NoPage" 290),(.str "/claim/cut.py" 291),(.int (14) 0),(.int (0) 0),(.int (0) 0),(.int (0) 0),(.int (0) 0),(.ref 91),(.bool false),(.int (181) 0),(.ref 92),.none,.none,.none,.none,(.int (292) 0),(.int (14) 0),(.str "/claim/cut.py" 293)]),#[]⟩,⟨(.type "frame"),none,.plain,#[(some (.ref 93)),(some (.ref 3)),(some (.ref 90)),none,(some (.str "duskbook.errors" 187)),none,(some (.ref 0))]⟩,tu [],⟨(.type "dict"),none,(.dict #[en P "__module__" 294 (.str "duskbook.errors" 187),en P "__firstlineno__" 298 (.int (14) 297),en P "__static_attributes__" 299 (.ref 95),en P "__doc__" 300 .none] 2),#[]⟩,⟨(.type "type"),none,(.cls ⟨"NoPage",[(.ref 24)],[(.ref 97),(.ref 24),(.type "ValueError"),(.type "Exception"),(.type "BaseException"),(.type "object")],96,"NoPage",true,[],[],false,none,false⟩),#[(some (.ref 88)),none,(some (.str "NoPage" 287)),(some (.str "NoPage" 295)),(some (.builtin "ValueError.__new__")),(some (.bool true))]⟩,⟨(.type "super"),none,(.fields #[(.ref 97),(.ref 97),(.ref 97)]),#[]⟩,⟨(.type "builtin_function_or_method"),none,(.fields #[(.builtin "object.__init_subclass__"),(.ref 97)]),#[]⟩,tu [(.str "eithers" 305),(.str "sums" 306),(.str "ifs" 307),(.str "nots" 308)]]++(dG "is_beacon" 13 21 1 316 101 p0 181 [(.str "thing" 319)]++(dG "checked_beacon" 14 23 1 323 108 p0 181 [(.str "thing" 326)]++(dG "checked_truth" 15 27 1 330 115 p0 181 [(.str "thing" 333)]++(dF "checked_beacons" 16 31 1 337 122 p0 181++(dF "either_made" 17 36 1 343 127 p0 181++(dG "sum_made" 18 43 1 349 132 p0 181 [(.str "rule" 352)]++(dG "if_made" 19 45 1 356 139 p0 181 [(.str "rule" 359),(.str "head" 360)]++(dG "rule_made" 20 50 2 364 146 p0 181 [(.str "kind" 367),(.str "rule" 368)]++(dF "book_made" 21 56 2 372 153 p0 181++(dF "either_holds" 22 62 2 378 158 p0 181++(dF "sum_holds" 23 64 2 384 163 p0 181++(dF "if_holds" 24 67 3 390 168 p0 181++(dG "rule_holds" 25 71 3 396 173 p0 181 [(.str "kind" 399),(.str "rule" 400),(.str "evening" 401)]++(dF "broken_rules" 26 77 2 405 180 p0 181++(dG "holds" 27 79 2 411 185 p0 181 [(.str "book" 414),(.str "evening" 415)]++(dF "beacons_in" 28 81 2 419 192 p0 181++(dG "beacons_of" 29 87 1 425 197 p0 181 [(.str "book" 428),(.str "found" 429),(.str "rule" 430)]++(dF "without" 30 92 2 434 204 p0 181++(dF "either_left" 31 94 3 440 209 p0 181++(dG "sum_left" 32 98 3 446 214 p0 181 [(.str "rule" 449),(.str "beacon" 450),(.str "lit" 451),(.str "beacons" 452),(.str "odd" 453)]++(dG "if_left" 33 104 3 457 221 p0 181 [(.str "rule" 460),(.str "beacon" 461),(.str "so" 462),(.str "head" 463)]++(dG "rule_left" 34 111 4 467 228 p0 181 [(.str "kind" 470),(.str "rule" 471),(.str "beacon" 472),(.str "lit" 473)]))))))))))))))))))))))))
noncomputable def al1(P:Params):List Obj:=dF "left_behind" 35 119 3 477 235 p0 181++([tu [(.str "keeper" 483),(.str "storm" 484)]]++(dG "is_hand" 38 124 1 488 241 p1 181 [(.str "thing" 491)]++(dF "check_hands" 39 126 2 495 248 p1 181++([tu [],⟨(.type "builtin_function_or_method"),none,(.fields #[(.builtin "type.__prepare__"),(.type "type")]),#[]⟩,⟨(.type "dict"),none,(.dict #[en P "__module__" 508 (.str "duskbook.watches" 486),en P "__qualname__" 510 (.str "Watch" 509),en P "__firstlineno__" 512 (.int (133) 511),en P "__init__" 521 (.ref 266),en P "turn" 528 (.ref 273),en P "evening" 535 (.ref 280),en P "left" 545 (.ref 287),en P "winner" 552 (.ref 294),en P "settle" 560 (.ref 301),en P "back" 567 (.ref 308),en P "__static_attributes__" 571 (.ref 309)] 11),#[]⟩,tu [],⟨.none,none,(.fields #[(.int (135) 0),(.int (4) 0),(.ref 265),(.int (141) 0),(.int (4) 0),(.ref 272),(.int (146) 0),(.int (4) 0),(.ref 279),(.int (149) 0),(.int (4) 0),(.ref 286),(.int (155) 0),(.int (4) 0),(.ref 293),(.int (160) 0),(.int (4) 0),(.ref 300),(.int (168) 0),(.int (4) 0),(.ref 307)]),#[]⟩,⟨(.type "code"),none,(.fields #[(.str "Watch" 503),(.str "Watch" 504),(.str "/claim/cut.py" 505),(.int (133) 0),(.int (0) 0),(.int (0) 0),(.int (0) 0),(.int (0) 0),(.ref 256),(.bool false),(.int (181) 0),(.ref 257),.none,.none,.none,.none,(.int (506) 0),(.int (133) 0),(.str "/claim/cut.py" 507)]),#[]⟩,⟨(.type "frame"),none,.plain,#[(some (.ref 258)),(some (.ref 3)),(some (.ref 255)),none,(some (.str "duskbook.watches" 486)),none,(some (.ref 0))]⟩,tu [],fl,tu [(.str "self" 516),(.str "book" 517),(.str "hands" 518)],tu [],⟨.none,none,(fn "__init__" "Watch.__init__" (topm 40 0) .none .none .none .none none .none .none 0 0),#[]⟩,⟨(.type "code"),none,(.fields #[(.str "__init__" 513),(.str "Watch.__init__" 514),(.str "/claim/cut.py" 515),(.int (135) 0),(.int (3) 0),(.int (0) 0),(.int (0) 0),(.int (3) 0),(.ref 260),(.bool true),(.int (181) 0),(.ref 261),.none,(.ref 262),(.ref 263),(.ref 264),(.int (519) 0),(.int (135) 0),(.str "/claim/cut.py" 520)]),#[]⟩,oM "__init__" "Watch.__init__" 40 0 p1 265,tu [],fl,tu [(.str "self" 525)],tu [],⟨.none,none,(fn "turn" "Watch.turn" (topm 40 1) .none .none .none .none none .none .none 0 0),#[]⟩,⟨(.type "code"),none,(.fields #[(.str "turn" 522),(.str "Watch.turn" 523),(.str "/claim/cut.py" 524),(.int (141) 0),(.int (1) 0),(.int (0) 0),(.int (0) 0),(.int (3) 0),(.ref 267),(.bool true),(.int (181) 0),(.ref 268),.none,(.ref 269),(.ref 270),(.ref 271),(.int (526) 0),(.int (141) 0),(.str "/claim/cut.py" 527)]),#[]⟩,oM "turn" "Watch.turn" 40 1 p1 272,tu [],fl,tu [(.str "self" 532)],tu [],⟨.none,none,(fn "evening" "Watch.evening" (topm 40 2) .none .none .none .none none .none .none 0 0),#[]⟩,⟨(.type "code"),none,(.fields #[(.str "evening" 529),(.str "Watch.evening" 530),(.str "/claim/cut.py" 531),(.int (146) 0),(.int (1) 0),(.int (0) 0),(.int (0) 0),(.int (3) 0),(.ref 274),(.bool true),(.int (181) 0),(.ref 275),.none,(.ref 276),(.ref 277),(.ref 278),(.int (533) 0),(.int (146) 0),(.str "/claim/cut.py" 534)]),#[]⟩,oM "evening" "Watch.evening" 40 2 p1 279,tu [],fl,tu [(.str "self" 539),(.str "book" 540),(.str "beacon" 541),(.str "lit" 542)],tu [],⟨.none,none,(fn "left" "Watch.left" (topm 40 3) .none .none .none .none none .none .none 0 0),#[]⟩,⟨(.type "code"),none,(.fields #[(.str "left" 536),(.str "Watch.left" 537),(.str "/claim/cut.py" 538),(.int (149) 0),(.int (1) 0),(.int (0) 0),(.int (0) 0),(.int (3) 0),(.ref 281),(.bool true),(.int (181) 0),(.ref 282),.none,(.ref 283),(.ref 284),(.ref 285),(.int (543) 0),(.int (149) 0),(.str "/claim/cut.py" 544)]),#[]⟩,oM "left" "Watch.left" 40 3 p1 286,tu [],fl,tu [(.str "self" 549)],tu [],⟨.none,none,(fn "winner" "Watch.winner" (topm 40 4) .none .none .none .none none .none .none 0 0),#[]⟩]++([⟨(.type "code"),none,(.fields #[(.str "winner" 546),(.str "Watch.winner" 547),(.str "/claim/cut.py" 548),(.int (155) 0),(.int (1) 0),(.int (0) 0),(.int (0) 0),(.int (3) 0),(.ref 288),(.bool true),(.int (181) 0),(.ref 289),.none,(.ref 290),(.ref 291),(.ref 292),(.int (550) 0),(.int (155) 0),(.str "/claim/cut.py" 551)]),#[]⟩,oM "winner" "Watch.winner" 40 4 p1 293,tu [],fl,tu [(.str "self" 556),(.str "lit" 557)],tu [],⟨.none,none,(fn "settle" "Watch.settle" (topm 40 5) .none .none .none .none none .none .none 0 0),#[]⟩,⟨(.type "code"),none,(.fields #[(.str "settle" 553),(.str "Watch.settle" 554),(.str "/claim/cut.py" 555),(.int (160) 0),(.int (2) 0),(.int (0) 0),(.int (0) 0),(.int (3) 0),(.ref 295),(.bool true),(.int (181) 0),(.ref 296),.none,(.ref 297),(.ref 298),(.ref 299),(.int (558) 0),(.int (160) 0),(.str "/claim/cut.py" 559)]),#[]⟩,oM "settle" "Watch.settle" 40 5 p1 300,tu [],fl,tu [(.str "self" 564)],tu [],⟨.none,none,(fn "back" "Watch.back" (topm 40 6) .none .none .none .none none .none .none 0 0),#[]⟩,⟨(.type "code"),none,(.fields #[(.str "back" 561),(.str "Watch.back" 562),(.str "/claim/cut.py" 563),(.int (168) 0),(.int (1) 0),(.int (0) 0),(.int (0) 0),(.int (3) 0),(.ref 302),(.bool true),(.int (181) 0),(.ref 303),.none,(.ref 304),(.ref 305),(.ref 306),(.int (565) 0),(.int (168) 0),(.str "/claim/cut.py" 566)]),#[]⟩,oM "back" "Watch.back" 40 6 p1 307,tu [(.str "book" 568),(.str "hands" 569),(.str "truths" 570)],⟨(.type "dict"),none,(.dict #[en P "__module__" 508 (.str "duskbook.watches" 486),en P "__firstlineno__" 512 (.int (133) 511),en P "__init__" 521 (.ref 266),en P "turn" 528 (.ref 273),en P "evening" 535 (.ref 280),en P "left" 545 (.ref 287),en P "winner" 552 (.ref 294),en P "settle" 560 (.ref 301),en P "back" 567 (.ref 308),en P "__static_attributes__" 571 (.ref 309),en P "__dict__" 573 (.ref 312),en P "__weakref__" 575 (.ref 313),en P "__doc__" 576 .none] 4),#[]⟩,⟨(.type "type"),none,(.cls ⟨"Watch",[(.type "object")],[(.ref 311),(.type "object")],310,"Watch",true,[],[],false,none,false⟩),#[none,none,(some (.str "Watch" 501)),(some (.str "Watch" 509)),(some (.builtin "object.__new__")),(some (.bool true))]⟩,⟨(.type "getset_descriptor"),none,(.fields #[(.str "__dict__" 572),(.ref 311),(.builtin "function.__dict__"),(.builtin "function.__dict__#set")]),#[]⟩,⟨(.type "getset_descriptor"),none,(.fields #[(.str "__weakref__" 574),(.ref 311),(.builtin "ExceptionGroup.__weakref__"),.none]),#[]⟩,⟨(.type "super"),none,(.fields #[(.ref 311),(.ref 311),(.ref 311)]),#[]⟩,⟨(.type "builtin_function_or_method"),none,(.fields #[(.builtin "object.__init_subclass__"),(.ref 311)]),#[]⟩,⟨(.type "dict"),none,(.dict #[en P "keeper" 585 (.str "k" 586),en P "storm" 587 (.str "s" 588)] 2),#[]⟩,⟨(.type "dict"),none,(.dict #[en P "k" 592 (.str "keeper" 593),en P "s" 594 (.str "storm" 595)] 2),#[]⟩,⟨(.type "dict"),none,(.dict #[en P "1" 599 (.bool true),en P "0" 600 (.bool false)] 2),#[]⟩,⟨(.type "dict"),none,(.dict #[en P "+" 604 (.bool true),en P "-" 605 (.bool false)] 2),#[]⟩,⟨(.type "dict"),none,(.dict #[en P "odd" 609 (.bool true),en P "even" 610 (.bool false)] 2),#[]⟩]++(dG "saying_written" 49 180 1 614 321 p2 181 [(.str "saying" 617),(.str "beacon" 618)]++(dF "rule_written" 50 183 2 622 328 p2 181++(dG "signs_written" 51 190 2 628 333 p2 181 [(.str "word" 631),(.str "signs" 632)]++(dF "page_written" 52 192 1 636 340 p2 181++(dF "number_read" 53 199 1 642 345 p2 181++(dG "beacon_read" 54 205 1 648 350 p2 181 [(.str "word" 651),(.str "number" 652)]++(dG "saying_read" 55 208 1 656 357 p2 181 [(.str "word" 659),(.str "beacon" 660)]++(dG "hand_read" 56 213 1 664 364 p2 181 [(.str "letter" 667)]++(dG "truth_read" 57 215 1 671 371 p2 181 [(.str "sign" 674)]++(dF "each_read" 58 217 2 678 378 p2 181++(dG "sum_read" 59 222 1 684 383 p2 181 [(.str "words" 687)]++(dG "if_read" 60 226 1 691 390 p2 181 [(.str "words" 694),(.str "end" 695),(.str "heads" 696)]++(dG "rule_read" 61 234 2 700 397 p2 181 [(.str "kind" 703),(.str "words" 704)]++(dG "kind_read" 62 242 1 708 404 p2 181 [(.str "words" 711)]++(dG "hands_read" 63 246 1 715 411 p2 181 [(.str "words" 718)]++(dG "settled_read" 64 250 1 722 418 p2 181 [(.str "words" 725)]++(dF "rows_read" 65 254 1 729 425 p2 181++(dG "watch_made" 66 259 4 735 430 p2 181 [(.str "kind" 738),(.str "rules" 739),(.str "hands" 740),(.str "truths" 741),(.str "watch" 742),(.str "lit" 743)]++(dF "page_read" 67 264 1 747 437 p2 181))))))))))))))))))))))))
noncomputable def al2(P:Params):List Obj:=dG "_law_cell" 69 276 2 755 442 p3 181 [(.str "script" 758),(.str "k" 759)]++(dG "_law_mixed" 70 280 2 763 449 p3 181 [(.str "cell" 766),(.str "by" 767)]++(dG "_law_rule" 71 282 3 771 456 p3 181 [(.str "kind" 774),(.str "cell" 775),(.str "many" 776),(.str "left" 777),(.str "size" 778),(.str "odd" 779),(.str "head" 780),(.str "some" 781),(.str "k" 782),(.str "sayings" 783),(.str "beacon" 784)]++(dF "_law_drawn" 72 307 1 788 463 p3 181++(dG "_law_saying_word" 73 319 1 794 468 p3 181 [(.str "saying" 797)]++(dF "_law_rule_words" 74 321 2 801 475 p3 181++(dF "_law_rows" 75 331 4 807 480 p3 181++(dF "_law_page" 76 340 1 813 485 p3 181++(dG "_law_turned" 77 342 3 819 490 p3 181 [(.str "kind" 822),(.str "row" 823),(.str "cell" 824),(.str "begin" 825),(.str "end" 826)]++(dG "_law_left" 78 352 3 830 497 p3 181 [(.str "kind" 833),(.str "rules" 834),(.str "lights" 835),(.str "book" 836),(.str "k" 837)]++(dF "_law_right" 79 357 5 841 504 p3 181++(dF "law" 80 368 1 847 509 p3 181)))))))))))
noncomputable def al(P:Params):List Obj:=al0 P++al1 P++al2 P
noncomputable def upd(l:List (Nat×Obj))(xs:List Obj):List Obj:=l.foldl (λxs p=>xs.set p.1 p.2) xs
noncomputable def ev:List Obj->List Obj
 | []=>[]
 | [x]=>[x]
 | x::_::r=>x::ev r
noncomputable def bt:Nat->List Obj->BT
 | 0,_=>.nil
 | _+1,[]=>.nil
 | n+1,x::xs=>.node x (bt n (ev xs)) (bt n (ev xs.tail))
noncomputable abbrev bd:List Stmt:=behindTheImports pg
noncomputable abbrev sl(i n:Nat):List Stmt:=(bd.drop i).take n
noncomputable abbrev env:Env:={ scope:=pg.main.scope,locals:=mainNs,globals:=mainNs,cells:=[],code:=(.ref 13),frame:=some 14 }
noncomputable abbrev cE:Code:=.body bd env
noncomputable abbrev B:List Frame:=[topFrame ⟨0,0,0,0⟩]
noncomputable abbrev ss(n:Nat)(l:Params->List (Nat×Obj))(t:Nat)(w:World)(os:OsState):SharedT:=⟨bt 12 (upd (l w.params) ((al w.params).take n)),n,{},.mk [],boot_drawn,t,os⟩
noncomputable def h0(P:Params):Heap:=⟨⟨upd [(3,boot_o_3 P),(12,fl)] ((al P).take 15)⟩,{}⟩
noncomputable abbrev s0(w:World)(os:OsState):Shared:=⟨h0 w.params,.mk [],boot_drawn,187,os⟩
noncomputable abbrev s1:World->OsState->SharedT:=ss 15 (λP=>[(3,boot_o_3 P),(12,fl)]) 187
noncomputable abbrev s2:World->OsState->SharedT:=ss 28 (λP=>[(3,ns P (en P "__name__" 165 (.str "duskbook.errors" 187)) 9 10),(12,ft 3),(24,⟨(.type "type"),none,(.cls ⟨"DuskError",[(.type "ValueError")],[(.ref 24),(.type "ValueError"),(.type "Exception"),(.type "BaseException"),(.type "object")],23,"DuskError",true,[],[],false,none,false⟩),#[(some (.ref 15)),none,(some (.str "DuskError" 189)),(some (.str "DuskError" 197)),(some (.builtin "ValueError.__new__")),(some (.bool true))]⟩)]) 207
noncomputable abbrev s3:World->OsState->SharedT:=ss 40 (λP=>[(3,ns P (en P "__name__" 165 (.str "duskbook.errors" 187)) 10 11),(12,ft 6),(24,⟨(.type "type"),none,(.cls ⟨"DuskError",[(.type "ValueError")],[(.ref 24),(.type "ValueError"),(.type "Exception"),(.type "BaseException"),(.type "object")],23,"DuskError",true,[],[(.ref 37)],false,none,false⟩),#[(some (.ref 15)),none,(some (.str "DuskError" 189)),(some (.str "DuskError" 197)),(some (.builtin "ValueError.__new__")),(some (.bool true))]⟩)]) 223
noncomputable abbrev s4:World->OsState->SharedT:=ss 52 (λP=>[(3,ns P (en P "__name__" 165 (.str "duskbook.errors" 187)) 11 12),(12,ft 9),(24,⟨(.type "type"),none,(.cls ⟨"DuskError",[(.type "ValueError")],[(.ref 24),(.type "ValueError"),(.type "Exception"),(.type "BaseException"),(.type "object")],23,"DuskError",true,[],[(.ref 37),(.ref 49)],false,none,false⟩),#[(some (.ref 15)),none,(some (.str "DuskError" 189)),(some (.str "DuskError" 197)),(some (.builtin "ValueError.__new__")),(some (.bool true))]⟩)]) 239
noncomputable abbrev s5:World->OsState->SharedT:=ss 64 (λP=>[(3,ns P (en P "__name__" 165 (.str "duskbook.errors" 187)) 12 13),(12,ft 12),(24,⟨(.type "type"),none,(.cls ⟨"DuskError",[(.type "ValueError")],[(.ref 24),(.type "ValueError"),(.type "Exception"),(.type "BaseException"),(.type "object")],23,"DuskError",true,[],[(.ref 37),(.ref 49),(.ref 61)],false,none,false⟩),#[(some (.ref 15)),none,(some (.str "DuskError" 189)),(some (.str "DuskError" 197)),(some (.builtin "ValueError.__new__")),(some (.bool true))]⟩)]) 255
noncomputable abbrev s6:World->OsState->SharedT:=ss 76 (λP=>[(3,ns P (en P "__name__" 165 (.str "duskbook.errors" 187)) 13 14),(12,ft 15),(24,⟨(.type "type"),none,(.cls ⟨"DuskError",[(.type "ValueError")],[(.ref 24),(.type "ValueError"),(.type "Exception"),(.type "BaseException"),(.type "object")],23,"DuskError",true,[],[(.ref 37),(.ref 49),(.ref 61),(.ref 73)],false,none,false⟩),#[(some (.ref 15)),none,(some (.str "DuskError" 189)),(some (.str "DuskError" 197)),(some (.builtin "ValueError.__new__")),(some (.bool true))]⟩)]) 271
noncomputable abbrev s7:World->OsState->SharedT:=ss 88 (λP=>[(3,ns P (en P "__name__" 165 (.str "duskbook.errors" 187)) 14 15),(12,ft 18),(24,⟨(.type "type"),none,(.cls ⟨"DuskError",[(.type "ValueError")],[(.ref 24),(.type "ValueError"),(.type "Exception"),(.type "BaseException"),(.type "object")],23,"DuskError",true,[],[(.ref 37),(.ref 49),(.ref 61),(.ref 73),(.ref 85)],false,none,false⟩),#[(some (.ref 15)),none,(some (.str "DuskError" 189)),(some (.str "DuskError" 197)),(some (.builtin "ValueError.__new__")),(some (.bool true))]⟩)]) 287
noncomputable abbrev s8:World->OsState->SharedT:=ss 127 (λP=>[(3,ns P (en P "__name__" 165 (.str "duskbook.books" 303)) 23 24),(12,ft 33)]) 343
noncomputable abbrev s9:World->OsState->SharedT:=ss 209 (λP=>[(3,ns P (en P "__name__" 165 (.str "duskbook.books" 303)) 37 38),(12,ft 75)]) 440
noncomputable abbrev s10:World->OsState->SharedT:=ss 253 (λP=>[(3,ns P (en P "__name__" 165 (.str "duskbook.watches" 486)) 45 46),(12,ft 96)]) 501
noncomputable abbrev s11:World->OsState->SharedT:=ss 316 (λP=>[(3,ns P (en P "__name__" 165 (.str "duskbook.watches" 486)) 46 47),(12,ft 99)]) 579
noncomputable abbrev s12:World->OsState->SharedT:=ss 357 (λP=>[(3,ns P (en P "__name__" 165 (.str "duskbook.pages" 579)) 59 60),(12,ft 117)]) 656
noncomputable abbrev s13:World->OsState->SharedT:=ss 442 (λP=>[(3,ns P (en P "__name__" 165 (.str "law_duskbook_k56_pages_read" 753)) 72 73),(12,ft 156)]) 755
noncomputable abbrev s14:World->OsState->SharedT:=ss 514 (λP=>[]) 853
noncomputable def h15(P:Params):Heap:=⟨⟨upd [] ((al P).take 514)⟩,{}⟩
noncomputable abbrev s15(w:World)(os:OsState):Shared:=⟨h15 w.params,.mk [],boot_drawn,853,os⟩
noncomputable abbrev sz(w:World)(os:OsState):Shared:=⟨boot_heap w.params,.mk [],boot_drawn,boot_toks,os⟩
theorem e0:∀w:World,(λos=>topGo treeTable pg w 11 (some (.ref 6)) 12 (sz w os) (topStub pg))=λos=>some (s0 w os,⟨denote treeTable cE,cE,⟨0,0,0,0⟩,B⟩):=by
 rw[W.Fast.te15667345088766844465,W.Fast.te14364793385576792824,W.Fast.te11892475500146522536];intro w;kernel_rfl
theorem e1:∀w:World,(λos=>segRun treeTable pg w 11 (some (.ref 6)) 1 1 (s0 w os) (blockOf bd env cE ⟨0,0,0,0⟩ B))=λos=>some (.next,(s1 w os).abs,cE,⟨0,0,0,0⟩):=by
 rw[W.Fast.te14374325043358763698,W.Fast.te14364793385576792824];intro w;kernel_rfl
theorem e2:∀w:World,(λos=>segRunT treeTable pg w 11 (some (.ref 6)) 1 196 (s1 w os) (piecesOf (sl 0 2) env cE ⟨0,0,0,0⟩ B))=λos=>some (.next,s2 w os,cE,⟨2,0,3,8⟩):=by
 rw[W.Fast.te10110043849684766642,W.Fast.te14364793385576792824];intro w;kernel_rfl
theorem e3:∀w:World,(λos=>segRunT treeTable pg w 11 (some (.ref 6)) 1 214 (s2 w os) (piecesOf (sl 2 1) env cE ⟨2,0,3,8⟩ B))=λos=>some (.next,s3 w os,cE,⟨4,0,5,8⟩):=by
 rw[W.Fast.te10110043849684766642,W.Fast.te14364793385576792824];intro w;kernel_rfl
theorem e4:∀w:World,(λos=>segRunT treeTable pg w 11 (some (.ref 6)) 1 214 (s3 w os) (piecesOf (sl 3 1) env cE ⟨4,0,5,8⟩ B))=λos=>some (.next,s4 w os,cE,⟨6,0,7,8⟩):=by
 rw[W.Fast.te10110043849684766642,W.Fast.te14364793385576792824];intro w;kernel_rfl
theorem e5:∀w:World,(λos=>segRunT treeTable pg w 11 (some (.ref 6)) 1 214 (s4 w os) (piecesOf (sl 4 1) env cE ⟨6,0,7,8⟩ B))=λos=>some (.next,s5 w os,cE,⟨8,0,9,8⟩):=by
 rw[W.Fast.te10110043849684766642,W.Fast.te14364793385576792824];intro w;kernel_rfl
theorem e6:∀w:World,(λos=>segRunT treeTable pg w 11 (some (.ref 6)) 1 214 (s5 w os) (piecesOf (sl 5 1) env cE ⟨8,0,9,8⟩ B))=λos=>some (.next,s6 w os,cE,⟨10,0,11,8⟩):=by
 rw[W.Fast.te10110043849684766642,W.Fast.te14364793385576792824];intro w;kernel_rfl
theorem e7:∀w:World,(λos=>segRunT treeTable pg w 11 (some (.ref 6)) 1 214 (s6 w os) (piecesOf (sl 6 1) env cE ⟨10,0,11,8⟩ B))=λos=>some (.next,s7 w os,cE,⟨12,0,13,8⟩):=by
 rw[W.Fast.te10110043849684766642,W.Fast.te14364793385576792824];intro w;kernel_rfl
theorem e8:∀w:World,(λos=>segRunT treeTable pg w 11 (some (.ref 6)) 1 377 (s7 w os) (piecesOf (sl 7 10) env cE ⟨12,0,13,8⟩ B))=λos=>some (.next,s8 w os,cE,⟨31,0,35,33⟩):=by
 rw[W.Fast.te10110043849684766642,W.Fast.te14364793385576792824];intro w;kernel_rfl
theorem e9:∀w:World,(λos=>segRunT treeTable pg w 11 (some (.ref 6)) 1 390 (s8 w os) (piecesOf (sl 17 14) env cE ⟨31,0,35,33⟩ B))=λos=>some (.next,s9 w os,cE,⟨92,0,93,65⟩):=by
 rw[W.Fast.te10110043849684766642,W.Fast.te14364793385576792824];intro w;kernel_rfl
theorem e10:∀w:World,(λos=>segRunT treeTable pg w 11 (some (.ref 6)) 1 226 (s9 w os) (piecesOf (sl 31 9) env cE ⟨92,0,93,65⟩ B))=λos=>some (.next,s10 w os,cE,⟨126,0,132,69⟩):=by
 rw[W.Fast.te10110043849684766642,W.Fast.te14364793385576792824];intro w;kernel_rfl
theorem e11:∀w:World,(λos=>segRunT treeTable pg w 11 (some (.ref 6)) 1 416 (s10 w os) (piecesOf (sl 40 1) env cE ⟨126,0,132,69⟩ B))=λos=>some (.next,s11 w os,cE,⟨133,0,171,32⟩):=by
 rw[W.Fast.te10110043849684766642,W.Fast.te14364793385576792824];intro w;kernel_rfl
theorem e12:∀w:World,(λos=>segRunT treeTable pg w 11 (some (.ref 6)) 1 390 (s11 w os) (piecesOf (sl 41 14) env cE ⟨133,0,171,32⟩ B))=λos=>some (.next,s12 w os,cE,⟨205,0,207,48⟩):=by
 rw[W.Fast.te10110043849684766642,W.Fast.te14364793385576792824];refine byRow2 "special-get-raises" ?_ ?_<;>(intro w;kernel_rfl)
theorem e13:∀w:World,(λos=>segRunT treeTable pg w 11 (some (.ref 6)) 1 387 (s12 w os) (piecesOf (sl 55 14) env cE ⟨205,0,207,48⟩ B))=λos=>some (.next,s13 w os,cE,⟨275,0,275,8⟩):=by
 rw[W.Fast.te10110043849684766642,W.Fast.te14364793385576792824];intro w;kernel_rfl
theorem e14:∀w:World,(λos=>segRunT treeTable pg w 11 (some (.ref 6)) 1 351 (s13 w os) (piecesOf (sl 69 12) env cE ⟨275,0,275,8⟩ B))=λos=>some (.next,s14 w os,cE,⟨368,0,388,63⟩):=by
 rw[W.Fast.te10110043849684766642,W.Fast.te14364793385576792824];intro w;kernel_rfl
theorem e15:∀w:World,(λos=>topRun treeTable pg w 11 (some (.ref 6)) 2 (s14 w os).abs ⟨doneF .next,cE,⟨368,0,388,63⟩,B⟩)=λos=>some (s15 w os):=by
 rw[W.Fast.te14082659384304107361,W.Fast.te14364793385576792824];intro w;kernel_rfl
noncomputable abbrev m15:Nat:=2
noncomputable abbrev t15:List Stmt:=[]
noncomputable abbrev R(w:World)(os:OsState)(m:Nat)(s:Shared)(t:List Stmt)(p:Pos):Prop:=topRun treeTable pg w 11 (some (.ref 6)) m s (restOf t env cE p B)=some (s15 w os)
theorem r15(w:World)(os:OsState):R w os m15 (s14 w os).abs t15 ⟨368,0,388,63⟩:=congrFun (e15 w) os
noncomputable abbrev m14:Nat:=351+m15
noncomputable abbrev t14:List Stmt:=sl 69 12++t15
theorem r14(w:World)(os:OsState):R w os m14 (s13 w os).abs t14 ⟨275,0,275,8⟩:=piece_app (segRun_of (congrFun (e14 w) os)) (r15 w os)
noncomputable abbrev m13:Nat:=387+m14
noncomputable abbrev t13:List Stmt:=sl 55 14++t14
theorem r13(w:World)(os:OsState):R w os m13 (s12 w os).abs t13 ⟨205,0,207,48⟩:=piece_app (segRun_of (congrFun (e13 w) os)) (r14 w os)
noncomputable abbrev m12:Nat:=390+m13
noncomputable abbrev t12:List Stmt:=sl 41 14++t13
theorem r12(w:World)(os:OsState):R w os m12 (s11 w os).abs t12 ⟨133,0,171,32⟩:=piece_app (segRun_of (congrFun (e12 w) os)) (r13 w os)
noncomputable abbrev m11:Nat:=416+m12
noncomputable abbrev t11:List Stmt:=sl 40 1++t12
theorem r11(w:World)(os:OsState):R w os m11 (s10 w os).abs t11 ⟨126,0,132,69⟩:=piece_app (segRun_of (congrFun (e11 w) os)) (r12 w os)
noncomputable abbrev m10:Nat:=226+m11
noncomputable abbrev t10:List Stmt:=sl 31 9++t11
theorem r10(w:World)(os:OsState):R w os m10 (s9 w os).abs t10 ⟨92,0,93,65⟩:=piece_app (segRun_of (congrFun (e10 w) os)) (r11 w os)
noncomputable abbrev m9:Nat:=390+m10
noncomputable abbrev t9:List Stmt:=sl 17 14++t10
theorem r9(w:World)(os:OsState):R w os m9 (s8 w os).abs t9 ⟨31,0,35,33⟩:=piece_app (segRun_of (congrFun (e9 w) os)) (r10 w os)
noncomputable abbrev m8:Nat:=377+m9
noncomputable abbrev t8:List Stmt:=sl 7 10++t9
theorem r8(w:World)(os:OsState):R w os m8 (s7 w os).abs t8 ⟨12,0,13,8⟩:=piece_app (segRun_of (congrFun (e8 w) os)) (r9 w os)
noncomputable abbrev m7:Nat:=214+m8
noncomputable abbrev t7:List Stmt:=sl 6 1++t8
theorem r7(w:World)(os:OsState):R w os m7 (s6 w os).abs t7 ⟨10,0,11,8⟩:=piece_app (segRun_of (congrFun (e7 w) os)) (r8 w os)
noncomputable abbrev m6:Nat:=214+m7
noncomputable abbrev t6:List Stmt:=sl 5 1++t7
theorem r6(w:World)(os:OsState):R w os m6 (s5 w os).abs t6 ⟨8,0,9,8⟩:=piece_app (segRun_of (congrFun (e6 w) os)) (r7 w os)
noncomputable abbrev m5:Nat:=214+m6
noncomputable abbrev t5:List Stmt:=sl 4 1++t6
theorem r5(w:World)(os:OsState):R w os m5 (s4 w os).abs t5 ⟨6,0,7,8⟩:=piece_app (segRun_of (congrFun (e5 w) os)) (r6 w os)
noncomputable abbrev m4:Nat:=214+m5
noncomputable abbrev t4:List Stmt:=sl 3 1++t5
theorem r4(w:World)(os:OsState):R w os m4 (s3 w os).abs t4 ⟨4,0,5,8⟩:=piece_app (segRun_of (congrFun (e4 w) os)) (r5 w os)
noncomputable abbrev m3:Nat:=214+m4
noncomputable abbrev t3:List Stmt:=sl 2 1++t4
theorem r3(w:World)(os:OsState):R w os m3 (s2 w os).abs t3 ⟨2,0,3,8⟩:=piece_app (segRun_of (congrFun (e3 w) os)) (r4 w os)
noncomputable abbrev m2:Nat:=196+m3
noncomputable abbrev t2:List Stmt:=sl 0 2++t3
theorem r2(w:World)(os:OsState):R w os m2 (s1 w os).abs t2 ⟨0,0,0,0⟩:=piece_app (segRun_of (congrFun (e2 w) os)) (r3 w os)
theorem tb:bd=t2:=by kernel_rfl
theorem run(w:World)(os:OsState):topRun treeTable pg w 11 (some (.ref 6)) (12+(1+m2)) (sz w os) (topStub pg)=some (s15 w os):=by
 have r:=r2 w os;unfold R at r;rw[<-congrArg (λx=>restOf x env cE ⟨0,0,0,0⟩ B) tb]at r;exact go_top (congrFun (e0 w) os) (piece_block (congrFun (e1 w) os) r)
theorem op:∀w:World,(fencedOpening treeTable pg w 7706).map (λs=>(s.heap,s.gens,s.drawn,s.toks))=some (boot_heap w.params,Array.mk [],boot_drawn,boot_toks):=
 boot_open (by kernel_rfl) (by decide) (λs=>by kernel_rfl)
theorem size:∀w:World,((boot_heap w.params).isNs mainGlobals&&(Array.mk []:Array GenState).size==0,(boot_heap w.params).objs.size,(boot_heap w.params).nsMap mainGlobals "__annotations__")=(true,11,(some (.ref 6))):=by
 rw[W.Fast.te8920871248978507458];intro w;kernel_rfl
noncomputable def K(P:Params):Frag:=(nat_lit 2,boot_o_2 P)::(nat_lit 3,ns P (en P "__name__" 165 (.str "law_duskbook_k56_pages_read" 753)) 84 85)::(nat_lit 100,tu [(.str "eithers" 305),(.str "sums" 306),(.str "ifs" 307),(.str "nots" 308)])::(nat_lit 106,oC "is_beacon" 316 21 1 101 (.ref 103) (.ref 104) 105 181 320)::(nat_lit 107,oF "is_beacon" 13 p0 106)::(nat_lit 113,oC "checked_beacon" 323 23 1 108 (.ref 110) (.ref 111) 112 181 327)::(nat_lit 114,oF "checked_beacon" 14 p0 113)::(nat_lit 120,oC "checked_truth" 330 27 1 115 (.ref 117) (.ref 118) 119 181 334)::(nat_lit 121,oF "checked_truth" 15 p0 120)::(nat_lit 125,oC "checked_beacons" 337 31 1 122 .none .none 124 181 340)::(nat_lit 126,oF "checked_beacons" 16 p0 125)::(nat_lit 130,oC "either_made" 343 36 1 127 .none .none 129 181 346)::(nat_lit 131,oF "either_made" 17 p0 130)::(nat_lit 137,oC "sum_made" 349 43 1 132 (.ref 134) (.ref 135) 136 181 353)::(nat_lit 138,oF "sum_made" 18 p0 137)::(nat_lit 144,oC "if_made" 356 45 1 139 (.ref 141) (.ref 142) 143 181 361)::(nat_lit 145,oF "if_made" 19 p0 144)::(nat_lit 151,oC "rule_made" 364 50 2 146 (.ref 148) (.ref 149) 150 181 369)::(nat_lit 152,oF "rule_made" 20 p0 151)::(nat_lit 156,oC "book_made" 372 56 2 153 .none .none 155 181 375)::(nat_lit 157,oF "book_made" 21 p0 156)::(nat_lit 161,oC "either_holds" 378 62 2 158 .none .none 160 181 381)::(nat_lit 162,oF "either_holds" 22 p0 161)::(nat_lit 166,oC "sum_holds" 384 64 2 163 .none .none 165 181 387)::(nat_lit 167,oF "sum_holds" 23 p0 166)::(nat_lit 171,oC "if_holds" 390 67 3 168 .none .none 170 181 393)::(nat_lit 172,oF "if_holds" 24 p0 171)::(nat_lit 178,oC "rule_holds" 396 71 3 173 (.ref 175) (.ref 176) 177 181 402)::(nat_lit 179,oF "rule_holds" 25 p0 178)::(nat_lit 183,oC "broken_rules" 405 77 2 180 .none .none 182 181 408)::(nat_lit 184,oF "broken_rules" 26 p0 183)::(nat_lit 190,oC "holds" 411 79 2 185 (.ref 187) (.ref 188) 189 181 416)::(nat_lit 191,oF "holds" 27 p0 190)::(nat_lit 195,oC "beacons_in" 419 81 2 192 .none .none 194 181 422)::(nat_lit 196,oF "beacons_in" 28 p0 195)::(nat_lit 202,oC "beacons_of" 425 87 1 197 (.ref 199) (.ref 200) 201 181 431)::(nat_lit 203,oF "beacons_of" 29 p0 202)::(nat_lit 207,oC "without" 434 92 2 204 .none .none 206 181 437)::(nat_lit 208,oF "without" 30 p0 207)::(nat_lit 212,oC "either_left" 440 94 3 209 .none .none 211 181 443)::(nat_lit 213,oF "either_left" 31 p0 212)::(nat_lit 219,oC "sum_left" 446 98 3 214 (.ref 216) (.ref 217) 218 181 454)::(nat_lit 220,oF "sum_left" 32 p0 219)::(nat_lit 226,oC "if_left" 457 104 3 221 (.ref 223) (.ref 224) 225 181 464)::(nat_lit 227,oF "if_left" 33 p0 226)::(nat_lit 233,oC "rule_left" 467 111 4 228 (.ref 230) (.ref 231) 232 181 474)::(nat_lit 234,oF "rule_left" 34 p0 233)::(nat_lit 238,oC "left_behind" 477 119 3 235 .none .none 237 181 480)::(nat_lit 239,oF "left_behind" 35 p0 238)::(nat_lit 240,tu [(.str "keeper" 483),(.str "storm" 484)])::(nat_lit 246,oC "is_hand" 488 124 1 241 (.ref 243) (.ref 244) 245 181 492)::(nat_lit 247,oF "is_hand" 38 p1 246)::(nat_lit 251,oC "check_hands" 495 126 2 248 .none .none 250 181 498)::(nat_lit 252,oF "check_hands" 39 p1 251)::(nat_lit 265,⟨(.type "code"),none,(.fields #[(.str "__init__" 513),(.str "Watch.__init__" 514),(.str "/claim/cut.py" 515),(.int (135) 0),(.int (3) 0),(.int (0) 0),(.int (0) 0),(.int (3) 0),(.ref 260),(.bool true),(.int (181) 0),(.ref 261),.none,(.ref 262),(.ref 263),(.ref 264),(.int (519) 0),(.int (135) 0),(.str "/claim/cut.py" 520)]),#[]⟩)::(nat_lit 266,oM "__init__" "Watch.__init__" 40 0 p1 265)::(nat_lit 272,⟨(.type "code"),none,(.fields #[(.str "turn" 522),(.str "Watch.turn" 523),(.str "/claim/cut.py" 524),(.int (141) 0),(.int (1) 0),(.int (0) 0),(.int (0) 0),(.int (3) 0),(.ref 267),(.bool true),(.int (181) 0),(.ref 268),.none,(.ref 269),(.ref 270),(.ref 271),(.int (526) 0),(.int (141) 0),(.str "/claim/cut.py" 527)]),#[]⟩)::(nat_lit 273,oM "turn" "Watch.turn" 40 1 p1 272)::(nat_lit 279,⟨(.type "code"),none,(.fields #[(.str "evening" 529),(.str "Watch.evening" 530),(.str "/claim/cut.py" 531),(.int (146) 0),(.int (1) 0),(.int (0) 0),(.int (0) 0),(.int (3) 0),(.ref 274),(.bool true),(.int (181) 0),(.ref 275),.none,(.ref 276),(.ref 277),(.ref 278),(.int (533) 0),(.int (146) 0),(.str "/claim/cut.py" 534)]),#[]⟩)::(nat_lit 280,oM "evening" "Watch.evening" 40 2 p1 279)::(nat_lit 286,⟨(.type "code"),none,(.fields #[(.str "left" 536),(.str "Watch.left" 537),(.str "/claim/cut.py" 538),(.int (149) 0),(.int (1) 0),(.int (0) 0),(.int (0) 0),(.int (3) 0),(.ref 281),(.bool true),(.int (181) 0),(.ref 282),.none,(.ref 283),(.ref 284),(.ref 285),(.int (543) 0),(.int (149) 0),(.str "/claim/cut.py" 544)]),#[]⟩)::(nat_lit 287,oM "left" "Watch.left" 40 3 p1 286)::(nat_lit 293,⟨(.type "code"),none,(.fields #[(.str "winner" 546),(.str "Watch.winner" 547),(.str "/claim/cut.py" 548),(.int (155) 0),(.int (1) 0),(.int (0) 0),(.int (0) 0),(.int (3) 0),(.ref 288),(.bool true),(.int (181) 0),(.ref 289),.none,(.ref 290),(.ref 291),(.ref 292),(.int (550) 0),(.int (155) 0),(.str "/claim/cut.py" 551)]),#[]⟩)::(nat_lit 294,oM "winner" "Watch.winner" 40 4 p1 293)::(nat_lit 300,⟨(.type "code"),none,(.fields #[(.str "settle" 553),(.str "Watch.settle" 554),(.str "/claim/cut.py" 555),(.int (160) 0),(.int (2) 0),(.int (0) 0),(.int (0) 0),(.int (3) 0),(.ref 295),(.bool true),(.int (181) 0),(.ref 296),.none,(.ref 297),(.ref 298),(.ref 299),(.int (558) 0),(.int (160) 0),(.str "/claim/cut.py" 559)]),#[]⟩)::(nat_lit 301,oM "settle" "Watch.settle" 40 5 p1 300)::(nat_lit 307,⟨(.type "code"),none,(.fields #[(.str "back" 561),(.str "Watch.back" 562),(.str "/claim/cut.py" 563),(.int (168) 0),(.int (1) 0),(.int (0) 0),(.int (0) 0),(.int (3) 0),(.ref 302),(.bool true),(.int (181) 0),(.ref 303),.none,(.ref 304),(.ref 305),(.ref 306),(.int (565) 0),(.int (168) 0),(.str "/claim/cut.py" 566)]),#[]⟩)::(nat_lit 308,oM "back" "Watch.back" 40 6 p1 307)::(nat_lit 310,⟨(.type "dict"),none,(.dict #[en P "__module__" 508 (.str "duskbook.watches" 486),en P "__firstlineno__" 512 (.int (133) 511),en P "__init__" 521 (.ref 266),en P "turn" 528 (.ref 273),en P "evening" 535 (.ref 280),en P "left" 545 (.ref 287),en P "winner" 552 (.ref 294),en P "settle" 560 (.ref 301),en P "back" 567 (.ref 308),en P "__static_attributes__" 571 (.ref 309),en P "__dict__" 573 (.ref 312),en P "__weakref__" 575 (.ref 313),en P "__doc__" 576 .none] 4),#[]⟩)::(nat_lit 311,⟨(.type "type"),none,(.cls ⟨"Watch",[(.type "object")],[(.ref 311),(.type "object")],310,"Watch",true,[],[],false,none,false⟩),#[none,none,(some (.str "Watch" 501)),(some (.str "Watch" 509)),(some (.builtin "object.__new__")),(some (.bool true))]⟩)::(nat_lit 316,⟨(.type "dict"),none,(.dict #[en P "keeper" 585 (.str "k" 586),en P "storm" 587 (.str "s" 588)] 2),#[]⟩)::(nat_lit 317,⟨(.type "dict"),none,(.dict #[en P "k" 592 (.str "keeper" 593),en P "s" 594 (.str "storm" 595)] 2),#[]⟩)::(nat_lit 318,⟨(.type "dict"),none,(.dict #[en P "1" 599 (.bool true),en P "0" 600 (.bool false)] 2),#[]⟩)::(nat_lit 319,⟨(.type "dict"),none,(.dict #[en P "+" 604 (.bool true),en P "-" 605 (.bool false)] 2),#[]⟩)::(nat_lit 320,⟨(.type "dict"),none,(.dict #[en P "odd" 609 (.bool true),en P "even" 610 (.bool false)] 2),#[]⟩)::(nat_lit 326,oC "saying_written" 614 180 1 321 (.ref 323) (.ref 324) 325 181 619)::(nat_lit 327,oF "saying_written" 49 p2 326)::(nat_lit 331,oC "rule_written" 622 183 2 328 .none .none 330 181 625)::(nat_lit 332,oF "rule_written" 50 p2 331)::(nat_lit 338,oC "signs_written" 628 190 2 333 (.ref 335) (.ref 336) 337 181 633)::(nat_lit 339,oF "signs_written" 51 p2 338)::(nat_lit 343,oC "page_written" 636 192 1 340 .none .none 342 181 639)::(nat_lit 344,oF "page_written" 52 p2 343)::(nat_lit 348,oC "number_read" 642 199 1 345 .none .none 347 181 645)::(nat_lit 349,oF "number_read" 53 p2 348)::(nat_lit 355,oC "beacon_read" 648 205 1 350 (.ref 352) (.ref 353) 354 181 653)::(nat_lit 356,oF "beacon_read" 54 p2 355)::(nat_lit 362,oC "saying_read" 656 208 1 357 (.ref 359) (.ref 360) 361 181 661)::(nat_lit 363,oF "saying_read" 55 p2 362)::(nat_lit 369,oC "hand_read" 664 213 1 364 (.ref 366) (.ref 367) 368 181 668)::(nat_lit 370,oF "hand_read" 56 p2 369)::(nat_lit 376,oC "truth_read" 671 215 1 371 (.ref 373) (.ref 374) 375 181 675)::(nat_lit 377,oF "truth_read" 57 p2 376)::(nat_lit 381,oC "each_read" 678 217 2 378 .none .none 380 181 681)::(nat_lit 382,oF "each_read" 58 p2 381)::(nat_lit 388,oC "sum_read" 684 222 1 383 (.ref 385) (.ref 386) 387 181 688)::(nat_lit 389,oF "sum_read" 59 p2 388)::(nat_lit 395,oC "if_read" 691 226 1 390 (.ref 392) (.ref 393) 394 181 697)::(nat_lit 396,oF "if_read" 60 p2 395)::(nat_lit 402,oC "rule_read" 700 234 2 397 (.ref 399) (.ref 400) 401 181 705)::(nat_lit 403,oF "rule_read" 61 p2 402)::(nat_lit 409,oC "kind_read" 708 242 1 404 (.ref 406) (.ref 407) 408 181 712)::(nat_lit 410,oF "kind_read" 62 p2 409)::(nat_lit 416,oC "hands_read" 715 246 1 411 (.ref 413) (.ref 414) 415 181 719)::(nat_lit 417,oF "hands_read" 63 p2 416)::(nat_lit 423,oC "settled_read" 722 250 1 418 (.ref 420) (.ref 421) 422 181 726)::(nat_lit 424,oF "settled_read" 64 p2 423)::(nat_lit 428,oC "rows_read" 729 254 1 425 .none .none 427 181 732)::(nat_lit 429,oF "rows_read" 65 p2 428)::(nat_lit 435,oC "watch_made" 735 259 4 430 (.ref 432) (.ref 433) 434 181 744)::(nat_lit 436,oF "watch_made" 66 p2 435)::(nat_lit 440,oC "page_read" 747 264 1 437 .none .none 439 181 750)::(nat_lit 441,oF "page_read" 67 p2 440)::(nat_lit 447,oC "_law_cell" 755 276 2 442 (.ref 444) (.ref 445) 446 181 760)::(nat_lit 448,oF "_law_cell" 69 p3 447)::(nat_lit 454,oC "_law_mixed" 763 280 2 449 (.ref 451) (.ref 452) 453 181 768)::(nat_lit 455,oF "_law_mixed" 70 p3 454)::(nat_lit 461,oC "_law_rule" 771 282 3 456 (.ref 458) (.ref 459) 460 181 785)::(nat_lit 462,oF "_law_rule" 71 p3 461)::(nat_lit 466,oC "_law_drawn" 788 307 1 463 .none .none 465 181 791)::(nat_lit 467,oF "_law_drawn" 72 p3 466)::(nat_lit 473,oC "_law_saying_word" 794 319 1 468 (.ref 470) (.ref 471) 472 181 798)::(nat_lit 474,oF "_law_saying_word" 73 p3 473)::(nat_lit 478,oC "_law_rule_words" 801 321 2 475 .none .none 477 181 804)::(nat_lit 479,oF "_law_rule_words" 74 p3 478)::(nat_lit 483,oC "_law_rows" 807 331 4 480 .none .none 482 181 810)::(nat_lit 484,oF "_law_rows" 75 p3 483)::(nat_lit 488,oC "_law_page" 813 340 1 485 .none .none 487 181 816)::(nat_lit 489,oF "_law_page" 76 p3 488)::(nat_lit 495,oC "_law_turned" 819 342 3 490 (.ref 492) (.ref 493) 494 181 827)::(nat_lit 496,oF "_law_turned" 77 p3 495)::(nat_lit 502,oC "_law_left" 830 352 3 497 (.ref 499) (.ref 500) 501 181 838)::(nat_lit 503,oF "_law_left" 78 p3 502)::(nat_lit 507,oC "_law_right" 841 357 5 504 .none .none 506 181 844)::(nat_lit 508,oF "_law_right" 79 p3 507)::(nat_lit 512,oC "law" 847 368 1 509 .none .none 511 181 850)::(nat_lit 513,oF "law" 80 p3 512)::[]
noncomputable def hk:Hook:=kHook K (2::3::100::106::107::113::114::120::121::125::126::130::131::137::138::144::145::151::152::156::157::161::162::166::167::171::172::178::179::183::184::190::191::195::196::202::203::207::208::212::213::219::220::226::227::233::234::238::239::240::246::247::251::252::265::266::272::273::279::280::286::287::293::294::300::301::307::308::310::311::316::317::318::319::320::326::327::331::332::338::339::343::344::348::349::355::356::362::363::369::370::376::377::381::382::388::389::395::396::402::403::409::410::416::417::423::424::428::429::435::436::440::441::447::448::454::455::461::462::466::467::473::474::478::479::483::484::488::489::495::496::502::503::507::508::512::513::[]) (λ_=>by kernel_rfl)
noncomputable def Q:Program:={ pg with main:={ pg.main with body:=[Lw.top 80] } }
noncomputable def ls:AK:=(["DuskError","NoBook","NoHands","Over","NoLight","NoneSettled","NoPage","KINDS","BEACON_COUNT","MOST_RULES","MOST_SAYINGS","is_beacon","checked_beacon","checked_truth","checked_beacons","either_made","sum_made","if_made","rule_made","book_made","either_holds","sum_holds","if_holds","rule_holds","broken_rules","holds","beacons_in","beacons_of","without","either_left","sum_left","if_left","rule_left","left_behind","HANDS","is_hand","check_hands","Watch","FIGURES","MOST_FIGURES","LETTERS","HANDS_BY_LETTER","TRUTHS_BY_SIGN","TRUTHS_BY_MARK","ODDS_BY_WORD","saying_written","rule_written","signs_written","page_written","number_read"]++["beacon_read","saying_read","hand_read","truth_read","each_read","sum_read","if_read","rule_read","kind_read","hands_read","settled_read","rows_read","watch_made","page_read","_law_cell","_law_mixed","_law_rule","_law_drawn","_law_saying_word","_law_rule_words","_law_rows","_law_page","_law_turned","_law_left","_law_right"]).map Str.ofString
noncomputable abbrev Xt(s:Shared):Bool:=xlAt Q [] s&&recOk (RowW.records (OpenRow.toRowW PySem.Challenge.rw_duskbook_k56_pages_read.row)) s
theorem Yaf8:∀w:World,(λos=>((staticsOk (importedModules pg.main.body) (boot_heap w.params) (h15 w.params)&&namesBound pg (h15 w.params)&&gensDone (s15 w os)&&laidKept (boot_heap w.params) (h15 w.params)),openSeen Q ls (importedModules pg.main.body) Xt true (s15 w os),Hook.obs hk (s15 w os)))=λ_=>(true,openGood Q ls,Hook.val hk w):=by
 rw[W.Fast.te5923862056798008813,W.Fast.te4187177175401517315];intro w;kernel_rfl
theorem left:LeftO pg Q ls Xt (Hook.obs hk) (Hook.val hk) 7706:=LeftO.of_pieces (H₁:=h15) (M:=12+(1+m2)) op size run (by decide) Yaf8
end Op
open PySem PySem.W PyProof.Rows
set_option maxRecDepth 100000 in
theorem PySem.Challenge.cw_duskbook_k56_pages_read_holds : PySem.Challenge.rw_duskbook_k56_pages_read.Holds := by
 w_on;o_law
 refine holds_open (q:=Op.Q) (loose:=Op.ls) (Xt:=Op.Xt) (XP:=XL Op.Q []) (Yf:=Hook.obs Op.hk) (Ya:=Hook.val Op.hk) (YP:=InK Op.K) (N:=7706) Op.left (Hook.of Op.hk) (Hook.keeps Op.hk) (λs e=>xl_of s (Bool.and_eq_true_iff.mp e).1) XL.keeps (by rfl) (by rfl) (by rfl) (λs e=>recFacts_of (Bool.and_eq_true_iff.mp e).2) (by rfl) (by assumption) (by decide +kernel) ⟨rfl,rfl,rfl,rfl,rfl,by decide +kernel⟩ ?hw ?hc
 (case hw=>w_witness2)
 k_fill
 refine Lw.walk Lw.law_true (l:=PySem.Challenge.rw_duskbook_k56_pages_read) rfl rfl (K:=Op.K) (λw h Y=>Y) ?F
 case F=>
  intro w mg fa h KX G hmg;refine' Lw.all_mk KX G hmg ?_ ?_ ?_ ?_ ?_ ?_ ?_ ?_ ?_ ?_ ?_ ?_ ?_ ?_ ?_ ?_ ?_ ?_ ?_ ?_ ?_ ?_ ?_ ?_ ?_ ?_ ?_ ?_ ?_ ?_ ?_ ?_ ?_ ?_ ?_ ?_ ?_ ?_ ?_ ?_ ?_ ?_ ?_ ?_ ?_ ?_ ?_ ?_ ?_ ?_ ?_ ?_ ?_ ?_ ?_ ?_ ?_ ?_ ?_ ?_ ?_ ?_ ?_ ?_ ?_ ?_ ?_ ?_ ?_ ?_ ?_ ?_ ?_ ?_ ?_ ?_ ?_ ?_ ?_ ?_ ?_ ?_ ?_ ?_ ?_ ?_ ?_ ?_ ?_ ?_ ?_ ?_ ?_ ?_ ?_ ?_ ?_ ?_ ?_ ?_ ?_ ?_ ?_ ?_ ?_ ?_ ?_
  all_goals (try (first|(refine' M.mq_mk ?a ?pg ?hd ?po ?sa ?i ?n ?l ?cd ?k;(case a=>first|k_is|kernel_rfl);(case pg=>first|k_is|kernel_rfl);(case hd=>first|k_is|kernel_rfl);(case po=>first|k_is|kernel_rfl);(case sa=>first|k_is|kernel_rfl);(case i=>first|k_is|kernel_rfl);(case n=>first|k_is|kernel_rfl);(case l=>first|k_is|kernel_rfl);(case cd=>first|k_is|kernel_rfl);(case k=>first|k_is|kernel_rfl))|(refine' M.nq_mk ?a ?pg ?hd ?po ?sa ?n;(case a=>first|k_is|kernel_rfl);(case pg=>first|k_is|kernel_rfl);(case hd=>first|k_is|kernel_rfl);(case po=>first|k_is|kernel_rfl);(case sa=>first|k_is|kernel_rfl);(case n=>first|k_is|kernel_rfl))|(refine' M.iqc_mk ?a ?mk ?kc ?i ?n ?l ?cd ?k;(case a=>first|k_is|kernel_rfl);(case mk=>first|k_is|kernel_rfl);(case kc=>first|k_is|kernel_rfl);(case i=>first|k_is|kernel_rfl);(case n=>first|k_is|kernel_rfl);(case l=>first|k_is|kernel_rfl);(case cd=>first|k_is|kernel_rfl);(case k=>first|k_is|kernel_rfl))|(refine' M.iqz_mk ?a ?mk ?kc ?i ?n ?l ?cd ?d;(case a=>first|k_is|kernel_rfl);(case mk=>first|k_is|kernel_rfl);(case kc=>first|k_is|kernel_rfl);(case i=>first|k_is|kernel_rfl);(case n=>first|k_is|kernel_rfl);(case l=>first|k_is|kernel_rfl);(case cd=>first|k_is|kernel_rfl);(case d=>first|k_is|kernel_rfl))|(refine' M.kq_mk (mc:=.type "type") ?e ?i ?l ?cd ?k ?s ?r ?g ?h;(case e=>first|k_is|kernel_rfl);(case i=>first|k_is|kernel_rfl);(case l=>first|k_is|kernel_rfl);(case cd=>first|k_is|kernel_rfl);(case k=>first|k_is|kernel_rfl);(case s=>first|k_is|kernel_rfl);(case r=>first|k_is|kernel_rfl);(case g=>first|k_is|kernel_rfl);(case h=>first|k_is|kernel_rfl))|(refine' M.isk_mk ?a ?a0 ?pg ?hd ?po ?sa ?e ?f ?g ?m ?k;(case a=>first|k_is|kernel_rfl);(case a0=>first|k_is|kernel_rfl);(case pg=>first|k_is|kernel_rfl);(case hd=>first|k_is|kernel_rfl);(case po=>first|k_is|kernel_rfl);(case sa=>first|k_is|kernel_rfl);(case e=>first|k_is|kernel_rfl);(case f=>first|k_is|kernel_rfl);(case g=>first|k_is|kernel_rfl);(case m=>first|k_is|kernel_rfl);(case k=>first|k_is|kernel_rfl))|(refine' Lw.fk_mk ?a ?l ?c ?k;(case a=>k_is);(case l=>k_is);(case c=>k_is);(case k=>k_is))|k_is))
