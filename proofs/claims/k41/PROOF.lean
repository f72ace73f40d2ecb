import PyProof.Rows.All
import Wide.All
import OpenK.AllK
import Wide.FinOn
import Lean
import PyProof.EqAt
import PyProof.EqKinds
import PyProof.TupleCall
import PySem.Challenge.RW_duskbook_k41_settlers
set_option Elab.async false
set_option linter.all false
set_option maxRecDepth 100000
abbrev fsc(l:List (PySem.Str×PySem.NameKind)):PySem.Scope:={ kind:=.function,names:=l,isGenerator:=false,isCoroutine:=false,more:=[] }
theorem qa{α β:Type _}{o:Option α}{f:α->Option β}{b:β}(h:o.bind f=some b):∃a,o=some a/\f a=some b:=Option.bind_eq_some_iff.mp h
theorem qb{α β:Type _}{o:Option α}{f:α->β}{b:β}(h:o.map f=some b):∃a,o=some a/\f a=b:=Option.map_eq_some_iff.mp h
def qc:=@Option.bind_some
def qd:=@PySem.Heap.get?_push_of_some
def qe:=@List.length_map
def qf:=@List.mem_cons_of_mem
def qg:=@List.mem_cons_self
def qh:=@Bool.false_ne_true
def qi:=@Array.length_toList
def qj:=@List.size_toArray
def qk:=@PySem.Heap.lt_size
def ql:=@Nat.ne_of_lt
theorem qm{α:Type _}{l:List α}{i:Nat}{a:α}(h:l[i]?=some a):∃h:i<l.length,l[i]=a:=List.getElem?_eq_some_iff.mp h
def qo:=@PySem.Heap.get?_push_size
def qp:=@List.getElem?_eq_getElem
def qq:=@List.length_cons
theorem qr{α:Type _}{a b:α}{l:List α}(h:a∈b::l):a=b\/a∈l:=List.mem_cons.mp h
def qt:=@Nat.le_refl
theorem qu{α:Type _}{a:α}{s t:List α}(h:a∈s++t):a∈s\/a∈t:=List.mem_append.mp h
def qv:=@Nat.lt_succ_of_lt
theorem qw{α β:Type _}{b:β}{f:α->β}{l:List α}(h:b∈l.map f):∃a,a∈l/\f a=b:=List.mem_map.mp h
def qx:=@List.length_append
def qy:=@Nat.lt_succ_self
theorem qz{m n:Nat}(h:m∈List.range n):m<n:=List.mem_range.mp h
def q0:=@List.map_cons
def Qa:=@List.getElem?_set_ne
def Qb:=@Nat.lt_of_lt_of_le
def Qc:=@Nat.zero_le
def Qd:=@Nat.lt_irrefl
def Qe:=@List.getElem?_map
def Qf:=@Bool.and_eq_true
def Qg:=@List.lookup_cons
def Qh:=@List.getElem?_set_self
def Qi:=@List.mem_append_right
set_option maxHeartbeats 4000000
local macro_rules|`(tactic|trivial)=>`(tactic|first|exact .inl rfl|exact .inr rfl|exact .inr (.inl rfl)|exact .inr (.inr rfl)|assumption)
local macro_rules|`(~~~$x)=>`(($x).heap.objs.size)|`(↑$x)=>`(some (.sh $x))
abbrev AB:=PySem.Value->PySem.Shared->Prop
abbrev AC:=List (PySem.Addr×PySem.Obj)
abbrev AD:=List PySem.Value
abbrev AE:=PySem.Str->Option PySem.Value
abbrev AF:=List Nat
abbrev AG:=List Int
abbrev AH:=List Bool
abbrev AJ:=Nat->Bool
abbrev AK:=List PySem.Str
abbrev AL:=List PySem.Expr
abbrev AM:=Option Nat
def wa:=@PySem.wpAny_bind
def wc:=@PySem.wpAny_pure
def we:=@PySem.wpAny_holding
def wf:=@PySem.wpAny_call_entry
def wg:=@PySem.wpAny_newObj_type
def wj:=@PySem.wpAny_setState_of
def wm:=@decide_eq_true_eq
def wn:=@decide_eq_true
def wo:=@decide_eq_false
def wt:=@List.map_append
def wu:=@Function.comp_def
def wv:=@PySem.Heap.SameBut.update
def wx:=@PySem.Heap.size_push
def wy:=@PySem.Heap.get?_update_self
def wz:=@PySem.codeAny_builtin
def w6:=@PySem.wpAny_mono
def w9:=@Option.some.inj
def ja:=@Int.toNat_natCast
def jb:=@List.append_nil
def jc:=@List.append_assoc
def jd:=@List.length_singleton
def je:=@PySem.plainId_quiet
def jf:=@PySem.Around.under_plainId
def jg:=@PySem.PassesOwn.never
def jh:=@PySem.Obj.data_mapFields
def ji:=@PySem.wpAny_attempt
def jj:=@PySem.sizeLine_eq
noncomputable section
namespace L2
open PySem PySem.Spec PyProof.Rows
abbrev Key:=Sum Int Str
def Yr3:Key->Value->Bool
 | .inl k,v=>Value.isInt k v
 | .inr x,v=>Value.isStrOf x v
def keyH(w:World):Key->Int
 | .inl k=>hashInt k
 | .inr x=>hashStr w x
theorem Ya1:∀{k:Key}{v:Value},Yr3 k v=true->(∃i t,k=Sum.inl i/\v=Value.int i t)\/(∃x t,k=Sum.inr x/\v=Value.str x t)
 | .inl i,v,h=>by
   obtain⟨t,e⟩:=Value.isInt_shape (k:=i) (v:=v) h;exact .inl ⟨i,t,rfl,e⟩
 | .inr x,v,h=>by
   obtain⟨t,e⟩:=Value.isStrOf_shape (x:=x) (v:=v) h;exact .inr ⟨x,t,rfl,e⟩
theorem Ys3(i:Int)(t:Tok):Yr3 (.inl i) (.int i t)=true:=by simp[Yr3,Value.isInt]
theorem Ys4(x:Str)(t:Tok):Yr3 (.inr x) (.str x t)=true:=by simp[Yr3,Value.isStrOf]
theorem y2u(a b:Int):decide ((Sum.inl a:Key)=Sum.inl b)=(a==b):=by
 by_cases e:a=b
 ·subst e;simp
 ·have h:¬(Sum.inl a:Key)=Sum.inl b:=λq=>e (Sum.inl.inj q)
  rw[wo h];exact(beq_eq_false_iff_ne.mpr e).symm
theorem y2v(a b:Str):decide ((Sum.inr a:Key)=Sum.inr b)=decide (a=b):=by
 by_cases e:a=b
 ·subst e;simp
 ·have h:¬(Sum.inr a:Key)=Sum.inr b:=λq=>e (Sum.inr.inj q)
  rw[wo h,wo e]
theorem y2w(a:Int)(b:Str):decide ((Sum.inl a:Key)=Sum.inr b)=false:=wo (λq=>nomatch q)
theorem y2x(a:Str)(b:Int):decide ((Sum.inr a:Key)=Sum.inl b)=false:=wo (λq=>nomatch q)
def Ybi(prog:Program)(w:World):KeyKind prog w Key where
 is:=Yr3
 hash:=keyH w
 inj:=λv a b ha hb=>by
  rcases Ya1 ha with⟨i,t,rfl,rfl⟩|⟨x,t,rfl,rfl⟩
  ·rcases Ya1 hb with⟨j,u,rfl,e⟩|⟨y,u,rfl,e⟩
   ·injection e with e1 _;rw[e1]
   ·exact nomatch e
  ·rcases Ya1 hb with⟨j,u,rfl,e⟩|⟨y,u,rfl,e⟩
   ·exact nomatch e
   ·injection e with e1 _;rw[e1]
 byValue:=λk v h=>by
  rcases Ya1 h with⟨i,t,rfl,rfl⟩|⟨x,t,rfl,rfl⟩<;>rfl
 pyHash:=λhv h=>by
  rcases Ya1 hv with⟨i,t,rfl,rfl⟩|⟨x,t,rfl,rfl⟩
  ·exact wpAny_pyHash_int h
  ·exact wpAny_pyHash_str h
 eqBool:=λhu hv h=>by
  rcases Ya1 hu with⟨i,t,rfl,rfl⟩|⟨x,t,rfl,rfl⟩
  ·rcases Ya1 hv with⟨j,u,rfl,rfl⟩|⟨y,u,rfl,rfl⟩
   ·rw[y2u]at h;exact wpAny_eqBool_int h
   ·rw[y2w]at h;exact SeqAt.EqAt.int_str i t y u _ _ _ _ h
  ·rcases Ya1 hv with⟨j,u,rfl,rfl⟩|⟨y,u,rfl,rfl⟩
   ·rw[y2x]at h;exact SeqAt.EqAt.str_int x t j u _ _ _ _ h
   ·rw[y2v]at h;exact wpAny_eqBool_str h
 «strs»:=λk x t v h=>by
  rcases Ya1 h with⟨i,u,rfl,e⟩|⟨y,u,rfl,e⟩
  ·exact nomatch e
  ·injection e with e1 _
   subst e1;cases v<;>rfl
theorem Ypf(prog:Program)(w:World)(i:Int)(t:Tok):(Ybi prog w).is (.inl i) (.int i t)=true:=Ys3 i t
theorem Ypg(prog:Program)(w:World)(x:Str)(t:Tok):(Ybi prog w).is (.inr x) (.str x t)=true:=Ys4 x t
inductive V where
 | non|bl (b:Bool)|int (i:Int)|str (x:Str)|byt (b:Array UInt8)|flt (b:UInt64)|ref (a:Addr)|ty (n:String)
 deriving DecidableEq
abbrev AN:=List V
def RelV:V->Value->Prop
 | .non,u=>u=Value.none
 | .bl b,u=>u=Value.bool b
 | .int i,u=>∃t,u=Value.int i t
 | .str x,u=>∃t,u=Value.str x t
 | .byt b,u=>∃t,u=Value.bytes b t
 | .flt b,u=>∃t,u=Value.float b t
 | .ref a,u=>u=Value.ref a
 | .ty n,u=>u=Value.type n
abbrev Vals:AN->AD->Prop:=Paired RelV
theorem Vals.length{xs:AN}{us:AD}(r:Vals xs us):xs.length=us.length:=Paired.length r
theorem Vals.get:∀{xs:AN}{us:AD}{i:Nat}{x:V},Vals xs us->xs[i]?=some x->∃u,us[i]?=some u/\RelV x u
 | _,_,_,_,.nil,e=>by simp at e
 | _,_,0,_,.cons r _,e=>by simp at e;subst e;exact⟨_,rfl,r⟩
 | _,_,i+1,x,.cons _ t,e=>by
   obtain⟨u,h1,h2⟩:=Vals.get (i:=i) (x:=x) t (by simpa using e);exact⟨u,by simpa using h1,h2⟩
theorem Vals.set{x:V}{u:Value}(r:RelV x u):∀{xs:AN}{us:AD} (i:Nat),Vals xs us->Vals (xs.set i x) (us.set i u)
 | _,_,_,.nil=>.nil
 | _,_,0,.cons _ t=>.cons r t
 | _,_,i+1,.cons q t=>.cons q (Vals.set r i t)
theorem Vals.append:∀{xs ys:AN}{us ws:AD},Vals xs us->Vals ys ws->Vals (xs++ys) (us++ws)
 | _,_,_,_,.nil,s=>s
 | _,_,_,_,.cons r t,s=>.cons r (Vals.append t s)
theorem Vals.take:∀{xs:AN}{us:AD} (n:Nat),Vals xs us->Vals (xs.take n) (us.take n)
 | _,_,0,_=>.nil
 | _,_,_+1,.nil=>.nil
 | _,_,n+1,.cons r t=>.cons r (Vals.take n t)
theorem Vals.drop:∀{xs:AN}{us:AD} (n:Nat),Vals xs us->Vals (xs.drop n) (us.drop n)
 | _,_,0,r=>r
 | _,_,_+1,.nil=>.nil
 | _,_,n+1,.cons _ t=>Vals.drop n t
def RelO:Option V->Option Value->Prop
 | some v,some u=>RelV v u
 | none,none=>True
 | _,_=>False
def KV{κ:Type}:List (κ×V)->List (κ×Value)->Prop:=Paired fun(p:κ×V) (q:κ×Value)=>p.1=q.1/\RelV p.2 q.2
def kV:Key->V
 | .inl i=>.int i
 | .inr x=>.str x
inductive HO where
 | lst (xs:AN)
 | tup (xs:AN)
 | dK (kvs:List (Key×V))|dT (kvs:List (List Key×V))
 | set (S:Int->Bool) (n:Nat)
 | ins (C dx:Addr) (fs:List (Str×V))
 | own (x:Addr)
 | xd (fs:List (Str×V))
 | met (f x:Addr)
 | rng (lo hi:Int)
 | frz (o:Obj) (u:HO)
 | tbl (ps:Array Value)
 | ext (φ:Heap->Prop)
abbrev Hp:=Addr->Option HO
def upd(H:Hp)(a:Addr)(o:HO):Hp:=λb=>if b=a then some o else H b
theorem Yv{H:Hp}{a:Addr}{o:HO}:upd H a o a=some o:=by unfold upd;rw[if_pos rfl]
theorem Yo{H:Hp}{a b:Addr}{o:HO}(h:b≠a):upd H a o b=H b:=by unfold upd;rw[if_neg h]
theorem y6c{H:Hp}{a b:Addr}{o u:HO}(h:H a=some o)(h':H b=some u)(d:o≠u):a≠b:=by
 intro e;subst e;rw[h]at h';exact d (w9 h')
theorem Yr{H:Hp}{a b:Addr}{o:HO}(h:H a=some o)(h':H b=none):a≠b:=by
 intro e;subst e;rw[h]at h';cases h'
section
variable (P:Program) (w:World)
def ObjOk(H:Hp)(h:Heap)(a:Addr):HO->Prop
 | .lst xs=>xs.length<=sizeLine/\∃(its:AD) (n:Nat),Vals xs its/\h.get? a=some { cls:=.type "list",data:=.seq its.toArray n }
 | .tup xs=>xs.length<=sizeLine/\∃its:AD,Vals xs its/\IsTup h a its.toArray
 | .dK kvs=>kvs.length<=sizeLine/\(a==sysModules)=false/\∃vs,KV kvs vs/\h.DictOf (Ybi P w) a vs
 | .dT kvs=>kvs.length<=sizeLine/\(a==sysModules)=false/\∃xs:List (List Key×Addr×Value),
  Paired (fun(p:List Key×V) (q:List Key×Addr×Value)=>p.1=q.1/\H q.2.1=some (.tup (p.1.map kV))/\RelV p.2 q.2.2) kvs xs/\
  ∃o es ep,h.get? a=some o/\o.ExactDict/\o.data=.dict es ep/\es.toList=xs.map (entryOfKey (tupleKind (Ybi P w)))/\(xs.map (·.1)).Nodup
 | .set S n=>h.SetOf (intKind P w) a S n
 | .ins C dx fs=>H dx=some (.own a)/\fs.length<=1000/\dx≠a/\h.get? a=some (W.instObj C dx)/\
  ∃mA,h.Ns1 dx mA/\(∀f,RelO (fs.lookup f) (mA f))/\PySem.Within mA (fs.map (·.1))
 | .own _=>∃o,h.get? a=some o
 | .xd fs=>∃mA,h.Ns1 a mA/\∀f,RelO (fs.lookup f) (mA f)
 | .rng lo hi=>∃t u v,h.get? a=some { cls:=.type "range",data:=.fields #[.int lo t,.int hi u,.int 1 v] }
 | .frz o u=>h.get? a=some o/\ObjOk H h a u
 | .tbl ps=>h.get? a=some { cls:=.none,data:=.fields ps }
 | .met f x=>h.get? a=some (W.methodObj (.ref f) (.ref x))
 | .ext φ=>φ h/\(∃o,h.get? a=some o)/\∀h1 h2:Heap,φ h1->(∀o,h1.get? a=some o->h2.get? a=some o)->φ h2
def HOk(H:Hp)(h:Heap):Prop:=∀a o,H a=some o->ObjOk P w H h a o
end
section
variable {P:Program}{w:World}{H H':Hp}{h h':Heap}{a:Addr}{o:HO}
theorem ObjOk.lt(x:ObjOk P w H h a o):a<h.objs.size:=by
 cases o with
 | lst xs=>obtain⟨_,_,_,_,e⟩:=x;exact qk e
 | tup xs=>obtain⟨_,_,_,p⟩:=x;exact p.lt
 | dK kvs=>obtain⟨_,_,_,_,o,_,_,e,_⟩:=x;exact qk e
 | dT kvs=>obtain⟨_,_,_,_,o,_,_,e,_⟩:=x;exact qk e
 | set S n=>obtain⟨o,_,_,_,e,_⟩:=x;exact qk e
 | ins C dx fs=>obtain⟨_,_,_,e,_⟩:=x;exact qk e
 | own y=>obtain⟨_,e⟩:=x;exact qk e
 | xd fs=>obtain⟨_,⟨_,_,_,e,_⟩,_⟩:=x;exact qk e
 | rng lo hi=>obtain⟨_,_,_,e⟩:=x;exact qk e
 | frz ob u=>obtain⟨e,_⟩:=x;exact qk e
 | tbl ps=>exact qk (show h.get? a=some _ from x)
 | met f y=>exact qk (show h.get? a=some _ from x)
 | ext φ=>obtain⟨_,⟨_,e⟩,_⟩:=x;exact qk e
theorem Paired.mapP{α β:Type}{F G:α->β->Prop}:∀{l₁:List α}{l₂:List β},Paired F l₁ l₂->(∀a b,F a b->G a b)->Paired G l₁ l₂
 | _,_,.nil,_=>.nil
 | _,_,.cons r t,f=>.cons (f _ _ r) (Paired.mapP t f)
theorem ObjOk.stay(x:ObjOk P w H h a o)(k:∀b u,(b=a\/H b=some (.own a))->h.get? b=some u->h'.get? b=some u)
 (ho:∀b,H b=some (.own a)->H' b=some (.own a)) (ht:∀b xs,H b=some (.tup xs)->H' b=some (.tup xs)):ObjOk P w H' h' a o:=by
 induction o with
 | lst xs=>obtain⟨z,its,n,r,e⟩:=x;exact⟨z,its,n,r,k _ _ (.inl rfl) e⟩
 | tup xs=>obtain⟨z,its,r,ob,e,c⟩:=x;exact⟨z,its,r,ob,k _ _ (.inl rfl) e,c⟩
 | dK kvs=>obtain⟨z,y,vs,r,ob,es,ep,e,c⟩:=x;exact⟨z,y,vs,r,ob,es,ep,k _ _ (.inl rfl) e,c⟩
 | dT kvs=>
   obtain⟨z,y,xs,r,ob,es,ep,e,c⟩:=x;exact⟨z,y,xs,Paired.mapP r λp q z=>⟨z.1,ht _ _ z.2.1,z.2.2⟩,ob,es,ep,k _ _ (.inl rfl) e,c⟩
 | set S n=>obtain⟨ob,es,ep,t,e,c⟩:=x;exact⟨ob,es,ep,t,k _ _ (.inl rfl) e,c⟩
 | ins C dx fs=>
   obtain⟨d,z,ne,e,mA,⟨od,es,ep,e2,c⟩,r⟩:=x;exact⟨ho _ d,z,ne,k _ _ (.inl rfl) e,mA,⟨od,es,ep,k _ _ (.inr d) e2,c⟩,r⟩
 | own y=>obtain⟨ob,e⟩:=x;exact⟨ob,k _ _ (.inl rfl) e⟩
 | xd fs=>obtain⟨mA,⟨od,es,ep,e,c⟩,r⟩:=x;exact⟨mA,⟨od,es,ep,k _ _ (.inl rfl) e,c⟩,r⟩
 | rng lo hi=>obtain⟨t,u,v,e⟩:=x;exact⟨t,u,v,k _ _ (.inl rfl) e⟩
 | frz ob u ih=>obtain⟨e,q⟩:=x;exact⟨k _ _ (.inl rfl) e,ih q⟩
 | tbl ps=>
   have e:h.get? a=some { cls:=.none,data:=.fields ps }:=x;show h'.get? a=some { cls:=.none,data:=.fields ps };exact k a _ (.inl rfl) e
 | met f y=>
   have e:h.get? a=some (W.methodObj (.ref f) (.ref y)):=x;show h'.get? a=some (W.methodObj (.ref f) (.ref y));exact k a _ (.inl rfl) e
 | ext φ=>obtain⟨p,⟨o,e⟩,st⟩:=x;exact⟨st _ _ p λo q=>k _ _ (.inl rfl) q,⟨o,k _ _ (.inl rfl) e⟩,st⟩
theorem HOk.lt(x:HOk P w H h)(e:H a=some o):a<h.objs.size:=(x a o e).lt
theorem HOk.fresh(x:HOk P w H h)(e:h.objs.size<=a):H a=none:=by
 cases q:H a with
 | none=>rfl
 | some u=>exact absurd (Qb (x.lt q) e) (Qd _)
theorem HOk.kept(x:HOk P w H h)(k:∀b u,h.get? b=some u->h'.get? b=some u):HOk P w H h':=λa o e=>
 (x a o e).stay (λb u _ q=>k b u q) (λ_ q=>q) λ_ _ q=>q
theorem HOk.laid(x:HOk P w H h)(k:∀b u,h.get? b=some u->h'.get? b=some u)(hp:h.objs.size<=a)(new:ObjOk P w (upd H a o) h' a o):HOk P w (upd H a o) h':=λb u e=>by
 have hn:=x.fresh hp;by_cases hb:b=a
 ·subst hb;rw[Yv]at e;cases e;exact new
 ·rw[Yo hb]at e
  exact(x b u e).stay (λc v _ q=>k c v q) (λc q=>by rw[Yo (Yr q hn)];exact q) λc xs q=>by rw[Yo (Yr q hn)];exact q
end
def Rd(H:Hp)(a:Addr)(u:HO):Prop:=H a=some u\/∃o,H a=some (.frz o u)
theorem Rd.ok{P:Program}{w:World}{H:Hp}{h:Heap}{a:Addr}{u:HO}(r:Rd H a u)(x:HOk P w H h):ObjOk P w H h a u:=by
 rcases r with r|⟨o,r⟩
 ·exact x a u r
 ·obtain⟨_,q⟩:=x a _ r
  exact q
def Mut:Option HO->Prop
 | some (.lst _)=>True
 | some (.dK _)=>True
 | some (.dT _)=>True
 | some (.set _ _)=>True
 | some (.ins _ _ _)=>True
 | some (.ext _)=>True
 | _=>False
section
variable {P:Program}{w:World}{H:Hp}{h h':Heap}{x e:Addr}{o':HO}
theorem HOk.write(ok:HOk P w H h)(mu:Mut (H x))(he:e=x\/H e=some (.own x))(k:∀b u,b≠e->h.get? b=some u->h'.get? b=some u)(heo:∃u,h'.get? e=some u)
 (new:ObjOk P w (upd H x o') h' x o'):HOk P w (upd H x o') h':=λb u q=>by
 have nown:∀c y,H c=some (.own y)->c≠x:=λc y r z=>by subst z;rw[r]at mu;exact mu
 have ntup:∀c xs,H c=some (.tup xs)->c≠x:=λc xs r z=>by subst z;rw[r]at mu;exact mu
 by_cases hb:b=x
 ·subst hb;rw[Yv]at q;cases q;exact new
 ·rw[Yo hb]at q
  by_cases hbe:b=e
  ·have q':H b=some (.own x):=by
    rcases he with z|z
    ·exact absurd (hbe.trans z) hb
    ·rw[hbe];exact z
   rw[q]at q';cases q';obtain⟨v,hv⟩:=heo;exact⟨v,by rw[hbe];exact hv⟩
  ·refine(ok b u q).stay (λc v hc r=>k c v ?_ r) (λc r=>by rw[Yo (nown c b r)];exact r) λc xs r=>by rw[Yo (ntup c xs r)];exact r
   rcases hc with rfl|hc
   ·exact hbe
   ·rintro rfl
    rcases he with z|z
    ·exact nown c b hc z
    ·rw[hc]at z;cases z;exact hb rfl
end
structure Un(fs ex:List Addr)(H H':Hp)(h h':Heap):Prop where
 keep:∀b o,h.get? b=some o->H b=none->b∉fs->b∉ex->h'.get? b=some o
 slot:∀b o,h.get? b=some o->H b=none->b∈fs->b∉ex->∃sl,h'.get? b=some { o with slots:=sl }
 free:∀b o,h.get? b=some o->H b=none->b∉ex->H' b=none
 there:∀b o,h.get? b=some o->b∉ex->∃o',h'.get? b=some o'
 tups:∀b xs,H b=some (.tup xs)->H' b=some (.tup xs)
 frzs:∀b o u,H b=some (.frz o u)->H' b=some (.frz o u)
 tbls:∀b ps,H b=some (.tbl ps)->∃more,H' b=some (.tbl (ps++more))
section
variable {fs fs' ex ex':List Addr}{H H1 H2:Hp}{h h1 h2 h':Heap}{a x e:Addr}{o:HO}
theorem Un.any(u:Un fs ex H H1 h h1){b:Addr}{ob:Obj}(q:h.get? b=some ob)(n:H b=none)(hx:b∉ex):∃sl,h1.get? b=some { ob with slots:=sl }:=by
 by_cases hb:b∈fs
 ·exact u.slot b ob q n hb hx
 ·exact⟨ob.slots,u.keep b ob q n hb hx⟩
theorem Un.kept(k:∀b u,h.get? b=some u->h'.get? b=some u):Un fs ex H H h h':=
 ⟨λb ob q _ _ _=>k b ob q,λb ob q _ _ _=>⟨ob.slots,k b ob q⟩,λ_ _ _ n _=>n,λb ob q _=>⟨ob,k b ob q⟩,λ_ _ q=>q,λ_ _ _ q=>q,λ_ ps q=>⟨#[],by rw[q];simp⟩⟩
theorem Un.refl:Un fs ex H H h h:=Un.kept λ_ _ q=>q
theorem Un.laid(k:∀b u,h.get? b=some u->h'.get? b=some u)(hp:h.objs.size<=a)(hn:H a=none):Un fs ex H (upd H a o) h h' where
 keep:=λb u q _ _ _=>k b u q
 slot:=λb u q _ _ _=>⟨u.slots,k b u q⟩
 free:=λb u q n _=>by rw[Yo (ql (Qb (qk q) hp))];exact n
 there:=λb u q _=>⟨u,k b u q⟩
 tups:=λb xs q=>by rw[Yo (Yr q hn)];exact q
 frzs:=λb u xs q=>by rw[Yo (Yr q hn)];exact q
 tbls:=λb ps q=>⟨#[],by rw[Yo (Yr q hn),q];simp⟩
theorem Un.write(mu:Mut (H x))(he:e=x\/H e=some (.own x))(k:∀b u,b≠e->h.get? b=some u->h'.get? b=some u)(heo:∃u,h'.get? e=some u):Un fs ex H (upd H x o) h h':=by
 have hx:∀b,H b=none->b≠x:=λb n z=>by subst z;rw[n]at mu;exact mu
 have hb:∀b,H b=none->b≠e:=λb n z=>by
  subst z;rcases he with r|r
  ·exact hx b n r
  ·rw[n]at r;cases r
 have hm:∀b u,H b=some u->¬Mut (some u)->b≠x:=λb u q nm z=>by subst z;rw[q]at mu;exact nm mu
 refine⟨λb u q n _ _=>k b u (hb b n) q,λb u q n _ _=>⟨u.slots,k b u (hb b n) q⟩,λb u q n _=>by rw[Yo (hx b n)];exact n,λb u q _=>?_,
  λb xs q=>by rw[Yo (hm b _ q λz=>z)];exact q,λb u xs q=>by rw[Yo (hm b _ q λz=>z)];exact q,λb ps q=>⟨#[],by rw[Yo (hm b _ q λz=>z),q];simp⟩⟩
 by_cases hbe:b=e
 ·subst hbe;exact heo
 ·exact⟨u,k b u hbe q⟩
end
def trk(h:Heap)(H:Hp):List Addr:=(List.range h.objs.size).filter λa=>(H a).isSome
def hidT(h:Heap)(H:Hp):Heap:=W.hideAll h (trk h H)
theorem Ys5(h:Heap)(H:Hp):(hidT h H).objs.size=h.objs.size:=W.hideAll_size _ _
theorem Ywl{h:Heap}{H:Hp}{b:Addr}{o:Obj}(e:h.get? b=some o)(n:H b=none):(hidT h H).get? b=some o:=
 W.hideAll_get _ e λhm=>by
  have q:(H b).isSome=true:=(List.mem_filter.mp hm).2;rw[n]at q;simp at q
theorem Yz1{h:Heap}{H:Hp}{b:Addr}{o:Obj}(e:(hidT h H).get? b=some o):h.get? b=some o/\H b=none:=by
 have e':h.get? b=some o:=W.of_hideAll (trk h H) e;refine⟨e',?_⟩
 cases q:H b with
 | none=>rfl
 | some x=>
   have hm:b∈trk h H:=List.mem_filter.mpr ⟨List.mem_range.mpr (qk e'),by simp[q]⟩;have z:(hidT h H).get? b=none:=W.hideAll_none (trk h H) hm;rw[z]at e;cases e
structure Mod(K:W.Frag)(mg:AE)(base:Heap):Prop where
 kin:K.In base
 glob:base.Ns mainGlobals mg
 blt:∃mb,base.Ns builtinsNs mb/\∀x:Str,x≠"__name__"->mb x=bootBuiltins x
 nolimit:base.NoLimit
structure Cx where
 prog:Program
 w:World
 K:W.Frag
 mg:AE
 base:Heap
 A:Around
 N:AK
 s₀:Shared
 H₀:Hp
 env:Env
 outer:List Env
 stack:List Env
 ex:List Addr
 fn:Str->Bool
 calm:Bool
 pn:AC
 xe:AB
def frs(l:List Env):List Addr:=l.filterMap (·.frame)
abbrev Cx.fs(X:Cx):List Addr:=frs X.outer
def Vis(sc:Scope)(x:Str):Prop:=sc.names.lookup x=some .local\/sc.names.lookup x=some .cell\/sc.names.lookup x=some .free
def Loc(sc:Scope)(x:Str):Prop:=sc.names.lookup x=some .local\/sc.names.lookup x=some .cell
def Look(env:Env)(h:Heap)(m:AE)(x:Str)(u:Value):Prop:=
 (env.kindOf x=some .local/\m x=some u)\/((env.kindOf x=some .cell\/env.kindOf x=some .free)/\∃c,env.cells.lookup x=some c/\h.IsCell c (some u))
structure Cx.Ok(X:Cx):Prop where
 mod:Mod X.K X.mg X.base
 kind:X.env.scope.kind=.function
 glob:X.env.globals=mainGlobals
 blt:X.env.builtins=builtinsNs
 above:X.s₀.heap.objs.size<=X.env.locals
 inj:∀x y c,X.env.cells.lookup x=some c->X.env.cells.lookup y=some c->x=y
 has:∀x,(X.env.kindOf x=some .cell\/X.env.kindOf x=some .free)->∃c,X.env.cells.lookup x=some c
 cab:∀x c,X.fn x=true->X.env.cells.lookup x=some c->X.s₀.heap.objs.size<=c
 hd:X.calm=true->X.A.handled=none
 frames:X.A.frames=some X.stack
 stk:X.stack=X.outer\/(X.stack=X.env::X.outer/\X.env.frame=some X.env.locals)
 exf:∀b∈X.ex,b≠X.env.locals/\∀x c,X.env.cells.lookup x=some c->c≠b
 bs:∀b o,X.base.get? b=some o->X.s₀.heap.get? b=some o/\X.H₀ b=none
 bsz:X.base.objs.size<=X.s₀.heap.objs.size
 noex:∀b o,X.base.get? b=some o->b∉X.ex
 exfs:∀b∈X.ex,b∉X.fs
 funs:X.s₀.heap.FunFrames X.base X.outer
 frf:∀b∈X.fs,X.H₀ b=none
structure Inv(X:Cx)(pins:AC)(σ:List (Option V))(H:Hp)(s:Shared):Prop where
 ok:X.Ok
 os:s.os=X.s₀.os
 bare:AllBare s.gens
 base:Un X.fs X.ex X.H₀ H X.s₀.heap s.heap
 loc:∃m,s.heap.Ns X.env.locals m/\∀(i:Nat) (x:Str) (v:V),X.N[i]?=some x->σ[i]?=some (some v)->Vis X.env.scope x->∃u,RelV v u/\Look X.env s.heap m x u
 cell:∀x c,X.env.cells.lookup x=some c->∃v,s.heap.IsCell c v
 free:H X.env.locals=none
 freeC:∀x c,X.env.cells.lookup x=some c->H c=none
 pin:∀p∈X.pn++pins,s.heap.get? p.1=some p.2/\H p.1=none/\p.1≠X.env.locals/\p.1∉X.fs/\∀v,p.2.data≠.cell v
 hok:HOk X.prog X.w H s.heap
 len:σ.length=X.N.length
section
variable {X:Cx}{pins:AC}{σ:List (Option V)}{H H':Hp}{s:Shared}{h':Heap}
theorem Cx.Ok.nofr(ok:X.Ok){b:Addr}{o:Obj}(e:X.base.get? b=some o):b∉X.fs:=λhb=>by
 have:=(ok.funs.mem hb).1;rw[e]at this;cases this
theorem Inv.bs(I:Inv X pins σ H s):∀b o,X.base.get? b=some o->s.heap.get? b=some o/\H b=none:=λb o e=>
 ⟨I.base.keep b o (I.ok.bs b o e).1 (I.ok.bs b o e).2 (I.ok.nofr e) (I.ok.noex b o e),I.base.free b o (I.ok.bs b o e).1 (I.ok.bs b o e).2 (I.ok.noex b o e)⟩
theorem Inv.bk(I:Inv X pins σ H s):∀b o,X.base.get? b=some o->s.heap.get? b=some o:=λb o e=>(I.bs b o e).1
theorem Inv.mod(I:Inv X pins σ H s):Mod X.K X.mg X.base:=I.ok.mod
theorem Inv.kIn(I:Inv X pins σ H s):X.K.In s.heap:=I.ok.mod.kin.keeps I.bk
theorem Inv.lt(I:Inv X pins σ H s):X.env.locals< ~~~s:=let ⟨_,hn,_⟩:=I.loc;hn.lt
theorem Inv.sz(I:Inv X pins σ H s):X.s₀.heap.objs.size<= ~~~s:=Nat.le_trans I.ok.above (Nat.le_of_lt I.lt)
theorem Inv.nofs(I:Inv X pins σ H s){a:Addr}(h:(~~~s)<=a):a∉X.fs:=λhb=>by
 obtain⟨_,o,ho,_⟩:=I.ok.funs.mem hb;exact absurd (Qb (qk ho) (Nat.le_trans I.sz h)) (Qd _)
theorem Inv.cne(I:Inv X pins σ H s):∀x c,X.env.cells.lookup x=some c->c≠X.env.locals:=λx c e z=>by
 obtain⟨v,o,ho,hd⟩:=I.cell x c e;obtain⟨m,⟨o',es,ep,ho',hd',_⟩,_⟩:=I.loc;rw[z,ho']at ho;cases ho;rw[hd']at hd;cases hd
theorem Inv.funs(I:Inv X pins σ H s):s.heap.FunFrames X.base X.outer:=by
 have all:∀(l:List Env),(∀b∈frs l,b∈X.fs)->X.s₀.heap.FunFrames X.base l->s.heap.FunFrames X.base l:=by
  intro l
  induction l with
  | nil=>intro _ _;trivial
  | cons env r ih=>
    intro hs hl;obtain⟨hk,⟨L,o,hf,hn,ho,hd⟩,hr⟩:=hl;have hL:L∈X.fs:=hs L (by unfold frs;rw[List.filterMap_cons,hf];exact qg);obtain⟨sl,e⟩:=I.base.slot L o ho (I.ok.frf L hL) hL λz=>I.ok.exfs L z hL;exact⟨hk,⟨L,_,hf,hn,e,hd⟩,ih (λb hb=>hs b (by unfold frs;rw[List.filterMap_cons,hf];exact qf _ hb)) hr⟩
 exact all X.outer (λ_ hb=>hb) I.ok.funs
theorem Inv.stack(I:Inv X pins σ H s):s.heap.FunFrames X.base X.stack:=by
 rcases I.ok.stk with e|⟨e,hf⟩
 ·rw[e];exact I.funs
 ·rw[e]
  obtain⟨m,hn,_⟩:=I.loc;refine .cons (by rw[I.ok.kind];decide) hf hn ?_ I.funs;exact Heap.get?_none_of_le (Nat.le_trans I.ok.bsz I.ok.above)
theorem Inv.stkSub(I:Inv X pins σ H s):∀b∈frs X.stack,b∈X.env.locals::X.fs:=λb hb=>by
 rcases I.ok.stk with e|⟨e,hf⟩
 ·rw[e]at hb;exact qf _ hb
 ·rw[e]at hb
  unfold frs at hb;rw[List.filterMap_cons,hf]at hb;exact hb
theorem Inv.stkFree(I:Inv X pins σ H s):∀b∈frs X.stack,H b=none:=λb hb=>by
 rcases qr (I.stkSub b hb)with e|hb
 ·rw[e];exact I.free
 ·obtain⟨_,o,ho,_⟩:=I.ok.funs.mem hb
  exact I.base.free b o ho (I.ok.frf b hb) λz=>I.ok.exfs b z hb
theorem Inv.step{g':Array GenState}{t':Nat}{d':Drawn}{ch:List Addr}(I:Inv X pins σ H s)
 (hch:∀b∈ch,(b∈X.ex\/X.s₀.heap.objs.size<=b)/\b≠X.env.locals/\(∀x c,X.env.cells.lookup x=some c->c≠b)/\∀p∈X.pn++pins,p.1≠b)
 (keep:∀b o,b≠X.env.locals->b∉X.fs->b∉ch->s.heap.get? b=some o->H b=none->h'.get? b=some o)
 (slot:∀b o,b≠X.env.locals->b∈X.fs->b∉ch->s.heap.get? b=some o->H b=none->∃sl,h'.get? b=some { o with slots:=sl }) (free:∀b o,b∉ch->s.heap.get? b=some o->H b=none->H' b=none)
 (there:∀b o,b∉ch->s.heap.get? b=some o->∃o',h'.get? b=some o')
 (tups:∀b xs,H b=some (.tup xs)->H' b=some (.tup xs)) (frzs:∀b o u,H b=some (.frz o u)->H' b=some (.frz o u)) (tbls:∀b ps,H b=some (.tbl ps)->∃more,H' b=some (.tbl (ps++more)))
 (ns:∀m,s.heap.Ns X.env.locals m->h'.Ns X.env.locals m) (hok:HOk X.prog X.w H' h') (hg:AllBare g') :
 Inv X pins σ H' { s with heap:=h',gens:=g',drawn:=d',toks:=t' }:=by
 have neL:∀b o,X.s₀.heap.get? b=some o->b≠X.env.locals:=λb o e=>ql (Qb (qk e) I.ok.above)
 have neC:∀b o,X.s₀.heap.get? b=some o->b∉X.ex->b∉ch:=λb o e hx hb=>by
  rcases(hch b hb).1 with z|z
  ·exact hx z
  ·exact absurd (Qb (qk e) z) (Qd _)
 have cellK:∀x c,X.env.cells.lookup x=some c->∀v,s.heap.IsCell c v->h'.IsCell c v:=λx c e v hx_=>by
  obtain⟨o,ho,hd⟩:=hx_;have nch:c∉ch:=λz=>(hch c z).2.2.1 x c e rfl;by_cases hc:c∈X.fs
  ·obtain⟨sl,q⟩:=slot c o (I.cne x c e) hc nch ho (I.freeC x c e)
   exact⟨_,q,hd⟩
  ·exact⟨o,keep c o (I.cne x c e) hc nch ho (I.freeC x c e),hd⟩
 refine⟨I.ok,I.os,hg,⟨λb o e n hb hx=>?_,λb o e n hb hx=>?_,λb o e n hx=>?_,λb o e hx=>?_,λb xs e=>tups b xs (I.base.tups b xs e),λb o xs e=>frzs b o xs (I.base.frzs b o xs e),λb ps e=>?_⟩,?_,λx c e=>?_,?_,λx c e=>?_,λp hp=>?_,hok,I.len⟩
 ·exact keep b o (neL b o e) hb (neC b o e hx) (I.base.keep b o e n hb hx) (I.base.free b o e n hx)
 ·obtain⟨sl,e1⟩:=I.base.slot b o e n hb hx
  obtain⟨sl',e2⟩:=slot b _ (neL b o e) hb (neC b o e hx) e1 (I.base.free b o e n hx);exact⟨sl',e2⟩
 ·obtain⟨o',e1⟩:=I.base.there b o e hx
  exact free b o' (neC b o e hx) e1 (I.base.free b o e n hx)
 ·obtain⟨o',e1⟩:=I.base.there b o e hx
  exact there b o' (neC b o e hx) e1
 ·obtain⟨m1,e1⟩:=I.base.tbls b ps e
  obtain⟨m2,e2⟩:=tbls b _ e1;exact⟨m1++m2,by rw[e2,Array.append_assoc]⟩
 ·obtain⟨m,hn,hl⟩:=I.loc
  refine⟨m,ns m hn,λi x v e1 e2 e3=>?_⟩;obtain⟨u,r,l⟩:=hl i x v e1 e2 e3;refine⟨u,r,?_⟩;rcases l with l|⟨k,c,e,z⟩
  ·exact .inl l
  ·exact .inr ⟨k,c,e,cellK x c e _ z⟩
 ·obtain⟨v,z⟩:=I.cell x c e
  exact⟨v,cellK x c e v z⟩
 ·obtain⟨m,⟨o,_,_,ho,_⟩,_⟩:=I.loc
  exact free _ o (λz=>(hch _ z).2.1 rfl) ho I.free
 ·obtain⟨v,o,ho,hd⟩:=I.cell x c e
  exact free c o (λz=>(hch c z).2.2.1 x c e rfl) ho (I.freeC x c e)
 ·obtain⟨e,n,ne,nf,d⟩:=I.pin p hp
  have nch:p.1∉ch:=λz=>(hch p.1 z).2.2.2 p hp rfl;exact⟨keep p.1 p.2 ne nf nch e n,free p.1 p.2 nch e n,ne,nf,d⟩
theorem Inv.un{t':Nat}(I:Inv X pins σ H s)(u:Un X.fs [] H H' s.heap h')(hok:HOk X.prog X.w H' h'):Inv X pins σ H' { s with heap:=h',toks:=t' }:=by
 obtain⟨m,⟨o,es,ep,ho,r⟩,_⟩:=id I.loc;obtain⟨sl,hL⟩:=u.any ho I.free (by simp)
 exact I.step (g':=s.gens) (d':=s.drawn) (ch:=[]) (λ_ z=>nomatch z) (λb o _ hb _ e n=>u.keep b o e n hb (by simp)) (λb o _ hb _ e n=>u.slot b o e n hb (by simp)) (λb o _ e n=>u.free b o e n (by simp)) (λb o _ e=>u.there b o e (by simp)) u.tups u.frzs u.tbls (λm' hm=>by
  obtain⟨o',es',ep',ho',r'⟩:=hm;rw[ho]at ho';cases ho'
  exact⟨_,es',ep',hL,r'⟩) hok I.bare
theorem Inv.call{g':Array GenState}{t':Nat}{d':Drawn}{ch:List Addr}(I:Inv X pins σ H s)(u:Un (frs X.stack) ch H H' s.heap h')(hok:HOk X.prog X.w H' h')(hg:AllBare g')
 (hch:∀b∈ch,(b∈X.ex\/X.s₀.heap.objs.size<=b)/\b≠X.env.locals/\(∀x c,X.env.cells.lookup x=some c->c≠b)/\∀p∈X.pn++pins,p.1≠b) :
 Inv X pins σ H' { s with heap:=h',gens:=g',drawn:=d',toks:=t' }:=by
 obtain⟨m,⟨o,es,ep,ho,r⟩,_⟩:=id I.loc;obtain⟨sl,hL⟩:=u.any ho I.free λz=>(hch _ z).2.1 rfl
 exact I.step (ch:=ch) hch (λb o hL hb hc e n=>u.keep b o e n (λz=>(qr (I.stkSub b z)).elim hL hb) hc) (λb o _ _ hc e n=>u.any e n hc) (λb o hc e n=>u.free b o e n hc) (λb o hc e=>u.there b o e hc) u.tups u.frzs u.tbls (λm' hm=>by
  obtain⟨o',es',ep',ho',r'⟩:=hm;rw[ho]at ho';cases ho'
  exact⟨_,es',ep',hL,r'⟩) hok hg
theorem Inv.turned{t':Nat}{it:Addr}(I:Inv X pins σ H s)(k:∀b o,b≠it->s.heap.get? b=some o->h'.get? b=some o)(hn:H it=none)(hL:it≠X.env.locals)
 (h1:it∈X.ex\/X.s₀.heap.objs.size<=it) (h2:∀x c,X.env.cells.lookup x=some c->c≠it) (h3:∀p∈X.pn++pins,p.1≠it):Inv X pins σ H { s with heap:=h',toks:=t' }:=by
 have nit:∀b u,H b=some u->b≠it:=λb u e z=>by rw[z,hn]at e;cases e
 refine I.step (g':=s.gens) (d':=s.drawn) (ch:=[it]) (λb hb=>?_) (λb o _ _ hc e _=>k b o (λz=>hc (by simp[z])) e) (λb o _ _ hc e _=>⟨o.slots,k b o (λz=>hc (by simp[z])) e⟩) (λ_ _ _ _ n=>n)
  (λb o hc e=>⟨o,k b o (λz=>hc (by simp[z])) e⟩) (λ_ _ e=>e) (λ_ _ _ e=>e) (λb ps e=>⟨#[],by rw[e];simp⟩) (λm hm=>?_) (λb u e=>?_) I.bare
 ·have e:b=it:=by simpa using hb
  subst e;exact⟨h1,hL,h2,h3⟩
 ·obtain⟨o,es,ep,ho,r⟩:=hm
  exact⟨o,es,ep,k _ o (Ne.symm hL) ho,r⟩
 ·refine(I.hok b u e).stay (λc v hc q=>k c v ?_ q) (λ_ q=>q) λ_ _ q=>q
  rcases hc with z|z
  ·rw[z];exact nit b u e
  ·exact nit c _ z
theorem Inv.tok(I:Inv X pins σ H s)(t:Nat):Inv X pins σ H { s with toks:=t }:=I.un (h':=s.heap) (t':=t) Un.refl I.hok
theorem Inv.kept{t':Nat}(I:Inv X pins σ H s)(k:∀b u,s.heap.get? b=some u->h'.get? b=some u):Inv X pins σ H { s with heap:=h',toks:=t' }:=I.un (Un.kept k) (I.hok.kept k)
theorem Inv.laid{a:Addr}{o:HO}{t':Nat}(I:Inv X pins σ H s)(k:∀b u,s.heap.get? b=some u->h'.get? b=some u)(hp:(~~~s)<=a)(new:ObjOk X.prog X.w (upd H a o) h' a o) :
 Inv X pins σ (upd H a o) { s with heap:=h',toks:=t' }:=I.un (Un.laid k hp (I.hok.fresh hp)) (I.hok.laid k hp new)
theorem Inv.write{x e:Addr}{o:HO}{t':Nat}(I:Inv X pins σ H s)(mu:Mut (H x))(he:e=x\/H e=some (.own x))(k:∀b u,b≠e->s.heap.get? b=some u->h'.get? b=some u)(heo:∃u,h'.get? e=some u)
 (new:ObjOk X.prog X.w (upd H x o) h' x o):Inv X pins σ (upd H x o) { s with heap:=h',toks:=t' }:=I.un (Un.write mu he k heo) (I.hok.write mu he k heo new)
theorem Inv.pins_of{pins':AC}(I:Inv X pins σ H s)(h:∀p∈pins',s.heap.get? p.1=some p.2/\H p.1=none/\p.1≠X.env.locals/\p.1∉X.fs/\∀v,p.2.data≠.cell v):Inv X pins' σ H s:=
 ⟨I.ok,I.os,I.bare,I.base,I.loc,I.cell,I.free,I.freeC,λp hp=>(qu hp).elim (λz=>I.pin p (List.mem_append_left _ z)) (h p),I.hok,I.len⟩
theorem Yqt{N:AK}(hN:N.Nodup){i j:Nat}{x:Str}(a:N[i]?=some x)(b:N[j]?=some x):i=j:=by
 obtain⟨h1,e1⟩:=qm a;obtain⟨h2,e2⟩:=qm b;exact(List.getElem_inj hN).mp (e1.trans e2.symm)
theorem Ynn{M:Model}{A:Around}{E:AB}{i:Nat}{x:Str}{v:V}{u:Value}{Q:Unit->Shared->Prop}(I:Inv X pins σ H s)(hN:X.N.Nodup)(hi:X.N[i]?=some x)(hx:Loc X.env.scope x)(r:RelV v u)
 (h:∀s',Inv X pins (σ.set i (some v)) H s'->(∃a,Heap.SameBut a s.heap s'.heap/\(a=X.env.locals\/X.env.cells.lookup x=some a))->Q () s') (hf:X.fn x=true\/X.env.scope.names.lookup x=some .local:=by trivial):wpAny M A (storeName X.env x u) Q E s:=by
 obtain⟨m,hn,hl⟩:=id I.loc
 have hcls:(X.env.scope.kind==.class||(X.env.scope.kind==.module&&X.env.locals != X.env.globals))=false:=by rw[I.ok.kind];rfl
 have hiσ:i<σ.length:=by rw[I.len];exact(qm hi).1
 have cne:=I.cne
 have tracked:∀{a:Addr}{h':Heap},(∃o,s.heap.get? a=some o/\H a=none)->Heap.SameBut a s.heap h'->HOk X.prog X.w H h':=λ{a h'} ha hs b ob e=>by
  obtain⟨_,_,hfree⟩:=ha;refine(I.hok b ob e).stay (λc w' hc q=>(hs.2 c ?_).trans q) (λ_ q=>q) λ_ _ q=>q;rintro rfl;rcases hc with rfl|hc
  ·rw[hfree]at e;cases e
  ·rw[hfree]at hc;cases hc
 rcases hx with hk|hk
 ·refine wpAny_storeName_local hk hn (λh' hn' hs=>?_) hcls
  obtain⟨oL,_,_,hoL,_⟩:=id hn;refine h _ ⟨I.ok,I.os,I.bare,⟨λb o e n hb hx=>?_,λb o e n hb hx=>?_,I.base.free,λb o e hx=>?_,I.base.tups,I.base.frzs,I.base.tbls⟩,⟨_,hn',λj y v' e1 e2 e3=>?_⟩,λy c e=>?_,I.free,I.freeC,λp hp=>?_,tracked ⟨oL,hoL,I.free⟩ hs,by simpa using I.len⟩ ⟨_,hs,.inl rfl⟩
  ·exact(hs.2 b (ql (Qb (qk e) I.ok.above))).trans (I.base.keep b o e n hb hx)
  ·obtain⟨sl,e1⟩:=I.base.slot b o e n hb hx
   exact⟨sl,(hs.2 b (ql (Qb (qk e) I.ok.above))).trans e1⟩
  ·obtain⟨o',e1⟩:=I.base.there b o e hx
   exact⟨o',(hs.2 b (ql (Qb (qk e) I.ok.above))).trans e1⟩
  ·by_cases hj:j=i
   ·subst hj
    rw[hi]at e1;cases e1;rw[Qh hiσ]at e2;cases e2;exact⟨u,r,.inl ⟨hk,by simp⟩⟩
   ·rw[Qa (Ne.symm hj)]at e2
    obtain⟨u',r',q⟩:=hl j y v' e1 e2 e3;refine⟨u',r',?_⟩;rcases q with⟨k,e⟩|⟨k,c,e,z⟩
    ·refine .inl ⟨k,?_⟩
     have:y≠x:=λe=>hj (Yqt hN e1 (e ▸ hi));simp[this,e]
    ·exact .inr ⟨k,c,e,z.sameBut hs (cne y c e)⟩
  ·obtain⟨w',z⟩:=I.cell y c e
   exact⟨w',z.sameBut hs (cne y c e)⟩
  ·obtain⟨e,n,ne,nf,d⟩:=I.pin p hp
   exact⟨(hs.2 p.1 ne).trans e,n,ne,nf,d⟩
 ·have hfn:X.fn x=true:=by
   rcases hf with z|z
   ·exact z
   ·rw[z]at hk;cases hk
  obtain⟨c,hc⟩:=I.ok.has x (.inl hk);obtain⟨w',z⟩:=I.cell x c hc;refine wpAny_storeName_cell I.ok.kind hk hc z (λh' hc' hs=>?_);obtain⟨oc,hoc,hocd⟩:=id z;refine h { s with heap:=h' } ⟨I.ok,I.os,I.bare,⟨λb o e n hb hx=>?_,λb o e n hb hx=>?_,I.base.free,λb o e hx=>?_,I.base.tups,I.base.frzs,I.base.tbls⟩,⟨m,hn.sameBut hs (Ne.symm (cne x c hc)),λj y v' e1 e2 e3=>?_⟩,λy c' e=>?_,I.free,I.freeC,λp hp=>?_,tracked ⟨oc,hoc,I.freeC x c hc⟩ hs,by simpa using I.len⟩ ⟨c,hs,.inr hc⟩
  ·exact(hs.2 b (ql (Qb (qk e) (I.ok.cab x c hfn hc)))).trans (I.base.keep b o e n hb hx)
  ·obtain⟨sl,e1⟩:=I.base.slot b o e n hb hx
   exact⟨sl,(hs.2 b (ql (Qb (qk e) (I.ok.cab x c hfn hc)))).trans e1⟩
  ·obtain⟨o',e1⟩:=I.base.there b o e hx
   exact⟨o',(hs.2 b (ql (Qb (qk e) (I.ok.cab x c hfn hc)))).trans e1⟩
  ·by_cases hj:j=i
   ·subst hj
    rw[hi]at e1;cases e1;rw[Qh hiσ]at e2;cases e2;exact⟨u,r,.inr ⟨.inl hk,c,hc,hc'⟩⟩
   ·rw[Qa (Ne.symm hj)]at e2
    obtain⟨u',r',q⟩:=hl j y v' e1 e2 e3;refine⟨u',r',?_⟩;rcases q with q|⟨k,c',e,z'⟩
    ·exact .inl q
    ·refine .inr ⟨k,c',e,z'.sameBut hs ?_⟩
     rintro rfl;exact hj (Yqt hN e1 (I.ok.inj _ _ _ e hc ▸ hi))
  ·by_cases hcc:c'=c
   ·subst hcc;exact⟨_,hc'⟩
   ·obtain⟨w2,z2⟩:=I.cell y c' e
    exact⟨w2,z2.sameBut hs hcc⟩
  ·obtain⟨e,n,ne,nf,d⟩:=I.pin p hp
   refine⟨(hs.2 p.1 ?_).trans e,n,ne,nf,d⟩;intro q;rw[q,hoc]at e;have q':oc=p.2:=w9 e;exact d w' (by rw[<-q'];exact hocd)
theorem Yqu{M:Model}{A:Around}{E:AB}{i:Nat}{x:Str}{v:V}{u:Value}{Q:Unit->Shared->Prop}(I:Inv X pins σ H s)(hN:X.N.Nodup)(hi:X.N[i]?=some x)(hx:Loc X.env.scope x)(r:RelV v u)
 (h:∀s',Inv X pins (σ.set i (some v)) H s'->Q () s') (hf:X.fn x=true\/X.env.scope.names.lookup x=some .local:=by trivial):wpAny M A (storeName X.env x u) Q E s:=
 Ynn I hN hi hx r (λs' I' _=>h s' I') hf
theorem Inv.call'{s':Shared}{ch:List Addr}(I:Inv X pins σ H s)(ho:s'.os=s.os)(u:Un (frs X.stack) ch H H' s.heap s'.heap)(hok:HOk X.prog X.w H' s'.heap)(hg:AllBare s'.gens)
 (hch:∀b∈ch,(b∈X.ex\/X.s₀.heap.objs.size<=b)/\b≠X.env.locals/\(∀x c,X.env.cells.lookup x=some c->c≠b)/\∀p∈X.pn++pins,p.1≠b):Inv X pins σ H' s':=by
 obtain⟨h',g',d',t',o'⟩:=s';have e:o'=s.os:=ho;subst e;exact I.call (g':=g') (t':=t') (d':=d') u hok hg hch
end
abbrev XK:=Value->Option Addr->Hp->Prop
abbrev St:=List (Option V)
abbrev VK:=V->Hp->Prop
abbrev TE:=St->Hp->VK->Prop
abbrev TT:=St->Hp->(Bool->Hp->Prop)->Prop
abbrev TA:=St->Hp->(AN->Hp->Prop)->Prop
structure Ends where
 nx:St->Hp->Prop
 rt:VK
 bk:St->Hp->Prop:=λ_ _=>False
 ct:St->Hp->Prop:=λ_ _=>False
abbrev TS:=Ends->St->Hp->Prop
def EP(X:Cx)(pins:AC)(σ:St)(Q:VK)(u:Value)(s':Shared):Prop:=∃v H',Inv X pins σ H' s'/\RelV v u/\Q v H'
def TP(X:Cx)(pins:AC)(σ:St)(Q:Bool->Hp->Prop)(b:Bool)(s':Shared):Prop:=∃H',Inv X pins σ H' s'/\Q b H'
def AP(X:Cx)(pins:AC)(σ:St)(Q:AN->Hp->Prop)(us:AD)(s':Shared):Prop:=∃vs H',Inv X pins σ H' s'/\Vals vs us/\Q vs H'
def SP(X:Cx)(pins:AC)(D:Ends)(f:Flow)(s':Shared):Prop:=
 match f with
 | .next=>∃σ' H',Inv X pins σ' H' s'/\D.nx σ' H'
 | .brk=>∃σ' H',Inv X pins σ' H' s'/\D.bk σ' H'
 | .cont=>∃σ' H',Inv X pins σ' H' s'/\D.ct σ' H'
 | .ret u=>∃v σ' H',Inv X pins σ' H' s'/\RelV v u/\D.rt v H'
def PE(X:Cx)(e:Expr)(t:TE):Prop:=
 ∀(pins:AC) (s:Shared) (σ:St) (H:Hp) (Q:VK),Inv X pins σ H s->t σ H Q->wpAny (model X.prog X.w) X.A (eval e X.env) (EP X pins σ Q) X.xe s
def PT(X:Cx)(e:Expr)(t:TT):Prop:=
 ∀(pins:AC) (s:Shared) (σ:St) (H:Hp) (Q:Bool->Hp->Prop),Inv X pins σ H s->t σ H Q->wpAny (model X.prog X.w) X.A (isTrue e X.env (eval e X.env)) (TP X pins σ Q) X.xe s
def PW(X:Cx)(e:Expr)(t:TT):Prop:=
 ∀(whole:Sem Value) (pins:AC) (s:Shared) (σ:St) (H:Hp) (Q:Bool->Hp->Prop),Inv X pins σ H s->t σ H Q->wpAny (model X.prog X.w) X.A (isTrue e X.env whole) (TP X pins σ Q) X.xe s
theorem PW.pt{X:Cx}{e:Expr}{t:TT}(h:PW X e t):PT X e t:=h _
def PA(X:Cx)(es:AL)(t:TA):Prop:=
 ∀(pos:Pos) (pins:AC) (s:Shared) (σ:St) (H:Hp) (Q:AN->Hp->Prop),Inv X pins σ H s->t σ H Q->wpAny (model X.prog X.w) X.A (spliced (backTo pos (starEach es X.env))) (AP X pins σ Q) X.xe s
def PS(X:Cx)(st:Stmt)(t:TS):Prop:=
 ∀(pins:AC) (s:Shared) (σ:St) (H:Hp) (D:Ends),Inv X pins σ H s->t D σ H->wpAny (model X.prog X.w) X.A (exec st X.env) (SP X pins D) X.xe s
def PSs(X:Cx)(st:List Stmt)(t:TS):Prop:=
 ∀(pins:AC) (s:Shared) (σ:St) (H:Hp) (D:Ends),Inv X pins σ H s->t D σ H->wpAny (model X.prog X.w) X.A (execs st X.env) (SP X pins D) X.xe s
theorem thn{α:Type}{t:Sem α}{Q Q':α->Shared->Prop}{M:Model}{A:Around}{E:AB}{s:Shared}(h:wpAny M A t Q E s)(hQ:∀a s,Q a s->Q' a s):wpAny M A t Q' E s:=w6 h hQ λ_ _ x=>x
section
variable {X:Cx}
def tVar(i:Nat):TE:=λσ H Q=>∃v,σ[i]?=some (some v)/\Q v H
def tC(v:V):TE:=λ_ H Q=>Q v H
abbrev Ndb(x:Str):Prop:=(x==("__debug__":Str))=false
abbrev Ncd(x:Str):Prop:=(x==("__classdict__":Str))=false
theorem Yeo{i:Nat}{x:Str}{pos:Pos}(hN:X.N[i]?=some x)(hv:Vis X.env.scope x)(hd:Ndb x:=by decide)(hcd:Ncd x:=by decide):PE X (.Name x pos) (tVar i):=by
 intro pins s σ H Q I h;obtain⟨v,e,h⟩:=h;obtain⟨m,hn,hl⟩:=I.loc;obtain⟨u,r,l⟩:=hl i x v hN e hv
 have fin:EP X pins σ Q u s:=⟨v,H,I,r,h⟩
 rcases l with⟨hk,hm⟩|⟨hk,c,hc,hcell⟩
 ·exact wpAny_Name (wpAny_loadName_local I.ok.kind hk hn hm fin) hd
 ·rcases hk with hk|hk
  ·exact wpAny_Name (wpAny_loadName_cell I.ok.kind hk hc hcell fin) hd
  ·exact wpAny_Name (wpAny_loadName_free I.ok.kind hk hc hcell fin hcd) hd
theorem Yyz{i j pos}:PE X (.Constant (.int i) j pos) (tC (.int i)):=λ_ _ _ H _ I h=>wpAny_Constant_int ⟨.int i,H,I.tok _,⟨_,rfl⟩,h⟩
theorem y6d{b j pos}:PE X (.Constant (.bool b) j pos) (tC (.bl b)):=λ_ _ _ H _ I h=>Constant_bool ⟨.bl b,H,I,rfl,h⟩
theorem y2y{j pos}:PE X (.Constant .none j pos) (tC .non):=λ_ _ _ H _ I h=>Constant_none ⟨.non,H,I,rfl,h⟩
theorem Yy0{x j pos}:PE X (.Constant (.str x) j pos) (tC (.str x)):=λ_ _ _ H _ I h=>Calls.Constant_str ⟨.str x,H,I.tok _,⟨_,rfl⟩,h⟩
def Gl(X:Cx)(x:Str):Prop:=X.env.kindOf x=some .globalImplicit
theorem Yph{E:AB}{pins:AC}{s:Shared}{σ:St}{H:Hp}{x:Str}{u:Value}{pos:Pos}{Q:AB}(I:Inv X pins σ H s)(hg:Gl X x)(hm:X.mg x=some u)(h:Q u s)
 (hd:Ndb x:=by decide):wpAny (model X.prog X.w) X.A (eval (.Name x pos) X.env) Q E s:=
 Calls.Name_function_global I.ok.kind hg (Calls.loadGlobal_global (by rw[I.ok.glob];exact I.mod.glob.keeps I.bk) hm h) hd
theorem Yk4{E:AB}{pins:AC}{s:Shared}{σ:St}{H:Hp}{x:Str}{u:Value}{pos:Pos}{Q:AB}(I:Inv X pins σ H s)(hg:Gl X x)(hm:X.mg x=none)(hv:bootBuiltins x=some u)(h:Q u s)
 (hn:x≠"__name__":=by decide) (hd:Ndb x:=by decide):wpAny (model X.prog X.w) X.A (eval (.Name x pos) X.env) Q E s:=by
 obtain⟨mb,h1,h2⟩:=I.mod.blt;exact Calls.Name_function_global I.ok.kind hg (Calls.loadGlobal_builtin (by rw[I.ok.glob];exact I.mod.glob.keeps I.bk) hm (by rw[I.ok.blt];exact h1.keeps I.bk) ((h2 x hn).trans hv) h) hd
theorem Ylv{x:Str}{v:V}{u:Value}{pos:Pos}(hg:Gl X x)(hm:X.mg x=some u)(r:RelV v u)(hd:Ndb x:=by decide):PE X (.Name x pos) (tC v):=
 λ_ _ _ H _ I h=>Yph I hg hm ⟨v,H,I,r,h⟩ hd
theorem Yz2{x:Str}{v:V}{u:Value}{pos:Pos}(hg:Gl X x)(hm:X.mg x=none)(hv:bootBuiltins x=some u)(r:RelV v u)(hn:x≠"__name__":=by decide)(hd:Ndb x:=by decide):PE X (.Name x pos) (tC v):=
 λ_ _ _ H _ I h=>Yk4 I hg hm hv ⟨v,H,I,r,h⟩ hn hd
variable {a b:Expr}{ta tb:TE}{pos:Pos}
def PC(X:Cx)(op:CmpOp)(a b:Expr)(t:TE):Prop:=
 ∀(pins:AC) (s:Shared) (σ:St) (H:Hp) (Q:VK),Inv X pins σ H s->t σ H Q->
  wpAny (model X.prog X.w) X.A (eval a X.env) (λv s₁=>wpAny (model X.prog X.w) X.A (eval b X.env) (λu s₂=>wpAny (model X.prog X.w) X.A (compareOp op v u) (EP X pins σ Q) X.xe s₂) X.xe s₁) X.xe s
theorem Ywm(b:Expr){op:CmpOp}(h:op≠.In)(h2:op≠.NotIn):behindInMarks op b=false:=by
 have e1:(op==CmpOp.In)=false:=by cases op<;>first|rfl|exact absurd rfl h
 have e2:(op==CmpOp.NotIn)=false:=by cases op<;>first|rfl|exact absurd rfl h2
 cases b with
 | Set elts k p=>
   show((k==0)&&((op==CmpOp.In)||(op==CmpOp.NotIn))&&_)=false;rw[e1,e2];cases (k==0)<;>rfl
 | _=>rfl
def y6e(ta:TE):TE:=λσ H Q=>ta σ H λx H1=>Q (.bl (!decide (x=.non))) H1
theorem RelV.none_iff{x:V}{v:Value}(r:RelV x v):(v==Value.none)=decide (x=.non):=by
 cases x with
 | non=>cases r;rfl
 | bl _=>cases r;rfl
 | int _=>obtain⟨t,rfl⟩:=r;rfl
 | str _=>obtain⟨t,rfl⟩:=r;rfl
 | byt _=>obtain⟨t,rfl⟩:=r;rfl
 | flt _=>obtain⟨t,rfl⟩:=r;rfl
 | ref _=>cases r;rfl
 | ty _=>cases r;rfl
theorem Yz3{j pos'}(ha:PE X a ta):PC X .IsNot a (.Constant .none j pos') (y6e ta):=by
 intro pins s σ H Q I h;refine thn (ha pins s σ H _ I h) λv s1 hx_=>?_;obtain⟨x,H1,I1,r1,q1⟩:=hx_;exact Constant_none (isnot_none_gen ⟨.bl _,H1,I1,by rw[r1.none_iff];rfl,q1⟩)
def tB(t:TE):TT:=λσ H Q=>t σ H λx H1=>∃c,x=.bl c/\Q c H1
theorem y2z{op:CmpOp}{t:TE}(h:PC X op a b t)(h1:behindInMarks op b=false:=by first|exact Ywm _ (by decide) (by decide)|rfl):PT X (.Compare a [op] [b] pos) (tB t):=by
 intro pins s σ H Q I hw;refine wpAny_isTrue_Compare1 (thn (h pins s σ H _ I hw) λv s1 h1=>thn h1 λu s2 h2=>thn h2 λc s3 hx_=>?_) h1;obtain⟨x,H1,I1,r1,q1⟩:=hx_;obtain⟨d,rfl,q⟩:=q1;cases r1;exact wpAny_truthy_bool ⟨H1,I1,q⟩
variable {tA tB':TT}{rest:AL}
def tAnd(t u:TT):TT:=λσ H Q=>t σ H λc H1=>if c=true then u σ H1 Q else Q false H1
def tOr(t u:TT):TT:=λσ H Q=>t σ H λc H1=>if c=true then Q true H1 else u σ H1 Q
def tNot(t:TT):TT:=λσ H Q=>t σ H λc H1=>Q (!c) H1
theorem Yz4(ha:PT X a tA):PW X (.BoolOp .And [a] pos) tA:=by
 intro wh pins s σ H Q I h;refine isTrue_and (thn (ha pins s σ H Q I h) λc s1 e=>?_)
 cases c with
 | true=>exact isTrue_and_nil e
 | false=>exact e
theorem y20(ha:PT X a tA):PW X (.BoolOp .Or [a] pos) tA:=by
 intro wh pins s σ H Q I h;refine isTrue_or (thn (ha pins s σ H Q I h) λc s1 e=>?_)
 cases c with
 | false=>exact isTrue_or_nil e
 | true=>exact e
theorem y21(ha:PT X a tA)(hb:PW X (.BoolOp .And (b::rest) pos) tB'):PW X (.BoolOp .And (a::b::rest) pos) (tAnd tA tB'):=by
 intro wh pins s σ H Q I h;refine isTrue_and (thn (ha pins s σ H _ I h) λc s1 hx_=>?_);obtain⟨H1,I1,q1⟩:=hx_
 cases c with
 | true=>exact hb wh pins s1 σ H1 Q I1 q1
 | false=>exact⟨H1,I1,q1⟩
theorem y6f(ha:PT X a tA)(hb:PW X (.BoolOp .Or (b::rest) pos) tB'):PW X (.BoolOp .Or (a::b::rest) pos) (tOr tA tB'):=by
 intro wh pins s σ H Q I h;refine isTrue_or (thn (ha pins s σ H _ I h) λc s1 hx_=>?_);obtain⟨H1,I1,q1⟩:=hx_
 cases c with
 | true=>exact⟨H1,I1,q1⟩
 | false=>exact hb wh pins s1 σ H1 Q I1 q1
theorem y22(ha:PT X a tA):PT X (.UnaryOp .Not a pos) (tNot tA):=by
 intro pins s σ H Q I h;exact isTrue_not (ha pins s σ H (λc H1=>Q (!c) H1) I h)
def y6g(ta tb:TE):TE:=λσ H Q=>ta σ H λx H1=>∃c,x=.bl c/\if c=true then tb σ H1 Q else Q (.bl false) H1
def y6h(ta:TE):TE:=λσ H Q=>ta σ H λx H1=>∃c,x=.bl c/\Q (.bl (!c)) H1
theorem y23{op}{t:TE}(h:PE X a t):PE X (.BoolOp op [a] pos) t:=λpins s σ H Q I hw=>BoolOp_one (h pins s σ H Q I hw)
theorem y24(ha:PE X a ta)(hb:PE X (.BoolOp .And (b::rest) pos) tb):PE X (.BoolOp .And (a::b::rest) pos) (y6g ta tb):=by
 intro pins s σ H Q I h;refine BoolOp_and (thn (ha pins s σ H _ I h) λv s1 hx_=>?_);obtain⟨x,H1,I1,r1,q1⟩:=hx_;obtain⟨c,rfl,q1⟩:=q1;cases r1;refine wpAny_truthy_bool ?_
 cases c with
 | true=>exact hb pins s1 σ H1 Q I1 q1
 | false=>exact⟨.bl false,H1,I1,rfl,q1⟩
theorem y25(ha:PE X a ta):PE X (.UnaryOp .Not a pos) (y6h ta):=by
 intro pins s σ H Q I h;refine UnaryOp_ (thn (ha pins s σ H _ I h) λv s1 hx_=>?_);obtain⟨x,H1,I1,r1,q1⟩:=hx_;obtain⟨c,rfl,q1⟩:=q1;cases r1;exact not_of (wpAny_truthy_bool ⟨.bl (!c),H1,I1,rfl,q1⟩)
def tIf(t:TT)(ta tb:TE):TE:=λσ H Q=>t σ H λc H1=>if c=true then ta σ H1 Q else tb σ H1 Q
theorem Ywn{c:Expr}(hc:PT X c tA)(ha:PE X a ta)(hb:PE X b tb):PE X (.IfExp c a b pos) (tIf tA ta tb):=by
 intro pins s σ H Q I h;refine wpAny_IfExp (thn (hc pins s σ H _ I h) λd s1 hx_=>?_);obtain⟨H1,I1,q1⟩:=hx_
 cases d with
 | true=>exact ha pins s1 σ H1 Q I1 q1
 | false=>exact hb pins s1 σ H1 Q I1 q1
end
def SqL(K:W.Frag)(H:Hp)(a:Addr)(xs:AN):Prop:=
 Rd H a (.lst xs)\/
  ∃(o:Obj) (its:Array Value) (n:Nat),K.lookup a=some o/\o.cls=.type "list"/\o.dict=none/\o.data=.seq its n/\its.size<=sizeLine/\Vals xs its.toList
def SqT(K:W.Frag)(H:Hp)(a:Addr)(xs:AN):Prop:=
 Rd H a (.tup xs)\/
  ∃(o:Obj) (its:Array Value) (n:Nat),K.lookup a=some o/\o.cls=.type "tuple"/\o.data=.seq its n/\its.size<=sizeLine/\Vals xs its.toList
def absV:Value->Option V
 | .none=>some .non
 | .bool b=>some (.bl b)
 | .int i _=>some (.int i)
 | .str x _=>some (.str x)
 | .bytes b _=>some (.byt b)
 | .float b _=>some (.flt b)
 | .ref a=>some (.ref a)
 | .type n=>some (.ty n)
 | _=>none
theorem RelV.abs{x:V}{u:Value}(r:RelV x u):absV u=some x:=by
 cases x with
 | non=>cases r;rfl
 | bl _=>cases r;rfl
 | int _=>obtain⟨t,rfl⟩:=r;rfl
 | str _=>obtain⟨t,rfl⟩:=r;rfl
 | byt _=>obtain⟨t,rfl⟩:=r;rfl
 | flt _=>obtain⟨t,rfl⟩:=r;rfl
 | ref _=>cases r;rfl
 | ty _=>cases r;rfl
theorem RelV.inj{x y:V}{u:Value}(r:RelV x u)(q:RelV y u):x=y:=w9 (r.abs.symm.trans q.abs)
theorem Vals.inj:∀{xs ys:AN}{us:AD},Vals xs us->Vals ys us->xs=ys
 :=by
  intro xs ys us h
  induction h generalizing ys with
  | nil=>
    intro h2;cases h2;rfl
  | cons r t ih=>
    intro h2
    cases h2 with
    | cons r' t'=>rw[r.inj r',ih t']
section
variable {X:Cx}{pins:AC}{σ:St}{H:Hp}{s:Shared}{a:Addr}{xs ys:AN}
theorem SqL.of{K:W.Frag}(h:H a=some (.lst xs)):SqL K H a xs:=.inl (.inl h)
theorem SqT.of{K:W.Frag}(h:H a=some (.tup xs)):SqT K H a xs:=.inl (.inl h)
theorem Inv.list(I:Inv X pins σ H s)(h:SqL X.K H a xs):∃its:AD,Vals xs its/\PlainL s.heap a its.toArray/\xs.length<=sizeLine:=by
 rcases h with h|⟨o,its,n,hk,hc,hd,hs,hz,r⟩
 ·obtain⟨z,its,n,r,e⟩:=h.ok I.hok
  exact⟨its,r,⟨_,n,e,rfl,rfl,rfl⟩,z⟩
 ·refine⟨its.toList,r,⟨o,n,I.kIn a o hk,hc,hd,by simpa using hs⟩,?_⟩
  have e:=r.length;simp only[qi]at e;lia
theorem Inv.tuple(I:Inv X pins σ H s)(h:SqT X.K H a xs):∃its:AD,Vals xs its/\IsTup s.heap a its.toArray/\xs.length<=sizeLine:=by
 rcases h with h|⟨o,its,n,hk,hc,hs,hz,r⟩
 ·obtain⟨z,its,r,p⟩:=h.ok I.hok
  exact⟨its,r,p,z⟩
 ·refine⟨its.toList,r,⟨o,I.kIn a o hk,hc,n,by simpa using hs⟩,?_⟩
  have e:=r.length;simp only[qi]at e;lia
theorem Inv.list_inj(I:Inv X pins σ H s)(h:SqL X.K H a xs)(h':SqL X.K H a ys):xs=ys:=by
 obtain⟨its,r,⟨o,n,e,_,_,d⟩,_⟩:=I.list h;obtain⟨its',r',⟨o',n',e',_,_,d'⟩,_⟩:=I.list h';rw[e]at e';cases e';rw[d]at d';injection d' with d1 _
 have:its=its':=by simpa using congrArg Array.toList d1
 subst this;exact r.inj r'
theorem Inv.tuple_inj(I:Inv X pins σ H s)(h:SqT X.K H a xs)(h':SqT X.K H a ys):xs=ys:=by
 obtain⟨its,r,⟨o,e,_,n,d⟩,_⟩:=I.tuple h;obtain⟨its',r',⟨o',e',_,n',d'⟩,_⟩:=I.tuple h';rw[e]at e';cases e';rw[d]at d';injection d' with d1 _
 have:its=its':=by simpa using congrArg Array.toList d1
 subst this;exact r.inj r'
end
abbrev Cx.wish(X:Cx)(E:AB):Cx:={ X with xe:=E }
abbrev Cx.nox(X:Cx):Cx:=X.wish λ_ _=>False
theorem Cx.Ok.wish{X:Cx}(ok:X.Ok)(E:AB):(X.wish E).Ok:=
 ⟨ok.mod,ok.kind,ok.glob,ok.blt,ok.above,ok.inj,ok.has,ok.cab,ok.hd,ok.frames,ok.stk,ok.exf,ok.bs,ok.bsz,ok.noex,ok.exfs,ok.funs,ok.frf⟩
theorem Cx.Ok.unwish{X:Cx}{E:AB}(ok:(X.wish E).Ok):X.Ok:=
 ⟨ok.mod,ok.kind,ok.glob,ok.blt,ok.above,ok.inj,ok.has,ok.cab,ok.hd,ok.frames,ok.stk,ok.exf,ok.bs,ok.bsz,ok.noex,ok.exfs,ok.funs,ok.frf⟩
section
variable {X:Cx}{pins:AC}{σ:St}{H:Hp}{s:Shared}{E:AB}{st:Stmt}{rest:List Stmt}{t u:TS}{e:Expr}{te:TE}{pos:Pos}
theorem Inv.wish(I:Inv X pins σ H s)(E:AB):Inv (X.wish E) pins σ H s:=⟨I.ok.wish E,I.os,I.bare,I.base,I.loc,I.cell,I.free,I.freeC,I.pin,I.hok,I.len⟩
theorem Inv.unwish(I:Inv (X.wish E) pins σ H s):Inv X pins σ H s:=⟨I.ok.unwish,I.os,I.bare,I.base,I.loc,I.cell,I.free,I.freeC,I.pin,I.hok,I.len⟩
theorem SP.unwish{D:Ends}{f:Flow}{s':Shared}(h:SP (X.wish E) pins D f s'):SP X pins D f s':=by
 cases f with
 | next=>obtain⟨σ',H',I,q⟩:=h;exact⟨σ',H',I.unwish,q⟩
 | brk=>obtain⟨σ',H',I,q⟩:=h;exact⟨σ',H',I.unwish,q⟩
 | cont=>obtain⟨σ',H',I,q⟩:=h;exact⟨σ',H',I.unwish,q⟩
 | ret u=>obtain⟨v,σ',H',I,r,q⟩:=h;exact⟨v,σ',H',I.unwish,r,q⟩
theorem PSs.nox{st:List Stmt}{t:TS}(h:PSs X.nox st t):PSs X st t:=λpins s σ H D I hw=>
 w6 (h pins s σ H D (I.wish _) hw) (λ_ _ q=>q.unwish) λ_ _ z=>False.elim z
def y26:TS:=λD σ H=>D.nx σ H
def tSeq(t u:TS):TS:=λD σ H=>t { D with nx:=u D } σ H
theorem Ys6:PSs X [] y26:=λ_ _ σ H _ I h=>wpAny_execs_nil ⟨σ,H,I,h⟩
theorem Yqv(h1:PS X st t)(h2:PSs X rest u):PSs X (st::rest) (tSeq t u):=by
 intro pins s σ H D I h;refine wpAny_execs_cons (thn (h1 pins s σ H { D with nx:=u D } I h) λf s1 q=>?_)
 cases f with
 | next=>
   obtain⟨σ',H',I',q⟩:=q;exact h2 pins s1 σ' H' D I' q
 | ret v=>exact q
 | brk=>exact q
 | cont=>exact q
theorem Ys7(h1:PS X st t):PSs X [st] t:=by
 intro pins s σ H D I h;refine wpAny_execs_cons (thn (h1 pins s σ H D I h) λf s1 q=>?_)
 cases f with
 | next=>exact wpAny_execs_nil q
 | ret v=>exact q
 | brk=>exact q
 | cont=>exact q
theorem Yz5:PS X (.Pass pos) y26:=λ_ _ σ H _ I h=>wpAny_Pass ⟨σ,H,I,h⟩
theorem Inv.quiet{pins:AC}{σ:St}{H:Hp}{s:Shared}(I:Inv X pins σ H s):interactive X.env=false:=by simp[interactive,I.ok.kind]
def y6i(te:TE):TS:=λD σ H=>te σ H λ_ H1=>D.nx σ H1
theorem Yf0(he:PE X e te)(hs:swapsWith e none pos.line X.env=pure false:=by rfl):PS X (.Expr e pos) (y6i te):=by
 intro pins s σ H D I h;refine wpAny_Expr_any (thn (he pins s σ H _ I h) λv s1 hx_=>?_) I.quiet hs;obtain⟨x,H1,I1,r1,q1⟩:=hx_;exact⟨σ,H1,I1,q1⟩
def tRet(te:TE):TS:=λD σ H=>te σ H D.rt
theorem Yy1(he:PE X e te):PS X (.Return (some e) pos) (tRet te):=by
 intro pins s σ H D I h;refine wpAny_Return_some (thn (he pins s σ H _ I h) λv s1 hx_=>?_);obtain⟨x,H1,I1,r1,q1⟩:=hx_;exact⟨x,σ,H1,I1,r1,q1⟩
def tIfS(c:TT)(t u:TS):TS:=λD σ H=>c σ H λb H1=>if b=true then t D σ H1 else u D σ H1
theorem Yz6{c:Expr}{a b:List Stmt}{tc:TT}(hc:PT X c tc)(ha:PSs X a t)(hb:PSs X b u):PS X (.If c a b pos) (tIfS tc t u):=by
 intro pins s σ H D I h;refine wpAny_If (thn (hc pins s σ H _ I h) λd s1 hx_=>?_);obtain⟨H1,I1,q1⟩:=hx_
 cases d with
 | true=>exact ha pins s1 σ H1 D I1 q1
 | false=>exact hb pins s1 σ H1 D I1 q1
end
abbrev TG:=V->St->Hp->(St->Hp->Prop)->Prop
abbrev TGs:=AN->St->Hp->(St->Hp->Prop)->Prop
def PG(X:Cx)(target:Expr)(t:TG):Prop:=
 ∀(pins:AC) (s:Shared) (σ:St) (H:Hp) (v:V) (u:Value) (Q:St->Hp->Prop),Inv X pins σ H s->RelV v u->t v σ H Q->
  wpAny (model X.prog X.w) X.A (assign target X.env u) (λ_ s'=>∃σ' H',Inv X pins σ' H' s'/\Q σ' H') X.xe s
def PGs(X:Cx)(ts:AL)(t:TGs):Prop:=
 ∀(pins:AC) (s:Shared) (σ:St) (H:Hp) (vs:AN) (us:AD) (Q:St->Hp->Prop),Inv X pins σ H s->Vals vs us->t vs σ H Q->
  wpAny (model X.prog X.w) X.A (assignInOrder ((assignEach ts X.env).map (·.2)) us) (λ_ s'=>∃σ' H',Inv X pins σ' H' s'/\Q σ' H') X.xe s
abbrev TSet:=V->V->V->Hp->(Hp->Prop)->Prop
def PSet(X:Cx)(t:TSet):Prop:=
 ∀(pins:AC) (s:Shared) (σ:St) (H:Hp) (o i v:V) (ov iv u:Value) (Q:Hp->Prop),Inv X pins σ H s->RelV o ov->RelV i iv->RelV v u->t o i v H Q->
  wpAny (model X.prog X.w) X.A (setItem ov iv u) (λ_ s'=>∃H',Inv X pins σ H' s'/\Q H') X.xe s
section
variable {X:Cx}{pos:Pos}
def Yr4(i:Nat):TG:=λv σ H Q=>Q (σ.set i (some v)) H
theorem Yhm{i:Nat}{x:Str}(hN:X.N.Nodup)(hi:X.N[i]?=some x)(hx:Loc X.env.scope x)(hf:X.fn x=true\/X.env.scope.names.lookup x=some .local:=by trivial):PG X (.Name x pos) (Yr4 i):=by
 intro pins s σ H v u Q I r h;exact wpAny_assign_Name (Yqu I hN hi hx r (λs' I'=>⟨_,H,I',h⟩) hf)
def gNil:TGs:=λvs σ H Q=>vs=[]/\Q σ H
def y6j(t:TG)(u:TGs):TGs:=λvs σ H Q=>∃v r,vs=v::r/\t v σ H λσ' H'=>u r σ' H' Q
theorem Ys8:PGs X [] gNil:=by
 intro pins s σ H vs us Q I r h;obtain⟨e,h⟩:=h;subst e;cases r;exact assignInOrder_nil ⟨σ,H,I,h⟩
theorem Ygg{e:Expr}{es:AL}{t:TG}{u:TGs}(h1:PG X e t)(h2:PGs X es u)
 (hs:(assignEach (e::es) X.env).map (·.2)=assign e X.env::(assignEach es X.env).map (·.2):=by rfl):PGs X (e::es) (y6j t u):=by
 intro pins s σ H vs us Q I r h;obtain⟨v,vr,e1,h⟩:=h;subst e1
 cases r with
 | cons r rr=>
   rw[hs];refine assignInOrder_cons (thn (h1 pins s σ H _ _ _ I r h) λ_ s1 hx_=>?_);obtain⟨σ1,H1,I1,q1⟩:=hx_;exact h2 pins s1 σ1 H1 _ _ Q I1 rr q1
def gTup(K:W.Frag)(n:Nat)(t:TGs):TG:=λv σ H Q=>∃a xs,v=.ref a/\SqT K H a xs/\xs.length=n/\t xs σ H Q
theorem Yy2{es:AL}{k:Nat}{t:TGs}{n:Nat}(hc:X.calm=true)(h:PGs X es t)
 (hn:(assignEach es X.env).length=n:=by rfl) (hst:(assignEach es X.env).findIdx? (·.1)=none:=by rfl):PG X (.Tuple es k pos) (gTup X.K n t):=by
 intro pins s σ H v u Q I r hw;obtain⟨a,xs,e1,hq,hl,hw⟩:=hw;subst e1;cases r;obtain⟨its,rv,ht,hz⟩:=I.tuple hq;refine assign_Tuple_tuple (I.ok.hd hc) ht (by simp[hn,<-hl,rv.length]) hst λh' hx=>?_;have I1:Inv X pins σ H { s with heap:=h' }:=I.kept (t':=s.toks) λb o e=>hx b o (ql (qk e)) e;exact h pins _ σ H xs _ Q I1 (by simpa using rv) hw
def gSub(to ti:TE)(t:TSet):TG:=λv σ H Q=>to σ H λo H1=>ti σ H1 λi H2=>t o i v H2 λH3=>Q σ H3
theorem Yy3{o i:Expr}{to ti:TE}{t:TSet}(ho:PE X o to)(hi:PE X i ti)(hs:PSet X t)
 (ha:∀v,assign (.Subscript o i pos) X.env v=(do
  let ov <-holding [v] (eval o X.env)
  let iv <-holding [v,ov] (eval i X.env)
  standAt pos
  holding [v,ov,iv] (setItem ov iv v)
  release [v,ov,iv] []):=by intro _;rfl):PG X (.Subscript o i pos) (gSub to ti t):=by
 intro pins s σ H v u Q I r h;rw[ha];refine wa (we (thn (ho pins s σ H _ I h) λov s1 hx_=>?_));obtain⟨x,H1,I1,r1,q1⟩:=hx_;refine wa (we (thn (hi pins s1 σ H1 _ I1 q1) λiv s2 hx_=>?_));obtain⟨y,H2,I2,r2,q2⟩:=hx_;refine wa (wpAny_standAt (wa (we (thn (hs pins s2 σ H2 x y v ov iv u _ I2 r1 r2 r q2) λ_ s3 hx_=>?_))));obtain⟨H3,I3,q3⟩:=hx_;exact wpAny_release ⟨σ,H3,I3,q3⟩
def tAsg(te:TE)(g:TG):TS:=λD σ H=>te σ H λx H1=>g x σ H1 D.nx
theorem Yy4{tg e:Expr}{te:TE}{g:TG}(he:PE X e te)(hg:PG X tg g)(hs:swapsWithSole [tg] e pos.line X.env=pure false:=by rfl)(hw:swappedStores [tg] e X.env=pure none:=by rfl)
 (h1:(assignEach [tg] X.env).map (·.2)=[assign tg X.env]:=by rfl):PS X (.Assign [tg] e pos) (tAsg te g):=by
 intro pins s σ H D I h;refine wpAny_Assign_stores (thn (he pins s σ H _ I h) λv s1 hx_=>?_) hs hw;obtain⟨x,H1,I1,r1,q1⟩:=hx_;rw[h1];exact thn (hg pins s1 σ H1 x v _ I1 r1 q1) λ_ s2 q=>q
theorem Yqw{i:Nat}{x:Str}{e:Expr}{te:TE}{pos':Pos}(hN:X.N.Nodup)(hi:X.N[i]?=some x)(hx:Loc X.env.scope x)(he:PE X e te)(hs:swapsWith e (some (.Name x pos')) pos.line X.env=pure false:=by rfl)(hf:X.fn x=true\/X.env.scope.names.lookup x=some .local:=by trivial) :
 PS X (.Assign [.Name x pos'] e pos) (tAsg te (Yr4 i)):=by
 intro pins s σ H D I h;refine wpAny_Assign_Name (thn (he pins s σ H _ I h) λv s1 hx_=>?_) hs;obtain⟨y,H1,I1,r1,q1⟩:=hx_;exact Yqu I1 hN hi hx r1 (λs2 I2=>⟨_,H1,I2,q1⟩) hf
def y27(c:TT)(tb:TS):TS:=λD σ H=>∃W:Nat->St->Hp->Prop,(∃m,W m σ H)/\∀m σ H,W m σ H->
 c σ H λb H1=>if b=true then ∃N:St->Hp->Prop,(∀σ' H',N σ' H'->∃m',m'<m/\W m' σ' H')/\tb { D with nx:=N,ct:=N,bk:=D.nx } σ H1 else D.nx σ H1
theorem Ywo{c:Expr}{body:List Stmt}{tc:TT}{tb:TS}(hp:PassesOwn (model X.prog X.w) X.A X.env X.xe)(hc:PT X c tc)(hb:PSs X body tb):PS X (.While c body [] pos) (y27 tc tb):=by
 intro pins s σ H D I h;obtain⟨W,⟨m0,w0⟩,turn⟩:=h;refine wpAny_While (codeAny_whileLoop (λn s'=>∃σ' H',Inv X pins σ' H' s'/\W n σ' H') ?_ m0 ⟨σ,H,I,w0⟩);rintro n s1 ⟨σ1,H1,I1,w1⟩;refine wpAny_passesOwn hp (thn (hc pins s1 σ1 H1 _ I1 (turn n σ1 H1 w1)) λb s2 hx_=>?_);obtain⟨H2,I2,q2⟩:=hx_
 cases b with
 | true=>
   obtain⟨N,hN,q2⟩:=q2;rw[if_pos rfl];refine wpAny_passesOwn hp (thn (hb pins s2 σ1 H2 _ I2 q2) λf s3 q3=>?_)
   cases f with
   | next=>
     obtain⟨σ3,H3,I3,n3⟩:=q3;obtain⟨m',hm,w3⟩:=hN σ3 H3 n3;exact⟨m',hm,σ3,H3,I3,w3⟩
   | cont=>
     obtain⟨σ3,H3,I3,n3⟩:=q3;obtain⟨m',hm,w3⟩:=hN σ3 H3 n3;exact⟨m',hm,σ3,H3,I3,w3⟩
   | brk=>exact q3
   | ret v=>exact q3
 | false=>
   rw[if_neg qh];exact wpAny_execs_nil ⟨σ1,H2,I2,q2⟩
end
structure It where
 go:Nat->Hp->Prop
 yld:Nat->Hp->V->Hp->Prop
 stop:Nat->Hp->Prop
def FpOk(X:Cx)(pins:AC)(H:Hp)(b:Addr):Prop:=
 H b=none/\b≠X.env.locals/\b∉X.fs/\(b∈X.ex\/X.s₀.heap.objs.size<=b)/\(∀x c,X.env.cells.lookup x=some c->c≠b)/\∀p∈X.pn++pins,p.1≠b
theorem Inv.fpOk{X:Cx}{pins:AC}{σ:St}{H H':Hp}{s:Shared}{b:Addr}(I:Inv X pins σ H s)(hb:(~~~s)<=b)(hn:H' b=none):FpOk X pins H' b:=by
 refine⟨hn,Nat.ne_of_gt (Qb I.lt hb),I.nofs hb,.inr (Nat.le_trans I.sz hb),λx c e z=>?_,λp hp z=>?_⟩
 ·obtain⟨v,q⟩:=I.cell x c e
  exact absurd (Qb q.lt (by rw[z];exact hb)) (Qd _)
 ·exact absurd (Qb (qk (I.pin p hp).1) (by rw[z];exact hb)) (Qd _)
structure Turn(P:Program)(w:World)(K:W.Frag)(tg:Expr)(J:It)(fp:List Addr)(it:Addr)(tn:Nat->Heap->Prop):Prop where
 mem:it∈fp
 obj:∀i h,tn i h->∀b∈fp,∃o,h.get? b=some o/\∀v,o.data≠.cell v
 keep:∀i h h',tn i h->(∀b∈fp,∀o,h.get? b=some o->h'.get? b=some o)->tn i h'
 item:∀(X:Cx),X.prog=P->X.w=w->X.K=K->X.calm=true->∀(i:Nat) (pins:AC) (s:Shared) (σ:St) (H:Hp) (E:AB),Inv X pins σ H s->(∀b∈fp,FpOk X pins H b)->tn i s.heap->J.go i H->
  wpAny (model P w) X.A (pyNext (.ref it)) (λr s1=>∃u,r=some u/\
   wpAny (model P w) X.A (letOwnedTupleGo tg (.ref it) u) (λ_ s2=>∃x H',Inv X pins σ H' s2/\RelV x u/\J.yld i H x H'/\tn (i+1) s2.heap/\∀b∈fp,H' b=none) E s1) E s
 done:∀(X:Cx),X.prog=P->X.w=w->X.K=K->X.calm=true->∀(i:Nat) (pins:AC) (s:Shared) (σ:St) (H:Hp) (E:AB),Inv X pins σ H s->(∀b∈fp,FpOk X pins H b)->tn i s.heap->J.stop i H->
  wpAny (model P w) X.A (pyNext (.ref it)) (λr s1=>r=none/\Inv X pins σ H s1) E s
 self:∀(A:Around) (i:Nat) (s:Shared) (Q:AB) (E:AB),tn i s.heap->Q (.ref it) s->wpAny (model P w) A (pyIter (.ref it)) Q E s
abbrev TI:=St->Hp->(It->Hp->Prop)->Prop
def PIE(X:Cx)(pins:AC)(σ:St)(tg:Expr)(R:It->Hp->Prop)(itv:Value)(s2:Shared):Prop:=
 ∃(it:Addr) (fp:List Addr) (tn:Nat->Heap->Prop) (J:It) (H':Hp),itv=.ref it/\Inv X pins σ H' s2/\Turn X.prog X.w X.K tg J fp it tn/\tn 0 s2.heap/\(∀b∈fp,FpOk X pins H' b)/\R J H'
def PI(X:Cx)(tg iter:Expr)(wi:TI):Prop:=
 ∀(pins:AC) (s:Shared) (σ:St) (H:Hp) (R:It->Hp->Prop),Inv X pins σ H s->wi σ H R->
  wpAny (model X.prog X.w) X.A (eval iter X.env) (λv s1=>wpAny (model X.prog X.w) X.A (pyIter v) (PIE X pins σ tg R) X.xe s1) X.xe s
theorem Yz7{M:Model}{A:Around}{E:AB}{s:Shared}{tg:Expr}{it:Addr}{u:Value}{o:Obj}{n:String}{vs:Array Value}{Q:Unit->Shared->Prop}(ho:s.heap.get? it=some o)(hc:o.cls=.type n)(hd:o.data=.fields vs)
 (hn:["enumerate","zip","dict_itemiterator","dict_reverseitemiterator","odict_iterator","itertools.zip_longest","itertools.pairwise"].contains n=false) (hQ:Q () s):wpAny M A (letOwnedTupleGo tg (.ref it) u) Q E s:=by
 unfold letOwnedTupleGo
 cases tg<;>first
  | exact wc hQ
  | (cases u<;>first
   | exact wc hQ
   | (refine wa (wpAny_load ho ?_)
      rw[hc,hd];show wpAny M A (if (["enumerate","zip","dict_itemiterator","dict_reverseitemiterator","odict_iterator","itertools.zip_longest","itertools.pairwise"].contains n&&vs[0]?==some (rawInt _))=true then _ else _) Q E s;rw[if_neg (by intro h;rw[hn,Bool.false_and]at h;cases h)]
      exact wc hQ))
def Itl(K:W.Frag)(a:Addr):It:=
 ⟨λi H=>∃xs x,SqL K H a xs/\xs[i]?=some x,λi H x H'=>H'=H/\∀xs,SqL K H a xs->xs[i]?=some x,λi H=>∃xs,SqL K H a xs/\xs.length<=i⟩
def Itt(K:W.Frag)(a:Addr):It:=
 ⟨λi H=>∃xs x,SqT K H a xs/\xs[i]?=some x,λi H x H'=>H'=H/\∀xs,SqT K H a xs->xs[i]?=some x,λi H=>∃xs,SqT K H a xs/\xs.length<=i⟩
def Itr(lo:Int)(n:Nat):It:=⟨λi _=>i<n,λi H x H'=>H'=H/\x=.int (lo+i),λi _=>n<=i⟩
theorem Ys9{P:Program}{w:World}{K:W.Frag}{tg:Expr}(a it:Addr):Turn P w K tg (Itl K a) [it] it (λi h=>h.IsListIter it a i) where
 mem:=by simp
 obj:=λi h st b hb=>by
  have e:b=it:=by simpa using hb
  subst e;obtain⟨o,e,c,d⟩:=st;exact⟨o,e,λv z=>by rw[d]at z;cases z⟩
 keep:=λi h h' st k=>st.at λo e=>k it (by simp) o e
 item:=by
  intro X hP hw hK hc i pins s σ H E I hf st hg;subst hP hw hK;obtain⟨xs,x,hq,hx⟩:=hg;obtain⟨its,rv,p,hz⟩:=I.list hq;obtain⟨u,hu,ru⟩:=rv.get hx;obtain⟨f0,f1,f2,f3,f4,f5⟩:=hf it (by simp);refine wpAny_pyNext_list_item st p.isList (x:=u) (by simpa using hu) λh' st' sb=>?_;have I1:Inv X pins σ H { s with heap:=h' }:=I.turned (t':=s.toks) (λb o hb e=>(sb.2 b hb).trans e) f0 f1 f3 f4 f5;obtain⟨o,e,c,d⟩:=id st';exact⟨u,rfl,Yz7 (s:={ s with heap:=h' }) e c d (by decide) ⟨x,H,I1,ru,⟨rfl,λys hy=>by rw[I.list_inj hy hq];exact hx⟩,st',λb hb=>(hf b hb).1⟩⟩
 done:=by
  intro X hP hw hK hc i pins s σ H E I hf st hg;subst hP hw hK;obtain⟨xs,hq,hx⟩:=hg;obtain⟨its,rv,p,hz⟩:=I.list hq;obtain⟨f0,f1,f2,f3,f4,f5⟩:=hf it (by simp);have hl:=rv.length
  exact wpAny_pyNext_list_end (I.ok.hd hc) st p.isList (by simp;lia) λh' eb=>⟨rfl,I.turned (t':=s.toks) (λb o hb e=>eb b o hb e) f0 f1 f3 f4 f5⟩
 self:=λ_ _ _ _ _ st h=>wpAny_pyIter_listiter st h
theorem Yr5{P:Program}{w:World}{K:W.Frag}{tg:Expr}(a it:Addr):Turn P w K tg (Itt K a) [it] it (λi h=>h.IsTupleIter it a i) where
 mem:=by simp
 obj:=λi h st b hb=>by
  have e:b=it:=by simpa using hb
  subst e;obtain⟨o,e,c,d⟩:=st;exact⟨o,e,λv z=>by rw[d]at z;cases z⟩
 keep:=λi h h' st k=>st.at λo e=>k it (by simp) o e
 item:=by
  intro X hP hw hK hc i pins s σ H E I hf st hg;subst hP hw hK;obtain⟨xs,x,hq,hx⟩:=hg;obtain⟨its,rv,p,hz⟩:=I.tuple hq;obtain⟨u,hu,ru⟩:=rv.get hx;obtain⟨f0,f1,f2,f3,f4,f5⟩:=hf it (by simp);refine wpAny_pyNext_tuple_item st (show s.heap.IsTuple a its.toArray from p) (x:=u) (by simpa using hu) λh' st' sb=>?_;have I1:Inv X pins σ H { s with heap:=h' }:=I.turned (t':=s.toks) (λb o hb e=>(sb.2 b hb).trans e) f0 f1 f3 f4 f5;obtain⟨o,e,c,d⟩:=id st';exact⟨u,rfl,Yz7 (s:={ s with heap:=h' }) e c d (by decide) ⟨x,H,I1,ru,⟨rfl,λys hy=>by rw[I.tuple_inj hy hq];exact hx⟩,st',λb hb=>(hf b hb).1⟩⟩
 done:=by
  intro X hP hw hK hc i pins s σ H E I hf st hg;subst hP hw hK;obtain⟨xs,hq,hx⟩:=hg;obtain⟨its,rv,p,hz⟩:=I.tuple hq;obtain⟨f0,f1,f2,f3,f4,f5⟩:=hf it (by simp);have hl:=rv.length
  exact wpAny_pyNext_tuple_end (I.ok.hd hc) st (show s.heap.IsTuple a its.toArray from p) (by simp;lia) λh' eb=>⟨rfl,I.turned (t':=s.toks) (λb o hb e=>eb b o hb e) f0 f1 f3 f4 f5⟩
 self:=λ_ _ _ _ _ st h=>wpAny_pyIter_tupleiter st h
theorem Yr6{P:Program}{w:World}{K:W.Frag}{tg:Expr}(it:Addr)(lo:Int)(n:Nat):Turn P w K tg (Itr lo n) [it] it (λi h=>IsRangeIter h it (lo+(i:Nat)*1) ((n:Int)-(i:Nat)) 1) where
 mem:=by simp
 obj:=λi h st b hb=>by
  have e:b=it:=by simpa using hb
  subst e
  exact⟨_,st,λv z=>by
   have z':Data.fields _=Data.cell v:=z
   cases z'⟩
 keep:=λi h h' st k=>k it (by simp) _ st
 item:=by
  intro X hP hw hK hc i pins s σ H E I hf st hg;subst hP hw hK;obtain⟨f0,f1,f2,f3,f4,f5⟩:=hf it (by simp);have W:=Walks.range (prog:=X.prog) (w:=X.w) (I.ok.hd hc) it lo 1 n;refine W.item i s _ _ hg st λv h' tk hv st' kk=>?_;obtain⟨t,rfl⟩:=hv;have I1:Inv X pins σ H { s with heap:=h',toks:=tk }:=I.turned (λb o hb e=>kk b o (by simpa using hb) e) f0 f1 f3 f4 f5;refine⟨_,rfl,Yz7 (s:={ s with heap:=h',toks:=tk }) (n:="range_iterator") st' rfl rfl (by decide) ⟨.int (lo+i),H,I1,⟨t,?_⟩,⟨rfl,rfl⟩,st',λb hb=>(hf b hb).1⟩⟩;rw[Int.mul_one]
 done:=by
  intro X hP hw hK hc i pins s σ H E I hf st hg;subst hP hw hK;obtain⟨f0,f1,f2,f3,f4,f5⟩:=hf it (by simp)
  exact wpAny_pyNext_range_end (I.ok.hd hc) st (by have:n<=i:=hg;lia) λh' eb=>⟨rfl,I.turned (t':=s.toks) (λb o hb e=>eb b o hb e) f0 f1 f3 f4 f5⟩
 self:=λ_ _ _ _ _ st h=>wpAny_pyIter_rangeiter st h
section
variable {X:Cx}{tg:Expr}
theorem Yqx{pins:AC}{σ:St}{H:Hp}{s:Shared}{R:It->Hp->Prop}{E:AB}{lo hi:Int}{t u v:Tok}{tk:Nat}(I:Inv X pins σ H s)(h1:-(2^62)<=lo)(h2:lo<2^62)(h3:-(2^62)<=hi)(h4:hi<2^62)
 (q:R (Itr lo (hi-lo).toNat) H):wpAny (model X.prog X.w) X.A (pyIter (.ref (~~~s))) (PIE X pins σ tg R) E { s with heap:=s.heap.push { cls:=.type "range",data:=.fields #[.int lo t,.int hi u,.int 1 v] },toks:=tk }:=by
 refine wpAny_pyIter_range (IsRange.new ..) (small_one h1 h2 h3 h4) ?_;have I1:Inv X pins σ H { s with heap:=s.heap.push { cls:=.type "range",data:=.fields #[.int lo t,.int hi u,.int 1 v] },toks:=tk }:=I.kept λb o e=>qd _ e
 refine⟨(s.heap.push { cls:=.type "range",data:=.fields #[.int lo t,.int hi u,.int 1 v] }).objs.size,[(s.heap.push { cls:=.type "range",data:=.fields #[.int lo t,.int hi u,.int 1 v] }).objs.size],_,_,H,rfl,
  I1.kept (t':=tk) λb o e=>qd _ e,Yr6 _ lo (hi-lo).toNat,?_,λb hb=>?_,q⟩
 ·have e1:lo+((0:Nat):Int)*1=lo:=by simp
  have e2:(((hi-lo).toNat:Nat):Int)-((0:Nat):Int)=Builtin.Range.rangeSize lo hi 1:=by rw[rangeSize_one];split<;>lia
  show IsRangeIter _ _ (lo+((0:Nat):Int)*1) ((((hi-lo).toNat:Nat):Int)-((0:Nat):Int)) 1;rw[e1,e2];exact qo _ rfl
 ·have e:b=(s.heap.push { cls:=.type "range",data:=.fields #[.int lo t,.int hi u,.int 1 v] }).objs.size:=by simpa using hb
  subst e;exact I1.fpOk (qt _) (I1.hok.fresh (qt _))
def y6k(ta:TA):TI:=λσ H R=>ta σ H λvs H1=>∃j:Int,vs=[.int j]/\-(2^62)<=j/\j<2^62/\R (Itr 0 j.toNat) H1
def y6l(ta:TA):TI:=λσ H R=>ta σ H λvs H1=>∃i j:Int,vs=[.int i,.int j]/\(-(2^62)<=i/\i<2^62/\-(2^62)<=j/\j<2^62)/\R (Itr i (j-i).toNat) H1
theorem Yta{a:Expr}{ta:TA}{p pos:Pos}(hg:Gl X "range")(hm:X.mg "range"=none)(ha:PA X [a] ta)(hs:starEach [a] X.env=[(false,eval a X.env)]:=by rfl):PI X tg (.Call (.Name "range" p) [a] [] pos) (y6k ta):=by
 intro pins s σ H R I h;refine Call_ (Yk4 I hg hm boot_range (PyProof.Rows.callWith_type1 (thn (ha pos pins s σ H _ I h) λus s1 hx_=>?_) hs rfl));obtain⟨vs,H1,I1,r1,q1⟩:=hx_;obtain⟨j,e,q1,q2,q⟩:=q1;subst e
 cases r1 with
 | cons r rr=>
   cases rr;obtain⟨t,rfl⟩:=r;exact call_range_1 (Yqx I1 (by lia) (by lia) q1 q2 (by simpa using q))
theorem Ytb{a b:Expr}{ta:TA}{p pos:Pos}(hg:Gl X "range")(hm:X.mg "range"=none)(ha:PA X [a,b] ta)(hs:starEach [a,b] X.env=[(false,eval a X.env),(false,eval b X.env)]:=by rfl)(hs2:starEach [b] X.env=[(false,eval b X.env)]:=by rfl) :
 PI X tg (.Call (.Name "range" p) [a,b] [] pos) (y6l ta):=by
 intro pins s σ H R I h;refine Call_ (Yk4 I hg hm boot_range (PyProof.Rows.callWith_type1 (thn (ha pos pins s σ H _ I h) λus s1 ⟨vs,H1,I1,r1,q1⟩=>?_) (by rw[hs,hs2]) (by rw[hs2];rfl)));obtain⟨i,j,e,⟨q1,q2,q3,q4⟩,q⟩:=q1;subst e
 cases r1 with
 | cons r rr=>
   cases rr with
   | cons r' rr=>
     cases rr;obtain⟨t,rfl⟩:=r;obtain⟨t',rfl⟩:=r';exact call_range_2 (Yqx I1 q1 q2 q3 q4 q)
def tFor(wi:TI)(g:TG)(tb:TS):TS:=λD σ H=>wi σ H λJ H1=>∃W:Nat->Nat->St->Hp->Prop,(∃m,W 0 m σ H1)/\∀i m σ H,W i m σ H->
 (J.stop i H/\D.nx σ H)\/(J.go i H/\∃N:St->Hp->Prop,(∀σ' H',N σ' H'->∃m',m'<m/\W (i+1) m' σ' H')/\∀x H',J.yld i H x H'->g x σ H' λσ2 H2=>tb { D with nx:=N,ct:=N,bk:=D.nx } σ2 H2)
def Yno(fp:List Addr)(h:Heap):AC:=fp.filterMap λb=>(h.get? b).map λo=>(b,o)
theorem Yfd{fp:List Addr}{h:Heap}{b:Addr}{o:Obj}(hb:b∈fp)(e:h.get? b=some o):(b,o)∈Yno fp h:=List.mem_filterMap.mpr ⟨b,hb,by rw[e];rfl⟩
theorem Ytc{fp:List Addr}{h:Heap}{p:Addr×Obj}(hp:p∈Yno fp h):p.1∈fp/\h.get? p.1=some p.2:=by
 obtain⟨b,hb,e⟩:=List.mem_filterMap.mp hp
 cases q:h.get? b with
 | none=>rw[q]at e;cases e
 | some o=>
   rw[q]at e;have e':(b,o)=p:=w9 e;subst e';exact⟨hb,q⟩
theorem Inv.pinned{pins:AC}{σ:St}{H:Hp}{s:Shared}{fp:List Addr}(I:Inv X pins σ H s)(hf:∀b∈fp,FpOk X pins H b)(ho:∀b∈fp,∃o,s.heap.get? b=some o/\∀v,o.data≠.cell v):Inv X (pins++Yno fp s.heap) σ H s:=
 I.pins_of λp hp=>(qu hp).elim (λz=>I.pin p (Qi _ z)) λz=>by
  obtain⟨hb,e⟩:=Ytc z;obtain⟨f0,f1,f2,_⟩:=hf p.1 hb;obtain⟨o,e',d⟩:=ho p.1 hb;rw[e]at e';cases e';exact⟨e,f0,f1,f2,d⟩
theorem Inv.unpinned{pins pl:AC}{σ:St}{H:Hp}{s:Shared}(I:Inv X (pins++pl) σ H s):Inv X pins σ H s:=I.pins_of λp hp=>I.pin p (Qi _ (List.mem_append_left _ hp))
theorem Yy5{iter:Expr}{body:List Stmt}{wi:TI}{g:TG}{tb:TS}{pos:Pos}(hp:PassesOwn (model X.prog X.w) X.A X.env X.xe)(hc:X.calm=true)(hi:PI X tg iter wi)(hg:PG X tg g)(hb:PSs X body tb)
 (hs:∀x,foldedSetIterable iter X.env x=pure x:=by intro _;rfl):PS X (.For tg iter body [] pos) (tFor wi g tb):=by
 intro pins s σ H D I h;refine wpAny_For (thn (hi pins s σ H _ I h) λv s1 h1=>thn h1 λitv s2 h2=>?_) hs;obtain⟨it,fp,tn,J,H2,e,I2,T,st2,f2,W,⟨m0,w0⟩,turn⟩:=h2;subst e
 have stat:∀{H':Hp},(∀b∈fp,H' b=none)->∀b∈fp,FpOk X pins H' b:=λhn b hb=>⟨hn b hb,(f2 b hb).2⟩
 refine codeAny_forLoop_any (λn s'=>∃i σ' H',Inv X pins σ' H' s'/\tn i s'.heap/\(∀b∈fp,H' b=none)/\W i n σ' H') ?_ m0 ⟨0,σ,H2,I2,st2,λb hb=>(f2 b hb).1,w0⟩;rintro n s3 ⟨i,σ3,H3,I3,st3,fr3,w3⟩;rcases turn i n σ3 H3 w3 with⟨stop,qn⟩|⟨go,N,hN,step⟩
 ·refine wpAny_passesOwn hp (thn (T.done X rfl rfl rfl hc i pins s3 σ3 H3 X.xe I3 (stat fr3) st3 stop) λr s4 hx_=>?_)
  obtain⟨hr,I4⟩:=hx_;subst hr;exact wpAny_execs_nil ⟨σ3,H3,I4,qn⟩
 ·refine wpAny_passesOwn hp (thn (T.item X rfl rfl rfl hc i pins s3 σ3 H3 X.xe I3 (stat fr3) st3 go) λr s4 hx_=>?_)
  obtain⟨u,hr,h4⟩:=hx_;subst hr;refine wpAny_passesOwn hp (thn h4 λ_ s5 hx_=>?_);obtain⟨x,H5,I5,r5,y5,st5,fr5⟩:=hx_;have I5':=I5.pinned (stat fr5) (T.obj _ _ st5);refine wpAny_passesOwn hp (thn (hg _ s5 σ3 H5 x u _ I5' r5 (step x H5 y5)) λ_ s6 hx_=>?_);obtain⟨σ6,H6,I6,q6⟩:=hx_;refine wpAny_passesOwn hp (thn (hb _ s6 σ6 H6 _ I6 q6) λf s7 q7=>?_)
  have again:∀{σ7:St}{H7:Hp},Inv X (pins++Yno fp s5.heap) σ7 H7 s7->N σ7 H7->∃m,m<n/\∃i σ' H',Inv X pins σ' H' s7/\tn i s7.heap/\(∀b∈fp,H' b=none)/\W i m σ' H':=λ{σ7 H7} I7 n7=>by
   obtain⟨m',hm,w7⟩:=hN σ7 H7 n7;refine⟨m',hm,i+1,σ7,H7,I7.unpinned,T.keep _ _ _ st5 λb hb o e=>(I7.pin (b,o) (Qi _ (Qi _ (Yfd hb e)))).1,λb hb=>?_,w7⟩;obtain⟨o,e,d⟩:=T.obj _ _ st5 b hb;exact(I7.pin (b,o) (Qi _ (Qi _ (Yfd hb e)))).2.1
  cases f with
  | next=>obtain⟨σ7,H7,I7,n7⟩:=q7;exact again I7 n7
  | cont=>obtain⟨σ7,H7,I7,n7⟩:=q7;exact again I7 n7
  | brk=>obtain⟨σ7,H7,I7,q7⟩:=q7;exact⟨σ7,H7,I7.unpinned,q7⟩
  | ret v=>obtain⟨x7,σ7,H7,I7,r7,q7⟩:=q7;exact⟨x7,σ7,H7,I7.unpinned,r7,q7⟩
end
abbrev R2:=V->V->Hp->VK->Prop
def OpR(X:Cx)(f:Value->Value->Sem Value)(r:R2):Prop:=
 ∀(pins:AC) (s:Shared) (σ:St) (H:Hp) (x y:V) (v u:Value) (Q:VK),Inv X pins σ H s->RelV x v->RelV y u->r x y H Q->
  wpAny (model X.prog X.w) X.A (f v u) (EP X pins σ Q) X.xe s
def UnR(X:Cx)(f:Value->Sem Value)(r:V->Hp->VK->Prop):Prop:=
 ∀(pins:AC) (s:Shared) (σ:St) (H:Hp) (x:V) (v:Value) (Q:VK),Inv X pins σ H s->RelV x v->r x H Q->
  wpAny (model X.prog X.w) X.A (f v) (EP X pins σ Q) X.xe s
def Ydu(X:Cx)(f:Value)(r:AN->Hp->VK->Prop):Prop:=
 ∀(pins:AC) (s:Shared) (σ:St) (H:Hp) (xs:AN) (us:AD) (Q:VK),Inv X pins σ H s->Vals xs us->r xs H Q->
  wpAny (model X.prog X.w) X.A (call f us) (EP X pins σ Q) X.xe s
def TruR(X:Cx)(r:V->Hp->(Bool->Hp->Prop)->Prop):Prop:=
 ∀(pins:AC) (s:Shared) (σ:St) (H:Hp) (x:V) (v:Value) (Q:Bool->Hp->Prop),Inv X pins σ H s->RelV x v->r x H Q->
  wpAny (model X.prog X.w) X.A (truthy v) (TP X pins σ Q) X.xe s
def tOp(r:R2)(ta tb:TE):TE:=λσ H Q=>ta σ H λx H1=>tb σ H1 λy H2=>r x y H2 Q
def tUn(r:V->Hp->VK->Prop)(ta:TE):TE:=λσ H Q=>ta σ H λx H1=>r x H1 Q
def rI(C:Int->Int->Prop)(g:Int->Int->V):R2:=λx y H Q=>∃i j,x=.int i/\y=.int j/\C i j/\Q (g i j) H
def rI0(g:Int->Int->V):R2:=λx y H Q=>∃i j,x=.int i/\y=.int j/\Q (g i j) H
def rU(g:Int->V):V->Hp->VK->Prop:=λx H Q=>∃i,x=.int i/\Q (g i) H
section
variable {X:Cx}{a b c:Expr}{ta tb tc:TE}{pos:Pos}
theorem binT(ha:PE X a ta)(hb:PE X b tb){pins:AC}{s:Shared}{σ:St}{H:Hp}{R:V->V->Hp->Prop}(I:Inv X pins σ H s)
 (h:ta σ H λx H1=>tb σ H1 λy H2=>R x y H2) {Q:AB}{f:Value->Value->Sem Value}
 (hf:∀v u s2 x y H2,Inv X pins σ H2 s2->RelV x v->RelV y u->R x y H2->wpAny (model X.prog X.w) X.A (f v u) Q X.xe s2) :
 wpAny (model X.prog X.w) X.A (eval a X.env) (λv s₁=>wpAny (model X.prog X.w) X.A (eval b X.env) (λu s₂=>wpAny (model X.prog X.w) X.A (f v u) Q X.xe s₂) X.xe s₁) X.xe s:=by
 refine thn (ha pins s σ H _ I h) λv s1 hx_=>?_;obtain⟨x,H1,I1,r1,q1⟩:=hx_;refine thn (hb pins s1 σ H1 _ I1 q1) λu s2 hx_=>?_;obtain⟨y,H2,I2,r2,q2⟩:=hx_;exact hf v u s2 x y H2 I2 r1 r2 q2
theorem y28{op:Operator}{r:R2}(ho:OpR X (binaryOp op) r)(ha:PE X a ta)(hb:PE X b tb):PE X (.BinOp a op b pos) (tOp r ta tb):=by
 intro pins s σ H Q I h;exact wpAny_BinOp (binT ha hb I h λv u s2 x y H2 I2 rx ry q=>ho pins s2 σ H2 x y v u Q I2 rx ry q)
theorem y6m{op:UnaryOp}{r:V->Hp->VK->Prop}(ho:UnR X (unaryOp op) r)(ha:PE X a ta):PE X (.UnaryOp op a pos) (tUn r ta):=by
 intro pins s σ H Q I h;refine UnaryOp_ (thn (ha pins s σ H _ I h) λv s1 hx_=>?_);obtain⟨x,H1,I1,r1,q1⟩:=hx_;exact ho pins s1 σ H1 x v Q I1 r1 q1
theorem opI{f:Value->Value->Sem Value}{C:Int->Int->Prop}{g:Int->Int->Int}
 (rule:∀(i j:Int) (t u:Tok) (s:Shared) (Q:AB) (E:AB),C i j->Q (.int (g i j) s.toks) { s with toks:=s.toks+1 }->wpAny (model X.prog X.w) X.A (f (.int i t) (.int j u)) Q E s) :
 OpR X f (rI C λi j=>.int (g i j)):=by
 intro pins s σ H x y v u Q I rx ry h;obtain⟨i,j,rfl,rfl,hc,q⟩:=h;obtain⟨t,rfl⟩:=rx;obtain⟨t',rfl⟩:=ry;exact rule i j t t' s _ _ hc ⟨.int (g i j),H,I.tok _,⟨_,rfl⟩,q⟩
theorem opI0{f:Value->Value->Sem Value}{g:Int->Int->Int}
 (rule:∀(i j:Int) (t u:Tok) (s:Shared) (Q:AB) (E:AB),Q (.int (g i j) s.toks) { s with toks:=s.toks+1 }->wpAny (model X.prog X.w) X.A (f (.int i t) (.int j u)) Q E s) :
 OpR X f (rI0 λi j=>.int (g i j)):=by
 intro pins s σ H x y v u Q I rx ry h;obtain⟨i,j,rfl,rfl,q⟩:=h;obtain⟨t,rfl⟩:=rx;obtain⟨t',rfl⟩:=ry;exact rule i j t t' s _ _ ⟨.int (g i j),H,I.tok _,⟨_,rfl⟩,q⟩
theorem opB0{f:Value->Value->Sem Value}{g:Int->Int->Bool}
 (rule:∀(i j:Int) (t u:Tok) (s:Shared) (Q:AB) (E:AB),Q (.bool (g i j)) s->wpAny (model X.prog X.w) X.A (f (.int i t) (.int j u)) Q E s) :
 OpR X f (rI0 λi j=>.bl (g i j)):=by
 intro pins s σ H x y v u Q I rx ry h;obtain⟨i,j,rfl,rfl,q⟩:=h;obtain⟨t,rfl⟩:=rx;obtain⟨t',rfl⟩:=ry;exact rule i j t t' s _ _ ⟨.bl (g i j),H,I,rfl,q⟩
def CDiv(i j:Int):Prop:=0<j/\j<1073741824
def CPow(i j:Int):Prop:=0<=j/\j<=1000000/\i.natAbs<2^64
def CMul(i j:Int):Prop:=(-(2^64)<i/\i<2^64)\/(-(2^64)<j/\j<2^64)
theorem CMul.ok{i j:Int}(h:CMul i j):IntMulOk i j:=by
 rcases h with⟨h1,h2⟩|⟨h1,h2⟩
 ·exact .of_left (intBits_le_64 h1 h2)
 ·exact .of_right (intBits_le_64 h1 h2)
theorem y29:OpR X (binaryOp .Add) (rI0 λi j=>.int (i+j)):=opI0 λ_ _ _ _ _ _ _ q=>add_int q
theorem y3a:OpR X (binaryOp .Sub) (rI0 λi j=>.int (i-j)):=opI0 λ_ _ _ _ _ _ _ q=>sub_int q
theorem y3b:OpR X (binaryOp .Mult) (rI CMul λi j=>.int (i*j)):=opI λ_ _ _ _ _ _ _ hc q=>mul_int q hc.ok
theorem Yz8:OpR X (binaryOp .FloorDiv) (rI CDiv λi j=>.int (i/j)):=opI λi j _ _ _ _ _ hc q=>by
 have h1:(0:Int)<j:=hc.1;have h2:j<1073741824:=hc.2;exact floordiv_int (by lia) (by rw[Int.fdiv_eq_ediv_of_nonneg i (by lia)];exact q) (.inl (PyProof.noPylong_small (by lia)))
theorem y3c:OpR X (binaryOp .Mod) (rI (λ_ j=>0<j) λi j=>.int (i%j)):=opI λi j _ _ _ _ _ hc q=>by
 have h1:(0:Int)<j:=hc;exact mod_int' (by lia) (by rw[Int.fmod_eq_emod_of_nonneg i (by lia)];exact q)
theorem y3d:OpR X (binaryOp .Pow) (rI CPow λi j=>.int (i^j.toNat)):=opI λ_ _ _ _ _ _ _ hc q=>pow_int_small hc.1 hc.2.1 hc.2.2 q
theorem unI{f:Value->Sem Value}{g:Int->Int}
 (rule:∀(i:Int) (t:Tok) (s:Shared) (Q:AB) (E:AB),Q (.int (g i) s.toks) { s with toks:=s.toks+1 }->wpAny (model X.prog X.w) X.A (f (.int i t)) Q E s) :
 UnR X f (rU λi=>.int (g i)):=by
 intro pins s σ H x v Q I rx h;obtain⟨i,rfl,q⟩:=h;obtain⟨t,rfl⟩:=rx;exact rule i t s _ _ ⟨.int (g i),H,I.tok _,⟨_,rfl⟩,q⟩
theorem y3e:UnR X (unaryOp .USub) (rU λi=>.int (-i)):=unI λ_ _ _ _ _ q=>neg_int q
end
def scal:V->V->Bool
 | .non,.non=>true|.non,.int _=>true|.int _,.non=>true|.non,.bl _=>true|.bl _,.non=>true|.non,.str _=>true|.str _,.non=>true
 | .int _,.int _=>true|.bl _,.bl _=>true|.str _,.str _=>true|.byt _,.byt _=>true
 | .int _,.str _=>true|.str _,.int _=>true|.bl _,.str _=>true|.str _,.bl _=>true
 | _,_=>false
section
variable {X:Cx}{a b c:Expr}{ta tb tc:TE}{pos:Pos}
theorem Yy6{pins:AC}{σ:St}{H:Hp}{s:Shared}{Q:VK}{k k':Bool}(I:Inv X pins σ H s)(q:Q (.bl k) H)(e:k=k'):EP X pins σ Q (.bool k') s:=by
 subst e;exact⟨.bl k,H,I,rfl,q⟩
theorem y3f:OpR X (compareOp .Lt) (rI0 λi j=>.bl (decide (i<j))):=opB0 λ_ _ _ _ _ _ _ q=>lt_int q
theorem y6n:OpR X (compareOp .Gt) (rI0 λi j=>.bl (decide (j<i))):=opB0 λ_ _ _ _ _ _ _ q=>gt_int q
theorem y6o:OpR X (compareOp .GtE) (rI0 λi j=>.bl (decide (j<=i))):=opB0 λ_ _ _ _ _ _ _ q=>ge_int q
theorem y3g:OpR X (compareOp .Is) (λx y H Q=>y=.non/\Q (.bl (decide (x=.non))) H):=by
 intro pins s σ H x y v u Q I rx ry h;obtain⟨rfl,q⟩:=h;cases ry;refine is_none_gen (Yy6 I q ?_)
 cases x<;>first
  | (cases rx;rfl)
  | (obtain⟨t,rfl⟩:=rx;rfl)
theorem Ytd:OpR X (compareOp .IsNot) (λx y H Q=>y=.non/\Q (.bl (!decide (x=.non))) H):=by
 intro pins s σ H x y v u Q I rx ry h;obtain⟨rfl,q⟩:=h;cases ry;refine isnot_none_gen (Yy6 I q ?_)
 cases x<;>first
  | (cases rx;rfl)
  | (obtain⟨t,rfl⟩:=rx;rfl)
theorem Ydv(b:Expr){op:CmpOp}(h:op≠.In:=by decide)(h2:op≠.NotIn:=by decide):behindInMarks op b=false:=by
 have e1:(op==CmpOp.In)=false:=by cases op<;>first|rfl|exact absurd rfl h
 have e2:(op==CmpOp.NotIn)=false:=by cases op<;>first|rfl|exact absurd rfl h2
 cases b with
 | Set elts k p=>
   show((k==0)&&((op==CmpOp.In)||(op==CmpOp.NotIn))&&_)=false;rw[e1,e2];cases (k==0)<;>rfl
 | _=>rfl
theorem Yte{op:CmpOp}{r:R2}(ho:OpR X (compareOp op) r)(ha:PE X a ta)(hb:PE X b tb)(hm:behindInMarks op b=false):PE X (.Compare a [op] [b] pos) (tOp r ta tb):=by
 intro pins s σ H Q I h;exact wpAny_Compare1 (binT ha hb I h λv u s2 x y H2 I2 rx ry q=>ho pins s2 σ H2 x y v u Q I2 rx ry q) hm
def y3h(t:TE):TT:=λσ H Q=>t σ H λx H'=>∃k,x=.bl k/\Q k H'
theorem Yz9{op:CmpOp}{r:R2}(ho:OpR X (compareOp op) r)(ha:PE X a ta)(hb:PE X b tb)(hm:behindInMarks op b=false):PT X (.Compare a [op] [b] pos) (y3h (tOp r ta tb)):=by
 intro pins s σ H Q I h;refine wpAny_isTrue_Compare1 (thn (ha pins s σ H _ I h) λv s1 hx_=>?_) hm;obtain⟨x,H1,I1,r1,q1⟩:=hx_;refine thn (hb pins s1 σ H1 _ I1 q1) λu s2 hx_=>?_;obtain⟨y,H2,I2,r2,q2⟩:=hx_;refine thn (ho pins s2 σ H2 x y v u _ I2 r1 r2 q2) λc s3 hx_=>?_;obtain⟨z,H3,I3,r3,k,e,q3⟩:=hx_;subst e;cases r3;exact wpAny_truthy_bool ⟨H3,I3,q3⟩
def TruV(K:W.Frag)(x:V)(H:Hp)(k:Bool):Prop:=
 match x with
 | .non=>k=false
 | .bl b=>k=b
 | .int i=>k=(i != 0)
 | .str y=>y.length<=sizeLine/\k=((y.length:Int)!=0)
 | .byt y=>y.size<=sizeLine/\k=((y.size:Int)!=0)
 | .ref p=>(∃xs,SqL K H p xs/\k=!xs.isEmpty)\/(∃xs,SqT K H p xs/\k=!xs.isEmpty)\/∃kvs,H p=some (.dK kvs)/\k=!kvs.isEmpty
 | _=>False
theorem Yr7{κ:Type}{kvs:List (κ×V)}{vs:List (κ×Value)}(r:KV kvs vs):(!vs.isEmpty)=!kvs.isEmpty:=by
 cases r<;>rfl
theorem Yk5{xs:AN}{its:AD}(r:Vals xs its):(!its.toArray.isEmpty)=!xs.isEmpty:=by
 cases r<;>simp
theorem Yk6:(sizeLine:Nat)<2^63:=by rw[jj];decide
theorem y3i:TruR X (λx H Q=>∃k,TruV X.K x H k/\Q k H):=by
 intro pins s σ H x v Q I rx h;obtain⟨k,e,q⟩:=h;have hl:=Yk6;have hs:sizeLine=16777216:=jj
 cases x with
 | non=>
   cases rx;have e':k=false:=e;subst e';exact truthy_none ⟨H,I,q⟩
 | bl b=>
   cases rx;have e':k=b:=e;subst e';exact wpAny_truthy_bool ⟨H,I,q⟩
 | int i=>
   obtain⟨t,rfl⟩:=rx;have e':k=(i != 0):=e;subst e';exact PySem.P.truthy_int ⟨H,I,q⟩
 | str y=>
   obtain⟨t,rfl⟩:=rx;obtain⟨hy,e'⟩:y.length<=sizeLine/\k=((y.length:Int)!=0):=e;subst e';exact PySem.P.truthy_str (by lia) ⟨H,I.tok _,q⟩
 | byt y=>
   obtain⟨t,rfl⟩:=rx;obtain⟨hy,e'⟩:y.size<=sizeLine/\k=((y.size:Int)!=0):=e;subst e';exact W.truthy_bytes (by lia) ⟨H,I.tok _,q⟩
 | ref p=>
   cases rx;have e':(∃xs,SqL X.K H p xs/\k=!xs.isEmpty)\/(∃xs,SqT X.K H p xs/\k=!xs.isEmpty)\/∃kvs,H p=some (.dK kvs)/\k=!kvs.isEmpty:=e;rcases e' with⟨xs,hx,e'⟩|⟨xs,hx,e'⟩|⟨kvs,hx,e'⟩
   ·subst e'
    obtain⟨its,r,pl,hz⟩:=I.list hx;have hlen:=r.length;exact wpAny_truthy_list pl.isList (by simp only[qj];lia) ⟨H,I.tok _,by rw[Yk5 r];exact q⟩
   ·subst e'
    obtain⟨its,r,pl,hz⟩:=I.tuple hx;have hlen:=r.length;exact truthy_tuple pl (by simp only[qj];lia) ⟨H,I.tok _,by rw[Yk5 r];exact q⟩
   ·subst e'
    obtain⟨hz,hS,vs,r,m⟩:kvs.length<=sizeLine/\(p==sysModules)=false/\∃vs,KV kvs vs/\s.heap.DictOf (Ybi X.prog X.w) p vs:=I.hok p _ hx;have hlen:kvs.length=vs.length:=Paired.length r;exact wpAny_truthy_dict hS m (by lia) ⟨H,I.tok _,by rw[Yr7 r];exact q⟩
 | _=>exact(show False from e).elim
theorem Ywp(ha:PE X a ta)(he:∀whole,isTrue a X.env whole=(do let v <-whole;standAt a.pos;holding [v] (truthy v))) :
 PT X a (λσ H Q=>ta σ H λx H'=>∃k,TruV X.K x H' k/\Q k H'):=by
 intro pins s σ H Q I h;refine isTrue_plain (thn (ha pins s σ H _ I h) λv s1 hx_=>?_) (he _);obtain⟨x,H1,I1,r1,q1⟩:=hx_;exact y3i pins s1 σ H1 x v Q I1 r1 q1
theorem Yia{x:V}{us:AD}(r:Vals [x] us):∃u,us=[u]/\RelV x u:=by
 cases r with
 | cons r1 r2=>cases r2;exact⟨_,rfl,r1⟩
theorem y0a{x y:V}{us:AD}(r:Vals [x,y] us):∃u w',us=[u,w']/\RelV x u/\RelV y w':=by
 cases r with
 | cons r1 r2=>
   cases r2 with
   | cons r3 r4=>cases r4;exact⟨_,_,rfl,r1,r3⟩
theorem Ytf:Ydu X (.type "int") (λxs H Q=>(∃i,xs=[.int i]/\Q (.int i) H)\/∃k,xs=[.bl k]/\Q (.int (if k then 1 else 0)) H):=by
 intro pins s σ H xs us Q I r h;rcases h with⟨i,rfl,q⟩|⟨k,rfl,q⟩
 ·obtain⟨u,rfl,t,rfl⟩:=Yia r
  exact call_int_int ⟨.int i,H,I,⟨_,rfl⟩,q⟩
 ·obtain⟨u,rfl,r1⟩:=Yia r
  cases r1;exact call_int_bool ⟨.int (if k then 1 else 0),H,I.tok _,⟨_,rfl⟩,q⟩
end
structure ObjM(h:Heap)(x dx C:Addr)(mA:AE):Prop where
 obj:h.get? x=some (W.instObj C dx)
 ns:h.Ns1 dx mA
 ne:dx≠x
theorem Ytg{h:Heap}{dx:Addr}{mA:AE}(n:h.Ns1 dx mA):∃od,h.get? dx=some od/\∀name,W.lookIn name od=some (mA name):=by
 obtain⟨o,es,ep,ho,hd,hk,_,hm⟩:=n;refine⟨o,ho,λname=>?_⟩;have e:=hm name;unfold nsFind findBy at e;rw[<-Array.find?_toList]at e;unfold W.lookIn;rw[hd];dsimp only
 split
 ·rename_i y q
  rw[q]at e;exact congrArg some e
 ·rename_i q
  rw[q]at e
  have a:es.toList.any (·.refKey)=false:=by
   rw[List.any_eq_false];intro y hy;obtain⟨z,t,hkey⟩:=hk y (Array.mem_toList_iff.mp hy);simp[DictEntry.refKey,hkey]
  have a':¬es.toList.any (·.refKey)=true:=by rw[a];exact qh
  rw[if_neg a'];exact congrArg some e
theorem ObjM.look{h:Heap}{x dx C:Addr}{mA:AE}(I:ObjM h x dx C mA):∃od,W.InstAt h x (W.instObj C dx) C (some od)/\∀name,W.lookIn name od=some (mA name):=
 let ⟨od,ho,hl⟩:=Ytg I.ns
 ⟨od,⟨I.obj,rfl,rfl,ho⟩,hl⟩
section
variable {prog:Program}{w:World}{A:Around}{E:AB}{s:Shared}{K:W.Frag}{x dx C f:Addr}{mA:AE}{name:Str}{v:Value}
theorem y0b{expr:Bool}{Q:AB}(X:K.In s.heap)(I:ObjM s.heap x dx C mA)(hg:W.plainGet K C name=true)(hh:W.hasDictIn K C=true)
 (ha:W.findIn K (.ref C) name=some none) (hv:mA name=some v) (hv':W.handedIn v=true) (h:Q v { s with toks:=s.toks+1 }) :
 wpAny (model prog w) A (getAttr (.ref x) name expr) Q E s:=by
 obtain⟨od,J,hl⟩:=I.look;exact W.get_value X J (W.plainGet_of hg).1 (W.findObj_own hh ha rfl (by rw[hl,hv])) hv' h
theorem Ywq{pl:Sem Bool}{Q:Value×AD->Shared->Prop}(X:K.In s.heap)(I:ObjM s.heap x dx C mA)(hg:W.plainGet K C name=true)
 (hf:W.findIn K (.ref C) name=some (some (.ref f))) (ht:W.isFn K (.ref f)=true) (hv:mA name=none) (h:Q (.ref f,[.ref x]) s) :
 wpAny (model prog w) A (getMethod (.ref x) name pl) Q E s:=by
 obtain⟨od,J,hl⟩:=I.look;exact W.method_fn X J (W.plainGet_of hg).1 (W.plainGet_of hg).2 hf (beq_iff_eq.mp ht) (by show(W.lookIn name od).map (·.isSome)=some false;rw[hl,hv];rfl) h
theorem y0c{ns:AK}{Q:Unit->Shared->Prop}(X:K.In s.heap)(I:ObjM s.heap x dx C mA)
 (hs:W.findIn K (.ref C) "__setattr__"=some (some (.builtin "object.__setattr__"))) (hp:W.plainOver K C=true) (ht:W.takerIn K C name=some none) (hh:W.hasDictIn K C=true)
 (hw:PySem.Within mA ns) (hsz:ns.length<=sizeLine)
 (h:∀h',ObjM h' x dx C (λy=>if y=name then some v else mA y)->Heap.SameBut dx s.heap h'->Q () { s with heap:=h',toks:=s.toks+2 }) :
 wpAny (model prog w) A (setAttr (.ref x) name v) Q E s:=by
 obtain⟨od,J,hl⟩:=I.look;refine W.set_plain X J hs (W.osa_open (s:={ s with toks:=s.toks+1 }) (r:=none) X J hp ht λb=>?_);obtain⟨cd,hc,hd'⟩:=W.any_some hh;have hx:s.heap.get? x=some ⟨.ref C,some dx,.plain,#[]⟩:=I.obj;refine wa (wc (wa (wa (wpAny_loadPart hx (wa (W.Looks.here (s:={ s with toks:=s.toks+1 }) (W.looks_clsIn X hc) ?_))))));rw[hd'];refine wc (a:=some dx) (wa (wc (wa ?_)));refine wpAny_nsSet1 (s:={ s with toks:=s.toks+1 }) I.ns λh' hn2 hs2=>?_;obtain⟨oD,esD,epD,hoD,hdD,hcD⟩:=hn2.count (PySem.Within.cons name v hw);refine wa (wpAny_lookBehind hoD (by rw[hdD];exact pastItsLine_dict (Nat.le_trans hcD (by rw[qq];lia))) ?_);exact wc (h _ ⟨(hs2.2 _ (Ne.symm I.ne)).trans I.obj,hn2,I.ne⟩ hs2)
theorem Ywr{R:Result->Shared->Prop}{vs:AD}{kw:List (Str×Value)}(X:K.In s.heap)(hm:W.makesIn K C=true)
 (hi:W.findIn K (.ref C) "__init__"=some (some (.ref f))) (hf:W.typeIn K (.ref f)=some (.type "function"))
 (h:codeAny (model prog w) (A.under (.builtin "type.__call__" ⟨.ref C::vs,kw⟩)) (.call (.ref f) ⟨.ref (~~~s+1)::vs,kw⟩) (W.InitBack (~~~s+1) R)
  { s with heap:=(s.heap.push W.emptyDict).push (W.instObj C (~~~s)) }) :
 codeAny (model prog w) A (.call (.ref C) ⟨vs,kw⟩) R s:=by
 obtain⟨hh,g,d,t,os⟩:=s;exact W.make_core (W.makes_of X hm) (W.looks_findIn X hi) (λself=>W.bind_fn X self hf) (.inl rfl) h
end
def putF(f:Str)(v:V):List (Str×V)->List (Str×V)
 | []=>[(f,v)]
 | (g,x)::r=>if g=f then (g,v)::r else (g,x)::putF f v r
theorem Yip(f g:Str)(v:V):∀fs:List (Str×V),(putF f v fs).lookup g=if g=f then some v else fs.lookup g
 | []=>by
   show List.lookup g [(f,v)]=_;by_cases h:g=f
   ·have hb:(g==f)=true:=beq_iff_eq.mpr h
    simp only[List.lookup,hb,if_pos h]
   ·have hb:(g==f)=false:=beq_eq_false_iff_ne.mpr h
    simp only[List.lookup,hb,if_neg h]
 | (k,x)::r=>by
   have ih:=Yip f g v r;rw[show putF f v ((k,x)::r)=(if k=f then (k,v)::r else (k,x)::putF f v r) from rfl];by_cases hk:k=f
   ·rw[if_pos hk]
    by_cases h:g=k
    ·have hb:(g==k)=true:=beq_iff_eq.mpr h
     simp only[List.lookup,hb,if_pos (h.trans hk)]
    ·have hb:(g==k)=false:=beq_eq_false_iff_ne.mpr h
     simp only[List.lookup,hb,if_neg (λe:g=f=>h (e.trans hk.symm))]
   ·rw[if_neg hk]
    by_cases h:g=k
    ·have hb:(g==k)=true:=beq_iff_eq.mpr h
     simp only[List.lookup,hb,if_neg (λe:g=f=>hk (h.symm.trans e))]
    ·have hb:(g==k)=false:=beq_eq_false_iff_ne.mpr h
     simp only[List.lookup,hb];exact ih
theorem Yiq(f:Str)(v:V):∀fs:List (Str×V),f∈(putF f v fs).map (·.1)/\∀g,g∈fs.map (·.1)->g∈(putF f v fs).map (·.1)
 | []=>⟨by simp[putF],λg h=>by simp at h⟩
 | (k,x)::r=>by
   obtain⟨i1,i2⟩:=Yiq f v r;rw[show putF f v ((k,x)::r)=(if k=f then (k,v)::r else (k,x)::putF f v r) from rfl];by_cases hk:k=f
   ·rw[if_pos hk]
    subst hk;exact⟨by simp,λg h=>by simpa using h⟩
   ·rw[if_neg hk]
    refine⟨?_,λg h=>?_⟩
    ·rw[q0]
     exact qf _ i1
    ·rw[q0]at h ⊢
     rcases qr h with e|e
     ·exact List.mem_cons.mpr (.inl e)
     ·exact qf _ (i2 g e)
theorem Yir(f:Str)(v:V):∀fs:List (Str×V),(putF f v fs).length<=fs.length+1
 | []=>by simp[putF]
 | (k,x)::r=>by
   have ih:=Yir f v r;rw[show putF f v ((k,x)::r)=(if k=f then (k,v)::r else (k,x)::putF f v r) from rfl];by_cases hk:k=f
   ·rw[if_pos hk,qq,qq];lia
   ·rw[if_neg hk,qq,qq];lia
theorem RelO.some_of{v:V}{o:Option Value}(r:RelO (some v) o):∃u,o=some u/\RelV v u:=by
 cases o with
 | none=>exact(show False from r).elim
 | some u=>exact⟨u,rfl,r⟩
theorem RelO.none_of{o:Option Value}(r:RelO none o):o=none:=by
 cases o with
 | none=>rfl
 | some u=>exact(show False from r).elim
theorem Yth{v:V}{u:Value}(r:RelV v u):W.handedIn u=true:=by
 cases v with
 | non=>cases (show u=Value.none from r);rfl
 | bl b=>cases (show u=Value.bool b from r);rfl
 | int i=>obtain⟨t,e⟩:=(show ∃t,u=Value.int i t from r);cases e;rfl
 | str x=>obtain⟨t,e⟩:=(show ∃t,u=Value.str x t from r);cases e;rfl
 | byt b=>obtain⟨t,e⟩:=(show ∃t,u=Value.bytes b t from r);cases e;rfl
 | flt b=>obtain⟨t,e⟩:=(show ∃t,u=Value.float b t from r);cases e;rfl
 | ref a=>cases (show u=Value.ref a from r);rfl
 | ty n=>cases (show u=Value.type n from r);rfl
section
variable {P:Program}{w:World}{H H':Hp}{h h':Heap}{a C dx:Addr}{fs fs':List (Str×V)}
theorem Ylw(hok:HOk P w H h)(e:H a=some (.ins C dx fs)):∃mA,ObjM h a dx C mA/\(∀f,RelO (fs.lookup f) (mA f))/\PySem.Within mA (fs.map (·.1))/\fs.length<=1000/\H dx=some (.own a):=by
 obtain⟨d,z,ne,ob,mA,n,r,q⟩:=(show ObjOk P w H h a (.ins C dx fs) from hok a _ e)
 exact⟨mA,⟨ob,n,ne⟩,r,q,z,d⟩
end
structure Cls(K:W.Frag)(C:Addr):Prop where
 pg:W.plainGet K C Str.empty=true
 hd:W.hasDictIn K C=true
 po:W.plainOver K C=true
 sa:W.findIn K (.ref C) "__setattr__"=some (some (.builtin "object.__setattr__"))
theorem Cls.get{K:W.Frag}{C:Addr}(c:Cls K C)(f:Str):W.plainGet K C f=true:=c.pg
def NoAttr(K:W.Frag)(C:Addr)(f:Str):Prop:=W.findIn K (.ref C) f=some none
theorem NoAttr.taker{K:W.Frag}{C:Addr}{f:Str}(n:NoAttr K C f):W.takerIn K C f=some none:=by
 unfold W.takerIn;rw[show W.findIn K (.ref C) f=some none from n];rfl
structure Con(K:W.Frag)(C:Addr)(f:Str)(v:V)(u:Value):Prop where
 at_:W.findIn K (.ref C) f=some (some u)
 rel:RelV v u
 get:W.specialIn K u "__get__"=some none
 cp:W.copiedNames.contains f=false
structure Meth(K:W.Frag)(C:Addr)(m:Str)(f:Addr):Prop where
 at_:W.findIn K (.ref C) m=some (some (.ref f))
 fn:W.isFn K (.ref f)=true
 kp:W.keepIn K (.ref f)=true
section
variable {X:Cx}{pins:AC}{σ:St}{H:Hp}{s:Shared}{a C dx:Addr}{fs:List (Str×V)}{f:Str}{v:V}{A:Around}{E:AB}
theorem Yk7{b:Bool}{Q:AB}(I:Inv X pins σ H s)(e:H a=some (.ins C dx fs))(c:Cls X.K C)(n:NoAttr X.K C f)(l:fs.lookup f=some v)
 (h:∀u s',Inv X pins σ H s'->RelV v u->Q u s'):wpAny (model X.prog X.w) A (getAttr (.ref a) f b) Q E s:=by
 obtain⟨mA,O,r,_,_,_⟩:=Ylw I.hok e;obtain⟨u,hu,ru⟩:=RelO.some_of (v:=v) (o:=mA f) (by rw[<-l];exact r f);exact y0b I.kIn O (c.get f) c.hd n hu (Yth ru) (h u _ (I.tok _) ru)
theorem Yk8{m:Str}{g:Addr}{pl:Sem Bool}{Q:Value×AD->Shared->Prop}(I:Inv X pins σ H s)(e:H a=some (.ins C dx fs))(c:Cls X.K C)(k:Meth X.K C m g)(l:fs.lookup m=none)
 (h:Q (.ref g,[.ref a]) s):wpAny (model X.prog X.w) A (getMethod (.ref a) m pl) Q E s:=by
 obtain⟨mA,O,r,_,_,_⟩:=Ylw I.hok e;have hn:mA m=none:=RelO.none_of (by rw[<-l];exact r m);exact Ywq I.kIn O (c.get m) k.at_ k.fn hn h
theorem Yk9{y:V}{u:Value}{Q:Unit->Shared->Prop}(I:Inv X pins σ H s)(e:H a=some (.ins C dx fs))(c:Cls X.K C)(n:NoAttr X.K C f)(hl:fs.length<1000)(ry:RelV y u)
 (h:∀s',Inv X pins σ (upd H a (.ins C dx (putF f y fs))) s'->Q () s'):wpAny (model X.prog X.w) A (setAttr (.ref a) f u) Q E s:=by
 obtain⟨mA,O,r,wi,_,ho⟩:=Ylw I.hok e
 have hz:(fs.map (·.1)).length<=sizeLine:=by rw[qe,jj];lia
 refine y0c I.kIn O c.sa c.po n.taker c.hd wi hz λh' O' sb=>h _ ?_;have hd:∃o,h'.get? dx=some o:=let ⟨o,_,_,e',_⟩:=O'.ns;⟨o,e'⟩;refine I.write (x:=a) (e:=dx) (by rw[e];exact True.intro) (.inr ho) (λb q hb z=>(sb.2 b hb).trans z) hd ?_;refine⟨by rw[Yo O.ne];exact ho,?_,O.ne,O'.obj,_,O'.ns,λg=>?_,λg hg=>?_⟩
 ·have:=Yir f y fs;lia
 ·show RelO ((putF f y fs).lookup g) (if g=f then some u else mA g)
  rw[Yip];by_cases q:g=f
  ·rw[if_pos q,if_pos q];exact ry
  ·rw[if_neg q,if_neg q];exact r g
 ·by_cases q:g=f
  ·rw[q];exact(Yiq f y fs).1
  ·refine(Yiq f y fs).2 g (wi g λz=>hg ?_)
   show(if g=f then some u else mA g)=none;rw[if_neg q];exact z
theorem Inv.made(I:Inv X pins σ H s):Inv X pins σ (upd (upd H (~~~s) (.own (~~~s+1))) (~~~s+1) (.ins C (~~~s) []))
 { s with heap:=(s.heap.push W.emptyDict).push (W.instObj C (~~~s)) }:=by
 have e1:(s.heap.push W.emptyDict).get? (~~~s)=some W.emptyDict:=qo s.heap rfl
 have e2:((s.heap.push W.emptyDict).push (W.instObj C (~~~s))).get? (~~~s+1)=some (W.instObj C (~~~s)):=by
  have:=qo (s.heap.push W.emptyDict) (o:=W.instObj C (~~~s)) rfl
  rwa [wx]at this
 have e3:(s.heap.push W.emptyDict).Ns (~~~s) (λ_=>none):=⟨W.emptyDict,#[],_,e1,rfl,(λe he=>absurd he (by simp)),λ_=>rfl⟩
 have I1:=I.laid (a:= ~~~s) (o:=.own (~~~s+1)) (h':=s.heap.push W.emptyDict) (t':=s.toks) (λb u q=>qd _ q) (qt _) ⟨_,e1⟩;refine I1.laid (a:= ~~~s+1) (o:=.ins C (~~~s) []) (t':=s.toks) (λb u q=>qd _ q) (Nat.le_of_eq (wx _ _)) ?_;have ne:(~~~s)≠(~~~s)+1:=ql (qy _);refine⟨by rw[Yo ne,Yv],Qc _,ne,e2,λ_=>none,(Heap.Ns1.of_empty e3).at λo q=>qd _ q,λ_=>True.intro,λy hy=>absurd rfl hy⟩
theorem y0d{prog:Program}{w:World}{env:Env}{e:Expr}{f:Str}{pos:Pos}{s:Shared}{Q:AB}(hb:attributeBase e f env (eval e env)=eval e env)
 (h:wpAny (model prog w) A (eval e env) (λo s₁=>wpAny (model prog w) A (getAttr o f true) Q E s₁) E s):wpAny (model prog w) A (eval (.Attribute e f pos) env) Q E s:=
 Attribute_any_ h (by rw[arm_eval_Attribute,hb])
end
def tFld(K:W.Frag)(ta:TE)(f:Str):TE:=λσ H Q=>ta σ H λx H1=>∃a C dx fs v,x=.ref a/\H1 a=some (.ins C dx fs)/\Cls K C/\NoAttr K C f/\fs.lookup f=some v/\Q v H1
def sFld(K:W.Frag)(ta tv:TE)(f:Str):TS:=λD σ H=>tv σ H λy H1=>ta σ H1 λx H2=>∃a C dx fs,x=.ref a/\H2 a=some (.ins C dx fs)/\Cls K C/\NoAttr K C f/\fs.length<1000/\
 D.nx σ (upd H2 a (.ins C dx (putF f y fs)))
def InOp(X:Cx)(op:Operator)(rd:V->V->Hp->VK->Prop):Prop:=
 ∀(pins:AC) (s:Shared) (σ:St) (H:Hp) (x y:V) (u v:Value) (Q:VK),Inv X pins σ H s->RelV x u->RelV y v->rd x y H Q->wpAny (model X.prog X.w) X.A (inplaceOp op u v) (EP X pins σ Q) X.xe s
def y0e(K:W.Frag)(ta tv:TE)(rd:V->V->Hp->VK->Prop)(f:Str):TS:=λD σ H=>ta σ H λx H1=>∃a C dx fs v,x=.ref a/\H1 a=some (.ins C dx fs)/\Cls K C/\NoAttr K C f/\fs.lookup f=some v/\
 tv σ H1 λy H2=>rd v y H2 λz H3=>∃dx' fs',H3 a=some (.ins C dx' fs')/\fs'.length<1000/\D.nx σ (upd H3 a (.ins C dx' (putF f z fs')))
section
variable {X:Cx}{o e value:Expr}{f:Str}{pos pos' tpos:Pos}{ta tv:TE}{pins:AC}{σ:St}{H:Hp}{s:Shared}{A:Around}{E Q:AB}{c:Value}{b:Bool}
theorem Yy7(he:PE X e ta)(hb:attributeBase e f X.env (eval e X.env)=eval e X.env):PE X (.Attribute e f pos) (tFld X.K ta f):=by
 intro pins s σ H Q I h;refine y0d hb (thn (he pins s σ H _ I h) λu s1 hx_=>?_);obtain⟨x,H1,I1,rx,a,C,dx,fs,v,ex,ea,c,n,l,q⟩:=hx_;subst ex;obtain rfl:u=Value.ref a:=rx
 exact Yk7 I1 ea c n l λu' s2 I2 ru=>⟨v,H1,I2,ru,q⟩
theorem Yy8(ha:PE X o ta)(hv:PE X value tv)(hs:swapsWith value (some (.Attribute o f pos')) pos.line X.env=pure false):PS X (.Assign [.Attribute o f pos'] value pos) (sFld X.K ta tv f):=by
 intro pins s σ H D I h;refine plainObj_wpAny_Assign_Attribute (thn (hv pins s σ H _ I h) λu s1 hx_=>?_) hs;obtain⟨y,H1,I1,ry,q⟩:=hx_;refine thn (ha pins s1 σ H1 _ I1 q) λov s2 hx_=>?_;obtain⟨x,H2,I2,rx,a,C,dx,fs,ex,ea,c,n,l,q2⟩:=hx_;subst ex;obtain rfl:ov=Value.ref a:=rx
 exact Yk9 I2 ea c n l ry λs3 I3=>⟨σ,_,I3,q2⟩
theorem Yti{op:Operator}{rd:V->V->Hp->VK->Prop}(ha:PE X o ta)(hv:PE X value tv)(hop:InOp X op rd):PS X (.AugAssign (.Attribute o f tpos) op value pos) (y0e X.K ta tv rd f):=by
 intro pins s σ H D I h;refine wpAny_AugAssign_AttributeAny (thn (ha pins s σ H _ I h) λov s1 hx_=>?_);obtain⟨x,H1,I1,rx,a,C,dx,fs,v,ex,ea,c,n,l,q⟩:=hx_;subst ex;obtain rfl:ov=Value.ref a:=rx;refine Yk7 I1 ea c n l λu s2 I2 ru=>thn (hv pins s2 σ H1 _ I2 q) λw3 s3 hx_=>?_;obtain⟨y,H2,I3,ry,q3⟩:=hx_;refine thn (hop pins s3 σ H2 v y u w3 _ I3 ru ry q3) λw4 s4 hx_=>?_;obtain⟨z,H3,I4,rz,dx',fs',ea',l',q4⟩:=hx_
 exact Yk9 I4 ea' c n l' rz λs5 I5=>⟨σ,_,I5,q4⟩
def rAdd:V->V->Hp->VK->Prop:=λx y H Q=>∃i j,x=.int i/\y=.int j/\Q (.int (i+j)) H
theorem y3j:InOp X .Add rAdd:=by
 rintro pins s σ H x y u v Q I rx ry ⟨i,j,rfl,rfl,q⟩
 obtain⟨t,rfl⟩:=(show ∃t,u=Value.int i t from rx)
 obtain⟨t',rfl⟩:=(show ∃t',v=Value.int j t' from ry)
 exact PyProof.Rows.iadd_int ⟨.int (i+j),H,I.tok _,⟨_,rfl⟩,q⟩
inductive TyOf (K:W.Frag) (H:Hp):V->Value->Prop where
 | non:TyOf K H .non (.type "NoneType")
 | bl (x:Bool):TyOf K H (.bl x) (.type "bool")
 | int (i:Int):TyOf K H (.int i) (.type "int")
 | str (x:Str):TyOf K H (.str x) (.type "str")
 | flt (x:UInt64):TyOf K H (.flt x) (.type "float")
 | lst {a:Addr}{xs:AN} (e:H a=some (.lst xs)):TyOf K H (.ref a) (.type "list")
 | frz {a:Addr}{o:Obj}{xs:AN} (e:H a=some (.frz o (.lst xs))):TyOf K H (.ref a) (.type "list")
 | tup {a:Addr}{xs:AN} (e:H a=some (.tup xs)):TyOf K H (.ref a) (.type "tuple")
 | dK {a:Addr}{kvs:List (Key×V)} (e:H a=some (.dK kvs)):TyOf K H (.ref a) (.type "dict")
 | dT {a:Addr}{kvs:List (List Key×V)} (e:H a=some (.dT kvs)):TyOf K H (.ref a) (.type "dict")
 | ins {a C dx:Addr}{fs:List (Str×V)} (e:H a=some (.ins C dx fs)) (cl:Cls K C) (ha:W.findIn K (.ref C) "__class__"=some (some (.builtin "object.__class__")))
  (hn:W.specialIn K (.builtin "object.__class__") "__get__"=some (some (.builtin "getset_descriptor.__get__"))) (htk:W.takesIn K (.builtin "object.__class__")=some true)
  (hm:W.mroIn K C (.type "object")=some true):TyOf K H (.ref a) (.ref C)
theorem Ynp{x:V}{u t:Value}(I:Inv X pins σ H s)(rx:RelV x u)(ty:TyOf X.K H x t)(e:W.kitOne X.K t c=some b)(h:∀tk,Q (.bool b) { s with toks:=tk }) :
 wpAny (model X.prog X.w) A (call (.builtin "isinstance") [u,c]) Q E s:=by
 cases ty with
 | non=>cases (show u=Value.none from rx);exact W.kia_one W.kitx_none I.kIn True.intro e (λz=>nomatch z) h
 | bl y=>cases (show u=Value.bool y from rx);exact W.kia_one W.kitx_bool I.kIn True.intro e (λz=>nomatch z) h
 | int i=>obtain⟨t,q⟩:=(show ∃t,u=Value.int i t from rx);cases q;exact W.kia_one W.kitx_int I.kIn True.intro e (λz=>nomatch z) h
 | str y=>obtain⟨t,q⟩:=(show ∃t,u=Value.str y t from rx);cases q;exact W.kia_one W.kitx_str I.kIn True.intro e (λz=>nomatch z) h
 | flt y=>obtain⟨t,q⟩:=(show ∃t,u=Value.float y t from rx);cases q;exact W.kia_one W.kitx_float I.kIn True.intro e (λz=>nomatch z) h
 | @lst a xs ea=>
   cases (show u=Value.ref a from rx)
   obtain⟨_,_,n,_,h1⟩:=(show ObjOk X.prog X.w H s.heap a (.lst xs) from I.hok a _ ea)
   exact W.kia_one W.kitx_list I.kIn ⟨_,h1,rfl⟩ e (λz=>nomatch z) h
 | @frz a ob xs ea=>
   cases (show u=Value.ref a from rx)
   obtain⟨_,_,_,n,_,h1⟩:=(show ObjOk X.prog X.w H s.heap a (.frz ob (.lst xs)) from I.hok a _ ea)
   exact W.kia_one W.kitx_list I.kIn ⟨_,h1,rfl⟩ e (λz=>nomatch z) h
 | @tup a xs ea=>
   cases (show u=Value.ref a from rx)
   obtain⟨_,_,_,p⟩:=(show ObjOk X.prog X.w H s.heap a (.tup xs) from I.hok a _ ea)
   obtain⟨o,h1,h2,_⟩:=p;exact W.kia_one W.kitx_tuple I.kIn ⟨o,h1,h2⟩ e (λz=>nomatch z) h
 | @dK a kvs ea=>
   cases (show u=Value.ref a from rx)
   obtain⟨_,_,vs,_,p⟩:=(show ObjOk X.prog X.w H s.heap a (.dK kvs) from I.hok a _ ea)
   obtain⟨o,es,ep,h1,h2,_⟩:=p;exact W.kia_one W.kitx_dict I.kIn ⟨o,h1,h2.1⟩ e (λz=>nomatch z) h
 | @dT a kvs ea=>
   cases (show u=Value.ref a from rx)
   obtain⟨_,_,xs,_,o,es,ep,h1,h2,_⟩:=(show ObjOk X.prog X.w H s.heap a (.dT kvs) from I.hok a _ ea)
   exact W.kia_one W.kitx_dict I.kIn ⟨o,h1,h2.1⟩ e (λz=>nomatch z) h
 | @ins a C dx fs ea cl ha hn htk hm=>
   cases (show u=Value.ref a from rx);obtain⟨mA,O,_⟩:=Ylw I.hok ea;obtain⟨od,J,_⟩:=O.look;exact W.kia_one (W.kitx_own (cl.get _) cl.hd ha hn htk hm) I.kIn J e (λz=>nomatch z) h
end
structure Room(k:Nat)(A:Around):Prop where
 hd:A.handled=none
 dp:A.depth+3*k+5<recursionLimit
 un:A.units+16*k+200<cLine
theorem Room.mono{j k:Nat}{A:Around}(r:Room k A)(h:j<=k):Room j A:=⟨r.hd,by have:=r.dp;lia,by have:=r.un;lia⟩
theorem Room.deeper{k:Nat}{A:Around}(r:Room (k+1) A)(env:Env):Room k (A.deeper env):=
 ⟨r.hd,by have:=r.dp;show A.depth+1+3*k+5<_;lia,by have:=r.un;show A.units+3+16*k+200<_;lia⟩
theorem Yr8{A:Around}{C:Addr}{us:AD}{kw:List (Str×Value)}:(A.under (.builtin "type.__call__" ⟨.ref C::us,kw⟩)).depth=A.depth+1:=by
 first|rfl|simp[Around.under,Code.weight,Code.isCreation,Code.isGuard,Code.isCaller,Code.frames,Code.isFrame,guardIds]
theorem Yr9{A:Around}{C:Addr}{us:AD}{kw:List (Str×Value)}:(A.under (.builtin "type.__call__" ⟨.ref C::us,kw⟩)).units=A.units+1:=by
 first|rfl|simp[Around.under,Code.cUnits,Code.frames,Code.isFrame]
theorem Room.make{k:Nat}{A:Around}(r:Room (k+1) A)(C:Addr)(us:AD)(kw:List (Str×Value)):Room k (A.under (.builtin "type.__call__" ⟨.ref C::us,kw⟩)):=
 ⟨r.hd,by have:=r.dp;rw[Yr8];lia,by have:=r.un;rw[Yr9];lia⟩
theorem Room.depth{k:Nat}{A:Around}(r:Room k A):A.depth<recursionLimit:=by have:=r.dp;lia
theorem Room.units{k:Nat}{A:Around}(r:Room k A):A.units+64<cLine:=by have:=r.un;lia
def tNil:TA:=λ_ H Q=>Q [] H
def y6p(ta:TE)(tr:TA):TA:=λσ H Q=>ta σ H λx H1=>tr σ H1 λxs H2=>Q (x::xs) H2
section
variable {X:Cx}{e:Expr}{es:AL}{te:TE}{t:TA}{pos:Pos}
theorem Yep:PA X [] tNil:=λ_ _ _ _ H Q I h=>Calls.spliced_nil ⟨[],H,I,.nil,h⟩
theorem Ybr(ha:PE X e te)(hr:PA X es t)(hs:starEach (e::es) X.env=(false,eval e X.env)::starEach es X.env:=by rfl):PA X (e::es) (y6p te t):=by
 intro pos pins s σ H Q I h;rw[hs];show wpAny _ _ (spliced ((false,eval e X.env)::backTo pos (starEach es X.env))) _ _ s;refine Calls.spliced_cons (thn (ha pins s σ H _ I h) λu s1 hx_=>?_);obtain⟨x,H1,I1,r1,q1⟩:=hx_;refine thn (hr pos pins s1 σ H1 _ I1 q1) λus s2 hx_=>?_;obtain⟨xs,H2,I2,r2,q2⟩:=hx_;exact⟨x::xs,H2,I2,.cons r1 r2,q2⟩
def tTup(t:TA):TE:=λσ H Q=>t σ H λxs H1=>xs.length<=sizeLine/\∀p,H1 p=none->Q (.ref p) (upd H1 p (.tup xs))
def tLst(t:TA):TE:=λσ H Q=>t σ H λxs H1=>xs.length<=sizeLine/\∀p,H1 p=none->Q (.ref p) (upd H1 p (.lst xs))
theorem y3k{x1}(h:PA X es t):PE X (.Tuple es x1 pos) (tTup t):=by
 intro pins s σ H Q I hq;refine wpAny_Tuple_spliced (thn (h pos pins s σ H _ I hq) λus s1 ⟨xs,H1,I1,r,z,q⟩=>⟨by rw[<-r.length];exact z,?_⟩);have hf:H1 (~~~s1)=none:=I1.hok.fresh (qt _);refine⟨.ref (~~~s1),upd H1 (~~~s1) (.tup xs),I1.laid (t':=s1.toks) (λb u e=>qd _ e) (qt _) ?_,rfl,q _ hf⟩;exact⟨z,us,r,⟨_,qo _ rfl,rfl,_,rfl⟩⟩
theorem Ytj(h:PA X es t):PE X (.List es pos) (tLst t):=by
 intro pins s σ H Q I hq;refine wpAny_List_spliced (thn (h pos pins s σ H _ I hq) λus s1 ⟨xs,H1,I1,r,z,q⟩=>⟨by rw[<-r.length];exact z,?_⟩);have hf:H1 (~~~s1)=none:=I1.hok.fresh (qt _);refine⟨.ref (~~~s1),upd H1 (~~~s1) (.lst xs),I1.laid (t':=s1.toks) (λb u e=>qd _ e) (qt _) ?_,rfl,q _ hf⟩;exact⟨z,us,0,r,qo _ rfl⟩
end
abbrev Sp:=AN->Hp->VK->XK->Prop
abbrev CXT:=List Env->Hp->Shared->XK->AB
structure Env0(P:Program)(w:World)(K:W.Frag)(mg:AE)(base:Heap)(A:Around)(outer:List Env)(s:Shared)(H:Hp):Prop where
 frames:A.frames=some outer
 mod:Mod K mg base
 bs:∀b o,base.get? b=some o->s.heap.get? b=some o/\H b=none
 bsz:base.objs.size<= ~~~s
 funs:s.heap.FunFrames base outer
 frf:∀b∈frs outer,H b=none
 hok:HOk P w H s.heap
 bare:AllBare s.gens
def CE(outer:List Env)(P:Program)(w:World)(H:Hp)(s:Shared)(Q:VK)(u:Value)(s':Shared):Prop:=
 ∃v H',s'.os=s.os/\AllBare s'.gens/\Un (frs outer) [] H H' s.heap s'.heap/\HOk P w H' s'.heap/\RelV v u/\Q v H'
def CR(CX:CXT)(outer:List Env)(P:Program)(w:World)(H:Hp)(s:Shared)(Q:VK)(E:XK)(r:Result)(s':Shared):Prop:=
 match r with
 | .ok (.ret u)=>CE outer P w H s Q u s'
 | .ok _=>False
 | .error e=>CX outer H s E e s'
structure FnOk(P:Program)(w:World)(K:W.Frag)(mg:AE)(base:Heap)(CX:CXT)(k:Nat)(f:Addr)(fd:FuncData)(ps:AK)(sp:Sp):Prop where
 len:∀vs H Q E,sp vs H Q E->vs.length=ps.length
 run:∀(A:Around) (outer:List Env) (s:Shared) (H:Hp) (args:Args) (us:AD) (vs:AN) (Q:VK) (E:XK),Room k A->Env0 P w K mg base A outer s H->BindsTo s fd args (ps.zip us)->Vals vs us->sp vs H Q E->
  codeAny (model P w) A (.call (.ref f) args) (CR CX outer P w H s Q E) s
theorem FnOk.mono{P:Program}{w:World}{K:W.Frag}{mg:AE}{base:Heap}{CX:CXT}{j k:Nat}{f:Addr}{fd:FuncData}{ps:AK}{sp:Sp}(F:FnOk P w K mg base CX j f fd ps sp)(h:j<=k) :
 FnOk P w K mg base CX k f fd ps sp:=⟨F.len,λA outer s H args us vs Q E hr=>F.run A outer s H args us vs Q E (hr.mono h)⟩
theorem Env0.make{P:Program}{w:World}{K:W.Frag}{mg:AE}{base:Heap}{A:Around}{outer:List Env}{s:Shared}{H:Hp}(e:Env0 P w K mg base A outer s H)(C:Addr)(us:AD)(kw:List (Str×Value)) :
 Env0 P w K mg base (A.under (.builtin "type.__call__" ⟨.ref C::us,kw⟩)) outer s H:=⟨by first|exact e.frames|(simpa [Around.under,Code.envs,Code.isFrame,pushEnvs]using e.frames),e.mod,e.bs,e.bsz,e.funs,e.frf,e.hok,e.bare⟩
section
variable {X:Cx}{pins:AC}{σ:St}{H:Hp}{s s':Shared}
theorem Inv.env0(I:Inv X pins σ H s):Env0 X.prog X.w X.K X.mg X.base X.A X.stack s H:=
 ⟨I.ok.frames,I.ok.mod,I.bs,Nat.le_trans I.ok.bsz I.sz,I.stack,I.stkFree,I.hok,I.bare⟩
theorem Inv.after{Q:VK}{u:Value}(I:Inv X pins σ H s)(h:CE X.stack X.prog X.w H s Q u s'):EP X pins σ Q u s':=by
 obtain⟨v,H',os,bare,un,hok,r,q⟩:=h;obtain⟨hh,g,d,t,os'⟩:=s';obtain rfl:os'=s.os:=os;exact⟨v,H',I.call (h':=hh) (g':=g) (d':=d) (t':=t) (ch:=[]) un hok bare (λb z=>absurd z (by simp)),r,q⟩
end
def y3l(sp:Sp)(dvs:AN)(E:XK)(t:TA):TE:=λσ H Q=>t σ H λvs H1=>sp (vs++dvs) H1 Q E
def y6q(C:Addr)(m:Str)(sp:Sp)(dvs:AN)(E:XK)(ta:TE)(t:TA):TE:=λσ H Q=>ta σ H λx H1=>∃a dx fs,x=.ref a/\H1 a=some (.ins C dx fs)/\fs.lookup m=none/\
 t σ H1 λvs H2=>sp (x::(vs++dvs)) H2 Q E
def y6r(C:Addr)(sp:Sp)(dvs:AN)(E:XK)(t:TA):TE:=λσ H Q=>t σ H λvs H1=>∀x dx,H1 x=none->H1 dx=none->dx≠x->
 sp (.ref x::(vs++dvs)) (upd (upd H1 dx (.own x)) x (.ins C dx [])) (λv H2=>v=.non/\Q (.ref x) H2) E
def Binds(K:W.Frag)(fd:FuncData)(ps:AK)(ds:AD):Prop:=
 ∀(s:Shared) (us:AD),K.In s.heap->(us++ds).length=ps.length->BindsTo s fd ⟨us,[]⟩ (ps.zip (us++ds))
theorem Binds.all{K:W.Frag}{fd:FuncData}{ps:AK}(h:∀us:AD,us.length=ps.length->bindArgs fd ⟨us,[]⟩=pure (ps.zip us)):Binds K fd ps []:=λs us _ hl=>by
 rw[jb]at hl ⊢;exact .of_eq (h us hl)
def Yla(CX:CXT)(X:Cx)(E:XK):Prop:=∀(pins:AC) (σ:St) (H:Hp) (s:Shared) (e:Value) (s':Shared),Inv X pins σ H s->CX X.stack H s E e s'->X.xe e s'
section
variable {X:Cx}{CX:CXT}{k:Nat}{f C:Addr}{fd:FuncData}{ps:AK}{sp:Sp}{dvs:AN}{ds:AD}{E:XK}{x m:Str}{p pos apos:Pos}{e o:Expr}{es:AL}{ta:TE}{t:TA}
theorem Yqy{pins:AC}{σ:St}{H:Hp}{s:Shared}{Q:VK}{us:AD}{vs:AN}(F:FnOk X.prog X.w X.K X.mg X.base CX k f fd ps sp)(hr:Room k X.A)(hb:Binds X.K fd ps ds)(hd:Vals dvs ds)(hx:Yla CX X E)
 (I:Inv X pins σ H s) (r:Vals vs us) (h:sp (vs++dvs) H Q E):wpAny (model X.prog X.w) X.A (call (.ref f) us) (EP X pins σ Q) X.xe s:=by
 have r2:Vals (vs++dvs) (us++ds):=r.append hd
 have hl:(us++ds).length=ps.length:=by rw[<-r2.length];exact F.len _ _ _ _ h
 refine wpAny_call (codeAny_mono (F.run X.A X.stack s H ⟨us,[]⟩ (us++ds) (vs++dvs) Q E hr I.env0 (hb s us I.kIn hl) r2 h) λr s' hq=>?_)
 cases r with
 | error e=>exact hx pins σ H s e s' I hq
 | ok fl=>
   cases fl with
   | ret u=>exact I.after hq
   | next=>exact False.elim hq
   | brk=>exact False.elim hq
   | cont=>exact False.elim hq
theorem Ytk(F:FnOk X.prog X.w X.K X.mg X.base CX k f fd ps sp)(hr:Room k X.A)(hg:Gl X x)(hm:X.mg x=some (.ref f))(hk:W.keepIn X.K (.ref f)=true)(hb:Binds X.K fd ps ds)(hd:Vals dvs ds)(hx:Yla CX X E)
 (ha:PA X (e::es) t) (hdb:Ndb x:=by decide) (he:starEach (e::es) X.env=(false,eval e X.env)::starEach es X.env:=by rfl) (hpl:(backTo pos (starEach es X.env)).any (·.1)=false:=by rfl) :
 PE X (.Call (.Name x p) (e::es) [] pos) (y3l sp dvs E t):=by
 intro pins s σ H Q I h;refine wpAny_Call_Name_kw (Yph I hg hm ?_ hdb);refine W.callWith_K (h₀:=X.base) I.ok.mod.kin hk (thn (ha pos pins s σ H _ I h) λus s1 hx_=>?_) he hpl;obtain⟨vs,H1,I1,r,q⟩:=hx_;refine⟨I1.kIn,?_⟩;exact Yqy F hr hb hd hx I1 r q
theorem Yws{pl:Sem Bool}(he:PE X o ta)(c:Cls X.K C)(hm:Meth X.K C m f)(F:FnOk X.prog X.w X.K X.mg X.base CX k f fd ps sp)(hr:Room k X.A)(hb:Binds X.K fd ps ds)(hd:Vals dvs ds)(hx:Yla CX X E)
 (ht:eval (.Call (.Attribute o m apos) [] [] pos) X.env=(do
  let ov <-eval o X.env
  standAt apos.atName
  let (f,first) <-holding [ov] (getMethod ov m pl)
  callWith pos f first (backTo pos (starEach [] X.env)) (backToKw pos (keywordEach [] X.env))):=by rfl) :
 PE X (.Call (.Attribute o m apos) [] [] pos) (y6q C m sp dvs E ta tNil):=by
 intro pins s σ H Q I h;refine W.methodCall_KW (pl:=pl) (thn (he pins s σ H _ I h) λu s1 hx_=>?_) ht;obtain⟨x,H1,I1,rx,a,dx,fs,ex,ea,l,q⟩:=hx_;subst ex;obtain rfl:u=Value.ref a:=rx;refine Yk8 I1 ea c hm l ?_;exact W.callWith_K0 (first:=[.ref a]) I1.kIn hm.kp (Yqy (us:=[.ref a]) (vs:=[.ref a]) F hr hb hd hx I1 (.cons rfl .nil) q)
structure Mk(K:W.Frag)(C f:Addr):Prop where
 makes:W.makesIn K C=true
 init:W.findIn K (.ref C) "__init__"=some (some (.ref f))
 fn:W.isFn K (.ref f)=true
 kp:W.keepIn K (.ref C)=true
theorem Ywt{pins:AC}{σ:St}{H:Hp}{s:Shared}{Q:VK}{us:AD}{vs:AN}(M:Mk X.K C f)(F:FnOk X.prog X.w X.K X.mg X.base CX k f fd ps sp)(hr:Room (k+1) X.A)(hb:Binds X.K fd ps ds)(hd:Vals dvs ds)
 (hx:Yla CX X E) (I:Inv X pins σ H s) (r:Vals vs us)
 (h:∀x dx,H x=none->H dx=none->dx≠x->sp (.ref x::(vs++dvs)) (upd (upd H dx (.own x)) x (.ins C dx [])) (λv H2=>v=.non/\Q (.ref x) H2) E) :
 wpAny (model X.prog X.w) X.A (call (.ref C) us) (EP X pins σ Q) X.xe s:=by
 have hq:=h (~~~s+1) (~~~s) (I.hok.fresh (Nat.le_succ _)) (I.hok.fresh (qt _)) (ql (qy _));have I2:=Inv.made (C:=C) I;have r2:Vals (V.ref (~~~s+1)::(vs++dvs)) (Value.ref (~~~s+1)::(us++ds)):=.cons rfl (r.append hd)
 have hl:(Value.ref (~~~s+1)::us++ds).length=ps.length:=by
  have e:=r2.length;rw[F.len _ _ _ _ hq]at e;exact e.symm
 refine wpAny_call (Ywr (f:=f) I.kIn M.makes M.init (beq_iff_eq.mp M.fn) (codeAny_mono (F.run _ X.stack _ _ ⟨Value.ref (~~~s+1)::us,[]⟩ (Value.ref (~~~s+1)::(us++ds)) _ _ E (hr.make C us [])
  (I2.env0.make C us []) (hb _ (Value.ref (~~~s+1)::us) I2.kIn hl) r2 hq) λr s' hq'=>?_))
 cases r with
 | error e=>exact hx pins σ _ _ e s' I2 hq'
 | ok fl=>
   cases fl with
   | ret u=>
     obtain⟨v,H',I3,rv,ev,q3⟩:=I2.after hq';subst ev;exact⟨rv,⟨V.ref (~~~s+1),H',I3,rfl,q3⟩⟩
   | next=>exact False.elim hq'
   | brk=>exact False.elim hq'
   | cont=>exact False.elim hq'
theorem y0f(M:Mk X.K C f)(F:FnOk X.prog X.w X.K X.mg X.base CX k f fd ps sp)(hr:Room (k+1) X.A)(hg:Gl X x)(hm:X.mg x=some (.ref C))(hb:Binds X.K fd ps ds)(hd:Vals dvs ds)(hx:Yla CX X E)
 (ha:PA X (e::es) t) (hdb:Ndb x:=by decide) (he:starEach (e::es) X.env=(false,eval e X.env)::starEach es X.env:=by rfl) (hpl:(backTo pos (starEach es X.env)).any (·.1)=false:=by rfl) :
 PE X (.Call (.Name x p) (e::es) [] pos) (y6r C sp dvs E t):=by
 intro pins s σ H Q I h;refine wpAny_Call_Name_kw (Yph I hg hm ?_ hdb);refine W.callWith_K (h₀:=X.base) I.ok.mod.kin M.kp (thn (ha pos pins s σ H _ I h) λus s1 hx_=>?_) he hpl;obtain⟨vs,H1,I1,r,q⟩:=hx_;refine⟨I1.kIn,?_⟩;exact Ywt M F hr hb hd hx I1 r q
end
section
variable {X:Cx}{CX:CXT}{k:Nat}{f C:Addr}{fd:FuncData}{ps ks:AK}{sp:Sp}{E:XK}{x m:Str}{p pos apos kpos:Pos}{e o:Expr}{es:AL}{kws:List Keyword}{te ta:TE}{t tk:TA}{nm:Option Str}
structure KBinds(K:W.Frag)(fd:FuncData)(ps ks:AK)(g:AD->AD->AD)(gV:AN->AN->AN):Prop where
 to:∀(s:Shared) (us ws:AD),K.In s.heap->(g us ws).length=ps.length->BindsTo s fd ⟨us,ks.zip ws⟩ (ps.zip (g us ws))
 rel:∀{vs:AN}{us:AD}{zs:AN}{ws:AD},Vals vs us->Vals zs ws->Vals (gV vs zs) (g us ws)
variable {g:AD->AD->AD}{gV:AN->AN->AN}
end
structure FnScope(N P:AK)(sc:Scope):Prop where
 kind:sc.kind=.function
 co:sc.isCoroutine=false
 gen:sc.isGenerator=false
 nd:N.Nodup
 pre:N.take P.length=P
 par:∀x∈P,sc.names.lookup x=some .local\/sc.names.lookup x=some .cell
 nofree:∀y∈sc.names,y.2≠.free
theorem Ynq{kindOf:Str->Option NameKind}{x:Str}:∀{binds:List (Str×Value)}{m:AE},(∀v,(x,v)∉binds)->bindL kindOf binds m x=m x
 | [],_,_=>rfl
 | (n,v)::r,m,h=>by
   unfold bindL;rw[Ynq λw hw=>h w (qf _ hw)]
   split
   ·have:x≠n:=by rintro rfl;exact h v qg
    simp[this]
   ·rfl
theorem Ynr{kindOf:Str->Option NameKind}{x:Str}:∀{binds:List (Str×Value)}{m:AE},(∀v,(x,v)∉binds)->bindC kindOf binds m x=m x
 | [],_,_=>rfl
 | (n,v)::r,m,h=>by
   unfold bindC;rw[Ynr λw hw=>h w (qf _ hw)]
   split
   ·rfl
   ·have:x≠n:=by rintro rfl;exact h v qg
    simp[this]
theorem Yns{kindOf:Str->Option NameKind}{x:Str}{v:Value}:∀{P:AK}{vs:AD}{i:Nat}{m:AE},P.Nodup->P[i]?=some x->vs[i]?=some v->kindOf x=some .local->
 bindL kindOf (P.zip vs) m x=some v
 | [],_,_,_,_,h,_,_=>by simp at h
 | _::_,[],_,_,_,_,h,_=>by simp at h
 | p::P,w::vs,0,m,nd,h1,h2,hk=>by
   simp at h1 h2;subst h1;subst h2;show bindL kindOf ((p,w)::P.zip vs) m p=_;unfold bindL;rw[Ynq λv hv=>(List.nodup_cons.mp nd).1 (List.of_mem_zip hv).1,if_pos hk];simp
 | p::P,w::vs,i+1,m,nd,h1,h2,hk=>by
   show bindL kindOf ((p,w)::P.zip vs) m x=_;unfold bindL;exact Yns (i:=i) (List.nodup_cons.mp nd).2 (by simpa using h1) (by simpa using h2) hk
theorem Ynt{kindOf:Str->Option NameKind}{x:Str}{v:Value}:∀{P:AK}{vs:AD}{i:Nat}{m:AE},P.Nodup->P[i]?=some x->vs[i]?=some v->kindOf x≠some .local->
 bindC kindOf (P.zip vs) m x=some v
 | [],_,_,_,_,h,_,_=>by simp at h
 | _::_,[],_,_,_,_,h,_=>by simp at h
 | p::P,w::vs,0,m,nd,h1,h2,hk=>by
   simp at h1 h2;subst h1;subst h2;show bindC kindOf ((p,w)::P.zip vs) m p=_;unfold bindC;rw[Ynr λv hv=>(List.nodup_cons.mp nd).1 (List.of_mem_zip hv).1,if_neg hk];simp
 | p::P,w::vs,i+1,m,nd,h1,h2,hk=>by
   show bindC kindOf ((p,w)::P.zip vs) m x=_;unfold bindC;exact Ynt (i:=i) (List.nodup_cons.mp nd).2 (by simpa using h1) (by simpa using h2) hk
def start(N:AK)(vs:AN):St:=vs.map some++List.replicate (N.length-vs.length) none
def cxOf(CX:CXT)(P:Program)(w:World)(K:W.Frag)(mg:AE)(base:Heap)(N:AK)(qual:Str)(scope:Scope)(f:Addr)(cd:Value)(A:Around)(outer:List Env)(s:Shared)(H:Hp)(E:XK):Cx where
 prog:=P
 w:=w
 K:=K
 mg:=mg
 base:=base
 A:=A.deeper (envOfC qual scope (~~~s) f cd)
 N:=N
 s₀:=s
 H₀:=H
 env:=envOfC qual scope (~~~s) f cd
 outer:=outer
 stack:=envOfC qual scope (~~~s) f cd::outer
 ex:=[]
 calm:=true
 fn:=λ_=>true
 pn:=[]
 xe:=λe s'=>wpAny (model P w) (A.deeper (envOfC qual scope (~~~s) f cd)) (leaving (envOfC qual scope (~~~s) f cd) e) (λ_ s''=>CX outer H s E e s'') (λe' s''=>CX outer H s E e' s'') s'
theorem Yqz{sc:Scope}{n:Nat}{x:Str}(h:sc.names.lookup x=some .cell):∃c,(cellsFrom n sc.names []).lookup x=some c:=by
 have q:=PySem.W.cellsFrom_some sc.names n [] (.inl h);exact Option.isSome_iff_exists.mp q
theorem Ytl{CX:CXT}{P:Program}{w:World}{K:W.Frag}{mg:AE}{base:Heap}{N ps:AK}{qual:Str}{scope:Scope}{f:Addr}{cd:Value}{A:Around}{outer:List Env}{s s1:Shared}{H:Hp}{E:XK}{us:AD}{vs:AN}
 (S:FnScope N ps scope) (hd:A.handled=none) (e0:Env0 P w K mg base A outer s H) (hl:vs.length=ps.length) (r:Vals vs us)
 (x:InCallC s (~~~s) (bindL (envOfC qual scope (~~~s) f cd).kindOf (ps.zip us) λ_=>none) (cellsFrom (~~~s+1) scope.names []) (bindC (envOfC qual scope (~~~s) f cd).kindOf (ps.zip us) λ_=>none) s1) :
 Inv (cxOf CX P w K mg base N qual scope f cd A outer s H E) [] (start N vs) H s1:=by
 have hpl:ps.length<=N.length:=by have:=congrArg List.length S.pre;rw[List.length_take]at this;lia
 obtain⟨h1,tk,rfl,hk⟩:=x.done;have noA:∀b:Addr,b∉(cxOf CX P w K mg base N qual scope f cd A outer s H E).ex:=λb z=>absurd (show b∈([]:List Addr) from z) (by simp)
 refine⟨⟨e0.mod,S.kind,rfl,rfl,qt _,λy z c h1 h2=>?_,λy hy=>?_,λy c _ h=>?_,λ_=>hd,Around.frames_deeper e0.frames,.inr ⟨rfl,rfl⟩,λb z=>absurd z (noA b),e0.bs,e0.bsz,λb _ _=>noA b,λb z=>absurd z (noA b),e0.funs,e0.frf⟩,
  rfl,e0.bare,Un.kept hk,⟨_,x.toInCall.ns,λi y v h1 h2 h3=>?_⟩,λy c h=>⟨_,x.cell y c h⟩,e0.hok.fresh (qt _),λy c h=>?_,λp hp=>absurd (show p∈([]:AC) from hp) (by simp),e0.hok.kept hk,?_⟩
 ·exact name_of_addr x.apart (PySem.mem_of_lookup h1) (PySem.mem_of_lookup h2)
 ·have hy:scope.names.lookup y=some .cell\/scope.names.lookup y=some .free:=hy
  rcases hy with hy|hy
  ·exact Yqz hy
  ·exact absurd rfl (S.nofree _ (PySem.mem_of_lookup hy))
 ·exact Nat.le_of_lt (x.above y c (PySem.mem_of_lookup h))
 ·have hi:i<vs.length:=by
   unfold start at h2;by_cases hi:i<vs.length
   ·exact hi
   ·rw[List.getElem?_append_right (by simpa using hi)]at h2
    rw[List.getElem?_replicate]at h2
    split at h2<;>cases h2
  have ha:vs[i]?=some v:=by
   unfold start at h2;rw[List.getElem?_append_left (by simpa using hi),Qe]at h2
   cases e:vs[i]? with
   | none=>rw[e]at h2;cases h2
   | some a=>rw[e]at h2;cases h2;rfl
  obtain⟨u,hu,rv⟩:=r.get ha
  have hp:ps[i]?=some y:=by
   rw[<-S.pre,List.getElem?_take_of_lt (by lia)];exact h1
  have ndP:ps.Nodup:=by rw[<-S.pre];exact S.nd.sublist (List.take_sublist _ _)
  refine⟨u,rv,?_⟩;rcases S.par y (List.mem_of_getElem? hp)with k|k
  ·exact .inl ⟨k,Yns ndP hp hu k⟩
  ·obtain⟨c,e⟩:=Yqz (n:= ~~~s+1) k
   refine .inr ⟨.inl k,c,e,?_⟩;have q:=x.cell y c e;rw[Ynt ndP hp hu (by show scope.names.lookup y≠_;rw[k];decide)]at q;exact q
 ·exact e0.hok.fresh (Nat.le_of_lt (x.above y c (PySem.mem_of_lookup h)))
 ·unfold start
  show _=N.length;rw[qx,qe,List.length_replicate];lia
theorem y3m{CX:CXT}{P:Program}{w:World}{K:W.Frag}{mg:AE}{base:Heap}{k:Nat}{f:Addr}{name qual:Str}{params:Arguments}{body:List Stmt}{scope:Scope}{dV kV doc pm cdv ct oc:Value}{an od:Option Addr}
 {osl:Array (Option Value)}{N ps:AK}{sp:Sp} (lk:K.lookup f=some ⟨oc,od,.func (W.fnOf name qual params body scope dV kV doc pm an cdv ct),osl⟩) (hcd:W.codeIn K cdv qual=true) (S:FnScope N ps scope)
 (len:∀vs H Q E,sp vs H Q E->vs.length=ps.length)
 (hbody:∀(A:Around) (outer:List Env) (s:Shared) (H:Hp) (vs:AN) (Q:VK) (E:XK),Room k (A.deeper (envOfC qual scope (~~~s) f cdv))->sp vs H Q E->
  ∃t,PSs (cxOf CX P w K mg base N qual scope f cdv A outer s H E) body t/\t { nx:=λ_ H'=>Q .non H',rt:=Q } (start N vs) H) :
 FnOk P w K mg base CX (k+1) f (W.fnOf name qual params body scope dV kV doc pm an cdv ct) ps sp:=by
 refine⟨len,λA outer s H args us vs Q E hr e0 hb r hsp=>?_⟩;have hl:=len _ _ _ _ hsp;have KX:K.In s.heap:=e0.mod.kin.keeps λb o e=>(e0.bs b o e).1;have lim:s.heap.NoLimit:=e0.mod.nolimit.keeps λb o e=>(e0.bs b o e).1
 have hkind:∀y∈ps.zip us,scope.names.lookup y.1=some .local\/(scope.names.lookup y.1=some .cell/\((cellsFrom (~~~s+1) scope.names []).lookup y.1).isSome=true):=λ⟨n,v⟩ hy=>by
  rcases S.par n (List.of_mem_zip hy).1 with q|q
  ·exact .inl q
  ·exact .inr ⟨q,PySem.W.cellsFrom_some _ _ _ (.inl q)⟩
 refine codeAny_call_function hr.depth (KX _ _ lk) rfl S.co S.gen rfl (W.codeRec_of KX hcd) (hb _ _ _ _ ?_);refine wpAny_newFunctionEnv_cells S.kind hkind λenv he s1 x=>?_;subst he;refine⟨lim.keeps x.toInCall.keep,codeAny_func ?_⟩;obtain⟨t,ht,hq⟩:=hbody A outer s H vs Q E (hr.deeper _) hsp;have I:Inv (cxOf CX P w K mg base N qual scope f cdv A outer s H E) [] (start N vs) H s1:=Ytl S hr.hd e0 hl r x;refine w6 (ht [] s1 (start N vs) H _ I hq) (λfl s' hs=>?_) λe s' hs=>hs
 have fin:∀{σ':St}{H':Hp}{v:V}{u:Value},Inv (cxOf CX P w K mg base N qual scope f cdv A outer s H E) [] σ' H' s'->RelV v u->Q v H'->CE outer P w H s Q u s':=
  λ{σ' H' v u} J rv q=>⟨v,H',J.os,J.bare,J.base,J.hok,rv,q⟩
 cases fl with
 | ret u=>
   obtain⟨v,σ',H',J,rv,q⟩:=hs;exact fin J rv q
 | next=>
   obtain⟨σ',H',J,q⟩:=hs;exact fin (v:=V.non) (u:=Value.none) J rfl q
 | brk=>
   obtain⟨_,_,_,q⟩:=hs;exact False.elim q
 | cont=>
   obtain⟨_,_,_,q⟩:=hs;exact False.elim q
section
variable {X:Cx}{x:Str}{p pos:Pos}{e:Expr}{es:AL}{t:TA}{id T:String}{r:AN->Hp->VK->Prop}
def tCB(r:AN->Hp->VK->Prop)(t:TA):TE:=λσ H Q=>t σ H λvs H1=>r vs H1 Q
theorem Ygh(hc:Ydu X (.builtin id) r)(hg:Gl X x)(hm:X.mg x=none)(hv:bootBuiltins x=some (.builtin id))(ha:PA X (e::es) t)(hn:x≠"__name__":=by decide)(hdb:Ndb x:=by decide)
 (he:starEach (e::es) X.env=(false,eval e X.env)::starEach es X.env:=by rfl) (hpl:(backTo pos (starEach es X.env)).any (·.1)=false:=by rfl):PE X (.Call (.Name x p) (e::es) [] pos) (tCB r t):=by
 intro pins s σ H Q I h;refine wpAny_Call_Name_kw (Yk4 I hg hm hv ?_ hn hdb);refine PyProof.Rows.callWith_builtin1 (thn (ha pos pins s σ H _ I h) λus s1 hx_=>?_) he hpl;obtain⟨vs,H1,I1,r1,q1⟩:=hx_;exact hc pins s1 σ H1 vs us Q I1 r1 q1
theorem Ygi(hc:Ydu X (.type T) r)(hg:Gl X x)(hm:X.mg x=none)(hv:bootBuiltins x=some (.type T))(ha:PA X (e::es) t)(hn:x≠"__name__":=by decide)(hdb:Ndb x:=by decide)
 (he:starEach (e::es) X.env=(false,eval e X.env)::starEach es X.env:=by rfl) (hpl:(backTo pos (starEach es X.env)).any (·.1)=false:=by rfl):PE X (.Call (.Name x p) (e::es) [] pos) (tCB r t):=by
 intro pins s σ H Q I h;refine wpAny_Call_Name_kw (Yk4 I hg hm hv ?_ hn hdb);refine PyProof.Rows.callWith_type1 (thn (ha pos pins s σ H _ I h) λus s1 hx_=>?_) he hpl;obtain⟨vs,H1,I1,r1,q1⟩:=hx_;exact hc pins s1 σ H1 vs us Q I1 r1 q1
end
section
variable {κ:Type} [DecidableEq κ]
def valV(kvs:List (κ×V))(k:κ):Option V:=(kvs.find? λkv=>decide (kv.1=k)).map (·.2)
def putK(kvs:List (κ×V))(k:κ)(v:V):List (κ×V):=
 if (kvs.any λkv=>decide (kv.1=k))=true then kvs.map (λkv=>if kv.1=k then (kv.1,v)else kv)else kvs++[(k,v)]
theorem Yc8{p:κ×V}{r:List (κ×V)}{k:κ}(e:p.1=k):valV (p::r) k=some p.2:=by simp[valV,List.find?_cons,e]
theorem Yc9{p:κ×V}{r:List (κ×V)}{k:κ}(e:¬p.1=k):valV (p::r) k=valV r k:=by simp[valV,List.find?_cons,e]
theorem Ylx(k:κ):∀kvs:List (κ×V),(kvs.any λkv=>decide (kv.1=k))=(valV kvs k).isSome
 | []=>rfl
 | p::r=>by
   rw[List.any_cons];by_cases e:p.1=k
   ·simp only[Yc8 e,wn e,Bool.true_or,Option.isSome_some]
   ·rw[Yc9 e,wo e,Bool.false_or];exact Ylx k r
theorem Ynu(k j:κ)(y:V):∀kvs:List (κ×V),valV kvs k=none->valV (kvs++[(k,y)]) j=if j=k then some y else valV kvs j
 | [],_=>by
   by_cases e:k=j
   ·rw[if_pos e.symm];exact Yc8 (p:=(k,y)) e
   ·rw[if_neg (λz=>e z.symm)];exact Yc9 (p:=(k,y)) e
 | p::r,hn=>by
   rw[List.cons_append]
   have hk:¬p.1=k:=λz=>by rw[Yc8 z]at hn;cases hn
   rw[Yc9 hk]at hn;have ih:=Ynu k j y r hn;by_cases e:p.1=j
   ·rw[Yc8 e,Yc8 e,if_neg (λz=>hk (e.trans z))]
   ·rw[Yc9 e,Yc9 e,ih]
theorem Yf1(kvs:List (κ×V))(k:κ)(v:V):(putK kvs k v).length<=kvs.length+1:=by
 unfold putK
 split
 ·rw[qe];lia
 ·rw[qx,qq,List.length_nil];lia
theorem Ywu{kvs:List (κ×V)}{k:κ}(v:V)(h:valV kvs k=none):putK kvs k v=kvs++[(k,v)]:=by
 unfold putK;rw[Ylx,h];exact if_neg (by decide)
theorem RelO.isSome_eq{o:Option V}{u:Option Value}(r:RelO o u):o.isSome=u.isSome:=by
 cases o with
 | none=>cases u with
   | none=>rfl
   | some _=>exact(show False from r).elim
 | some _=>cases u with
   | none=>exact(show False from r).elim
   | some _=>rfl
theorem KV.val{kvs:List (κ×V)}{vs:List (κ×Value)}(r:KV kvs vs)(k:κ):RelO (valV kvs k) (valueAt vs k):=by
 unfold KV at r
 induction r with
 | nil=>exact True.intro
 | @cons p q ps qs h t ih=>
   obtain⟨h1,h2⟩:=h;by_cases e:p.1=k
   ·have e':q.1=k:=h1.symm.trans e
    have b:valueAt (q::qs) k=some q.2:=by simp[valueAt,List.find?_cons,e']
    rw[Yc8 e,b];exact h2
   ·have e':¬q.1=k:=λz=>e (h1.trans z)
    have b:valueAt (q::qs) k=valueAt qs k:=by simp[valueAt,List.find?_cons,e']
    rw[Yc9 e,b];exact ih
theorem KV.any{kvs:List (κ×V)}{vs:List (κ×Value)}(r:KV kvs vs)(k:κ):(kvs.any λkv=>decide (kv.1=k))=vs.any λkv=>decide (kv.1=k):=by
 unfold KV at r
 induction r with
 | nil=>rfl
 | cons h t ih=>rw[List.any_cons,List.any_cons,ih,h.1]
theorem KV.repl{kvs:List (κ×V)}{vs:List (κ×Value)}(r:KV kvs vs)(k:κ){y:V}{u:Value}(ry:RelV y u) :
 KV (kvs.map λkv=>if kv.1=k then (kv.1,y)else kv) (vs.map λkv=>if kv.1=k then (kv.1,u)else kv):=by
 unfold KV at r ⊢
 induction r with
 | nil=>exact .nil
 | @cons p q ps qs h t ih=>
   rw[q0,q0];refine .cons ?_ ih;obtain⟨h1,h2⟩:=h;by_cases e:p.1=k
   ·rw[if_pos e,if_pos (h1.symm.trans e)];exact⟨h1,ry⟩
   ·rw[if_neg e,if_neg (λz=>e (h1.trans z))];exact⟨h1,h2⟩
theorem KV.put{kvs:List (κ×V)}{vs:List (κ×Value)}(r:KV kvs vs)(k:κ){y:V}{u:Value}(ry:RelV y u):KV (putK kvs k y) (stored vs k u):=by
 unfold putK stored;rw[r.any k];by_cases e:(vs.any λkv=>decide (kv.1=k))=true
 ·rw[if_pos e,if_pos e];exact r.repl k ry
 ·rw[if_neg e,if_neg e];exact Paired.snoc r ⟨rfl,ry⟩
theorem KV.length{kvs:List (κ×V)}{vs:List (κ×Value)}(r:KV kvs vs):kvs.length=vs.length:=Paired.length r
end
theorem Ywv{P:Program}{w:World}{k:Key}{u:Value}(r:RelV (kV k) u):(Ybi P w).is k u=true:=by
 cases k with
 | inl i=>obtain⟨t,e⟩:=(show ∃t,u=Value.int i t from r);subst e;exact Ypf P w i t
 | inr x=>obtain⟨t,e⟩:=(show ∃t,u=Value.str x t from r);subst e;exact Ypg P w x t
theorem Ynv{P:Program}{w:World}:∀{ks:List Key}{us:AD},Vals (ks.map kV) us->ItemsAre (Ybi P w) ks us
 | [],_,r=>by rw[List.map_nil]at r;cases r;exact .nil
 | k::ks,_,r=>by
   rw[q0]at r
   cases r with
   | cons h t=>exact .cons (Ywv h) (Ynv t)
abbrev KT(H:Hp):List (List Key×V)->List (List Key×Addr×Value)->Prop:=Paired λp q=>p.1=q.1/\H q.2.1=some (.tup (p.1.map kV))/\RelV p.2 q.2.2
theorem KT.val{H:Hp}{kvs:List (List Key×V)}{xs:List (List Key×Addr×Value)}(r:KT H kvs xs)(k:List Key):RelO (valV kvs k) ((atKey xs k).map (·.2)):=by
 induction r with
 | nil=>exact True.intro
 | @cons p q ps qs h t ih=>
   obtain⟨h1,_,h2⟩:=h;by_cases e:p.1=k
   ·have e':q.1=k:=h1.symm.trans e
    have b:atKey (q::qs) k=some q.2:=by simp[atKey,List.find?_cons,e']
    rw[Yc8 e,b];exact h2
   ·have e':¬q.1=k:=λz=>e (h1.trans z)
    have b:atKey (q::qs) k=atKey qs k:=by simp[atKey,List.find?_cons,e']
    rw[Yc9 e,b];exact ih
theorem KT.repl{H:Hp}{kvs:List (List Key×V)}{xs:List (List Key×Addr×Value)}(r:KT H kvs xs)(k:List Key){y:V}{u:Value}(ry:RelV y u) :
 KT H (kvs.map λkv=>if kv.1=k then (kv.1,y)else kv) (xs.map (putAt k u)):=by
 induction r with
 | nil=>exact .nil
 | @cons p q ps qs h t ih=>
   rw[q0,q0];refine .cons ?_ ih;obtain⟨h1,h2,h3⟩:=h;unfold putAt;by_cases e:p.1=k
   ·rw[if_pos e,if_pos (h1.symm.trans e)];exact⟨h1,h2,ry⟩
   ·rw[if_neg e,if_neg (λz=>e (h1.trans z))];exact⟨h1,h2,h3⟩
theorem KT.put{H:Hp}{kvs:List (List Key×V)}{xs:List (List Key×Addr×Value)}(r:KT H kvs xs)(k:List Key){b:Addr}{y:V}{u:Value}(hb:H b=some (.tup (k.map kV)))(ry:RelV y u) :
 KT H (putK kvs k y) (storedH xs k b u):=by
 have e:(kvs.any λkv=>decide (kv.1=k))=(atKey xs k).isSome:=by
  rw[Ylx,(r.val k).isSome_eq,Option.isSome_map]
 unfold putK storedH;rw[e];by_cases q:(atKey xs k).isSome=true
 ·rw[if_pos q,if_pos q];exact r.repl k ry
 ·rw[if_neg q,if_neg q];exact Paired.snoc r ⟨rfl,hb,ry⟩
theorem KT.keeps{H H':Hp}{kvs:List (List Key×V)}{xs:List (List Key×Addr×Value)}(r:KT H kvs xs)(ht:∀b ys,H b=some (.tup ys)->H' b=some (.tup ys)):KT H' kvs xs:=
 Paired.mapP r λ_ _ z=>⟨z.1,ht _ _ z.2.1,z.2.2⟩
section
variable {P:Program}{w:World}{H:Hp}{h:Heap}{a:Addr}
theorem y3n{u:HO}(ok:HOk P w H h)(e:Rd H a u):ObjOk P w H h a u:=e.ok ok
theorem y0g{kvs:List (Key×V)}(ok:HOk P w H h)(e:Rd H a (.dK kvs)):kvs.length<=sizeLine/\(a==sysModules)=false/\∃vs,KV kvs vs/\h.DictOf (Ybi P w) a vs:=
 show ObjOk P w H h a (.dK kvs) from y3n ok e
theorem y3o{kvs:List (Key×V)}(ok:HOk P w H h)(e:H a=some (.dK kvs)):kvs.length<=sizeLine/\(a==sysModules)=false/\∃vs,KV kvs vs/\h.DictOf (Ybi P w) a vs:=y0g ok (.inl e)
theorem Ytm{ks:List Key}(ok:HOk P w H h)(e:H a=some (.tup (ks.map kV))):(tupleKind (Ybi P w)).is h ks a:=by
 obtain⟨_,its,r,o,h1,h2,n,h3⟩:=(show ObjOk P w H h a (.tup (ks.map kV)) from ok a _ e)
 exact⟨o,its.toArray,n,h1,h2,h3,by simpa using Ynv r⟩
theorem y0h{kvs:List (List Key×V)}(ok:HOk P w H h)(e:Rd H a (.dT kvs)):kvs.length<=sizeLine/\(a==sysModules)=false/\
 ∃xs,KT H kvs xs/\h.DictOfH (tupleKind (Ybi P w)) a xs:=by
 obtain⟨z,y,xs,r,o,es,ep,h1,h2,h3,h4,h5⟩:=(show ObjOk P w H h a (.dT kvs) from y3n ok e)
 refine⟨z,y,xs,r,o,es,ep,h1,h2,h3,h4,λx hx=>?_,h5⟩
 have all:∀{l:List (List Key×V)}{m:List (List Key×Addr×Value)},KT H l m->∀x∈m,(tupleKind (Ybi P w)).is h x.1 x.2.1:=by
  intro l m q
  induction q with
  | nil=>intro x hx;exact nomatch hx
  | @cons p q ps qs hq t ih=>
    intro x hx;rcases qr hx with e|hx
    ·subst e
     exact Ytm ok (by rw[<-hq.1];exact hq.2.1)
    ·exact ih x hx
 exact all r x hx
theorem y6s{kvs:List (List Key×V)}(ok:HOk P w H h)(e:H a=some (.dT kvs)):kvs.length<=sizeLine/\(a==sysModules)=false/\
 ∃xs,KT H kvs xs/\h.DictOfH (tupleKind (Ybi P w)) a xs:=y0h ok (.inl e)
end
def DGet(H:Hp)(a:Addr)(y:V)(r:Option V):Prop:=
 (∃kvs k,Rd H a (.dK kvs)/\y=kV k/\r=valV kvs k)\/∃kvs k b,Rd H a (.dT kvs)/\y=.ref b/\H b=some (.tup (k.map kV))/\r=valV kvs k
def DPut(H:Hp)(a:Addr)(y v:V)(H':Hp):Prop:=
 (∃kvs k,H a=some (.dK kvs)/\y=kV k/\kvs.length<sizeLine/\H'=upd H a (.dK (putK kvs k v)))\/
 ∃kvs k b,H a=some (.dT kvs)/\y=.ref b/\H b=some (.tup (k.map kV))/\kvs.length<sizeLine/\H'=upd H a (.dT (putK kvs k v))
theorem DGet.k{H:Hp}{a:Addr}{kvs:List (Key×V)}{k:Key}(e:H a=some (.dK kvs)):DGet H a (kV k) (valV kvs k):=.inl ⟨kvs,k,.inl e,rfl,rfl⟩
theorem DPut.k{H:Hp}{a:Addr}{kvs:List (Key×V)}{k:Key}{v:V}(e:H a=some (.dK kvs))(hl:kvs.length<sizeLine):DPut H a (kV k) v (upd H a (.dK (putK kvs k v))):=.inl ⟨kvs,k,e,rfl,hl,rfl⟩
section
variable {X:Cx}{pins:AC}{σ:St}{H:Hp}{s:Shared}{a:Addr}{y v:V}{u r:Value}{o:Option V}{A:Around}{E:AB}
theorem Inv.big(I:Inv X pins σ H s):sysModules< ~~~s:=by
 have h:mainGlobals< ~~~s:=(I.mod.glob.keeps I.bk).lt;exact Nat.lt_trans (by decide) h
theorem Ytn{Q:AB}(hu:A.units+1<cLine)(I:Inv X pins σ H s)(g:DGet H a y (some v))(ry:RelV y u)(h:∀w' s',Inv X pins σ H s'->RelV v w'->Q w' s') :
 wpAny (model X.prog X.w) A (getItem (.ref a) u) Q E s:=by
 rcases g with⟨kvs,k,e,ey,l⟩|⟨kvs,k,b,e,ey,eb,l⟩
 ·subst ey
  obtain⟨z,hd,vs,rel,dd⟩:=y0g I.hok e;obtain⟨w',hw,rw'⟩:=RelO.some_of (v:=v) (o:=valueAt vs k) (by rw[l];exact rel.val k);exact wpAny_getItem_of (Ywv ry) dd.mapOf hw (h w' _ (I.tok _) rw')
 ·subst ey
  cases (show u=Value.ref b from ry);obtain⟨z,hd,xs,rel,dd⟩:=y0h I.hok e;obtain⟨w',hw,rw'⟩:=RelO.some_of (v:=v) (o:=(atKey xs k).map (·.2)) (by rw[l];exact rel.val k);obtain⟨p,hp,hp2⟩:=qb hw;refine wpAny_getItem_heap (tupleKind_room_in1 hu) (Ytm I.hok eb) dd hp ?_;rw[hp2];exact h w' _ (I.tok _) rw'
theorem Ypi{h':Heap}{t':Nat}{ob:HO}(I:Inv X pins σ H s)(mu:Mut (H a))(hs:Heap.SameBut a s.heap h')(he:∃q,h'.get? a=some q)(new:ObjOk X.prog X.w (upd H a ob) h' a ob) :
 Inv X pins σ (upd H a ob) { s with heap:=h',toks:=t' }:=
 I.write (x:=a) (e:=a) mu (.inl rfl) (λb q hb z=>(hs.2 b hb).trans z) he new
theorem Yy9{P:Program}{w:World}{H':Hp}{h':Heap}{kvs:List (Key×V)}{vs:List (Key×Value)}(z:kvs.length<=sizeLine)(hd:(a==sysModules)=false)(rel:KV kvs vs)(dd:h'.DictOf (Ybi P w) a vs) :
 ObjOk P w H' h' a (.dK kvs):=⟨z,hd,vs,rel,dd⟩
theorem Yto{H':Hp}{Q:Unit->Shared->Prop}(hu:A.units+1<cLine)(I:Inv X pins σ H s)(g:DPut H a y v H')(ry:RelV y u)(rv:RelV v r)(h:∀s',Inv X pins σ H' s'->Q () s') :
 wpAny (model X.prog X.w) A (setItem (.ref a) u r) Q E s:=by
 rcases g with⟨kvs,k,e,ey,l,eH⟩|⟨kvs,k,b,e,ey,eb,l,eH⟩
 ·subst ey eH
  obtain⟨z,hd,vs,rel,dd⟩:=y3o I.hok e
  have hz:vs.length<=sizeLine:=by rw[<-rel.length];exact z
  have hl:(putK kvs k v).length<=sizeLine:=by have:=Yf1 kvs k v;lia
  refine wpAny_setItem_pairs (hsz:=hz) (Ywv ry) dd λh' dd' hs=>h _ ?_;have he:∃q,h'.get? a=some q:=let ⟨q,_,_,hq,_⟩:=dd';⟨q,hq⟩;exact Ypi I (by rw[e];exact True.intro) hs he (Yy9 hl hd (rel.put k rv) dd')
 ·subst ey eH
  cases (show u=Value.ref b from ry);obtain⟨z,hd,xs,rel,dd⟩:=y6s I.hok e
  have hz:xs.length<=sizeLine:=by rw[<-Paired.length rel];exact z
  have hl:(putK kvs k v).length<=sizeLine:=by have:=Yf1 kvs k v;lia
  refine wpAny_setItem_heap (hsz:=hz) (tupleKind_room_in1 hu) (Ytm I.hok eb) dd λh' dd' hs=>h _ ?_;obtain⟨q,es,ep,hq,h2,h3,h4,_,h5⟩:=dd';refine Ypi I (by rw[e];exact True.intro) hs ⟨q,hq⟩ ⟨hl,hd,_,(rel.put k eb rv).keeps λc ys ec=>?_,q,es,ep,hq,h2,h3,h4,h5⟩;rw[Yo (y6c ec e (λz=>nomatch z))];exact ec
end
theorem Ypj{X:Cx}{pins:AC}{σ:St}{H:Hp}{s:Shared}{a:Addr}{y:V}{o:Option V}(I:Inv X pins σ H s)(g:DGet H a y o):s.TypeIs (.ref a) "dict":=by
 rcases g with⟨kvs,k,e,_,_⟩|⟨kvs,k,b,e,_,_,_⟩
 ·obtain⟨_,_,vs,_,dd⟩:=y0g I.hok e
  exact dd.typeIs
 ·obtain⟨_,_,xs,_,dd⟩:=y0h I.hok e
  exact dd.typeIs
theorem Yww{P:Program}{w:World}{H:Hp}(h:Heap)(hb:sysModules<h.objs.size):ObjOk P w H (h.push { cls:=.type "dict",data:=.dict #[] }) h.objs.size (.dK []):=
 ⟨Qc _,beq_eq_false_iff_ne.mpr (Ne.symm (ql hb)),[],.nil,Heap.DictOf.new h⟩
def Yq0:List (TE×TE)->St->Hp->(List (V×V)->Hp->Prop)->Prop
 | [],_,H,Q=>Q [] H
 | (tk,tv)::r,σ,H,Q=>tk σ H λx H1=>tv σ H1 λy H2=>Yq0 r σ H2 λps H3=>Q ((x,y)::ps) H3
abbrev VV:List (V×V)->List (Value×Value)->Prop:=Paired λp q=>RelV p.1 q.1/\RelV p.2 q.2
def PPs(X:Cx)(pos:Pos)(keys:List (Option Expr))(values:AL)(trs:List (TE×TE)):Prop:=
 ∀(pins:AC) (s:Shared) (σ:St) (H:Hp) (Q:List (V×V)->Hp->Prop),Inv X pins σ H s->Yq0 trs σ H Q->
  wpAny (model X.prog X.w) X.A (evalPairs (pairTrees keys values X.env pos)) (λvs s'=>∃ps H',Inv X pins σ H' s'/\VV ps vs/\Q ps H') X.xe s
theorem y0i{X:Cx}{pos:Pos}:PPs X pos [] [] []:=λpins s σ H Q I h=>pairTrees_nil_walk ⟨[],H,I,.nil,h⟩
theorem Ywx{X:Cx}{pos:Pos}{k v:Expr}{ks:List (Option Expr)}{vs:AL}{tk tv:TE}{trs:List (TE×TE)}(hk:PE X k tk)(hv:PE X v tv)(hr:PPs X pos ks vs trs) :
 PPs X pos (some k::ks) (v::vs) ((tk,tv)::trs):=λpins s σ H Q I h=>
 pairTrees_cons_walk (thn (hk pins s σ H _ I h) λu s1 ⟨x,H1,I1,rx,q1⟩=>thn (hv pins s1 σ H1 _ I1 q1) λw2 s2 ⟨y,H2,I2,ry,q2⟩=>
  thn (hr pins s2 σ H2 _ I2 q2) λws s3 ⟨ps,H3,I3,rel,q3⟩=>⟨(x,y)::ps,H3,I3,.cons ⟨rx,ry⟩ rel,q3⟩)
def Ygj(kvs more:List (Key×V)):List (Key×V):=more.foldl (λacc kv=>putK acc kv.1 kv.2) kvs
theorem KV.merge:∀{more:List (Key×V)}{rs:List (Key×Value)}{kvs:List (Key×V)}{vs:List (Key×Value)},KV more rs->KV kvs vs->KV (Ygj kvs more) (merged vs rs):=by
 intro more rs kvs vs r;unfold KV at r
 induction r generalizing kvs vs with
 | nil=>intro q;exact q
 | @cons p q ps qs h t ih=>
   intro r0
   have e:KV (putK kvs p.1 p.2) (stored vs q.1 q.2):=by
    have:=r0.put p.1 h.2;rw[<-h.1];exact this
   exact ih e
theorem Ygk:∀(more kvs:List (Key×V)),(Ygj kvs more).length<=kvs.length+more.length
 | [],kvs=>by show kvs.length<=kvs.length+0;lia
 | p::r,kvs=>by
   have h1:=Ygk r (putK kvs p.1 p.2);have h2:=Yf1 kvs p.1 p.2;show(Ygj (putK kvs p.1 p.2) r).length<=_;rw[qq];lia
theorem Ylb{P:Program}{w:World}:∀{kvs:List (Key×V)}{ws:List (Value×Value)},VV (kvs.map λkv=>(kV kv.1,kv.2)) ws->∃rs,Carries (Ybi P w) ws rs/\KV kvs rs
 | [],_,r=>by rw[List.map_nil]at r;cases r;exact⟨[],True.intro,.nil⟩
 | p::kvs,_,r=>by
   rw[q0]at r
   cases r with
   | @cons a b as bs h t=>
     obtain⟨rs,c,q⟩:=Ylb (P:=P) (w:=w) t;obtain⟨b1,b2⟩:=b;exact⟨(p.1,b2)::rs,⟨Ywv h.1,rfl,c⟩,.cons ⟨rfl,h.2⟩ q⟩
def y6t(trs:List (TE×TE)):TE:=λσ H Q=>∀p,H p=none->Yq0 trs σ (upd H p (.dK [])) λps H2=>H2 p=some (.dK [])/\∃kvs:List (Key×V),ps=kvs.map (λkv=>(kV kv.1,kv.2))/\kvs.length<=15/\Q (.ref p) (upd H2 p (.dK (Ygj [] kvs)))
theorem y0j{X:Cx}{pos:Pos}{keys:List (Option Expr)}{values:AL}{trs:List (TE×TE)}(h:PPs X pos keys values trs)(hall:keys.all (·.isSome)=true)(hl:keys.length=values.length)(h0:keys≠[])
 (h15:keys.length<=15):PE X (.Dict keys values pos) (y6t trs):=by
 intro pins s σ H Q I q;have hn:=I.hok.fresh (qt (~~~s));have I1:=I.laid (a:= ~~~s) (o:=.dK []) (h':=s.heap.push { cls:=.type "dict",data:=.dict #[] }) (t':=s.toks) (λ_ _ q=>qd _ q) (qt _) (Yww s.heap I.big);refine wpAny_Dict_walk (knd:=Ybi X.prog X.w) hall hl h0 h15 (thn (h pins _ σ _ _ I1 (q _ hn)) λws s2 hx_=>?_);obtain⟨ps,H2,I2,rel,e,kvs,ep,lk,q2⟩:=hx_;subst ep;obtain⟨rs,c,rk⟩:=Ylb (P:=X.prog) (w:=X.w) rel;obtain⟨z,hd,vs0,r0,dd⟩:=y3o I2.hok e;cases r0;refine⟨rs,c,dd,λh' dd' hs=>⟨.ref (~~~s),_,?_,rfl,q2⟩⟩
 have hz:(Ygj [] kvs).length<=sizeLine:=by
  have h1:=Ygk kvs [];rw[List.length_nil]at h1;rw[jj];lia
 have he:∃q,h'.get? (~~~s)=some q:=let ⟨q,_,_,hq,_⟩:=dd';⟨q,hq⟩;exact Ypi I2 (by rw[e];exact True.intro) hs he (Yy9 hz hd (rk.merge .nil) dd')
structure M1(X:Cx)(o:Expr)(m:Str)(apos:Pos)(e:Expr)(cpos:Pos):Prop where
 base:attributeBase o m X.env (eval o X.env)=eval o X.env
 few:((backTo cpos (starEach [e] X.env)).all (λx=>!x.1)&&(backToKw cpos (keywordEach [] X.env)).all (λx=>x.1.isSome)
  &&decide (([e]:AL).length+([]:List Keyword).length+(if ([]:List Keyword).isEmpty then 0 else 1)<30))=true
 line:(apos.endLine==cpos.line)=true
 trees:backTo cpos (starEach [e] X.env)=[(false,eval e X.env)]
structure M2(X:Cx)(o:Expr)(m:Str)(apos:Pos)(e f:Expr)(cpos:Pos):Prop where
 base:attributeBase o m X.env (eval o X.env)=eval o X.env
 few:((backTo cpos (starEach [e,f] X.env)).all (λx=>!x.1)&&(backToKw cpos (keywordEach [] X.env)).all (λx=>x.1.isSome)
  &&decide (([e,f]:AL).length+([]:List Keyword).length+(if ([]:List Keyword).isEmpty then 0 else 1)<30))=true
 line:(apos.endLine==cpos.line)=true
 trees:backTo cpos (starEach [e,f] X.env)=[(false,eval e X.env),(false,eval f X.env)]
end L2
namespace HT
open PySem PyProof.Rows
section
variable {prog:Program}{w:World}{A:Around}{E:AB}{s:Shared}
def sIx(n d:Nat):Option Int->Nat
 | none=>d
 | some v=>if v<0 then (v+(n:Int)).toNat else min v.toNat n
theorem sIx_none(n d:Nat):sIx n d none=d:=rfl
theorem sIx_nat(n d k:Nat):sIx n d (some (k:Int))=min k n:=by
 show(if (k:Int)<0 then ((k:Int)+(n:Int)).toNat else min (k:Int).toNat n)=min k n;rw[if_neg (by lia),ja]
end
end HT
namespace L2
open PySem PySem.Spec PyProof.Rows
abbrev TO:=St->Hp->(Option Int->Hp->Prop)->Prop
def PO(X:Cx)(e:Option Expr)(t:TO):Prop:=
 ∀(pins:AC) (s:Shared) (σ:St) (H:Hp) (Q:Option Int->Hp->Prop),Inv X pins σ H s->t σ H Q->
  wpAny (model X.prog X.w) X.A (evalPart e X.env) (λu s'=>∃o H',Inv X pins σ H' s'/\IsPart u o/\Q o H') X.xe s
def Ytp:TO:=λ_ H Q=>Q none H
def y3p(t:TE):TO:=λσ H Q=>t σ H λx H1=>∃i,x=.int i/\Q (some i) H1
theorem Ylc{ns:AG}:∀{us:AD},Vals (ns.map V.int) us->IntsAre us ns:=by
 induction ns with
 | nil=>intro us r;rw[List.map_nil]at r;cases r;exact .nil
 | cons n ns ih=>
   intro us r;rw[q0]at r
   cases r with
   | cons r1 r2=>
     obtain⟨t,e⟩:=r1;subst e;exact .cons n t (ih r2)
section
variable {X:Cx}{e:Expr}{te:TE}{lo hi:Option Expr}{tl th:TO}{pos p2:Pos}
theorem y0k:PO X none Ytp:=by
 intro pins s σ H Q I h;rw[evalPart_none];exact wc ⟨none,H,I,.none,h⟩
theorem y0l(h:PE X e te):PO X (some e) (y3p te):=by
 intro pins s σ H Q I hw;rw[evalPart_some];refine thn (h pins s σ H _ I hw) λu s1 hx_=>?_;obtain⟨x,H1,I1,r1,q1⟩:=hx_;obtain⟨i,rfl,q⟩:=q1;obtain⟨t,rfl⟩:=r1;exact⟨some i,H1,I1,.int i t,q⟩
def SlR(X:Cx)(r:V->Option Int->Option Int->Hp->VK->Prop):Prop:=
 ∀(pins:AC) (s:Shared) (σ:St) (H:Hp) (x:V) (v vl vu:Value) (lo hi:Option Int) (sl:Addr) (Q:VK),Inv X pins σ H s->RelV x v->s.heap.IsSliceOf sl vl vu .none->IsPart vl lo->IsPart vu hi->r x lo hi H Q->
  ∃T id,typeLookup (.type T) "__getitem__"=pure (some (.builtin id))/\s.TypeIs v T/\wpAny (model X.prog X.w) X.A (getItem v (.ref sl)) (EP X pins σ Q) X.xe s
def tSl(r:V->Option Int->Option Int->Hp->VK->Prop)(te:TE)(tl th:TO):TE:=λσ H Q=>te σ H λx H1=>tl σ H1 λl H2=>th σ H2 λu H3=>r x l u H3 Q
theorem Ywy{r:V->Option Int->Option Int->Hp->VK->Prop}(hr:SlR X r)(he:PE X e te)(hl:PO X lo tl)(hu:PO X hi th):PE X (.Subscript e (.Slice lo hi none p2) pos) (tSl r te tl th):=by
 intro pins s σ H Q I h;refine Subscript_ (thn (he pins s σ H _ I h) λv s1 hx_=>?_);obtain⟨x,H1,I1,r1,q1⟩:=hx_;refine wpAny_Slice (thn (hl pins s1 σ H1 _ I1 q1) λvl s2 hx_=>?_);obtain⟨l,H2,I2,pl,q2⟩:=hx_;refine thn (hu pins s2 σ H2 _ I2 q2) λvu s3 hx_=>?_;obtain⟨u,H3,I3,pu,q3⟩:=hx_;rw[evalPart_none];refine wc ?_;have I4:Inv X pins σ H3 { s3 with heap:=s3.heap.push { cls:=.type "slice",data:=.fields #[vl,vu,.none] } }:=I3.kept (t':=s3.toks) λb ob q=>qd _ q;obtain⟨T,id,hT,ht,hg⟩:=hr pins { s3 with heap:=s3.heap.push { cls:=.type "slice",data:=.fields #[vl,vu,.none] } } σ H3 x v vl vu l u s3.heap.objs.size Q I4 r1 (Heap.IsSliceOf.new ..) pl pu q3;show wpAny (model X.prog X.w) X.A (subscriptTail e (.Slice lo hi none p2) v (.ref s3.heap.objs.size)) (EP X pins σ Q) X.xe { s3 with heap:=s3.heap.push { cls:=.type "slice",data:=.fields #[vl,vu,.none] } };exact tail_any (ops:=[.ref s3.heap.objs.size,v]) ht hT hg (by with_unfolding_all rfl)
def cutV(xs:AN)(lo hi:Option Int):AN:=(xs.drop (HT.sIx xs.length 0 lo)).take (HT.sIx xs.length xs.length hi-HT.sIx xs.length 0 lo)
theorem Ypk(xs:AN)(lo hi:Option Int):(cutV xs lo hi).length<=xs.length:=by
 unfold cutV;rw[List.length_take,List.length_drop];lia
end
def ixN(n:Nat)(i:Int):AM:=if 0<=i then (if i<n then some i.toNat else none)else if -(n:Int)<=i then some (i+n).toNat else none
def atI{α:Type}(xs:List α)(i:Int):Option α:=(ixN xs.length i).bind λj=>xs[j]?
theorem Ytq{n:Nat}{i:Int}{j:Nat}(h:ixN n i=some j):seqIndex? i n=some j/\j<n/\-(n:Int)<=i/\i<n:=by
 unfold ixN at h;by_cases h0:0<=i
 ·rw[if_pos h0]at h
  by_cases h1:i<n
  ·rw[if_pos h1]at h
   have e:i.toNat=j:=w9 h;exact⟨by rw[seqIndex_of h0 h1,e],by lia,by lia,h1⟩
  ·rw[if_neg h1]at h;cases h
 ·rw[if_neg h0]at h
  by_cases h1:-(n:Int)<=i
  ·rw[if_pos h1]at h
   have e:(i+n).toNat=j:=w9 h;exact⟨by rw[seqIndex_neg (by lia) h1,e],by lia,h1,by lia⟩
  ·rw[if_neg h1]at h;cases h
theorem Ypl{α:Type}{xs:List α}{i:Int}{v:α}(h:atI xs i=some v):∃j,seqIndex? i xs.length=some j/\xs[j]?=some v/\j<xs.length/\-(xs.length:Int)<=i/\i<xs.length:=by
 unfold atI at h
 cases e:ixN xs.length i with
 | none=>rw[e]at h;cases h
 | some j=>
   rw[e]at h;obtain⟨h1,h2,h3,h4⟩:=Ytq e;exact⟨j,h1,h,h2,h3,h4⟩
theorem Yly{α:Type}{xs:List α}{j:Nat}{v:α}(h:xs[j]?=some v):atI xs (j:Int)=some v:=by
 have hj:j<xs.length:=(qm h).1
 have e:ixN xs.length (j:Int)=some j:=by
  unfold ixN;rw[if_pos (by lia),if_pos (by lia)];simp
 unfold atI;rw[e];exact h
def Yis(b:Expr):Prop:=∀o i,subscripted b false o i=operate [o,i] (getItem o i)
def IxR(X:Cx)(r:R2):Prop:=
 ∀(value slice:Expr) (pins:AC) (s:Shared) (σ:St) (H:Hp) (x y:V) (v u:Value) (Q:VK),Inv X pins σ H s->RelV x v->RelV y u->r x y H Q->
  subscripted slice false v u=operate [v,u] (getItem v u)->wpAny (model X.prog X.w) X.A (subscriptTail value slice v u) (EP X pins σ Q) X.xe s
def MtR(X:Cx)(id:String)(r:V->AN->Hp->VK->Prop):Prop:=
 ∀(pins:AC) (s:Shared) (σ:St) (H:Hp) (x:V) (xs:AN) (v:Value) (us:AD) (Q:VK),Inv X pins σ H s->RelV x v->Vals xs us->r x xs H Q->
  wpAny (model X.prog X.w) X.A (call (.builtin id) (v::us)) (EP X pins σ Q) X.xe s
section
variable {X:Cx}{a b:Expr}{ta tb:TE}{pos:Pos}
theorem IxR.or{r r':R2}(h:IxR X r)(h':IxR X r'):IxR X (λx y H Q=>r x y H Q\/r' x y H Q):=by
 intro value slice pins s σ H x y v u Q I rx ry q hs;rcases q with q|q
 ·exact h value slice pins s σ H x y v u Q I rx ry q hs
 ·exact h' value slice pins s σ H x y v u Q I rx ry q hs
theorem y6u{r:R2}(hr:IxR X r)(ha:PE X a ta)(hb:PE X b tb)(hs:Yis b):PE X (.Subscript a b pos) (tOp r ta tb):=by
 intro pins s σ H Q I h;exact Subscript_ (binT ha hb I h λv u s2 x y H2 I2 rx ry q=>hr a b pins s2 σ H2 x y v u Q I2 rx ry q (hs _ _))
def rIxL(K:W.Frag):R2:=λx y H Q=>∃p xs i v,x=.ref p/\y=.int i/\SqL K H p xs/\atI xs i=some v/\Q v H
def rIxT(K:W.Frag):R2:=λx y H Q=>∃p xs i v,x=.ref p/\y=.int i/\SqT K H p xs/\atI xs i=some v/\Q v H
def rIxS:R2:=λx y H Q=>∃z i c,x=.str z/\y=.int i/\z.length<=sizeLine/\atI z.cps.toList i=some c/\Q (.str ⟨#[c]⟩) H
theorem ix_list:IxR X (rIxL X.K):=by
 intro value slice pins s σ H x y v u Q I rx ry h hs;obtain⟨p,xs,i,z,rfl,rfl,hq,he,q⟩:=h;cases rx;obtain⟨t,rfl⟩:=ry;obtain⟨its,r,pl,hz⟩:=I.list hq;obtain⟨j,h1,h2,h3,h4,h5⟩:=Ypl he;obtain⟨w,ew,rw'⟩:=r.get h2;have hl:=r.length;have hn:=Yk6
 have fin:EP X pins σ Q w s:=⟨z,H,I,rw',q⟩
 by_cases h0:0<=i
 ·have hj:i.toNat=j:=by
   rw[seqIndex_of h0 h5]at h1;exact w9 h1
  exact item_listR pl.isList h0 (by lia) (by rw[hj];simpa using ew) fin hs
 ·have hj:(i+(its.toArray.size:Int)).toNat=j:=by
   rw[seqIndex_neg (by lia) h4]at h1;rw[qj,<-hl];exact w9 h1
  exact subscriptTail_builtinR (x:=w) pl.isList.typeIs slot_list_getitem.lookup
   (wpAny_getItem_list_neg (Q:=λr s'=>r=w/\EP X pins σ Q r s') pl.isList (by lia) (by rw[qj]<;>lia) (by lia) (by rw[hj];simpa using ew) ⟨rfl,fin⟩) hs
theorem ix_tup:IxR X (rIxT X.K):=by
 intro value slice pins s σ H x y v u Q I rx ry h hs;obtain⟨p,xs,i,z,rfl,rfl,hq,he,q⟩:=h;cases rx;obtain⟨t,rfl⟩:=ry;obtain⟨its,r,pl,hz⟩:=I.tuple hq;obtain⟨j,h1,h2,h3,h4,h5⟩:=Ypl he;obtain⟨w,ew,rw'⟩:=r.get h2;have hl:=r.length;have hn:=Yk6
 have fin:EP X pins σ Q w s:=⟨z,H,I,rw',q⟩
 exact subscriptTail_builtinR (x:=w) pl.typeIs slot_tuple_getitem.lookup
  (getItem_tuple (j:=j) (Q:=λr s'=>r=w/\EP X pins σ Q r s') pl (by lia) (by lia) (by rw[qj,<-hl];exact h1) (by simpa using ew) ⟨rfl,fin⟩) hs
theorem y3q:IxR X rIxS:=by
 intro value slice pins s σ H x y v u Q I rx ry h hs;obtain⟨z,i,c,rfl,rfl,hz,he,q⟩:=h;obtain⟨t,rfl⟩:=rx;obtain⟨t',rfl⟩:=ry;obtain⟨j,h1,h2,h3,h4,h5⟩:=Ypl he
 have hl:z.cps.toList.length=z.length:=by simp[Str.length]
 rw[hl]at h1 h4 h5;have hn:=Yk6
 exact tail_any (typeIs_str s z t) slot_str_getitem.lookup (getItem_str (c:=c) (by
  have e1:decide (i < -(2^63:Int))=false:=wo (by lia);have e2:decide (i≥2^63)=false:=wo (by lia)
  rw[e1,e2,Bool.or_false]) (by rw[h1];simpa using h2) ⟨.str ⟨#[c]⟩,H,I.tok _,⟨_,rfl⟩,q⟩) hs
def rIx(K:W.Frag):R2:=λx y H Q=>rIxL K x y H Q\/rIxT K x y H Q\/rIxS x y H Q
theorem y3r:IxR X (rIx X.K):=ix_list.or (ix_tup.or y3q)
theorem Ysa(its:AD)(n j:Nat)(u:Value):Obj.mapSeq (·.setIfInBounds j u) { cls:=.type "list",data:=.seq its.toArray n }={ cls:=.type "list",data:=.seq (its.set j u).toArray n }:=by
 simp[Obj.mapSeq]
theorem Inv.lst{pins:AC}{σ:St}{H:Hp}{s:Shared}{p:Addr}{xs:AN}(I:Inv X pins σ H s)(h:H p=some (.lst xs)) :
 ∃(its:AD) (n:Nat),Vals xs its/\s.heap.get? p=some { cls:=.type "list",data:=.seq its.toArray n }/\xs.length<=sizeLine:=by
 obtain⟨z,its,n,r,e⟩:=I.hok p _ h;exact⟨its,n,r,e,z⟩
theorem Inv.lstUpd{pins:AC}{σ:St}{H:Hp}{s:Shared}{p:Addr}{xs ys:AN}{its its':AD}{n n':Nat}{f:Obj->Obj}(I:Inv X pins σ H s)(h:H p=some (.lst xs))
 (ho:s.heap.get? p=some { cls:=.type "list",data:=.seq its.toArray n }) (hf:f { cls:=.type "list",data:=.seq its.toArray n }={ cls:=.type "list",data:=.seq its'.toArray n' }) (r:Vals ys its') (hz:ys.length<=sizeLine) (t:Nat) :
 Inv X pins σ (upd H p (.lst ys)) { s with heap:=s.heap.update p f,toks:=t }:=by
 have e:(s.heap.update p f).get? p=some { cls:=.type "list",data:=.seq its'.toArray n' }:=by
  rw[wy f ho (by rw[hf]<;>rfl),hf]
 refine I.write (x:=p) (e:=p) (by rw[h];trivial) (.inl rfl) (λb u hb q=>(Heap.get?_update_other _ _ (Ne.symm hb)).trans q) ⟨_,e⟩ ?_;exact⟨hz,its',n',r,e⟩
def y6v:V->V->V->Hp->(Hp->Prop)->Prop:=λo i v H Q=>∃p xs k j,o=.ref p/\i=.int k/\H p=some (.lst xs)/\ixN xs.length k=some j/\Q (upd H p (.lst (xs.set j v)))
theorem Ywz:PSet X y6v:=by
 intro pins s σ H o i v ov iv u Q I ro ri rv h;obtain⟨p,xs,k,j,rfl,rfl,hp,hj,q⟩:=h;cases ro;obtain⟨t,rfl⟩:=ri;obtain⟨its,n,r,ho,hz⟩:=I.lst hp;obtain⟨h1,h2,h3,h4⟩:=Ytq hj;have hl:=r.length;have hn:=Yk6
 have I':Inv X pins σ (upd H p (.lst (xs.set j v))) { s with heap:=s.heap.update p (Obj.mapSeq (·.setIfInBounds j u)) }:=
  I.lstUpd hp ho (Ysa its n j u) (r.set rv j) (by rw[List.length_set];exact hz) s.toks
 by_cases h0:0<=k
 ·have hk:k.toNat=j:=by
   rw[seqIndex_of h0 h4]at h1;exact w9 h1
  exact W.ki_setAt ho h0 (by lia) (by rw[qj,<-hl];exact h4) (by rw[hk];exact⟨_,I',q⟩)
 ·have hk:(k+(its.toArray.size:Int)).toNat=j:=by
   rw[seqIndex_neg (by lia) h3]at h1;rw[qj,<-hl];exact w9 h1
  exact W.ki_setBack ho (by lia) (by rw[qj,<-hl];exact h3) (by lia) (by rw[hk];exact⟨_,I',q⟩)
theorem Ynw(lo hi:Option Int)(n:Nat):(sliceBounds lo hi none n).1=((HT.sIx n 0 lo:Nat):Int)/\(sliceBounds lo hi none n).2.1=((HT.sIx n n hi:Nat):Int)/\(sliceBounds lo hi none n).2.2=1:=by
 refine⟨?_,?_,rfl⟩
 ·cases lo with
  | none=>simp[sliceBounds,HT.sIx]
  | some i=>
    simp only[sliceBounds,HT.sIx,Option.getD_none,show(1:Int) > 0 by decide,if_true];by_cases h:i<0
    ·simp only[h,if_true]<;>lia
    ·simp only[h,if_false]<;>lia
 ·cases hi with
  | none=>simp[sliceBounds,HT.sIx]
  | some i=>
    simp only[sliceBounds,HT.sIx,Option.getD_none,show(1:Int) > 0 by decide,if_true];by_cases h:i<0
    ·simp only[h,if_true]<;>lia
    ·simp only[h,if_false]<;>lia
theorem Ylz(its:AD)(lo hi:Option Int):slicePick its.toArray lo hi none=((its.drop (HT.sIx its.length 0 lo)).take (HT.sIx its.length its.length hi-HT.sIx its.length 0 lo)).toArray:=by
 obtain⟨h1,h2,h3⟩:=Ynw lo hi its.toArray.size;unfold slicePick;rw[h1,h2,h3];simp only[sliceRange_one,pick_run,qj]<;>rfl
def rSlL(K:W.Frag):V->Option Int->Option Int->Hp->VK->Prop:=λx lo hi H Q=>∃a xs,x=.ref a/\SqL K H a xs/\∀p,H p=none->Q (.ref p) (upd H p (.lst (cutV xs lo hi)))
theorem y0m:SlR X (rSlL X.K):=by
 intro pins s σ H x v vl vu lo hi sl Q I rx hs pl pu h;obtain⟨a,xs,rfl,hx,q⟩:=h;cases rx;obtain⟨its,r,ht,hz⟩:=I.list hx;have hlen:=r.length;refine⟨"list",_,slot_list_getitem.lookup,ht.isList.typeIs,?_⟩;refine wpAny_getItem_list_slice ht.isList hs pl pu .none (by simp) ?_ (by rw[qj]<;>lia);rw[Ylz,<-hlen];refine⟨.ref (~~~s),_,I.laid (t':=s.toks) (o:=.lst (cutV xs lo hi)) (λb ob q=>qd _ q) (qt _) ?_,rfl,q _ (I.hok.fresh (qt _))⟩;exact⟨Nat.le_trans (Ypk xs lo hi) hz,_,0,(r.drop (HT.sIx xs.length 0 lo)).take (HT.sIx xs.length xs.length hi-HT.sIx xs.length 0 lo),qo _ rfl⟩
theorem Yz:Ydu X (.builtin "len") (λxs H Q=>∃p ys,xs=[.ref p]/\(SqL X.K H p ys\/SqT X.K H p ys)/\Q (.int ys.length) H):=by
 intro pins s σ H xs us Q I r h;obtain⟨p,ys,rfl,hq,q⟩:=h;obtain⟨u,rfl,rx⟩:=Yia r;cases rx;have hn:=Yk6;rcases hq with hq|hq
 ·obtain⟨its,r',pl,hz⟩:=I.list hq
  have hlen:=r'.length;exact Calls.call_len_list pl.isList (by simp only[qj]<;>lia) ⟨.int ys.length,H,I.tok _,⟨s.toks+1,by rw[qj,hlen]⟩,q⟩
 ·obtain⟨its,r',pl,hz⟩:=I.tuple hq
  have hlen:=r'.length;exact len_tuple pl (by simp only[qj]<;>lia) ⟨.int ys.length,H,I.tok _,⟨s.toks+1,by rw[qj,hlen]⟩,q⟩
theorem Yda:Ydu X (.type "list") (λxs H Q=>∃p ys,xs=[.ref p]/\(SqL X.K H p ys\/SqT X.K H p ys)/\∀l,H l=none->Q (.ref l) (upd H l (.lst ys))):=by
 intro pins s σ H xs us Q I r h;obtain⟨p,ys,rfl,hq,q⟩:=h;obtain⟨u,rfl,rx⟩:=Yia r;cases rx
 have fin:∀(its:AD),Vals ys its->ys.length<=sizeLine->∀(h':Heap) (c':Nat),(∀b o',s.heap.get? b=some o'->h'.get? b=some o')->
  h'.get? (~~~s)=some { cls:=.type "list",dict:=none,data:=.seq its.toArray c',slots:=#[] }->EP X pins σ Q (.ref (~~~s)) { s with heap:=h' }:=λits r' hz h' c' kp e=>
  ⟨.ref (~~~s),_,I.laid (t':=s.toks) kp (qt _) (show ObjOk X.prog X.w _ h' _ (.lst ys) from⟨hz,its,c',r',e⟩),rfl,q _ (I.hok.fresh (qt _))⟩
 rcases hq with hq|hq
 ·obtain⟨its,r',pl,hz⟩:=I.list hq
  have hlen:=r'.length;obtain⟨o,ho,hc,n,hd⟩:=pl.isList;exact call_list_seq p (.inl rfl) ho hc hd (λh' c' kp e=>fin its r' hz h' c' kp e) (by simp only[qj]<;>lia)
 ·obtain⟨its,r',pl,hz⟩:=I.tuple hq
  have hlen:=r'.length;obtain⟨o,ho,hc,n,hd⟩:=pl;exact call_list_seq p (.inr rfl) ho hc hd (λh' c' kp e=>fin its r' hz h' c' kp e) (by simp only[qj]<;>lia)
theorem Yau:Ydu X (.type "tuple") (λxs H Q=>∃p ys,xs=[.ref p]/\((SqL X.K H p ys/\∀l,H l=none->Q (.ref l) (upd H l (.tup ys)))\/(SqT X.K H p ys/\Q (.ref p) H))):=by
 intro pins s σ H xs us Q I r h;obtain⟨p,ys,rfl,h⟩:=h;obtain⟨u,rfl,rx⟩:=Yia r;cases rx;rcases h with⟨hq,q⟩|⟨hq,q⟩
 ·obtain⟨its,r',pl,hz⟩:=I.list hq
  have hlen:=r'.length;refine call_tuple_list pl.isList (λh' kp=>?_) (by simp only[qj]<;>lia);have I1:Inv X pins σ H { s with heap:=h' }:=I.kept (t':=s.toks) kp
  have I2:Inv X pins σ (upd H h'.objs.size (.tup ys)) { s with heap:=h'.push { cls:=.type "tuple",data:=.seq its.toArray } }:=
   I1.laid (t':=s.toks) (λb o e=>qd _ e) (qt _) (show ObjOk X.prog X.w _ _ _ (.tup ys) from⟨hz,its,r',IsTup.new _ _⟩)
  exact⟨.ref h'.objs.size,_,I2,rfl,q _ (I1.hok.fresh (qt _))⟩
 ·obtain⟨its,r',pl,hz⟩:=I.tuple hq
  exact call_tuple_same pl ⟨.ref p,H,I,rfl,q⟩
def tyV(K:W.Frag)(T:String)(x:V)(H:Hp):Prop:=match x with
 | .str _=>T="str"
 | .int _=>T="int"
 | .ref p=>(T="list"/\∃xs,SqL K H p xs)\/(T="tuple"/\∃o,K.lookup p=some o/\o.cls=.type "tuple"/\o.dict=none)\/
  (T="dict"/\((∃kvs,H p=some (.dK kvs))\/∃kvs,H p=some (.dT kvs)))\/(T="set"/\∃S n,H p=some (.set S n))
 | _=>False
theorem Yza{pins:AC}{σ:St}{H:Hp}{s:Shared}{T:String}{x:V}{v:Value}(I:Inv X pins σ H s)(r:RelV x v)(ty:tyV X.K T x H) :
 s.TypeIs v T/\∀a,v=.ref a->∃ob,s.heap.get? a=some ob/\ob.dict=none:=by
 cases x with
 | str z=>
   obtain⟨t,rfl⟩:=r;cases (show T="str" from ty);exact⟨typeIs_str s z t,λ_ e=>nomatch e⟩
 | int i=>
   obtain⟨t,rfl⟩:=r;cases (show T="int" from ty);exact⟨typeIs_int s i t,λ_ e=>nomatch e⟩
 | ref p=>
   cases r;rcases ty with⟨rfl,xs,hq⟩|⟨rfl,o,hk,hc,hd⟩|⟨rfl,hk⟩|⟨rfl,S,n,hk⟩
   ·obtain⟨its,_,pl,_⟩:=I.list hq
    refine⟨pl.isList.typeIs,λa e=>?_⟩;cases e;obtain⟨o,n,e,c,hd,_⟩:=pl;exact⟨o,e,hd⟩
   ·refine⟨⟨o,I.kIn p o hk,hc⟩,λa e=>?_⟩
    cases e;exact⟨o,I.kIn _ o hk,hd⟩
   ·have z:∃o,s.heap.get? p=some o/\o.ExactDict:=by
     rcases hk with⟨kvs,hk⟩|⟨kvs,hk⟩
     ·obtain⟨_,_,_,_,o,_,_,e,ex,_⟩:=I.hok p _ hk
      exact⟨o,e,ex⟩
     ·obtain⟨_,_,_,_,o,_,_,e,ex,_⟩:=I.hok p _ hk
      exact⟨o,e,ex⟩
    obtain⟨o,e,ex⟩:=z;refine⟨⟨o,e,ex.1⟩,λa e2=>?_⟩;cases e2;exact⟨o,e,ex.2.1⟩
   ·obtain⟨o,_,_,_,e,ex,_⟩:=I.hok p _ hk
    refine⟨⟨o,e,ex.1⟩,λa e2=>?_⟩;cases e2;exact⟨o,e,ex.2.1⟩
 | _=>exact False.elim ty
def tBM0(K:W.Frag)(T:String)(r:V->AN->Hp->VK->Prop)(to:TE):TE:=λσ H Q=>to σ H λx H1=>tyV K T x H1/\r x [] H1 Q
def tBM(K:W.Frag)(T:String)(r:V->AN->Hp->VK->Prop)(to:TE)(t:TA):TE:=λσ H Q=>to σ H λx H1=>tyV K T x H1/\t σ H1 λxs H2=>r x xs H2 Q
variable {o e:Expr}{es:AL}{to:TE}{t:TA}{name:Str}{apos cpos:Pos}{T id:String}{r:V->AN->Hp->VK->Prop}
theorem y3s(pa:PlainAttrs T)(slot:Slot T name id)(hty:typeOf (.builtin id)=pure (.type "method_descriptor"))(hm:MtR X id r)(ho:PE X o to)
 (hbase:attributeBase o name X.env (eval o X.env)=eval o X.env:=by rfl) (hline:(apos.endLine==cpos.line)=true:=by rfl):PE X (.Call (.Attribute o name apos) [] [] cpos) (tBM0 X.K T r to):=by
 intro pins s σ H Q I h;refine wpAny_Call_method0_late hbase hline (thn (ho pins s σ H _ I h) λv s1 hx_=>?_);obtain⟨x,H1,I1,r1,ty,q1⟩:=hx_;obtain⟨h1,h2⟩:=Yza I1 r1 ty;exact⟨T,id,pa,slot,hty,h1,h2,Calls.callWith_builtin rfl (PySem.evalArgs_none (hm pins s1 σ H1 x [] v [] Q I1 r1 .nil q1))⟩
theorem Yw0(pa:PlainAttrs T)(slot:Slot T name id)(hty:typeOf (.builtin id)=pure (.type "method_descriptor"))(hm:MtR X id r)(ho:PE X o to)(ha:PA X (e::es) t)
 (hbase:attributeBase o name X.env (eval o X.env)=eval o X.env:=by rfl)
 (hfew:((backTo cpos (starEach (e::es) X.env)).all (λx=>!x.1)&&(backToKw cpos (keywordEach [] X.env)).all (λx=>x.1.isSome)
  &&decide ((e::es).length+([]:List Keyword).length+(if ([]:List Keyword).isEmpty then 0 else 1)<30))=true:=by rfl)
 (hline:(apos.endLine==cpos.line)=true:=by rfl) (hs:starEach (e::es) X.env=(false,eval e X.env)::starEach es X.env:=by rfl) (hplain:(backTo cpos (starEach es X.env)).any (·.1)=false:=by rfl) :
 PE X (.Call (.Attribute o name apos) (e::es) [] cpos) (tBM X.K T r to t):=by
 intro pins s σ H Q I h;refine wpAny_Call_method_late hbase hfew hline rfl (thn (ho pins s σ H _ I h) λv s1 hx_=>?_);obtain⟨x,H1,I1,r1,ty,q1⟩:=hx_;obtain⟨h1,h2⟩:=Yza I1 r1 ty;refine⟨T,id,pa,slot,hty,h1,h2,?_⟩;have hA:=ha cpos pins s1 σ H1 _ I1 q1;rw[hs]at hA ⊢;refine Calls.callWith_builtin (by show(false||(backTo cpos (starEach es X.env)).any (·.1))=false;rw[hplain]<;>rfl) (Calls.evalArgs_plain ?_);refine thn hA λus s2 hx_=>?_;obtain⟨vs,H2,I2,r2,q2⟩:=hx_;exact hm pins s2 σ H2 x vs v us Q I2 r1 r2 q2
end
def MtM(X:Cx)(id:String)(r:V->AN->Hp->VK->Prop):Prop:=
 ∀(pins:AC) (s:Shared) (σ:St) (H:Hp) (x:V) (xs:AN) (v:Value) (us:AD) (Q:VK),Inv X pins σ H s->RelV x v->Vals xs us->r x xs H Q->
  wpAny (model X.prog X.w) X.A (call (.builtin id) (v::us)) (EP X pins σ Q) X.xe s
theorem Vals.one:∀{x:V}{us:AD},Vals [x] us->∃u,us=[u]/\RelV x u
 :=by
  intro x us h
  cases h with
  | cons r t=>
    cases t;exact⟨_,rfl,r⟩
theorem Vals.zero:∀{us:AD},Vals [] us->us=[]
 | _,.nil=>rfl
section
variable {X:Cx}{pins:AC}{σ:St}{H:Hp}{s:Shared}{l b:Addr}{xs ys zs:AN}
theorem Inv.lset{its its':AD}{n:Nat}{f:Array Value->Array Value}{t':Nat}(I:Inv X pins σ H s)(hH:H l=some (.lst xs))
 (e:s.heap.get? l=some { cls:=.type "list",data:=.seq its.toArray n }) (hf:f its.toArray=its'.toArray) (hv:Vals ys its') (hz:ys.length<=sizeLine) :
 Inv X pins σ (upd H l (.lst ys)) { s with heap:=s.heap.update l (Obj.mapSeq f),toks:=t' }:=by
 have q:=PySem.IsL.update e f;rw[hf]at q;refine I.write (x:=l) (e:=l) (by rw[hH];exact trivial) (.inl rfl) (λb' u hb hu=>(Heap.get?_update_other s.heap (Obj.mapSeq f) (Ne.symm hb)).trans hu) ⟨_,q⟩ ?_;exact⟨hz,its',_,hv,q⟩
theorem Inv.lnew{its:AD}{t':Nat}(I:Inv X pins σ H s)(hv:Vals ys its)(hz:ys.length<=sizeLine) :
 Inv X pins σ (upd H (~~~s) (.lst ys)) { s with heap:=s.heap.push { cls:=.type "list",data:=.seq its.toArray },toks:=t' }:=
 I.laid (λ_ _ q=>qd _ q) (qt _) ⟨hz,its,0,hv,qo _ rfl⟩
theorem Inv.fresh(I:Inv X pins σ H s):H (~~~s)=none:=I.hok.fresh (qt _)
theorem Inv.lstM(I:Inv X pins σ H s)(hH:H l=some (.lst xs)):xs.length<=sizeLine/\∃(its:AD) (n:Nat),Vals xs its/\xs.length=its.length/\s.heap.get? l=some { cls:=.type "list",data:=.seq its.toArray n }:=by
 obtain⟨z,its,n,r,e⟩:=I.hok l _ hH;exact⟨z,its,n,r,r.length,e⟩
theorem Yw1{n:Nat}(h:n<=sizeLine):Builtin.List.listTooLong n=false:=by
 unfold Builtin.List.listTooLong;exact wo (by lia)
def y0n:V->AN->Hp->VK->Prop:=λx vs H Q=>∃l xs y,x=.ref l/\vs=[y]/\H l=some (.lst xs)/\xs.length<sizeLine/\Q .non (upd H l (.lst (xs++[y])))
theorem Yit:MtM X "list.append" y0n:=by
 intro pins s σ H x vs v us Q I rx rv h;obtain⟨l,xs,y,rfl,rfl,hH,hz,q⟩:=h;cases rx;obtain⟨u,rfl,ru⟩:=rv.one;obtain⟨z,its,n,r,hl,e⟩:=I.lstM hH;refine call_meets F.slot_list_append ⟨_,e,rfl⟩ F.entry_list_append (F.args_list_append_2 _ _) (PySem.list_append l its.toArray n u (by rw[qj];lia)) ⟨e,?_⟩;refine⟨.non,_,I.lset (its':=its++[u]) hH e (by simp) (r.append (.cons ru .nil)) ?_,rfl,q⟩;rw[qx,jd];lia
def y3t:V->AN->Hp->VK->Prop:=λx vs H Q=>∃l xs,x=.ref l/\vs=[]/\H l=some (.lst xs)/\Q .non (upd H l (.lst []))
theorem Yw2:MtM X "list.clear" y3t:=by
 intro pins s σ H x vs v us Q I rx rv h;obtain⟨l,xs,rfl,rfl,hH,q⟩:=h;cases rx;have hus:=rv.zero;subst hus;obtain⟨z,its,n,r,hl,e⟩:=I.lstM hH;refine call_meets F.slot_list_clear ⟨_,e,rfl⟩ F.entry_list_clear (F.args_list_clear_1 _) (AutoSeq1.list_clear_list_0 l its.toArray n (by rw[qj];lia)) ⟨e,?_⟩;exact⟨.non,_,I.lset (its':=[]) (ys:=[]) hH e rfl .nil (Qc _),rfl,q⟩
end
end L2
namespace Att
open PySem PySem.W PySem.Calls PyProof.Rows
theorem Yiu{P:Params}{h:Heap}:∀(ns:AG) (vs:AD),WellAll P h vs (ns.map WData.int)->IntsAre vs ns:=by
 intro ns
 induction ns with
 | nil=>
   intro vs w;rw[List.map_nil]at w;cases w;exact .nil
 | cons n ns ih=>
   intro vs w;rw[q0]at w
   cases w with
   | cons a b=>
     cases a;exact .cons _ _ (ih _ b)
theorem Ytr{l:OpenLaw}{n:Nat}(hn:l.most=some n){P:Params}{h:Heap}{args:List WData}{vals:AD}
 (hpre:l.row.toRowW.claim.pre args=true) (hwl:WellAll P h vals args) :
 ∃a vs ns,vals=[Value.ref a]/\args=[WData.list (ns.map WData.int)]/\h.get? a=some { cls:=.type "list",data:=.seq vs.toArray }/\IntsAre vs ns/\ns.length<=n:=by
 have hsh:WShape.hasAll [] args [.list .int]=true:=(pre_splitW hpre).1;have hc:l.pre.holds [] { args:=args }=true:=(pre_splitW hpre).2;obtain⟨d,r,rfl,h1,h2⟩:=hasAllW_cons hsh;obtain rfl:=hasAllW_nil h2;obtain⟨xs,rfl,h3⟩:=hasW_list h1;obtain⟨ns,rfl⟩:=items_int h3
 have hlen:ns.length<=n:=by
  unfold OpenLaw.pre at hc
  have h4:(WTm.not (.lt (.lit (.int (n:Int))) (.len (.arg 0)))).holds [] { args:=[.list (ns.map .int)] }=true:=by
   have h4:=(holds_andW hc).1;rw[hn]at h4;exact h4
  have h5:=condW_of h4 (w_not (w_lt w_lit (w_len_list (w_arg rfl))));rw[qe]at h5;refine Nat.le_of_not_lt λq=>?_
  have q':(n:Int)<((ns.length:Nat):Int):=by lia
  first
   | (rw[wn q']at h5;exact absurd h5 (by decide))
   | (simp at h5;lia)
 cases hwl with
 | cons w1 w2=>
   cases w2
   cases w1 with
   | list ho hall=>exact⟨_,_,ns,rfl,rfl,ho,Yiu ns _ hall,hlen⟩
theorem Yts(l:OpenLaw)(args:List WData):l.row.toRowW.claim.post args (.bool true) args=true:=
 postW_of (r:=l.row.toRowW) (X:=(true==true))
  (show WShape.has [] (.bool true) .bool=true by first|rfl|decide|simp[WShape.has,WShape.arms,WShape.armsAll])
  (show(WTm.eq .res (.lit (.bool true))).value [] { args:=args,res:=some (.bool true),after:=args }=some (.bool (true==true)) from w_eq_bool (w_res rfl) w_lit) rfl
theorem attach_call{l:OpenLaw}{n:Nat}{q:Program}{loose:AK}{XP:(AE)->Heap->Prop}{YP:World->Heap->Prop}{d:DefRec}
 (hn:l.most=some n) (hdf:d.params.defaults=[])
 (call:∀(w:World) (s₀ s₁:Shared) (mg mb:AE) (fa:Addr) (o:Obj) (pm cd doc:Value) (a:Addr) (vs:AD) (ns:AG),
  Ground q loose [] XP w s₀ mg mb s₁.heap->YP w s₁.heap->
  s₁.heap.get? fa=some o->o.data=.func (docDef d.name d.params d.body d.scope pm cd doc)->s₁.heap.CodeRec cd d.name->mg d.name=some (.ref fa)->
  s₁.heap.get? a=some { cls:=.type "list",data:=.seq vs.toArray }->IntsAre vs ns->ns.length<=n->s₁.gens=#[]->
  codeAny (model l.prog w) callerA (.call (.ref fa) ⟨[.ref a],[]⟩) (λr s'=>r=.ok (.ret (.bool true))/\OldK s₁.heap s'.heap/\s'.os=s₁.os/\AllBare s'.gens) s₁) :
 WalkO q loose XP YP l.row.toRowW d [] (λf vs=>PySem.call f vs):=by
 intro w s₀ s₁ mg mb G Y fa o pm cd doc dV kV ho hd hcd hD hmg hg args vals as hpre hlay hrd hwl hlo;obtain rfl:dV=.none:=Dflts.none hD hdf;obtain rfl:kV=.none:=Dflts.noKw hD;obtain⟨a,vs,ns,rfl,rfl,hobj,hints,hlen⟩:=Ytr hn hpre hwl;refine enter_call (codeAny_mono (call w s₀ s₁ mg mb fa o pm cd doc a vs ns G Y ho (fd_plain hd) hcd hmg hobj hints hlen hg) λr s' hq=>?_);obtain⟨rfl,h2,h3,h4⟩:=hq;exact⟨.inl ⟨.bool true,.bool true,[],rfl,λ_=>rfl,.bool true,Yts l _,λ_=>⟨List.Pairwise.nil,λ_ hm=>(nomatch hm)⟩⟩,h2,h3,h4⟩
end Att
namespace L2
open PySem PySem.Spec PyProof.Rows
theorem Yiv:∀{vs:AD}{ns:AG},IntsAre vs ns->Vals (ns.map V.int) vs
 | _,_,.nil=>.nil
 | _,_,.cons n t h=>.cons ⟨t,rfl⟩ (Yiv h)
def Only(H:Hp):Prop:=∀b,H b=none\/∃o xs,H b=some (.frz o (.lst xs))
theorem Yw3{P:Program}{w:World}{K:W.Frag}{mg mb:AE}{CX:CXT}{k:Nat}{fa a:Addr}{fd:FuncData}{x:Str}{sp:Sp}{s₁:Shared}{vs:AD}{ns:AG}
 (KX:K.In s₁.heap) (hns:s₁.heap.Ns mainGlobals mg) (hb:s₁.heap.Ns builtinsNs mb) (hbb:∀x:Str,x≠"__name__"->mb x=bootBuiltins x) (hlim:s₁.heap.NoLimit) (hg:s₁.gens=#[])
 (ha:s₁.heap.get? a=some { cls:=.type "list",data:=.seq vs.toArray }) (hi:IntsAre vs ns) (hl:ns.length<=sizeLine) (hr:Room k callerA)
 (F:∀base:Heap,K.In base->base.Ns mainGlobals mg->FnOk P w K mg base CX k fa fd [x] sp) (hbind:∀(s:Shared) (u:Value),BindsTo s fd ⟨[u],[]⟩ [(x,u)])
 (hsp:∀H:Hp,Only H->SqL K H a (ns.map V.int)->sp [.ref a] H (λv _=>v=.bl true) λ_ _ _=>False)
 (hCX:∀H e s',CX [] H s₁ (λ_ _ _=>False) e s'->False) :
 codeAny (model P w) callerA (.call (.ref fa) ⟨[.ref a],[]⟩) (λr s'=>r=.ok (.ret (.bool true))/\OldK s₁.heap s'.heap/\s'.os=s₁.os/\AllBare s'.gens) s₁:=by
 have rv:=Yiv hi;have lenV:=hi.length
 have core:∀H:Hp,Only H->SqL K H a (ns.map V.int)->HOk P w H s₁.heap->(∀b,H b≠none->b=a)->(H a≠none->K.lookup a=none)->
  codeAny (model P w) callerA (.call (.ref fa) ⟨[.ref a],[]⟩) (λr s'=>r=.ok (.ret (.bool true))/\OldK s₁.heap s'.heap/\s'.os=s₁.os/\AllBare s'.gens) s₁:=by
  intro H hO hS hok hA hK;have base_of:∀{b:Addr}{o:Obj},s₁.heap.get? b=some o->H b=none->(hidT s₁.heap H).get? b=some o:=λe n=>Ywl e n
  have noA:∀{b:Addr}{o:Obj}{es:Array DictEntry}{ep:Nat},s₁.heap.get? b=some o->o.data=.dict es ep->H b=none:=λ{b o es ep} e d=>by
   cases q:H b with
   | none=>rfl
   | some u=>
     have e':b=a:=hA b (by rw[q];simp);subst e';rw[ha]at e;cases e;have d':Data.seq vs.toArray _=Data.dict es ep:=d;cases d'
  have nsK:∀{b:Addr}{m:AE},s₁.heap.Ns b m->(hidT s₁.heap H).Ns b m:=λ{b m} ⟨o,es,ep,e,d,r⟩=>⟨o,es,ep,base_of e (noA e d),d,r⟩
  have hKb:K.In (hidT s₁.heap H):=λb o e=>base_of (KX b o e) (by
   cases q:H b with
   | none=>rfl
   | some u=>
     have e':b=a:=hA b (by rw[q];simp);subst e'
     rw[hK (by rw[q];simp)]at e;cases e)
  have hM:Mod K mg (hidT s₁.heap H):=⟨hKb,nsK hns,⟨mb,nsK hb,hbb⟩,let ⟨mc,h1,h2⟩:=hlim;⟨mc,nsK h1,h2⟩⟩
  have e0:Env0 P w K mg (hidT s₁.heap H) callerA [] s₁ H:=⟨rfl,hM,λb o e=>Yz1 e,Nat.le_of_eq (Ys5 _ _),trivial,λb hb=>absurd (show b∈([]:List Addr) from hb) (by simp),hok,.of_eq hg⟩
  refine codeAny_mono ((F _ hKb (nsK hns)).run callerA [] s₁ H ⟨[.ref a],[]⟩ [.ref a] [.ref a] _ _ hr e0 (hbind s₁ (.ref a)) (.cons rfl .nil) (hsp H hO hS)) λr s' h=>?_
  cases r with
  | error e=>exact(hCX H e s' h).elim
  | ok fl=>
    cases fl with
    | next=>exact False.elim h
    | brk=>exact False.elim h
    | cont=>exact False.elim h
    | ret u=>
      obtain⟨v,H',os,bare,un,hok',r',q⟩:=h;have q':v=.bl true:=q;subst q';obtain rfl:u=Value.bool true:=r';refine⟨rfl,OldK.of_keep λb o e=>?_,os,bare⟩
      cases q:H b with
      | none=>exact un.keep b o e q (by intro z;exact absurd (show b∈([]:List Addr) from z) (by simp)) (by simp)
      | some u=>
        rcases hO b with z|⟨ob,xs,z⟩
        ·rw[q]at z;cases z
        ·have z2:=un.frzs b ob _ z
         obtain⟨e1,_⟩:=hok b _ z;obtain⟨e2,_⟩:=hok' b _ z2;rw[e]at e1;cases e1;exact e2
 cases hk:K.lookup a with
 | some o=>
   have e:=KX a o hk;rw[ha]at e;cases e;refine core (λ_=>none) (λ_=>.inl rfl) (.inr ⟨_,vs.toArray,_,hk,rfl,rfl,rfl,by rw[qj,lenV];exact hl,by simpa using rv⟩) (λb u z=>by have z':(none:Option HO)=some u:=z;cases z') (λb z=>absurd rfl z) λz=>absurd rfl z
 | none=>
   refine core (λb=>if b=a then some (.frz { cls:=.type "list",data:=.seq vs.toArray } (.lst (ns.map V.int)))else none) (λb=>?_) (.inl (.inr ⟨{ cls:=.type "list",data:=.seq vs.toArray },if_pos rfl⟩)) (λb u z=>?_) (λb z=>?_) λ_=>hk
   ·by_cases hb:b=a
    ·exact .inr ⟨_,_,if_pos hb⟩
    ·exact .inl (if_neg hb)
   ·by_cases hb:b=a
    ·have z':=(if_pos hb).symm.trans z
     cases z';subst hb;exact⟨ha,by rw[qe];exact hl,vs,_,rv,ha⟩
    ·have z':=(if_neg hb).symm.trans z
     cases z'
   ·by_cases hb:b=a
    ·exact hb
    ·exact absurd (if_neg hb) z
theorem walk_of{l:W.OpenLaw}{n k:Nat}{q:Program}{loose:AK}{XP:(AE)->Heap->Prop}{YP:World->Heap->Prop}{d:DefRec}{K:Params->W.Frag}{CX:World->CXT}{sp:World->Sp}{x:Str}
 (hn:l.most=some n) (hn2:n<=sizeLine) (hdf:d.params.defaults=[]) (hr:Room k callerA)
 (hY:∀(w:World) (h:Heap),YP w h->(K w.params).In h)
 (F:∀(w:World) (mg:AE) (fa:Addr) (h:Heap),(K w.params).In h->h.Ns mainGlobals mg->mg d.name=some (.ref fa)->
  ∃fd:FuncData,(∀(s:Shared) (u:Value),BindsTo s fd ⟨[u],[]⟩ [(x,u)])/\
   ∀base:Heap,(K w.params).In base->base.Ns mainGlobals mg->FnOk l.prog w (K w.params) mg base (CX w) k fa fd [x] (sp w))
 (hsp:∀(w:World) (H:Hp) (a:Addr) (ns:AG),ns.length<=n->Only H->SqL (K w.params) H a (ns.map V.int)->sp w [.ref a] H (λv _=>v=.bl true) λ_ _ _=>False)
 (hCX:∀(w:World) (H:Hp) (s:Shared) (e:Value) (s':Shared),CX w [] H s (λ_ _ _=>False) e s'->False) :
 W.WalkO q loose XP YP l.row.toRowW d [] (λf vs=>PySem.call f vs):=by
 refine Att.attach_call hn hdf λw s₀ s₁ mg mb fa o pm cd doc a vs ns G Y ho hd hcd hmg hobj hints hlen hg=>?_;have KX:=hY w _ Y;obtain⟨fd,hb,hF⟩:=F w mg fa _ KX G.T.g hmg;exact Yw3 KX G.T.g G.T.b G.T.builtins G.T.nolimit hg hobj hints (Nat.le_trans hlen hn2) hr hF hb (λH hO hS=>hsp w H a ns hlen hO hS) λH e s'=>hCX w H s₁ e s'
def inClass(s:Stmt)(j:Nat):Stmt:=match s with
 | .ClassDef _ _ _ body _ _ _ _ _ _ _=>body.getD j (.Pass ⟨0,0,0,0⟩)
 | _=>.Pass ⟨0,0,0,0⟩
def defArgs(s:Stmt):Arguments:=match s with
 | .FunctionDef _ a _ _ _ _ _ _ _ _=>a
 | _=>{ posonlyargs:=[],args:=[],vararg:=none,kwonlyargs:=[],kw_defaults:=[],kwarg:=none,defaults:=[] }
def defBody(s:Stmt):List Stmt:=match s with
 | .FunctionDef _ _ b _ _ _ _ _ _ _=>b
 | _=>[]
def defScope(s:Stmt):Scope:=match s with
 | .FunctionDef _ _ _ _ _ _ sc _ _ _=>sc
 | _=>{ kind:=.function,names:=[],isGenerator:=false,isCoroutine:=false }
abbrev CX0:CXT:=λ_ _ _ _ _ _=>False
abbrev E0:XK:=λ_ _ _=>False
theorem Ysb{X:Cx}:Yla CX0 X E0:=λ_ _ _ _ _ _ _ h=>h.elim
structure Fun(K:W.Frag)(x qual:Str)(st:Stmt)(f:Addr)(fd:FuncData):Prop where
 ex:∃(oc:Value) (od:Option Addr) (kV doc pm:Value) (an:Option Addr) (cdv ct:Value) (osl:Array (Option Value)),
  fd=W.fnOf x qual (defArgs st) (defBody st) (defScope st) .none kV doc pm an cdv ct/\K.lookup f=some ⟨oc,od,.func fd,osl⟩/\W.codeIn K cdv qual=true
 kp:W.keepIn K (.ref f)=true
section
variable {P:Program}{w:World}{K:W.Frag}{mg:AE}{base:Heap}
theorem Fun.ok{x qual:Str}{st:Stmt}{f:Addr}{fd:FuncData}{N ps:AK}{k:Nat}{sp:Sp}(F:Fun K x qual st f fd)(S:FnScope N ps (defScope st))(len:∀vs H Q E,sp vs H Q E->vs.length=ps.length)
 (hbody:∀(cdv:Value) (A:Around) (outer:List Env) (s:Shared) (H:Hp) (vs:AN) (Q:VK) (E:XK),Room k (A.deeper (envOfC qual (defScope st) (~~~s) f cdv))->sp vs H Q E->
  ∃t,PSs (cxOf CX0 P w K mg base N qual (defScope st) f cdv A outer s H E).nox (defBody st) t/\t { nx:=λ_ H'=>Q .non H',rt:=Q } (start N vs) H):FnOk P w K mg base CX0 (k+1) f fd ps sp:=by
 obtain⟨oc,od,kV,doc,pm,an,cdv,ct,osl,rfl,lk,hcd⟩:=F.ex;refine y3m lk hcd S len λA outer s H vs Q E hr hsp=>?_;obtain⟨t,h,q⟩:=hbody cdv A outer s H vs Q E hr hsp;exact⟨t,h.nox,q⟩
theorem Fun.binds{x qual:Str}{st:Stmt}{f:Addr}{fd:FuncData}{ps:AK}(F:Fun K x qual st f fd)
 (h:∀(kV doc pm:Value) (an:Option Addr) (cdv ct:Value) (us:AD),us.length=ps.length->bindArgs (W.fnOf x qual (defArgs st) (defBody st) (defScope st) .none kV doc pm an cdv ct) ⟨us,[]⟩=pure (ps.zip us)):Binds K fd ps []:=by
 obtain⟨oc,od,kV,doc,pm,an,cdv,ct,osl,rfl,lk,hcd⟩:=F.ex;exact .all (h kV doc pm an cdv ct)
theorem Ynx{x qual:Str}{st:Stmt}{f:Addr}{oc:Value}{od an:Option Addr}{osl:Array (Option Value)}{kV doc pm cdv ct:Value}(l:K.lookup f=some ⟨oc,od,.func (W.fnOf x qual (defArgs st) (defBody st) (defScope st) .none kV doc pm an cdv ct),osl⟩)
 (c:W.codeIn K cdv qual=true) (k:W.keepIn K (.ref f)=true):Fun K x qual st f (W.fnOf x qual (defArgs st) (defBody st) (defScope st) .none kV doc pm an cdv ct):=⟨⟨oc,od,kV,doc,pm,an,cdv,ct,osl,rfl,l,c⟩,k⟩
end
theorem iteF{A B:Prop}(h:B):if false=true then A else B:=by
 rw[if_neg qh];exact h
theorem iteT{A B:Prop}(h:A):if true=true then A else B:=by
 rw[if_pos rfl];exact h
def Same(H H':Hp):Prop:=∀b o,H b=some o->H' b=some o
theorem Same.refl(H:Hp):Same H H:=λ_ _ h=>h
theorem Same.trans{H H1 H2:Hp}(a:Same H H1)(b:Same H1 H2):Same H H2:=λc o h=>b c o (a c o h)
theorem Same.free{H H':Hp}(e:Same H H'){l:Addr}(h:H' l=Option.none):H l=Option.none:=by
 cases q:H l with
 | none=>rfl
 | some o=>
   rw[e l o q]at h;cases h
theorem Same.seq{K:W.Frag}{H H':Hp}{a:Addr}{xs:AN}(e:Same H H')(h:SqL K H a xs):SqL K H' a xs:=by
 rcases h with(h|⟨o,h⟩)|h
 ·exact .inl (.inl (e _ _ h))
 ·exact .inl (.inr ⟨o,e _ _ h⟩)
 ·exact .inr h
def clOf(env:Env):List (Str×NameKind)->List (Str×Addr)->List (Str×Addr)
 | [],cs=>cs
 | (n,k)::r,cs=>if (k==NameKind.free)=true then (match env.cells.lookup n with|some c=>clOf env r ((n,c)::cs)|none=>clOf env r cs)else clOf env r cs
theorem Yev{scope:Scope}{env:Env}(h:∀x∈scope.names,x.2=NameKind.free->∃c,env.cells.lookup x.1=some c):closureFor scope env=pure (clOf env scope.names []):=by
 have key:∀(l:List (Str×NameKind)) (cs:List (Str×Addr)),(∀x∈l,x.2=NameKind.free->∃c,env.cells.lookup x.1=some c)->
  (forIn l cs fun(x:Str×NameKind) (r:List (Str×Addr))=>if (x.2==NameKind.free)=true then (do let c <-cellOf env x.1;pure (ForInStep.yield ((x.1,c)::r)))else pure (ForInStep.yield r))=(pure (clOf env l cs):Sem (List (Str×Addr))):=by
  intro l
  induction l with
  | nil=>intro cs _;rfl
  | cons x l ih=>
    intro cs hl;obtain⟨n,k⟩:=x;have ht:=λy hy=>hl y (qf _ hy);rw[List.forIn_cons];by_cases hk:k=NameKind.free
    ·subst hk
     obtain⟨c,hc⟩:=hl (n,NameKind.free) qg rfl;have hc':env.cells.lookup n=some c:=hc
     have e1:cellOf env n=pure c:=by unfold cellOf;rw[hc']
     have hff:(NameKind.free==NameKind.free)=true:=rfl;show(if (NameKind.free==NameKind.free)=true then (do let c <-cellOf env n;pure (ForInStep.yield ((n,c)::cs)))else pure (ForInStep.yield cs))>>=_=_;rw[if_pos hff,e1,pure_bind,pure_bind];show forIn l ((n,c)::cs) _=_;rw[ih _ ht];show _=pure (if (NameKind.free==NameKind.free)=true then (match env.cells.lookup n with|some c=>clOf env l ((n,c)::cs)|none=>clOf env l cs)else clOf env l cs);rw[if_pos hff,hc']
    ·have hb:(k==NameKind.free)=false:=by simpa using hk
     show(if (k==NameKind.free)=true then _ else pure (ForInStep.yield cs))>>=_=_;rw[if_neg (by rw[hb];exact qh),pure_bind];show forIn l cs _=_;rw[ih _ ht];show _=pure (if (k==NameKind.free)=true then (match env.cells.lookup n with|some c=>clOf env l ((n,c)::cs)|none=>clOf env l cs)else clOf env l cs);rw[if_neg (by rw[hb];exact qh)]
 have:=key scope.names [] h;unfold closureFor;simpa using this
theorem Yih{env:Env}:∀(l:List (Str×NameKind)) (cs:List (Str×Addr)),(∀x c,(x,c)∈cs->env.cells.lookup x=some c)->∀x c,(x,c)∈clOf env l cs->env.cells.lookup x=some c
 | [],cs,h,x,c,e=>h x c e
 | (n,k)::r,cs,h,x,c,e=>by
   unfold clOf at e
   split at e
   ·split at e
    ·rename_i d hd
     refine Yih r _ (λy b hy=>?_) x c e;rcases qr hy with q|q
     ·cases q;exact hd
     ·exact h y b q
    ·exact Yih r cs h x c e
   ·exact Yih r cs h x c e
theorem Yfe{env:Env}:∀(l:List (Str×NameKind)) (cs:List (Str×Addr)) (p:Str×Addr),p∈cs->p∈clOf env l cs
 | [],_,_,h=>h
 | (n,k)::r,cs,p,h=>by
   unfold clOf
   split
   ·split
    ·exact Yfe r _ p (qf _ h)
    ·exact Yfe r _ p h
   ·exact Yfe r _ p h
theorem Ygl{env:Env}:∀(l:List (Str×NameKind)) (cs:List (Str×Addr)) (x:Str) (c:Addr),(x,NameKind.free)∈l->env.cells.lookup x=some c->(x,c)∈clOf env l cs
 | (n,k)::r,cs,x,c,h,hc=>by
   rcases qr h with q|q
   ·cases q
    unfold clOf;rw[if_pos (show(NameKind.free==NameKind.free)=true from rfl),hc];exact Yfe r _ _ qg
   ·unfold clOf
    split
    ·split
     ·exact Ygl r _ x c q hc
     ·exact Ygl r _ x c q hc
    ·exact Ygl r _ x c q hc
theorem Ygm{x:Str}{c:Addr}{cl:List (Str×Addr)}(h:(x,c)∈cl):∃d,cl.lookup x=some d:=by
 induction cl with
 | nil=>cases h
 | cons p r ih=>
   obtain⟨n,b⟩:=p;rw[Qg]
   cases e:(x==n)with
   | true=>exact⟨b,rfl⟩
   | false=>
     rcases qr h with q|q
     ·cases q;simp at e
     ·exact ih q
structure CompSc(XN:AK)(xsc:Scope)(N:AK)(src:List AM)(sc:Scope):Prop where
 kind:sc.kind=.function
 xkind:xsc.kind=.function
 cellU:∀y∈sc.names,y.2=NameKind.cell->sc.names.lookup y.1=some NameKind.cell
 names:∀y∈sc.names,y.2=NameKind.local->sc.names.lookup y.1=some NameKind.local
 len:src.length=N.length
 nd:N.Nodup
 cap:∀(i j:Nat) (x:Str),N[i]?=some x->src[i]?=some (some j)->XN[j]?=some x/\sc.names.lookup x=some NameKind.free
 fr:∀y∈sc.names,y.2=NameKind.free->xsc.names.lookup y.1=some NameKind.cell\/xsc.names.lookup y.1=some NameKind.free
def capB(XN:AK)(sc:Scope):AK->List AM->Bool
 | [],[]=>true
 | x::N,none::src=>capB XN sc N src
 | x::N,some j::src=>decide (XN[j]?=some x)&&decide (sc.names.lookup x=some NameKind.free)&&capB XN sc N src
 | _,_=>false
theorem Yl0{XN:AK}{sc:Scope}:∀{N:AK}{src:List AM},capB XN sc N src=true->src.length=N.length
 | [],[],_=>rfl
 | _::N,none::src,h=>by
   have:=Yl0 (N:=N) (src:=src) h;simp[this]
 | _::N,some j::src,h=>by
   replace h:(decide (XN[j]?=some _)&&decide (sc.names.lookup _=some NameKind.free)&&capB XN sc N src)=true:=h;simp only[Qf]at h;have:=Yl0 (N:=N) (src:=src) h.2;simp[this]
 | [],_::_,h=>Bool.noConfusion h
 | _::_,[],h=>Bool.noConfusion h
theorem Yl1{XN:AK}{sc:Scope}:∀{N:AK}{src:List AM},capB XN sc N src=true->∀(i j:Nat) (x:Str),N[i]?=some x->src[i]?=some (some j)->XN[j]?=some x/\sc.names.lookup x=some NameKind.free
 | [],[],_,i,j,x,h,_=>by simp at h
 | _::N,none::src,h,i,j,x,h1,h2=>by
   cases i with
   | zero=>simp at h2
   | succ i=>exact Yl1 (N:=N) (src:=src) h i j x (by simpa using h1) (by simpa using h2)
 | y::N,some k::src,h,i,j,x,h1,h2=>by
   replace h:(decide (XN[k]?=some y)&&decide (sc.names.lookup y=some NameKind.free)&&capB XN sc N src)=true:=h;simp only[Qf,wm]at h
   cases i with
   | zero=>
     simp at h1 h2;subst h1;subst h2;exact h.1
   | succ i=>exact Yl1 (N:=N) (src:=src) h.2 i j x (by simpa using h1) (by simpa using h2)
 | [],_::_,h,_,_,_,_,_=>Bool.noConfusion h
 | _::_,[],h,_,_,_,_,_=>Bool.noConfusion h
def y3u(XN:AK)(xsc:Scope)(N:AK)(src:List AM)(sc:Scope):Bool:=
 decide (sc.kind=.function)&&decide (xsc.kind=.function)&&sc.names.all (λy=>decide (y.2=NameKind.cell->sc.names.lookup y.1=some NameKind.cell))&&sc.names.all (λy=>decide (y.2=NameKind.local->sc.names.lookup y.1=some NameKind.local))&&
  decide N.Nodup&&capB XN sc N src&&sc.names.all (λy=>decide (y.2=NameKind.free->xsc.names.lookup y.1=some NameKind.cell\/xsc.names.lookup y.1=some NameKind.free))
theorem Yaz{XN:AK}{xsc:Scope}{N:AK}{src:List AM}{sc:Scope}(h:y3u XN xsc N src sc=true):CompSc XN xsc N src sc:=by
 unfold y3u at h;simp only[Qf,wm,List.all_eq_true]at h;obtain⟨⟨⟨⟨⟨⟨h1,h2⟩,h3⟩,h4⟩,h5⟩,h6⟩,h7⟩:=h;exact⟨h1,h2,h3,h4,Yl0 h6,h5,Yl1 h6,h7⟩
abbrev Yas(X:Cx)(scope:Scope)(N:AK)(cl:List (Str×Addr))(C:Addr)(fp:List Addr)(s:Shared)(H:Hp):Cx where
 prog:=X.prog
 w:=X.w
 K:=X.K
 mg:=X.mg
 base:=X.base
 A:=X.A
 N:=N
 s₀:=s
 H₀:=H
 env:=compEnvC scope cl C X.env
 outer:=X.stack
 stack:=X.stack
 ex:=fp
 fn:=λx=>scope.names.lookup x==some NameKind.cell
 calm:=X.calm
 pn:=[]
 xe:=λ_ _=>False
def capσ(src:List AM)(σ:St):St:=src.map λo=>o.bind λj=>(σ[j]?).join
def PIfs(X:Cx)(ifs:AL)(t:TT):Prop:=
 ∀(pins:AC) (s:Shared) (σ:St) (H:Hp) (Q:Bool->Hp->Prop),Inv X pins σ H s->t σ H Q->
  wpAny (model X.prog X.w) X.A (forIn ifs true λc r=>if r=true then do let ok <-isTrue c X.env (eval c X.env);pure (ForInStep.yield ok)else pure (ForInStep.yield r)) (TP X pins σ Q) X.xe s
def tYes:TT:=λ_ H Q=>Q true H
theorem y0o{X:Cx}:PIfs X [] tYes:=λ_ _ _ H _ I h=>wpAny_tests_nil ⟨H,I,h⟩
def tLC(wi:TI)(src:List AM)(g:TG)(ti:TT)(te:TE):TE:=λσ H Q=>wi σ H λJ H1=>∀p,H1 p=none->
 ∃W:Nat->Nat->St->Hp->Prop,(∃m,W 0 m (capσ src σ) (upd H1 p (.lst [])))/\∀i m σ1 H2,W i m σ1 H2->
  (J.stop i H2/\Q (.ref p) H2)\/
  (J.go i H2/\∀x H3,J.yld i H2 x H3->g x σ1 H3 λσ4 H4=>ti σ4 H4 λb H5=>if b=true then te σ4 H5 λv H6=>∃xs,H6 p=some (.lst xs)/\xs.length<sizeLine/\∃m',m'<m/\W (i+1) m' σ4 (upd H6 p (.lst (xs++[v])))else ∃m',m'<m/\W (i+1) m' σ4 H5)
section
variable {prog:Program}{w:World}{A:Around}{R:Result->Shared->Prop}{s:Shared}{X:Cx}{elt tg iter:Expr}{ifs:AL}{scope:Scope}{pos:Pos}{wi:TI}{g:TG}{ti:TT}{te:TE}{N:AK}{src:List AM}
theorem Yfo{elt target iter:Expr}{ifs:AL}{scope:Scope}{pos:Pos}{it acc:Value}{env:Env}(I:Nat->Shared->Prop)
 (turn:∀n s,I n s->wpAny (model prog w) A (pyNext it) (λr s₁=>match r with
  | none=>R (.ok .next) s₁
  | some v=>wpAny (model prog w) A (letOwnedTupleGo target it v) (λ_ s₁=>wpAny (model prog w) A (assign target env v) (λ_ s₂=>
   wpAny (model prog w) A (forIn ifs true λc r=>if r=true then do let ok <-isTrue c env (eval c env);pure (ForInStep.yield ok)else pure (ForInStep.yield r)) (λok s₃=>
    if ok=true then wpAny (model prog w) A (eval elt env) (λx s₄=>
     wpAny (model prog w) A (call (.builtin "list.append") [acc,x]) (λ_ s₅=>∃m,m<n/\I m s₅) (notedBy (model prog w) A env λe s'=>R (.error e) s') s₄) (notedBy (model prog w) A env λe s'=>R (.error e) s') s₃
    else ∃m,m<n/\I m s₃) (notedBy (model prog w) A env λe s'=>R (.error e) s') s₂) (notedBy (model prog w) A env λe s'=>R (.error e) s') s₁) (notedBy (model prog w) A env λe s'=>R (.error e) s') s₁) (notedBy (model prog w) A env λe s'=>R (.error e) s') s)
 (n:Nat) (h:I n s) :
 codeAny (model prog w) A (.compLoop (.ListComp elt [⟨target,iter,ifs,0⟩] scope pos) 0 it acc env) R s:=by
 refine codeAny_loop rfl I (λn s hI=>?_) n h;show wpAny _ A ((compTurn (.ListComp elt [⟨target,iter,ifs,0⟩] scope pos) 0 it acc env).onRaise (λx=>do noteFrame x env;theTreesLotGoes x)) _ _ s;refine wpAny_noted ?_;rw[compTurn_list];refine wa (wpAny_standAt (wa (w6 (turn n s hI) (λr s₁ h₁=>?_) λ_ _ h'=>h')))
 cases r with
 | none=>exact wc h₁
 | some v=>
   refine wa (w6 h₁ (λ_ s₁ h₁=>?_) λ_ _ h'=>h');refine wa (w6 h₁ (λ_ s₂ h₂=>wa (w6 h₂ (λok s₃ h₃=>?_) λ_ _ h'=>h')) λ_ _ h'=>h')
   cases ok with
   | false=>exact wc ⟨rfl,h₃⟩
   | true=>
     exact wa (wa (w6 h₃ (λx s₄ h₄=>wa (w6 h₄ (λ_ s₅ h₅=>wc (wc ⟨rfl,h₅⟩)) λ_ _ h'=>h')) λ_ _ h'=>h'))
theorem Yf2{scope:Scope}{env:Env}{x:Str}(h:scope.names.lookup x=some NameKind.free)(hk:env.kindOf x=some NameKind.cell\/env.kindOf x=some NameKind.free) :
 (relabel scope env).names.lookup x=some NameKind.cell\/(relabel scope env).names.lookup x=some NameKind.free:=by
 unfold relabel;show List.lookup x (scope.names.map _)=_\/List.lookup x (scope.names.map _)=_;generalize scope.names=l at h
 induction l with
 | nil=>cases h
 | cons p r ih=>
   obtain⟨n,k⟩:=p;rw[Qg]at h;rw[q0]
   cases e:(x==n)with
   | true=>
     rw[e]at h;cases h;by_cases hc:(NameKind.free==NameKind.free&&env.scope.kind==ScopeKind.function&&env.kindOf n==some NameKind.cell)=true
     ·left;simp only[hc,if_true];rw[Qg,e]
     ·right;simp only[hc];rw[if_neg qh,Qg,e]
   | false=>
     rw[e]at h;have q:=ih h;by_cases hc:(k==NameKind.free&&env.scope.kind==ScopeKind.function&&env.kindOf n==some NameKind.cell)=true
     ·simp only[hc,if_true];rw[Qg,e];exact q
     ·simp only[hc];rw[if_neg qh,Qg,e];exact q
theorem Yiw{scope:Scope}{env:Env}{x:Str}(h:(relabel scope env).names.lookup x=some NameKind.cell\/(relabel scope env).names.lookup x=some NameKind.free) :
 (x,NameKind.free)∈scope.names\/(x,NameKind.cell)∈scope.names:=by
 unfold relabel at h
 change List.lookup x (scope.names.map _)=_\/List.lookup x (scope.names.map _)=_ at h
 revert h
 generalize scope.names=l;intro h
 induction l with
 | nil=>rcases h with h|h<;>cases h
 | cons p r ih=>
   obtain⟨n,k⟩:=p;rw[q0]at h;have hr:=λz=>ih z
   cases e:(x==n)with
   | true=>
     have en:x=n:=by simpa using e
     subst en;by_cases hk:k=NameKind.free
     ·subst hk;exact .inl qg
     ·have hb:(k==NameKind.free)=false:=by simpa using hk
      simp only[hb,Bool.false_and,Bool.false_eq_true,if_false]at h;rw[Qg,e]at h;rcases h with h|h
      ·cases h;exact .inr qg
      ·cases h;exact absurd rfl hk
   | false=>
     refine(hr ?_).imp (qf _) (qf _);by_cases hk:(k==NameKind.free&&env.scope.kind==ScopeKind.function&&env.kindOf n==some NameKind.cell)=true
     ·simp only[hk,if_true]at h;rw[Qg,e]at h;exact h
     ·simp only[hk]at h;rw[if_neg qh,Qg,e]at h;exact h
theorem Ybs:∀(names:List (Str×NameKind)) (n:Nat) (acc:List (Str×Addr)),cellsFrom n names acc=cellsFrom n names []++acc
 | [],_,_=>rfl
 | (x,k)::r,n,acc=>by
   unfold cellsFrom
   split
   ·rw[Ybs r (n+1) ((x,n)::acc),Ybs r (n+1) [(x,n)],jc];rfl
   ·exact Ybs r n acc
theorem Yea:∀(names:List (Str×NameKind)) (n:Nat) (x:Str) (c:Addr),(x,c)∈cellsFrom n names []->(x,NameKind.cell)∈names
 | [],_,_,_,h=>(nomatch h)
 | (y,k)::r,n,x,c,h=>by
   unfold cellsFrom at h
   split at h
   ·rename_i hk
    rw[Ybs]at h;rcases qu h with h|h
    ·exact qf _ (Yea r _ x c h)
    ·rw[List.mem_singleton]at h
     cases h
     have:k=NameKind.cell:=by simpa using hk
     rw[this];exact qg
   ·exact qf _ (Yea r n x c h)
theorem Yhn{own cl:List (Str×Addr)}{x:Str}:(own++cl).lookup x=(own.lookup x).or (cl.lookup x):=by
 induction own with
 | nil=>rfl
 | cons p r ih=>
   obtain⟨y,b⟩:=p;rw[List.cons_append,Qg,Qg]
   cases (x==y)with
   | true=>rfl
   | false=>exact ih
theorem Ya2{own cl:List (Str×Addr)}{x:Str}{c:Addr}(h:(own++cl).lookup x=some c):own.lookup x=some c\/(own.lookup x=none/\cl.lookup x=some c):=by
 rw[Yhn]at h
 cases e:own.lookup x with
 | none=>rw[e]at h;exact .inr ⟨rfl,h⟩
 | some d=>rw[e]at h;exact .inl h
theorem Ypm{M:Model}{A:Around}{E:AB}{scope:Scope}{globals:Addr}{cl:List (Str×Addr)}{qual:Str}{outer:Env}{Q:Env->Shared->Prop}{s:Shared}{bt:Addr}
 (h:Q (newEnv scope (~~~s) globals (cellsFrom (~~~s+1) scope.names []++cl) qual none .none (some outer) bt) { s with heap:=pushCells (s.heap.push { cls:=.type "dict",data:=.dict #[] }) scope.names }) :
 wpAny M A (newFunctionEnv scope globals cl [] qual none .none (some outer) bt) Q E s:=by
 simp only[newFunctionEnv,Option.isSome_some,if_true];refine wa (wpAny_alloc ?_);refine wa (wpAny_layCells _ (λname kind cells=>by cases hkc:kind==NameKind.cell<;>simp[hkc]) _ _ _ _ ?_);rw[show({ s with heap:=s.heap.push { cls:=.type "dict",data:=.dict #[] } }:Shared).heap.objs.size= ~~~s+1 from wx ..,Ybs];rw[List.forIn_nil];exact wa (wc (wc h))
theorem Ysc{pins:AC}{σ:St}{H:Hp}{s:Shared}{fp:List Addr}{h₁:Heap}{tk:Nat}{own:List (Str×Addr)}(S:CompSc X.N X.env.scope N src scope)(I:Inv X pins σ H s)(hf:∀b∈fp,FpOk X pins H b)(ho:∀b∈fp,∃o,s.heap.get? b=some o)
 (hn:h₁.Ns (~~~s) λ_=>none) (hk:∀b o,s.heap.get? b=some o->h₁.get? b=some o) (hc:CellsOk h₁ (~~~s+1) own) (ow:∀x c,(x,c)∈own->(x,NameKind.cell)∈scope.names) (has:∀x,scope.names.lookup x=some NameKind.cell->∃c,own.lookup x=some c) :
 Inv (Yas X scope N (own++clOf X.env scope.names []) (~~~s) fp s H) [] (capσ src σ) H { s with heap:=h₁,toks:=tk }:=by
 have sub:∀x c,(clOf X.env scope.names []).lookup x=some c->X.env.cells.lookup x=some c:=λx c e=>Yih scope.names [] (λ_ _ z=>nomatch z) x c (PySem.mem_of_lookup e)
 have clt:∀x c,(clOf X.env scope.names []).lookup x=some c->c< ~~~s:=λx c e=>by
  obtain⟨v,q⟩:=I.cell x c (sub x c e);exact q.lt
 have owl:∀x c,own.lookup x=some c->(~~~s)<c:=λx c e=>(hc.empty x c (PySem.mem_of_lookup e)).2
 have nofree:∀x,scope.names.lookup x=some NameKind.free->own.lookup x=none:=λx hx=>by
  cases e:own.lookup x with
  | none=>rfl
  | some c=>
    have:=S.cellU _ (ow x c (PySem.mem_of_lookup e)) rfl;rw[hx]at this;cases this
 have fpl:∀b∈fp,b< ~~~s:=λb hb=>by
  obtain⟨o,e⟩:=ho b hb;exact qk e
 have nfs:∀b∈fp,b∉frs X.stack:=λb hb z=>by
  rcases qr (I.stkSub b z)with e|e
  ·exact(hf b hb).2.1 e
  ·exact(hf b hb).2.2.1 e
 refine⟨⟨I.ok.mod,S.kind,I.ok.glob,I.ok.blt,qt _,λx y c h1 h2=>?_,λx hx=>?_,λx c z e=>?_,I.ok.hd,I.ok.frames,.inl rfl,λb hb=>⟨ql (fpl b hb),λx c e=>?_⟩,
  I.bs,Nat.le_trans I.ok.bsz I.sz,λb o e hb=>?_,nfs,I.stack,I.stkFree⟩,rfl,I.bare,Un.kept hk,⟨_,hn,λi x v h1 h2 h3=>?_⟩,λx c e=>?_,I.fresh,λx c e=>?_,λp hp=>(nomatch hp),I.hok.kept hk,?_⟩
 ·rcases Ya2 h1 with h1|⟨_,h1⟩
  ·rcases Ya2 h2 with h2|⟨_,h2⟩
   ·exact name_of_addr hc.apart (PySem.mem_of_lookup h1) (PySem.mem_of_lookup h2)
   ·exact absurd (Nat.lt_trans (owl x c h1) (clt y c h2)) (Qd _)
  ·rcases Ya2 h2 with h2|⟨_,h2⟩
   ·exact absurd (Nat.lt_trans (owl y c h2) (clt x c h1)) (Qd _)
   ·exact I.ok.inj x y c (sub x c h1) (sub y c h2)
 ·show ∃c,(own++clOf X.env scope.names []).lookup x=some c
  rw[Yhn]
  cases e:own.lookup x with
  | some c=>exact⟨c,rfl⟩
  | none=>
    rcases Yiw hx with hm|hm
    ·obtain⟨c,hc⟩:=I.ok.has x (S.fr _ hm rfl)
     exact Ygm (Ygl scope.names [] x c hm hc)
    ·obtain⟨c,hc⟩:=has x (S.cellU _ hm rfl)
     rw[e]at hc;cases hc
 ·have z':scope.names.lookup x=some NameKind.cell:=by simpa using z
  obtain⟨d,hd⟩:=has x z';rcases Ya2 e with e|⟨e,_⟩
  ·exact Nat.le_of_lt (owl x c e)
  ·rw[hd]at e;cases e
 ·rcases Ya2 e with e|⟨_,e⟩
  ·exact Nat.ne_of_gt (Nat.lt_trans (fpl b hb) (owl x c e))
  ·exact(hf b hb).2.2.2.2.1 x c (sub x c e)
 ·rcases(hf b hb).2.2.2.1 with z|z
  ·exact I.ok.noex b o e z
  ·exact absurd (Qb (qk e) (Nat.le_trans I.ok.bsz z)) (Qd _)
 ·have hi:i<src.length:=by
   have:=(qm h2).1;unfold capσ at this;simpa using this
  have hs:src[i]?=some src[i]:=qp hi;unfold capσ at h2;rw[Qe,hs]at h2;have h2':(src[i].bind λj=>(σ[j]?).join)=some v:=w9 h2;cases q:src[i]with
  | none=>rw[q]at h2';cases h2'
  | some j=>
    rw[q]at h2' hs;have h2'':(σ[j]?).join=some v:=h2';obtain⟨hx,hfr⟩:=S.cap i j x h1 hs;obtain⟨m,_,hl⟩:=I.loc;have hk2:X.env.kindOf x=some NameKind.cell\/X.env.kindOf x=some NameKind.free:=S.fr (x,NameKind.free) (PySem.mem_of_lookup hfr) rfl
    have hσ:σ[j]?=some (some v):=by
     cases z:σ[j]? with
     | none=>rw[z]at h2'';cases h2''
     | some o=>
       rw[z]at h2'';have:o=some v:=h2'';rw[this]
    obtain⟨u,r,l⟩:=hl j x v hx hσ (.inr hk2);refine⟨u,r,.inr ⟨Yf2 hfr hk2,?_⟩⟩;rcases l with⟨z,_⟩|⟨_,c,hc,hcell⟩
    ·rcases hk2 with q2|q2
     ·rw[q2]at z;cases z
     ·rw[q2]at z;cases z
    ·obtain⟨d,hd⟩:=Ygm (Ygl (env:=X.env) scope.names [] x c (PySem.mem_of_lookup hfr) hc)
     have e2:=sub x d hd;rw[hc]at e2;cases e2;refine⟨c,?_,hcell.keeps hk⟩;show(own++clOf X.env scope.names []).lookup x=some c;rw[Yhn,nofree x hfr];exact hd
 ·rcases Ya2 e with e|⟨_,e⟩
  ·exact⟨_,(hc.empty x c (PySem.mem_of_lookup e)).1⟩
  ·obtain⟨v,q⟩:=I.cell x c (sub x c e)
   exact⟨v,q.keeps hk⟩
 ·rcases Ya2 e with e|⟨_,e⟩
  ·exact I.hok.fresh (Nat.le_of_lt (owl x c e))
  ·exact I.freeC x c (sub x c e)
 ·unfold capσ
  rw[qe];exact S.len
theorem Yw4{pins:AC}{σ σ1:St}{H H':Hp}{s s':Shared}{fp:List Addr}{cl:List (Str×Addr)}{C:Addr}{pn:AC}(I:Inv X pins σ H s)(hf:∀b∈fp,FpOk X pins H b)(J:Inv (Yas X scope N cl C fp s H) pn σ1 H' s'):Inv X pins σ H' s':=
 I.call' J.os J.base J.hok J.bare λb hb=>⟨(hf b hb).2.2.2.1,(hf b hb).2.1,(hf b hb).2.2.2.2.1,(hf b hb).2.2.2.2.2⟩
theorem Yny{pins:AC}{σ:St}{H:Hp}{s:Shared}{Q:VK}{it:Addr}{fp:List Addr}{tn:Nat->Heap->Prop}{J:It}{R:Value->Addr->Result->Shared->Prop}{E:AB}
 (S:CompSc X.N X.env.scope N src scope) (hc:X.calm=true) (hg:∀cl C fp s H,PG (Yas X scope N cl C fp s H) tg g) (hi:∀cl C fp s H,PIfs (Yas X scope N cl C fp s H) ifs ti) (he:∀cl C fp s H,PE (Yas X scope N cl C fp s H) elt te)
 (I:Inv X pins σ H s) (T:Turn X.prog X.w X.K tg J fp it tn) (st:tn 0 s.heap) (hf:∀b∈fp,FpOk X pins H b)
 (h:∀p,H p=none->∃W:Nat->Nat->St->Hp->Prop,(∃m,W 0 m (capσ src σ) (upd H p (.lst [])))/\∀i m σ1 H2,W i m σ1 H2->
  (J.stop i H2/\Q (.ref p) H2)\/
  (J.go i H2/\∀x H3,J.yld i H2 x H3->g x σ1 H3 λσ4 H4=>ti σ4 H4 λb H5=>if b=true then te σ4 H5 λv H6=>∃xs,H6 p=some (.lst xs)/\xs.length<sizeLine/\∃m',m'<m/\W (i+1) m' σ4 (upd H6 p (.lst (xs++[v])))else ∃m',m'<m/\W (i+1) m' σ4 H5))
 (hR:∀(D C:Addr) (s':Shared) (H':Hp) (m:AE),Inv X pins σ H' s'->s'.heap.Ns C m->H' C=none->C≠X.env.locals->X.s₀.heap.objs.size<=C->(∀x c,X.env.cells.lookup x=some c->c≠C)->(∀p∈X.pn++pins,p.1≠C)->Q (.ref D) H'->R (.ref D) C (.ok .next) s') :
 wpAny (model X.prog X.w) X.A (newList []) (λacc s₃=>wpAny (model X.prog X.w) X.A (newFunctionEnv scope X.env.globals (clOf X.env scope.names []) [] X.env.qual none .none (some X.env)) (λcenv s₄=>
  codeAny (model X.prog X.w) X.A (.compStart (.ListComp elt [⟨tg,iter,ifs,0⟩] scope pos) 0 (.ref it) acc { cenv with scope:=relabel scope X.env }) (R acc cenv.locals) s₄) E s₃) E s:=by
 refine wg (Ypm ?_);have hfree:H (~~~s)=none:=I.fresh;obtain⟨W,⟨m0,w0⟩,turn⟩:=h (~~~s) hfree;have I3:Inv X pins σ (upd H (~~~s) (.lst [])) { s with heap:=s.heap.push { cls:=.type "list",dict:=none,data:=.seq ([]:AD).toArray },toks:=s.toks }:=I.lnew (ys:=[]) (its:=[]) .nil (Qc _);generalize hD:(~~~s)=Dd at *;generalize hH3:upd H Dd (.lst [])=H3 at *;have kp0:∀b o,s.heap.get? b=some o->(s.heap.push { cls:=.type "list",dict:=none,data:=.seq ([]:AD).toArray }).get? b=some o:=λb o e=>qd _ e
 have lt0:∀b o,s.heap.get? b=some o->b≠Dd:=λb o e=>by rw[<-hD];exact ql (qk e)
 generalize hs3:s.heap.push { cls:=.type "list",dict:=none,data:=.seq ([]:AD).toArray }=hp3 at *
 have f3:∀b∈fp,FpOk X pins H3 b:=λb hb=>by
  obtain⟨o,e,_⟩:=T.obj _ _ st b hb;refine⟨?_,(hf b hb).2⟩;rw[<-hH3,Yo (lt0 b o e)];exact(hf b hb).1
 have ob3:∀b∈fp,∃o,hp3.get? b=some o:=λb hb=>by
  obtain⟨o,e,_⟩:=T.obj _ _ st b hb;exact⟨o,kp0 b o e⟩
 dsimp only;have hns₁:(pushCells (hp3.push { cls:=.type "dict",data:=.dict #[] }) scope.names).Ns hp3.objs.size (λ_=>none):=(Heap.Ns.new hp3 (.type "dict")).keeps (pushCells_keeps _ _);have old:∀b o,hp3.get? b=some o->(pushCells (hp3.push { cls:=.type "dict",data:=.dict #[] }) scope.names).get? b=some o:=λb o e=>pushCells_keeps _ _ b o (qd _ e);have cok:=cellsFrom_ok scope.names (hp3.push { cls:=.type "dict",data:=.dict #[] }) (hp3.objs.size+1) [] ⟨λ_ _ hm=>(nomatch hm),List.Pairwise.nil⟩ (by rw[wx];exact qt _);rw[wx]at cok;have chas:∀x,scope.names.lookup x=some NameKind.cell->∃c,(cellsFrom (hp3.objs.size+1) scope.names []).lookup x=some c:=λx hx=>Option.isSome_iff_exists.mp (PySem.W.cellsFrom_some _ _ _ (.inl hx));have cmem:∀x c,(x,c)∈cellsFrom (hp3.objs.size+1) scope.names []->(x,NameKind.cell)∈scope.names:=λx c h=>Yea _ _ x c h;generalize cellsFrom (hp3.objs.size+1) scope.names []=own,pushCells (hp3.push { cls:=.type "dict",data:=.dict #[] }) scope.names=h₁ at *
 have I4:Inv (Yas X scope N (own++clOf X.env scope.names []) hp3.objs.size fp { s with heap:=hp3,toks:=s.toks } H3) [] (capσ src σ) H3 { s with heap:=h₁,toks:=s.toks }:=
  Ysc (s:={ s with heap:=hp3,toks:=s.toks }) (tk:=s.toks) S I3 f3 ob3 hns₁ old cok cmem chas
 have st4:tn 0 h₁:=T.keep _ _ _ st λb _ o e=>old b o (kp0 b o e);have hCl:hp3.objs.size≠X.env.locals:=Nat.ne_of_gt I3.lt
 have hCc:∀x c,X.env.cells.lookup x=some c->c≠hp3.objs.size:=λx c e=>by
  obtain⟨v,q⟩:=I3.cell x c e;exact ql q.lt
 have hCp:∀p∈X.pn++pins,p.1≠hp3.objs.size:=λp hp=>ql (qk (I3.pin p hp).1)
 have stat:∀{H':Hp},(∀b∈fp,H' b=none)->∀b∈fp,FpOk (Yas X scope N (own++clOf X.env scope.names []) hp3.objs.size fp { s with heap:=hp3,toks:=s.toks } H3) [] H' b:=λ{H'} hn b hb=>by
  obtain⟨e1,e2⟩:=I4.ok.exf b hb;exact⟨hn b hb,e1,I4.ok.exfs b hb,.inl hb,e2,λp hp=>nomatch hp⟩
 have loop:codeAny (model X.prog X.w) X.A (.compLoop (.ListComp elt [⟨tg,iter,ifs,0⟩] scope pos) 0 (.ref it) (.ref Dd) (compEnvC scope (own++clOf X.env scope.names []) hp3.objs.size X.env)) (R (.ref Dd) hp3.objs.size) { s with heap:=h₁,toks:=s.toks }:=by
  refine Yfo (λn s'=>∃i σ' H',Inv (Yas X scope N (own++clOf X.env scope.names []) hp3.objs.size fp { s with heap:=hp3,toks:=s.toks } H3) [] σ' H' s'/\tn i s'.heap/\(∀b∈fp,H' b=none)/\W i n σ' H') ?_ m0 ⟨0,_,H3,I4,st4,λb hb=>(f3 b hb).1,w0⟩;rintro n s3 ⟨i,σ3,H3',I3',st3,fr3,w3⟩;rcases turn i n σ3 H3' w3 with⟨stop,qn⟩|⟨go,step⟩
  ·refine thn (T.done (Yas X scope N (own++clOf X.env scope.names []) hp3.objs.size fp { s with heap:=hp3,toks:=s.toks } H3) rfl rfl rfl hc i [] s3 σ3 H3' _ I3' (stat fr3) st3 stop) λr s4 hx_=>?_
   obtain⟨hr,I5⟩:=hx_;subst hr;obtain⟨m,hm,_⟩:=I5.loc;exact hR Dd hp3.objs.size s4 H3' m (Yw4 I3 f3 I5) hm I5.free hCl (Nat.le_trans I3.sz (qt _)) hCc hCp qn
  ·refine thn (T.item (Yas X scope N (own++clOf X.env scope.names []) hp3.objs.size fp { s with heap:=hp3,toks:=s.toks } H3) rfl rfl rfl hc i [] s3 σ3 H3' _ I3' (stat fr3) st3 go) λr s4 hx_=>?_
   obtain⟨u,hr,h4⟩:=hx_;subst hr;refine thn h4 λ_ s5 hx_=>?_;obtain⟨x,H5,I5,r5,y5,st5,fr5⟩:=hx_;have I5':=I5.pinned (stat fr5) (T.obj _ _ st5);have un:∀{α:Type}{t:Sem α}{Q':α->Shared->Prop}{E':AB}{s':Shared},wpAny (model X.prog X.w) X.A t Q' (λ_ _=>False) s'->wpAny (model X.prog X.w) X.A t Q' E' s':=λh=>w6 h (λ_ _ q=>q) λ_ _ f=>f.elim;refine un (thn (hg _ _ _ _ _ _ s5 σ3 H5 x u _ I5' r5 (step x H5 y5)) λ_ s6 hx_=>?_);obtain⟨σ6,H6,I6,q6⟩:=hx_;refine un (thn (hi _ _ _ _ _ _ s6 σ6 H6 _ I6 q6) λok s7 hx_=>?_);obtain⟨H7,I7,q7⟩:=hx_
   have again:∀{H8:Hp}{s8:Shared}{m':Nat},m'<n->Inv (Yas X scope N (own++clOf X.env scope.names []) hp3.objs.size fp { s with heap:=hp3,toks:=s.toks } H3) ([]++Yno fp s5.heap) σ6 H8 s8->W (i+1) m' σ6 H8->
    ∃m,m<n/\∃i σ' H',Inv (Yas X scope N (own++clOf X.env scope.names []) hp3.objs.size fp { s with heap:=hp3,toks:=s.toks } H3) [] σ' H' s8/\tn i s8.heap/\(∀b∈fp,H' b=none)/\W i m σ' H':=λ{H8 s8 m'} hm I8 w8=>by
    refine⟨m',hm,i+1,σ6,H8,I8.unpinned,T.keep _ _ _ st5 λb hb o e=>(I8.pin (b,o) (Qi _ (Qi _ (Yfd hb e)))).1,λb hb=>?_,w8⟩;obtain⟨o,e,d⟩:=T.obj _ _ st5 b hb;exact(I8.pin (b,o) (Qi _ (Qi _ (Yfd hb e)))).2.1
   cases ok with
   | false=>
     rw[if_neg qh]at q7 ⊢;obtain⟨m',hm,w7⟩:=q7;exact again hm I7 w7
   | true=>
     rw[if_pos rfl]at q7 ⊢;refine un (thn (he _ _ _ _ _ _ s7 σ6 H7 _ I7 q7) λy s8 hx_=>?_);obtain⟨v,H8,I8,r8,q8⟩:=hx_;obtain⟨xs,e8,z8,m',hm,w8⟩:=q8;refine un (thn (Yit _ s8 σ6 H8 (.ref Dd) [v] (.ref Dd) [y] (λ_ H9=>H9=upd H8 Dd (.lst (xs++[v]))) I8 rfl (.cons r8 .nil) ⟨Dd,xs,v,rfl,rfl,e8,z8,rfl⟩) λ_ s9 hx_=>?_);obtain⟨_,H9,I9,_,q9⟩:=hx_;subst q9;exact again hm I9 w8
 exact codeAny_compStart_list loop (T.self _ _ _ _ _ st4 loop)
theorem y0q(S:CompSc X.N X.env.scope N src scope)(hc:X.calm=true)(hit:PI X tg iter wi)(hg:∀cl C fp s H,PG (Yas X scope N cl C fp s H) tg g)(hi:∀cl C fp s H,PIfs (Yas X scope N cl C fp s H) ifs ti)(he:∀cl C fp s H,PE (Yas X scope N cl C fp s H) elt te)
 (hs:∀x,foldedSetIterable iter X.env x=pure x:=by intro _;rfl):PE X (.ListComp elt [⟨tg,iter,ifs,0⟩] scope pos) (tLC wi src g ti te):=by
 intro pins s σ H Q I h;rw[eval_ListComp];have hcl:closureFor scope X.env=pure (clOf X.env scope.names []):=Yev λy hy hf=>I.ok.has y.1 (S.fr y hy hf);refine wpAny_comprehension_free (use:=none) rfl hs hcl S.kind S.names ?_;refine thn (hit pins s σ H _ I h) λv s1 h1=>thn h1 λitv s2 hx_=>?_;obtain⟨it,fp,tn,J,H2,e,I2,T,st2,f2,q⟩:=hx_;subst e;refine Yny (Q:=Q) (R:=λacc C=>compPost (model X.prog X.w) X.A X.xe none (EP X pins σ Q) acc C) S hc hg hi he I2 T st2 f2 q λD C s' H' m I' hm hC hCl hCs hCc hCp hq=>?_;refine⟨m,hm,λh' sb=>?_⟩;exact⟨.ref D,H',I'.turned (t':=s'.toks) (λb o hb e=>(sb.2 b hb).trans e) hC hCl (.inr hCs) hCc hCp,rfl,hq⟩
theorem y0r{i:Nat}{y:Str}{py spos:Pos}(S:CompSc X.N X.env.scope N src scope)(hc:X.calm=true)(hit:PI X tg iter wi)(hg:∀cl C fp s H,PG (Yas X scope N cl C fp s H) tg g)(hi:∀cl C fp s H,PIfs (Yas X scope N cl C fp s H) ifs ti)(he:∀cl C fp s H,PE (Yas X scope N cl C fp s H) elt te)
 (hN:X.N.Nodup) (hy:X.N[i]?=some y) (hx:Loc X.env.scope y) (hsw:swapsWith (.ListComp elt [⟨tg,iter,ifs,0⟩] scope pos) (some (.Name y py)) spos.line X.env=pure true)
 (hf:X.fn y=true\/X.env.scope.names.lookup y=some .local:=by trivial)
 (hs:∀x,foldedSetIterable iter X.env x=pure x:=by intro _;rfl):PS X (.Assign [.Name y py] (.ListComp elt [⟨tg,iter,ifs,0⟩] scope pos) spos) (tAsg (tLC wi src g ti te) (Yr4 i)):=by
 intro pins s σ H D I h;rw[exec_Assign_Name_used _ _ _ _ hsw];refine wa (wpAny_standAt (wa ?_));show wpAny _ X.A (do let _ <-comprehension (.ListComp elt [⟨tg,iter,ifs,0⟩] scope pos) scope X.env _ (newList []) false (eval iter X.env) (some (assign (.Name y py) X.env))) _ _ s;have hcl:closureFor scope X.env=pure (clOf X.env scope.names []):=Yev λy hy hf=>I.ok.has y.1 (S.fr y hy hf);refine wa (w6 (wpAny_comprehension_free (use:=some (assign (.Name y py) X.env)) (Q:=λ_ s'=>SP X pins D .next s') rfl hs hcl S.kind S.names ?_) (λ_ s' hq=>wc (wc hq)) λ_ _ e=>e);refine thn (hit pins s σ H _ I h) λv s1 h1=>thn h1 λitv s2 hx_=>?_;obtain⟨it,fp,tn,J,H2,e,I2,T,st2,f2,q⟩:=hx_;subst e;refine Yny (Q:=λx H1=>Yr4 i x σ H1 D.nx) (R:=λacc C=>compPost (model X.prog X.w) X.A X.xe (some (assign (.Name y py) X.env)) (λ_ s'=>SP X pins D .next s') acc C) S hc hg hi he I2 T st2 f2 q λDd C s' H' m I' hm hC hCl hCs hCc hCp hq=>?_;show wpAny _ X.A (assign (.Name y py) X.env (.ref Dd)) _ _ s';refine wpAny_assign_Name (Ynn I' hN hy hx (v:=.ref Dd) rfl (λs'' I'' hsb=>?_) hf);obtain⟨a,sb,ha⟩:=hsb
 have hCa:C≠a:=by
  rcases ha with e|e
  ·rw[e];exact hCl
  ·exact Ne.symm (hCc y a e)
 refine⟨m,hm.sameBut sb hCa,λh' sb'=>?_⟩;exact⟨_,H',I''.turned (t':=s''.toks) (λb o hb e=>(sb'.2 b hb).trans e) hC hCl (.inr hCs) hCc hCp,hq⟩
end
end L2
namespace M
open PySem PySem.Spec PyProof.Rows L2
section
section
def Rise(xs:Array Nat):Prop:=xs.toList.Pairwise (·<·)
theorem Yl2{xs:Array Nat}(hr:Rise xs)(j:Nat):∀(fuel lo hi:Nat),lo<=hi->hi<=xs.size->hi-lo<=fuel->
 (∀(i:Nat) (h:i<xs.size),i<lo->xs[i]<j)->(∀(i:Nat) (h:i<xs.size),hi<=i->j<=xs[i])->
 SetTable.below.go xs j fuel lo hi<=xs.size/\(∀(i:Nat) (h:i<xs.size),i<SetTable.below.go xs j fuel lo hi->xs[i]<j)/\(∀(i:Nat) (h:i<xs.size),SetTable.below.go xs j fuel lo hi<=i->j<=xs[i])
 | 0,lo,hi,h1,h2,h3,h4,h5=>by
   have e:lo=hi:=by lia
   subst e;rw[SetTable.below.go];exact⟨h2,h4,h5⟩
 | fuel+1,lo,hi,h1,h2,h3,h4,h5=>by
   have mono:∀(i k:Nat) (hi:i<xs.size) (hk:k<xs.size),i<k->xs[i]<xs[k]:=λi k hi hk h=>by
    have:=List.pairwise_iff_getElem.mp hr i k (by simpa using hi) (by simpa using hk) h;simpa using this
   rw[SetTable.below.go];by_cases hl:lo<hi
   ·rw[if_pos hl]
    have hm:(lo+hi)/2<xs.size:=by lia
    have hg:xs.getD ((lo+hi)/2) j=xs[(lo+hi)/2]:=by simp[Array.getD,hm]
    dsimp only;rw[hg];by_cases hlt:xs[(lo+hi)/2]<j
    ·rw[if_pos hlt]
     refine Yl2 hr j fuel _ _ (by lia) h2 (by lia) (λi hi' hh=>?_) h5;by_cases e:i=(lo+hi)/2
     ·subst e;exact hlt
     ·exact Nat.lt_trans (mono i _ hi' hm (by lia)) hlt
    ·rw[if_neg hlt]
     refine Yl2 hr j fuel _ _ (by lia) (by lia) (by lia) h4 (λi hi' hh=>?_);by_cases e:i=(lo+hi)/2
     ·subst e;lia
     ·have:=mono _ i hm hi' (by lia)
      lia
   ·rw[if_neg hl]
    have e:lo=hi:=by lia
    subst e;exact⟨h2,h4,h5⟩
theorem Yld{xs:Array Nat}(hr:Rise xs)(j:Nat):SetTable.below xs j<=xs.size/\(∀a∈xs.toList.take (SetTable.below xs j),a<j)/\(∀a∈xs.toList.drop (SetTable.below xs j),j<=a):=by
 obtain⟨h1,h2,h3⟩:=Yl2 hr j xs.size 0 xs.size (Qc _) (qt _) (by lia) (λi _ h=>absurd h (Nat.not_lt_zero _)) (λi h h'=>absurd h (by lia));have e:SetTable.below xs j=SetTable.below.go xs j xs.size 0 xs.size:=rfl;rw[e];refine⟨h1,λa ha=>?_,λa ha=>?_⟩
 ·obtain⟨i,hi,rfl⟩:=List.mem_iff_getElem.mp ha
  rw[List.length_take]at hi
  have hs0:xs.toList.length=xs.size:=by simp
  have hi':i<xs.size:=by lia
  rw[List.getElem_take,Array.getElem_toList];exact h2 i hi' (by lia)
 ·obtain⟨i,hi,rfl⟩:=List.mem_iff_getElem.mp ha
  rw[List.length_drop]at hi
  have hs:xs.toList.length=xs.size:=by simp
  rw[List.getElem_drop,Array.getElem_toList];exact h3 _ (by lia) (by lia)
theorem Yav{α:Type}(xs:Array α)(p:Nat)(x:α):(SetTable.insertAt xs p x).toList=xs.toList.take p++x::xs.toList.drop p:=by
 unfold SetTable.insertAt;simp[Array.toList_extract,List.extract_eq_drop_take];exact List.take_of_length_le (by simp)
theorem Yix{xs:Array Nat}(hr:Rise xs)(j:Nat)(hn:xs[SetTable.below xs j]?≠some j):Rise (SetTable.insertAt xs (SetTable.below xs j) j):=by
 obtain⟨h1,h2,h3⟩:=Yld hr j;unfold Rise at hr ⊢;rw[Yav];generalize hp:SetTable.below xs j=p at h1 h2 h3 hn ⊢;rw[<-Array.getElem?_toList]at hn;generalize xs.toList=l at hr h2 h3 hn ⊢;have hr2:=hr;rw[<-List.take_append_drop p l,List.pairwise_append]at hr;obtain⟨r1,r2,r3⟩:=hr
 have hgt:∀a∈l.drop p,j<a:=by
  cases hd:l.drop p with
  | nil=>intro a ha;cases ha
  | cons b r=>
    rw[hd]at r2 h3
    have hb:l[p]?=some b:=by
     have:(l.drop p)[0]?=some b:=by rw[hd];rfl
     rwa [List.getElem?_drop,Nat.add_zero]at this
    have hjb:j<b:=Nat.lt_of_le_of_ne (h3 b qg) (λz=>hn (by rw[hb,z]));intro a ha;rcases qr ha with rfl|ha
    ·exact hjb
    ·exact Nat.lt_trans hjb ((List.pairwise_cons.mp r2).1 a ha)
 rw[List.pairwise_append];refine⟨r1,List.pairwise_cons.mpr ⟨hgt,r2⟩,λa ha b hb=>?_⟩;rcases qr hb with rfl|hb
 ·exact h2 a ha
 ·exact Nat.lt_trans (h2 a ha) (hgt b hb)
theorem Ynz{t:SetTable}{j:Nat}(h:∀i,t.slot j≠.live i):t.place[SetTable.below t.place j]?≠some j:=λz=>by
 refine h (SetTable.below t.place j) ?_;unfold SetTable.slot;dsimp only;rw[z];simp
theorem Yho{t:SetTable}{ha:Nat->Int}{h:Int}:∀(fuel:Nat) (p:SetTable.Probe) {j:Nat}{d:AM},(∀x,p.dummy=some x->∀i,t.slot x≠.live i)->
 SetTable.probe.go t ha h fuel p=some (.empty j d)->∀i,t.slot (d.getD j)≠.live i
 | 0,p,j,d,_,e=>by rw[SetTable.probe.go]at e;cases e
 | fuel+1,p,j,d,hd,e=>by
   rw[SetTable.probe.go]at e
   split at e
   ·rename_i hs
    cases e;intro i
    cases hp:p.dummy with
    | none=>rw[Option.getD_none,hs];exact λz=>nomatch z
    | some x=>exact hd x hp i
   ·rename_i hs
    refine Yho fuel _ (λx hx i=>?_) e
    have hx':x=p.j:=by
     unfold SetTable.advance at hx
     split at hx
     ·exact(w9 hx).symm
     ·exact(w9 hx).symm
    rw[hx',hs];exact λz=>nomatch z
   ·split at e
    ·cases e
    ·refine Yho fuel _ (λx hx i=>hd x ?_ i) e
     unfold SetTable.advance at hx
     split at hx
     ·exact hx
     ·exact hx
def Tab(bt:Bool)(t:SetTable):Prop:=(bt=false->t.led=true)/\(t.plain=true->Rise t.place)
theorem Tab.standIn{bt:Bool}{t:SetTable}(h:Tab bt t)(n:Nat):Tab bt (t.standIn n):=⟨h.1,λz=>nomatch z⟩
theorem Tab.off{bt:Bool}{t:SetTable}(h:Tab bt t):Tab bt { t with plain:=false }:=⟨h.1,λz=>nomatch z⟩
theorem Tab.fresh{bt:Bool}:Tab bt (.fresh 0 0 (!bt)):=⟨λh=>by subst h;rfl,λ_=>.nil⟩
theorem Tab.layNew{bt:Bool}{t:SetTable}(h:Tab bt t)(es:Array (Int×Value))(hh:Int)(x:Value):Tab bt (PySem.layNew t es hh x).2.1:=by
 unfold PySem.layNew
 split
 ·rename_i slot wd hf
  dsimp only;unfold SetTable.orStandIn
  split
  ·refine⟨h.1,λz=>?_⟩
   refine Yix (h.2 z) slot (Ynz ?_);unfold SetTable.freeSlot at hf
   split at hf
   ·rename_i j dummy hp
    cases hf;exact Yho _ _ (λx hx=>by simp[SetTable.probeStart]at hx) hp
   ·cases hf
  ·exact⟨h.1,λz=>nomatch z⟩
 ·exact h.standIn _
theorem Ytt{mask finger moves:Nat}{led plain:Bool}{hs:Array Int}{t:SetTable}{o:Array Nat}(h:SetTable.laid mask finger moves led plain hs=some (t,o)):Rise t.place/\t.led=led/\t.plain=plain:=by
 unfold SetTable.laid at h;obtain⟨owner,_,h⟩:=qa h;cases h;refine⟨?_,rfl,rfl⟩;unfold Rise;show(((List.range (mask+1)).filterMap λj=>(owner.getD j none).map (j,·)).map (·.1)).Pairwise (·<·);rw[List.map_filterMap];refine List.Pairwise.filterMap _ (λa b hab x hx y hy=>?_) List.pairwise_lt_range;simp at hx hy;obtain⟨_,_,rfl⟩:=hx;obtain⟨_,_,rfl⟩:=hy;exact hab
theorem Tab.relayAll{bt:Bool}{t:SetTable}(h:Tab bt t)(es:Array (Int×Value))(n:Nat):Tab bt (PySem.relayAll t es n).2.1:=by
 unfold PySem.relayAll
 split
 ·rename_i t' order hr
  obtain⟨h1,h2,h3⟩:=Ytt hr;dsimp only
  split
  ·exact⟨λz=>by rw[h2];exact h.1 z,λ_=>h1⟩
  ·exact h.standIn _
 ·exact h.standIn _
end
end
section
section
variable {prog:Program}{w:World}{A:Around}{E:AB}{s:Shared}
def kOf(e:Int×Value):Int:=match e.2 with
 | .int n _=>n
 | _=>0
abbrev byT(w:World):Bool:=w.params.followText "set-order"
def SetI(prog:Program)(w:World)(h:Heap)(a:Addr)(ns:AG):Prop:=
 ∃o es ep t,h.get? a=some o/\o.ExactSet/\o.data=.set es ep t/\ElemsOf (intKind prog w) es.toList/\es.toList.map kOf=ns/\ns.Nodup/\es.size<scanBound/\t.fits es.size=true/\Tab (byT w) t
theorem Yzb{k:Int}{e:Int×Value}(h:(intKind prog w).is k e.2=true):kOf e=k:=by
 obtain⟨t,ht⟩:=Value.isInt_shape h;unfold kOf;rw[ht]
theorem Yq1{es:List (Int×Value)}(h:ElemsOf (intKind prog w) es){e:Int×Value}(he:e∈es):∃t,e=(hashInt (kOf e),.int (kOf e) t):=by
 obtain⟨⟨k,hk,hh⟩,_⟩:=h e he;have hk':=Yzb hk;obtain⟨t,ht⟩:=Value.isInt_shape hk;refine⟨t,?_⟩;rw[hk'];exact Prod.ext hh ht
theorem SetI.at{h h':Heap}{a:Addr}{ns:AG}(x:SetI prog w h a ns)(e:∀o,h.get? a=some o->h'.get? a=some o):SetI prog w h' a ns:=
 let ⟨o,es,ep,t,ho,r⟩:=x
 ⟨o,es,ep,t,e o ho,r⟩
theorem SetI.len{h:Heap}{a:Addr}{ns:AG}(x:SetI prog w h a ns):ns.length<scanBound:=by
 obtain⟨o,es,ep,t,ho,hex,hd,hel,hns,hnd,hb,_⟩:=x;rw[<-hns,qe,qi];exact hb
theorem Ypn{h:Heap}{a:Addr}{o:Obj}{es:Array (Int×Value)}{ep:Nat}{t:SetTable}(ho:h.get? a=some o)(hd:o.data=.set es ep t)(es':Array (Int×Value))(t':SetTable) :
 (h.update a (Obj.putSet es' t')).get? a=some { o with data:=.set es' (ep+1) t' }:=by
 have:=wy (Obj.putSet es' t') ho (by rw[putSet_of es' t' hd];rfl);rw[putSet_of es' t' hd]at this;exact this
theorem Yq2{g:Bool->Sem Unit}(hg:∀(b:Bool) (s₁:Shared) (Q':Unit->Shared->Prop),Q' () s₁->wpAny (model prog w) A (g b) Q' E s₁)
 {a:Addr}{o:Obj}{es:Array (Int×Value)}{ep:Nat}{t:SetTable} (ho:s.heap.get? a=some o) (hex:o.ExactSet) (hd:o.data=.set es ep t)
 {es1:Array (Int×Value)}{t2:SetTable}{ms:AG} (hel1:ElemsOf (intKind prog w) es1.toList) (hms:(es1.toList.map kOf).Perm ms) (hnd:ms.Nodup)
 (hb1:es1.size<scanBound) (hf2:t2.fits es1.size=true) (ht2:Tab (byT w) t2) {wasDummy:Bool}{R:Option Bool->Shared->Prop}
 (h:∀h' ns',Heap.SameBut a s.heap h'->SetI prog w h' a ns'->ns'.Perm ms->R (some true) { s with heap:=h' }) :
 wpAny (model prog w) A (do
  storeSet a es1 t2
  if (!wasDummy&&t2.tooFull)=true then do
      g (relayAll t2 es1 (SetTable.grown es1.size)).2.2
      storeSet a (relayAll t2 es1 (SetTable.grown es1.size)).1 (relayAll t2 es1 (SetTable.grown es1.size)).2.1
      pure (some true)
   else pure (some true)) R E s:=by
 refine wa (wpAny_storeSet_of ho hd ?_ (fits_of_scanBound hb1));have ho1:=Ypn ho hd es1 t2;have hsb1:=wv s.heap a (Obj.putSet es1 t2)
 split
 ·have hp:=relayAll_perm t2 es1 (SetTable.grown es1.size)
  have hfr:=relayAll_fits t2 es1 (SetTable.grown es1.size);have htr:=ht2.relayAll es1 (SetTable.grown es1.size);generalize hRl:relayAll t2 es1 (SetTable.grown es1.size)=Rl at hp hfr htr ⊢;obtain⟨es2,t3,gave2⟩:=Rl;dsimp only at hp hfr htr ⊢;have hel2:ElemsOf (intKind prog w) es2.toList:=hel1.perm hp
  have hsz:es2.size=es1.size:=by rw[<-qi,hp.length_eq,qi]
  have hb2:es2.size<scanBound:=by rw[hsz];exact hb1
  have hp2:=(hp.map kOf).trans hms;refine wa (hg _ _ _ ?_);refine wa (wpAny_storeSet_of ho1 rfl ?_ (fits_of_scanBound hb2));have ho2:=Ypn ho1 rfl es2 t3;exact wc (h _ _ (hsb1.trans (wv _ a _)) ⟨_,es2,_,t3,ho2,hex,rfl,hel2,rfl,hp2.nodup_iff.mpr hnd,hb2,hfr,htr⟩ hp2)
 ·exact wc (h _ _ hsb1 ⟨_,es1,_,t2,ho1,hex,rfl,hel1,rfl,hms.nodup_iff.mpr hnd,hb1,hf2,ht2⟩ hms)
theorem y0s{a:Addr}{ns:AG}{k:Int}{u:Tok}{Q:Bool->Shared->Prop}(hS:SetI prog w s.heap a ns)(hroom:ns.length+1<scanBound)
 (h:∀h' ns',Heap.SameBut a s.heap h'->SetI prog w h' a ns'->ns'.Perm (if k∈ns then ns else ns++[k])->Q (!decide (k∈ns)) { s with heap:=h' }) :
 wpAny (model prog w) A (setAddHashed a (.int k u) (hashInt k)) Q E s:=by
 have hS0:=hS;obtain⟨o,es,ep,t,ho,hex,hd,hel,hns,hnd,hb,hf,ht⟩:=hS;have hkey:(intKind prog w).is k (.int k u)=true:=intKind_is _ _ _ _;have hsc:(Value.int k u).scannable=true:=rfl
 have hsz:es.size=ns.length:=by rw[<-hns,qe,qi]
 unfold setAddHashed setAddHashedIn;refine we (wa (wj ho hd hf ?_));dsimp only;rw[byScan_of hsc hb hel];simp only[↓reduceIte];unfold setAddByScan;refine wa ?_;refine wa (wpAny_rule ?_);refine wa (wpAny_setScan_of (knd:=intKind prog w) (k:=k) hkey ho hd hf hel ?_)
 cases hr:List.findIdx? (λe=>(intKind prog w).is k e.2) es.toList with
 | some j=>
   dsimp only;obtain⟨hj,hpj,_⟩:=List.findIdx?_eq_some_iff_getElem.mp hr
   have hk:k∈ns:=by
    rw[<-hns,<-Yzb hpj];exact List.mem_map_of_mem (List.getElem_mem hj)
   refine wc (wc ?_)
   have e:s={ s with heap:=s.heap }:=by cases s;rfl
   have:=h s.heap ns (Heap.SameBut.refl a s.heap) hS0 (by rw[if_pos hk]);rw[wn hk]at this;rw[e];exact this
 | none=>
   dsimp only
   have hk:k∉ns:=λhk=>by
    rw[<-hns]at hk;obtain⟨e,he,hke⟩:=qw hk;have h1:=List.findIdx?_eq_none_iff.mp hr e he;obtain⟨t',ht'⟩:=Yq1 hel he;rw[ht',hke]at h1;have h2:(intKind prog w).is k (.int k t')=true:=intKind_is _ _ _ _;rw[h2]at h1;exact Bool.noConfusion h1
   have hgw:∀(b:Bool) {s₁:Shared}{Q':Unit->Shared->Prop},Q' () s₁->wpAny (model prog w) A (match b with|true=>rule "set.scan.the-table-gave-way" | false=>pure ()) Q' E s₁:=
    λb s₁ Q' hq=>by cases b<;>first|exact wc hq|exact wpAny_rule hq
   have hperm:=layNew_perm t es (hashInt k) (.int k u);have hfits:=layNew_fits t es (hashInt k) (.int k u);have htab:=ht.layNew es (hashInt k) (.int k u)
   show wpAny (model prog w) A (do
    let (es,t,wasDummy,gave):=PySem.layNew t es (hashInt k) (.int k u)
    _) _ _ _
   generalize hL:layNew t es (hashInt k) (.int k u)=L at hperm hfits htab ⊢;obtain⟨es1,t1,wasDummy,gave⟩:=L;dsimp only at hperm hfits htab ⊢;rw[Array.toList_push]at hperm;have hel1:ElemsOf (intKind prog w) es1.toList:=(hel.push (knd:=intKind prog w) (k:=k) hkey hsc).perm hperm
   have hb1':es1.size<scanBound:=by rw[<-qi,hperm.length_eq,qx,qi];simp;lia
   have hms:(es1.toList.map kOf).Perm (ns++[k]):=by
    have:=hperm.map kOf;rw[wt,hns]at this;exact this
   have hnd1:(ns++[k]).Nodup:=by
    rw[List.nodup_append];refine⟨hnd,by simp,λx hx y hy z=>?_⟩;simp at hy;subst hy;exact hk (z ▸ hx)
   have hend:∀h' ns',Heap.SameBut a s.heap h'->SetI prog w h' a ns'->ns'.Perm (ns++[k])->Q true { s with heap:=h' }:=by
    intro h' ns' hsb hS' hp;have:=h h' ns' hsb hS' (by rw[if_neg hk];exact hp);rw[wo hk]at this;exact this
   refine wa (hgw _ ?_)
   split
   ·refine wa ?_
    rw[hashByValue_scannable 8 hsc];refine wc ?_;refine Yq2 ?_ ho hex hd hel1 hms hnd1 hb1' ?_ ?_ ?_
    ·intro b s₁ Q' hq;cases b<;>first|exact wc hq|exact wpAny_rule hq
    ·split
     ·exact hfits
     ·exact SetTable.fits_plain_off hfits
    ·split
     ·exact htab
     ·exact htab.off
    ·intro h' ns' hsb hS' hp;dsimp only;exact wc (hend h' ns' hsb hS' hp)
   ·refine wa (wc ?_)
    simp only[↓reduceIte];refine Yq2 ?_ ho hex hd hel1 hms hnd1 hb1' hfits htab ?_
    ·intro b s₁ Q' hq;cases b<;>first|exact wc hq|exact wpAny_rule hq
    ·intro h' ns' hsb hS' hp;dsimp only;exact wc (hend h' ns' hsb hS' hp)
end
def ddup:AG->AG->AG
 | acc,[]=>acc
 | acc,k::r=>ddup (if k∈acc then acc else acc++[k]) r
theorem Yn0:∀(r a b:AG),a.Perm b->(ddup a r).Perm (ddup b r)
 | [],_,_,h=>h
 | k::r,a,b,h=>by
   rw[ddup,ddup];refine Yn0 r _ _ ?_;by_cases hk:k∈a
   ·rw[if_pos hk,if_pos (h.mem_iff.mp hk)];exact h
   ·rw[if_neg hk,if_neg (λz=>hk (h.mem_iff.mpr z))];exact h.append_right _
section
variable {prog:Program}{w:World}{A:Around}{R:Result->Shared->Prop}{I:Addr}{fp wr:List Addr}{G:Array GenState->Array GenState->Prop}{n:Nat}{P:Nat->Value->Prop}{St:Nat->Shared->Prop}
theorem Yq3(W:WalksS prog w A.in1 I fp wr G n P St)(S:Addr)(hSf:S∉fp)(ms:AG)(hn:ms.length=n)
 (hval:∀i v,P i v->∃t,v=.int (ms.getD i 0) t) (hb:n+1<scanBound) :
 ∀(k i:Nat) (s:Shared) (ns:AG),n-i=k->i<=n->St i s->ns.length<=i->SetI prog w s.heap S ns->
  (∀s' ns',Moved (S::wr) G s s'->SetI prog w s'.heap S ns'->ns'.Perm (ddup ns (ms.drop i))->R (.ok (.ret .none)) s')->
  codeAny (model prog w) A (.builtin "set.update.loop" ⟨[.ref S,.ref I],[]⟩) R s:=by
 have hSw:S∉wr:=λh=>hSf (W.sub _ h);have hsub:∀b∈wr,b∈S::wr:=λb hb=>qf _ hb;intro k
 induction k with
 | zero=>
   intro i s ns hk hi hst hl hS hR
   have hin:i=n:=by lia
   subst hin;refine wz F.entry_set_update_loop ?_;rw[jf F.plain_set_update_loop _];show wpAny _ A.in1 (pyNext (.ref I)>>=_) _ _ s;refine wa (W.done s _ _ hst λs' hm=>?_);show wpAny _ A.in1 (ret Value.none) _ _ s';refine wc (hR s' ns (hm.mono hsub) (hS.at λo e=>hm.heap S _ hSw e) ?_);rw[List.drop_of_length_le (by lia),ddup]
 | succ k ih=>
   intro i s ns hk hi hst hl hS hR
   have hlt:i<n:=by lia
   refine wz F.entry_set_update_loop ?_;rw[jf F.plain_set_update_loop _];show wpAny _ A.in1 (pyNext (.ref I)>>=_) _ _ s;refine wa (W.item i s _ _ hlt hst λv s' hP hst' hm=>?_);obtain⟨t,rfl⟩:=hval i v hP;have hS':SetI prog w s'.heap S ns:=hS.at λo e=>hm.heap S _ hSw e;generalize hx:ms.getD i 0=x
   have hdrop:ms.drop i=x::ms.drop (i+1):=by
    rw[List.drop_eq_getElem_cons (by lia),<-hx,List.getD_eq_getElem?_getD,qp (by lia)];rfl
   show wpAny _ A.in1 (holding [Value.int x t] (setAdd S (.int x t))>>=_) _ _ s';refine wa (we ?_);unfold setAdd;refine we ?_;refine wa ((intKind prog w).pyHash (k:=x) (intKind_is _ _ _ _) ?_);refine y0s (s:={ s' with toks:=s'.toks+1 }) hS' (by lia) λh' ns' hsb hS2 hp=>?_
   have hl2:ns'.length<=i+1:=by
    rw[hp.length_eq]
    split
    ·lia
    ·simp;lia
   refine wc ⟨je F.plain_set_update_loop _,ih (i+1) _ ns' (by lia) hlt (W.frame _ s' _ _ hst' (Nat.le_succ _) λb hb o e=>?_) hl2 hS2 λs'' ns'' hm'' hS'' hp''=>?_⟩
   ·rw[hsb.2 b (λh:b=S=>hSf (by rw[<-h];exact hb))];exact e
   ·refine hR s'' ns'' (Moved.trans W.gtrans ((hm.mono hsub).then_heap (Nat.le_succ _) λb o hb e=>?_) hm'') hS'' ?_
    ·rw[hsb.2 b (λh:b=S=>hb (by rw[h];exact qg))];exact e
    ·rw[hdrop,ddup]
     exact hp''.trans (Yn0 _ _ _ hp)
end
end
section
section
variable {prog:Program}{w:World}{A:Around}{E:AB}{s:Shared}
theorem Yl3:isSubtype (.type "tuple") (.type "set")=pure false:=by rw[isSubtype_type];kernel_rfl
theorem Yf3:isSubtype (.type "tuple") (.type "frozenset")=pure false:=by rw[isSubtype_type];kernel_rfl
theorem Ych{T newId initId:String}{Bi:Builtin}{args:AD}{Q Q₁:AB}(ft:TypeCalled T newId initId)
 (hct:checkTypeCall T ⟨args,[]⟩=pure ()) (entryI:entryFor table initId=some Bi)
 (hnew:codeAny (model prog w) A.in1 (.call (.builtin newId) ⟨.type T::args,[]⟩) (wants Q₁ E) s)
 (hnext:∀obj s₁,Q₁ obj s₁->s₁.TypeIs obj T/\(∀(A':Around) (E':AB) (Q':Unit->Shared->Prop),Q' () s₁->wpAny (model prog w) A' (checkBuiltinCall initId ⟨obj::args,[]⟩) Q' E' s₁)/\
  wpAny (model prog w) A.in1.in1 (Bi ⟨obj::args,[]⟩)
   (λfin s'=>match fin with|.done f=>wants (λr s₂=>r=.none/\Q obj s₂) E (.ok f) s'|.again c'=>c'.quiet=true/\codeAny (model prog w) A.in1 c' (wants (λr s₂=>r=.none/\Q obj s₂) E) s')
   (λe s'=>wants (λr s₂=>r=.none/\Q obj s₂) E (.error e) s') s₁) :
 wpAny (model prog w) A (call (.type T) args) Q E s:=by
 obtain⟨c,tl,hmro⟩:=ft.mro;have hmade:=ft.made;have hsub:=ft.sub;refine wpAny_call (codeAny_of_tree ?_);show wpAny _ _ (callAny (.type T) _) _ _ _;refine wc ⟨Code.quiet_builtin _ (by decide +kernel),wz F.entry_type_call ?_⟩;rw[Around.under_plain (weight_type_call_type T args []) rfl];have h1:=ft.notType;have h2:=ft.canCreate
 repeat (any_goals (first|assumption|wp_step))
 refine codeAny_mono hnew λr s₁ hr=>?_
 cases r with
 | error e=>exact hr
 | ok fl=>
   cases fl with
   | ret obj=>
     obtain⟨hT,hok,hsi⟩:=hnext _ _ hr;have hli:=ft.init.lookup;have hbi:=ft.init.bind obj
     repeat (any_goals (first|assumption|wp_step))
     refine codeAny_mono (codeAny_call_builtin ft.init.plain entryI (hok _ _ _ hsi)) λr₂ s₂ hr₂=>?_
     cases r₂ with
     | error e=>exact hr₂
     | ok fl₂=>
       cases fl₂ with
       | ret r=>
         obtain⟨rfl,hq⟩:=hr₂
         repeat (any_goals (first|assumption|wp_step))
       | _=>exact hr₂.elim
   | _=>exact hr.elim
abbrev emS(w:World):Obj:={ cls:=.type "set",dict:=none,data:=.set #[] 0 (.fresh 0 0 (!byT w)) }
theorem Yiy(a:Value){Q₁:AB}(h:Q₁ (.ref (~~~s)) { s with heap:=s.heap.push (emS w) }) :
 codeAny (model prog w) A (.call (.builtin "set.__new__") ⟨[.type "set",a],[]⟩) (wants Q₁ E) s:=by
 refine codeAny_of_tree ?_;show wpAny _ A.in1 (do checkBuiltinCall "set.__new__" ⟨[.type "set",a],[]⟩;again (.builtin "set.__new__" ⟨[.type "set",a],[]⟩)) _ _ s;refine wa (wpAny_of_eq (F.newCall_set_1 a) (wc ⟨je F.plain_set_new _,wz F.entry_set_new ?_⟩));rw[jf F.plain_set_new _];unfold Builtin.«set.__new__» Builtin.Frozenset.newClass;have hsub:=sub_set_self;obtain⟨hp,g,d,tk,os⟩:=s;dsimp only
 wp_walk
 refine wpAny_askSetting (wc ?_);dsimp only;simp only[newObj];refine wa (wpAny_alloc (wc ?_));exact wc h
set_option maxRecDepth 100000 in
theorem Yl4{l:Addr}{items:Array Value}{ms:AG}{Q:AB}
 (hh:A.handled=none) (hl:s.heap.IsList l items) (hi:IntsAre items.toList ms) (hb:items.size+1<scanBound)
 (h:∀(h':Heap) (tk:Nat) ns,SetI prog w h' (~~~s) ns->ns.Perm (ddup [] ms)->
  (∀b o,b< ~~~s->s.heap.get? b=some o->h'.get? b=some o)->Q (.ref (~~~s)) { s with heap:=h',toks:=tk }) :
 wpAny (model prog w) A (call (.type "set") [.ref l]) Q E s:=by
 refine Ych (Q₁:=λobj s₁=>obj=.ref (~~~s)/\s₁={ s with heap:=s.heap.push (emS w) }) F.called_set (F.typeCall_set_1 _) F.entry_set_init (Yiy _ ⟨rfl,rfl⟩) ?_;rintro obj s₁ ⟨rfl,rfl⟩;have hS:(s.heap.push (emS w)).get? (~~~s)=some (emS w):=qo _ rfl
 have hT:Shared.TypeIs { s with heap:=s.heap.push (emS w) } (.ref (~~~s)) "set":=⟨_,hS,rfl⟩
 refine⟨hT,λA' E' Q' hq=>check_set_init_1 hT hq,?_⟩;obtain⟨ol,hol,hcl,nl,hdl⟩:=hl;obtain⟨ocls,odict,odata,oslots⟩:=ol;simp only at hcl hdl;subst hcl;subst hdl;have hol':(s.heap.push (emS w)).get? l=some { cls:=.type "list",dict:=odict,data:=.seq items nl,slots:=oslots }:=qd _ hol;have hsls:=F.sub_list_set;have hslf:=F.sub_list_frozenset
 have hne:(Value.type "list"==Value.type "dict")=false:=by decide
 have hl1:(s.heap.push (emS w)).IsList l items:=⟨_,hol',rfl,nl,rfl⟩
 unfold Builtin.«set.__init__» noKeywords Builtin.Frozenset.updateFrom;generalize hPI:pyIter=PI
 wp_walk
 subst hPI;refine wpAny_pyIter_list hl1 ?_;refine wa (wpAny_runValue ?_);have hlS:l< ~~~s:=qk hol
 have hh3:A.in1.in1.in1.handled=none:=by simp[hh]
 have hneI:l≠(s.heap.push (emS w)).objs.size:=by
  rw[wx];exact ql (qv hlS)
 have hSf:(~~~s)∉[(s.heap.push (emS w)).objs.size,l]:=by
  rw[wx];simp only[List.mem_cons,List.mem_singleton,List.not_mem_nil,or_false,not_or];exact⟨ql (qy _),Nat.ne_of_gt hlS⟩
 have hlen:ms.length=items.size:=by have:=IntsAre.length hi;rw[qi]at this;exact this.symm
 have hval:∀(i:Nat) (v:Value),items[i]?=some v->∃t,v=.int (ms.getD i 0) t:=λi v hv=>
  IntsAre.int_at hi i v (by rw[Array.getElem?_toList];exact hv)
 refine Yq3 ((Walks.list hh3 _ l hneI items).toS) (~~~s) hSf ms hlen hval hb (items.size-0) 0 _ [] (by lia) (Qc _)
  ⟨⟨_,qo _ rfl,rfl,rfl⟩,(hl1.push _)⟩ (qt _) ?hS0 ?hR
 case hS0=>
  have hget:((s.heap.push (emS w)).push { cls:=.type "list_iterator",data:=.fields #[.ref l,.int 0 0] }).get? (~~~s)=some (emS w):=qd _ hS;exact⟨emS w,#[],0,_,hget,⟨rfl,rfl,rfl⟩,rfl,λe he=>by simp at he,rfl,.nil,by decide,rfl,.fresh⟩
 case hR=>
  intro s' ns' hm hS' hp';obtain⟨h',g',d',tk',os'⟩:=s';have eg:g'=s.gens:=hm.gens;have ed:d'=s.drawn:=hm.drawn;have eo:os'=s.os:=hm.os;subst eg;subst ed;subst eo;show wpAny _ _ _ _ _ _;refine wc ?_;show wpAny _ _ (ret Value.none) _ _ _;refine wc ⟨rfl,h h' tk' ns' hS' hp' λb o hb e=>?_⟩;have hb1:b≠(~~~s):=ql hb
  have hb2:b≠(s.heap.push (emS w)).objs.size:=by
   rw[wx];exact ql (qv hb)
  exact hm.heap b o (by simp only[List.mem_cons,List.mem_singleton,List.not_mem_nil,or_false,not_or];exact⟨hb1,hb2⟩) (qd _ (qd _ e))
set_option maxRecDepth 100000 in
theorem Ykh{l:Addr}{items:Array Value}{ms:AG}{Q:AB}
 (hh:A.handled=none) (hl:s.heap.IsTuple l items) (hi:IntsAre items.toList ms) (hb:items.size+1<scanBound)
 (h:∀(h':Heap) (tk:Nat) ns,SetI prog w h' (~~~s) ns->ns.Perm (ddup [] ms)->
  (∀b o,b< ~~~s->s.heap.get? b=some o->h'.get? b=some o)->Q (.ref (~~~s)) { s with heap:=h',toks:=tk }) :
 wpAny (model prog w) A (call (.type "set") [.ref l]) Q E s:=by
 refine Ych (Q₁:=λobj s₁=>obj=.ref (~~~s)/\s₁={ s with heap:=s.heap.push (emS w) }) F.called_set (F.typeCall_set_1 _) F.entry_set_init (Yiy _ ⟨rfl,rfl⟩) ?_;rintro obj s₁ ⟨rfl,rfl⟩;have hS:(s.heap.push (emS w)).get? (~~~s)=some (emS w):=qo _ rfl
 have hT:Shared.TypeIs { s with heap:=s.heap.push (emS w) } (.ref (~~~s)) "set":=⟨_,hS,rfl⟩
 refine⟨hT,λA' E' Q' hq=>check_set_init_1 hT hq,?_⟩;obtain⟨ol,hol,hcl,nl,hdl⟩:=hl;obtain⟨ocls,odict,odata,oslots⟩:=ol;simp only at hcl hdl;subst hcl;subst hdl;have hol':(s.heap.push (emS w)).get? l=some { cls:=.type "tuple",dict:=odict,data:=.seq items nl,slots:=oslots }:=qd _ hol;have hsls:=Yl3;have hslf:=Yf3
 have hne:(Value.type "tuple"==Value.type "dict")=false:=by decide
 have hl1:(s.heap.push (emS w)).IsTuple l items:=⟨_,hol',rfl,nl,rfl⟩
 unfold Builtin.«set.__init__» noKeywords Builtin.Frozenset.updateFrom;generalize hPI:pyIter=PI
 wp_walk
 subst hPI;refine wpAny_pyIter_tuple hl1 ?_;refine wa (wpAny_runValue ?_);have hlS:l< ~~~s:=qk hol
 have hh3:A.in1.in1.in1.handled=none:=by simp[hh]
 have hneI:l≠(s.heap.push (emS w)).objs.size:=by
  rw[wx];exact ql (qv hlS)
 have hSf:(~~~s)∉[(s.heap.push (emS w)).objs.size,l]:=by
  rw[wx];simp only[List.mem_cons,List.mem_singleton,List.not_mem_nil,or_false,not_or];exact⟨ql (qy _),Nat.ne_of_gt hlS⟩
 have hlen:ms.length=items.size:=by have:=IntsAre.length hi;rw[qi]at this;exact this.symm
 have hval:∀(i:Nat) (v:Value),items[i]?=some v->∃t,v=.int (ms.getD i 0) t:=λi v hv=>
  IntsAre.int_at hi i v (by rw[Array.getElem?_toList];exact hv)
 refine Yq3 ((Walks.tuple hh3 _ l hneI items).toS) (~~~s) hSf ms hlen hval hb (items.size-0) 0 _ [] (by lia) (Qc _)
  ⟨⟨_,qo _ rfl,rfl,rfl⟩,(⟨_,qd _ hol',rfl,nl,rfl⟩)⟩ (qt _) ?hS0 ?hR
 case hS0=>
  have hget:((s.heap.push (emS w)).push { cls:=.type "tuple_iterator",data:=.fields #[.ref l,.int 0 0] }).get? (~~~s)=some (emS w):=qd _ hS;exact⟨emS w,#[],0,_,hget,⟨rfl,rfl,rfl⟩,rfl,λe he=>by simp at he,rfl,.nil,by decide,rfl,.fresh⟩
 case hR=>
  intro s' ns' hm hS' hp';obtain⟨h',g',d',tk',os'⟩:=s';have eg:g'=s.gens:=hm.gens;have ed:d'=s.drawn:=hm.drawn;have eo:os'=s.os:=hm.os;subst eg;subst ed;subst eo;show wpAny _ _ _ _ _ _;refine wc ?_;show wpAny _ _ (ret Value.none) _ _ _;refine wc ⟨rfl,h h' tk' ns' hS' hp' λb o hb e=>?_⟩;have hb1:b≠(~~~s):=ql hb
  have hb2:b≠(s.heap.push (emS w)).objs.size:=by
   rw[wx];exact ql (qv hb)
  exact hm.heap b o (by simp only[List.mem_cons,List.mem_singleton,List.not_mem_nil,or_false,not_or];exact⟨hb1,hb2⟩) (qd _ (qd _ e))
end
end
section
theorem Yle{α:Type}{l:List α}{i:Nat}(h:i<l.length):(l[i]::l.eraseIdx i).Perm l:=by
 rw[List.eraseIdx_eq_take_drop_succ]
 have e:l=l.take i++l[i]::l.drop (i+1):=by
  rw[<-List.drop_eq_getElem_cons h,List.take_append_drop]
 conv=>rhs;rw[e]
 exact List.perm_middle.symm
theorem Ytu{α:Type}(next:Nat->Nat):∀(fuel k:Nat) (left:List α) (out:Array α),left.length=fuel->(pickOrder.go next fuel k left out).toList.Perm (out.toList++left)
 | 0,k,left,out,h=>by
   rw[pickOrder.go];rw[List.length_eq_zero_iff.mp h,jb]
 | fuel+1,k,left,out,h=>by
   rw[pickOrder.go];have hlt:next k%left.length<left.length:=Nat.mod_lt _ (by lia);rw[qp hlt];dsimp only;refine(Ytu next fuel (k+1) _ _ (by rw[List.length_eraseIdx_of_lt hlt];lia)).trans ?_;rw[Array.toList_push,jc];exact(Yle hlt).append_left _
theorem Yn1{α:Type}(next:Nat->Nat)(xs:Array α):(pickOrder next xs).toList.Perm xs.toList:=by
 have:=Ytu next xs.size 0 xs.toList #[] (by simp);simpa [pickOrder]using this
section
variable {prog:Program}{w:World}{A:Around}{E:AB}
theorem Ysd{src:Source}{n:Nat}{Q:Nat->Shared->Prop}{s:Shared}(hn:0<n)(h:∀i d',i<n->Q i { s with drawn:=d' }):wpAny (model prog w) A (choose src n) Q E s:=by
 intro Γ p hΓ;unfold choose;rw[Sem.wp_choose];refine⟨by lia,?_⟩;rw[Sem.wp_pure];exact h _ _ (Nat.mod_lt _ hn)
theorem Yhp{α:Type}:∀(n:Nat) (xs:List α) (s:Shared) (Q:List α->Shared->Prop),xs.length=n->(∀ys d',ys.Perm xs->Q ys { s with drawn:=d' })->wpAny (model prog w) A (drawOrder n xs) Q E s
 | 0,xs,s,Q,h,hQ=>by
   rw[List.length_eq_zero_iff.mp h]at hQ ⊢;show wpAny _ _ (pure _) _ _ _;exact wc (hQ [] s.drawn .nil)
 | n+1,[],s,Q,h,hQ=>by simp at h
 | n+1,x::xs,s,Q,h,hQ=>by
   show wpAny _ _ (_>>=_) _ _ _;refine wa (Ysd (by simp) λi d' hi=>?_);rw[qp hi];dsimp only;refine wa (Yhp n _ _ _ (by rw[List.length_eraseIdx_of_lt hi];lia) λys d2 hp=>?_);refine wc (hQ _ d2 ((hp.cons _).trans ?_));exact Yle hi
end
end
section
set_option maxRecDepth 100000
theorem Yq4:Manifest.owners.lookup (String.ofList ['r','o','t','a','r','e','t','i','_','t','e','s'].reverse)=some Manifest.sig_set_iterator:=by kernel_rfl
theorem slot_si_next:Slot "set_iterator" "__next__" "set_iterator.__next__":=
 .of (owner:="set_iterator") (n:="__next__") (by rw[typeLookup_type,builtinLookup_eq_fast];kernel_rfl) (by decide +kernel) (by decide +kernel) (by decide +kernel)
  (by first|exact .inl (by decide +kernel)|exact .inr (by decide +kernel)) (by rw[isSubtype_type];kernel_rfl)
theorem Ycq:entryFor table "set_iterator.__next__"=some Builtin.«set_iterator.__next__»:=entryFor_of_tree (by kernel_rfl)
theorem Ydb(a:Value):argsOk "set_iterator.__next__" ⟨[a],[]⟩:=by
 unfold argsOk;rw[signature?_of (id:="set_iterator.__next__") (n:=['_','_','t','x','e','n','_','_']) (o:=['r','o','t','a','r','e','t','i','_','t','e','s']) (by kernel_rfl) Yq4];kernel_rfl
theorem Yh4:Slot "set_iterator" "__iter__" "set_iterator.__iter__":=
 .of (owner:="set_iterator") (n:="__iter__") (by rw[typeLookup_type,builtinLookup_eq_fast];kernel_rfl) (by decide +kernel) (by decide +kernel) (by decide +kernel)
  (by first|exact .inl (by decide +kernel)|exact .inr (by decide +kernel)) (by rw[isSubtype_type];kernel_rfl)
theorem Yn2(a:Value):argsOk "set_iterator.__iter__" ⟨[a],[]⟩:=by
 unfold argsOk;rw[signature?_of (id:="set_iterator.__iter__") (n:=['_','_','r','e','t','i','_','_']) (o:=['r','o','t','a','r','e','t','i','_','t','e','s']) (by kernel_rfl) Yq4];kernel_rfl
theorem Yl5:entryFor table "set_iterator.__iter__"=some Builtin.«dict_keyiterator.__iter__»:=
 entryFor_alias (id':="dict_keyiterator.__iter__") (by kernel_rfl) (by first|rfl|decide +kernel|(unfold String.splitOn;simp +decide [String.splitOnAux])) (by decide +kernel) (by kernel_rfl)
theorem Yft:entryFor table "set.__iter__"=some Builtin.«frozenset.__iter__»:=
 entryFor_alias (id':="frozenset.__iter__") (by kernel_rfl) (by first|rfl|decide +kernel|(unfold String.splitOn;simp +decide [String.splitOnAux])) (by decide +kernel) (by kernel_rfl)
def SIt(h:Heap)(I:Addr)(first:Value)(i:Nat)(a:Addr)(n ep:Nat):Prop:=∃o,h.get? I=some o/\o.cls=.type "set_iterator"/\o.data=.fields #[first,.int i 0,.ref a,.int n 0,.int ep 0]
def SAt(h:Heap)(a:Addr)(es:Array (Int×Value))(ep:Nat)(t:SetTable):Prop:=∃o,h.get? a=some o/\o.ExactSet/\o.data=.set es ep t/\t.fits es.size=true
theorem SIt.at{h h':Heap}{I a:Addr}{f:Value}{i n ep:Nat}(x:SIt h I f i a n ep)(e:∀o,h.get? I=some o->h'.get? I=some o):SIt h' I f i a n ep:=let ⟨o,ho,r⟩:=x;⟨o,e o ho,r⟩
theorem SAt.at{h h':Heap}{a:Addr}{es:Array (Int×Value)}{ep:Nat}{t:SetTable}(x:SAt h a es ep t)(e:∀o,h.get? a=some o->h'.get? a=some o):SAt h' a es ep t:=let ⟨o,ho,r⟩:=x;⟨o,e o ho,r⟩
theorem SIt.typeIs{s:Shared}{I a:Addr}{f:Value}{i n ep:Nat}(x:SIt s.heap I f i a n ep):s.TypeIs (.ref I) "set_iterator":=let ⟨o,ho,hc,_⟩:=x;⟨o,ho,hc⟩
section
variable {prog:Program}{w:World}{A:Around}{E:AB}{s:Shared}
theorem Yl6{I a:Addr}{f:Value}{i n ep:Nat}{Q:AB}(hit:SIt s.heap I f i a n ep)(h:Q (.ref I) s):wpAny (model prog w) A (pyIter (.ref I)) Q E s:=by
 refine wpAny_pyIter_slot hit.typeIs Yh4 (wf Yh4 hit.typeIs Yl5 ?_ (Yn2 _));show wpAny _ _ (ret (.ref I)) _ _ s;exact wc ⟨_,rfl,"set_iterator",_,hit.typeIs,slot_si_next.lookup,h⟩
theorem Ytv{I a:Addr}{sl i ep nx:Nat}{es:Array (Int×Value)}{t:SetTable}{x:Value}{Q:Option Value->Shared->Prop}(hit:SIt s.heap I (.int sl 0) i a es.size ep)(ha:SAt s.heap a es ep t)
 (hn:∀(A':Around) (Q':Option (Value×Nat)->Shared->Prop) (E':AB),Q' (some (x,nx)) s->wpAny (model prog w) A' (setNext a sl i ep) Q' E' s)
 (hQ:∀h',SIt h' I (.int nx 0) (i+1) a es.size ep->Heap.SameBut I s.heap h'->Q (some x) { s with heap:=h' }):wpAny (model prog w) A (pyNext (.ref I)) Q E s:=by
 obtain⟨o,ho,hc,hd⟩:=id hit;obtain⟨oa,hoa,hexa,hda,hfa⟩:=ha;unfold pyNext;refine wa (ji (wpAny_callSpecial?_slot (name:=Str.ofString "__next__") hit.typeIs slot_si_next (wf slot_si_next hit.typeIs Ycq ?_ (Ydb _))));show wpAny _ _ (fieldsOf (.ref I)>>=_) _ _ s;refine wa (wpAny_fieldsOf ho hd ?_);show wpAny _ _ (setEntries a>>=_) _ _ s;refine wa (wpAny_setEntries_of hoa hda hfa ?_);rw[if_neg (by simp)];show wpAny _ _ (setNext a sl i ep>>=_) _ _ s;refine wa (hn _ _ _ ?_);show wpAny _ _ (setField (.ref I) 0 (rawInt nx)>>=_) _ _ s;refine wa (wpAny_setField ho hd (by simp) ?_);have ho1:=wy (Obj.mapFields (·.setIfInBounds 0 (rawInt nx))) ho (Obj.isFreed_of_fields (jh hd _));have hd1:=jh hd (·.setIfInBounds 0 (rawInt nx));show wpAny _ _ (setField (.ref I) 1 (rawInt (i+1))>>=_) _ _ _;refine wa (wpAny_setField (s:={ s with heap:=s.heap.update I (Obj.mapFields (·.setIfInBounds 0 (rawInt nx))) }) ho1 hd1 (by simp) (wc ⟨x,rfl,wc (hQ _ ?_ ((wv ..).trans (wv ..)))⟩))
 exact⟨_,wy _ ho1 (Obj.isFreed_of_fields (jh hd1 _)),(Obj.cls_mapFields ..).trans ((Obj.cls_mapFields ..).trans hc),by
  rw[jh hd1];simp[rawInt]⟩
theorem Ytw{I a:Addr}{sl i ep:Nat}{es:Array (Int×Value)}{t:SetTable}{Q:Option Value->Shared->Prop}(hh:A.handled=none)(hit:SIt s.heap I (.int sl 0) i a es.size ep)(ha:SAt s.heap a es ep t)
 (hn:∀(A':Around) (Q':Option (Value×Nat)->Shared->Prop) (E':AB),Q' none s->wpAny (model prog w) A' (setNext a sl i ep) Q' E' s)
 (hQ:∀h',Heap.ExtBut I s.heap h'->Q none { s with heap:=h' }):wpAny (model prog w) A (pyNext (.ref I)) Q E s:=by
 obtain⟨o,ho,hc,hd⟩:=id hit;obtain⟨oa,hoa,hexa,hda,hfa⟩:=ha;unfold pyNext;refine wa (ji (wpAny_callSpecial?_slot (name:=Str.ofString "__next__") hit.typeIs slot_si_next (wf slot_si_next hit.typeIs Ycq ?_ (Ydb _))));show wpAny _ _ (fieldsOf (.ref I)>>=_) _ _ s;refine wa (wpAny_fieldsOf ho hd ?_);show wpAny _ _ (setEntries a>>=_) _ _ s;refine wa (wpAny_setEntries_of hoa hda hfa ?_);rw[if_neg (by simp)];show wpAny _ _ (setNext a sl i ep>>=_) _ _ s;refine wa (hn _ _ _ ?_);show wpAny _ _ (setField (.ref I) 2 .none>>=_) _ _ s;refine wa (wpAny_setField ho hd (by simp) ?_);show wpAny _ _ (newExc (.type "StopIteration") []>>=_) _ _ _;refine wa ?_;simp only[newExc,newTuple];refine wa (wg ?_ (by size_fits));refine wa (m:=firstArgMember _ _) (wpAny_of_eq (a:=Value.none) (by first|rfl|(simp only[firstArgMember];rfl)) ?_);refine wg ?_ (by size_fits);simp only[raiseNew];refine wa (wpAny_handled ?_)
 first|rw[show A.in1.handled=none from hh]|rw[hh]
 refine wa (wc (wpAny_throw ?_));refine wa (wpAny_isInstance (T:="StopIteration") (b:=true) ⟨_,qo _ rfl,rfl⟩ isSubtype_stop ?_);exact wc (hQ _ (((wv ..).extBut.push _).push _))
theorem Yq5{I a T:Addr}{i j ep:Nat}{pl:Array Value}{tk:Tok}{es:Array (Int×Value)}{t:SetTable}{e:Int×Value}{Q:Option Value->Shared->Prop}(hit:SIt s.heap I (.ref T) i a es.size ep)(ha:SAt s.heap a es ep t)
 (hT:s.heap.IsTuple T pl) (hp:pl[i]?=some (.int j tk)) (he:es[j]?=some e)
 (hQ:∀h',SIt h' I (.ref T) (i+1) a es.size ep->Heap.SameBut I s.heap h'->Q (some e.2) { s with heap:=h' }):wpAny (model prog w) A (pyNext (.ref I)) Q E s:=by
 obtain⟨o,ho,hc,hd⟩:=id hit;obtain⟨oa,hoa,hexa,hda,hfa⟩:=ha;obtain⟨ot,hot,_,nt,hdt⟩:=hT;unfold pyNext;refine wa (ji (wpAny_callSpecial?_slot (name:=Str.ofString "__next__") hit.typeIs slot_si_next (wf slot_si_next hit.typeIs Ycq ?_ (Ydb _))));show wpAny _ _ (fieldsOf (.ref I)>>=_) _ _ s;refine wa (wpAny_fieldsOf ho hd ?_);show wpAny _ _ (setEntries a>>=_) _ _ s;refine wa (wpAny_setEntries_of hoa hda hfa ?_);rw[if_neg (by simp)];show wpAny _ _ (seqItems? (.ref T)>>=_) _ _ s;refine wa (wpAny_seqItems hot hdt ?_);simp only[ja,hp];show wpAny _ _ (setNextDrawn a j ep>>=_) _ _ s;refine wa ?_;unfold setNextDrawn;refine wa (wj hoa hda hfa ?_);dsimp only;rw[if_neg (by simp)];show wpAny _ _ (match es[j]? with|some (_,x)=>pure x|_=>unsupported "internal:set_iterator") _ _ s;rw[he];refine wc ?_;show wpAny _ _ (setField (.ref I) 1 (rawInt (i+1))>>=_) _ _ _;refine wa (wpAny_setField ho hd (by simp) (wc ⟨e.2,rfl,wc (hQ _ ?_ (wv ..))⟩))
 exact⟨_,wy _ ho (Obj.isFreed_of_fields (jh hd _)),(Obj.cls_mapFields ..).trans hc,by
  rw[jh hd];simp[rawInt]⟩
theorem Yq6{I a T:Addr}{i ep:Nat}{pl:Array Value}{es:Array (Int×Value)}{t:SetTable}{Q:Option Value->Shared->Prop}(hh:A.handled=none)(hit:SIt s.heap I (.ref T) i a es.size ep)(ha:SAt s.heap a es ep t)
 (hT:s.heap.IsTuple T pl) (hp:pl[i]?=none) (hQ:∀h',Heap.ExtBut I s.heap h'->Q none { s with heap:=h' }):wpAny (model prog w) A (pyNext (.ref I)) Q E s:=by
 obtain⟨o,ho,hc,hd⟩:=id hit;obtain⟨oa,hoa,hexa,hda,hfa⟩:=ha;obtain⟨ot,hot,_,nt,hdt⟩:=hT;unfold pyNext;refine wa (ji (wpAny_callSpecial?_slot (name:=Str.ofString "__next__") hit.typeIs slot_si_next (wf slot_si_next hit.typeIs Ycq ?_ (Ydb _))));show wpAny _ _ (fieldsOf (.ref I)>>=_) _ _ s;refine wa (wpAny_fieldsOf ho hd ?_);show wpAny _ _ (setEntries a>>=_) _ _ s;refine wa (wpAny_setEntries_of hoa hda hfa ?_);rw[if_neg (by simp)];show wpAny _ _ (seqItems? (.ref T)>>=_) _ _ s;refine wa (wpAny_seqItems hot hdt ?_);simp only[ja,hp];show wpAny _ _ (setField (.ref I) 0 (rawInt 0)>>=_) _ _ s;refine wa (wpAny_setField ho hd (by simp) ?_);have ho1:=wy (Obj.mapFields (·.setIfInBounds 0 (rawInt 0))) ho (Obj.isFreed_of_fields (jh hd _));have hd1:=jh hd (·.setIfInBounds 0 (rawInt 0));show wpAny _ _ (setField (.ref I) 2 .none>>=_) _ _ _;refine wa (wpAny_setField (s:={ s with heap:=s.heap.update I (Obj.mapFields (·.setIfInBounds 0 (rawInt 0))) }) ho1 hd1 (by simp) ?_);show wpAny _ _ (newExc (.type "StopIteration") []>>=_) _ _ _;refine wa ?_;simp only[newExc,newTuple];refine wa (wg ?_ (by size_fits));refine wa (m:=firstArgMember _ _) (wpAny_of_eq (a:=Value.none) (by first|rfl|(simp only[firstArgMember];rfl)) ?_);refine wg ?_ (by size_fits);simp only[raiseNew];refine wa (wpAny_handled ?_)
 first|rw[show A.in1.handled=none from hh]|rw[hh]
 refine wa (wc (wpAny_throw ?_));refine wa (wpAny_isInstance (T:="StopIteration") (b:=true) ⟨_,qo _ rfl,rfl⟩ isSubtype_stop ?_);exact wc (hQ _ ((((wv ..).trans (wv ..)).extBut.push _).push _))
end
end
section
set_option maxRecDepth 100000
section
variable {prog:Program}{w:World}{A:Around}{E:AB}{s:Shared}
theorem Yew{Q:Bool->Shared->Prop}(h:Q (byT w) s):wpAny (model prog w) A setsByText Q E s:=by
 unfold setsByText;exact wa (wpAny_askSetting (wc h))
theorem Ygn{a:Addr}{es:Array (Int×Value)}{ep sl i:Nat}{t:SetTable}(hb:byT w=true)(ha:SAt s.heap a es ep t){Q:Option (Value×Nat)->Shared->Prop}
 (h:Q (((pickOrder (w.params.setOrder a ep) es)[i]?).map λe=>(e.2,sl)) s):wpAny (model prog w) A (setNext a sl i ep) Q E s:=by
 obtain⟨oa,hoa,hexa,hda,hfa⟩:=ha;unfold setNext;refine wa (wj hoa hda hfa ?_);dsimp only;refine wa (Yew ?_);rw[if_pos hb,if_neg (by simp)];refine wa (m:=setWalk a) ?_;unfold setWalk;refine wa (wj hoa hda hfa ?_);dsimp only;refine wa (Yew ?_);rw[if_pos hb];refine wa (wpAny_askSetting (wc ?_));exact wc h
theorem Ygo{a:Addr}{es:Array (Int×Value)}{ep sl i g:Nat}{t:SetTable}(hb:byT w=false)(hd:(!t.plain&&decide (es.size > 1))=false)(hl:t.led=true)(ha:SAt s.heap a es ep t){Q:Option (Value×Nat)->Shared->Prop}
 (hp:SetTable.below t.place sl=i) (h:Q (match es[i]?,t.place[i]? with|some (_,x),some j=>some (x,j+1)|_,_=>none) s):wpAny (model prog w) A (setNext a sl g ep) Q E s:=by
 obtain⟨oa,hoa,hexa,hda,hfa⟩:=ha;unfold setNext;refine wa (wj hoa hda hfa ?_);dsimp only;refine wa (Yew ?_);rw[if_neg (by rw[hb];exact qh)];show wpAny _ _ (if (!t.plain&&decide (es.size > 1))=true then _ else _) _ _ _;rw[if_neg (show ¬((!t.plain&&decide (es.size > 1))=true) by rw[hd];exact qh)];show wpAny _ _ ((if (!t.led&&!es.isEmpty)=true then unsupported "set:maker-not-led" else pure ())>>=_) _ _ _;rw[if_neg (by rw[hl];simp)];refine wa (wc ?_);rw[hp];exact wc h
def Yeq(pl:Array Nat):Nat->Nat
 | 0=>0
 | i+1=>pl.getD i 0+1
theorem Yii{pl:Array Nat}(hr:Rise pl){i:Nat}(hi:i<=pl.size):SetTable.below pl (Yeq pl i)=i:=by
 obtain⟨h1,h2,h3⟩:=Yld hr (Yeq pl i);generalize hp:SetTable.below pl (Yeq pl i)=p at h1 h2 h3
 have mono:∀(i k:Nat) (hi:i<pl.size) (hk:k<pl.size),i<k->pl[i]<pl[k]:=λi k hi hk h=>by
  have:=List.pairwise_iff_getElem.mp hr i k (by simpa using hi) (by simpa using hk) h;simpa using this
 have e1:∀k (hk:k<pl.size),k<p->pl[k]<Yeq pl i:=λk hk hkp=>h2 _ (by
  rw[List.mem_iff_getElem]
  exact⟨k,by simp;lia,by simp⟩)
 have e2:∀k (hk:k<pl.size),p<=k->Yeq pl i<=pl[k]:=λk hk hkp=>h3 _ (by
  rw[List.mem_iff_getElem]
  exact⟨k-p,by simp;lia,by
   rw[List.getElem_drop,Array.getElem_toList]
   congr 1
   lia⟩)
 rcases Nat.lt_trichotomy p i with h|h|h
 ·have hk:p<pl.size:=by lia
  have:=e2 p hk (qt _)
  cases i with
  | zero=>lia
  | succ j=>
    have hj:j<pl.size:=by lia
    simp only[Yeq,Array.getD,hj,dite_true]at this;by_cases e:p=j
    ·subst e;exact absurd this (by simp)
    ·have:=mono p j hk hj (by lia)
     simp at *;lia
 ·exact h
 ·have hk:i<pl.size:=by lia
  have:=e1 i hk h
  cases i with
  | zero=>simp[Yeq]at this
  | succ j=>
    have hj:j<pl.size:=by lia
    have h':=mono j (j+1) hj hk (by lia);simp only[Yeq,Array.getD,hj,dite_true]at this;simp at *;lia
def PInt(vals:AG)(i:Nat)(v:Value):Prop:=∃k t,vals[i]?=some k/\v=.int k t
theorem Yiz{es:Array (Int×Value)}(hel:ElemsOf (intKind prog w) es.toList){e:Int×Value}(he:e∈es.toList):∃t,e.2=.int (kOf e) t:=by
 obtain⟨t,ht⟩:=Yq1 hel he;exact⟨t,by rw[ht];simp[kOf]⟩
theorem Yw5{a:Addr}{ns:AG}(hS:SetI prog w s.heap a ns){Q:AB}
 (hQ:∀(h':Heap) (d':Drawn) (I:Addr) (fp:List Addr) (vals:AG) (St:Nat->Heap->Prop),(∀b o,s.heap.get? b=some o->h'.get? b=some o)->(~~~s)<=I->I∈fp->
  (∀b∈fp,b<h'.objs.size/\(b=a\/(~~~s)<=b))->vals.Perm ns->(∀A':Around,A'.handled=none->Walks prog w A' I fp [I] ns.length (PInt vals) St)->St 0 h'->
  (∀(i:Nat) (s':Shared),St i s'.heap->s'.TypeIs (.ref I) "set_iterator")->Q (.ref I) { s with heap:=h',drawn:=d' }) :
 wpAny (model prog w) A (pyIter (.ref a)) Q E s:=by
 obtain⟨o,es,ep,t,ho,hex,hd,hel,hns,hnd,hb,hf,ht⟩:=hS
 have hT:s.TypeIs (.ref a) "set":=⟨o,ho,hex.1⟩
 have hlen:ns.length=es.size:=by rw[<-hns,qe,qi]
 have hlt:a< ~~~s:=qk ho
 have hsa:SAt s.heap a es ep t:=⟨o,ho,hex,hd,hf⟩
 have hps:t.place.size=es.size:=by
  simp only[SetTable.fits,Qf,beq_iff_eq]at hf;exact hf.1
 refine wpAny_pyIter_slot hT F.slot_set_iter (wf F.slot_set_iter hT Yft ?_ (F.args_set_iter_1 _));unfold Builtin.«frozenset.__iter__»;show wpAny _ _ (Builtin.Frozenset.sizeOf a>>=_) _ _ s;unfold Builtin.Frozenset.sizeOf;refine wa (wa (wpAny_setEntries_of ho hd hf (wc ?_)));refine wa ?_;unfold setDrawn;refine wa (wj ho hd hf ?_);dsimp only;refine wa (Yew (wc ?_))
 have plain:∀(vals:AG) (st:Nat->Nat) (xv:Nat->Value),vals.Perm ns->st 0=0->(∀i,i<es.size->PInt vals i (xv i))->
  (∀(s':Shared) (A':Around) (i:Nat) (E':AB),SAt s'.heap a es ep t->i<es.size->∀Q':Option (Value×Nat)->Shared->Prop,Q' (some (xv i,st (i+1))) s'->wpAny (model prog w) A' (setNext a (st i) i ep) Q' E' s')->
  (∀(s':Shared) (A':Around) (E':AB),SAt s'.heap a es ep t->∀Q':Option (Value×Nat)->Shared->Prop,Q' none s'->wpAny (model prog w) A' (setNext a (st es.size) es.size ep) Q' E' s')->
  wpAny (model prog w) A.in1 (do
   let x <-newFields "set_iterator" [rawInt 0,rawInt 0,.ref a,rawInt es.size,rawInt (<-setEpoch a)]
   ret x) (λfin s'=>∃v,fin=.done (.ret v)/\∃T' r,s'.TypeIs v T'/\typeLookup (.type T') "__next__"=pure (some r)/\Q v s') E s:=by
  intro vals st xv hp h0 hx hi hn;refine wa (wpAny_setEpoch_of ho hd hf ?_);refine wa (wg ?_);refine wc ⟨_,rfl,"set_iterator",_,⟨_,qo _ rfl,rfl⟩,slot_si_next.lookup,?_⟩
  have key:=hQ (s.heap.push { cls:=.type "set_iterator",data:=.fields #[rawInt 0,rawInt 0,.ref a,rawInt es.size,rawInt ep] }) s.drawn (~~~s) [~~~s,a] vals
   (λi h=>SIt h (~~~s) (.int (st i) 0) i a es.size ep/\SAt h a es ep t) (λb o e=>qd _ e) (qt _) (by simp) (λb hb=>by
    rw[wx];rcases qr hb with rfl|hb
    ·exact⟨qy _,.inr (qt _)⟩
    ·rw[List.mem_singleton]at hb
     subst hb
     exact⟨qv hlt,.inl rfl⟩) hp (λA' hA'=>{
    sub:=λb hb=>by simp at hb;simp[hb]
    frame:=λi h h' st' hk=>⟨st'.1.at λo e=>hk _ (by simp) o e,st'.2.at λo e=>hk a (by simp) o e⟩
    item:=λi s' Q' E' hlt' st' hQ'=>by
     refine Ytv st'.1 st'.2 (x:=xv i) (nx:=st (i+1)) (λA2 Q2 E2 hq=>hi s' A2 i E2 st'.2 (by lia) Q2 hq) λh' hit' hs'=>?_;exact hQ' _ h' s'.toks (hx i (by lia)) ⟨hit',st'.2.at λo e=>hs'.extBut a o (λz=>by subst z;exact absurd hlt (Qd _)) e⟩ λb o hb e=>hs'.extBut b o (λz=>hb (by simp[z])) e
    done:=λs' Q' E' st' hQ'=>by
     rw[hlen]at st';exact Ytw hA' st'.1 st'.2 (λA2 Q2 E2 hq=>hn s' A2 E2 st'.2 Q2 hq) λh' he'=>hQ' h' s'.toks λb o hb e=>he' b o (λz=>hb (by simp[z])) e
    self:=λi s' Q' E' st' hQ'=>Yl6 st'.1 hQ' }) ⟨⟨_,qo _ rfl,rfl,by rw[h0];rfl⟩,hsa.at λo e=>qd _ e⟩ (λi s' st'=>st'.1.typeIs)
  exact key
 have hdr:∀b:Bool,(!t.plain&&decide (es.size > 1))=b->wpAny (model prog w) A.in1 (if (!byT w&&b)=true then do
  let first <-newTuple ((<-drawOrder es.size (List.range es.size)).map fun(i:Nat)=>rawInt i)
  let x <-newFields "set_iterator" [first,rawInt 0,.ref a,rawInt es.size,rawInt (<-setEpoch a)]
  ret x
  else do
   let x <-newFields "set_iterator" [rawInt 0,rawInt 0,.ref a,rawInt es.size,rawInt (<-setEpoch a)]
   ret x) (λfin s'=>∃v,fin=.done (.ret v)/\∃T' r,s'.TypeIs v T'/\typeLookup (.type T') "__next__"=pure (some r)/\Q v s') E s:=by
  intro b hbd
  cases hbt:byT w with
  | true=>
    rw[if_neg (by simp)];generalize hor:pickOrder (w.params.setOrder a ep) es=ord
    have hpm:ord.toList.Perm es.toList:=by rw[<-hor];exact Yn1 _ _
    have hos:ord.size=es.size:=by
     have:=hpm.length_eq;simpa using this
    refine plain (ord.toList.map kOf) (λ_=>0) (λi=>(ord.getD i (0,.none)).2) (by rw[<-hns];exact hpm.map kOf) rfl (λi hi=>?_) (λs' A' i E' ha hi Q' hq=>?_) (λs' A' E' ha Q' hq=>?_)
    ·have hi':i<ord.size:=by lia
     obtain⟨u,hu⟩:=Yiz hel (hpm.mem_iff.mp (show ord[i]∈ord.toList by simp));refine⟨kOf ord[i],u,by simp[hi'],?_⟩;simp only[Array.getD,hi',dite_true];exact hu
    ·have hi':i<ord.size:=by lia
     refine Ygn hbt ha ?_;rw[hor,Array.getElem?_eq_getElem hi'];simp only[Array.getD,hi',dite_true]at hq;exact hq
    ·refine Ygn hbt ha ?_
     rw[hor,Array.getElem?_eq_none (by lia)];exact hq
  | false=>
    have hled:=ht.1 hbt
    cases b with
    | false=>
      rw[if_neg (by simp)]
      have hrise:Rise t.place:=by
       cases hpl:t.plain with
       | true=>exact ht.2 hpl
       | false=>
         rw[hpl]at hbd
         have h1:t.place.toList.length<=1:=by
          simp at hbd;rw[qi];lia
         unfold Rise
         match t.place.toList,h1 with
         | [],_=>exact .nil
         | [x],_=>simp
      refine plain ns (Yeq t.place) (λi=>(es.getD i (0,.none)).2) .rfl rfl (λi hi=>?_) (λs' A' i E' ha hi Q' hq=>?_) (λs' A' E' ha Q' hq=>?_)
      ·obtain⟨u,hu⟩:=Yiz hel (show es[i]∈es.toList by simp)
       refine⟨kOf es[i],u,by rw[<-hns];simp[hi],?_⟩;simp only[Array.getD,hi,dite_true];exact hu
      ·refine Ygo hbt hbd hled ha (Yii hrise (by lia)) ?_
       have hi2:i<t.place.size:=by lia
       rw[Array.getElem?_eq_getElem hi,Array.getElem?_eq_getElem hi2];simp only[Array.getD,hi,hi2,dite_true,Yeq]at hq;exact hq
      ·refine Ygo hbt hbd hled ha (Yii hrise (by lia)) ?_
       rw[Array.getElem?_eq_none (qt _)];exact hq
    | true=>
      rw[if_pos (by simp)];refine wa (Yhp es.size (List.range es.size) s _ (by simp) λys d' hp=>?_);simp only[newTuple]
      have hyl:ys.length=es.size:=by rw[hp.length_eq];simp
      refine wa (wg ?_ (by show(ys.map fun(i:Nat)=>rawInt i).toArray.size<=sizeLine;rw[qj,qe,hyl];exact fits_of_scanBound hb));have ho1:((s.heap.push { cls:=.type "tuple",data:=.seq (ys.map fun(i:Nat)=>rawInt i).toArray })).get? a=some o:=qd _ ho;refine wa (wpAny_setEpoch_of (s:={ s with heap:=s.heap.push { cls:=.type "tuple",data:=.seq (ys.map fun(i:Nat)=>rawInt i).toArray },drawn:=d' }) ho1 hd hf ?_);refine wa (wg ?_);refine wc ⟨_,rfl,"set_iterator",_,⟨_,qo _ rfl,rfl⟩,slot_si_next.lookup,?_⟩
      have hmem:∀j∈ys,j<es.size:=λj hj=>by simpa using hp.mem_iff.mp hj
      have hvp:(ys.map λj=>kOf (es.getD j (0,.none))).Perm ns:=by
       rw[<-hns];refine(hp.map _).trans ?_
       have:(List.range es.size).map (λj=>kOf (es.getD j (0,.none)))=es.toList.map kOf:=by
        refine List.ext_getElem (by simp) λi h1 h2=>?_
        have hi:i<es.size:=by simpa using h1
        simp[Array.getD,hi]
       rw[this]
      generalize hH:s.heap.push { cls:=.type "tuple",data:=.seq (ys.map fun(i:Nat)=>rawInt i).toArray }=H at ho1 ⊢
      have hHs:H.objs.size= ~~~s+1:=by rw[<-hH,wx]
      have hT0:H.IsTuple (~~~s) (ys.map fun(i:Nat)=>rawInt i).toArray:=⟨_,by rw[<-hH];exact qo _ rfl,rfl,_,rfl⟩
      have keepH:∀b o,s.heap.get? b=some o->H.get? b=some o:=λb o e=>by rw[<-hH];exact qd _ e
      have haI:a≠H.objs.size:=λz=>by rw[z,hHs]at hlt;exact absurd hlt (Nat.not_lt.mpr (Nat.le_succ _))
      have hTI:(~~~s)≠H.objs.size:=by rw[hHs];exact ql (qy _)
      exact hQ (H.push { cls:=.type "set_iterator",data:=.fields #[.ref (~~~s),rawInt 0,.ref a,rawInt es.size,rawInt ep] }) d' H.objs.size [H.objs.size,a,~~~s] (ys.map λj=>kOf (es.getD j (0,.none)))
       (λi h=>SIt h H.objs.size (.ref (~~~s)) i a es.size ep/\SAt h a es ep t/\h.IsTuple (~~~s) (ys.map fun(i:Nat)=>rawInt i).toArray) (λb o e=>qd _ (keepH b o e)) (by lia) (by simp) (λb hb=>by
        rw[wx];simp only[List.mem_cons,List.not_mem_nil,or_false]at hb;rcases hb with rfl|rfl|rfl
        ·exact⟨qy _,.inr (by rw[hHs];exact Nat.le_succ _)⟩
        ·exact⟨qv (by rw[hHs];exact qv hlt),.inl rfl⟩
        ·exact⟨qv (by rw[hHs];exact qy _),.inr (qt _)⟩) hvp (λA' hA'=>{
        sub:=λb hb=>by simp at hb;simp[hb]
        frame:=λi h h' st' hk=>⟨st'.1.at λo e=>hk _ (by simp) o e,st'.2.1.at λo e=>hk a (by simp) o e,st'.2.2.at λo e=>hk _ (by simp) o e⟩
        item:=λi s' Q' E' hlt' st' hQ'=>by
         have hi:i<ys.length:=by lia
         have hj:=hmem ys[i] (List.getElem_mem hi);refine Yq5 st'.1 st'.2.1 st'.2.2 (j:=ys[i]) (tk:=0) (e:=es[ys[i]]) (by simp[hi,rawInt]) (Array.getElem?_eq_getElem hj) λh' hit' hs'=>?_;refine hQ' _ h' s'.toks ?_ ⟨hit',st'.2.1.at λo e=>hs'.extBut a o haI e,st'.2.2.at λo e=>hs'.extBut _ o hTI e⟩ λb o hb e=>hs'.extBut b o (λz=>hb (by simp[z])) e;obtain⟨u,hu⟩:=Yiz hel (show es[ys[i]]∈es.toList by simp);exact⟨kOf es[ys[i]],u,by simp[hi,Array.getD,hj],hu⟩
        done:=λs' Q' E' st' hQ'=>by
         rw[hlen]at st';exact Yq6 hA' st'.1 st'.2.1 st'.2.2 (by simp[hyl]) λh' he'=>hQ' h' s'.toks λb o hb e=>he' b o (λz=>hb (by simp[z])) e
        self:=λi s' Q' E' st' hQ'=>Yl6 st'.1 hQ' }) ⟨⟨_,qo _ rfl,rfl,rfl⟩,⟨o,qd _ ho1,hex,hd,hf⟩,hT0.push _⟩ (λi s' st'=>st'.1.typeIs)
 exact hdr _ rfl
end
end
section
inductive D where
 | non|bl (b:Bool)|int (i:Int)|str (x:Str)|tup (l:List D)|lst (l:List D)
 | scr (ns:AG)
 | dct (t:Bool) (ks vs:List D)
 | obj (c:Str) (ks:AK) (vs:List D)
 | adr (a:Addr)
abbrev AQ:=List D
mutual
def toPy:D->PyData
 | .non=>.none
 | .bl b=>.bool b
 | .int i=>.int i
 | .str x=>.str x
 | .tup l=>.tuple (Yfp l)
 | .lst l=>.list (Yfp l)
 | .scr ns=>.list (ns.map PyData.int)
 | .dct _ _ _=>.none
 | .obj _ _ _=>.none
 | .adr _=>.none
def Yfp:AQ->List PyData
 | []=>[]
 | d::l=>toPy d::Yfp l
end
def eqD(d e:D):Bool:=PyData.eqv (toPy d) (toPy e)
def eqL(l m:AQ):Bool:=PyData.eqvAll (Yfp l) (Yfp m)
def numV:V->Option Int
 | .int i=>some i
 | .bl b=>some (if b then 1 else 0)
 | _=>none
def y0t:AN->Option AG
 | []=>some []
 | x::r=>(numV x).bind λi=>(y0t r).map (i::·)
def y0u(ks:AG):Int:=reduceHash (Builtin.Tuple.tupleHashOf (ks.map hashInt))
def DtOk(a:Addr)(nks:List (List Int×Addr))(vxs:AN)(ep:Nat)(h:Heap):Prop:=
 (a==sysModules)=false/\∃us o es,Vals vxs us/\h.get? a=some o/\o.ExactDict/\o.data=.dict es ep/\es.toList=(nks.zip us).map λp=>(⟨y0u p.1.1,.ref p.1.2,p.2⟩:DictEntry)
def dTo(a:Addr)(nks:List (List Int×Addr))(vxs:AN)(ep:Nat):HO:=.ext (DtOk a nks vxs ep)
def Dc(t:Bool)(G H:Hp)(a:Addr)(kxs vxs:AN):Prop:=
 (t=false/\∃kvs:List (Key×V),H a=some (.dK kvs)/\(kvs.map (·.1)).Nodup/\kxs=kvs.map (λp=>kV p.1)/\vxs=kvs.map (·.2))\/
 (t=true/\∃(nks:List (List Int×Addr)) (ep:Nat),H a=some (dTo a nks vxs ep)/\nks.length=vxs.length/\(nks.map (·.1)).Nodup/\kxs=nks.map (λp=>V.ref p.2)/\∀p∈nks,∃ys,G p.2=some (.tup ys)/\y0t ys=some p.1)
mutual
def Rp(K:W.Frag)(G:Hp):D->V->Prop
 | .non,v=>v=V.non
 | .bl b,v=>v=V.bl b
 | .int i,v=>v=V.int i
 | .str x,v=>v=V.str x/\PyData.strOk x=true
 | .tup l,v=>∃a xs,v=V.ref a/\G a=some (HO.tup xs)/\RpL K G l xs
 | .lst l,v=>∃a xs,v=V.ref a/\Rd G a (HO.lst xs)/\RpL K G l xs
 | .scr ns,v=>∃a,v=V.ref a/\SqL K G a (ns.map V.int)
 | .dct t ks vs,v=>∃a kxs vxs,v=V.ref a/\Dc t G G a kxs vxs/\RpL K G ks kxs/\RpL K G vs vxs
 | .obj c ks vs,v=>∃a C dx xs,v=V.ref a/\W.nsIn K mainGlobals c=some (some (.ref C))/\G a=some (HO.ins C dx (ks.zip xs))/\xs.length=ks.length/\RpL K G vs xs
 | .adr a,v=>v=V.ref a
def RpL(K:W.Frag)(G:Hp):AQ->AN->Prop
 | [],xs=>xs=[]
 | d::l,xs=>∃x r,xs=x::r/\Rp K G d x/\RpL K G l r
end
variable {K:W.Frag}
theorem Ya3{G G':Hp}(h:Same G G'){a:Addr}{u:HO}(r:Rd G a u):Rd G' a u:=by
 rcases r with r|⟨o,r⟩
 ·exact .inl (h _ _ r)
 ·exact .inr ⟨o,h _ _ r⟩
theorem Dc.mono{t:Bool}{G G' H H':Hp}(g:Same G G'){a:Addr}{kxs vxs:AN}(h:∀o,H a=some o->H' a=some o)(d:Dc t G H a kxs vxs):Dc t G' H' a kxs vxs:=by
 rcases d with⟨e,kvs,h1,h2⟩|⟨e,nks,ep,h1,h2,h3,h4,h5⟩
 ·exact .inl ⟨e,kvs,h _ h1,h2⟩
 ·refine .inr ⟨e,nks,ep,h _ h1,h2,h3,h4,λp hp=>?_⟩
  obtain⟨ys,q1,q2⟩:=h5 p hp;exact⟨ys,g _ _ q1,q2⟩
theorem Dc.someT{t:Bool}{G H:Hp}{a:Addr}{kxs vxs:AN}(d:Dc t G H a kxs vxs):∃o,H a=some o/\∀xs,o≠.tup xs:=by
 rcases d with⟨_,kvs,h1,_⟩|⟨_,nks,ep,h1,_⟩
 ·exact⟨_,h1,λxs z=>by cases z⟩
 ·exact⟨_,h1,λxs z=>by cases z⟩
theorem Dc.some{t:Bool}{G H:Hp}{a:Addr}{kxs vxs:AN}(d:Dc t G H a kxs vxs):∃o,H a=some o/\∀xs,o≠.lst xs:=by
 rcases d with⟨_,kvs,h1,_⟩|⟨_,nks,ep,h1,_⟩
 ·exact⟨_,h1,λxs z=>by cases z⟩
 ·exact⟨_,h1,λxs z=>by cases z⟩
mutual
theorem Rp.mono{G G':Hp}(h:Same G G'):∀{d:D}{v:V},Rp K G d v->Rp K G' d v
 | .non,_,r=>by rw[Rp]at r ⊢;exact r
 | .bl _,_,r=>by rw[Rp]at r ⊢;exact r
 | .int _,_,r=>by rw[Rp]at r ⊢;exact r
 | .str _,_,r=>by rw[Rp]at r ⊢;exact r
 | .tup l,_,r=>by
   rw[Rp]at r ⊢;obtain⟨a,xs,e,g,q⟩:=r;exact⟨a,xs,e,h _ _ g,RpL.mono h q⟩
 | .lst l,_,r=>by
   rw[Rp]at r ⊢;obtain⟨a,xs,e,g,q⟩:=r;exact⟨a,xs,e,Ya3 h g,RpL.mono h q⟩
 | .scr ns,_,r=>by
   rw[Rp]at r ⊢;obtain⟨a,e,g⟩:=r;exact⟨a,e,h.seq g⟩
 | .dct t ks vs,_,r=>by
   rw[Rp]at r ⊢;obtain⟨a,kxs,vxs,e,g,q1,q2⟩:=r;exact⟨a,kxs,vxs,e,g.mono h λo=>h _ o,RpL.mono h q1,RpL.mono h q2⟩
 | .obj c ks vs,_,r=>by
   rw[Rp]at r ⊢;obtain⟨a,C,dx,xs,e,n,g,l,q⟩:=r;exact⟨a,C,dx,xs,e,n,h _ _ g,l,RpL.mono h q⟩
 | .adr _,_,r=>by rw[Rp]at r ⊢;exact r
theorem RpL.mono{G G':Hp}(h:Same G G'):∀{l:AQ}{xs:AN},RpL K G l xs->RpL K G' l xs
 | [],_,r=>by rw[RpL]at r ⊢;exact r
 | d::l,_,r=>by
   rw[RpL]at r ⊢;obtain⟨x,xs,e,g,q⟩:=r;exact⟨x,xs,e,Rp.mono h g,RpL.mono h q⟩
end
section
variable {G:Hp}
theorem RpL.length:∀{l:AQ}{xs:AN},RpL K G l xs->xs.length=l.length
 | [],_,r=>by rw[RpL]at r;subst r;rfl
 | d::l,_,r=>by
   rw[RpL]at r;obtain⟨x,xs,rfl,_,q⟩:=r;simp[RpL.length q]
theorem RpL.get:∀{l:AQ}{xs:AN}{i:Nat}{d:D},RpL K G l xs->l[i]?=some d->∃x,xs[i]?=some x/\Rp K G d x
 | [],_,_,_,_,e=>by simp at e
 | d::l,_,0,_,r,e=>by
   rw[RpL]at r;obtain⟨x,xs,rfl,g,q⟩:=r;simp at e;subst e;exact⟨x,rfl,g⟩
 | d::l,_,i+1,_,r,e=>by
   rw[RpL]at r;obtain⟨x,xs,rfl,g,q⟩:=r;obtain⟨y,h1,h2⟩:=RpL.get (i:=i) q (by simpa using e);exact⟨y,by simpa using h1,h2⟩
theorem RpL.nil:RpL K G [] []:=by rw[RpL]
theorem RpL.cons{d:D}{l:AQ}{x:V}{xs:AN}(h:Rp K G d x)(q:RpL K G l xs):RpL K G (d::l) (x::xs):=by rw[RpL];exact⟨x,xs,rfl,h,q⟩
theorem RpL.append:∀{l m:AQ}{xs ys:AN},RpL K G l xs->RpL K G m ys->RpL K G (l++m) (xs++ys)
 | [],_,_,_,r,q=>by rw[RpL]at r;subst r;exact q
 | d::l,m,_,ys,r,q=>by
   rw[RpL]at r;obtain⟨x,xs,rfl,g,r⟩:=r;exact .cons g (RpL.append r q)
theorem RpL.one{d:D}{x:V}(h:Rp K G d x):RpL K G [d] [x]:=.cons h .nil
theorem RpL.set:∀{l:AQ}{xs:AN} (i:Nat) {d:D}{x:V},RpL K G l xs->Rp K G d x->RpL K G (l.set i d) (xs.set i x)
 | [],_,_,_,_,r,_=>by rw[RpL]at r;subst r;exact .nil
 | e::l,_,0,_,_,r,h=>by
   rw[RpL]at r;obtain⟨x,xs,rfl,g,r⟩:=r;exact .cons h r
 | e::l,_,i+1,_,_,r,h=>by
   rw[RpL]at r;obtain⟨x,xs,rfl,g,r⟩:=r;exact .cons g (RpL.set i r h)
theorem RpL.take:∀{l:AQ}{xs:AN} (n:Nat),RpL K G l xs->RpL K G (l.take n) (xs.take n)
 | _,_,0,_=>by rw[List.take_zero,List.take_zero];exact .nil
 | [],_,_+1,r=>by rw[RpL]at r;subst r;exact .nil
 | d::l,_,n+1,r=>by
   rw[RpL]at r;obtain⟨x,xs,rfl,g,r⟩:=r;exact .cons g (RpL.take n r)
theorem RpL.drop:∀{l:AQ}{xs:AN} (n:Nat),RpL K G l xs->RpL K G (l.drop n) (xs.drop n)
 | _,_,0,r=>r
 | [],_,_+1,r=>by rw[RpL]at r;subst r;exact .nil
 | d::l,_,n+1,r=>by
   rw[RpL]at r;obtain⟨x,xs,rfl,g,r⟩:=r;exact RpL.drop n r
theorem RpL.ints:∀(ns:AG),RpL K G (ns.map D.int) (ns.map V.int)
 | []=>.nil
 | n::ns=>.cons (by rw[Rp]) (RpL.ints ns)
end
structure Gr(H G H' G':Hp):Prop where
 h:Same H H'
 g:Same G G'
 s:Same G' H'
 n:∀a,G a=none->G' a≠none->H a=none
theorem Gr.refl{H G:Hp}(s:Same G H):Gr H G H G:=⟨Same.refl _,Same.refl _,s,λ_ h h'=>absurd h h'⟩
theorem Gr.trans{H G H1 G1 H2 G2:Hp}(a:Gr H G H1 G1)(b:Gr H1 G1 H2 G2):Gr H G H2 G2:=
 ⟨a.h.trans b.h,a.g.trans b.g,b.s,λx h h'=>by
  by_cases e:G1 x=none
  ·exact a.h.free (b.n x e h')
  ·exact a.n x h e⟩
theorem Gr.new{H G:Hp}(s:Same G H){p:Addr}(hp:H p=none)(o:HO):Gr H G (upd H p o) (upd G p o):=by
 have gp:G p=none:=s.free hp;refine⟨λb u e=>?_,λb u e=>?_,λb u e=>?_,λb h h'=>?_⟩
 ·rw[Yo (Yr e hp)];exact e
 ·rw[Yo (Yr e gp)];exact e
 ·by_cases q:b=p
  ·subst q;rw[Yv]at e ⊢;exact e
  ·rw[Yo q]at e ⊢;exact s _ _ e
 ·by_cases q:b=p
  ·subst q;exact hp
  ·rw[Yo q]at h';exact absurd h h'
theorem Gr.hid{H G:Hp}(s:Same G H){p:Addr}(hp:H p=none)(o:HO):Gr H G (upd H p o) G:=by
 have gp:G p=none:=s.free hp;refine⟨λb u e=>?_,Same.refl _,λb u e=>?_,λb h h'=>absurd h h'⟩
 ·rw[Yo (Yr e hp)];exact e
 ·rw[Yo (Yr e gp)];exact s _ _ e
theorem Gr.show{H G H' G':Hp}(g:Gr H G H' G'){p:Addr}{o:HO}(hp:H p=none)(gp:G' p=none)(e:H' p=some o):Gr H G H' (upd G' p o):=by
 refine⟨g.h,λb u q=>?_,λb u q=>?_,λb h h'=>?_⟩
 ·have:=g.g b u q
  rw[Yo (Yr this gp)];exact this
 ·by_cases z:b=p
  ·subst z;rw[Yv]at q;rw[e];exact q
  ·rw[Yo z]at q;exact g.s b u q
 ·by_cases z:b=p
  ·subst z;exact hp
  ·rw[Yo z]at h';exact g.n b h h'
def Ct(K:W.Frag)(G H:Hp):D->V->Prop
 | .non,v=>v=V.non
 | .bl b,v=>v=V.bl b
 | .int i,v=>v=V.int i
 | .str x,v=>v=V.str x/\PyData.strOk x=true
 | .tup l,v=>∃a xs,v=V.ref a/\(H a=some (HO.tup xs)/\G a=some (HO.tup xs))/\RpL K G l xs
 | .lst l,v=>∃a xs,v=V.ref a/\Rd H a (HO.lst xs)/\RpL K G l xs
 | .scr ns,v=>∃a,v=V.ref a/\SqL K H a (ns.map V.int)
 | .dct t ks vs,v=>∃a kxs vxs,v=V.ref a/\Dc t G H a kxs vxs/\RpL K G ks kxs/\RpL K G vs vxs
 | .obj c ks vs,v=>∃a C dx xs,v=V.ref a/\W.nsIn K mainGlobals c=some (some (.ref C))/\G a=some (HO.ins C dx (ks.zip xs))/\xs.length=ks.length/\RpL K G vs xs
 | .adr a,v=>v=V.ref a
theorem Ct.of{G H:Hp}(s:Same G H){d:D}{v:V}(r:Rp K G d v):Ct K G H d v:=by
 cases d<;>rw[Rp]at r<;>rw[Ct]
 ·exact r
 ·exact r
 ·exact r
 ·exact r
 ·obtain⟨a,xs,e,g,q⟩:=r
  exact⟨a,xs,e,⟨s _ _ g,g⟩,q⟩
 ·obtain⟨a,xs,e,g,q⟩:=r
  exact⟨a,xs,e,Ya3 s g,q⟩
 ·obtain⟨a,e,g⟩:=r
  exact⟨a,e,s.seq g⟩
 ·obtain⟨a,kxs,vxs,e,g,q1,q2⟩:=r
  exact⟨a,kxs,vxs,e,g.mono (Same.refl _) λo=>s _ o,q1,q2⟩
 ·exact r
 ·exact r
theorem Ct.rp{G H:Hp}(s:Same G H){d:D}{v:V}(r:Ct K G H d v):Rp K H d v:=by
 cases d<;>rw[Ct]at r<;>rw[Rp]
 ·exact r
 ·exact r
 ·exact r
 ·exact r
 ·obtain⟨a,xs,e,g,q⟩:=r
  exact⟨a,xs,e,g.1,q.mono s⟩
 ·obtain⟨a,xs,e,g,q⟩:=r
  exact⟨a,xs,e,g,q.mono s⟩
 ·exact r
 ·obtain⟨a,kxs,vxs,e,g,q1,q2⟩:=r
  exact⟨a,kxs,vxs,e,g.mono s λ_ z=>z,q1.mono s,q2.mono s⟩
 ·obtain⟨a,C,dx,xs,e,n,g,l,q⟩:=r
  exact⟨a,C,dx,xs,e,n,s _ _ g,l,q.mono s⟩
 ·exact r
theorem Ct.grow{G H G' H':Hp}(g:Gr H G H' G'){d:D}{v:V}(r:Ct K G H d v):Ct K G' H' d v:=by
 cases d<;>rw[Ct]at r<;>rw[Ct]
 ·exact r
 ·exact r
 ·exact r
 ·exact r
 ·obtain⟨a,xs,e,h,q⟩:=r
  exact⟨a,xs,e,⟨g.h _ _ h.1,g.g _ _ h.2⟩,q.mono g.g⟩
 ·obtain⟨a,xs,e,h,q⟩:=r
  exact⟨a,xs,e,Ya3 g.h h,q.mono g.g⟩
 ·obtain⟨a,e,h⟩:=r
  exact⟨a,e,g.h.seq h⟩
 ·obtain⟨a,kxs,vxs,e,h,q1,q2⟩:=r
  exact⟨a,kxs,vxs,e,h.mono g.g λo=>g.h _ o,q1.mono g.g,q2.mono g.g⟩
 ·obtain⟨a,C,dx,xs,e,n,h,l,q⟩:=r
  exact⟨a,C,dx,xs,e,n,g.g _ _ h,l,q.mono g.g⟩
 ·exact r
def CtL(K:W.Frag)(G H:Hp):AQ->AN->Prop
 | [],xs=>xs=[]
 | d::l,xs=>∃x r,xs=x::r/\Ct K G H d x/\CtL K G H l r
inductive B where
 | sh (d:D)|ow (l:AQ)|od (t:Bool) (ks vs:AQ)
abbrev AR:=Option B
abbrev Ro:=List AR
abbrev AW:=Ro->Option AQ
abbrev AV:=Ro->Option D
abbrev AU:=Ro->Option Bool
abbrev AT:=D->Ro->Option Ro
structure SR(K:W.Frag)(H0 G0:Hp)(σ:L2.St)(H G:Hp)(ρ:Ro):Prop where
 gr:Gr H0 G0 H G
 len:σ.length=ρ.length
 sh:∀(i:Nat) d,ρ[i]?=some (some (B.sh d))->∃v,σ[i]?=some (some v)/\Rp K G d v
 ow:∀(i:Nat) l,ρ[i]?=some (some (B.ow l))->∃a xs,σ[i]?=some (some (V.ref a))/\G a=none/\H0 a=none/\H a=some (.lst xs)/\RpL K G l xs
 ap:∀(i j:Nat) l l' a b,ρ[i]?=some (some (B.ow l))->ρ[j]?=some (some (B.ow l'))->i≠j->σ[i]?=some (some (V.ref a))->σ[j]?=some (some (V.ref b))->a≠b
 od:∀(i:Nat) t ks vs,ρ[i]?=some (some (B.od t ks vs))->∃a kxs vxs,σ[i]?=some (some (V.ref a))/\G a=none/\H0 a=none/\Dc t G H a kxs vxs/\RpL K G ks kxs/\RpL K G vs vxs
 apd:∀(i j:Nat) t ks vs t' ks' vs' a b,ρ[i]?=some (some (B.od t ks vs))->ρ[j]?=some (some (B.od t' ks' vs'))->i≠j->σ[i]?=some (some (V.ref a))->σ[j]?=some (some (V.ref b))->a≠b
section
variable {H0 G0 H G H' G':Hp}{σ:L2.St}{ρ:Ro}
theorem SR.mkSh(g:Gr H0 G0 H G)(len:σ.length=ρ.length)(sh:∀(i:Nat) d,ρ[i]?=some (some (B.sh d))->∃v,σ[i]?=some (some v)/\Rp K G d v)(no:∀(i:Nat) l,ρ[i]?≠some (some (B.ow l)))(no':∀(i:Nat) t ks vs,ρ[i]?≠some (some (B.od t ks vs))):SR K H0 G0 σ H G ρ:=
 ⟨g,len,sh,λi l h=>absurd h (no i l),λi j l l' a b h=>absurd h (no i l),λi t ks vs h=>absurd h (no' i t ks vs),λi j t ks vs t' ks' vs' a b h=>absurd h (no' i t ks vs)⟩
theorem Yi0(g:Gr H G H' G'){a:Addr}{o:HO}(h:H a=some o)(n:G a=none):G' a=none:=by
 cases q:G' a with
 | none=>rfl
 | some o=>
   have:=g.n a n (by rw[q];exact λz=>nomatch z);rw[h]at this;cases this
theorem SR.grow(s:SR K H0 G0 σ H G ρ)(g:Gr H G H' G'):SR K H0 G0 σ H' G' ρ:=by
 refine⟨s.gr.trans g,s.len,λi d e=>?_,λi l e=>?_,s.ap,λi t ks vs e=>?_,s.apd⟩
 ·obtain⟨v,h1,h2⟩:=s.sh i d e
  exact⟨v,h1,h2.mono g.g⟩
 ·obtain⟨a,xs,h1,h2,h3,h4,h5⟩:=s.ow i l e
  exact⟨a,xs,h1,Yi0 g h4 h2,h3,g.h _ _ h4,h5.mono g.g⟩
 ·obtain⟨a,kxs,vxs,h1,h2,h3,h4,h5,h6⟩:=s.od i t ks vs e
  obtain⟨o,h7,_⟩:=h4.some;exact⟨a,kxs,vxs,h1,Yi0 g h7 h2,h3,h4.mono g.g λo=>g.h _ o,h5.mono g.g,h6.mono g.g⟩
theorem SR.seen(s:SR K H0 G0 σ H G ρ):Same G H:=s.gr.s
theorem Yi{α:Type}{l:List α}{i j:Nat}{x y:α}(h:(l.set i x)[j]?=some y):(j=i/\y=x/\i<l.length)\/(j≠i/\l[j]?=some y):=by
 by_cases e:j=i
 ·subst e
  have hl:j<l.length:=by
   have:=(qm h).1;simpa using this
  rw[Qh hl]at h;exact .inl ⟨rfl,(w9 h).symm,hl⟩
 ·rw[Qa (Ne.symm e)]at h
  exact .inr ⟨e,h⟩
theorem SR.set_sh(s:SR K H0 G0 σ H G ρ)(i:Nat){d:D}{v:V}(r:Rp K G d v):SR K H0 G0 (σ.set i (some v)) H G (ρ.set i (some (.sh d))):=by
 refine⟨s.gr,by simp[s.len],λj e h=>?_,λj l h=>?_,λj k l l' a b h1 h2 h3 h4 h5=>?_,λj t ks vs h=>?_,λj k t ks vs t' ks' vs' a b h1 h2 h3 h4 h5=>?_⟩
 ·rcases Yi h with⟨rfl,e1,hl⟩|⟨hj,h⟩
  ·cases e1
   exact⟨v,by rw[Qh (by rw[s.len];exact hl)],r⟩
  ·obtain⟨w,q1,q2⟩:=s.sh j e h
   exact⟨w,by rw[Qa (Ne.symm hj)];exact q1,q2⟩
 ·rcases Yi h with⟨rfl,e1,hl⟩|⟨hj,h⟩
  ·cases e1
  ·obtain⟨a,xs,q1,q2⟩:=s.ow j l h
   exact⟨a,xs,by rw[Qa (Ne.symm hj)];exact q1,q2⟩
 ·rcases Yi h1 with⟨rfl,e1,_⟩|⟨hj,h1⟩
  ·cases e1
  ·rcases Yi h2 with⟨rfl,e1,_⟩|⟨hk,h2⟩
   ·cases e1
   ·rw[Qa (Ne.symm hj)]at h4
    rw[Qa (Ne.symm hk)]at h5;exact s.ap j k l l' a b h1 h2 h3 h4 h5
 ·rcases Yi h with⟨rfl,e1,hl⟩|⟨hj,h⟩
  ·cases e1
  ·obtain⟨a,kxs,vxs,q1,q2⟩:=s.od j t ks vs h
   exact⟨a,kxs,vxs,by rw[Qa (Ne.symm hj)];exact q1,q2⟩
 ·rcases Yi h1 with⟨rfl,e1,_⟩|⟨hj,h1⟩
  ·cases e1
  ·rcases Yi h2 with⟨rfl,e1,_⟩|⟨hk,h2⟩
   ·cases e1
   ·rw[Qa (Ne.symm hj)]at h4
    rw[Qa (Ne.symm hk)]at h5;exact s.apd j k t ks vs t' ks' vs' a b h1 h2 h3 h4 h5
theorem SR.set_ow(s:SR K H0 G0 σ H G ρ)(i:Nat){l:AQ}{p:Addr}{xs:AN}(g:Gr H G H' G')(hp:H p=none)(gp:G' p=none)(e:H' p=some (.lst xs))(r:RpL K G' l xs):SR K H0 G0 (σ.set i (some (.ref p))) H' G' (ρ.set i (some (.ow l))):=by
 have s':=s.grow g
 have np:∀(j:Nat) l a,ρ[j]?=some (some (B.ow l))->σ[j]?=some (some (V.ref a))->a≠p:=λj l a h1 h2 z=>by
  obtain⟨b,ys,q1,_,_,q4,_⟩:=s.ow j l h1;rw[h2]at q1;cases q1;rw[z,hp]at q4;cases q4
 refine⟨s'.gr,by simp[s.len],λj e h=>?_,λj l h=>?_,λj k l l' a b h1 h2 h3 h4 h5=>?_,λj t ks vs h=>?_,λj k t ks vs t' ks' vs' a b h1 h2 h3 h4 h5=>?_⟩
 ·rcases Yi h with⟨rfl,e1,hl⟩|⟨hj,h⟩
  ·cases e1
  ·obtain⟨w,q1,q2⟩:=s'.sh j e h
   exact⟨w,by rw[Qa (Ne.symm hj)];exact q1,q2⟩
 ·rcases Yi h with⟨rfl,e1,hl⟩|⟨hj,h⟩
  ·cases e1
   exact⟨p,xs,by rw[Qh (by rw[s.len];exact hl)],gp,s.gr.h.free hp,e,r⟩
  ·obtain⟨a,xs,q1,q2⟩:=s'.ow j l h
   exact⟨a,xs,by rw[Qa (Ne.symm hj)];exact q1,q2⟩
 ·rcases Yi h1 with⟨rfl,e1,hl⟩|⟨hj,h1n⟩
  ·rcases Yi h2 with⟨rfl,e2,_⟩|⟨hk,h2⟩
   ·exact absurd rfl h3
   ·rw[Qh (by rw[s.len];exact hl)]at h4
    cases h4;rw[Qa (Ne.symm hk)]at h5;exact Ne.symm (np k l' b h2 h5)
  ·rcases Yi h2 with⟨rfl,e2,hl⟩|⟨hk,h2⟩
   ·rw[Qh (by rw[s.len];exact hl)]at h5
    cases h5;rw[Qa (Ne.symm hj)]at h4;exact np j l a h1n h4
   ·rw[Qa (Ne.symm hj)]at h4
    rw[Qa (Ne.symm hk)]at h5;exact s.ap j k l l' a b h1n h2 h3 h4 h5
 ·rcases Yi h with⟨rfl,e1,hl⟩|⟨hj,h⟩
  ·cases e1
  ·obtain⟨a,kxs,vxs,q1,q2⟩:=s'.od j t ks vs h
   exact⟨a,kxs,vxs,by rw[Qa (Ne.symm hj)];exact q1,q2⟩
 ·rcases Yi h1 with⟨rfl,e1,_⟩|⟨hj,h1⟩
  ·cases e1
  ·rcases Yi h2 with⟨rfl,e1,_⟩|⟨hk,h2⟩
   ·cases e1
   ·rw[Qa (Ne.symm hj)]at h4
    rw[Qa (Ne.symm hk)]at h5;exact s.apd j k t ks vs t' ks' vs' a b h1 h2 h3 h4 h5
theorem SR.set_od(s:SR K H0 G0 σ H G ρ)(i:Nat){t:Bool}{ks vs:AQ}{p:Addr}{kxs vxs:AN}(g:Gr H G H' G')(hp:H p=none)(gp:G' p=none)(e:Dc t G' H' p kxs vxs)(r1:RpL K G' ks kxs)(r2:RpL K G' vs vxs):SR K H0 G0 (σ.set i (some (.ref p))) H' G' (ρ.set i (some (.od t ks vs))):=by
 have s':=s.grow g
 have np:∀(j:Nat) t ks vs a,ρ[j]?=some (some (B.od t ks vs))->σ[j]?=some (some (V.ref a))->a≠p:=λj t ks vs a h1 h2 z=>by
  obtain⟨b,kxs,vxs,q1,_,_,q4,_⟩:=s.od j t ks vs h1;rw[h2]at q1;cases q1;obtain⟨o,q5,_⟩:=q4.some;rw[z,hp]at q5;cases q5
 refine⟨s'.gr,by simp[s.len],λj e h=>?_,λj l h=>?_,λj k l l' a b h1 h2 h3 h4 h5=>?_,λj t ks vs h=>?_,λj k t ks vs t' ks' vs' a b h1 h2 h3 h4 h5=>?_⟩
 ·rcases Yi h with⟨rfl,e1,hl⟩|⟨hj,h⟩
  ·cases e1
  ·obtain⟨w,q1,q2⟩:=s'.sh j e h
   exact⟨w,by rw[Qa (Ne.symm hj)];exact q1,q2⟩
 ·rcases Yi h with⟨rfl,e1,hl⟩|⟨hj,h⟩
  ·cases e1
  ·obtain⟨a,xs,q1,q2⟩:=s'.ow j l h
   exact⟨a,xs,by rw[Qa (Ne.symm hj)];exact q1,q2⟩
 ·rcases Yi h1 with⟨rfl,e1,_⟩|⟨hj,h1⟩
  ·cases e1
  ·rcases Yi h2 with⟨rfl,e1,_⟩|⟨hk,h2⟩
   ·cases e1
   ·rw[Qa (Ne.symm hj)]at h4
    rw[Qa (Ne.symm hk)]at h5;exact s.ap j k l l' a b h1 h2 h3 h4 h5
 ·rcases Yi h with⟨rfl,e1,hl⟩|⟨hj,h⟩
  ·cases e1
   exact⟨p,kxs,vxs,by rw[Qh (by rw[s.len];exact hl)],gp,s.gr.h.free hp,e,r1,r2⟩
  ·obtain⟨a,kxs,vxs,q1,q2⟩:=s'.od j t ks vs h
   exact⟨a,kxs,vxs,by rw[Qa (Ne.symm hj)];exact q1,q2⟩
 ·rcases Yi h1 with⟨rfl,e1,hl⟩|⟨hj,h1n⟩
  ·rcases Yi h2 with⟨rfl,e2,_⟩|⟨hk,h2⟩
   ·exact absurd rfl h3
   ·rw[Qh (by rw[s.len];exact hl)]at h4
    cases h4;rw[Qa (Ne.symm hk)]at h5;exact Ne.symm (np k t' ks' vs' b h2 h5)
  ·rcases Yi h2 with⟨rfl,e2,hl⟩|⟨hk,h2⟩
   ·rw[Qh (by rw[s.len];exact hl)]at h5
    cases h5;rw[Qa (Ne.symm hj)]at h4;exact np j t ks vs a h1n h4
   ·rw[Qa (Ne.symm hj)]at h4
    rw[Qa (Ne.symm hk)]at h5;exact s.apd j k t ks vs t' ks' vs' a b h1n h2 h3 h4 h5
theorem SR.mut(s:SR K H0 G0 σ H G ρ){i:Nat}{l l':AQ}{a:Addr}{ys:AN}(hi:ρ[i]?=some (some (B.ow l)))(ha:σ[i]?=some (some (V.ref a)))(r:RpL K G l' ys):SR K H0 G0 σ (upd H a (.lst ys)) G (ρ.set i (some (.ow l'))):=by
 obtain⟨a',xs,q1,q2,q3,q4,q5⟩:=s.ow i l hi;rw[ha]at q1;cases q1;have hl:i<ρ.length:=(qm hi).1;refine⟨⟨λb o e=>?_,s.gr.g,λb o e=>?_,s.gr.n⟩,by simp[s.len],λj e h=>?_,λj m h=>?_,λj k m m' b c h1 h2 h3 h4 h5=>?_,λj t ks vs h=>?_,λj k t ks vs t' ks' vs' b c h1 h2 h3 h4 h5=>?_⟩
 ·rw[Yo (Yr e q3)];exact s.gr.h b o e
 ·rw[Yo (Yr e q2)];exact s.gr.s b o e
 ·rcases Yi h with⟨rfl,e1,_⟩|⟨hj,h⟩
  ·cases e1
  ·exact s.sh j e h
 ·rcases Yi h with⟨rfl,e1,_⟩|⟨hj,h⟩
  ·cases e1
   exact⟨a,ys,ha,q2,q3,Yv,r⟩
  ·obtain⟨b,zs,p1,p2,p3,p4,p5⟩:=s.ow j m h
   exact⟨b,zs,p1,p2,p3,by rw[Yo (s.ap j i m l b a h hi hj p1 ha)];exact p4,p5⟩
 ·have old:∀(j:Nat) m,(ρ.set i (some (.ow l')))[j]?=some (some (B.ow m))->∃m',ρ[j]?=some (some (B.ow m')):=λj m h=>by
   rcases Yi h with⟨rfl,_,_⟩|⟨_,h⟩
   ·exact⟨l,hi⟩
   ·exact⟨m,h⟩
  obtain⟨n1,e1⟩:=old j m h1;obtain⟨n2,e2⟩:=old k m' h2;exact s.ap j k n1 n2 b c e1 e2 h3 h4 h5
 ·rcases Yi h with⟨rfl,e1,_⟩|⟨hj,h⟩
  ·cases e1
  ·obtain⟨b,kxs,vxs,p1,p2,p3,p4,p5⟩:=s.od j t ks vs h
   refine⟨b,kxs,vxs,p1,p2,p3,p4.mono (Same.refl _) λo q=>?_,p5⟩;obtain⟨o',q',nl⟩:=p4.some;rw[q]at q';cases q';rw[Yo (λz=>by rw[z,q4]at q;cases q;exact nl _ rfl)];exact q
 ·rcases Yi h1 with⟨rfl,e1,_⟩|⟨hj,h1⟩
  ·cases e1
  ·rcases Yi h2 with⟨rfl,e1,_⟩|⟨hk,h2⟩
   ·cases e1
   ·exact s.apd j k t ks vs t' ks' vs' b c h1 h2 h3 h4 h5
theorem SR.mutd(s:SR K H0 G0 σ H G ρ){i:Nat}{t t':Bool}{ks vs ks' vs':AQ}{a:Addr}{o:HO}{kxs vxs:AN}(hi:ρ[i]?=some (some (B.od t ks vs)))(ha:σ[i]?=some (some (V.ref a)))(d:Dc t' G (upd H a o) a kxs vxs)(r1:RpL K G ks' kxs)(r2:RpL K G vs' vxs):SR K H0 G0 σ (upd H a o) G (ρ.set i (some (.od t' ks' vs'))):=by
 obtain⟨a',kxs0,vxs0,q1,q2,q3,q4,q5,q6⟩:=s.od i t ks vs hi;rw[ha]at q1;cases q1;obtain⟨o0,q7,nl⟩:=q4.some;have hl:i<ρ.length:=(qm hi).1;refine⟨⟨λb o e=>?_,s.gr.g,λb o e=>?_,s.gr.n⟩,by simp[s.len],λj e h=>?_,λj m h=>?_,λj k m m' b c h1 h2 h3 h4 h5=>?_,λj ta ka va h=>?_,λj k ta ka va tb kb vb b c h1 h2 h3 h4 h5=>?_⟩
 ·rw[Yo (Yr e q3)];exact s.gr.h b o e
 ·rw[Yo (Yr e q2)];exact s.gr.s b o e
 ·rcases Yi h with⟨rfl,e1,_⟩|⟨hj,h⟩
  ·cases e1
  ·exact s.sh j e h
 ·rcases Yi h with⟨rfl,e1,_⟩|⟨hj,h⟩
  ·cases e1
  ·obtain⟨b,zs,p1,p2,p3,p4,p5⟩:=s.ow j m h
   exact⟨b,zs,p1,p2,p3,by rw[Yo (λz=>by rw[z,q7]at p4;cases p4;exact nl _ rfl)];exact p4,p5⟩
 ·rcases Yi h1 with⟨rfl,e1,_⟩|⟨hj,h1⟩
  ·cases e1
  ·rcases Yi h2 with⟨rfl,e1,_⟩|⟨hk,h2⟩
   ·cases e1
   ·exact s.ap j k m m' b c h1 h2 h3 h4 h5
 ·rcases Yi h with⟨rfl,e1,_⟩|⟨hj,h⟩
  ·cases e1
   exact⟨a,kxs,vxs,ha,q2,q3,d,r1,r2⟩
  ·obtain⟨b,kx,vx,p1,p2,p3,p4,p5⟩:=s.od j ta ka va h
   exact⟨b,kx,vx,p1,p2,p3,p4.mono (Same.refl _) λo q=>by rw[Yo (s.apd j i _ _ _ _ _ _ b a h hi hj p1 ha)];exact q,p5⟩
 ·have old:∀(j:Nat) t2 k2 v2,(ρ.set i (some (.od t' ks' vs')))[j]?=some (some (B.od t2 k2 v2))->∃t3 k3 v3,ρ[j]?=some (some (B.od t3 k3 v3)):=λj t2 k2 v2 h=>by
   rcases Yi h with⟨rfl,_,_⟩|⟨_,h⟩
   ·exact⟨_,_,_,hi⟩
   ·exact⟨_,_,_,h⟩
  obtain⟨t1,k1,v1,e1⟩:=old j _ _ _ h1;obtain⟨t2,k2,v2,e2⟩:=old k _ _ _ h2;exact s.apd j k t1 k1 v1 t2 k2 v2 b c e1 e2 h3 h4 h5
theorem SR.freezeT(s:SR K H0 G0 σ H G ρ){i:Nat}{l:AQ}(hi:ρ[i]?=some (some (B.ow l))):∃G',SR K H0 G0 σ H G' (ρ.set i (some (.sh (.lst l))))/\∀b ys,G' b=some (.tup ys)->G b=some (.tup ys):=by
 obtain⟨a,xs,q1,q2,q3,q4,q5⟩:=s.ow i l hi;have hl:i<ρ.length:=(qm hi).1
 have sm:Same G (upd G a (.lst xs)):=λb o e=>by rw[Yo (Yr e q2)];exact e
 refine⟨upd G a (.lst xs),?_,λb ys e=>by
  by_cases z:b=a
  ·subst z;rw[Yv]at e;cases e
  ·rw[Yo z]at e;exact e⟩
 refine⟨⟨s.gr.h,s.gr.g.trans sm,λb o e=>?_,λb h h'=>?_⟩,by simp[s.len],λj e h=>?_,λj m h=>?_,λj k m m' b c h1 h2 h3 h4 h5=>?_,λj t ks vs h=>?_,λj k t ks vs t' ks' vs' b c h1 h2 h3 h4 h5=>?_⟩
 ·by_cases z:b=a
  ·subst z;rw[Yv]at e;rw[q4];exact e
  ·rw[Yo z]at e;exact s.gr.s b o e
 ·by_cases z:b=a
  ·subst z;exact q3
  ·rw[Yo z]at h';exact s.gr.n b h h'
 ·rcases Yi h with⟨rfl,e1,_⟩|⟨hj,h⟩
  ·cases e1
   exact⟨_,q1,by rw[Rp];exact⟨a,xs,rfl,.inl Yv,q5.mono sm⟩⟩
  ·obtain⟨v,p1,p2⟩:=s.sh j e h
   exact⟨v,p1,p2.mono sm⟩
 ·rcases Yi h with⟨rfl,e1,_⟩|⟨hj,h⟩
  ·cases e1
  ·obtain⟨b,zs,p1,p2,p3,p4,p5⟩:=s.ow j m h
   exact⟨b,zs,p1,by rw[Yo (s.ap j i m l b a h hi hj p1 q1)];exact p2,p3,p4,p5.mono sm⟩
 ·rcases Yi h1 with⟨rfl,e1,_⟩|⟨hj,h1⟩
  ·cases e1
  ·rcases Yi h2 with⟨rfl,e1,_⟩|⟨hk,h2⟩
   ·cases e1
   ·exact s.ap j k m m' b c h1 h2 h3 h4 h5
 ·rcases Yi h with⟨rfl,e1,_⟩|⟨hj,h⟩
  ·cases e1
  ·obtain⟨b,kxs,vxs,p1,p2,p3,p4,p5,p6⟩:=s.od j t ks vs h
   obtain⟨o',q',nl⟩:=p4.some;exact⟨b,kxs,vxs,p1,by rw[Yo (λz=>by rw[z,q4]at q';cases q';exact nl _ rfl)];exact p2,p3,p4.mono sm λ_ z=>z,p5.mono sm,p6.mono sm⟩
 ·rcases Yi h1 with⟨rfl,e1,_⟩|⟨hj,h1⟩
  ·cases e1
  ·rcases Yi h2 with⟨rfl,e1,_⟩|⟨hk,h2⟩
   ·cases e1
   ·exact s.apd j k t ks vs t' ks' vs' b c h1 h2 h3 h4 h5
theorem SR.freeze(s:SR K H0 G0 σ H G ρ){i:Nat}{l:AQ}(hi:ρ[i]?=some (some (B.ow l))):∃G',SR K H0 G0 σ H G' (ρ.set i (some (.sh (.lst l)))):=by
 obtain⟨G',h,_⟩:=s.freezeT hi;exact⟨G',h⟩
theorem SR.freezedT(s:SR K H0 G0 σ H G ρ){i:Nat}{t:Bool}{ks vs:AQ}(hi:ρ[i]?=some (some (B.od t ks vs))):∃G',SR K H0 G0 σ H G' (ρ.set i (some (.sh (.dct t ks vs))))/\∀b ys,G' b=some (.tup ys)->G b=some (.tup ys):=by
 obtain⟨a,kxs,vxs,q1,q2,q3,q4,q5,q6⟩:=s.od i t ks vs hi;obtain⟨o,q7,nl⟩:=q4.some;have hl:i<ρ.length:=(qm hi).1
 have sm:Same G (upd G a o):=λb o e=>by rw[Yo (Yr e q2)];exact e
 obtain⟨oT,q8,nt⟩:=q4.someT;rw[q7]at q8;cases q8
 refine⟨upd G a o,?_,λb ys e=>by
  by_cases z:b=a
  ·subst z;rw[Yv]at e;cases e;exact absurd rfl (nt _)
  ·rw[Yo z]at e;exact e⟩
 refine⟨⟨s.gr.h,s.gr.g.trans sm,λb o' e=>?_,λb h h'=>?_⟩,by simp[s.len],λj e h=>?_,λj m h=>?_,λj k m m' b c h1 h2 h3 h4 h5=>?_,λj t ks vs h=>?_,λj k t ks vs t' ks' vs' b c h1 h2 h3 h4 h5=>?_⟩
 ·by_cases z:b=a
  ·subst z;rw[Yv]at e;rw[q7];exact e
  ·rw[Yo z]at e;exact s.gr.s b o' e
 ·by_cases z:b=a
  ·subst z;exact q3
  ·rw[Yo z]at h';exact s.gr.n b h h'
 ·rcases Yi h with⟨rfl,e1,_⟩|⟨hj,h⟩
  ·cases e1
   refine⟨_,q1,?_⟩;rw[Rp];refine⟨a,kxs,vxs,rfl,q4.mono sm λo' z=>?_,q5.mono sm,q6.mono sm⟩;rw[q7]at z;rw[Yv];exact z
  ·obtain⟨v,p1,p2⟩:=s.sh j e h
   exact⟨v,p1,p2.mono sm⟩
 ·rcases Yi h with⟨rfl,e1,_⟩|⟨hj,h⟩
  ·cases e1
  ·obtain⟨b,zs,p1,p2,p3,p4,p5⟩:=s.ow j m h
   exact⟨b,zs,p1,by rw[Yo (λz=>by rw[z,q7]at p4;cases p4;exact nl _ rfl)];exact p2,p3,p4,p5.mono sm⟩
 ·rcases Yi h1 with⟨rfl,e1,_⟩|⟨hj,h1⟩
  ·cases e1
  ·rcases Yi h2 with⟨rfl,e1,_⟩|⟨hk,h2⟩
   ·cases e1
   ·exact s.ap j k m m' b c h1 h2 h3 h4 h5
 ·rcases Yi h with⟨rfl,e1,_⟩|⟨hj,h⟩
  ·cases e1
  ·obtain⟨b,kx,vx,p1,p2,p3,p4,p5,p6⟩:=s.od j t ks vs h
   exact⟨b,kx,vx,p1,by rw[Yo (s.apd j i _ _ _ _ _ _ b a h hi hj p1 q1)];exact p2,p3,p4.mono sm λ_ z=>z,p5.mono sm,p6.mono sm⟩
 ·rcases Yi h1 with⟨rfl,e1,_⟩|⟨hj,h1⟩
  ·cases e1
  ·rcases Yi h2 with⟨rfl,e1,_⟩|⟨hk,h2⟩
   ·cases e1
   ·exact s.apd j k t ks vs t' ks' vs' b c h1 h2 h3 h4 h5
theorem SR.freezed(s:SR K H0 G0 σ H G ρ){i:Nat}{t:Bool}{ks vs:AQ}(hi:ρ[i]?=some (some (B.od t ks vs))):∃G',SR K H0 G0 σ H G' (ρ.set i (some (.sh (.dct t ks vs)))):=by
 obtain⟨G',h,_⟩:=s.freezedT hi;exact⟨G',h⟩
def Le(ρ ρ':Ro):Prop:=ρ.length=ρ'.length/\∀(i:Nat) b,ρ[i]?=some (some b)->ρ'[i]?=some (some b)
theorem SR.le{ρ':Ro}(s:SR K H0 G0 σ H G ρ')(h:Le ρ ρ'):SR K H0 G0 σ H G ρ:=
 ⟨s.gr,s.len.trans h.1.symm,λi d e=>s.sh i d (h.2 i _ e),λi l e=>s.ow i l (h.2 i _ e),λi j l l' a b e1 e2=>s.ap i j l l' a b (h.2 i _ e1) (h.2 j _ e2),
  λi t ks vs e=>s.od i t ks vs (h.2 i _ e),λi j t ks vs t' ks' vs' a b e1 e2=>s.apd i j t ks vs t' ks' vs' a b (h.2 i _ e1) (h.2 j _ e2)⟩
theorem SR.rebase(s:SR K H0 G0 σ H G ρ):∃H1,SR K H1 G σ H G ρ/\∀σ' H' G' ρ',SR K H1 G σ' H' G' ρ'->SR K H0 G0 σ' H' G' ρ':=by
 classical
 let own:Addr->Prop:=λa=>∃(i:Nat),((∃l:AQ,ρ[i]?=some (some (B.ow l)))\/(∃t ks vs,ρ[i]?=some (some (B.od t ks vs))))/\σ[i]?=some (some (V.ref a))
 have h0:∀a,own a->H0 a=none:=λa hx_=>by
  obtain⟨i,e1,e2⟩:=hx_;rcases e1 with⟨l,e1⟩|⟨t,ks,vs,e1⟩
  ·obtain⟨b,xs,q1,_,q3,_⟩:=s.ow i l e1
   rw[e2]at q1;cases q1;exact q3
  ·obtain⟨b,kxs,vxs,q1,_,q3,_⟩:=s.od i t ks vs e1
   rw[e2]at q1;cases q1;exact q3
 have back:∀a,(if own a then (none:Option HO)else H a)=none->H0 a=none:=λa h=>by
  by_cases o:own a
  ·exact h0 a o
  ·rw[if_neg o]at h;exact s.gr.h.free h
 refine⟨λa=>if own a then none else H a,⟨⟨λb o e=>?_,Same.refl _,s.gr.s,λ_ h h'=>absurd h h'⟩,s.len,s.sh,λi l e=>?_,s.ap,λi t ks vs e=>?_,s.apd⟩,λσ' H' G' ρ' t=>⟨⟨λb o e=>?_,s.gr.g.trans t.gr.g,t.gr.s,λb h h'=>?_⟩,t.len,t.sh,λi l e=>?_,t.ap,λi t1 ks vs e=>?_,t.apd⟩⟩
 ·by_cases z:own b
  ·simp only[if_pos z]at e;cases e
  ·simp only[if_neg z]at e;exact e
 ·obtain⟨a,xs,q1,q2,q3,q4,q5⟩:=s.ow i l e
  exact⟨a,xs,q1,q2,if_pos ⟨i,.inl ⟨l,e⟩,q1⟩,q4,q5⟩
 ·obtain⟨a,kxs,vxs,q1,q2,q3,q4⟩:=s.od i t ks vs e
  exact⟨a,kxs,vxs,q1,q2,if_pos ⟨i,.inr ⟨t,ks,vs,e⟩,q1⟩,q4⟩
 ·refine t.gr.h b o ?_
  have z:¬own b:=λz=>by rw[h0 b z]at e;cases e
  show(if own b then none else H b)=some o;rw[if_neg z];exact s.gr.h b o e
 ·by_cases z:G b=none
  ·exact back b (t.gr.n b z h')
  ·exact s.gr.n b h z
 ·obtain⟨a,xs,q1,q2,q3,q4,q5⟩:=t.ow i l e
  exact⟨a,xs,q1,q2,back a q3,q4,q5⟩
 ·obtain⟨a,kxs,vxs,q1,q2,q3,q4⟩:=t.od i t1 ks vs e
  exact⟨a,kxs,vxs,q1,q2,back a q3,q4⟩
end
def tOf(K:W.Frag)(f:AV):TE:=λσ H Q=>∃ρ d H0 G0 G,f ρ=some d/\SR K H0 G0 σ H G ρ/\∀v H' G',Gr H G H' G'->Rp K G' d v->Q v H'
def tCof(K:W.Frag)(f:AV):TE:=λσ H Q=>∃ρ d H0 G0 G,f ρ=some d/\SR K H0 G0 σ H G ρ/\∀v H' G',Gr H G H' G'->Ct K G' H' d v->Q v H'
def tCAof(K:W.Frag)(f:AW):TA:=λσ H Q=>∃ρ l H0 G0 G,f ρ=some l/\SR K H0 G0 σ H G ρ/\∀vs H' G',Gr H G H' G'->CtL K G' H' l vs->Q vs H'
def tFof(K:W.Frag)(f:AW):TE:=λσ H Q=>∃ρ l H0 G0 G,f ρ=some l/\SR K H0 G0 σ H G ρ/\∀p xs H' G',Gr H G H' G'->H p=none->G' p=none->H' p=some (.lst xs)->RpL K G' l xs->Q (.ref p) H'
def tTof(K:W.Frag)(f:AU):TT:=λσ H Q=>∃ρ b H0 G0 G,f ρ=some b/\SR K H0 G0 σ H G ρ/\∀H' G',Gr H G H' G'->Q b H'
def tAof(K:W.Frag)(f:AW):TA:=λσ H Q=>∃ρ l H0 G0 G,f ρ=some l/\SR K H0 G0 σ H G ρ/\∀vs H' G',Gr H G H' G'->RpL K G' l vs->Q vs H'
def Wk(K:W.Frag)(J:It)(G':Hp)(ds:AQ):Prop:=ds.length<=sizeLine/\∀(i:Nat) H2 G2,Same G' G2->Same G2 H2->
 (∀d,ds[i]?=some d->J.go i H2/\∀y H3,J.yld i H2 y H3->∃G3,Gr H2 G2 H3 G3/\Rp K G3 d y)/\(ds.length<=i->J.stop i H2)
def tIof(K:W.Frag)(f:AW):TI:=λσ H R=>∃ρ ds H0 G0 G,f ρ=some ds/\SR K H0 G0 σ H G ρ/\∀J H' G',Gr H G H' G'->Wk K J G' ds->R J H'
inductive Out where
 | nx (ρ:Ro)|rt (d:D)|bk (ρ:Ro)|ct (ρ:Ro)
abbrev AS:=Ro->Option Out
def Cont(K:W.Frag)(H0 G0:Hp)(F:Ends):Out->Prop
 | .nx ρ'=>∀σ' H' G',SR K H0 G0 σ' H' G' ρ'->F.nx σ' H'
 | .rt d=>∀v H' G',Gr H0 G0 H' G'->Rp K G' d v->F.rt v H'
 | .bk ρ'=>∀σ' H' G',SR K H0 G0 σ' H' G' ρ'->F.bk σ' H'
 | .ct ρ'=>∀σ' H' G',SR K H0 G0 σ' H' G' ρ'->F.ct σ' H'
def sOf(K:W.Frag)(f:AS):TS:=λF σ H=>∃ρ out H0 G0 G,f ρ=some out/\SR K H0 G0 σ H G ρ/\Cont K H0 G0 F out
def gOf(K:W.Frag)(gt:AT):TG:=λv σ H Q=>∃d ρ ρ' H0 G0 G,gt d ρ=some ρ'/\SR K H0 G0 σ H G ρ/\Rp K G d v/\∀σ',SR K H0 G0 σ' H G ρ'->Q σ' H
abbrev ME(X:Cx)(e:Expr)(f:AV):Prop:=PE X e (tOf X.K f)
abbrev MC(X:Cx)(e:Expr)(f:AV):Prop:=PE X e (tCof X.K f)
abbrev MCA(X:Cx)(es:AL)(f:AW):Prop:=PA X es (tCAof X.K f)
abbrev MF(X:Cx)(e:Expr)(f:AW):Prop:=PE X e (tFof X.K f)
abbrev MT(X:Cx)(e:Expr)(f:AU):Prop:=PT X e (tTof X.K f)
abbrev MA(X:Cx)(es:AL)(f:AW):Prop:=PA X es (tAof X.K f)
abbrev MI(X:Cx)(tg iter:Expr)(f:AW):Prop:=PI X tg iter (tIof X.K f)
abbrev MS(X:Cx)(st:Stmt)(f:AS):Prop:=PS X st (sOf X.K f)
abbrev MB(X:Cx)(sts:List Stmt)(f:AS):Prop:=PSs X sts (sOf X.K f)
abbrev MG(X:Cx)(tg:Expr)(gt:AT):Prop:=PG X tg (gOf X.K gt)
section
variable {X:Cx}
theorem PE.imp{e:Expr}{t t':TE}(h:PE X e t)(i:∀σ H Q,t' σ H Q->t σ H Q):PE X e t':=λpins s σ H Q I hw=>h pins s σ H Q I (i σ H Q hw)
theorem PT.imp{e:Expr}{t t':TT}(h:PT X e t)(i:∀σ H Q,t' σ H Q->t σ H Q):PT X e t':=λpins s σ H Q I hw=>h pins s σ H Q I (i σ H Q hw)
theorem PA.imp{es:AL}{t t':TA}(h:PA X es t)(i:∀σ H Q,t' σ H Q->t σ H Q):PA X es t':=λpos pins s σ H Q I hw=>h pos pins s σ H Q I (i σ H Q hw)
theorem PS.imp{st:Stmt}{t t':TS}(h:PS X st t)(i:∀F σ H,t' F σ H->t F σ H):PS X st t':=λpins s σ H F I hw=>h pins s σ H F I (i F σ H hw)
theorem PSs.imp{st:List Stmt}{t t':TS}(h:PSs X st t)(i:∀F σ H,t' F σ H->t F σ H):PSs X st t':=λpins s σ H F I hw=>h pins s σ H F I (i F σ H hw)
theorem PI.imp{tg e:Expr}{t t':TI}(h:PI X tg e t)(i:∀σ H R,t' σ H R->t σ H R):PI X tg e t':=λpins s σ H R I hw=>h pins s σ H R I (i σ H R hw)
theorem PG.imp{e:Expr}{t t':TG}(h:PG X e t)(i:∀v σ H Q,t' v σ H Q->t v σ H Q):PG X e t':=λpins s σ H v u Q I r hw=>h pins s σ H v u Q I r (i v σ H Q hw)
variable {H0 G0 H G:Hp}{σ:L2.St}{ρ:Ro}
theorem tOf.at{f:AV}{d:D}{Q:VK}(e:f ρ=some d)(s:SR K H0 G0 σ H G ρ)(h:∀v H' G',Gr H G H' G'->Rp K G' d v->SR K H0 G0 σ H' G' ρ->Q v H'):tOf K f σ H Q:=
 ⟨ρ,d,H0,G0,G,e,s,λv H' G' g r=>h v H' G' g r (s.grow g)⟩
theorem tCof.at{f:AV}{d:D}{Q:VK}(e:f ρ=some d)(s:SR K H0 G0 σ H G ρ)(h:∀v H' G',Gr H G H' G'->Ct K G' H' d v->SR K H0 G0 σ H' G' ρ->Q v H'):tCof K f σ H Q:=
 ⟨ρ,d,H0,G0,G,e,s,λv H' G' g r=>h v H' G' g r (s.grow g)⟩
theorem tCAof.at{f:AW}{l:AQ}{Q:AN->Hp->Prop}(e:f ρ=some l)(s:SR K H0 G0 σ H G ρ)(h:∀vs H' G',Gr H G H' G'->CtL K G' H' l vs->SR K H0 G0 σ H' G' ρ->Q vs H'):tCAof K f σ H Q:=
 ⟨ρ,l,H0,G0,G,e,s,λv H' G' g r=>h v H' G' g r (s.grow g)⟩
theorem ME.mc{e:Expr}{f:AV}(h:ME X e f):MC X e f:=PE.imp h λσ H Q ⟨ρ,d,H0,G0,G,e,s,h⟩=>⟨ρ,d,H0,G0,G,e,s,λv H' G' g r=>h v H' G' g (.of g.s r)⟩
theorem tTof.at{f:AU}{b:Bool}{Q:Bool->Hp->Prop}(e:f ρ=some b)(s:SR K H0 G0 σ H G ρ)(h:∀H' G',Gr H G H' G'->SR K H0 G0 σ H' G' ρ->Q b H'):tTof K f σ H Q:=
 ⟨ρ,b,H0,G0,G,e,s,λH' G' g=>h H' G' g (s.grow g)⟩
theorem tAof.at{f:AW}{l:AQ}{Q:AN->Hp->Prop}(e:f ρ=some l)(s:SR K H0 G0 σ H G ρ)(h:∀vs H' G',Gr H G H' G'->RpL K G' l vs->SR K H0 G0 σ H' G' ρ->Q vs H'):tAof K f σ H Q:=
 ⟨ρ,l,H0,G0,G,e,s,λv H' G' g r=>h v H' G' g r (s.grow g)⟩
end
end
section
variable {K:W.Frag}
def b2{α:Type}(fa fb:AV)(g:D->D->Option α):Ro->Option α:=λρ=>(fa ρ).bind λx=>(fb ρ).bind λy=>g x y
def b1{α:Type}(fa:AV)(g:D->Option α):Ro->Option α:=λρ=>(fa ρ).bind g
theorem Yi1{α:Type}{fa fb:AV}{g:D->D->Option α}{ρ:Ro}{r:α}(h:b2 fa fb g ρ=some r):∃x y,fa ρ=some x/\fb ρ=some y/\g x y=some r:=by
 unfold b2 at h;obtain⟨x,h1,h⟩:=qa h;obtain⟨y,h2,h⟩:=qa h;exact⟨x,y,h1,h2,h⟩
theorem Ybo{α:Type}{fa:AV}{g:D->Option α}{ρ:Ro}{r:α}(h:b1 fa g ρ=some r):∃x,fa ρ=some x/\g x=some r:=by
 unfold b1 at h;obtain⟨x,h1,h⟩:=qa h;exact⟨x,h1,h⟩
def Sem2(K:W.Frag)(r:R2)(g:D->D->Option D):Prop:=∀(x y:V) (dx dy d:D) (H G:Hp) (Q:VK),g dx dy=some d->Same G H->Ct K G H dx x->Ct K G H dy y->(∀v H' G',Gr H G H' G'->Rp K G' d v->Q v H')->r x y H Q
def Yl7(K:W.Frag)(r:R2)(g:D->D->Option Bool):Prop:=∀(x y:V) (dx dy:D) (b:Bool) (H G:Hp) (Q:VK),g dx dy=some b->Same G H->Ct K G H dx x->Ct K G H dy y->Q (.bl b) H->r x y H Q
def SemC(K:W.Frag)(r:AN->Hp->VK->Prop)(g:AQ->Option D):Prop:=∀(vs:AN) (ds:AQ) (d:D) (H G:Hp) (Q:VK),g ds=some d->Same G H->CtL K G H ds vs->(∀v H' G',Gr H G H' G'->Rp K G' d v->Q v H')->r vs H Q
def SemF(K:W.Frag)(r:AN->Hp->VK->Prop)(g:AQ->Option AQ):Prop:=∀(vs:AN) (ds l:AQ) (H G:Hp) (Q:VK),g ds=some l->Same G H->CtL K G H ds vs->
 (∀p xs H' G',Gr H G H' G'->H p=none->G' p=none->H' p=some (.lst xs)->RpL K G' l xs->Q (.ref p) H')->r vs H Q
section
variable {X:Cx}{a b c e:Expr}{es:AL}{fa fb fc f:AV}{ga:AW}{pos:Pos}
def getV(i:Nat):AV:=λρ=>match ρ[i]? with
 | some (some (B.sh d))=>some d
 | _=>none
def getO(i:Nat):AW:=λρ=>match ρ[i]? with
 | some (some (B.ow l))=>some l
 | _=>none
theorem Ytx{i:Nat}{ρ:Ro}{d:D}(h:getV i ρ=some d):ρ[i]?=some (some (B.sh d)):=by
 unfold getV at h
 split at h
 ·cases h;assumption
 ·cases h
theorem Ydw{i:Nat}{ρ:Ro}{l:AQ}(h:getO i ρ=some l):ρ[i]?=some (some (B.ow l)):=by
 unfold getO at h
 split at h
 ·cases h;assumption
 ·cases h
def getC(i:Nat):AV:=λρ=>match ρ[i]? with
 | some (some (B.sh d))=>some d
 | some (some (B.ow l))=>some (.lst l)
 | some (some (B.od t ks vs))=>some (.dct t ks vs)
 | _=>none
def kD(d:D):AV:=λ_=>some d
theorem Ygp{v:V}{d:D}{t:TE}(h:PE X e t)(ht:∀σ H Q,Q v H->t σ H Q)(hr:∀G,Rp X.K G d v):ME X e (kD d):=
 PE.imp h λσ H Q hx_=>by
  obtain⟨ρ,d',H0,G0,G,e,s,h⟩:=hx_;cases e;exact ht σ H Q (h v H G (.refl s.seen) (hr G))
theorem y3x{i:Int}{j}:ME X (.Constant (.int i) j pos) (kD (.int i)):=Ygp (v:=.int i) Yyz (λ_ _ _ q=>q) λ_=>by rw[Rp]
theorem y6w{k:Bool}{j}:ME X (.Constant (.bool k) j pos) (kD (.bl k)):=Ygp (v:=.bl k) y6d (λ_ _ _ q=>q) λ_=>by rw[Rp]
theorem y3y{j}:ME X (.Constant .none j pos) (kD .non):=Ygp (v:=.non) y2y (λ_ _ _ q=>q) λ_=>by rw[Rp]
theorem Yzc{r:R2}{g:D->D->Option D}(hr:Sem2 K r g){σ:L2.St}{H:Hp}{Q:VK}(h:tOf K (b2 fa fb g) σ H Q):tOp r (tCof K fa) (tCof K fb) σ H Q:=by
 obtain⟨ρ,d,H0,G0,G,e,s,h⟩:=h;obtain⟨dx,dy,h1,h2,h3⟩:=Yi1 e;exact tCof.at h1 s λv H1 G1 g1 r1 s1=>tCof.at h2 s1 λu H2 G2 g2 r2 s2=>hr v u dx dy d H2 G2 Q h3 s2.seen (r1.grow g2) r2 λw H' G' g3 r3=>h w H' G' ((g1.trans g2).trans g3) r3
theorem y0v{r:R2}{g:D->D->Option Bool}(hr:Yl7 K r g){σ:L2.St}{H:Hp}{Q:Bool->Hp->Prop}(h:tTof K (b2 fa fb g) σ H Q):y3h (tOp r (tCof K fa) (tCof K fb)) σ H Q:=by
 obtain⟨ρ,d,H0,G0,G,e,s,h⟩:=h;obtain⟨dx,dy,h1,h2,h3⟩:=Yi1 e;exact tCof.at h1 s λv H1 G1 g1 r1 s1=>tCof.at h2 s1 λu H2 G2 g2 r2 s2=>hr v u dx dy d H2 G2 _ h3 s2.seen (r1.grow g2) r2 ⟨d,rfl,h H2 G2 (g1.trans g2)⟩
def mB(f:AU):AV:=λρ=>(f ρ).map D.bl
theorem Yl8{f:AU}{ρ:Ro}{d:D}(h:mB f ρ=some d):∃b,f ρ=some b/\d=.bl b:=by
 unfold mB at h;obtain⟨b,h1,h2⟩:=qb h;exact⟨b,h1,h2.symm⟩
theorem Yw6{r:R2}{g:D->D->Option Bool}(hr:Yl7 K r g){σ:L2.St}{H:Hp}{Q:VK}(h:tOf K (mB (b2 fa fb g)) σ H Q):tOp r (tCof K fa) (tCof K fb) σ H Q:=by
 obtain⟨ρ,d,H0,G0,G,e,s,h⟩:=h;obtain⟨b,eb,rfl⟩:=Yl8 e;obtain⟨dx,dy,h1,h2,h3⟩:=Yi1 eb;exact tCof.at h1 s λv H1 G1 g1 r1 s1=>tCof.at h2 s1 λu H2 G2 g2 r2 s2=>hr v u dx dy b H2 G2 _ h3 s2.seen (r1.grow g2) r2 (h _ H2 G2 (g1.trans g2) (by rw[Rp]))
theorem Ylf{op:Operator}{r:R2}{g:D->D->Option D}(ho:OpR X (binaryOp op) r)(hr:Sem2 X.K r g)(ha:MC X a fa)(hb:MC X b fb):ME X (.BinOp a op b pos) (b2 fa fb g):=PE.imp (y28 ho ha hb) λ_ _ _ h=>Yzc hr h
theorem Yn3{op:CmpOp}{r:R2}{g:D->D->Option Bool}(ho:OpR X (compareOp op) r)(hr:Yl7 X.K r g)(ha:MC X a fa)(hb:MC X b fb)(hm:behindInMarks op b=false):ME X (.Compare a [op] [b] pos) (mB (b2 fa fb g)):=PE.imp (Yte ho ha hb hm) λ_ _ _ h=>Yw6 hr h
theorem Yh5{op:CmpOp}{r:R2}{g:D->D->Option Bool}(ho:OpR X (compareOp op) r)(hr:Yl7 X.K r g)(ha:MC X a fa)(hb:MC X b fb)(hm:behindInMarks op b=false):MT X (.Compare a [op] [b] pos) (b2 fa fb g):=PT.imp (Yz9 ho ha hb hm) λ_ _ _ h=>y0v hr h
theorem y30{r:R2}{g:D->D->Option D}(hi:IxR X r)(hr:Sem2 X.K r g)(ha:MC X a fa)(hb:MC X b fb)(hs:Yis b):ME X (.Subscript a b pos) (b2 fa fb g):=PE.imp (y6u hi ha hb hs) λ_ _ _ h=>Yzc hr h
def i2(C:Int->Int->Bool)(g:Int->Int->Int):D->D->Option D
 | .int i,.int j=>if C i j=true then some (.int (g i j))else none
 | _,_=>none
def i2b(g:Int->Int->Bool):D->D->Option Bool
 | .int i,.int j=>some (g i j)
 | _,_=>none
theorem Yq7{C:Int->Int->Prop}{Cb:Int->Int->Bool}(hC:∀i j,Cb i j=true->C i j){g:Int->Int->Int}:Sem2 K (rI C λi j=>.int (g i j)) (i2 Cb g):=by
 intro x y dx dy d H G Q h s rx ry q;unfold i2 at h
 split at h
 ·split at h
  ·rename_i i j hc
   cases h;rw[Ct]at rx ry;subst rx;subst ry;exact⟨i,j,rfl,rfl,hC i j hc,q _ H G (.refl s) (by rw[Rp])⟩
  ·cases h
 ·cases h
theorem Yty{g:Int->Int->Int}:Sem2 K (rI0 λi j=>.int (g i j)) (i2 (λ_ _=>true) g):=by
 intro x y dx dy d H G Q h s rx ry q;unfold i2 at h
 split at h
 ·split at h
  ·rename_i i j hc
   cases h;rw[Ct]at rx ry;subst rx;subst ry;exact⟨i,j,rfl,rfl,q _ H G (.refl s) (by rw[Rp])⟩
  ·cases h
 ·cases h
theorem Yl9{g:Int->Int->Bool}:Yl7 K (rI0 λi j=>.bl (g i j)) (i2b g):=by
 intro x y dx dy d H G Q h s rx ry q;unfold i2b at h
 split at h
 ·rename_i i j
  cases h;rw[Ct]at rx ry;subst rx;subst ry;exact⟨i,j,rfl,rfl,q⟩
 ·cases h
def addI:D->D->Option D:=i2 (λ_ _=>true) λi j=>i+j
def subI:D->D->Option D:=i2 (λ_ _=>true) λi j=>i-j
def mulI:D->D->Option D:=i2 (λi j=>(decide (-(2^64)<i)&&decide (i<2^64))||(decide (-(2^64)<j)&&decide (j<2^64))) λi j=>i*j
def divI:D->D->Option D:=i2 (λ_ j=>decide (0<j)&&decide (j<1073741824)) λi j=>i/j
def modI:D->D->Option D:=i2 (λ_ j=>decide (0<j)) λi j=>i%j
def ltI:=i2b λi j=>decide (i<j)
def gtI:=i2b λi j=>decide (j<i)
def geI:=i2b λi j=>decide (j<=i)
mutual
def dep:D->Nat
 | .tup l=>depL l+1
 | .lst l=>depL l+1
 | .scr _=>1
 | .dct _ _ _=>1000
 | .obj _ _ _=>1000
 | .adr _=>1000
 | _=>0
def depL:AQ->Nat
 | []=>0
 | d::l=>max (dep d) (depL l)
end
mutual
theorem Ydx:∀d:D,(toPy d).depth<=dep d
 | .non=>by simp[toPy,PyData.depth,dep]
 | .bl b=>by simp[toPy,PyData.depth,dep]
 | .int b=>by simp[toPy,PyData.depth,dep]
 | .str b=>by simp[toPy,PyData.depth,dep]
 | .tup l=>by have:=Yf4 l;simp[toPy,PyData.depth,dep];lia
 | .lst l=>by have:=Yf4 l;simp[toPy,PyData.depth,dep];lia
 | .scr ns=>by rw[toPy,PyData.depth,dep,W.ke_depthAll];exact qt _
 | .dct _ _ _=>by simp[toPy,PyData.depth,dep]
 | .obj _ _ _=>by simp[toPy,PyData.depth,dep]
 | .adr _=>by simp[toPy,PyData.depth,dep]
theorem Yf4:∀l:AQ,PyData.depthAll (Yfp l)<=depL l
 | []=>by simp[Yfp,PyData.depthAll,depL]
 | d::l=>by have h1:=Ydx d;have h2:=Yf4 l;simp[Yfp,PyData.depthAll,depL];lia
end
section
variable {pins:AC}{σ:L2.St}{H:Hp}{s:Shared}
mutual
theorem Ygq(I:Inv X pins σ H s):∀{d:D}{v:V}{u:Value},dep d<=100->Rp X.K H d v->RelV v u->∃as,Reads s.heap u (toPy d) as/\(toPy d).canLay0=true
 | .non,v,u,_,r,q=>by
   rw[Rp]at r;subst r;cases q;exact⟨_,by rw[toPy];exact .none,by simp[toPy,PyData.canLay0]⟩
 | .bl b,v,u,_,r,q=>by
   rw[Rp]at r;subst r;cases q;exact⟨_,by rw[toPy];exact .bool b,by simp[toPy,PyData.canLay0]⟩
 | .int i,v,u,_,r,q=>by
   rw[Rp]at r;subst r;obtain⟨t,rfl⟩:=q;exact⟨_,by rw[toPy];exact .int i t,by simp[toPy,PyData.canLay0]⟩
 | .str x,v,u,_,r,q=>by
   rw[Rp]at r;obtain⟨rfl,hx⟩:=r;obtain⟨t,rfl⟩:=q;exact⟨_,by rw[toPy];exact .str x t,by simp[toPy,PyData.canLay0,hx]⟩
 | .tup l,v,u,hd,r,q=>by
   rw[Rp]at r;obtain⟨a,xs,rfl,g,rl⟩:=r;cases q
   obtain⟨_,its,rv,ht⟩:=(show ObjOk X.prog X.w H s.heap a (.tup xs) from I.hok a _ g)
   obtain⟨o,h1,h2,n,h3⟩:=ht;obtain⟨as,q,hc⟩:=Yi2 I (by simp only[dep]at hd;lia) rl rv;exact⟨_,by rw[toPy];exact .tuple h1 h2 h3 (by simpa using q),by simpa [toPy,PyData.canLay0]using hc⟩
 | .lst l,v,u,hd,r,q=>by
   rw[Rp]at r;obtain⟨a,xs,rfl,g,rl⟩:=r;cases q;obtain⟨its,rv,pl,_⟩:=I.list (.inl g);obtain⟨o,h1,h2,n,h3⟩:=pl.isList;obtain⟨as,q,hc⟩:=Yi2 I (by simp only[dep]at hd;lia) rl rv;exact⟨_,by rw[toPy];exact .list h1 h2 h3 (by simpa using q),by simpa [toPy,PyData.canLay0]using hc⟩
 | .dct _ _ _,v,u,hd,r,q=>by simp[dep]at hd
 | .obj _ _ _,v,u,hd,r,q=>by simp[dep]at hd
 | .adr _,v,u,hd,r,q=>by simp[dep]at hd
 | .scr ns,v,u,_,r,q=>by
   rw[Rp]at r;obtain⟨a,rfl,g⟩:=r;cases q;obtain⟨its,rv,pl,_⟩:=I.list g;exact⟨_,by rw[toPy];exact W.reads_of_ints pl.isList (Ylc rv),by rw[toPy];simp[PyData.canLay0,W.ke_canLayAll0]⟩
theorem Yi2(I:Inv X pins σ H s):∀{l:AQ}{xs:AN}{us:AD},depL l<=100->RpL X.K H l xs->Vals xs us->∃as,ReadsAll s.heap us (Yfp l) as/\PyData.canLayAll0 (Yfp l)=true
 | [],xs,us,_,r,q=>by
   rw[RpL]at r;subst r;cases q;exact⟨_,by rw[Yfp];exact .nil,by simp[Yfp,PyData.canLayAll0]⟩
 | d::l,xs,us,hd,r,q=>by
   rw[RpL]at r;obtain⟨x,xs,rfl,r1,r2⟩:=r;rw[depL]at hd
   cases q with
   | cons q1 q2=>
     obtain⟨as,h1,h2⟩:=Ygq I (by lia) r1 q1;obtain⟨bs,h3,h4⟩:=Yi2 I (by lia) r2 q2;exact⟨_,by rw[Yfp];exact .cons h1 h3,by simp[Yfp,PyData.canLayAll0,h2,h4]⟩
end
end
def eqM(neg:Bool):D->D->Option Bool:=λd e=>if dep d<=60/\dep e<=60 then some (if neg then !eqD d e else eqD d e)else none
def rEqD(K:W.Frag)(neg:Bool):R2:=λx y H Q=>∃d e,Rp K H d x/\Rp K H e y/\(dep d<=60/\dep e<=60)/\Q (.bl (if neg then !eqD d e else eqD d e)) H
theorem Yzd(hu:X.A.units+64<cLine):OpR X (compareOp .Eq) (rEqD X.K false):=by
 intro pins s σ H x y v u Q I rx ry h;obtain⟨d,e,r1,r2,hd,q⟩:=h;obtain⟨as,h1,h2⟩:=Ygq I (by lia) r1 rx;obtain⟨bs,h3,h4⟩:=Ygq I (by lia) r2 ry;exact SeqAt.eqOverData X.prog X.w X.A X.xe s v u _ _ as bs _ h1 h3 h2 h4 (by have:=Ydx d;have:=Ydx e;lia) ⟨.bl _,H,I,rfl,by exact q⟩
theorem Yze(hu:X.A.units+64<cLine):OpR X (compareOp .NotEq) (rEqD X.K true):=by
 intro pins s σ H x y v u Q I rx ry h;obtain⟨d,e,r1,r2,hd,q⟩:=h;obtain⟨as,h1,h2⟩:=Ygq I (by lia) r1 rx;obtain⟨bs,h3,h4⟩:=Ygq I (by lia) r2 ry;exact SeqAt.neOverData X.prog X.w X.A X.xe s v u _ _ as bs _ h1 h3 h2 h4 (by have:=Ydx d;have:=Ydx e;lia) ⟨.bl _,H,I,rfl,by exact q⟩
theorem Yma{neg:Bool}:Yl7 K (rEqD K neg) (eqM neg):=by
 intro x y dx dy b H G Q h s rx ry q;unfold eqM at h
 split at h
 ·cases h
  exact⟨dx,dy,rx.rp s,ry.rp s,by assumption,q⟩
 ·cases h
def Yp:D->Option AQ
 | .tup l=>some l
 | .lst l=>some l
 | .scr ns=>some (ns.map D.int)
 | _=>none
theorem Ybt{c:D}{l:AQ}(h:Yp c=some l):c=.tup l\/c=.lst l\/∃ns,c=.scr ns/\l=ns.map D.int:=by
 cases c with
 | tup m=>cases h;exact .inl rfl
 | lst m=>cases h;exact .inr (.inl rfl)
 | scr ns=>cases h;exact .inr (.inr ⟨ns,rfl,rfl⟩)
 | non=>cases h
 | bl _=>cases h
 | int _=>cases h
 | str _=>cases h
 | dct _ _ _=>cases h
 | obj _ _ _=>cases h
 | adr _=>cases h
end
end
section
variable {K:W.Frag}
section
variable {X:Cx}{a b c e:Expr}{es:AL}{fa fb f:AV}{fc fd:AU}{ga:AW}{pos:Pos}{rest:AL}
def truD:D->Option Bool
 | .non=>some false
 | .bl b=>some b
 | .int i=>some (i != 0)
 | .tup l=>some (!l.isEmpty)
 | .lst l=>some (!l.isEmpty)
 | .scr ns=>some (!ns.isEmpty)
 | .str _=>none
 | .dct _ _ _=>none
 | .obj _ _ _=>none
 | .adr _=>none
theorem y0w{d:D}{v:V}{k:Bool}{H G:Hp}(h:truD d=some k)(r:Ct X.K G H d v):TruV X.K v H k:=by
 cases d with
 | non=>rw[Ct]at r;subst r;cases h;rfl
 | bl b=>rw[Ct]at r;subst r;cases h;rfl
 | int i=>rw[Ct]at r;subst r;cases h;rfl
 | str x=>cases h
 | dct _ _ _=>cases h
 | obj _ _ _=>cases h
 | adr _=>cases h
 | tup l=>
   rw[Ct]at r;obtain⟨a,xs,rfl,g,rl⟩:=r;cases h;refine .inr (.inl ⟨xs,.inl (.inl g.1),?_⟩);have:=rl.length;cases l<;>cases xs<;>simp_all
 | lst l=>
   rw[Ct]at r;obtain⟨a,xs,rfl,g,rl⟩:=r;cases h;refine .inl ⟨xs,.inl g,?_⟩;have:=rl.length;cases l<;>cases xs<;>simp_all
 | scr ns=>
   rw[Ct]at r;obtain⟨a,rfl,g⟩:=r;cases h;refine .inl ⟨_,g,?_⟩;cases ns<;>simp
def andT(fc fd:AU):AU:=λρ=>(fc ρ).bind λk=>if k=true then fd ρ else some false
def orT(fc fd:AU):AU:=λρ=>(fc ρ).bind λk=>if k=true then some true else fd ρ
def notT(fc:AU):AU:=λρ=>(fc ρ).map (!·)
abbrev MW(X:Cx)(e:Expr)(f:AU):Prop:=PW X e (tTof X.K f)
theorem PW.imp{t t':TT}(h:PW X e t)(i:∀σ H Q,t' σ H Q->t σ H Q):PW X e t':=λwhole pins s σ H Q I hw=>h whole pins s σ H Q I (i σ H Q hw)
theorem y0y{σ:L2.St}{H:Hp}{Q:Bool->Hp->Prop}(h:tTof K (andT fc fd) σ H Q):tAnd (tTof K fc) (tTof K fd) σ H Q:=by
 obtain⟨ρ,k,H0,G0,G,e,s,h⟩:=h;unfold andT at e;obtain⟨k1,h1,e⟩:=qa e;refine tTof.at h1 s λH1 G1 g1 s1=>?_
 cases k1 with
 | true=>
   rw[if_pos rfl]at e ⊢;exact tTof.at e s1 λH2 G2 g2 _=>h H2 G2 (g1.trans g2)
 | false=>
   rw[if_neg qh]at e ⊢;cases e;exact h H1 G1 g1
theorem y37{σ:L2.St}{H:Hp}{Q:Bool->Hp->Prop}(h:tTof K (orT fc fd) σ H Q):tOr (tTof K fc) (tTof K fd) σ H Q:=by
 obtain⟨ρ,k,H0,G0,G,e,s,h⟩:=h;unfold orT at e;obtain⟨k1,h1,e⟩:=qa e;refine tTof.at h1 s λH1 G1 g1 s1=>?_
 cases k1 with
 | false=>
   rw[if_neg qh]at e ⊢;exact tTof.at e s1 λH2 G2 g2 _=>h H2 G2 (g1.trans g2)
 | true=>
   rw[if_pos rfl]at e ⊢;cases e;exact h H1 G1 g1
def blD:D->Option Bool
 | .bl b=>some b
 | _=>none
theorem Yq8{d:D}{k:Bool}(h:blD d=some k):d=.bl k:=by cases d<;>simp[blD]at h;subst h;rfl
def andV(fa fb:AV):AV:=λρ=>(b1 fa blD ρ).bind λk=>if k=true then fb ρ else some (.bl false)
def notV(fa:AV):AV:=λρ=>(b1 fa blD ρ).map λk=>.bl (!k)
def ifV(fc:AU)(fa fb:AV):AV:=λρ=>(fc ρ).bind λk=>if k=true then fa ρ else fb ρ
def Yse:D->Bool
 | .non=>true
 | _=>false
theorem Yq9{d:D}{v:V}{G H:Hp}(r:Ct K G H d v):decide (v=V.non)=Yse d:=by
 cases d with
 | non=>rw[Ct]at r;subst r;rfl
 | bl _=>rw[Ct]at r;subst r;rfl
 | int _=>rw[Ct]at r;subst r;rfl
 | str _=>rw[Ct]at r;obtain⟨rfl,_⟩:=r;rfl
 | tup _=>rw[Ct]at r;obtain⟨_,_,rfl,_⟩:=r;rfl
 | lst _=>rw[Ct]at r;obtain⟨_,_,rfl,_⟩:=r;rfl
 | scr _=>rw[Ct]at r;obtain⟨_,rfl,_⟩:=r;rfl
 | dct _ _ _=>rw[Ct]at r;obtain⟨_,_,_,rfl,_⟩:=r;rfl
 | obj _ _ _=>rw[Ct]at r;obtain⟨_,_,_,_,rfl,_⟩:=r;rfl
 | adr _=>rw[Ct]at r;subst r;rfl
def isN(neg:Bool):D->D->Option Bool:=λd e=>if Yse e then some (if neg then !Yse d else Yse d)else none
theorem y00:Yl7 K (λx y H Q=>y=.non/\Q (.bl (decide (x=.non))) H) (isN false):=by
 intro x y dx dy b H G Q h s rx ry q;unfold isN at h
 split at h
 ·rename_i hn
  cases h;cases dy<;>simp[Yse]at hn;rw[Ct]at ry;exact⟨ry,by rw[Yq9 rx];exact q⟩
 ·cases h
theorem Yra:Yl7 K (λx y H Q=>y=.non/\Q (.bl (!decide (x=.non))) H) (isN true):=by
 intro x y dx dy b H G Q h s rx ry q;unfold isN at h
 split at h
 ·rename_i hn
  cases h;cases dy<;>simp[Yse]at hn;rw[Ct]at ry;exact⟨ry,by rw[Yq9 rx];exact q⟩
 ·cases h
def ixD:D->D->Option D
 | c,.int i=>(Yp c).bind λl=>atI l i
 | _,_=>none
theorem Ytz{G:Hp}{l:AQ}{xs:AN}{i:Int}{d:D}(r:RpL K G l xs)(h:atI l i=some d):∃x,atI xs i=some x/\Rp K G d x:=by
 unfold atI at h ⊢;rw[r.length];obtain⟨j,h1,h2⟩:=qa h;obtain⟨x,h3,h4⟩:=r.get h2;exact⟨x,by rw[h1];exact h3,h4⟩
theorem y4d:Sem2 X.K (rIx X.K) ixD:=by
 intro x y dx dy d H G Q h s rx ry q;unfold ixD at h
 split at h
 ·rename_i c i
  obtain⟨l,h1,h2⟩:=qa h;rw[Ct]at ry;subst ry;rcases Ybt h1 with rfl|rfl|⟨ns,rfl,rfl⟩
  ·rw[Ct]at rx
   obtain⟨p,xs,rfl,g,rl⟩:=rx;obtain⟨v,h3,h4⟩:=Ytz rl h2;exact .inr (.inl ⟨p,xs,i,v,rfl,rfl,.inl (.inl g.1),h3,q v H G (.refl s) h4⟩)
  ·rw[Ct]at rx
   obtain⟨p,xs,rfl,g,rl⟩:=rx;obtain⟨v,h3,h4⟩:=Ytz rl h2;exact .inl ⟨p,xs,i,v,rfl,rfl,.inl g,h3,q v H G (.refl s) h4⟩
  ·rw[Ct]at rx
   obtain⟨p,rfl,g⟩:=rx;obtain⟨v,h3,h4⟩:=Ytz (G:=G) (K:=X.K) (.ints ns) h2;exact .inl ⟨p,_,i,v,rfl,rfl,g,h3,q v H G (.refl s) h4⟩
 ·cases h
def intD:D->Option Int
 | .int i=>some i
 | _=>none
def optI(f:Option AV):Ro->Option (Option Int):=λρ=>match f with
 | none=>some none
 | some f=>(b1 f intD ρ).map some
def cutD(l:AQ)(lo hi:Option Int):AQ:=(l.drop (HT.sIx l.length 0 lo)).take (HT.sIx l.length l.length hi-HT.sIx l.length 0 lo)
def lstD:D->Option AQ
 | .lst l=>some l
 | .scr ns=>some (ns.map D.int)
 | _=>none
theorem Yt0{d:D}{l:AQ}{v:V}{G H:Hp}(h:lstD d=some l)(r:Ct K G H d v):∃p xs,v=.ref p/\SqL K H p xs/\RpL K G l xs:=by
 cases d with
 | lst m=>
   cases h;rw[Ct]at r;obtain⟨p,xs,e,g,q⟩:=r;exact⟨p,xs,e,.inl g,q⟩
 | scr ns=>
   cases h;rw[Ct]at r;obtain⟨p,e,g⟩:=r;exact⟨p,_,e,g,.ints ns⟩
 | non=>cases h
 | bl _=>cases h
 | int _=>cases h
 | str _=>cases h
 | tup _=>cases h
 | dct _ _ _=>cases h
 | obj _ _ _=>cases h
 | adr _=>cases h
def slF(fa:AV)(lo hi:Option AV):AW:=λρ=>(b1 fa lstD ρ).bind λl=>(optI lo ρ).bind λi=>(optI hi ρ).bind λj=>some (cutD l i j)
abbrev tO(K:W.Frag)(f:Option AV):TO:=match f with
 | none=>Ytp
 | some f=>y3p (tCof K f)
theorem y4e{H0 G0 H G:Hp}{σ:L2.St}{ρ:Ro}{f:Option AV}{i:Option Int}{Q:Option Int->Hp->Prop}(e:optI f ρ=some i)(s:SR K H0 G0 σ H G ρ)(h:∀H' G',Gr H G H' G'->SR K H0 G0 σ H' G' ρ->Q i H'):tO K f σ H Q:=by
 cases f with
 | none=>
   cases e;exact h H G (.refl s.seen) s
 | some f=>
   obtain⟨k,h1,rfl⟩:=qb e;obtain⟨d,h2,h3⟩:=Ybo h1
   refine tCof.at h2 s λv H1 G1 g1 r1 s1=>⟨k,?_,h H1 G1 g1 s1⟩
   cases d<;>simp[intD]at h3;subst h3;rw[Ct]at r1;exact r1
theorem y67:PO X none (tO X.K none):=y0k
def lF(f:AW):AV:=λρ=>(f ρ).map D.lst
theorem MF.me{g:AW}(h:MF X e g):ME X e (lF g):=PE.imp h λσ H Q hx_=>by
 obtain⟨ρ,d,H0,G0,G,e,s,h⟩:=hx_;obtain⟨l,h1,rfl⟩:=qb e
 exact⟨ρ,l,H0,G0,G,h1,s,λp xs H' G' g hp gp e' r=>h _ H' _ (g.show hp gp e') (by
  rw[Rp];refine⟨p,xs,rfl,.inl Yv,r.mono λb o q=>?_⟩
  rw[Yo (Yr q gp)];exact q)⟩
def aNil:AW:=λ_=>some []
def Yg(f:AV)(g:AW):AW:=λρ=>(f ρ).bind λd=>(g ρ).map (d::·)
theorem Yzf:MA X [] aNil:=PA.imp Yep λσ H Q hx_=>by
 obtain⟨ρ,l,H0,G0,G,e,s,h⟩:=hx_;cases e;exact h [] H G (.refl s.seen) .nil
theorem Yt1(ha:ME X e f)(hr:MA X es ga)(hs:starEach (e::es) X.env=(false,eval e X.env)::starEach es X.env:=by rfl):MA X (e::es) (Yg f ga):=PA.imp (Ybr ha hr hs) λσ H Q hx_=>by
 obtain⟨ρ,l,H0,G0,G,e,s,h⟩:=hx_;unfold Yg at e;obtain⟨d,h1,e⟩:=qa e;obtain⟨l',h2,rfl⟩:=qb e;exact tOf.at h1 s λv H1 G1 g1 r1 s1=>tAof.at h2 s1 λvs H2 G2 g2 r2 _=>h (v::vs) H2 G2 (g1.trans g2) (.cons (r1.mono g2.g) r2)
theorem Ypo:MCA X [] aNil:=PA.imp Yep λσ H Q hx_=>by
 obtain⟨ρ,l,H0,G0,G,e,s,h⟩:=hx_;cases e;exact h [] H G (.refl s.seen) rfl
theorem Ymb(ha:MC X e f)(hr:MCA X es ga)(hs:starEach (e::es) X.env=(false,eval e X.env)::starEach es X.env:=by rfl):MCA X (e::es) (Yg f ga):=PA.imp (Ybr ha hr hs) λσ H Q hx_=>by
 obtain⟨ρ,l,H0,G0,G,e,s,h⟩:=hx_;unfold Yg at e;obtain⟨d,h1,e⟩:=qa e;obtain⟨l',h2,rfl⟩:=qb e;exact tCof.at h1 s λv H1 G1 g1 r1 s1=>tCAof.at h2 s1 λvs H2 G2 g2 r2 _=>h (v::vs) H2 G2 (g1.trans g2) ⟨v,vs,rfl,r1.grow g2,r2⟩
def cap6:Nat:=1000000
theorem Yeb{n:Nat}(h:n<=cap6):n<=sizeLine:=Nat.le_trans h (by rw[jj];decide)
def dTup(ga:AW):AV:=λρ=>(ga ρ).bind λl=>if l.length<=cap6 then some (.tup l)else none
def dLst(ga:AW):AW:=λρ=>(ga ρ).bind λl=>if l.length<=cap6 then some l else none
def cC(ga:AW)(g:AQ->Option D):AV:=λρ=>(ga ρ).bind g
def cF(ga:AW)(g:AQ->Option AQ):AW:=λρ=>(ga ρ).bind g
theorem Yzg{r:AN->Hp->VK->Prop}{g:AQ->Option D}(hr:SemC K r g){σ:L2.St}{H:Hp}{Q:VK}(h:tOf K (cC ga g) σ H Q):tCB r (tCAof K ga) σ H Q:=by
 obtain⟨ρ,d,H0,G0,G,e,s,h⟩:=h;unfold cC at e;obtain⟨l,h1,h2⟩:=qa e;exact tCAof.at h1 s λvs H1 G1 g1 r1 s1=>hr vs l d H1 G1 Q h2 s1.seen r1 λv H' G' g2 r2=>h v H' G' (g1.trans g2) r2
theorem y04{r:AN->Hp->VK->Prop}{g:AQ->Option AQ}(hr:SemF K r g){σ:L2.St}{H:Hp}{Q:VK}(h:tFof K (cF ga g) σ H Q):tCB r (tCAof K ga) σ H Q:=by
 obtain⟨ρ,d,H0,G0,G,e,s,h⟩:=h;unfold cF at e;obtain⟨l,h1,h2⟩:=qa e;exact tCAof.at h1 s λvs H1 G1 g1 r1 s1=>hr vs l d H1 G1 Q h2 s1.seen r1 λp xs H' G' g2 hp gp e' r2=>h p xs H' G' (g1.trans g2) (g1.h.free hp) gp e' r2
section
variable {x:Str}{p:Pos}{id T:String}{r:AN->Hp->VK->Prop}{g:AQ->Option D}{gf:AQ->Option AQ}
end
def spOf(K:W.Frag)(n:Nat)(fn:AQ->Option D):Sp:=λvs H Q _=>vs.length=n/\∃ds d G,Same G H/\RpL K G ds vs/\fn ds=some d/\∀v H' G',Gr H G H' G'->Rp K G' d v->Q v H'
theorem y05{k n:Nat}{fa':Addr}{fd':FuncData}{ps:AK}{x:Str}{p:Pos}{fn:AQ->Option D}(F:FnOk X.prog X.w X.K X.mg X.base CX0 k fa' fd' ps (spOf X.K n fn))(hr:Room k X.A)(hg:Gl X x)(hm:X.mg x=some (.ref fa'))(hk:W.keepIn X.K (.ref fa')=true)(hb:Binds X.K fd' ps [])
 (ha:MA X (e::es) ga) (hdb:Ndb x:=by decide) (he:starEach (e::es) X.env=(false,eval e X.env)::starEach es X.env:=by rfl) (hpl:(backTo pos (starEach es X.env)).any (·.1)=false:=by rfl)
 (hl:∀ρ l,ga ρ=some l->l.length=n):ME X (.Call (.Name x p) (e::es) [] pos) (cC ga fn):=
 PE.imp (Ytk (E:=E0) F hr hg hm hk hb .nil Ysb ha hdb he hpl) λσ H Q hx_=>by
  obtain⟨ρ,d,H0,G0,G,e,s,h⟩:=hx_;unfold cC at e;obtain⟨l,h1,h2⟩:=qa e;refine tAof.at h1 s λvs H1 G1 g1 r1 s1=>?_;rw[jb];exact⟨by rw[r1.length];exact hl ρ l h1,l,d,G1,s1.seen,r1,h2,λv H' G' g2 r2=>h v H' G' (g1.trans g2) r2⟩
theorem Yw9{ρ:Ro}{l:AQ}(h:aNil ρ=some l):l.length=0:=by cases h;rfl
theorem Yex{f:AV}{g:AW}{n:Nat}(hg:∀ρ l,g ρ=some l->l.length=n):∀ρ l,Yg f g ρ=some l->l.length=n+1:=λρ l h=>by
 unfold Yg at h;obtain⟨d,h1,e⟩:=qa h;obtain⟨l',h2,rfl⟩:=qb e;rw[qq,hg ρ l' h2]
def lenC:AQ->Option D
 | [c]=>(Yp c).map λl=>.int l.length
 | _=>none
theorem Yt4{G H:Hp}{c:D}{l:AQ}{v:V}(h:Yp c=some l)(r:Ct K G H c v):∃p xs,v=.ref p/\(SqL K H p xs\/SqT K H p xs)/\RpL K G l xs:=by
 rcases Ybt h with rfl|rfl|⟨ns,rfl,rfl⟩
 ·rw[Ct]at r
  obtain⟨p,xs,rfl,g,rl⟩:=r;exact⟨p,xs,rfl,.inr (.inl (.inl g.1)),rl⟩
 ·rw[Ct]at r
  obtain⟨p,xs,rfl,g,rl⟩:=r;exact⟨p,xs,rfl,.inl (.inl g),rl⟩
 ·rw[Ct]at r
  obtain⟨p,rfl,g⟩:=r;exact⟨p,_,rfl,.inl g,.ints ns⟩
theorem Yi3{G:Hp}{d:D}{vs:AN}(h:RpL K G [d] vs):∃v,vs=[v]/\Rp K G d v:=by
 rw[RpL]at h;obtain⟨x,r,rfl,h1,h2⟩:=h;rw[RpL]at h2;subst h2;exact⟨x,rfl,h1⟩
theorem Yey{G H:Hp}{d:D}{vs:AN}(h:CtL K G H [d] vs):∃v,vs=[v]/\Ct K G H d v:=by
 obtain⟨x,r,rfl,h1,h2⟩:=h;cases (show r=[] from h2);exact⟨x,rfl,h1⟩
theorem Ybb:SemC X.K (λxs H Q=>∃p ys,xs=[.ref p]/\(SqL X.K H p ys\/SqT X.K H p ys)/\Q (.int ys.length) H) lenC:=by
 intro vs ds d H G Q h s r q
 match ds,h,r with
 | [c],h,r=>
   obtain⟨l,h1,rfl⟩:=qb h;obtain⟨v,rfl,rv⟩:=Yey r;obtain⟨p,xs,rfl,h2,rl⟩:=Yt4 (K:=X.K) h1 rv;exact⟨p,xs,rfl,h2,q _ H G (.refl s) (by rw[Rp,rl.length])⟩
def Yn4:AQ->Option AQ
 | [c]=>Yp c
 | _=>none
theorem Yij:SemF X.K (λxs H Q=>∃p ys,xs=[.ref p]/\(SqL X.K H p ys\/SqT X.K H p ys)/\∀l,H l=none->Q (.ref l) (upd H l (.lst ys))) Yn4:=by
 intro vs ds l H G Q h s r q
 match ds,h,r with
 | [c],h,r=>
   obtain⟨v,rfl,rv⟩:=Yey r;obtain⟨p,xs,rfl,h2,rl⟩:=Yt4 (K:=X.K) h rv;exact⟨p,xs,rfl,h2,λm hm=>q m xs _ G (.hid s hm _) hm (s.free hm) Yv rl⟩
def tupC:AQ->Option D
 | [c]=>(Yp c).map D.tup
 | _=>none
theorem Yez:SemC X.K (λxs H Q=>∃p ys,xs=[.ref p]/\((SqL X.K H p ys/\∀l,H l=none->Q (.ref l) (upd H l (.tup ys)))\/(SqT X.K H p ys/\Q (.ref p) H))) tupC:=by
 intro vs ds d H G Q h s r q
 match ds,h,r with
 | [c],h,r=>
   obtain⟨l,h1,rfl⟩:=qb h;obtain⟨v,rfl,rv⟩:=Yey r;rcases Ybt h1 with rfl|rfl|⟨ns,rfl,rfl⟩
   ·rw[Ct]at rv
    obtain⟨p,xs,rfl,g,rl⟩:=rv;exact⟨p,xs,rfl,.inr ⟨.inl (.inl g.1),q _ H G (.refl s) (by rw[Rp];exact⟨p,xs,rfl,g.2,rl⟩)⟩⟩
   ·rw[Ct]at rv
    obtain⟨p,xs,rfl,g,rl⟩:=rv;refine⟨p,xs,rfl,.inl ⟨.inl g,λm hm=>q _ _ _ (.new s hm (.tup xs)) ?_⟩⟩;rw[Rp];exact⟨m,xs,rfl,Yv,rl.mono (Gr.new s hm (.tup xs)).g⟩
   ·rw[Ct]at rv
    obtain⟨p,rfl,g⟩:=rv;refine⟨p,_,rfl,.inl ⟨g,λm hm=>q _ _ _ (.new s hm (.tup _)) ?_⟩⟩;rw[Rp];exact⟨m,_,rfl,Yv,.ints ns⟩
def intC:AQ->Option D
 | [.int i]=>some (.int i)
 | [.bl k]=>some (.int (if k then 1 else 0))
 | _=>none
theorem y06:SemC X.K (λxs H Q=>(∃i,xs=[.int i]/\Q (.int i) H)\/∃k,xs=[.bl k]/\Q (.int (if k then 1 else 0)) H) intC:=by
 intro vs ds d H G Q h s r q
 match ds,h,r with
 | [.int i],h,r=>
   cases h;obtain⟨v,rfl,rv⟩:=Yey r;rw[Ct]at rv;subst rv;exact .inl ⟨i,rfl,q _ H G (.refl s) (by rw[Rp])⟩
 | [.bl k],h,r=>
   cases h;obtain⟨v,rfl,rv⟩:=Yey r;rw[Ct]at rv;subst rv;exact .inr ⟨k,rfl,q _ H G (.refl s) (by rw[Rp])⟩
end
end
section
variable {K:W.Frag}
section
variable {X:Cx}{e:Expr}{f:AV}{gl:AW}{pos pos':Pos}{st:Stmt}{sts:List Stmt}{fs gs:AS}
def sNil:AS:=λρ=>some (.nx ρ)
def sSeq(f g:AS):AS:=λρ=>(f ρ).bind fun
 | .nx ρ'=>g ρ'
 | o=>some o
theorem y4h:MB X [] sNil:=PSs.imp Ys6 λF σ H hx_=>by
 obtain⟨ρ,out,H0,G0,G,e,s,h⟩:=hx_;cases e;exact h σ H G s
def frz1(i:Nat)(ρ:Ro):Ro:=match ρ[i]? with
 | some (some (B.ow l))=>ρ.set i (some (.sh (.lst l)))
 | some (some (B.od t ks vs))=>ρ.set i (some (.sh (.dct t ks vs)))
 | _=>ρ
theorem SR.frz1{H0 G0 H G:Hp}{σ:L2.St}{ρ:Ro}(s:SR K H0 G0 σ H G ρ)(i:Nat):∃G',SR K H0 G0 σ H G' (M.frz1 i ρ):=by
 unfold M.frz1
 split
 ·rename_i l hl
  exact s.freeze hl
 ·rename_i t ks vs hl
  exact s.freezed hl
 ·exact⟨G,s⟩
def frz(is:AF)(ρ:Ro):Ro:=is.foldl (λr i=>frz1 i r) ρ
theorem SR.frz{H0 G0 H:Hp}{σ:L2.St}:∀(is:AF) {G:Hp}{ρ:Ro},SR K H0 G0 σ H G ρ->∃G',SR K H0 G0 σ H G' (M.frz is ρ)
 | [],G,_,s=>⟨G,s⟩
 | i::is,_,ρ,s=>by
   obtain⟨G',s'⟩:=s.frz1 i;exact SR.frz is s'
theorem SR.frz1T{H0 G0 H G:Hp}{σ:L2.St}{ρ:Ro}(s:SR K H0 G0 σ H G ρ)(i:Nat):∃G',SR K H0 G0 σ H G' (M.frz1 i ρ)/\∀b ys,G' b=some (.tup ys)->G b=some (.tup ys):=by
 unfold M.frz1
 split
 ·rename_i l hl
  exact s.freezeT hl
 ·rename_i t ks vs hl
  exact s.freezedT hl
 ·exact⟨G,s,λ_ _ h=>h⟩
theorem SR.frzT{H0 G0 H:Hp}{σ:L2.St}:∀(is:AF) {G:Hp}{ρ:Ro},SR K H0 G0 σ H G ρ->∃G',SR K H0 G0 σ H G' (M.frz is ρ)/\∀b ys,G' b=some (.tup ys)->G b=some (.tup ys)
 | [],G,_,s=>⟨G,s,λ_ _ h=>h⟩
 | i::is,_,ρ,s=>by
   obtain⟨G',s',h1⟩:=s.frz1T i;obtain⟨G2,s2,h2⟩:=SR.frzT is s';exact⟨G2,s2,λb ys e=>h1 b ys (h2 b ys e)⟩
def wF(is:AF)(f:AS):AS:=λρ=>f (frz is ρ)
def sSet(i:Nat)(f:AV):AS:=λρ=>(f ρ).map λd=>.nx (ρ.set i (some (.sh d)))
def sOwn(i:Nat)(f:AW):AS:=λρ=>(f ρ).map λl=>.nx (ρ.set i (some (.ow l)))
theorem y4k{i:Nat}{F:Ends}{σ:L2.St}{H:Hp}(h:sOf K (sSet i f) F σ H):tAsg (tOf K f) (Yr4 i) F σ H:=by
 obtain⟨ρ,out,H0,G0,G,e,s,h⟩:=h;obtain⟨d,h1,rfl⟩:=qb e;exact tOf.at h1 s λv H1 G1 g1 r1 s1=>h _ H1 G1 (s1.set_sh i r1)
theorem y4l{i:Nat}{F:Ends}{σ:L2.St}{H:Hp}(h:sOf K (sOwn i gl) F σ H):tAsg (tFof K gl) (Yr4 i) F σ H:=by
 obtain⟨ρ,out,H0,G0,G,e,s,h⟩:=h;obtain⟨l,h1,rfl⟩:=qb e;exact⟨ρ,l,H0,G0,G,h1,s,λp xs H' G' g hp gp e' r=>h _ H' G' (s.set_ow i g hp gp e' r)⟩
def sRet(f:AV):AS:=λρ=>(f ρ).map .rt
theorem y08:MS X (.Pass pos) sNil:=PS.imp Yz5 λF σ H hx_=>by
 obtain⟨ρ,out,H0,G0,G,e,s,h⟩:=hx_;cases e;exact h σ H G s
def sIf(c:AU)(f g:AS):AS:=λρ=>(c ρ).bind λk=>if k=true then f ρ else g ρ
def sMut(i:Nat)(f:AV)(g:AQ->D->Option AQ):AS:=λρ=>(getO i ρ).bind λl=>(f ρ).bind λd=>(g l d).map λl'=>.nx (ρ.set i (some (.ow l')))
theorem Yn5{H0 G0 H G:Hp}{σ:L2.St}{ρ:Ro}{i:Nat}{l:AQ}(s:SR K H0 G0 σ H G ρ)(h:getO i ρ=some l):∃a xs,σ[i]?=some (some (V.ref a))/\H a=some (.lst xs)/\RpL K G l xs/\G a=none:=by
 obtain⟨a,xs,h1,h2,h3,h4,h5⟩:=s.ow i l (Ydw h);exact⟨a,xs,h1,h4,h5,h2⟩
def appD(l:AQ)(d:D):Option AQ:=if l.length<cap6 then some (l++[d])else none
theorem Yxa{J:It}{G':Hp}{ds:AQ}(hz:ds.length<=sizeLine)(h:∀(i:Nat) H2 G2,Same G' G2->Same G2 H2->(∀d,ds[i]?=some d->J.go i H2/\∀y H3,J.yld i H2 y H3->H3=H2/\Rp K G2 d y)/\(ds.length<=i->J.stop i H2)):Wk K J G' ds:=
 ⟨hz,λi H2 G2 s1 s2=>⟨λd hd=>⟨((h i H2 G2 s1 s2).1 d hd).1,λy H3 q=>by
  obtain⟨rfl,r⟩:=((h i H2 G2 s1 s2).1 d hd).2 y H3 q
  exact⟨G2,.refl s2,r⟩⟩,(h i H2 G2 s1 s2).2⟩⟩
variable {tg:Expr}
def iSeq(K:W.Frag)(tl:TE):TI:=λσ H R=>tl σ H λx H1=>∃a xs,x=.ref a/\((SqL K H1 a xs/\(xs.length<=sizeLine->R (Itl K a) H1))\/(SqT K H1 a xs/\(xs.length<=sizeLine->R (Itt K a) H1)))
theorem y4p{l:Expr}{tl:TE}(hl:PE X l tl):PI X tg l (iSeq X.K tl):=by
 intro pins s σ H R I h;refine thn (hl pins s σ H _ I h) λv s1 hx_=>?_;obtain⟨x,H1,I1,r1,q1⟩:=hx_;obtain⟨a,xs,e,q1⟩:=q1;subst e;cases r1;rcases q1 with⟨hq,q⟩|⟨hq,q⟩
 ·obtain⟨its,rv,p,hz⟩:=I1.list hq
  refine wpAny_pyIter_list p.isList ?_;refine⟨~~~s1,[~~~s1],_,_,H1,rfl,I1.kept (t':=s1.toks) λb o e=>qd _ e,Ys9 a _,⟨_,qo _ rfl,rfl,rfl⟩,λb hb=>?_,q hz⟩
  have e:b= ~~~s1:=by simpa using hb
  subst e;exact I1.fpOk (qt _) (I1.hok.fresh (qt _))
 ·obtain⟨its,rv,p,hz⟩:=I1.tuple hq
  refine wpAny_pyIter_tuple (show s1.heap.IsTuple a its.toArray from p) ?_;refine⟨~~~s1,[~~~s1],_,_,H1,rfl,I1.kept (t':=s1.toks) λb o e=>qd _ e,Yr5 a _,⟨_,qo _ rfl,rfl,rfl⟩,λb hb=>?_,q hz⟩
  have e:b= ~~~s1:=by simpa using hb
  subst e;exact I1.fpOk (qt _) (I1.hok.fresh (qt _))
def rngD(a n:Int):AQ:=(List.range (n-a).toNat).map λi=>.int (a+(i:Nat))
theorem Yi4(a n:Int):(rngD a n).length=(n-a).toNat:=by simp[rngD]
theorem Yzh{a n:Int}{G':Hp}(hz:(n-a).toNat<=sizeLine):Wk K (Itr a (n-a).toNat) G' (rngD a n):=
 Yxa (by rw[Yi4];exact hz) λi H2 G2 _ _=>⟨λd hd=>by
  unfold rngD at hd;rw[Qe]at hd;obtain⟨j,h1,rfl⟩:=qb hd
  have hj:i<(n-a).toNat:=by
   have:=(qm h1).1;simpa using this
  rw[List.getElem?_range hj]at h1;cases h1
  exact⟨hj,λy H3 q=>⟨q.1,by rw[Rp];exact q.2⟩⟩,λhi=>by rw[Yi4]at hi;exact hi⟩
def rng1:AQ->Option AQ
 | [.int n]=>if decide (-(cap6:Int)<=n)&&decide (n<=cap6)then some (rngD 0 n)else none
 | _=>none
def rng2:AQ->Option AQ
 | [.int a,.int n]=>if decide (-(cap6:Int)<=a)&&decide (a<=cap6)&&decide (-(cap6:Int)<=n)&&decide (n<=cap6)then some (rngD a n)else none
 | _=>none
theorem Yt6{l ds:AQ}(h:rng1 l=some ds):∃n:Int,l=[.int n]/\-1000000<=n/\n<=1000000/\ds=rngD 0 n:=by
 unfold rng1 at h
 split at h
 ·rename_i n
  split at h
  ·rename_i hc
   cases h;simp only[Qf,wm]at hc
   have hcap:(cap6:Int)=1000000:=by decide
   exact⟨n,rfl,by lia,by lia,rfl⟩
  ·cases h
 ·cases h
theorem Yt7{l ds:AQ}(h:rng2 l=some ds):∃a n:Int,l=[.int a,.int n]/\-1000000<=a/\a<=1000000/\-1000000<=n/\n<=1000000/\ds=rngD a n:=by
 unfold rng2 at h
 split at h
 ·rename_i a n
  split at h
  ·rename_i hc
   cases h;simp only[Qf,wm]at hc
   have hcap:(cap6:Int)=1000000:=by decide
   exact⟨a,n,rfl,by lia,by lia,by lia,by lia,rfl⟩
  ·cases h
 ·cases h
def gSet(i:Nat):AT:=λd ρ=>some (ρ.set i (some (.sh d)))
def Ypp(i j:Nat):AT:=λd ρ=>match d with
 | .tup [a,b]=>some ((ρ.set i (some (.sh a))).set j (some (.sh b)))
 | _=>none
def forM(gt:AT)(fb:AS):AQ->AS
 | [],ρ=>some (.nx ρ)
 | d::ds,ρ=>(gt d ρ).bind λρ1=>(fb ρ1).bind fun
   | .nx ρ2=>forM gt fb ds ρ2
   | .ct ρ2=>forM gt fb ds ρ2
   | .bk ρ2=>some (.nx ρ2)
   | .rt d=>some (.rt d)
def sFor(gl:AW)(gt:AT)(fb:AS):AS:=λρ=>(gl ρ).bind λds=>forM gt fb ds ρ
theorem Yf5{gt:AT}{fb:AS}:∀(ds:AQ) (ρ:Ro) (out:Out),forM gt fb ds ρ=some out->(∃ρ',out=.nx ρ')\/∃d,out=.rt d
 | [],ρ,out,h=>by cases h;exact .inl ⟨_,rfl⟩
 | d::ds,ρ,out,h=>by
   rw[forM]at h;obtain⟨ρ1,h1,h⟩:=qa h;obtain⟨o,h2,h⟩:=qa h
   cases o with
   | nx ρ2=>exact Yf5 ds ρ2 out h
   | ct ρ2=>exact Yf5 ds ρ2 out h
   | bk ρ2=>cases h;exact .inl ⟨_,rfl⟩
   | rt d=>cases h;exact .inr ⟨_,rfl⟩
def capR(src:List AM)(ρ:Ro):Ro:=src.map λo=>o.bind λj=>match ρ[j]? with
 | some (some (B.sh d))=>some (.sh d)
 | _=>none
theorem SR.cap{H0 G0 H G:Hp}{σ:L2.St}{ρ:Ro}(s:SR K H0 G0 σ H G ρ)(src:List AM):SR K H G (capσ src σ) H G (capR src ρ):=by
 have noow:∀(i:Nat) l,(capR src ρ)[i]?≠some (some (B.ow l)):=λi l h=>by
  unfold capR at h;rw[Qe]at h;obtain⟨o,h1,h2⟩:=qb h;obtain⟨j,rfl,h3⟩:=qa h2
  split at h3<;>cases h3
 have nood:∀(i:Nat) t ks vs,(capR src ρ)[i]?≠some (some (B.od t ks vs)):=λi t ks vs h=>by
  unfold capR at h;rw[Qe]at h;obtain⟨o,h1,h2⟩:=qb h;obtain⟨j,rfl,h3⟩:=qa h2
  split at h3<;>cases h3
 refine SR.mkSh (.refl s.seen) (by simp[capσ,capR]) (λi d h=>?_) noow nood;unfold capR at h;rw[Qe]at h;obtain⟨o,h1,h2⟩:=qb h;obtain⟨j,rfl,h3⟩:=qa h2
 split at h3
 ·rename_i d' hd
  cases h3;obtain⟨v,q1,q2⟩:=s.sh j _ hd;refine⟨v,?_,q2⟩;unfold capσ;rw[Qe,h1];show some ((σ[j]?).join)=some (some v);rw[q1];rfl
 ·cases h3
def Yhq(gt:AT)(fc:AU)(fe:AV)(ρ:Ro):AQ->Option AQ
 | []=>some []
 | d::ds=>(gt d ρ).bind λρ1=>(fc ρ1).bind λk=>if k=true then (fe ρ1).bind λv=>(Yhq gt fc fe ρ ds).map (v::·)else Yhq gt fc fe ρ ds
def Yci(gl:AW)(src:List AM)(gt:AT)(fc:AU)(fe:AV):AW:=λρ=>(gl ρ).bind λds=>Yhq gt fc fe (capR src ρ) ds
def tY:AU:=λ_=>some true
theorem y1b{σ:L2.St}{H:Hp}{Q:Bool->Hp->Prop}(h:tTof K tY σ H Q):tYes σ H Q:=by
 obtain⟨ρ,k,H0,G0,G,e,s,h⟩:=h;cases e;exact h H G (.refl s.seen)
theorem y4s:PIfs X [] (tTof X.K tY):=λpins s σ H Q I h=>y0o pins s σ H Q I (y1b h)
theorem Ycj{src:List AM}{i:Nat}(h:src[i]?=some none):∀ρ d ρ1,gSet i d (capR src ρ)=some ρ1->Le (capR src ρ) ρ1:=λρ d ρ1 e=>by
 cases e;refine⟨by simp,λj b hb=>?_⟩;by_cases hj:j=i
 ·subst hj
  unfold capR at hb;rw[Qe,h]at hb;cases hb
 ·rw[Qa (Ne.symm hj)];exact hb
theorem Yxb{src:List AM}{i k:Nat}(h:src[i]?=some none)(h':src[k]?=some none):∀ρ d ρ1,Ypp i k d (capR src ρ)=some ρ1->Le (capR src ρ) ρ1:=λρ d ρ1 e=>by
 unfold Ypp at e
 split at e
 ·cases e
  refine⟨by simp,λj b hb=>?_⟩
  have ne:∀n,src[n]?=some none->j≠n:=λn hn z=>by
   subst z;unfold capR at hb;rw[Qe,hn]at hb;cases hb
  rw[Qa (Ne.symm (ne k h')),Qa (Ne.symm (ne i h))];exact hb
 ·cases e
theorem Yua{src:List AM}{gt:AT}{fc:AU}{fe:AV}(hle:∀ρ d ρ1,gt d (capR src ρ)=some ρ1->Le (capR src ρ) ρ1){σ:L2.St}{H:Hp}{Q:VK}
 (h:tFof K (Yci gl src gt fc fe) σ H Q):tLC (tIof K gl) src (gOf K gt) (tTof K fc) (tOf K fe) σ H Q:=by
 obtain⟨ρ,l,H0,G0,G,e,s,h⟩:=h;unfold Yci at e;obtain⟨ds,h1,h2⟩:=qa e;refine⟨ρ,ds,H0,G0,G,h1,s,λJ H1 G1 g1 wk p hp=>?_⟩;have s1:=s.grow g1;have sc:=s1.cap src;have gp:G1 p=none:=s1.seen.free hp
 refine⟨λi m σ' H'=>m=ds.length-i/\i<=ds.length/\∃G' done xs rest,SR K H1 G1 σ' H' G' (capR src ρ)/\H' p=some (.lst xs)/\G' p=none/\RpL K G' done xs/\xs.length<=i/\Yhq gt fc fe (capR src ρ) (ds.drop i)=some rest/\done++rest=l,
  ⟨_,rfl,Qc _,G1,[],[],l,sc.grow (Gr.hid s1.seen hp _),Yv,gp,.nil,Qc _,h2,rfl⟩,?_⟩
 rintro i m σ' H' ⟨rfl,hi,G',done,xs,rest,s',hx,gx,rx,hl,e',hd⟩;have W:=wk.2 i H' G' s'.gr.g s'.seen;by_cases hlt:i<ds.length
 ·have hdi:ds[i]?=some ds[i]:=qp hlt
  obtain⟨go,yl⟩:=W.1 _ hdi;rw[List.drop_eq_getElem_cons hlt,Yhq]at e';obtain⟨ρ1,e1,e'⟩:=qa e';obtain⟨k,e2,e'⟩:=qa e';refine .inr ⟨go,λx H2 y=>?_⟩;obtain⟨G2,g2,r2⟩:=yl x H2 y
  have keep:∀{Ha Ga Hb Gb:Hp},Gr Ha Ga Hb Gb->Ha p=some (.lst xs)->Ga p=none->Hb p=some (.lst xs)/\Gb p=none:=λ{Ha Ga Hb Gb} g e1 e2=>by
   refine⟨g.h _ _ e1,?_⟩
   cases q:Gb p with
   | none=>rfl
   | some o=>
     have:=g.n p e2 (by rw[q];exact λz=>nomatch z);rw[e1]at this;cases this
  obtain⟨hx2,gx2⟩:=keep g2 hx gx;refine⟨_,capR src ρ,ρ1,H1,G1,G2,e1,s'.grow g2,r2,λσ3 s3=>?_⟩;refine tTof.at e2 s3 λH4 G4 g4 s4=>?_;obtain⟨hx4,gx4⟩:=keep g4 hx2 gx2;have le:=hle ρ _ ρ1 e1
  cases k with
  | false=>
    rw[if_neg qh]at e' ⊢;exact⟨ds.length-(i+1),by lia,rfl,hlt,G4,done,xs,rest,s4.le le,hx4,gx4,(rx.mono g2.g).mono g4.g,by lia,e',hd⟩
  | true=>
    rw[if_pos rfl]at e' ⊢;obtain⟨v,e3,e'⟩:=qa e';obtain⟨rest',e4,rfl⟩:=qb e';refine tOf.at e3 s4 λw H5 G5 g5 r5 s5=>?_;obtain⟨hx5,gx5⟩:=keep g5 hx4 gx4;have hz:=wk.1;refine⟨xs,hx5,by lia,ds.length-(i+1),by lia,rfl,hlt,G5,done++[v],xs++[w],rest',?_,Yv,gx5,(((rx.mono g2.g).mono g4.g).mono g5.g).append (.one r5),by simp;lia,e4,by simpa using hd⟩;have s6:=s5.le le
    have noow:∀(i:Nat) l,(capR src ρ)[i]?≠some (some (B.ow l)):=λi l h=>by
     unfold capR at h;rw[Qe]at h;obtain⟨o,h1,h2⟩:=qb h;obtain⟨j,rfl,h3⟩:=qa h2
     split at h3<;>cases h3
    have nood:∀(i:Nat) t ks vs,(capR src ρ)[i]?≠some (some (B.od t ks vs)):=λi t ks vs h=>by
     unfold capR at h;rw[Qe]at h;obtain⟨o,h1,h2⟩:=qb h;obtain⟨j,rfl,h3⟩:=qa h2
     split at h3<;>cases h3
    refine SR.mkSh ⟨λb o q=>?_,s6.gr.g,λb o q=>?_,s6.gr.n⟩ s6.len s6.sh noow nood
    ·rw[Yo (Yr q hp)];exact s6.gr.h b o q
    ·rw[Yo (Yr q gx5)];exact s6.gr.s b o q
 ·have ei:i=ds.length:=by lia
  subst ei;rw[List.drop_length,Yhq]at e';cases e';rw[jb]at hd;subst hd;exact .inl ⟨W.2 (qt _),h p xs H' G' (g1.trans s'.gr) (g1.h.free hp) gx hx rx⟩
section
variable {elt iter:Expr}{ifs:AL}{scope:Scope}{N:AK}{src:List AM}{gt:AT}{fc:AU}{fe:AV}
theorem y1c(S:CompSc X.N X.env.scope N src scope)(hc:X.calm=true)(hit:MI X tg iter gl)(hg:∀cl C fp s H,MG (Yas X scope N cl C fp s H) tg gt)(hi:∀cl C fp s H,PIfs (Yas X scope N cl C fp s H) ifs (tTof X.K fc))(he:∀cl C fp s H,ME (Yas X scope N cl C fp s H) elt fe)
 (hle:∀ρ d ρ1,gt d (capR src ρ)=some ρ1->Le (capR src ρ) ρ1) (hs:∀x,foldedSetIterable iter X.env x=pure x:=by intro _;rfl):MF X (.ListComp elt [⟨tg,iter,ifs,0⟩] scope pos) (Yci gl src gt fc fe):=
 PE.imp (y0q S hc hit hg hi he hs) λ_ _ _ h=>Yua hle h
theorem y1d(i:Nat){y:Str}{py spos:Pos}(hN:X.N.Nodup)(S:CompSc X.N X.env.scope N src scope)(hc:X.calm=true)(hit:MI X tg iter gl)(hg:∀cl C fp s H,MG (Yas X scope N cl C fp s H) tg gt)(hi:∀cl C fp s H,PIfs (Yas X scope N cl C fp s H) ifs (tTof X.K fc))(he:∀cl C fp s H,ME (Yas X scope N cl C fp s H) elt fe)
 (hle:∀ρ d ρ1,gt d (capR src ρ)=some ρ1->Le (capR src ρ) ρ1) (hsw:swapsWith (.ListComp elt [⟨tg,iter,ifs,0⟩] scope pos) (some (.Name y py)) spos.line X.env=pure true:=by rfl) (hy:X.N[i]?=some y:=by rfl) (hx:Loc X.env.scope y:=by trivial)
 (hf:X.fn y=true\/X.env.scope.names.lookup y=some .local:=by trivial) (hs:∀x,foldedSetIterable iter X.env x=pure x:=by intro _;rfl):MS X (.Assign [.Name y py] (.ListComp elt [⟨tg,iter,ifs,0⟩] scope pos) spos) (sOwn i (Yci gl src gt fc fe)):=
 PS.imp (y0r S hc hit hg hi he hN hy hx hsw hf hs) λF σ H h=>by
  obtain⟨ρ,out,H0,G0,G,e,s,h⟩:=h;obtain⟨l,h1,rfl⟩:=qb e;exact Yua hle ⟨ρ,l,H0,G0,G,h1,s,λp xs H' G' g hp gp e' r=>h _ H' G' (s.set_ow i g hp gp e' r)⟩
end
def Yw(n:Nat)(ds:AQ):Ro:=ds.map (λd=>some (.sh d))++List.replicate (n-ds.length) none
def runB(k n:Nat)(fb:AS)(ds:AQ):Option D:=if ds.length=k then (fb (Yw n ds)).bind fun
 | .rt d=>some d
 | .nx _=>some .non
 | _=>none
 else none
theorem SR.start{H G:Hp}{ds:AQ}{vs:AN}{N:AK}(s:Same G H)(r:RpL K G ds vs):SR K H G (start N vs) H G (Yw N.length ds):=by
 have hl:=r.length
 have noow:∀(i:Nat) l,(Yw N.length ds)[i]?≠some (some (B.ow l)):=λi l h=>by
  unfold Yw at h;rw[List.getElem?_append]at h
  split at h
  ·rw[Qe]at h
   obtain⟨d,_,h2⟩:=qb h;cases h2
  ·rw[List.getElem?_replicate]at h
   split at h<;>cases h
 have nood:∀(i:Nat) t ks vs,(Yw N.length ds)[i]?≠some (some (B.od t ks vs)):=λi t ks vs h=>by
  unfold Yw at h;rw[List.getElem?_append]at h
  split at h
  ·rw[Qe]at h
   obtain⟨d,_,h2⟩:=qb h;cases h2
  ·rw[List.getElem?_replicate]at h
   split at h<;>cases h
 refine SR.mkSh (.refl s) (by simp[L2.start,Yw,hl]) (λi d h=>?_) noow nood;unfold Yw at h;rw[List.getElem?_append]at h
 split at h
 ·rename_i hi
  rw[Qe]at h;obtain⟨d',h1,h2⟩:=qb h;cases h2;obtain⟨v,h3,h4⟩:=r.get h1;refine⟨v,?_,h4⟩;unfold L2.start;rw[List.getElem?_append_left (by rw[qe,hl];simpa using hi),Qe,h3];rfl
 ·rw[List.getElem?_replicate]at h
  split at h<;>cases h
section
variable {P:Program}{w:World}{mg:AE}{base:Heap}
theorem Yub{x qual:Str}{st:Stmt}{f:Addr}{fd:FuncData}{N ps:AK}{k n m:Nat}{fb:AS}(F:Fun K x qual st f fd)(S:FnScope N ps (defScope st))(hn:N.length=n)(hm:ps.length=m)
 (hb:∀(cdv:Value) (A:Around) (outer:List Env) (s:Shared) (H:Hp) (E:XK),Room k (A.deeper (envOfC qual (defScope st) (~~~s) f cdv))->MB (cxOf CX0 P w K mg base N qual (defScope st) f cdv A outer s H E).nox (defBody st) fb) :
 FnOk P w K mg base CX0 (k+1) f fd ps (spOf K m (runB m n fb)):=by
 refine F.ok S (λvs H Q E h=>by rw[h.1,hm]) λcdv A outer s H vs Q E hr h=>?_;obtain⟨hl,ds,d,G,sm,r,e,q⟩:=h;refine⟨_,hb cdv A outer s H E hr,?_⟩;unfold runB at e
 split at e
 ·rename_i hds
  obtain⟨o,h1,h2⟩:=qa e;refine⟨Yw n ds,o,H,G,G,h1,by rw[<-hn];exact SR.start sm r,?_⟩
  cases o with
  | rt d'=>cases h2;exact λv H' G' g r'=>q v H' G' g r'
  | nx ρ=>cases h2;exact λσ' H' G' s'=>q .non H' G' s'.gr (by rw[Rp])
  | bk ρ=>cases h2
  | ct ρ=>cases h2
 ·cases e
end
end
end
section
variable {K:W.Frag}
def Okf(P:Program)(w:World)(K:W.Frag)(mg:AE)(base:Heap)(k n:Nat)(x:Str)(ps:AK)(fn:AQ->Option D):Prop:=
 ∃a fd,FnOk P w K mg base CX0 k a fd ps (spOf K n fn)/\Binds K fd ps []/\W.keepIn K (.ref a)=true/\mg x=some (.ref a)
theorem y4t{P:Program}{w:World}{K:W.Frag}{mg:AE}{base:Heap}{k n:Nat}{x q:Str}{ps:AK}{fn:AQ->Option D}{st:Stmt}{a:Addr}{fd:FuncData}(F:Fun K x q st a fd)(b:Binds K fd ps [])
 (hm:mg x=some (.ref a)) (h:FnOk P w K mg base CX0 k a fd ps (spOf K n fn)):Okf P w K mg base k n x ps fn:=⟨a,fd,h,b,F.kp,hm⟩
section
variable {X:Cx}{a b e:Expr}{es:AL}{fa fb:AV}{ga:AW}{pos:Pos}
def negI:D->Option D
 | .int i=>some (.int (-i))
 | _=>none
def catD:D->D->Option AQ
 | .lst a,.lst b=>if a.length+b.length<=cap6 then some (a++b)else none
 | _,_=>none
def y7a:R2:=λx y H Q=>∃l b xs zs,x=.ref l/\y=.ref b/\Rd H l (.lst xs)/\Rd H b (.lst zs)/\xs.length+zs.length<=sizeLine/\∀p,H p=none->Q (.ref p) (upd H p (.lst (xs++zs)))
theorem y1e:OpR X (binaryOp .Add) y7a:=by
 intro pins s σ H x y v u Q I rx ry h;obtain⟨l,b,xs,zs,rfl,rfl,hH,hB,hz,q⟩:=h;cases rx;cases ry;obtain⟨z,its,n,r,e⟩:=hH.ok I.hok;obtain⟨z2,its2,n2,r2,e2⟩:=hB.ok I.hok;have hl:=r.length;have hl2:=r2.length;refine PySem.P.add_list e e2 ?_ (by rw[qj,qj];lia)
 have ea:its.toArray++its2.toArray=(its++its2).toArray:=by simp
 rw[ea];exact⟨.ref _,_,I.lnew (t':=s.toks) (r.append r2) (by rw[qx];lia),rfl,q _ I.fresh⟩
def Ygr:D->String
 | .non=>"NoneType"
 | .bl _=>"bool"
 | .int _=>"int"
 | .str _=>"str"
 | .tup _=>"tuple"
 | .lst _=>"list"
 | .scr _=>"list"
 | .dct _ _ _=>"dict"
 | .obj _ _ _=>"dict"
 | .adr _=>"dict"
def Yxd:D->Bool
 | .scr _=>false
 | .dct t _ _=>!t
 | .obj _ _ _=>false
 | .adr _=>false
 | _=>true
def isiD(T:String)(d:D):Option Bool:=if Yxd d=true then some (Ygr d==T||(T=="int"&&Ygr d=="bool"))else none
theorem y1f{G H:Hp}{d:D}{v:V}(hn:Yxd d=true)(r:Ct K G H d v):TyOf K H v (.type (Ygr d)):=by
 cases d<;>rw[Ct]at r
 ·subst r;exact .non
 ·subst r;exact .bl _
 ·subst r;exact .int _
 ·obtain⟨rfl,_⟩:=r;exact .str _
 ·obtain⟨a,xs,rfl,g,_⟩:=r;exact .tup g.1
 ·obtain⟨a,xs,rfl,g,_⟩:=r
  rcases g with g|⟨o,g⟩
  ·exact .lst g
  ·exact .frz g
 ·cases hn
 ·rename_i t _ _
  cases t with
  | true=>cases hn
  | false=>
    obtain⟨a,_,_,rfl,g,_⟩:=r;rcases g with⟨_,_,g,_⟩|⟨g,_⟩
    ·exact .dK g
    ·cases g
 ·cases hn
 ·cases hn
def Kit(T:String):Prop:=∀(K:W.Frag) (d:D),W.kitOne K (.type (Ygr d)) (.type T)=some (Ygr d==T||(T=="int"&&Ygr d=="bool"))
theorem Yxe:Kit "bool":=λK d=>by cases d<;>rfl
theorem Yuc:Kit "str":=λK d=>by cases d<;>rfl
theorem Yxf{T:String}(hk:Kit T):Ydu X (.builtin "isinstance") (λxs H Q=>∃x d G,xs=[x,.ty T]/\Yxd d=true/\Ct X.K G H d x/\Q (.bl (Ygr d==T||(T=="int"&&Ygr d=="bool"))) H):=by
 intro pins s σ H xs us Q I r h;obtain⟨x,d,G,rfl,hn,rx,q⟩:=h;obtain⟨u,w',rfl,r1,r2⟩:=y0a r;cases (show w'=Value.type T from r2)
 exact Ynp I r1 (y1f hn rx) (hk X.K d) λtk=>⟨.bl _,H,I.tok tk,rfl,q⟩
end
end
section
variable {K:W.Frag}
def insI(a:Int):AG->AG
 | []=>[a]
 | b::l=>if a<=b then a::b::l else b::insI a l
def Yhr:AG->AG
 | []=>[]
 | a::l=>insI a (Yhr l)
theorem Yi5(a:Int):∀l:AG,(insI a l).Perm (a::l)
 | []=>.refl _
 | b::l=>by
   rw[insI]
   split
   ·exact .refl _
   ·exact((Yi5 a l).cons b).trans (.swap a b l)
theorem Ycw:∀l:AG,(Yhr l).Perm l
 | []=>.refl _
 | a::l=>(Yi5 a _).trans ((Ycw l).cons a)
theorem Yi6(a:Int):∀l:AG,l.Pairwise (·<=·)->(insI a l).Pairwise (·<=·)
 | [],_=>by simp[insI]
 | b::l,h=>by
   rw[insI]
   split
   ·rename_i hab
    refine List.pairwise_cons.mpr ⟨λx hx=>?_,h⟩;rcases qr hx with rfl|hx
    ·exact hab
    ·exact Int.le_trans hab ((List.pairwise_cons.mp h).1 x hx)
   ·rename_i hab
    refine List.pairwise_cons.mpr ⟨λx hx=>?_,Yi6 a l (List.pairwise_cons.mp h).2⟩;rcases qr ((Yi5 a l).mem_iff.mp hx)with rfl|hx
    ·lia
    ·exact(List.pairwise_cons.mp h).1 x hx
theorem Ycc:∀l:AG,(Yhr l).Pairwise (·<=·)
 | []=>.nil
 | a::l=>Yi6 a _ (Ycc l)
section
variable {prog:Program}{w:World}{A:Around}{E:AB}{s:Shared}
def plt(j:Int)(q:Bool)(i:Int)(p:Bool):Bool:=if j=i then (!q&&p)else decide (j<i)
theorem y1g{b c:Addr}{i j:Int}{p q:Bool}{t u:Tok}{R:Bool->Shared->Prop}(hb:IsTup s.heap b #[.int i t,.bool p])(hc:IsTup s.heap c #[.int j u,.bool q])(h:R (plt j q i p) s) :
 wpAny (model prog w) A (keyLt' (tuples' true) (.ref c) (.ref b)) R E s:=by
 obtain⟨ob,h1,_,n1,d1⟩:=hb;obtain⟨oc,h2,_,n2,d2⟩:=hc;refine W.kat_lt h2 d2 h1 d1 ?_;show W.KatLex prog w A true false R [(.int j u,.int i t),(.bool q,.bool p)] 0 s;unfold plt at h;refine W.kat_cons (SeqAt.EqAt.int_int j u i t prog w _ _ (W.kat_go (λe=>W.kat_yes (W.kat_cons (SeqAt.EqAt.bool_bool q p prog w _ _ (W.kat_go (λe2=>W.kat_yes (W.kat_nil ?_)) λe2=>W.kat_no (W.kat_one _ _ (lt_bool ?_)))))) λe=>W.kat_no ?_))
 ·have e':j=i:=by simpa using e
  have e2':q=p:=by simpa using e2
  rw[if_pos e',e2']at h;cases p<;>exact h
 ·have e':j=i:=by simpa using e
  rw[if_pos e']at h;show R _ s
  cases p<;>cases q<;>first|exact h|simp at e2
 ·have e':¬j=i:=by simpa using e
  rw[if_neg e']at h;exact oneLt_int h
theorem Ysf{cmp:Nat->Nat->(Bool->Shared->Prop)->Shared->Prop}{G:Array Nat->Shared->Prop}{S:Shared}(h:cmp 1 0 (λk s'=>if k=true then G #[1,0] s' else G #[0,1] s') S):(W.kas_sort 2).kasWp cmp G S:=by
 show cmp 1 0 (λk s'=>W.KasT.kasWp cmp _ G s') S
 have e:∀(k:Bool) (s':Shared),(if k=true then G #[1,0] s' else G #[0,1] s')=W.KasT.kasWp cmp (W.KasT.bind (W.KasT.bind (if k=true then W.KasT.ret 1 else W.kas_asc (List.toArray (List.range 2)) 0 2)
  λn=>if (n==2)=true then W.KasT.ret (n,List.toArray (List.range 2))else if n > 1 then .ask ((List.toArray (List.range 2)).getD 0 0) ((List.toArray (List.range 2)).getD (n-1) 0) λc=>if c=true then .ret (n,List.toArray (List.range 2))else W.kas_descPart n 2 (W.kas_rev (List.toArray (List.range 2)) 0 n)
   else W.kas_descPart n 2 (List.toArray (List.range 2))) λr=>if r.1<2 then W.kas_bin (2-max r.1 1) r.2 (max r.1 1)else .ret r.2) G s':=λk s'=>by cases k<;>rfl
 have e2:(fun(k:Bool) (s':Shared)=>if k=true then G #[1,0] s' else G #[0,1] s')=_:=funext λk=>funext λs'=>e k s';rw[e2]at h;exact h
end
def Yfq:AQ->Option AG
 | []=>some []
 | .int i::l=>(Yfq l).map (i::·)
 | _=>none
def prI:D->Option (Int×Bool)
 | .tup [.int j,.bl q]=>some (j,q)
 | _=>none
theorem Yhs{α:Type}{x:α}{P:Prop}(h:none=some x):P:=by cases h
theorem Yxg{d:D}{x:Int×Bool}(h:prI d=some x):d=.tup [.int x.1,.bl x.2]:=by
 cases d with
 | tup l=>cases l with
   | nil=>exact Yhs h
   | cons a l=>cases a with
     | int j=>cases l with
       | nil=>exact Yhs h
       | cons b l=>cases b with
         | bl q=>cases l with
           | nil=>exact w9 h ▸ rfl
           | cons _ _=>exact Yhs h
         | _=>exact Yhs h
     | _=>exact Yhs h
 | _=>exact Yhs h
theorem Ylg:∀{l:AQ}{ns:AG},Yfq l=some ns->l=ns.map D.int
 | [],ns,h=>by cases h;rfl
 | .int i::l,ns,h=>by
   rw[Yfq]at h;obtain⟨m,h1,rfl⟩:=qb h;rw[Ylg h1];rfl
 | .non::l,ns,h=>by simp[Yfq]at h
 | .bl _::l,ns,h=>by simp[Yfq]at h
 | .str _::l,ns,h=>by simp[Yfq]at h
 | .tup _::l,ns,h=>by simp[Yfq]at h
 | .lst _::l,ns,h=>by simp[Yfq]at h
 | .scr _::l,ns,h=>by simp[Yfq]at h
 | .dct _ _ _::l,ns,h=>by simp[Yfq]at h
 | .obj _ _ _::l,ns,h=>by simp[Yfq]at h
 | .adr _::l,ns,h=>by simp[Yfq]at h
theorem Yrb{G:Hp}:∀{ns:AG}{xs:AN},RpL K G (ns.map D.int) xs->xs=ns.map V.int
 | [],xs,h=>by rw[List.map_nil,RpL]at h;exact h
 | n::ns,xs,h=>by
   rw[q0,RpL]at h;obtain⟨x,r,rfl,h1,h2⟩:=h;rw[Rp]at h1;rw[h1,Yrb h2];rfl
end
section
variable {K:W.Frag}
section
variable {X:Cx}{e:Expr}{f fb:AV}{pos pos':Pos}
def blsD:AQ->Option AH
 | []=>some []
 | .bl b::l=>(blsD l).map (b::·)
 | _=>none
theorem Yn6:∀{l:AQ}{bs:AH},blsD l=some bs->l=bs.map D.bl
 | [],bs,h=>by cases h;rfl
 | .bl i::l,bs,h=>by
   rw[blsD]at h;obtain⟨m,h1,rfl⟩:=qb h;rw[Yn6 h1];rfl
 | .non::l,ns,h=>by simp[blsD]at h
 | .int _::l,ns,h=>by simp[blsD]at h
 | .str _::l,ns,h=>by simp[blsD]at h
 | .tup _::l,ns,h=>by simp[blsD]at h
 | .lst _::l,ns,h=>by simp[blsD]at h
 | .scr _::l,ns,h=>by simp[blsD]at h
 | .dct _ _ _::l,ns,h=>by simp[blsD]at h
 | .obj _ _ _::l,ns,h=>by simp[blsD]at h
 | .adr _::l,ns,h=>by simp[blsD]at h
theorem Yud{G:Hp}:∀{bs:AH}{xs:AN},RpL K G (bs.map D.bl) xs->xs=bs.map V.bl
 | [],xs,h=>by rw[List.map_nil,RpL]at h;exact h
 | n::ns,xs,h=>by
   rw[q0,RpL]at h;obtain⟨x,r,rfl,h1,h2⟩:=h;rw[Rp]at h1;rw[h1,Yud h2];rfl
theorem Ymc:∀{bs:AH}{us:AD},Vals (bs.map V.bl) us->us=bs.map Value.bool
 | [],us,h=>by cases h;rfl
 | b::bs,us,h=>by
   cases h with
   | cons r t=>
     cases (show _=Value.bool b from r);rw[Ymc t];rfl
theorem Yue(bs:AH):((List.range bs.length).any λi=>bs.getD i false)=bs.any id:=by
 induction bs with
 | nil=>rfl
 | cons b bs ih=>
   rw[qq,List.range_succ_eq_map,List.any_cons,List.any_map,List.any_cons]
   have:(List.range bs.length).any ((λi=>(b::bs).getD i false) ∘ Nat.succ)=(List.range bs.length).any λi=>bs.getD i false:=by
    congr 1
   rw[this,ih];rfl
theorem Yuf(bs:AH):((List.range bs.length).all λi=>bs.getD i false)=bs.all id:=by
 induction bs with
 | nil=>rfl
 | cons b bs ih=>
   rw[qq,List.range_succ_eq_map,List.all_cons,List.all_map,List.all_cons]
   have:(List.range bs.length).all ((λi=>(b::bs).getD i false) ∘ Nat.succ)=(List.range bs.length).all λi=>bs.getD i false:=by
    congr 1
   rw[this,ih];rfl
def rBls(g:AH->V):AN->Hp->VK->Prop:=λvs H Q=>∃(a:Addr) (bs:AH),vs=[.ref a]/\Rd H a (.lst (bs.map V.bl))/\Q (g bs) H
theorem Yn7(A:Around)(prog:Program)(w:World)(bs:AH):TruthOf prog w A (λi v=>((bs.map Value.bool).toArray)[i]?=some v) (λi=>bs.getD i false):=λi v s Q E hP hQ=>by
 have hP':(bs.map Value.bool)[i]?=some v:=by simpa using hP
 rw[Qe]at hP';obtain⟨b,h1,rfl⟩:=qb hP';refine wpAny_truthy_bool ?_
 have:bs.getD i false=b:=by simp[h1]
 rw[<-this];exact hQ
theorem Yn8{pins:AC}{s:Shared}{σ:L2.St}{H:Hp}{a:Addr}{its:AD}{A:Around}{E:AB}{Q:AB}(hh:A.handled=none)(hl:s.heap.IsList a its.toArray)
 (h:∀s₂,s₂={ s with heap:=s.heap.push { cls:=.type "list_iterator",data:=.fields #[.ref a,.int 0 0] } }->Walks X.prog X.w A (~~~s) [~~~s,a] [~~~s] its.toArray.size (λi v=>its.toArray[i]?=some v) (λi h=>h.IsListIter (~~~s) a i/\h.IsList a its.toArray)->
  (s₂.heap.IsListIter (~~~s) a 0/\s₂.heap.IsList a its.toArray)->Q (.ref (~~~s)) s₂):wpAny (model X.prog X.w) A (pyIter (.ref a)) Q E s:=by
 have hne:a≠(~~~s):=by
  obtain⟨o,ho,_⟩:=hl;exact ql (qk ho)
 refine wpAny_pyIter_list hl (h _ rfl (Walks.list hh _ a hne _) ⟨⟨_,qo _ rfl,rfl,rfl⟩,?_⟩);obtain⟨o,ho,r⟩:=hl;exact⟨o,qd _ ho,r⟩
theorem Yh6{pins:AC}{s:Shared}{σ:L2.St}{H:Hp}{h':Heap}{tk:Nat}{o:Obj}(I:Inv X pins σ H s)(k:∀b u,b∉[~~~s]->(s.heap.push o).get? b=some u->h'.get? b=some u):Inv X pins σ H { s with heap:=h',toks:=tk }:=
 I.kept λb u q=>k b u (by
  intro z
  have e:b= ~~~s:=by simpa using z
  exact absurd (qk q) (by rw[e];exact Qd _)) (qd _ q)
theorem Yi7(hc:X.calm=true):Ydu X (.builtin "any") (rBls λbs=>.bl (bs.any id)):=by
 intro pins s σ H xs us Q I r h;obtain⟨a,bs,rfl,hr,q⟩:=h;obtain⟨u,rfl,ru⟩:=Yia r;cases ru;obtain⟨its,rv,pl,hz⟩:=I.list (.inl hr);cases Ymc rv;refine call_any_walk (Yn8 (X:=X) (pins:=pins) (σ:=σ) (H:=H) (show X.A.in1.handled=none from I.ok.hd hc) pl.isList λs₂ e W st=>?_);subst e;refine⟨_,_,_,_,_,_,λi=>bs.getD i false,rfl,W,st,Yn7 _ _ _ bs,λh' tk k=>⟨.bl _,H,(show Inv X pins σ H { s with heap:=h',toks:=tk } from Yh6 I k),?_,q⟩⟩;show Value.bool _=Value.bool _;rw[qj,qe,Yue]
theorem Yn9(hc:X.calm=true):Ydu X (.builtin "all") (rBls λbs=>.bl (bs.all id)):=by
 intro pins s σ H xs us Q I r h;obtain⟨a,bs,rfl,hr,q⟩:=h;obtain⟨u,rfl,ru⟩:=Yia r;cases ru;obtain⟨its,rv,pl,hz⟩:=I.list (.inl hr);cases Ymc rv;refine call_all_walk (Yn8 (X:=X) (pins:=pins) (σ:=σ) (H:=H) (show X.A.in1.handled=none from I.ok.hd hc) pl.isList λs₂ e W st=>?_);subst e;refine⟨_,_,_,_,_,_,λi=>bs.getD i false,rfl,W,st,Yn7 _ _ _ bs,λh' tk k=>⟨.bl _,H,(show Inv X pins σ H { s with heap:=h',toks:=tk } from Yh6 I k),?_,q⟩⟩;show Value.bool _=Value.bool _;rw[qj,qe,Yuf]
def anyC:AQ->Option D
 | [.lst l]=>(blsD l).map λbs=>.bl (bs.any id)
 | _=>none
def allC:AQ->Option D
 | [.lst l]=>(blsD l).map λbs=>.bl (bs.all id)
 | _=>none
theorem Yug{g:AH->V}{gd:AH->D}{m:AQ->Option D}(hm:∀ds d,m ds=some d->∃l bs,ds=[.lst l]/\blsD l=some bs/\d=gd bs)(hg:∀G bs,Rp K G (gd bs) (g bs)):SemC K (rBls g) m:=by
 intro vs ds d H G Q h s r q;obtain⟨l,bs,rfl,h1,rfl⟩:=hm ds d h;obtain⟨v,rfl,rv⟩:=Yey r;rw[Ct]at rv;obtain⟨a,xs,rfl,g',rl⟩:=rv;cases Yn6 h1;cases Yud rl;exact⟨a,bs,rfl,g',q _ H G (.refl s) (hg G bs)⟩
theorem Ypq:SemC K (rBls λbs=>.bl (bs.any id)) anyC:=Yug (gd:=λbs=>.bl (bs.any id)) (λds d h=>by
 unfold anyC at h
 split at h
 ·obtain⟨bs,h1,rfl⟩:=qb h
  exact⟨_,bs,rfl,h1,rfl⟩
 ·cases h) λG bs=>by rw[Rp]
theorem Yuh:SemC K (rBls λbs=>.bl (bs.all id)) allC:=Yug (gd:=λbs=>.bl (bs.all id)) (λds d h=>by
 unfold allC at h
 split at h
 ·obtain⟨bs,h1,rfl⟩:=qb h
  exact⟨_,bs,rfl,h1,rfl⟩
 ·cases h) λG bs=>by rw[Rp]
def Yi8(i:Nat)(fi f:AV)(g:AQ->D->D->Option AQ):AS:=λρ=>(f ρ).bind λd=>(getO i ρ).bind λl=>(fi ρ).bind λk=>(g l k d).map λl'=>.nx (ρ.set i (some (.ow l')))
def setD(l:AQ)(k d:D):Option AQ:=(intD k).bind λi=>(ixN l.length i).map λj=>l.set j d
end
end
section
variable {K:W.Frag}
section
variable {prog:Program}{w:World}{A:Around}{E:AB}{s:Shared}
theorem Yht{it t:Addr}{i:Nat}{items:Array Value}{x:Value}{Q:AB}(hit:s.heap.IsTupleIter it t i)
 (ht:s.heap.IsTuple t items) (hx:items[i]?=some x)
 (hQ:∀h',h'.IsTupleIter it t (i+1)->Heap.SameBut it s.heap h'->Q x { s with heap:=h' }) :
 wpAny (model prog w) A (Builtin.SmallTypes.nextOf (.ref it)) Q E s:=by
 obtain⟨o,ho,hc,hd⟩:=id hit;obtain⟨ol,hol,_,nl,hdl⟩:=ht;unfold Builtin.SmallTypes.nextOf
 refine wa (wpAny_callSpecial?_slot (name:=Str.ofString "__next__") hit.typeIs F.slot_tuple_iterator_next
  (wf F.slot_tuple_iterator_next hit.typeIs F.entry_tuple_iterator_next ?_ (F.args_tuple_iterator_next_1 _)))
 show wpAny _ _ (field (.ref it) 0>>=_) _ _ s;refine wa (wpAny_field ho hd (x:=.ref t) rfl ?_);show wpAny _ _ (if (Value.ref t==Value.none)=true then _ else _) _ _ s;rw[if_neg (show ¬((Value.ref t==Value.none)=true) from qh)];show wpAny _ _ (field (.ref it) 1>>=_) _ _ s;refine wa (wpAny_field ho hd (x:=.int i 0) rfl ?_);show wpAny _ _ (seqItems? (.ref t)>>=_) _ _ s;refine wa (wpAny_seqItems hol hdl ?_);simp only[ja,hx];refine wa (wpAny_setField ho hd (by simp) (wc ⟨x,rfl,wc (hQ _ ?_ (wv ..))⟩))
 exact⟨_,wy _ ho (Obj.isFreed_of_fields (jh hd _)),(Obj.cls_mapFields ..).trans hc,by
  rw[jh hd];simp[rawInt]⟩
theorem Yib{it l:Addr}{i:Nat}{items:Array Value}{Q:AB}(hh:A.handled=none)
 (hit:s.heap.IsTupleIter it l i) (hl:s.heap.IsTuple l items) (hx:items[i]?=none)
 (hE:∀h' e,Heap.ExtBut it s.heap h'->(∃o,h'.get? e=some o/\o.cls=.type "StopIteration")->E (.ref e) { s with heap:=h' }) :
 wpAny (model prog w) A (Builtin.SmallTypes.nextOf (.ref it)) Q E s:=by
 obtain⟨o,ho,hc,hd⟩:=id hit;obtain⟨ol,hol,_,nl,hdl⟩:=hl;unfold Builtin.SmallTypes.nextOf
 refine wa (wpAny_callSpecial?_slot (name:=Str.ofString "__next__") hit.typeIs F.slot_tuple_iterator_next
  (wf F.slot_tuple_iterator_next hit.typeIs F.entry_tuple_iterator_next ?_ (F.args_tuple_iterator_next_1 _)))
 show wpAny _ _ (field (.ref it) 0>>=_) _ _ s;refine wa (wpAny_field ho hd (x:=.ref l) rfl ?_);show wpAny _ _ (if (Value.ref l==Value.none)=true then _ else _) _ _ s;rw[if_neg (show ¬((Value.ref l==Value.none)=true) from qh)];show wpAny _ _ (field (.ref it) 1>>=_) _ _ s;refine wa (wpAny_field ho hd (x:=.int i 0) rfl ?_);show wpAny _ _ (seqItems? (.ref l)>>=_) _ _ s;refine wa (wpAny_seqItems hol hdl ?_);simp only[ja,hx];refine wa (wpAny_rule (wa (wpAny_setField ho hd (by simp) ?_)));show wpAny _ _ (newExc (.type "StopIteration") []>>=_) _ _ _;refine wa ?_;simp only[newExc,newTuple];refine wa (wg ?_ (by size_fits));refine wa (m:=firstArgMember _ _) (wpAny_of_eq (a:=Value.none) (by first|rfl|(simp only[firstArgMember];rfl)) ?_);refine wg ?_ (by size_fits);simp only[raiseNew];refine wa (wpAny_handled ?_)
 first|rw[show A.in1.handled=none from hh]|rw[hh]
 refine wa (wc (wpAny_throw ?_));exact hE _ _ (((wv ..).extBut.push _).push _) ⟨_,qo _ rfl,rfl⟩
theorem Yi9{e it l:Addr}{i:Nat}{items:Array Value}{x old:Value}{Q:AB}
 (he:IsEnum s.heap e it i old) (hit:s.heap.IsTupleIter it l i) (hl:s.heap.IsTuple l items) (hx:items[i]?=some x) (hne:e≠it)
 (hQ:∀h',IsEnumOut h' e it ((i:Int)+1) x (~~~s)->h'.IsTupleIter it l (i+1)->
  h'.get? (~~~s)=some { cls:=.type "tuple",data:=.seq #[.int i s.toks,x] }->h'.objs.size= ~~~s+1->
  (∀b o,b≠e->b≠it->s.heap.get? b=some o->h'.get? b=some o)->Q (.ref (~~~s)) { s with heap:=h',toks:=s.toks+1 }) :
 wpAny (model prog w) A (Builtin.«enumerate.__next__» ⟨[.ref e],[]⟩) (λfin s'=>∃v,fin=.done (.ret v)/\Q v s') E s:=by
 obtain⟨hp,g,d,tk,os⟩:=s;show wpAny _ _ (field (.ref e) 2>>=_) _ _ _;refine wa (wpAny_field he rfl (x:=.ref it) rfl ?_);refine wa (Yht hit hl hx λh₁ hit₁ hs₁=>?_);replace hs₁:Heap.SameBut it hp h₁:=hs₁;have he₁:IsEnum h₁ e it i old:=(hs₁.2 e hne).trans he;show wpAny _ _ (field (.ref e) 3>>=_) _ _ ⟨h₁,g,d,tk,os⟩;refine wa (wpAny_field he₁ rfl (x:=rawInt i) rfl ?_);show wpAny _ _ (field (.ref e) 4>>=_) _ _ ⟨h₁,g,d,tk,os⟩;refine wa (wpAny_field he₁ rfl (x:=.none) rfl ?_);show wpAny _ _ (mkInt i>>=_) _ _ ⟨h₁,g,d,tk,os⟩;refine wa (wpAny_mkInt ?_);show wpAny _ _ (setField (.ref e) 3 (rawInt ((i:Int)+1))>>=_) _ _ ⟨h₁,g,d,tk+1,os⟩;refine wa (wpAny_setField_rec he₁ (by simp) λh₂ he₂ hs₂=>?_);replace hs₂:Heap.SameBut e h₁ h₂:=hs₂;replace he₂:IsEnum h₂ e it ((i:Int)+1) old:=he₂;show wpAny _ _ (setField (.ref e) 4 .none>>=_) _ _ ⟨h₂,g,d,tk+1,os⟩;refine wa (wpAny_setField_rec he₂ (by simp) λh₃ he₃ hs₃=>?_);replace hs₃:Heap.SameBut e h₂ h₃:=hs₃;replace he₃:IsEnum h₃ e it ((i:Int)+1) old:=he₃;show wpAny _ _ (newTuple [.int i tk,x]>>=_) _ _ ⟨h₃,g,d,tk+1,os⟩;refine wa (wpAny_newTuple ?_);have he₄:IsEnum (h₃.push { cls:=.type "tuple",data:=.seq #[.int i tk,x] }) e it ((i:Int)+1) old:=qd _ he₃;generalize hh₄:h₃.push { cls:=.type "tuple",data:=.seq #[.int i tk,x] }=h₄ at he₄
 have hsz:h₃.objs.size=hp.objs.size:=by rw[hs₃.1,hs₂.1,hs₁.1]
 have hel:e<hp.objs.size:=qk he
 have ht₄:h₄.get? hp.objs.size=some { cls:=.type "tuple",data:=.seq #[.int i tk,x] }:=by rw[<-hh₄,<-hsz];exact qo _ rfl
 have hz₄:h₄.objs.size=hp.objs.size+1:=by rw[<-hh₄,wx,hsz]
 have hk₄:∀b o,b≠e->b≠it->hp.get? b=some o->h₄.get? b=some o:=λb o hbe hbi hb=>by
  rw[<-hh₄];exact qd _ (hs₃.extBut b o hbe (hs₂.extBut b o hbe (hs₁.extBut b o hbi hb)))
 have hit₄:h₄.IsTupleIter it l (i+1):=by
  rw[<-hh₄];obtain⟨o,ho,r⟩:=(hit₁.at λo q=>hs₃.extBut it o (Ne.symm hne) (hs₂.extBut it o (Ne.symm hne) q));exact⟨o,qd _ ho,r⟩
 show wpAny _ _ (Builtin.SmallTypes.ownedTupleIsFree (.ref e)>>=_) _ _ ⟨h₄,g,d,tk+1,os⟩;rw[hsz];clear hh₄ he₃ hs₃ he₂ hs₂ he₁ hs₁ hit₁ hsz h₃ h₂ h₁;refine wa ?_
 ·unfold Builtin.SmallTypes.ownedTupleIsFree
  refine wa (wpAny_field he₄ rfl (x:=.none) rfl (wc ?_));simp only[if_true];refine wa (wpAny_rule ?_);refine wa (wpAny_field he₄ rfl (x:=old) rfl ?_);refine wa (wpAny_setField_rec he₄ (by simp) λh₅ he₅ hs₅=>?_);replace hs₅:Heap.SameBut e h₄ h₅:=hs₅;replace he₅:IsEnum h₅ e it ((i:Int)+1) x:=he₅;show wpAny _ _ (Builtin.SmallTypes.ownedTupleHandOut (.ref e) (.ref hp.objs.size)>>=_) _ _ ⟨h₅,g,d,tk+1,os⟩;refine wa ?_
  ·unfold Builtin.SmallTypes.ownedTupleHandOut
   refine wa (wpAny_setField_rec he₅ (by simp) λh₆ he₆ hs₆=>?_);replace hs₆:Heap.SameBut e h₅ h₆:=hs₆;replace he₆:IsEnumOut h₆ e it ((i:Int)+1) x hp.objs.size:=he₆;refine wpAny_setField_rec he₆ (by simp) λh₇ he₇ hs₇=>?_;replace hs₇:Heap.SameBut e h₆ h₇:=hs₇;replace he₇:IsEnumOut h₇ e it ((i:Int)+1) x hp.objs.size:=he₇;refine wa (wpAny_letGo (wc ⟨_,rfl,hQ h₇ he₇ ?_ ?_ ?_ ?_⟩))
   ·exact hit₄.at λo q=>hs₇.extBut it o (Ne.symm hne) (hs₆.extBut it o (Ne.symm hne) (hs₅.extBut it o (Ne.symm hne) q))
   ·exact hs₇.extBut _ _ (Nat.ne_of_gt hel) (hs₆.extBut _ _ (Nat.ne_of_gt hel) (hs₅.extBut _ _ (Nat.ne_of_gt hel) ht₄))
   ·rw[hs₇.1,hs₆.1,hs₅.1,hz₄]
   ·exact λb o hbe hbi hb=>hs₇.extBut b o hbe (hs₆.extBut b o hbe (hs₅.extBut b o hbe (hk₄ b o hbe hbi hb)))
theorem Yhu{e it l:Addr}{i:Nat}{items:Array Value}{x old:Value}{Q:Option Value->Shared->Prop}
 (he:IsEnum s.heap e it i old) (hit:s.heap.IsTupleIter it l i) (hl:s.heap.IsTuple l items) (hx:items[i]?=some x) (hne:e≠it)
 (hQ:∀h',IsEnumOut h' e it ((i:Int)+1) x (~~~s)->h'.IsTupleIter it l (i+1)->
  h'.get? (~~~s)=some { cls:=.type "tuple",data:=.seq #[.int i s.toks,x] }->h'.objs.size= ~~~s+1->
  (∀b o,b≠e->b≠it->s.heap.get? b=some o->h'.get? b=some o)->Q (some (.ref (~~~s))) { s with heap:=h',toks:=s.toks+1 }) :
 wpAny (model prog w) A (pyNext (.ref e)) Q E s:=by
 have hT:s.TypeIs (.ref e) "enumerate":=⟨_,he,rfl⟩
 unfold pyNext
 exact wa (ji (wpAny_callSpecial?_slot (name:=Str.ofString "__next__") hT F.slot_enumerate_next
  (wf F.slot_enumerate_next hT F.entry_enumerate_next
   (Yi9 he hit hl hx hne λh' a b c d k=>wc (hQ h' a b c d k)) (F.args_enumerate_next_1 _))))
theorem Yic{e it l:Addr}{i:Nat}{items:Array Value}{old:Value}{Q:Option Value->Shared->Prop}(hh:A.handled=none)
 (he:IsEnum s.heap e it i old) (hit:s.heap.IsTupleIter it l i) (hl:s.heap.IsTuple l items) (hx:items[i]?=none)
 (hQ:∀h',Heap.ExtBut it s.heap h'->Q none { s with heap:=h' }):wpAny (model prog w) A (pyNext (.ref e)) Q E s:=by
 have hT:s.TypeIs (.ref e) "enumerate":=⟨_,he,rfl⟩
 unfold pyNext
 refine wa (ji (wpAny_callSpecial?_slot (name:=Str.ofString "__next__") hT F.slot_enumerate_next
  (wf F.slot_enumerate_next hT F.entry_enumerate_next ?_ (F.args_enumerate_next_1 _))))
 show wpAny _ _ (field (.ref e) 2>>=_) _ _ _;refine wa (wpAny_field he rfl (x:=.ref it) rfl ?_);refine wa (Yib hh hit hl hx λh' x he' hx'=>?_);obtain⟨o,ho,hc⟩:=hx';refine wa (wpAny_isInstance (T:="StopIteration") (b:=true) ⟨o,ho,hc⟩ isSubtype_stop ?_);exact wc (hQ _ he')
theorem Yja(l:Addr)(items:Array Value)(n:Nat)(dct:Option Addr)(sl:Array (Option Value)) :
 Meets (Builtin.«enumerate.__new__» ⟨[.type "enumerate",.ref l],[]⟩) (λ_ R s=>s.heap.get? l=some { cls:=.type "tuple",dict:=dct,data:=.seq items n,slots:=sl }/\
  R (.ok (.ret (.ref (s.heap.push { cls:=.type "tuple_iterator",data:=.fields #[.ref l,.int 0 0] }).objs.size)))
   { s with heap:=(s.heap.push { cls:=.type "tuple_iterator",data:=.fields #[.ref l,.int 0 0] }).push { cls:=.type "enumerate",data:=.fields #[.none,.bool false,.ref (~~~s),rawInt 0,.none,.none] } }):=
 .of_wp λprog w A R s h=>by
  obtain⟨hp,g,d,tk,os⟩:=s;obtain⟨hl,h⟩:=h;have hsub:=sub_enumerate
  have hL:Heap.IsTuple (Shared.heap ⟨hp,g,d,tk,os⟩) l items:=⟨_,hl,rfl,n,rfl⟩
  wp_walk using PySem.AutoSeq1.wpAny_loadPart' hl
  refine wpAny_stack_any λst=>wc ?_
  split
  ·rename_i c _ _ _ _ _
   cases (c==Value.type "enumerate")
   ·wp_walk using PySem.AutoSeq1.wpAny_loadPart' hl,wpAny_pyIter_tuple hL
    exact⟨_,rfl,h⟩
   ·wp_walk using PySem.AutoSeq1.wpAny_loadPart' hl,wpAny_pyIter_tuple hL
    exact⟨_,rfl,h⟩
  ·wp_walk using PySem.AutoSeq1.wpAny_loadPart' hl,wpAny_pyIter_tuple hL
   exact⟨_,rfl,h⟩
theorem Yfr{l:Addr}{items:Array Value}{Q:AB}(hL:s.heap.IsTuple l items)
 (h:∀h',IsEnum h' (~~~s+1) (~~~s) 0 .none->h'.IsTupleIter (~~~s) l 0->h'.objs.size= ~~~s+2->
  (∀b o,s.heap.get? b=some o->h'.get? b=some o)->Q (.ref (~~~s+1)) { s with heap:=h' }) :
 wpAny (model prog w) A (call (.type "enumerate") [.ref l]) Q E s:=by
 obtain⟨⟨c,dct,dt,sl⟩,hl,hc,n,hd⟩:=hL;replace hc:c=.type "tuple":=hc;replace hd:dt=.seq items n:=hd;subst hc hd
 refine callType_new F.called_enumerate (by decide) (F.typeCall_enumerate_1 _) (F.newCall_enumerate_1 _) (λobj=>F.args_object_init_2 obj _) F.entry_enumerate_new
  (Yja l items n dct sl) ⟨hl,?_⟩
 have hz:(s.heap.push { cls:=.type "tuple_iterator",data:=.fields #[.ref l,.int 0 0] }).objs.size= ~~~s+1:=wx ..;show _/\_;rw[hz]
 have he:IsEnum ((s.heap.push { cls:=.type "tuple_iterator",data:=.fields #[.ref l,.int 0 0] }).push
  { cls:=.type "enumerate",data:=.fields #[.none,.bool false,.ref (~~~s),rawInt 0,.none,.none] }) (~~~s+1) (~~~s) 0 .none:=by
  have:=qo (s.heap.push { cls:=.type "tuple_iterator",data:=.fields #[.ref l,.int 0 0] })
   (o:={ cls:=.type "enumerate",data:=.fields #[.none,.bool false,.ref (~~~s),rawInt 0,.none,.none] }) rfl
  rw[hz]at this;exact this
 refine⟨⟨_,he,rfl⟩,h _ he ⟨_,qd _ (qo _ rfl),rfl,rfl⟩ (by rw[wx,hz]) λb o x=>qd _ (qd _ x)⟩
end
theorem Ygs{X:Cx}{pins:AC}{σ:L2.St}{H:Hp}{s:Shared}{h':Heap}{t':Nat}{ch:List Addr}{T:Addr}{o:HO}(I:Inv X pins σ H s)(hf:∀b∈ch,FpOk X pins H b)
 (k:∀b u,b∉ch->s.heap.get? b=some u->h'.get? b=some u) (hT:(~~~s)<=T) (new:ObjOk X.prog X.w (upd H T o) h' T o):Inv X pins σ (upd H T o) { s with heap:=h',toks:=t' }:=by
 have fr:H T=none:=I.hok.fresh hT
 have nch:∀b u,H b=some u->b∉ch:=λb u e z=>by rw[(hf b z).1]at e;cases e
 refine I.step (g':=s.gens) (d':=s.drawn) (ch:=ch) (λb hb=>?_) (λb u _ _ hc e _=>k b u hc e) (λb u _ _ hc e _=>⟨u.slots,k b u hc e⟩) (λb u _ e n=>?_)
  (λb u hc e=>⟨u,k b u hc e⟩) (λb xs e=>?_) (λb u xs e=>?_) (λb ps e=>⟨#[],?_⟩) (λm hm=>?_) (λb u e=>?_) I.bare
 ·obtain⟨_,f1,_,f3,f4,f5⟩:=hf b hb
  exact⟨f3,f1,f4,f5⟩
 ·rw[Yo (ql (Qb (qk e) hT))];exact n
 ·rw[Yo (Yr e fr)];exact e
 ·rw[Yo (Yr e fr)];exact e
 ·rw[Yo (Yr e fr),e];simp
 ·obtain⟨ob,es,ep,ho,r⟩:=hm
  exact⟨ob,es,ep,k _ ob (λz=>(hf _ z).2.1 rfl) ho,r⟩
 ·by_cases hb:b=T
  ·subst hb;rw[Yv]at e;cases e;exact new
  ·rw[Yo hb]at e
   refine(I.hok b u e).stay (λc v hc q=>k c v ?_ q) (λc q=>by rw[Yo (Yr q fr)];exact q) λc xs q=>by rw[Yo (Yr q fr)];exact q
   rcases hc with z|z
   ·rw[z];exact nch b u e
   ·exact nch c _ z
def IteL(K:W.Frag)(a:Addr):It:=
 ⟨λi H=>∃xs x,SqL K H a xs/\xs[i]?=some x,λi H x H'=>∃y p,(∀xs,SqL K H a xs->xs[i]?=some y)/\H p=none/\x=.ref p/\H'=upd H p (.tup [.int i,y]),λi H=>∃xs,SqL K H a xs/\xs.length<=i⟩
def IteT(K:W.Frag)(a:Addr):It:=
 ⟨λi H=>∃xs x,SqT K H a xs/\xs[i]?=some x,λi H x H'=>∃y p,(∀xs,SqT K H a xs->xs[i]?=some y)/\H p=none/\x=.ref p/\H'=upd H p (.tup [.int i,y]),λi H=>∃xs,SqT K H a xs/\xs.length<=i⟩
section
variable {elts:AL}{x1:Nat}{pt:Pos}
theorem Ysh{P:Program}{w:World}(a it e:Addr)(hei:e≠it):Turn P w K (.Tuple elts x1 pt) (IteL K a) [e,it] e (λi h=>(∃old,IsEnum h e it i old)/\h.IsListIter it a i) where
 mem:=by simp
 obj:=λi h st b hb=>by
  obtain⟨⟨old,he⟩,hit⟩:=st;rcases qr hb with rfl|hb
  ·exact⟨_,he,λv z=>by cases z⟩
  ·have z:b=it:=by simpa using hb
   subst z;obtain⟨o,q,c,d⟩:=hit;exact⟨o,q,λv z=>by rw[d]at z;cases z⟩
 keep:=λi h h' st k=>by
  obtain⟨⟨old,he⟩,hit⟩:=st;exact⟨⟨old,k e (by simp) _ he⟩,hit.at λo q=>k it (by simp) o q⟩
 item:=by
  intro X hP hw hK hc i pins s σ H E I hf st hg;subst hP hw hK;obtain⟨xs,x,hq,hx⟩:=hg;obtain⟨its,rv,p,hz⟩:=I.list hq;obtain⟨u,hu,ru⟩:=rv.get hx;obtain⟨⟨old,he⟩,hit⟩:=st;refine wpAny_pyNext_enum_item he hit p.isList (x:=u) (by simpa using hu) hei λh' ho hit' hT hsz hk=>?_;refine⟨_,rfl,wpAny_letOwnedTupleGo_enum ho λh2 he2 hs2=>?_⟩;have fr:H (~~~s)=none:=I.fresh
  have hne:∀b∈[e,it],b≠(~~~s):=λb hb z=>by
   rcases qr hb with rfl|hb
   ·exact absurd (qk he) (by rw[z];exact Qd _)
   ·have z2:b=it:=by simpa using hb
    subst z2;obtain⟨o,q,_⟩:=hit;exact absurd (qk q) (by rw[z];exact Qd _)
  have kk:∀b o,b∉[e,it]->s.heap.get? b=some o->h2.get? b=some o:=λb o hb q=>by
   have h1:b≠e:=λz=>hb (by simp[z]);have h3:b≠it:=λz=>hb (by simp[z]);exact(hs2.2 b h1).trans (hk b o h1 h3 q)
  have tT:h2.get? (~~~s)=some { cls:=.type "tuple",data:=.seq #[.int i s.toks,u] }:=(hs2.2 _ (Ne.symm (hne e (by simp)))).trans hT;refine⟨.ref (~~~s),upd H (~~~s) (.tup [.int i,x]),(show Inv X pins σ _ { s with heap:=h2,toks:=s.toks+1 } from Ygs (s:=s) (t':=s.toks+1) I hf kk (qt _) ?_),rfl,⟨x,~~~s,λys hy=>by rw[I.list_inj hy hq];exact hx,fr,rfl,rfl⟩,⟨⟨_,by simpa using he2⟩,hit'.at λo q=>(hs2.2 it (Ne.symm hei)).trans q⟩,λb hb=>?_⟩
  ·exact⟨by rw[jj];show 2<=16777216;decide,[.int i s.toks,u],.cons ⟨_,rfl⟩ (.cons ru .nil),_,tT,rfl,0,rfl⟩
  ·rw[Yo (hne b hb)];exact(hf b hb).1
 done:=by
  intro X hP hw hK hc i pins s σ H E I hf st hg;subst hP hw hK;obtain⟨xs,hq,hx⟩:=hg;obtain⟨its,rv,p,hz⟩:=I.list hq;obtain⟨⟨old,he⟩,hit⟩:=st;obtain⟨f0,f1,f2,f3,f4,f5⟩:=hf it (by simp);have hl:=rv.length
  exact wpAny_pyNext_enum_end (I.ok.hd hc) he hit p.isList (by simp;lia) λh' eb=>⟨rfl,I.turned (t':=s.toks) (λb o hb e=>eb b o hb e) f0 f1 f3 f4 f5⟩
 self:=λ_ _ _ _ _ st h=>let ⟨⟨_,he⟩,_⟩:=st;wpAny_pyIter_enum he h
theorem Ysi{P:Program}{w:World}(a it e:Addr)(hei:e≠it):Turn P w K (.Tuple elts x1 pt) (IteT K a) [e,it] e (λi h=>(∃old,IsEnum h e it i old)/\h.IsTupleIter it a i) where
 mem:=by simp
 obj:=λi h st b hb=>by
  obtain⟨⟨old,he⟩,hit⟩:=st;rcases qr hb with rfl|hb
  ·exact⟨_,he,λv z=>by cases z⟩
  ·have z:b=it:=by simpa using hb
   subst z;obtain⟨o,q,c,d⟩:=hit;exact⟨o,q,λv z=>by rw[d]at z;cases z⟩
 keep:=λi h h' st k=>by
  obtain⟨⟨old,he⟩,hit⟩:=st;exact⟨⟨old,k e (by simp) _ he⟩,hit.at λo q=>k it (by simp) o q⟩
 item:=by
  intro X hP hw hK hc i pins s σ H E I hf st hg;subst hP hw hK;obtain⟨xs,x,hq,hx⟩:=hg;obtain⟨its,rv,p,hz⟩:=I.tuple hq;obtain⟨u,hu,ru⟩:=rv.get hx;obtain⟨⟨old,he⟩,hit⟩:=st;refine Yhu he hit (show s.heap.IsTuple a its.toArray from p) (x:=u) (by simpa using hu) hei λh' ho hit' hT hsz hk=>?_;refine⟨_,rfl,wpAny_letOwnedTupleGo_enum ho λh2 he2 hs2=>?_⟩;have fr:H (~~~s)=none:=I.fresh
  have hne:∀b∈[e,it],b≠(~~~s):=λb hb z=>by
   rcases qr hb with rfl|hb
   ·exact absurd (qk he) (by rw[z];exact Qd _)
   ·have z2:b=it:=by simpa using hb
    subst z2;obtain⟨o,q,_⟩:=hit;exact absurd (qk q) (by rw[z];exact Qd _)
  have kk:∀b o,b∉[e,it]->s.heap.get? b=some o->h2.get? b=some o:=λb o hb q=>by
   have h1:b≠e:=λz=>hb (by simp[z]);have h3:b≠it:=λz=>hb (by simp[z]);exact(hs2.2 b h1).trans (hk b o h1 h3 q)
  have tT:h2.get? (~~~s)=some { cls:=.type "tuple",data:=.seq #[.int i s.toks,u] }:=(hs2.2 _ (Ne.symm (hne e (by simp)))).trans hT;refine⟨.ref (~~~s),upd H (~~~s) (.tup [.int i,x]),(show Inv X pins σ _ { s with heap:=h2,toks:=s.toks+1 } from Ygs (s:=s) (t':=s.toks+1) I hf kk (qt _) ?_),rfl,⟨x,~~~s,λys hy=>by rw[I.tuple_inj hy hq];exact hx,fr,rfl,rfl⟩,⟨⟨_,by simpa using he2⟩,hit'.at λo q=>(hs2.2 it (Ne.symm hei)).trans q⟩,λb hb=>?_⟩
  ·exact⟨by rw[jj];show 2<=16777216;decide,[.int i s.toks,u],.cons ⟨_,rfl⟩ (.cons ru .nil),_,tT,rfl,0,rfl⟩
  ·rw[Yo (hne b hb)];exact(hf b hb).1
 done:=by
  intro X hP hw hK hc i pins s σ H E I hf st hg;subst hP hw hK;obtain⟨xs,hq,hx⟩:=hg;obtain⟨its,rv,p,hz⟩:=I.tuple hq;obtain⟨⟨old,he⟩,hit⟩:=st;obtain⟨f0,f1,f2,f3,f4,f5⟩:=hf it (by simp);have hl:=rv.length
  exact Yic (I.ok.hd hc) he hit (show s.heap.IsTuple a its.toArray from p) (by simp;lia) λh' eb=>⟨rfl,I.turned (t':=s.toks) (λb o hb e=>eb b o hb e) f0 f1 f3 f4 f5⟩
 self:=λ_ _ _ _ _ st h=>let ⟨⟨_,he⟩,_⟩:=st;wpAny_pyIter_enum he h
variable {X:Cx}{pos:Pos}
def y7b(K:W.Frag)(ta:TA):TI:=λσ H R=>ta σ H λvs H1=>∃a xs,vs=[.ref a]/\((SqL K H1 a xs/\(xs.length<=sizeLine->R (IteL K a) H1))\/(SqT K H1 a xs/\(xs.length<=sizeLine->R (IteT K a) H1)))
theorem y1h{l:Expr}{ta:TA}{p:Pos}(hg:Gl X "enumerate")(hm:X.mg "enumerate"=none)(ha:PA X [l] ta)(hs:starEach [l] X.env=[(false,eval l X.env)]:=by rfl):PI X (.Tuple elts x1 pt) (.Call (.Name "enumerate" p) [l] [] pos) (y7b X.K ta):=by
 intro pins s σ H R I h;refine Call_ (Yk4 I hg hm boot_enumerate (PyProof.Rows.callWith_type1 (thn (ha pos pins s σ H _ I h) λus s1 hx_=>?_) hs rfl));obtain⟨vs,H1,I1,r1,q1⟩:=hx_;obtain⟨a,xs,rfl,q⟩:=q1;obtain⟨u,rfl,ru⟩:=Yia r1;cases ru
 have fin:∀(h':Heap),h'.objs.size= ~~~s1+2->(∀b o,s1.heap.get? b=some o->h'.get? b=some o)->∀b∈[~~~s1+1,~~~s1],FpOk X pins H1 b:=λh' hz hk b hb=>by
  have hb':(~~~s1)<=b:=by
   rcases qr hb with rfl|hb
   ·exact Nat.le_succ _
   ·have:b= ~~~s1:=by simpa using hb
    lia
  exact I1.fpOk hb' (I1.hok.fresh hb')
 rcases q with⟨hq,q⟩|⟨hq,q⟩
 ·obtain⟨its,rv,pl,hz⟩:=I1.list hq
  refine call_enumerate_list pl.isList λh' he hit hsz hk=>wpAny_pyIter_enum (s:={ s1 with heap:=h' }) he ?_;exact⟨_,[~~~s1+1,~~~s1],_,_,H1,rfl,I1.kept (t':=s1.toks) hk,Ysh a (~~~s1) _ (Nat.succ_ne_self _),⟨⟨_,he⟩,hit⟩,fin h' hsz hk,q hz⟩
 ·obtain⟨its,rv,pl,hz⟩:=I1.tuple hq
  refine Yfr (show s1.heap.IsTuple a its.toArray from pl) λh' he hit hsz hk=>wpAny_pyIter_enum (s:={ s1 with heap:=h' }) he ?_;exact⟨_,[~~~s1+1,~~~s1],_,_,H1,rfl,I1.kept (t':=s1.toks) hk,Ysi a (~~~s1) _ (Nat.succ_ne_self _),⟨⟨_,he⟩,hit⟩,fin h' hsz hk,q hz⟩
def Ymd(l:AQ):AQ:=(List.range l.length).map λi:Nat=>.tup [.int (i:Int),l.getD i .non]
def Yxh(c:D):Option AQ:=(Yp c).map Ymd
theorem Yjb{l:AQ}{i:Nat}{d:D}(h:(Ymd l)[i]?=some d):∃e,l[i]?=some e/\d=.tup [.int i,e]:=by
 unfold Ymd at h;rw[Qe]at h;obtain⟨j,h1,rfl⟩:=qb h
 have hj:i<l.length:=by
  have:=(qm h1).1;simpa using this
 rw[List.getElem?_range hj]at h1;cases h1;exact⟨l[i],qp hj,by simp[hj]⟩
theorem Ybq(l:AQ):(Ymd l).length=l.length:=by simp[Ymd]
theorem Gr.newTup{H G:Hp}{d:D}{x:V}(s:Same G H){p:Addr}(hp:H p=none)(i:Nat)(r:Rp K G d x):∃G3,Gr H G (upd H p (.tup [.int i,x])) G3/\Rp K G3 (.tup [.int i,d]) (.ref p):=by
 refine⟨_,Gr.new s hp (.tup [.int i,x]),?_⟩;rw[Rp];exact⟨p,_,rfl,Yv,.cons (by rw[Rp]) (.one (r.mono (Gr.new s hp _).g))⟩
end
end
section
variable {K:W.Frag}
def Yki(k:Int):Value->Bool
 | .int i _=>i==k
 | .bool b=>(if b then 1 else 0)==k
 | _=>false
theorem Yb2{k:Int}{v:Value}(h:Yki k v=true):(∃t,v=.int k t)\/∃b:Bool,v=.bool b/\k=if b then 1 else 0:=by
 cases v with
 | int i t=>
   have e:i=k:=by simpa [Yki]using h
   exact .inl ⟨t,by rw[e]⟩
 | bool b=>
   have e:(if b then (1:Int)else 0)=k:=by simpa [Yki]using h
   exact .inr ⟨b,rfl,e.symm⟩
 | _=>simp[Yki]at h
theorem Ypr{prog:Program}{w:World}{A:Around}{E:AB}{s:Shared}{b:Bool}{Q:Int->Shared->Prop}(h:Q (hashInt (if b then 1 else 0)) { s with toks:=s.toks+1 }) :
 wpAny (model prog w) A (pyHash (.bool b)) Q E s:=by
 have hr:=rawHash_range (if b then 1 else 0);have hT:s.TypeIs (.bool b) "bool":=rfl;unfold pyHash
 first|unfold pyHashByItsType|skip
 have hv:[Value.bool b].any Value.onHeap=false:=rfl;refine wa ?_;rw[cRoomFor,if_neg (by rw[hv];exact qh)];refine wc ?_;refine wa (wpAny_specialOf hT F.slot_bool_hash.lookup ?_);show wpAny _ _ (if (some (Value.builtin "int.__hash__")==some Value.none)=true then _ else _) Q E s;rw[if_neg (by rw[beq_builtin_none];exact qh)];refine wa (wpAny_specialOf hT F.slot_bool_hash.lookup ?_);show wpAny _ _ (callSpecialIfBoundUnlessNone? (.bool b) "__hash__" _>>=_) Q E s
 refine wa (wpAny_callSpecialIfBoundUnlessNone?_slot hT F.slot_bool_hash
  (wf F.slot_bool_hash hT entry_int_hash
   (show wpAny _ _ (do ret (<-mkInt (rawHash (if b then 1 else 0)))) _ _ s from wpAny_ret_mkInt ?_) (args_int_hash _)))
 show wpAny _ _ (if (decide (-(2:Int)^63<=rawHash (if b then 1 else 0))&&decide (rawHash (if b then 1 else 0)<2^63))=true then _ else _) Q E _;rw[if_pos (by rw[wn hr.1,wn hr.2];rfl)];exact wc h
def Ye0(prog:Program)(w:World):KeyKind prog w Int where
 is:=Yki
 hash:=hashInt
 inj:=λv a b ha hb=>by
  rcases Yb2 ha with⟨t,rfl⟩|⟨c,rfl,rfl⟩
  ·have e:a=b:=by simpa [Yki]using hb
   exact e
  ·have e:(if c then (1:Int)else 0)=b:=by simpa [Yki]using hb
   exact e
 byValue:=λk v h=>by
  rcases Yb2 h with⟨t,rfl⟩|⟨c,rfl,rfl⟩<;>rfl
 pyHash:=λhv h=>by
  rcases Yb2 hv with⟨t,rfl⟩|⟨c,rfl,rfl⟩
  ·exact wpAny_pyHash_int h
  ·exact Ypr h
 eqBool:=λ{A E s a b u v Q} hu hv h=>by
  rcases Yb2 hu with⟨t,rfl⟩|⟨c,rfl,rfl⟩
  ·rcases Yb2 hv with⟨t',rfl⟩|⟨c',rfl,rfl⟩
   ·exact wpAny_eqBool_int (by rw[show(a==b)=decide (a=b) from rfl];exact h)
   ·exact SeqAt.EqAt.int_bool a t c' _ _ _ _ (by rw[show(a==if c'=true then 1 else 0)=decide (a=if c'=true then 1 else 0) from rfl];exact h)
  ·rcases Yb2 hv with⟨t',rfl⟩|⟨c',rfl,rfl⟩
   ·exact SeqAt.EqAt.bool_int c b t' _ _ _ _ (by rw[show((if c=true then 1 else 0)==b)=decide ((if c=true then 1 else 0)=b) from rfl];exact h)
   ·refine SeqAt.EqAt.bool_bool c c' _ _ _ _ ?_
    have e:(c==c')=decide ((if c=true then (1:Int)else 0)=if c'=true then 1 else 0):=by cases c<;>cases c'<;>rfl
    rw[e];exact h
 «strs»:=λk x t v h=>by simp[Yki]at h
def Yfs{α β:Type} [DecidableEq α]:List α->List β->α->Option β
 | k::ks,v::vs,x=>if k=x then some v else Yfs ks vs x
 | _,_,_=>none
theorem Yui{α:Type} [DecidableEq α] {G:Hp} (x:α):∀{ks:List α}{vs:AQ}{vxs:AN},RpL K G vs vxs->(∀d,Yfs ks vs x=some d->∃v,Yfs ks vxs x=some v/\Rp K G d v)/\(Yfs ks vs x=none->Yfs ks vxs x=none)
 | [],_,_,_=>⟨λd h=>by simp[Yfs]at h,λ_=>by simp[Yfs]⟩
 | k::ks,[],_,r=>by
   rw[RpL]at r;subst r;exact⟨λd h=>by simp[Yfs]at h,λ_=>by simp[Yfs]⟩
 | k::ks,d::vs,_,r=>by
   rw[RpL]at r;obtain⟨y,r',rfl,r1,r2⟩:=r;by_cases e:k=x
   ·simp only[Yfs,if_pos e]
    exact⟨λd' h=>⟨y,rfl,by cases h;exact r1⟩,λh=>by cases h⟩
   ·simp only[Yfs,if_neg e]
    exact Yui x r2
def setK{α β:Type} [DecidableEq α]:List α->List β->α->β->List β
 | k::ks,v::vs,x,y=>if k=x then y::vs else v::setK ks vs x y
 | _,vs,_,_=>vs
theorem Yjc{α β:Type} [DecidableEq α] (x:α) (y:β):∀(ks:List α) (vs:List β),(setK ks vs x y).length=vs.length
 | [],vs=>by cases vs<;>simp[setK]
 | k::ks,[]=>by simp[setK]
 | k::ks,v::vs=>by
   simp only[setK]
   split
   ·simp
   ·simp[Yjc x y ks vs]
theorem Yuj{α:Type} [DecidableEq α] {G:Hp} (x:α) {d:D}{y:V} (ry:Rp K G d y):∀{ks:List α}{vs:AQ}{vxs:AN},RpL K G vs vxs->RpL K G (setK ks vs x d) (setK ks vxs x y)
 | [],[],_,r=>by simpa [setK]using r
 | [],_::_,_,r=>by
   rw[RpL]at r;obtain⟨z,r',rfl,r1,r2⟩:=r;simp only[setK];exact .cons r1 r2
 | k::ks,[],_,r=>by
   rw[RpL]at r;subst r;simp[setK];exact .nil
 | k::ks,e::vs,_,r=>by
   rw[RpL]at r;obtain⟨z,r',rfl,r1,r2⟩:=r;simp only[setK]
   split
   ·exact .cons ry r2
   ·exact .cons r1 (Yuj x ry r2)
end
section
open Sem (wp)
variable {K:W.Frag}
end
section
variable {K:W.Frag}
section
variable {X:Cx}{e ie:Expr}{f fb:AV}{pos:Pos}
def rIns:V->AN->Hp->VK->Prop:=λx vs H Q=>∃l xs i y,x=.ref l/\vs=[.int i,y]/\H l=some (.lst xs)/\0<=i/\i<=xs.length/\xs.length<sizeLine/\Q .non (upd H l (.lst (xs.take i.toNat++y::xs.drop i.toNat)))
theorem Yuk:MtM X "list.insert" rIns:=by
 intro pins s σ H x vs v us Q I rx rv h;obtain⟨l,xs,i,y,rfl,rfl,hH,h0,hi,hz,q⟩:=h;cases rx;obtain⟨u1,u2,rfl,⟨t,rfl⟩,r2⟩:=y0a rv;obtain⟨z,its,n,r,hl,e⟩:=I.lstM hH;have hn:=jj
 have hfit:¬(!Builtin.List.listFitsIndex i)=true:=by
  unfold Builtin.List.listFitsIndex
  have a1:-(2^63:Int)<=i:=by lia
  have a2:i<2^63:=by lia
  simp;exact⟨by lia,by lia⟩
 refine call_meets F.slot_list_insert ⟨_,e,rfl⟩ F.entry_list_insert (F.args_list_insert_3 _ _ _) (AutoSeq1.list_insert_list_int_val_1 l its.toArray n i t u2 hfit (by rw[qj];lia)) ⟨e,?_⟩
 have hk:¬i<0:=by lia
 have hm:min i.toNat its.length=i.toNat:=by lia
 refine⟨.non,_,I.lset (its':=its.take i.toNat++u2::its.drop i.toNat) hH e ?_ ((r.take _).append (.cons r2 (r.drop _))) ?_,rfl,q⟩
 ·simp only[if_neg hk,qj,hm]
  apply Array.toList_inj.mp;simp;exact List.take_of_length_le (by simp)
 ·simp
  lia
def insD(l:AQ)(k d:D):Option AQ:=(intD k).bind λi=>if decide (0<=i)&&decide (i<=l.length)&&decide (l.length<cap6)then some (l.take i.toNat++d::l.drop i.toNat)else none
def rExt:V->AN->Hp->VK->Prop:=λx vs H Q=>∃l b xs zs,x=.ref l/\vs=[.ref b]/\H l=some (.lst xs)/\Rd H b (.lst zs)/\xs.length+zs.length<=sizeLine/\Q .non (upd H l (.lst (xs++zs)))
theorem y4y:MtM X "list.extend" rExt:=by
 intro pins s σ H x vs v us Q I rx rv h;obtain⟨l,b,xs,zs,rfl,rfl,hH,hB,hz,q⟩:=h;cases rx;obtain⟨u,rfl,ru⟩:=rv.one;cases ru;obtain⟨z,its,n,r,hl,e⟩:=I.lstM hH;obtain⟨z2,its2,n2,r2,e2⟩:=hB.ok I.hok;have hl2:=r2.length
 have hsz:its.toArray.size+its2.toArray.size<=sizeLine:=by rw[qj,qj];lia
 have hlong:¬(!its.toArray.isEmpty&&Builtin.List.listTooLong (its.toArray.size+its2.toArray.size))=true:=by
  rw[Yw1 hsz,Bool.and_false];exact qh
 refine call_meets F.slot_list_extend ⟨_,e,rfl⟩ F.entry_list_extend (F.args_list_extend_2 _ _)
  (AutoSeq1.list_extend_list_list_0 l its.toArray n b its2.toArray n2 hlong (by rw[qj];lia) (by lia)) ⟨e,e2,?_⟩
 refine⟨.non,_,I.lset (its':=its++its2) hH e (by simp) (r.append r2) ?_,rfl,q⟩;rw[qx];lia
def extD(l:AQ)(d:D):Option AQ:=match d with
 | .lst m=>if l.length+m.length<=cap6 then some (l++m)else none
 | _=>none
end
end
section
variable {K:W.Frag}
def GI(mg:AE)(x:Str)(i:Int):Prop:=∃t,mg x=some (.int i t)
section
variable {X:Cx}{ke:Expr}{fk:AV}{pos px:Pos}{x:Str}
end
theorem Gr.updHid{H G H2 G2:Hp}(g:Gr H G H2 G2){p:Addr}(hp:H p=none)(gp:G2 p=none)(o:HO):Gr H G (upd H2 p o) G2:=
 ⟨λb u e=>by rw[Yo (Yr e hp)];exact g.h b u e,g.g,λb u e=>by rw[Yo (Yr e gp)];exact g.s b u e,g.n⟩
def tK(x:Str):TE:=λ_ H Q=>Q (.str x) H
theorem y4z{X:Cx}{x:Str}{j:Nat}{pos:Pos}:PE X (.Constant (.str x) j pos) (tK x):=Yy0
structure MP(X:Cx)(pos:Pos)(keys:List (Option Expr))(values:AL)(ks:AK)(fs:List AV):Prop where
 len:ks.length=fs.length
 pps:PPs X pos keys values ((ks.zip fs).map λp=>(tK p.1,tOf X.K p.2))
 all:keys.all (·.isSome)=true
 kv:keys.length=values.length
 kk:keys.length=ks.length
theorem y40{X:Cx}{pos:Pos}:MP X pos [] [] [] []:=⟨rfl,y0i,rfl,rfl,rfl⟩
def evs:List AV->AW
 | [],_=>some []
 | f::fs,ρ=>(f ρ).bind λd=>(evs fs ρ).map (d::·)
theorem Yob{H0 G0:Hp}{σ:L2.St}{ρ:Ro}:∀{ks:AK}{fs:List AV}{ds:AQ}{H G:Hp}{Q:List (V×V)->Hp->Prop},ks.length=fs.length->evs fs ρ=some ds->SR K H0 G0 σ H G ρ->
 (∀vs H' G',Gr H G H' G'->RpL K G' ds vs->Q ((ks.map V.str).zip vs) H')->Yq0 ((ks.zip fs).map λp=>(tK p.1,tOf K p.2)) σ H Q
 | [],[],_,H,G,Q,_,e,s,h=>by
   cases e;exact h [] H G (.refl s.seen) .nil
 | [],_::_,_,_,_,_,hl,_,_,_=>by simp at hl
 | _::_,[],_,_,_,_,hl,_,_,_=>by simp at hl
 | x::ks,f::fs,ds,H,G,Q,hl,e,s,h=>by
   rw[evs]at e;obtain⟨d,h1,e⟩:=qa e;obtain⟨l,h2,rfl⟩:=qb e;exact tOf.at h1 s λv H1 G1 g1 r1 s1=>Yob (ks:=ks) (fs:=fs) (by simpa using hl) h2 s1 λvs H2 G2 g2 r2=>h (v::vs) H2 G2 (g1.trans g2) (.cons (r1.mono g2.g) r2)
theorem Yoc:∀{more acc:List (Key×V)},(more.map (·.1)).Nodup->(∀k∈more.map (·.1),valV acc k=none)->Ygj acc more=acc++more
 | [],acc,_,_=>by simp[Ygj]
 | p::more,acc,hn,ha=>by
   rw[q0,List.nodup_cons]at hn;have h1:valV acc p.1=none:=ha p.1 (by simp);show Ygj (putK acc p.1 p.2) more=_;rw[Ywu _ h1,Yoc hn.2 λk hk=>?_]
   ·simp
   ·rw[Ynu _ _ _ _ h1]
    have:¬k=p.1:=λe=>hn.1 (e ▸ hk);rw[if_neg this];exact ha k (by simp at hk ⊢;exact .inr hk)
theorem Yxi{ks:AK}(k:Str):∀{vs:AN},valV ((ks.map Sum.inr:List Key).zip vs) (Sum.inr k)=Yfs ks vs k:=by
 induction ks with
 | nil=>intro vs;cases vs<;>rfl
 | cons a ks ih=>
   intro vs
   cases vs with
   | nil=>rfl
   | cons v vs=>
     rw[q0,List.zip_cons_cons];by_cases e:a=k
     ·rw[Yc8 (by rw[e])]
      simp[Yfs,e]
     ·rw[Yc9 (λz=>e (Sum.inr.inj z)),ih]
      simp[Yfs,e]
end
section
variable {K:W.Frag}
structure DtH(H:Hp)(a:Addr)(nks:List (List Int×Addr))(vxs:AN):Prop where
 at':∃ep,H a=some (dTo a nks vxs ep)
 len:nks.length=vxs.length
 nd:(nks.map (·.1)).Nodup
 keys:∀p∈nks,∃ys,H p.2=some (.tup ys)/\y0t ys=some p.1
end
section
end
section
section
variable {X:Cx}{a b c e:Expr}{fa fb fc:AV}{pos:Pos}{st:Stmt}
def nS:AS:=λ_=>none
theorem Yxj:MS X st nS:=λ_ _ _ _ _ _ ⟨_,_,_,_,_,h,_⟩=>nomatch h
end
end
section
section
variable {X:Cx}{e:Expr}{f:AV}{fc:AU}{gl:AW}{K:W.Frag}
def Yxk:D->Bool
 | .non|.bl _|.int _|.str _=>true
 | _=>false
def scal(d:D):Option D:=if Yxk d=true then some d else none
theorem Rp.scal{G G':Hp}{d:D}{v:V}(h:Yxk d=true)(r:Rp K G d v):Rp K G' d v:=by
 cases d<;>first|(rw[Rp]at r ⊢;exact r)|cases h
theorem Gr.back{H G H' G' G1:Hp}(s:Same G H)(g:Gr H G1 H' G'):Gr H G H' G:=⟨g.h,Same.refl _,s.trans g.h,λ_ h h'=>absurd h h'⟩
def Yod(is:AF)(f:AU):AU:=λρ=>f (frz is ρ)
mutual
def plB:D->Bool
 | .non=>true
 | .bl _=>true
 | .int _=>true
 | .str _=>true
 | .tup l=>plBL l
 | .lst _=>false
 | .scr _=>false
 | .dct _ _ _=>false
 | .obj _ _ _=>false
 | .adr _=>false
def plBL:AQ->Bool
 | []=>true
 | d::l=>plB d&&plBL l
end
mutual
theorem Rp.plain{G G':Hp}(hG:∀b ys,G b=some (HO.tup ys)->G' b=some (HO.tup ys)):∀{d:D}{v:V},plB d=true->Rp K G d v->Rp K G' d v
 | .non,_,_,r=>by rw[Rp]at r ⊢;exact r
 | .bl _,_,_,r=>by rw[Rp]at r ⊢;exact r
 | .int _,_,_,r=>by rw[Rp]at r ⊢;exact r
 | .str _,_,_,r=>by rw[Rp]at r ⊢;exact r
 | .tup l,_,h,r=>by
   rw[Rp]at r ⊢;rw[plB]at h;obtain⟨a,xs,e,g,q⟩:=r;exact⟨a,xs,e,hG _ _ g,RpL.plain hG h q⟩
 | .lst _,_,h,_=>by rw[plB]at h;cases h
 | .scr _,_,h,_=>by rw[plB]at h;cases h
 | .dct _ _ _,_,h,_=>by rw[plB]at h;cases h
 | .obj _ _ _,_,h,_=>by rw[plB]at h;cases h
 | .adr _,_,h,_=>by rw[plB]at h;cases h
theorem RpL.plain{G G':Hp}(hG:∀b ys,G b=some (HO.tup ys)->G' b=some (HO.tup ys)):∀{l:AQ}{xs:AN},plBL l=true->RpL K G l xs->RpL K G' l xs
 | [],_,_,r=>by rw[RpL]at r ⊢;exact r
 | d::l,_,h,r=>by
   rw[RpL]at r ⊢;rw[plBL,Qf]at h;obtain⟨x,xs,e,g,q⟩:=r;exact⟨x,xs,e,Rp.plain hG h.1 g,RpL.plain hG h.2 q⟩
end
end
end
section
variable {K:W.Frag}
def rIxI:R2:=λx y H Q=>∃a z,x=.ref a/\DGet H a y (some z)/\Q z H
section
variable {X:Cx}
theorem y7c(hu:X.A.units+64<cLine):IxR X rIxI:=by
 intro value slice pins s σ H x y v u Q I rx ry h hs;obtain⟨a,z,rfl,g,q⟩:=h;cases rx;exact tail_any (Ypj I g) PySem.F.slot_dict_getitem.lookup (Ytn (by lia) I g ry λw' s3 I3 rw'=>⟨z,H,I3,rw',q⟩) hs
def y41:V->V->V->Hp->(Hp->Prop)->Prop:=λo i v H Q=>∃a H',o=.ref a/\DPut H a i v H'/\Q H'
theorem y42(hu:X.A.units+64<cLine):PSet X y41:=by
 intro pins s σ H o i v ov iv u Q I ro ri rv h;obtain⟨a,H',rfl,g,q⟩:=h;cases ro
 exact Yto (by lia) I g ri rv λs4 I4=>⟨_,I4,q⟩
variable {a b e f':Expr}{fa fb f fz:AV}{pos:Pos}
def Yoe(i:Nat):Ro->Option (List D×AQ):=λρ=>match ρ[i]? with
 | some (some (B.od false ks vs))=>some (ks,vs)
 | _=>none
theorem Ysj{i:Nat}{ρ:Ro}{l:List D×AQ}(h:Yoe i ρ=some l):ρ[i]?=some (some (B.od false l.1 l.2)):=by
 unfold Yoe at h
 split at h
 ·cases h;assumption
 ·cases h
end
set_option maxRecDepth 100000
section
variable {X:Cx}{e:Expr}{f:AV}{p pos:Pos}
theorem nr1{α:Sort _}{a b:α}(h:a=b):a=b:=h
@[simp] theorem gC0d(t:Bool)(ks vs:AQ)(r:Ro):getC 0 (some (.od t ks vs)::r)=some (.dct t ks vs):=nr1 rfl
end
end
section
section
variable {X:Cx}{a b e:Expr}{fa fb f:AV}{pos:Pos}{K:W.Frag}
theorem Yps{M:Model}{A:Around}{E:AB}{s:Shared}{Q:AB}{v:Value}{k:Bool}(hb:∀id,v≠.builtin id)(h:Q (.bool (v==.bool k)) s):wpAny M A (compareOp .Is v (.bool k)) Q E s:=by
 cases v<;>first|exact wc h|exact absurd rfl (hb _)
theorem Ykj{M:Model}{A:Around}{E:AB}{s:Shared}{Q:AB}{v:Value}{k:Bool}(hb:∀id,v≠.builtin id)(h:Q (.bool (!(v==.bool k))) s):wpAny M A (compareOp .IsNot v (.bool k)) Q E s:=by
 cases v<;>first|exact wc h|exact absurd rfl (hb _)
def isBl(k:Bool):D->Bool
 | .bl j=>j==k
 | _=>false
def isB(neg:Bool):D->D->Option Bool
 | d,.bl k=>some (isBl k d != neg)
 | _,_=>none
theorem vbl{x:V}{v:Value}(r:RelV x v)(k:Bool):(v==.bool k)=decide (x=.bl k):=by
 cases x with
 | bl j=>
   cases (show v=Value.bool j from r);by_cases h:j=k
   ·subst h;simp
   ·simp[h]
 | non=>cases (show v=Value.none from r);rfl
 | int i=>obtain⟨t,rfl⟩:=r;rfl
 | str i=>obtain⟨t,rfl⟩:=r;rfl
 | ref i=>cases (show v=Value.ref i from r);rfl
 | _=>first|(obtain⟨t,rfl⟩:=r;rfl)|(cases r;rfl)
theorem nobl{x:V}{v:Value}(r:RelV x v):∀id,v≠.builtin id:=λid z=>by
 subst z
 cases x<;>first|(obtain⟨t,h⟩:=r;cases h;done)|(cases r;done)
theorem y43:OpR X (compareOp .Is) (λx y H Q=>∃k,y=.bl k/\Q (.bl (decide (x=.bl k)!=false)) H):=by
 intro pins s σ H x y v u Q I rx ry h;obtain⟨k,rfl,q⟩:=h;cases ry;refine Yps (nobl rx) ⟨_,H,I,?_,q⟩;rw[vbl rx];simp;rfl
theorem y1l:OpR X (compareOp .IsNot) (λx y H Q=>∃k,y=.bl k/\Q (.bl (decide (x=.bl k)!=true)) H):=by
 intro pins s σ H x y v u Q I rx ry h;obtain⟨k,rfl,q⟩:=h;cases ry;refine Ykj (nobl rx) ⟨_,H,I,?_,q⟩;rw[vbl rx];simp;rfl
theorem y1m{G H:Hp}{d:D}{v:V}(r:Ct K G H d v)(k:Bool):decide (v=.bl k)=isBl k d:=by
 cases d with
 | bl j=>
   rw[Ct]at r;subst r;by_cases h:j=k
   ·subst h;simp[isBl]
   ·simp[isBl,h]
 | non=>rw[Ct]at r;subst r;simp[isBl]
 | int i=>rw[Ct]at r;subst r;simp[isBl]
 | str i=>rw[Ct]at r;obtain⟨rfl,_⟩:=r;simp[isBl]
 | tup l=>rw[Ct]at r;obtain⟨a,xs,rfl,_⟩:=r;simp[isBl]
 | lst l=>rw[Ct]at r;obtain⟨a,xs,rfl,_⟩:=r;simp[isBl]
 | scr l=>rw[Ct]at r;obtain⟨a,rfl,_⟩:=r;simp[isBl]
 | dct t l m=>rw[Ct]at r;obtain⟨a,xs,ys,rfl,_⟩:=r;simp[isBl]
 | obj t l m=>rw[Ct]at r;obtain⟨a,C,dx,xs,rfl,_⟩:=r;simp[isBl]
 | adr a=>rw[Ct]at r;subst r;simp[isBl]
theorem Yun{neg:Bool}:Yl7 K (λx y H Q=>∃k,y=.bl k/\Q (.bl (decide (x=.bl k)!=neg)) H) (isB neg):=by
 intro x y dx dy c H G Q h s rx ry q;unfold isB at h
 split at h
 ·rename_i k
  cases h;have e:=y1m rx k;rw[Ct]at ry;subst ry;exact⟨k,rfl,by rw[e];exact q⟩
 ·cases h
theorem nr2{α:Sort _}{a b:α}(h:a=b):a=b:=h
@[simp] theorem isB_bl(neg:Bool)(d:D)(k:Bool):isB neg d (.bl k)=some (isBl k d != neg):=nr2 rfl
end
end
section
set_option maxRecDepth 100000
variable {K:W.Frag}
end
section
def y1o:AD->AK->Prop:=Paired λv k=>(∃t,v=.str k t)/\PyData.strOk k=true
def GT(K:W.Frag)(mg:AE)(x:Str)(ks:AK):Prop:=∃p o its n,mg x=some (.ref p)/\K.lookup p=some o/\o.cls=.type "tuple"/\o.data=.seq its n/\y1o its.toList ks
theorem Ylh{h:Heap}:∀{vs:AD}{ks:AK},y1o vs ks->∃as,ReadsAll h vs (ks.map PyData.str) as/\PyData.canLayAll0 (ks.map PyData.str)=true
 | _,_,.nil=>⟨_,.nil,by simp[PyData.canLayAll0]⟩
 | _,_,.cons r t=>by
   obtain⟨⟨tk,rfl⟩,hk⟩:=r;obtain⟨as,h1,h2⟩:=Ylh (h:=h) t;exact⟨_,.cons (.str _ tk) h1,by simp[PyData.canLayAll0,PyData.canLay0,h2,hk]⟩
def inG(neg:Bool)(ks:AK):D->Option Bool
 | .str k=>some (decide (k∈ks)!=neg)
 | _=>none
def rInG(p:Addr)(ks:AK)(neg:Bool):R2:=λx y H Q=>∃k,x=.str k/\PyData.strOk k=true/\y=.ref p/\Q (.bl (decide (k∈ks)!=neg)) H
theorem Yuo(k:Str):∀ks:AK,((ks.map PyData.str).any λy=>PyData.eqv y (.str k))=decide (k∈ks)
 | []=>rfl
 | a::ks=>by
   rw[q0,List.any_cons,Yuo k ks]
   have e:PyData.eqv (.str a) (.str k)=decide (k=a):=by
    simp only[PyData.eqv];rw[show(a==k)=decide (a=k) from rfl];exact decide_eq_decide.mpr ⟨λh=>h.symm,λh=>h.symm⟩
   rw[e];by_cases h:k=a<;>simp[h]
end
section
end
section
set_option maxRecDepth 100000
section
variable {prog:Program}{w:World}{A:Around}{E:AB}{s:Shared}
theorem Yjd:isSubtype (.type "set") (.type "set")=pure true:=by rw[isSubtype_type];kernel_rfl
theorem y1p{vals:AG}:∀{acc:AD},acc.length=vals.length->(∀(j:Nat) v,acc[j]?=some v->PInt vals j v)->IntsAre acc vals:=by
 induction vals with
 | nil=>
   intro acc h _;rw[List.length_eq_zero_iff.mp h];exact .nil
 | cons k r ih=>
   intro acc h hp
   match acc,h with
   | v::acc,h=>
     obtain⟨k',t,e1,e2⟩:=hp 0 v rfl;simp at e1;subst e1;subst e2;refine .cons _ t (ih (by simpa using h) λj v hj=>?_);obtain⟨k',t,e1,e2⟩:=hp (j+1) v (by simpa using hj);exact⟨k',t,by simpa using e1,e2⟩
theorem Ypt{a:Addr}{ns:AG}(hh:A.handled=none)(hS:SetI prog w s.heap a ns){Q:AD->Shared->Prop}
 (hQ:∀(h':Heap) (d':Drawn) (tk:Nat) (acc:AD) (vals:AG),~~~s<=h'.objs.size->(∀b o,s.heap.get? b=some o->h'.get? b=some o)->IntsAre acc vals->vals.Perm ns->Q acc { s with heap:=h',drawn:=d',toks:=tk }) :
 wpAny (model prog w) A (collect (.ref a)) Q E s:=by
 obtain⟨o,es,ep,t,ho,hex,hd,_⟩:=id hS;have hlt:a< ~~~s:=qk ho;have hlen:=hS.len;unfold collect;refine wa (wpAny_runValue (wz F.entry_proto_collect ?_));rw[jf F.plain_proto_collect _];show wpAny _ A.in1 (newList []>>=λl=>again (.builtin "list.__iadd__" ⟨[l,.ref a],[]⟩)) _ _ s;refine wa (wg ?_);refine wc ⟨je F.plain_list_iadd _,wz F.entry_list_iadd ?_⟩;rw[jf F.plain_list_iadd _];generalize hH:s.heap.push { cls:=.type "list",data:=.seq ([]:AD).toArray }=H
 have hHs:H.objs.size= ~~~s+1:=by rw[<-hH,wx]
 have keepH:∀b o,s.heap.get? b=some o->H.get? b=some o:=λb o e=>by rw[<-hH];exact qd _ e
 have hL:H.get? (~~~s)=some { cls:=.type "list",data:=.seq ([]:AD).toArray }:=by rw[<-hH];exact qo _ rfl
 have hoH:=keepH a o ho
 have hT:Shared.TypeIs { s with heap:=H } (.ref a) "set":=⟨o,hoH,hex.1⟩
 have hSI:(~~~s)≠a:=λz=>by rw[<-z]at hlt;exact absurd hlt (Qd _)
 have h1:Builtin.List.listSameRef (.ref (~~~s)) (.ref a)=false:=by simp[Builtin.List.listSameRef,hSI]
 show wpAny _ A.in1 (Builtin.List.listExtendWith (.ref (~~~s)) (.ref a) (.ref (~~~s))) _ _ _;unfold Builtin.List.listExtendWith;refine wa (wpAny_typeOf hT ?_)
 have h2:(Value.type "set"==Value.type "list")=false:=by decide
 have h3:(Value.type "set"==Value.type "tuple")=false:=by decide
 simp only[h1,h2,h3,Bool.or_false,Bool.false_eq_true,if_false];refine wa (Yw5 (s:={ s with heap:=H }) (hS.at λo e=>keepH a o e) λh' d' I fp vals St keep hI hIf hfp hp hW hst hty=>?_);have ho':=keep a o hoH
 have hT':Shared.TypeIs { s with heap:=h',drawn:=d' } (.ref a) "set":=⟨o,ho',hex.1⟩
 refine wa (we ?_);unfold Builtin.List.listLengthHint;refine wa (wpAny_specialOf hT' F.slot_set_len.lookup ?_)
 (generalize hid:("set.__len__":String)=id0;(fail_if_success (clear hid id0));wp_delta;rw[show splitId id0=some ("set","__len__") from by subst hid;decide +kernel];subst hid)
 refine wa (wpAny_isInstance (b:=true) hT' Yjd ?_);show wpAny _ A.in1 (typeOf (Value.ref a)>>=_) _ _ _;refine wa (wpAny_typeOf hT' ?_);refine wc ?_;rw[if_pos (by decide)];refine wa (wpAny_rule ?_)
 have hSf:(~~~s)∉fp:=λhm=>by
  rcases(hfp _ hm).2 with z|z
  ·exact hSI z
  ·rw[show({ s with heap:=H }:Shared).heap.objs.size=H.objs.size from rfl,hHs]at z
   exact absurd z (Nat.not_le.mpr (qy _))
 have hS₁:h'.get? (~~~s)=some { cls:=.type "list",data:=.seq ([]:AD).toArray }:=keep _ _ hL;refine wa ?_;show wpAny _ A.in1 (updateSeq (~~~s) (·.push .none)>>=λ_=>updateSeq (~~~s) (·.pop)) _ _ _;refine wa (wpAny_updateSeq hS₁ rfl ?_);have hS₂:=wy (Obj.mapSeq (·.push Value.none)) hS₁ rfl;refine wpAny_updateSeq hS₂ rfl ?_;have hS₃:=wy (Obj.mapSeq (·.pop)) hS₂ rfl
 have oth:∀b o,b≠(~~~s)->h'.get? b=some o->
  ((h'.update (~~~s) (Obj.mapSeq (·.push Value.none))).update (~~~s) (Obj.mapSeq (·.pop))).get? b=some o:=
  λb o hb e=>(Heap.get?_update_other _ _ (Ne.symm hb)).trans ((Heap.get?_update_other _ _ (Ne.symm hb)).trans e)
 have W:=(hW A.in1 hh).toS
 refine wc ⟨je F.plain_extend_loop _,codeAny_extend_loopS W (fits_of_scanBound hlen) _ hSf _ ns.length 0 _ _ _ rfl (Qc _)
  (W.frame 0 ({ s with heap:=h',drawn:=d' }:Shared) _ s.toks hst (qt _) λb hb o e=>oth b o (λh=>hSf (h ▸ hb)) e) hS₃ (ItemsOf.nil _) λs' acc' c' hm hS' hacc=>?_⟩
 show wpAny _ A (load (~~~s)>>=_) _ _ s';refine wa (wpAny_load hS' ?_);have eg:s'.gens=s.gens:=hm.gens;have ed:s'.drawn=d':=hm.drawn;have eo:s'.os=s.os:=hm.os
 have es':s'={ s with heap:=s'.heap,drawn:=d',toks:=s'.toks }:=by
  obtain⟨a1,a2,a3,a4,a5⟩:=s';simp only at eg ed eo;subst eg;subst ed;subst eo;rfl
 rw[es'];refine wc (hQ s'.heap d' s'.toks acc'.toList vals (Nat.le_of_lt (qk hS')) (λb ob e=>?_) (y1p (by rw[qi,hacc.1,hp.length_eq]) λj v hj=>hacc.2 j v (by rw[<-Array.getElem?_toList];exact hj)) hp);have hb:b< ~~~s:=qk e;refine hm.heap b ob (λhm'=>?_) (oth b ob (ql hb) (keep b ob (keepH b ob e)));rcases qr hm' with z|z
 ·rw[z]at hb;exact absurd hb (Qd _)
 ·rw[List.mem_singleton.mp z]at hb
  have:H.objs.size<=I:=hI;rw[hHs]at this;exact absurd (Qb hb (Nat.le_trans (Nat.le_succ _) this)) (Qd _)
theorem Ysk{a:Addr}{ns:AG}(hh:A.handled=none)(hS:SetI prog w s.heap a ns)(h64:ns.length<64){Q:AB}
 (hQ:∀(h':Heap) (d':Drawn) (tk e:Nat) (p:Addr) (out:Array Value) (ns':AG),(∀b o,s.heap.get? b=some o->h'.get? b=some o)->(~~~s)<=p->h'.get? p=some (seqObj "list" out e)->IntsAre out.toList ns'->ns'.Perm ns->ns'.Pairwise (·<=·)->
  Q (.ref p) { s with heap:=h',drawn:=d',toks:=tk }):wpAny (model prog w) A (call (.builtin "sorted") [.ref a]) Q E s:=by
 refine Calls.call_function_entry kind_sorted plain_sorted entry_sorted (args_sorted1 _) ?_;unfold Builtin.«sorted»;refine wa (m:=checkCount "sorted" 1 1 _) (wc ?_);refine wa (Ypt (A:=A.in1) hh hS λh' d' tk acc vals hle keep hI hp=>?_);have hl:acc.length=vals.length:=IntsAre.length hI
 have h64':acc.length<64:=by rw[hl,hp.length_eq];exact h64
 refine wa (wpAny_newList ?_ (by rw[jj];lia));have hoL:(h'.push (seqObj "list" acc.toArray 0)).get? h'.objs.size=some (seqObj "list" acc.toArray 0):=qo _ rfl;show wpAny _ _ _ _ _ { s with heap:=h'.push (seqObj "list" acc.toArray 0),drawn:=d',toks:=tk };refine wa (we (wf slot_list_sort ⟨_,hoL,rfl⟩ entry_list_sort (list_sort_tree (s:={ s with heap:=h'.push (seqObj "list" acc.toArray 0),drawn:=d',toks:=tk }) hoL hI h64' λout ns' a1 a2 a3=>⟨_,rfl,?_⟩) (args_list_sort _)));obtain⟨e,he⟩:=sortedHeap_at (n:=0) (out:=out) hoL;refine wc ⟨_,rfl,hQ _ d' tk e h'.objs.size out ns' (λb o eb=>?_) hle he a1 (a2.trans hp) a3⟩;have hb:=qk (keep b o eb);rw[sortedHeap_old (ql hb) (by rw[size_push'];exact qv hb)];exact qd _ (keep b o eb)
end
def setO(P:Program)(w:World)(p:Addr)(ms:AG):HO:=.ext λh=>SetI P w h p ms
theorem Yup{P:Program}{w:World}{H:Hp}{h:Heap}{p:Addr}{ms:AG}(x:SetI P w h p ms):ObjOk P w H h p (setO P w p ms):=by
 refine⟨x,?_,λh1 h2 e k=>e.at k⟩;obtain⟨o,_,_,_,ho,_⟩:=x;exact⟨o,ho⟩
section
variable {X:Cx}{pins:AC}{σ:L2.St}{H:Hp}{s:Shared}{e:Expr}{f:AV}{p p2 pos pos2:Pos}
theorem _root_.L2.Inv.dr(I:Inv X pins σ H s)(d':Drawn):Inv X pins σ H { s with drawn:=d' }:=⟨I.ok,I.os,I.bare,I.base,I.loc,I.cell,I.free,I.freeC,I.pin,I.hok,I.len⟩
theorem Yof{ns:AG}{us:AD}(r:Vals (ns.map V.int) us):IntsAre us ns:=Ylc r
def y7d(K:W.Frag)(P:Program)(w:World):AN->Hp->VK->Prop:=λxs H Q=>∃a ns,xs=[.ref a]/\(SqL K H a (ns.map V.int)\/SqT K H a (ns.map V.int))/\ns.length<4000/\∀p ms,H p=none->ms.Perm (ddup [] ns)->Q (.ref p) (upd H p (setO P w p ms))
theorem Yuq(hc:X.calm=true):Ydu X (.type "set") (y7d X.K X.prog X.w):=by
 intro pins s σ H xs us Q I r h;obtain⟨a,ns,rfl,hq,hl,q⟩:=h;obtain⟨u,rfl,rx⟩:=Yia r;cases rx;have hh:X.A.handled=none:=I.ok.hd hc;have hsb:scanBound=4096:=rfl;rcases hq with hq|hq
 ·obtain⟨its,rv,pl,hz⟩:=I.list hq
  have hlen:=rv.length;rw[qe]at hlen;refine Yl4 hh pl.isList (by simpa using Yof rv) (by rw[qj,hsb];lia) λh' tk ms hS hp hk=>?_;exact⟨.ref (~~~s),_,I.laid (t':=tk) (λb o e=>hk b o (qk e) e) (qt _) (Yup hS),rfl,q _ ms (I.hok.fresh (qt _)) hp⟩
 ·obtain⟨its,rv,pl,hz⟩:=I.tuple hq
  have hlen:=rv.length;rw[qe]at hlen;refine Ykh hh pl (by simpa using Yof rv) (by rw[qj,hsb];lia) λh' tk ms hS hp hk=>?_;exact⟨.ref (~~~s),_,I.laid (t':=tk) (λb o e=>hk b o (qk e) e) (qt _) (Yup hS),rfl,q _ ms (I.hok.fresh (qt _)) hp⟩
def y45(P:Program)(w:World):AN->Hp->VK->Prop:=λxs H Q=>∃a ms,xs=[.ref a]/\H a=some (setO P w a ms)/\ms.length<64/\∀p,H p=none->Q (.ref p) (upd H p (.lst ((Yhr ms).map V.int)))
theorem Ysl(hc:X.calm=true):Ydu X (.builtin "sorted") (y45 X.prog X.w):=by
 intro pins s σ H xs us Q I r h;obtain⟨a,ms,rfl,hq,hl,q⟩:=h;obtain⟨u,rfl,rx⟩:=Yia r;cases rx;have hh:X.A.handled=none:=I.ok.hd hc;have hS:SetI X.prog X.w s.heap a ms:=(show ObjOk X.prog X.w H s.heap a (setO X.prog X.w a ms) from I.hok a _ hq).1;refine Ysk hh hS hl λh' d' tk e p out ns' keep hp he hI hpm hs=>?_;have en:ns'=Yhr ms:=W.ksm_same (hpm.trans (Ycw ms).symm) hs (Ycc ms);subst en;have hn:(Yhr ms).length=ms.length:=(Ycw ms).length_eq;refine⟨.ref p,_,Inv.laid (t':=tk) (I.dr d') keep hp (show ObjOk X.prog X.w _ _ _ (.lst ((Yhr ms).map V.int)) from⟨by rw[qe,hn,jj];lia,out.toList,e,Yiv hI,by rw[Array.toArray_toList];exact he⟩),rfl,q _ (I.hok.fresh hp)⟩
def Yur(l:AQ):Option AQ:=match Yfq l with
 | some ns=>if ns.length<4000/\(ddup [] ns).length<64 then some ((Yhr (ddup [] ns)).map D.int)else none
 | none=>none
theorem Yme{a b:AG}(h:a.Perm b):Yhr a=Yhr b:=W.ksm_same (((Ycw a).trans h).trans (Ycw b).symm) (Ycc a) (Ycc b)
def Ygt(f:AV):AW:=λρ=>(b1 f Yp ρ).bind Yur
theorem nr0{α:Sort _}{a b:α}(h:a=b):a=b:=h
@[simp] theorem ap_sortsetF{ρ:Ro}:Ygt f ρ=((f ρ).bind Yp).bind Yur:=nr0 rfl
end
end
section
def y7e:AF:=[8,16,32,64,128]
end
section
end
section
set_option maxRecDepth 100000
theorem Yrc{t:SetTable}(hp:t.place=#[])(hd:t.dummies=#[])(j:Nat):t.slot j=.empty:=by
 unfold SetTable.slot SetTable.has;rw[hp,hd];rfl
theorem Yus(j0 j:Nat):SetTable.below #[j0] j=if j0<j then 1 else 0:=by
 show SetTable.below.go #[j0] j 1 0 1=_;rw[SetTable.below.go,if_pos (by decide)];show(if #[j0].getD 0 j<j then SetTable.below.go #[j0] j 0 1 1 else SetTable.below.go #[j0] j 0 0 0)=_;rw[SetTable.below.go,SetTable.below.go];rfl
theorem Ygu{t:SetTable}{j0:Nat}(hp:t.place=#[j0])(hd:t.dummies=#[])(j:Nat):t.slot j=if j=j0 then .live 0 else .empty:=by
 unfold SetTable.slot SetTable.has;dsimp only;rw[hp,hd,Yus];by_cases h:j0<j
 ·have h1:¬j=j0:=by lia
  simp[h,h1]
 ·by_cases h1:j=j0
  ·subst h1
   simp
  ·have h2:¬j0=j:=λz=>h1 z.symm
   simp[h,h1,h2]
theorem Yog{t:SetTable}(hm:t.mask=7){p:SetTable.Probe}(h0:p.more=0):t.advance p={ p with j:=(p.i*5+1+p.perturb/32)%8,more:=0,i:=(p.i*5+1+p.perturb/32)%8,perturb:=p.perturb/32 }:=by
 unfold SetTable.advance;rw[if_neg (by lia),hm];show({ p with j:=(p.i*5+1+p.perturb/32)%8,more:=SetTable.runEnd 7 ((p.i*5+1+p.perturb/32)%8)-(p.i*5+1+p.perturb/32)%8,i:=(p.i*5+1+p.perturb/32)%8,perturb:=p.perturb/32 }:SetTable.Probe)=_
 have:SetTable.runEnd 7 ((p.i*5+1+p.perturb/32)%8)-(p.i*5+1+p.perturb/32)%8=0:=by
  unfold SetTable.runEnd
  split<;>lia
 rw[this]
theorem Yzi{t:SetTable}{j0:Nat}{hA:Nat->Int}{h:Int}(hm:t.mask=7)(hp:t.place=#[j0])(hd:t.dummies=#[])(hj:j0<8)(hne:(hA 0==h)=false):∀(k fuel:Nat) (p:SetTable.Probe),p.perturb<32^k->k+2<=fuel->p.more=0->p.i=p.j->p.dummy=none->p.j<8->
 ∃j,SetTable.probe.go t hA h fuel p=some (.empty j none)/\j≠j0/\j<8
 | 0,fuel+2,p,h1,_,h3,h4,h5,h6=>by
   have hz:p.perturb=0:=by simp at h1;lia
   rw[SetTable.probe.go,Ygu hp hd];by_cases e:p.j=j0
   ·rw[if_pos e]
    dsimp only;rw[hne,if_neg qh,SetTable.probe.go,Ygu hp hd,Yog hm h3];dsimp only
    have hn:(p.i*5+1+p.perturb/32)%8≠j0:=by rw[h4,e,hz];lia
    rw[if_neg hn];exact⟨_,by rw[h5],hn,by lia⟩
   ·rw[if_neg e]
    exact⟨_,by rw[h5],e,h6⟩
 | k+1,fuel+1,p,h1,h2,h3,h4,h5,h6=>by
   rw[SetTable.probe.go,Ygu hp hd];by_cases e:p.j=j0
   ·rw[if_pos e]
    dsimp only;rw[hne,if_neg qh,Yog hm h3];refine Yzi hm hp hd hj hne k fuel _ ?_ (by lia) rfl rfl h5 (by show _%8<8;lia);show p.perturb/32<32^k;rw[Nat.div_lt_iff_lt_mul (by decide),<-Nat.pow_succ];exact h1
   ·rw[if_neg e]
    exact⟨_,by rw[h5],e,h6⟩
 | 0,0,_,_,h,_,_,_,_=>by lia
 | 0,1,_,_,h,_,_,_,_=>by lia
 | _+1,0,_,_,h,_,_,_,_=>by lia
theorem Yf6{t:SetTable}(hm:t.mask=7)(h:Int):t.probeStart h={ j:=SetTable.bits h%8,more:=0,i:=SetTable.bits h%8,perturb:=SetTable.bits h,dummy:=none }:=by
 unfold SetTable.probeStart;rw[hm]
 have:SetTable.runEnd 7 (SetTable.bits h%(7+1))-SetTable.bits h%(7+1)=0:=by
  unfold SetTable.runEnd
  split<;>lia
 dsimp only;rw[this]
theorem Yut{t:SetTable}(hm:t.mask=7)(hp:t.place=#[])(hd:t.dummies=#[])(hA:Nat->Int)(h:Int):t.probe hA h (t.probeStart h)=some (.empty (SetTable.bits h%8) none):=by
 unfold SetTable.probe;rw[hm,Yf6 hm];show SetTable.probe.go t hA h (219+1) _=_;rw[SetTable.probe.go,Yrc hp hd]
theorem Yuu{t:SetTable}{j0:Nat}(hm:t.mask=7)(hp:t.place=#[j0])(hd:t.dummies=#[])(hj:j0<8){hA:Nat->Int}{h:Int}(hne:(hA 0==h)=false):∃j,t.probe hA h (t.probeStart h)=some (.empty j none)/\j≠j0/\j<8:=by
 unfold SetTable.probe;rw[hm,Yf6 hm];refine Yzi hm hp hd hj hne 13 _ _ ?_ (by decide) rfl rfl rfl (by show _%8<8;lia);show SetTable.bits h<32^13;unfold SetTable.bits;have:h%(2^64:Int)<2^64:=Int.emod_lt_of_pos _ (by decide);have h2:0<=h%(2^64:Int):=Int.emod_nonneg _ (by decide)
 have:(h%(2^64:Int)).toNat<2^64:=by lia
 exact Qb this (by decide)
section
variable {prog:Program}{w:World}{A:Around}{E:AB}{s:Shared}
theorem Yxl{u:Addr}{o:Obj}{i:Int}{tk:Tok}{b:Bool}{n:Nat}{Q:Bool->Shared->Prop}(ho:s.heap.get? u=some o)(hc:o.cls=.type "tuple")(hd:o.data=.seq #[.int i tk,.bool b] n)(h:Q true s):wpAny (model prog w) A (hashByValue 8 (.ref u)) Q E s:=by
 have hT:s.TypeIs (.ref u) "tuple":=⟨o,ho,hc⟩
 unfold hashByValue;refine wa (wpAny_specialOf hT F.slot_tuple_hash.lookup ?_);dsimp only;refine wa (wpAny_seqItems ho hd ?_);show wpAny _ _ (forIn #[Value.int i tk,Value.bool b] _ _>>=_) _ _ _;simp[hashByValue];exact wc h
def hAt(es:Array (Int×Value))(i:Nat):Int:=(es[i]?.map (·.1)).getD 0
theorem Yuv{S:Addr}{x:Value}{h:Int}{o:Obj}{es:Array (Int×Value)}{ep:Nat}{t:SetTable}{j:Nat}{Q:SetFound->Shared->Prop}(hS:s.heap.get? S=some o)(hd:o.data=.set es ep t)(hf:t.fits es.size=true)(hm:t.mask=7)
 (hpr:t.probe (hAt es) h (t.probeStart h)=some (.empty j none)) (hQ:Q (.free j false) s):wpAny (model prog w) A (setSearch S x h true) Q E s:=by
 show wpAny _ _ (setState S>>=_) _ _ _;refine wa (wj hS hd hf ?_);dsimp only
 have hg:t.gaveWay=false:=by unfold SetTable.gaveWay;rw[hm];rfl
 rw[hg,if_neg qh];refine wa (wc ?_);have hpr':t.probe (λi=>(es[i]?.map (·.1)).getD 0) h (t.probeStart h)=some (.empty j none):=hpr;show wpAny _ _ (match t.probe (λi=>(es[i]?.map (·.1)).getD 0) h (t.probeStart h)with|some met=>_|_=>_) _ _ _;rw[hpr'];exact wc hQ
theorem y46{S u:Addr}{h:Int}{o:Obj}{es:Array (Int×Value)}{ep:Nat}{t:SetTable}{j:Nat}{ou:Obj}{i:Int}{tk:Tok}{b:Bool}{n:Nat}{Q:Bool->Shared->Prop}(hS:s.heap.get? S=some o)(hd:o.data=.set es ep t)(hf:t.fits es.size=true)(hm:t.mask=7)(hdm:t.dummies=#[])(hsz:es.size<=1)
 (hpr:t.probe (hAt es) h (t.probeStart h)=some (.empty j none)) (ho:s.heap.get? u=some ou) (hc:ou.cls=.type "tuple") (hud:ou.data=.seq #[.int i tk,.bool b] n)
 (hQ:Q true { s with heap:=s.heap.update S (Obj.putSet (SetTable.insertAt es (SetTable.below t.place j) (h,.ref u)) { t with place:=SetTable.insertAt t.place (SetTable.below t.place j) j }) }) :
 wpAny (model prog w) A (setAddHashed S (.ref u) h) Q E s:=by
 unfold setAddHashed setAddHashedIn;refine we (wa (wj hS hd hf ?_));dsimp only;have hby:byScan (.ref u) es=false:=rfl;rw[hby,if_neg qh];refine wa (Yuv hS hd hf hm hpr ?_);dsimp only;refine wa (wj hS hd hf ?_);dsimp only
 have hput:t.put j=({ t with place:=SetTable.insertAt t.place (SetTable.below t.place j) j },SetTable.below t.place j):=by
  unfold SetTable.put;dsimp only;rw[hdm];have:SetTable.has #[] j=false:=rfl;rw[this,if_neg qh]
 rw[hput];dsimp only
 have hfull:({ t with place:=SetTable.insertAt t.place (SetTable.below t.place j) j }:SetTable).tooFull=false:=by
  have h1:t.place.size=es.size:=by
   simp only[SetTable.fits,Qf,beq_iff_eq]at hf;exact hf.1
  have h2:(SetTable.insertAt t.place (SetTable.below t.place j) j).size<=2:=by
   rw[<-qi,Yav];simp;lia
  unfold SetTable.tooFull SetTable.fill;rw[hm,hdm];simp;lia
 have hsz':(SetTable.insertAt es (SetTable.below t.place j) (h,Value.ref u)).size<=sizeLine:=by
  rw[<-qi,Yav,jj];simp;lia
 cases hpl:t.plain with
 | true=>
   rw[if_pos rfl];refine wa (Yxl ho hc hud ?_);rw[if_pos rfl];refine wa (wpAny_storeSet_of hS hd ?_ hsz');rw[hpl]at hfull hQ;rw[hfull];exact wc hQ
 | false=>
   rw[if_neg qh];refine wa (wc ?_);rw[if_pos rfl];refine wa (wpAny_storeSet_of hS hd ?_ hsz');rw[hpl]at hfull hQ;rw[hfull];exact wc hQ
def PairV(h:Heap)(u:Addr)(p:Int×Bool):Prop:=∃o tk n,h.get? u=some o/\o.cls=.type "tuple"/\o.data=.seq #[.int p.1 tk,.bool p.2] n
def pH(p:Int×Bool):Int:=y0u [p.1,if p.2 then 1 else 0]
theorem PairV.keep{h h':Heap}{u:Addr}{p:Int×Bool}(x:PairV h u p)(k:∀o,h.get? u=some o->h'.get? u=some o):PairV h' u p:=by
 obtain⟨o,tk,n,h1,r⟩:=x;exact⟨o,tk,n,k o h1,r⟩
theorem PairV.key{h:Heap}{u:Addr}{p:Int×Bool}(x:PairV h u p):IsTupleKey (Ye0 prog w) h [p.1,if p.2 then 1 else 0] u:=by
 obtain⟨o,tk,n,h1,h2,h3⟩:=x;refine⟨o,_,n,h1,h2,h3,?_⟩;exact .cons (by simp[Ye0,Yki]) (.cons (by simp[Ye0,Yki]) .nil)
theorem Ypu{l I S u:Addr}{items:Array Value}{i:Nat}{p:Int×Bool}{R:Result->Shared->Prop}(hu:A.units+2<cLine)(hit:s.heap.IsListIter I l i)(hl:s.heap.IsList l items)(hx:items[i]?=some (.ref u))(hp:PairV s.heap u p)(hIu:u≠I)
 (k:∀h1 tk,h1.IsListIter I l (i+1)->Heap.SameBut I s.heap h1->wpAny (model prog w) A.in1 (setAddHashed S (.ref u) (pH p)) (λ_ s'=>codeAny (model prog w) A (.builtin "set.update.loop" ⟨[.ref S,.ref I],[]⟩) R s') (λe s'=>R (.error e) s') { s with heap:=h1,toks:=tk }) :
 codeAny (model prog w) A (.builtin "set.update.loop" ⟨[.ref S,.ref I],[]⟩) R s:=by
 refine wz F.entry_set_update_loop ?_;rw[jf F.plain_set_update_loop _];show wpAny _ A.in1 (pyNext (.ref I)>>=_) _ _ s;refine wa (wpAny_pyNext_list_item hit hl hx λh1 hi1 hs1=>?_);show wpAny _ A.in1 (holding [Value.ref u] (setAdd S (.ref u))>>=_) _ _ _;refine wa (we ?_);unfold setAdd
 have hp1:PairV h1 u p:=hp.keep λo e=>by rw[hs1.2 u hIu];exact e
 refine we (wa (wpAny_pyHash_tuple (knd:=Ye0 prog w) (s:={ s with heap:=h1 }) (by show A.units+1<cLine;lia) hp1.key ?_));refine w6 (k h1 _ hi1 hs1) (λb s' hb=>?_) λ_ _ x=>x;exact wc ⟨je F.plain_set_update_loop _,hb⟩
theorem Yrd{l I S:Addr}{items:Array Value}{i:Nat}{R:Result->Shared->Prop}(hh:A.handled=none)(hit:s.heap.IsListIter I l i)(hl:s.heap.IsList l items)(hx:items[i]?=none)
 (k:∀h1,Heap.ExtBut I s.heap h1->R (.ok (.ret .none)) { s with heap:=h1 }) :
 codeAny (model prog w) A (.builtin "set.update.loop" ⟨[.ref S,.ref I],[]⟩) R s:=by
 refine wz F.entry_set_update_loop ?_;rw[jf F.plain_set_update_loop _];show wpAny _ A.in1 (pyNext (.ref I)>>=_) _ _ s;refine wa (wpAny_pyNext_list_end (A:=A.in1) hh hit hl hx λh1 hs1=>?_);show wpAny _ A.in1 (ret Value.none) _ _ _;exact wc (k h1 hs1)
end
end
section
set_option maxRecDepth 100000
def vOf(e:Int×Value):Value:=e.2
def SetV(w:World)(h:Heap)(a:Addr)(vs:AD):Prop:=
 ∃o es ep t,h.get? a=some o/\o.ExactSet/\o.data=.set es ep t/\es.toList.map vOf=vs/\es.size<scanBound/\t.fits es.size=true/\Tab (byT w) t
theorem SetV.at{w:World}{h h':Heap}{a:Addr}{ns:AD}(x:SetV w h a ns)(e:∀o,h.get? a=some o->h'.get? a=some o):SetV w h' a ns:=
 let ⟨o,es,ep,t,ho,r⟩:=x
 ⟨o,es,ep,t,e o ho,r⟩
theorem SetV.len{w:World}{h:Heap}{a:Addr}{ns:AD}(x:SetV w h a ns):ns.length<scanBound:=by
 obtain⟨o,es,ep,t,ho,hex,hd,hns,hb,_⟩:=x;rw[<-hns,qe,qi];exact hb
def PVal(vals:AD)(i:Nat)(v:Value):Prop:=vals[i]?=some v
section
variable {prog:Program}{w:World}{A:Around}{E:AB}{s:Shared}
theorem Yuw{a:Addr}{ns:AD}(hS:SetV w s.heap a ns){Q:AB}
 (hQ:∀(h':Heap) (d':Drawn) (I:Addr) (fp:List Addr) (vals:AD) (St:Nat->Heap->Prop),(∀b o,s.heap.get? b=some o->h'.get? b=some o)->(~~~s)<=I->I∈fp->
  (∀b∈fp,b<h'.objs.size/\(b=a\/(~~~s)<=b))->vals.Perm ns->(∀A':Around,A'.handled=none->Walks prog w A' I fp [I] ns.length (PVal vals) St)->St 0 h'->
  (∀(i:Nat) (s':Shared),St i s'.heap->s'.TypeIs (.ref I) "set_iterator")->Q (.ref I) { s with heap:=h',drawn:=d' }) :
 wpAny (model prog w) A (pyIter (.ref a)) Q E s:=by
 obtain⟨o,es,ep,t,ho,hex,hd,hns,hb,hf,ht⟩:=hS
 have hT:s.TypeIs (.ref a) "set":=⟨o,ho,hex.1⟩
 have hlen:ns.length=es.size:=by rw[<-hns,qe,qi]
 have hlt:a< ~~~s:=qk ho
 have hsa:SAt s.heap a es ep t:=⟨o,ho,hex,hd,hf⟩
 have hps:t.place.size=es.size:=by
  simp only[SetTable.fits,Qf,beq_iff_eq]at hf;exact hf.1
 refine wpAny_pyIter_slot hT F.slot_set_iter (wf F.slot_set_iter hT Yft ?_ (F.args_set_iter_1 _));unfold Builtin.«frozenset.__iter__»;show wpAny _ _ (Builtin.Frozenset.sizeOf a>>=_) _ _ s;unfold Builtin.Frozenset.sizeOf;refine wa (wa (wpAny_setEntries_of ho hd hf (wc ?_)));refine wa ?_;unfold setDrawn;refine wa (wj ho hd hf ?_);dsimp only;refine wa (Yew (wc ?_))
 have plain:∀(vals:AD) (st:Nat->Nat) (xv:Nat->Value),vals.Perm ns->st 0=0->(∀i,i<es.size->PVal vals i (xv i))->
  (∀(s':Shared) (A':Around) (i:Nat) (E':AB),SAt s'.heap a es ep t->i<es.size->∀Q':Option (Value×Nat)->Shared->Prop,Q' (some (xv i,st (i+1))) s'->wpAny (model prog w) A' (setNext a (st i) i ep) Q' E' s')->
  (∀(s':Shared) (A':Around) (E':AB),SAt s'.heap a es ep t->∀Q':Option (Value×Nat)->Shared->Prop,Q' none s'->wpAny (model prog w) A' (setNext a (st es.size) es.size ep) Q' E' s')->
  wpAny (model prog w) A.in1 (do
   let x <-newFields "set_iterator" [rawInt 0,rawInt 0,.ref a,rawInt es.size,rawInt (<-setEpoch a)]
   ret x) (λfin s'=>∃v,fin=.done (.ret v)/\∃T' r,s'.TypeIs v T'/\typeLookup (.type T') "__next__"=pure (some r)/\Q v s') E s:=by
  intro vals st xv hp h0 hx hi hn;refine wa (wpAny_setEpoch_of ho hd hf ?_);refine wa (wg ?_);refine wc ⟨_,rfl,"set_iterator",_,⟨_,qo _ rfl,rfl⟩,slot_si_next.lookup,?_⟩
  have key:=hQ (s.heap.push { cls:=.type "set_iterator",data:=.fields #[rawInt 0,rawInt 0,.ref a,rawInt es.size,rawInt ep] }) s.drawn (~~~s) [~~~s,a] vals
   (λi h=>SIt h (~~~s) (.int (st i) 0) i a es.size ep/\SAt h a es ep t) (λb o e=>qd _ e) (qt _) (by simp) (λb hb=>by
    rw[wx];rcases qr hb with rfl|hb
    ·exact⟨qy _,.inr (qt _)⟩
    ·rw[List.mem_singleton]at hb
     subst hb
     exact⟨qv hlt,.inl rfl⟩) hp (λA' hA'=>{
    sub:=λb hb=>by simp at hb;simp[hb]
    frame:=λi h h' st' hk=>⟨st'.1.at λo e=>hk _ (by simp) o e,st'.2.at λo e=>hk a (by simp) o e⟩
    item:=λi s' Q' E' hlt' st' hQ'=>by
     refine Ytv st'.1 st'.2 (x:=xv i) (nx:=st (i+1)) (λA2 Q2 E2 hq=>hi s' A2 i E2 st'.2 (by lia) Q2 hq) λh' hit' hs'=>?_;exact hQ' _ h' s'.toks (hx i (by lia)) ⟨hit',st'.2.at λo e=>hs'.extBut a o (λz=>by subst z;exact absurd hlt (Qd _)) e⟩ λb o hb e=>hs'.extBut b o (λz=>hb (by simp[z])) e
    done:=λs' Q' E' st' hQ'=>by
     rw[hlen]at st';exact Ytw hA' st'.1 st'.2 (λA2 Q2 E2 hq=>hn s' A2 E2 st'.2 Q2 hq) λh' he'=>hQ' h' s'.toks λb o hb e=>he' b o (λz=>hb (by simp[z])) e
    self:=λi s' Q' E' st' hQ'=>Yl6 st'.1 hQ' }) ⟨⟨_,qo _ rfl,rfl,by rw[h0];rfl⟩,hsa.at λo e=>qd _ e⟩ (λi s' st'=>st'.1.typeIs)
  exact key
 have hdr:∀b:Bool,(!t.plain&&decide (es.size > 1))=b->wpAny (model prog w) A.in1 (if (!byT w&&b)=true then do
  let first <-newTuple ((<-drawOrder es.size (List.range es.size)).map fun(i:Nat)=>rawInt i)
  let x <-newFields "set_iterator" [first,rawInt 0,.ref a,rawInt es.size,rawInt (<-setEpoch a)]
  ret x
  else do
   let x <-newFields "set_iterator" [rawInt 0,rawInt 0,.ref a,rawInt es.size,rawInt (<-setEpoch a)]
   ret x) (λfin s'=>∃v,fin=.done (.ret v)/\∃T' r,s'.TypeIs v T'/\typeLookup (.type T') "__next__"=pure (some r)/\Q v s') E s:=by
  intro b hbd
  cases hbt:byT w with
  | true=>
    rw[if_neg (by simp)];generalize hor:pickOrder (w.params.setOrder a ep) es=ord
    have hpm:ord.toList.Perm es.toList:=by rw[<-hor];exact Yn1 _ _
    have hos:ord.size=es.size:=by
     have:=hpm.length_eq;simpa using this
    refine plain (ord.toList.map vOf) (λ_=>0) (λi=>(ord.getD i (0,.none)).2) (by rw[<-hns];exact hpm.map vOf) rfl (λi hi=>?_) (λs' A' i E' ha hi Q' hq=>?_) (λs' A' E' ha Q' hq=>?_)
    ·have hi':i<ord.size:=by lia
     show(ord.toList.map vOf)[i]?=some _;simp[hi',vOf,Array.getD]
    ·have hi':i<ord.size:=by lia
     refine Ygn hbt ha ?_;rw[hor,Array.getElem?_eq_getElem hi'];simp only[Array.getD,hi',dite_true]at hq;exact hq
    ·refine Ygn hbt ha ?_
     rw[hor,Array.getElem?_eq_none (by lia)];exact hq
  | false=>
    have hled:=ht.1 hbt
    cases b with
    | false=>
      rw[if_neg (by simp)]
      have hrise:Rise t.place:=by
       cases hpl:t.plain with
       | true=>exact ht.2 hpl
       | false=>
         rw[hpl]at hbd
         have h1:t.place.toList.length<=1:=by
          simp at hbd;rw[qi];lia
         unfold Rise
         match t.place.toList,h1 with
         | [],_=>exact .nil
         | [x],_=>simp
      refine plain ns (Yeq t.place) (λi=>(es.getD i (0,.none)).2) .rfl rfl (λi hi=>?_) (λs' A' i E' ha hi Q' hq=>?_) (λs' A' E' ha Q' hq=>?_)
      ·show ns[i]?=some _
       rw[<-hns];simp[hi,vOf,Array.getD]
      ·refine Ygo hbt hbd hled ha (Yii hrise (by lia)) ?_
       have hi2:i<t.place.size:=by lia
       rw[Array.getElem?_eq_getElem hi,Array.getElem?_eq_getElem hi2];simp only[Array.getD,hi,hi2,dite_true,Yeq]at hq;exact hq
      ·refine Ygo hbt hbd hled ha (Yii hrise (by lia)) ?_
       rw[Array.getElem?_eq_none (qt _)];exact hq
    | true=>
      rw[if_pos (by simp)];refine wa (Yhp es.size (List.range es.size) s _ (by simp) λys d' hp=>?_);simp only[newTuple]
      have hyl:ys.length=es.size:=by rw[hp.length_eq];simp
      refine wa (wg ?_ (by show(ys.map fun(i:Nat)=>rawInt i).toArray.size<=sizeLine;rw[qj,qe,hyl];exact fits_of_scanBound hb));have ho1:((s.heap.push { cls:=.type "tuple",data:=.seq (ys.map fun(i:Nat)=>rawInt i).toArray })).get? a=some o:=qd _ ho;refine wa (wpAny_setEpoch_of (s:={ s with heap:=s.heap.push { cls:=.type "tuple",data:=.seq (ys.map fun(i:Nat)=>rawInt i).toArray },drawn:=d' }) ho1 hd hf ?_);refine wa (wg ?_);refine wc ⟨_,rfl,"set_iterator",_,⟨_,qo _ rfl,rfl⟩,slot_si_next.lookup,?_⟩
      have hmem:∀j∈ys,j<es.size:=λj hj=>by simpa using hp.mem_iff.mp hj
      have hvp:(ys.map λj=>vOf (es.getD j (0,.none))).Perm ns:=by
       rw[<-hns];refine(hp.map _).trans ?_
       have:(List.range es.size).map (λj=>vOf (es.getD j (0,.none)))=es.toList.map vOf:=by
        refine List.ext_getElem (by simp) λi h1 h2=>?_
        have hi:i<es.size:=by simpa using h1
        simp[Array.getD,hi]
       rw[this]
      generalize hH:s.heap.push { cls:=.type "tuple",data:=.seq (ys.map fun(i:Nat)=>rawInt i).toArray }=H at ho1 ⊢
      have hHs:H.objs.size= ~~~s+1:=by rw[<-hH,wx]
      have hT0:H.IsTuple (~~~s) (ys.map fun(i:Nat)=>rawInt i).toArray:=⟨_,by rw[<-hH];exact qo _ rfl,rfl,_,rfl⟩
      have keepH:∀b o,s.heap.get? b=some o->H.get? b=some o:=λb o e=>by rw[<-hH];exact qd _ e
      have haI:a≠H.objs.size:=λz=>by rw[z,hHs]at hlt;exact absurd hlt (Nat.not_lt.mpr (Nat.le_succ _))
      have hTI:(~~~s)≠H.objs.size:=by rw[hHs];exact ql (qy _)
      exact hQ (H.push { cls:=.type "set_iterator",data:=.fields #[.ref (~~~s),rawInt 0,.ref a,rawInt es.size,rawInt ep] }) d' H.objs.size [H.objs.size,a,~~~s] (ys.map λj=>vOf (es.getD j (0,.none)))
       (λi h=>SIt h H.objs.size (.ref (~~~s)) i a es.size ep/\SAt h a es ep t/\h.IsTuple (~~~s) (ys.map fun(i:Nat)=>rawInt i).toArray) (λb o e=>qd _ (keepH b o e)) (by lia) (by simp) (λb hb=>by
        rw[wx];simp only[List.mem_cons,List.not_mem_nil,or_false]at hb;rcases hb with rfl|rfl|rfl
        ·exact⟨qy _,.inr (by rw[hHs];exact Nat.le_succ _)⟩
        ·exact⟨qv (by rw[hHs];exact qv hlt),.inl rfl⟩
        ·exact⟨qv (by rw[hHs];exact qy _),.inr (qt _)⟩) hvp (λA' hA'=>{
        sub:=λb hb=>by simp at hb;simp[hb]
        frame:=λi h h' st' hk=>⟨st'.1.at λo e=>hk _ (by simp) o e,st'.2.1.at λo e=>hk a (by simp) o e,st'.2.2.at λo e=>hk _ (by simp) o e⟩
        item:=λi s' Q' E' hlt' st' hQ'=>by
         have hi:i<ys.length:=by lia
         have hj:=hmem ys[i] (List.getElem_mem hi);refine Yq5 st'.1 st'.2.1 st'.2.2 (j:=ys[i]) (tk:=0) (e:=es[ys[i]]) (by simp[hi,rawInt]) (Array.getElem?_eq_getElem hj) λh' hit' hs'=>?_;refine hQ' _ h' s'.toks ?_ ⟨hit',st'.2.1.at λo e=>hs'.extBut a o haI e,st'.2.2.at λo e=>hs'.extBut _ o hTI e⟩ λb o hb e=>hs'.extBut b o (λz=>hb (by simp[z])) e;show(ys.map λj=>vOf (es.getD j (0,.none)))[i]?=some es[ys[i]].2;simp[hi,Array.getD,hj,vOf]
        done:=λs' Q' E' st' hQ'=>by
         rw[hlen]at st';exact Yq6 hA' st'.1 st'.2.1 st'.2.2 (by simp[hyl]) λh' he'=>hQ' h' s'.toks λb o hb e=>he' b o (λz=>hb (by simp[z])) e
        self:=λi s' Q' E' st' hQ'=>Yl6 st'.1 hQ' }) ⟨⟨_,qo _ rfl,rfl,rfl⟩,⟨o,qd _ ho1,hex,hd,hf⟩,hT0.push _⟩ (λi s' st'=>st'.1.typeIs)
 exact hdr _ rfl
theorem Yoh{a:Addr}{ns:AD}(hh:A.handled=none)(hS:SetV w s.heap a ns){Q:AD->Shared->Prop}
 (hQ:∀(h':Heap) (d':Drawn) (tk:Nat) (acc:AD),~~~s<=h'.objs.size->(∀b o,s.heap.get? b=some o->h'.get? b=some o)->acc.Perm ns->Q acc { s with heap:=h',drawn:=d',toks:=tk }) :
 wpAny (model prog w) A (collect (.ref a)) Q E s:=by
 obtain⟨o,es,ep,t,ho,hex,hd,_⟩:=id hS;have hlt:a< ~~~s:=qk ho;have hlen:=hS.len;unfold collect;refine wa (wpAny_runValue (wz F.entry_proto_collect ?_));rw[jf F.plain_proto_collect _];show wpAny _ A.in1 (newList []>>=λl=>again (.builtin "list.__iadd__" ⟨[l,.ref a],[]⟩)) _ _ s;refine wa (wg ?_);refine wc ⟨je F.plain_list_iadd _,wz F.entry_list_iadd ?_⟩;rw[jf F.plain_list_iadd _];generalize hH:s.heap.push { cls:=.type "list",data:=.seq ([]:AD).toArray }=H
 have hHs:H.objs.size= ~~~s+1:=by rw[<-hH,wx]
 have keepH:∀b o,s.heap.get? b=some o->H.get? b=some o:=λb o e=>by rw[<-hH];exact qd _ e
 have hL:H.get? (~~~s)=some { cls:=.type "list",data:=.seq ([]:AD).toArray }:=by rw[<-hH];exact qo _ rfl
 have hoH:=keepH a o ho
 have hT:Shared.TypeIs { s with heap:=H } (.ref a) "set":=⟨o,hoH,hex.1⟩
 have hSI:(~~~s)≠a:=λz=>by rw[<-z]at hlt;exact absurd hlt (Qd _)
 have h1:Builtin.List.listSameRef (.ref (~~~s)) (.ref a)=false:=by simp[Builtin.List.listSameRef,hSI]
 show wpAny _ A.in1 (Builtin.List.listExtendWith (.ref (~~~s)) (.ref a) (.ref (~~~s))) _ _ _;unfold Builtin.List.listExtendWith;refine wa (wpAny_typeOf hT ?_)
 have h2:(Value.type "set"==Value.type "list")=false:=by decide
 have h3:(Value.type "set"==Value.type "tuple")=false:=by decide
 simp only[h1,h2,h3,Bool.or_false,Bool.false_eq_true,if_false];refine wa (Yuw (s:={ s with heap:=H }) (hS.at λo e=>keepH a o e) λh' d' I fp vals St keep hI hIf hfp hp hW hst hty=>?_);have ho':=keep a o hoH
 have hT':Shared.TypeIs { s with heap:=h',drawn:=d' } (.ref a) "set":=⟨o,ho',hex.1⟩
 refine wa (we ?_);unfold Builtin.List.listLengthHint;refine wa (wpAny_specialOf hT' F.slot_set_len.lookup ?_)
 (generalize hid:("set.__len__":String)=id0;(fail_if_success (clear hid id0));wp_delta;rw[show splitId id0=some ("set","__len__") from by subst hid;decide +kernel];subst hid)
 refine wa (wpAny_isInstance (b:=true) hT' Yjd ?_);show wpAny _ A.in1 (typeOf (Value.ref a)>>=_) _ _ _;refine wa (wpAny_typeOf hT' ?_);refine wc ?_;rw[if_pos (by decide)];refine wa (wpAny_rule ?_)
 have hSf:(~~~s)∉fp:=λhm=>by
  rcases(hfp _ hm).2 with z|z
  ·exact hSI z
  ·rw[show({ s with heap:=H }:Shared).heap.objs.size=H.objs.size from rfl,hHs]at z
   exact absurd z (Nat.not_le.mpr (qy _))
 have hS₁:h'.get? (~~~s)=some { cls:=.type "list",data:=.seq ([]:AD).toArray }:=keep _ _ hL;refine wa ?_;show wpAny _ A.in1 (updateSeq (~~~s) (·.push .none)>>=λ_=>updateSeq (~~~s) (·.pop)) _ _ _;refine wa (wpAny_updateSeq hS₁ rfl ?_);have hS₂:=wy (Obj.mapSeq (·.push Value.none)) hS₁ rfl;refine wpAny_updateSeq hS₂ rfl ?_;have hS₃:=wy (Obj.mapSeq (·.pop)) hS₂ rfl
 have oth:∀b o,b≠(~~~s)->h'.get? b=some o->
  ((h'.update (~~~s) (Obj.mapSeq (·.push Value.none))).update (~~~s) (Obj.mapSeq (·.pop))).get? b=some o:=
  λb o hb e=>(Heap.get?_update_other _ _ (Ne.symm hb)).trans ((Heap.get?_update_other _ _ (Ne.symm hb)).trans e)
 have W:=(hW A.in1 hh).toS
 refine wc ⟨je F.plain_extend_loop _,codeAny_extend_loopS W (fits_of_scanBound hlen) _ hSf _ ns.length 0 _ _ _ rfl (Qc _)
  (W.frame 0 ({ s with heap:=h',drawn:=d' }:Shared) _ s.toks hst (qt _) λb hb o e=>oth b o (λh=>hSf (h ▸ hb)) e) hS₃ (ItemsOf.nil _) λs' acc' c' hm hS' hacc=>?_⟩
 show wpAny _ A (load (~~~s)>>=_) _ _ s';refine wa (wpAny_load hS' ?_);have eg:s'.gens=s.gens:=hm.gens;have ed:s'.drawn=d':=hm.drawn;have eo:s'.os=s.os:=hm.os
 have es':s'={ s with heap:=s'.heap,drawn:=d',toks:=s'.toks }:=by
  obtain⟨a1,a2,a3,a4,a5⟩:=s';simp only at eg ed eo;subst eg;subst ed;subst eo;rfl
 rw[es']
 have hav:acc'.toList=vals:=by
  refine List.ext_getElem (by rw[qi,hacc.1,hp.length_eq]) λj h1 h2=>?_;have:=hacc.2 j acc'.toList[j] (by rw[<-Array.getElem?_toList,qp h1]);have h3:vals[j]?=some acc'.toList[j]:=this;rw[qp h2]at h3;exact(w9 h3).symm
 refine wc (hQ s'.heap d' s'.toks acc'.toList (Nat.le_of_lt (qk hS')) (λb ob e=>?_) (by rw[hav];exact hp));have hb:b< ~~~s:=qk e;refine hm.heap b ob (λhm'=>?_) (oth b ob (ql hb) (keep b ob (keepH b ob e)));rcases qr hm' with z|z
 ·rw[z]at hb;exact absurd hb (Qd _)
 ·rw[List.mem_singleton.mp z]at hb
  have:H.objs.size<=I:=hI;rw[hHs]at this;exact absurd (Qb hb (Nat.le_trans (Nat.le_succ _) this)) (Qd _)
structure SetQ(w:World)(h:Heap)(a:Addr)(us:List (Int×Addr)):Prop where
 ex:∃o es ep t,h.get? a=some o/\o.ExactSet/\o.data=.set es ep t/\es.toList=us.map (λu=>(u.1,Value.ref u.2))/\t.fits es.size=true/\t.mask=7/\t.dummies=#[]/\t.place.toList=us.map (λu=>SetTable.bits u.1%8)/\Tab (byT w) t
theorem SetQ.keep{h h':Heap}{a:Addr}{us:List (Int×Addr)}(x:SetQ w h a us)(k:∀o,h.get? a=some o->h'.get? a=some o):SetQ w h' a us:=by
 obtain⟨o,es,ep,t,h1,r⟩:=x.ex;exact⟨o,es,ep,t,k o h1,r⟩
theorem SetQ.vals{h:Heap}{a:Addr}{us:List (Int×Addr)}(x:SetQ w h a us)(hl:us.length<=1):SetV w h a (us.map λu=>Value.ref u.2):=by
 obtain⟨o,es,ep,t,h1,h2,h3,h4,h5,h6,h7,h8,h9⟩:=x.ex;refine⟨o,es,ep,t,h1,h2,h3,?_,?_,h5,h9⟩
 ·rw[h4,List.map_map]
  rfl
 ·rw[<-qi,h4,qe]
  have:scanBound=4096:=rfl;lia
theorem Yje{S u:Addr}{us:List (Int×Addr)}{p:Int×Bool}{Q:Bool->Shared->Prop}(hS:SetQ w s.heap S us)(hl:us.length<=1)(hp:PairV s.heap u p)(hne:∀q∈us,q.1≠pH p)
 (hQ:∀h' vs,Heap.SameBut S s.heap h'->SetV w h' S vs->vs.Perm ((us.map λu=>Value.ref u.2)++[.ref u])->(us=[]->SetQ w h' S [(pH p,u)])->Q true { s with heap:=h' }):wpAny (model prog w) A (setAddHashed S (.ref u) (pH p)) Q E s:=by
 obtain⟨o,es,ep,t,h1,h2,h3,h4,h5,h6,h7,h8,h9⟩:=hS.ex;obtain⟨ou,tk,n,u1,u2,u3⟩:=hp
 have hsz:es.size=us.length:=by rw[<-qi,h4,qe]
 have hpl:t.place.size=es.size:=by
  simp only[SetTable.fits,Qf,beq_iff_eq]at h5;exact h5.1
 obtain⟨j,hpr,hj8,hfree,hjz⟩:∃j,t.probe (hAt es) (pH p) (t.probeStart (pH p))=some (.empty j none)/\j<8/\(∀i,t.slot j≠.live i)/\(us=[]->j=SetTable.bits (pH p)%8):=by
  generalize pH p=hp at hne ⊢;rcases us with _|⟨q,_|⟨q2,r⟩⟩
  ·have hz:t.place=#[]:=Array.size_eq_zero_iff.mp (by rw[hpl,hsz];rfl)
   refine⟨_,Yut h6 hz h7 _ _,by lia,λi z=>?_,λ_=>rfl⟩;rw[Yrc hz h7]at z;cases z
  ·have hz:t.place=#[SetTable.bits q.1%8]:=by
    apply Array.toList_inj.mp;rw[h8];rfl
   have hes:es=#[(q.1,.ref q.2)]:=by
    apply Array.toList_inj.mp;rw[h4];rfl
   have hq:=hne q qg
   obtain⟨j,k1,k2,k3⟩:=Yuu h6 hz h7 (by lia) (hA:=hAt es) (h:=hp) (by
    rw[hes]
    simpa [hAt]using hq)
   refine⟨j,k1,k3,λi z=>?_,λz=>by cases z⟩;rw[Ygu hz h7,if_neg k2]at z;cases z
  ·simp at hl
 refine y46 h1 h3 h5 h6 h7 (by lia) hpr u1 u2 u3 ?_;have hg:=Ypn h1 h3 (SetTable.insertAt es (SetTable.below t.place j) (pH p,.ref u)) { t with place:=SetTable.insertAt t.place (SetTable.below t.place j) j }
 have e1:(SetTable.insertAt es (SetTable.below t.place j) (pH p,Value.ref u)).size=us.length+1:=by
  rw[<-qi,Yav];simp;lia
 have e2:(SetTable.insertAt t.place (SetTable.below t.place j) j).size=us.length+1:=by
  rw[<-qi,Yav];simp;lia
 have hfit:({ t with place:=SetTable.insertAt t.place (SetTable.below t.place j) j }:SetTable).fits (us.length+1)=true:=by
  unfold SetTable.fits SetTable.fill;simp only[e2,h6,h7,Qf,beq_iff_eq,wm];exact⟨trivial,by simp;lia⟩
 have htab:Tab (byT w) { t with place:=SetTable.insertAt t.place (SetTable.below t.place j) j }:=⟨h9.1,λz=>Yix (h9.2 z) j (Ynz hfree)⟩
 have hsb:scanBound=4096:=rfl;refine hQ _ _ (wv ..) ⟨_,_,_,_,hg,⟨h2.1,h2.2.1,h2.2.2⟩,rfl,rfl,by rw[e1];lia,by rw[e1];exact hfit,htab⟩ ?_ λhz=>?_
 ·have hpm:(es.toList.map vOf).Perm (us.map λu=>Value.ref u.2):=by
   rw[h4,List.map_map];exact .refl _
  have hins:((SetTable.insertAt es (SetTable.below t.place j) (pH p,Value.ref u)).toList).Perm (es.toList++[(pH p,Value.ref u)]):=by
   rw[Yav];refine List.perm_middle.trans ?_;rw[List.take_append_drop];exact List.perm_append_comm (l₁:=[_])
  have:=hins.map vOf;rw[wt]at this;exact this.trans (hpm.append_right _)
 ·subst hz
  have hz:t.place=#[]:=Array.size_eq_zero_iff.mp (by rw[hpl,hsz];rfl);have hes:es=#[]:=Array.size_eq_zero_iff.mp (by rw[hsz];rfl);refine⟨_,_,_,_,hg,⟨h2.1,h2.2.1,h2.2.2⟩,rfl,?_,by rw[e1];exact hfit,h6,h7,?_,htab⟩
  ·rw[Yav,hes]
   simp
  ·show(SetTable.insertAt t.place (SetTable.below t.place j) j).toList=_
   rw[Yav,hz,hjz rfl];simp
theorem Yre{u:Addr}{p:Int×Bool}{Q:Bool->Shared->Prop}(hp:PairV s.heap u p)(h:Q false s):wpAny (model prog w) A (ofAClassStatement 8 (.ref u)) Q E s:=by
 obtain⟨o,tk,n,h1,h2,h3⟩:=hp
 have hT:s.TypeIs (.ref u) "tuple":=⟨o,h1,h2⟩
 unfold ofAClassStatement;refine wa (wpAny_typeOf hT ?_);dsimp only;rw[if_pos (by decide)];refine wa (wc ?_);simp only[Bool.not_true,Bool.false_eq_true,if_false];refine wa (wpAny_seqItems h1 h3 ?_);simp[ofAClassStatement];exact wc h
theorem Yux{u v:Addr}{p q:Int×Bool}{Q:Bool->Shared->Prop}(hu:PairV s.heap u p)(hv:PairV s.heap v q)(h:Q false s):wpAny (model prog w) A (searchCouldBeSeen (.ref u) [.ref v]) Q E s:=by
 unfold searchCouldBeSeen;simp[carriedByValue];by_cases e:u=v
 ·rw[if_pos e]
  exact wa (wc (wa (wc (wc h))))
 ·rw[if_neg e]
  refine wa (wa (wpAny_eqIsQuiet_tuple (knd:=Ye0 prog w) hu.key ?_));rw[if_neg (by decide)];refine wa (wpAny_eqIsQuiet_tuple (knd:=Ye0 prog w) hv.key ?_);rw[if_neg (by decide)];refine wa (Yre hu ?_);rw[if_neg (by decide)];refine wa (Yre hv ?_);rw[if_neg (by decide)];exact wc (wa (wc (wc h)))
theorem Ysn{t:SetTable}{h:Int}(hm:t.mask=7)(hp:t.place=#[SetTable.bits h%8])(hd:t.dummies=#[]){hA:Nat->Int}(he:hA 0=h):∃nx,t.probe hA h (t.probeStart h)=some (.candidate (SetTable.bits h%8) 0 nx):=by
 unfold SetTable.probe;rw[hm,Yf6 hm];show ∃nx,SetTable.probe.go t hA h (219+1) _=_;rw[SetTable.probe.go,Ygu hp hd,if_pos rfl];dsimp only;rw[he,if_pos (by simp)];exact⟨_,rfl⟩
theorem Ypv{S u v:Addr}{p:Int×Bool}{h:Int}{o:Obj}{es:Array (Int×Value)}{ep:Nat}{t:SetTable}{nx:SetTable.Probe}{j:Nat}{Q:SetFound->Shared->Prop}(fuel:Nat)(hu:A.units<cLine)(hS:s.heap.get? S=some o)(hd:o.data=.set es ep t)(hf:t.fits es.size=true)(hm:t.mask=7)(hes:es=#[(h,.ref v)])
 (hpr:t.probe (λi=>(es[i]?.map (·.1)).getD 0) h (t.probeStart h)=some (.candidate j 0 nx)) (hv:PairV s.heap v p) (hp:PairV s.heap u p) (hQ:Q (.there none) s):wpAny (model prog w) A (setSearchFrom S (.ref u) h true (fuel+1) none) Q E s:=by
 show wpAny _ _ (setState S>>=_) _ _ _;refine wa (wj hS hd hf ?_);dsimp only
 have hg:t.gaveWay=false:=by unfold SetTable.gaveWay;rw[hm];rfl
 rw[hg,if_neg qh];refine wa (wc ?_);show wpAny _ _ (match t.probe (λi=>(es[i]?.map (·.1)).getD 0) h (t.probeStart h)with|some met=>_|_=>_) _ _ _;rw[hpr];dsimp only
 have hfl:((es.filter (·.1==h)).toList.map (·.2))=[Value.ref v]:=by
  rw[hes];simp
 have hes0:es[0]?=some (h,.ref v):=by rw[hes];rfl
 rw[hfl,hes0]
 cases t.led with
 | true=>
   rw[if_neg (by decide)];dsimp only;refine wa (we (wpAny_eqBool_tuple (knd:=Ye0 prog w) hu hv.key hp.key ?_));rw[wn rfl];refine wa (wj hS hd hf ?_);dsimp only;rw[if_pos (by rfl)];exact wc hQ
 | false=>
   rw[if_pos (by decide)];refine wa (Yux hp hv ?_);rw[if_neg (by decide)];dsimp only;refine wa (we (wpAny_eqBool_tuple (knd:=Ye0 prog w) hu hv.key hp.key ?_));rw[wn rfl];refine wa (wj hS hd hf ?_);dsimp only;rw[if_pos (by rfl)];exact wc hQ
theorem Yuy{S u:Addr}{h:Int}{o:Obj}{es:Array (Int×Value)}{ep:Nat}{t:SetTable}{Q:Bool->Shared->Prop}(hS:s.heap.get? S=some o)(hd:o.data=.set es ep t)(hf:t.fits es.size=true)
 (hsr:∀Q':SetFound->Shared->Prop,Q' (.there none) s->wpAny (model prog w) A (setSearch S (.ref u) h true) Q' E s) (hQ:Q false s):wpAny (model prog w) A (setAddHashed S (.ref u) h) Q E s:=by
 unfold setAddHashed setAddHashedIn;refine we (wa (wj hS hd hf ?_));dsimp only;have hby:byScan (.ref u) es=false:=rfl;rw[hby,if_neg qh];refine wa (hsr _ ?_);exact wc hQ
theorem Yxm{S u v:Addr}{p:Int×Bool}{hh:Int}{Q:Bool->Shared->Prop}(hu:A.units<cLine)(hS:SetQ w s.heap S [(hh,v)])(hv:PairV s.heap v p)(hp:PairV s.heap u p)(hQ:Q false s):wpAny (model prog w) A (setAddHashed S (.ref u) hh) Q E s:=by
 obtain⟨o,es,ep,t,h1,h2,h3,h4,h5,h6,h7,h8,h9⟩:=hS.ex
 have hes:es=#[(hh,.ref v)]:=by
  apply Array.toList_inj.mp;rw[h4];rfl
 have hz:t.place=#[SetTable.bits hh%8]:=by
  apply Array.toList_inj.mp;rw[h8];rfl
 obtain⟨nx,hpr⟩:=Ysn (h:=hh) h6 hz h7 (hA:=λi=>(es[i]?.map (·.1)).getD 0) (by rw[hes];rfl);refine Yuy h1 h3 h5 (λQ' q=>?_) hQ;have h100:(100000:Nat)=99999+1:=rfl;unfold setSearch;rw[h100];generalize (99999:Nat)=fuel;exact Ypv fuel hu h1 h3 h5 h6 hes hpr hv hp q
def oncE:List Addr->List (Int×Bool)->List Addr
 | [u1,u2],[p1,p2]=>if p1=p2 then [u1]else [u1,u2]
 | us,_=>us
theorem Yuz{l I S:Addr}{us:List Addr}{ps:List (Int×Bool)}{R:Result->Shared->Prop}(hh:A.handled=none)(hu:A.units+2<cLine)(hit:s.heap.IsListIter I l 0)(hl:s.heap.IsList l (us.map Value.ref).toArray)(h2:us.length<=2)(hps:ps.length=us.length)
 (hp:∀(i:Nat) u p,us[i]?=some u->ps[i]?=some p->PairV s.heap u p) (hd:∀p q,ps=[p,q]->p=q\/pH p≠pH q) (hS:SetQ w s.heap S []) (hIl:l≠I) (hIS:S≠I) (hlS:l≠S) (hIu:∀u∈us,u≠I) (hSu:∀u∈us,u≠S)
 (hR:∀h' tk vs,SetV w h' S vs->vs.Perm ((oncE us ps).map Value.ref)->(∀b o,b≠S->b≠I->s.heap.get? b=some o->h'.get? b=some o)->R (.ok (.ret .none)) { s with heap:=h',toks:=tk }) :
 codeAny (model prog w) A (.builtin "set.update.loop" ⟨[.ref S,.ref I],[]⟩) R s:=by
 have lk:∀{h h':Heap}{its:Array Value},h.IsList l its->(∀o,h.get? l=some o->h'.get? l=some o)->h'.IsList l its:=λx k=>let ⟨o,e,r⟩:=x;⟨o,k o e,r⟩;have ik:∀{h h':Heap}{i:Nat},h.IsListIter I l i->(∀o,h.get? I=some o->h'.get? I=some o)->h'.IsListIter I l i:=λx k=>let ⟨o,e,r⟩:=x;⟨o,k o e,r⟩;rcases us with _|⟨u1,_|⟨u2,_|⟨u3,ur⟩⟩⟩
 ·refine Yrd hh hit hl rfl λh1 hs1=>?_
  exact hR h1 s.toks _ ((hS.keep λo e=>hs1 S o hIS e).vals (by simp)) (.refl _) λb o _ hb e=>hs1 b o hb e
 ·rcases ps with _|⟨p1,_|⟨p2,pr⟩⟩
  ·simp at hps
  ·have hu1:=hp 0 u1 p1 rfl rfl
   refine Ypu hu hit hl rfl hu1 (hIu u1 (by simp)) λh1 tk1 hi1 hs1=>?_;refine Yje (s:={ s with heap:=h1,toks:=tk1 }) (hS.keep λo e=>by rw[hs1.2 S hIS];exact e) (by simp) (hu1.keep λo e=>by rw[hs1.2 u1 (hIu u1 (by simp))];exact e) (by simp) λh2' vs2 hs2 hn2 hp2 ho2=>?_;refine Yrd hh (ik hi1 λo e=>by rw[hs2.2 I (Ne.symm hIS)];exact e) (lk hl λo e=>by rw[hs2.2 l hlS,hs1.2 l hIl];exact e) rfl λh3 hs3=>?_;refine hR h3 tk1 _ (((ho2 rfl).keep λo e=>hs3 S o hIS e).vals (by simp)) (.refl _) λb o hb1 hb2 e=>hs3 b o hb2 (by rw[hs2.2 b hb1,hs1.2 b hb2];exact e)
  ·simp at hps
 ·rcases ps with _|⟨p1,_|⟨p2,_|⟨p3,pr⟩⟩⟩
  ·simp at hps
  ·simp at hps
  ·have hu1:=hp 0 u1 p1 rfl rfl
   have hu2:=hp 1 u2 p2 rfl rfl;have n1:=hIu u1 (by simp);have n2:=hIu u2 (by simp);have m2:=hSu u2 (by simp);refine Ypu hu hit hl rfl hu1 n1 λh1 tk1 hi1 hs1=>?_;refine Yje (s:={ s with heap:=h1,toks:=tk1 }) (hS.keep λo e=>by rw[hs1.2 S hIS];exact e) (by simp) (hu1.keep λo e=>by rw[hs1.2 u1 n1];exact e) (by simp) λh2' vs2 hs2 hn2 hp2 ho2=>?_
   have k2:∀b o,b≠S->b≠I->s.heap.get? b=some o->h2'.get? b=some o:=λb o hb1 hb2 e=>by rw[hs2.2 b hb1,hs1.2 b hb2];exact e
   refine Ypu (s:={ s with heap:=h2',toks:=tk1 }) hu (ik hi1 λo e=>by rw[hs2.2 I (Ne.symm hIS)];exact e) (lk hl λo e=>k2 l o hlS hIl e) rfl (hu2.keep λo e=>k2 u2 o m2 n2 e) n2 λh3 tk3 hi3 hs3=>?_
   have k3:∀b o,b≠S->b≠I->s.heap.get? b=some o->h3.get? b=some o:=λb o hb1 hb2 e=>by rw[hs3.2 b hb2];exact k2 b o hb1 hb2 e
   by_cases hpq:p1=p2
   ·subst hpq
    refine Yxm (s:={ s with heap:=h3,toks:=tk3 }) (v:=u1) (p:=p1) (by show _+1<cLine;lia) ((ho2 rfl).keep λo e=>by rw[hs3.2 S hIS];exact e) (hu1.keep λo e=>k3 u1 o (hSu u1 (by simp)) n1 e) (hu2.keep λo e=>k3 u2 o m2 n2 e) ?_;refine Yrd (s:={ s with heap:=h3,toks:=tk3 }) hh hi3 (lk hl λo e=>k3 l o hlS hIl e) rfl λh5 hs5=>?_;refine hR h5 tk3 _ (((ho2 rfl).keep λo e=>hs5 S o hIS (by rw[hs3.2 S hIS];exact e)).vals (by simp)) ?_ λb o hb1 hb2 e=>hs5 b o hb2 (k3 b o hb1 hb2 e);rw[oncE,if_pos rfl];exact .refl _
   ·have hdp:pH p1≠pH p2:=by
     rcases hd p1 p2 rfl with z|z
     ·exact absurd z hpq
     ·exact z
    refine Yje (s:={ s with heap:=h3,toks:=tk3 }) ((ho2 rfl).keep λo e=>by rw[hs3.2 S hIS];exact e) (by simp) (hu2.keep λo e=>k3 u2 o m2 n2 e) (λq hq=>?_) λh4 vs4 hs4 hn4 hp4 _=>?_
    ·simp only[List.mem_singleton]at hq
     rw[hq];exact hdp
    ·refine Yrd (s:={ s with heap:=h4,toks:=tk3 }) hh (ik hi3 λo e=>by rw[hs4.2 I (Ne.symm hIS)];exact e) (lk hl λo e=>by rw[hs4.2 l hlS];exact k3 l o hlS hIl e) rfl λh5 hs5=>?_
     refine hR h5 tk3 vs4 (hn4.at λo e=>hs5 S o hIS e) ?_ λb o hb1 hb2 e=>hs5 b o hb2 (by rw[hs4.2 b hb1];exact k3 b o hb1 hb2 e);rw[oncE,if_neg hpq];exact hp4
  ·simp at hps
 ·simp at h2
theorem Yjf{l:Addr}{us:List Addr}{ps:List (Int×Bool)}{Q:AB}(hh:A.handled=none)(hu:A.units+8<cLine)(hl:s.heap.IsList l (us.map Value.ref).toArray)(h2:us.length<=2)(hps:ps.length=us.length)
 (hp:∀(i:Nat) u p,us[i]?=some u->ps[i]?=some p->PairV s.heap u p) (hd:∀p q,ps=[p,q]->p=q\/pH p≠pH q)
 (h:∀(h':Heap) (tk:Nat) vs,SetV w h' (~~~s) vs->vs.Perm ((oncE us ps).map Value.ref)->(∀b o,s.heap.get? b=some o->h'.get? b=some o)->Q (.ref (~~~s)) { s with heap:=h',toks:=tk }) :
 wpAny (model prog w) A (call (.type "set") [.ref l]) Q E s:=by
 refine Ych (Q₁:=λobj s₁=>obj=.ref (~~~s)/\s₁={ s with heap:=s.heap.push (emS w) }) F.called_set (F.typeCall_set_1 _) F.entry_set_init (Yiy _ ⟨rfl,rfl⟩) ?_;rintro obj s₁ ⟨rfl,rfl⟩;have hS:(s.heap.push (emS w)).get? (~~~s)=some (emS w):=qo _ rfl
 have hT:Shared.TypeIs { s with heap:=s.heap.push (emS w) } (.ref (~~~s)) "set":=⟨_,hS,rfl⟩
 refine⟨hT,λA' E' Q' hq=>check_set_init_1 hT hq,?_⟩
 have hul:∀u∈us,u< ~~~s:=λu hm=>by
  obtain⟨i,hi,e⟩:=List.getElem_of_mem hm
  have hi':i<ps.length:=by lia
  obtain⟨o,_,_,ho,_⟩:=hp i u ps[i] (by rw[qp hi,e]) (qp hi');exact qk ho
 generalize hits:(us.map Value.ref).toArray=items at hl;obtain⟨ol,hol,hcl,nl,hdl⟩:=hl;obtain⟨ocls,odict,odata,oslots⟩:=ol;simp only at hcl hdl;subst hcl;subst hdl;have hol':(s.heap.push (emS w)).get? l=some { cls:=.type "list",dict:=odict,data:=.seq items nl,slots:=oslots }:=qd _ hol;have hsls:=F.sub_list_set;have hslf:=F.sub_list_frozenset
 have hne:(Value.type "list"==Value.type "dict")=false:=by decide
 have hl1:(s.heap.push (emS w)).IsList l items:=⟨_,hol',rfl,nl,rfl⟩
 unfold Builtin.«set.__init__» noKeywords Builtin.Frozenset.updateFrom;generalize hPI:pyIter=PI
 wp_walk
 subst hPI;refine wpAny_pyIter_list hl1 ?_;refine wa (wpAny_runValue ?_);have hlS:l< ~~~s:=qk hol;have hsz:(s.heap.push (emS w)).objs.size= ~~~s+1:=wx ..;have hol2:((s.heap.push (emS w)).push { cls:=.type "list_iterator",data:=.fields #[.ref l,.int 0 0] }).IsList l items:=hl1.push _;rw[<-hits]at hol2;refine Yuz (us:=us) (ps:=ps) (by simp[hh]) (by show _+2<cLine;simp;lia) ⟨_,qo _ rfl,rfl,rfl⟩ hol2 h2 hps (λi u p hi hp'=>(hp i u p hi hp').keep λo e=>qd _ (qd _ e)) hd ?_ ?_ ?_ ?_ ?_ ?_ ?_
 ·exact⟨emS w,#[],0,_,qd _ hS,⟨rfl,rfl,rfl⟩,rfl,rfl,rfl,rfl,rfl,rfl,.fresh⟩
 ·rw[hsz];exact ql (qv hlS)
 ·rw[hsz];exact ql (qy _)
 ·exact ql hlS
 ·intro u hm;rw[hsz];exact ql (qv (hul u hm))
 ·intro u hm;exact ql (hul u hm)
 ·intro h' tk vs hN hpm old
  show wpAny _ _ _ _ _ _;refine wc ?_;show wpAny _ _ (ret Value.none) _ _ _;refine wc ⟨rfl,h h' tk vs hN hpm λb o e=>?_⟩;have hb:=qk e;exact old b o (ql hb) (by rw[hsz];exact ql (qv hb)) (qd _ (qd _ e))
theorem Yzj{L:Addr}{vs:AD}{Q:Fin->Shared->Prop}(hoS:s.heap.get? L=some (seqObj "list" vs.toArray 0))(h2:vs.length<2)
 (hQ:∀h' e,(∀b o,b≠L->s.heap.get? b=some o->h'.get? b=some o)->h'.get? L=some (seqObj "list" vs.toArray e)->Q (.done (.ret .none)) { s with heap:=h' }) :
 wpAny (model prog w) A (Builtin.«list.sort» ⟨[.ref L],[]⟩) Q E s:=by
 rw[list_sort_plain];have ha:L< ~~~s:=qk hoS;refine wa (listItems_at hoS rfl ?_);refine wa (listUpdate_at hoS rfl ?_ (by rw[qj,jj];lia) (Qc _))
 obtain⟨e1,ho1⟩:∃e1,(s.heap.update L (Obj.mapSeq λ_=>#[])).get? L=some (seqObj "list" #[] e1):=⟨_,get?_update_seq hoS (λ_=>#[])⟩
 refine wa (seqEpoch_at ho1 rfl ?_);refine wa (wpAny_newTuple ?_ (by show vs.length<=_;rw[jj];lia));refine wa (wpAny_newList ?_ (Qc _));refine we ?_
 have ho6:(((s.heap.update L (Obj.mapSeq λ_=>#[])).push (seqObj "tuple" vs.toArray 0)).push (seqObj "list" #[] 0)).get? L=some (seqObj "list" #[] e1):=by
  rw[Heap.get?_push_ne _ _ _ (by rw[size_push',Heap.size_update];exact ql (qv ha)),Heap.get?_push_ne _ _ _ (by rw[Heap.size_update];exact ql ha)];exact ho1
 have keep6:∀b o,b≠L->s.heap.get? b=some o->(((s.heap.update L (Obj.mapSeq λ_=>#[])).push (seqObj "tuple" vs.toArray 0)).push (seqObj "list" #[] 0)).get? b=some o:=λb o hb q=>by
  refine qd _ (qd _ ?_);rw[Heap.get?_update_ne _ _ _ _ hb];exact q
 show wpAny (model prog w) _ _ _ _ { s with heap:=((s.heap.update L (Obj.mapSeq λ_=>#[])).push (seqObj "tuple" vs.toArray 0)).push (seqObj "list" #[] 0) };generalize ((s.heap.update L (Obj.mapSeq λ_=>#[])).push (seqObj "tuple" vs.toArray 0)).push (seqObj "list" #[] 0)=h6 at ho6 keep6 ⊢;dsimp only
 have hlt:vs.toArray.size<2:=by rw[qj];exact h2
 rw[if_pos hlt,if_pos hlt];refine wa (wc ?_);rw[StateT.run_pure];refine wa (wc ?_);dsimp only;refine wa (seqEpoch_at ho6 rfl ?_);refine wa (listUpdate_at ho6 rfl ?_ (hsz2:=by rw[Array.size_map];show(PyProof.Rows.pairsOf vs).size<=_;rw[pairsOf_size,jj];lia));simp only[bne_self_eq_false,Bool.false_eq_true,if_false]
 have hout:(arrOf (SortSt.mk' general' (vs.toArray.zip vs.toArray) #[] 7 none)).map (·.2)=vs.toArray:=by
  show(vs.toArray.zip vs.toArray).map (·.2)=vs.toArray;apply Array.toList_inj.mp;simp[List.map_snd_zip]
 refine wc ?_;rw[hout];exact hQ _ _ (λb o hb q=>by rw[Heap.get?_update_ne _ _ _ _ hb];exact keep6 b o hb q) (get?_update_seq ho6 (λ_=>vs.toArray))
theorem Yzk{L b c:Addr}{i j:Int}{p q:Bool}{t u:Tok}{Q:Fin->Shared->Prop}(hoS:s.heap.get? L=some (seqObj "list" #[.ref b,.ref c] 0))(hb:IsTup s.heap b #[.int i t,.bool p])(hc:IsTup s.heap c #[.int j u,.bool q])(hbL:b≠L)(hcL:c≠L)
 (hQ:∀h' e,(∀b o,b≠L->s.heap.get? b=some o->h'.get? b=some o)->h'.get? L=some (seqObj "list" (if plt j q i p=true then #[.ref c,.ref b]else #[.ref b,.ref c]) e)->Q (.done (.ret .none)) { s with heap:=h' }) :
 wpAny (model prog w) A (Builtin.«list.sort» ⟨[.ref L],[]⟩) Q E s:=by
 obtain⟨vs,hvs⟩:∃vs,[Value.ref b,Value.ref c]=vs:=⟨_,rfl⟩
 have hlen:vs.length=2:=by rw[<-hvs];rfl
 have hoS:s.heap.get? L=some (seqObj "list" vs.toArray 0):=by rw[<-hvs];exact hoS
 rw[list_sort_plain];have ha:L< ~~~s:=qk hoS;refine wa (listItems_at hoS rfl ?_);refine wa (listUpdate_at hoS rfl ?_ (by rw[qj,jj];lia) (Qc _))
 obtain⟨e1,ho1⟩:∃e1,(s.heap.update L (Obj.mapSeq λ_=>#[])).get? L=some (seqObj "list" #[] e1):=⟨_,get?_update_seq hoS (λ_=>#[])⟩
 refine wa (seqEpoch_at ho1 rfl ?_);refine wa (wpAny_newTuple ?_ (by show vs.length<=_;rw[jj];lia));refine wa (wpAny_newList ?_ (Qc _));refine we ?_
 have ho6:(((s.heap.update L (Obj.mapSeq λ_=>#[])).push (seqObj "tuple" vs.toArray 0)).push (seqObj "list" #[] 0)).get? L=some (seqObj "list" #[] e1):=by
  rw[Heap.get?_push_ne _ _ _ (by rw[size_push',Heap.size_update];exact ql (qv ha)),Heap.get?_push_ne _ _ _ (by rw[Heap.size_update];exact ql ha)];exact ho1
 have keep6:∀b o,b≠L->s.heap.get? b=some o->(((s.heap.update L (Obj.mapSeq λ_=>#[])).push (seqObj "tuple" vs.toArray 0)).push (seqObj "list" #[] 0)).get? b=some o:=λb o hb q=>by
  refine qd _ (qd _ ?_);rw[Heap.get?_update_ne _ _ _ _ hb];exact q
 show wpAny (model prog w) _ _ _ _ { s with heap:=((s.heap.update L (Obj.mapSeq λ_=>#[])).push (seqObj "tuple" vs.toArray 0)).push (seqObj "list" #[] 0) };generalize ((s.heap.update L (Obj.mapSeq λ_=>#[])).push (seqObj "tuple" vs.toArray 0)).push (seqObj "list" #[] 0)=h6 at ho6 keep6 ⊢;generalize hS6:({ s with heap:=h6 }:Shared)=S6
 have ho7:S6.heap.get? L=some (seqObj "list" #[] e1):=by rw[<-hS6];exact ho6
 have tb:IsTup S6.heap b #[.int i t,.bool p]:=by
  obtain⟨o,a1,a2⟩:=hb;exact⟨o,by rw[<-hS6];exact keep6 b o hbL a1,a2⟩
 have tc:IsTup S6.heap c #[.int j u,.bool q]:=by
  obtain⟨o,a1,a2⟩:=hc;exact⟨o,by rw[<-hS6];exact keep6 c o hcL a1,a2⟩
 dsimp only
 have hn2:¬vs.toArray.size<2:=by rw[qj];lia
 rw[if_neg hn2,if_neg hn2]
 have kt:W.KatTups S6.heap vs [.int i t,.int j u]:=by
  obtain⟨ob,b1,b2,n1,b3⟩:=tb;obtain⟨oc,c1,c2,n2,c3⟩:=tc;rw[<-hvs];exact .cons b1 b2 b3 rfl (.cons c1 c2 c3 rfl .nil)
 refine wa (W.kat_kind (T:=.type "int") kt (qv (qy 0)) (λv hv=>?_) (by decide) ?_)
 ·rcases qr hv with rfl|hv
  ·exact .of_pure rfl
  ·rcases qr hv with rfl|hv
   ·exact .of_pure rfl
   ·cases hv
 have hcmp:wpAny (model prog w) A (keyLt' (tuples' true) (vs.getD 1 Value.none) (vs.getD 0 Value.none)) (λk s'=>k=plt j q i p/\s'=S6) (λ_ _=>False) S6:=by
  rw[<-hvs];exact y1g tb tc ⟨rfl,rfl⟩
 refine wa (w6 (W.kat_run (ks:=vs) (vs:=vs) (κ:=tuples' true) (G:=λpm s'=>s'=S6/\pm=if plt j q i p=true then #[1,0]else #[0,1])
  (Q:=λst' s'=>s'=S6/\failedOf st'=none/\(arrOf st').map (·.2)=if plt j q i p=true then #[.ref c,.ref b]else #[.ref b,.ref c]) rfl (by lia) (by lia) (λpm st' s' a1 a2 a3 a4=>?_) ?_) ?_ λ_ _ e=>e)
 ·obtain⟨rfl,rfl⟩:=a4
  refine⟨rfl,a3,?_⟩;rw[W.kat_snds rfl a2,<-hvs];cases plt j q i p<;>rfl
 ·rw[hlen]
  refine Ysf ?_;refine w6 hcmp (λk s' hk=>?_) λ_ _ x=>x;obtain⟨rfl,rfl⟩:=hk;cases plt j q i p
  ·exact⟨rfl,rfl⟩
  ·exact⟨rfl,rfl⟩
 rintro⟨⟨⟩,st'⟩ s' ⟨rfl,hf,hout⟩;dsimp only;refine wa (seqEpoch_at ho7 rfl ?_);refine wa (listUpdate_at ho7 rfl ?_ (Qc _) (by rw[hout,jj];cases plt j q i p<;>exact(by decide:2<=16777216+1)));rw[hf];simp only[bne_self_eq_false,Bool.false_eq_true,if_false];refine wc ?_;rw[hout];have hfin:=get?_update_seq ho7 (λ_=>if plt j q i p=true then #[Value.ref c,Value.ref b]else #[Value.ref b,Value.ref c]);subst hS6;exact hQ _ _ (λb o hb q=>by rw[Heap.get?_update_ne _ _ _ _ hb];exact keep6 b o hb q) hfin
def srtA:List Addr->List (Int×Bool)->List Addr
 | [u1,u2],[p1,p2]=>if plt p2.1 p2.2 p1.1 p1.2=true then [u2,u1]else [u1,u2]
 | us,_=>us
theorem Yu0{p1 p2:Int×Bool}(h:p1≠p2):plt p1.1 p1.2 p2.1 p2.2=!plt p2.1 p2.2 p1.1 p1.2:=by
 obtain⟨i,b⟩:=p1;obtain⟨j,c⟩:=p2;unfold plt;dsimp only;by_cases e:i=j
 ·subst e
  have hbc:b≠c:=λz=>h (by rw[z]);rw[if_pos rfl,if_pos rfl]
  cases b<;>cases c<;>first|rfl|exact absurd rfl hbc
 ·rw[if_neg e,if_neg (λz=>e z.symm)]
  by_cases h1:i<j
  ·have h2:¬j<i:=by lia
   simp[h1,h2]
  ·have h2:j<i:=by lia
   simp[h1,h2]
theorem PairV.tup{h:Heap}{u:Addr}{p:Int×Bool}(x:PairV h u p):∃tk,IsTup h u #[.int p.1 tk,.bool p.2]:=by
 obtain⟨o,tk,n,h1,h2,h3⟩:=x;exact⟨tk,o,h1,h2,n,h3⟩
theorem Ymf{L:Addr}{acc:AD}{us:List Addr}{ps:List (Int×Bool)}{Q:Fin->Shared->Prop}(hoS:s.heap.get? L=some (seqObj "list" acc.toArray 0))(hpm:acc.Perm (us.map Value.ref))(h2:us.length<=2)(hps:ps.length=us.length)
 (hp:∀(i:Nat) u p,us[i]?=some u->ps[i]?=some p->PairV s.heap u p) (hne:∀p q,ps=[p,q]->p≠q) (hL:∀u∈us,u≠L)
 (hQ:∀h' e,(∀b o,b≠L->s.heap.get? b=some o->h'.get? b=some o)->h'.get? L=some (seqObj "list" ((srtA us ps).map Value.ref).toArray e)->Q (.done (.ret .none)) { s with heap:=h' }) :
 wpAny (model prog w) A (Builtin.«list.sort» ⟨[.ref L],[]⟩) Q E s:=by
 rcases us with _|⟨u1,_|⟨u2,_|⟨u3,ur⟩⟩⟩
 ·have e:acc=[]:=List.perm_nil.mp hpm
  subst e;refine Yzj hoS (by simp) λh' e k1 k2=>hQ h' e k1 ?_;rw[k2];rfl
 ·have e:acc=[.ref u1]:=List.perm_singleton.mp hpm
  subst e;refine Yzj hoS (by simp) λh' e k1 k2=>hQ h' e k1 ?_;rw[k2];rfl
 ·rcases ps with _|⟨p1,_|⟨p2,_|⟨p3,pr⟩⟩⟩
  ·simp at hps
  ·simp at hps
  ·obtain⟨t1,hb1⟩:=(hp 0 u1 p1 rfl rfl).tup
   obtain⟨t2,hb2⟩:=(hp 1 u2 p2 rfl rfl).tup;have n1:=hL u1 (by simp);have n2:=hL u2 (by simp);have hpq:=hne p1 p2 rfl
   have hacc:acc=[.ref u1,.ref u2]\/acc=[.ref u2,.ref u1]:=by
    have hl:acc.length=2:=hpm.length_eq
    obtain⟨x,y,rfl⟩:∃x y,acc=[x,y]:=by
     rcases acc with _|⟨x,_|⟨y,_|⟨z,r⟩⟩⟩
     ·simp at hl
     ·simp at hl
     ·exact⟨x,y,rfl⟩
     ·simp at hl
    have hx:x∈[Value.ref u1,Value.ref u2]:=hpm.mem_iff.mp (by simp);simp only[List.mem_cons,List.not_mem_nil,or_false]at hx;rcases hx with rfl|rfl
    ·left
     have:=hpm.cons_inv;rw[List.perm_singleton.mp this]
    ·right
     have h3:[Value.ref u2,y].Perm [Value.ref u2,Value.ref u1]:=hpm.trans (.swap _ _ _);have:=h3.cons_inv;rw[List.perm_singleton.mp this]
   rcases hacc with rfl|rfl
   ·refine Yzk hoS hb1 hb2 n1 n2 λh' e k1 k2=>hQ h' e k1 ?_
    rw[k2,srtA];cases plt p2.1 p2.2 p1.1 p1.2<;>rfl
   ·refine Yzk hoS hb2 hb1 n2 n1 λh' e k1 k2=>hQ h' e k1 ?_
    rw[k2,srtA,Yu0 hpq];cases plt p2.1 p2.2 p1.1 p1.2<;>rfl
  ·simp at hps
 ·simp at h2
theorem Ypw{a:Addr}{vs:AD}{us:List Addr}{ps:List (Int×Bool)}(hh:A.handled=none)(hS:SetV w s.heap a vs)(hpm:vs.Perm (us.map Value.ref))(h2:us.length<=2)(hps:ps.length=us.length)
 (hp:∀(i:Nat) u p,us[i]?=some u->ps[i]?=some p->PairV s.heap u p) (hne:∀p q,ps=[p,q]->p≠q) {Q:AB}
 (hQ:∀(h':Heap) (d':Drawn) (tk e:Nat) (p:Addr),(∀b o,s.heap.get? b=some o->h'.get? b=some o)->(~~~s)<=p->h'.get? p=some (seqObj "list" ((srtA us ps).map Value.ref).toArray e)->Q (.ref p) { s with heap:=h',drawn:=d',toks:=tk }) :
 wpAny (model prog w) A (call (.builtin "sorted") [.ref a]) Q E s:=by
 refine Calls.call_function_entry kind_sorted plain_sorted entry_sorted (args_sorted1 _) ?_;unfold Builtin.«sorted»;refine wa (m:=checkCount "sorted" 1 1 _) (wc ?_);refine wa (Yoh (A:=A.in1) hh hS λh' d' tk acc hle keep hp'=>?_);have hpa:=hp'.trans hpm
 have hl:acc.length<=2:=by rw[hpa.length_eq,qe];exact h2
 refine wa (wpAny_newList ?_ (by rw[jj];lia));have hoL:(h'.push (seqObj "list" acc.toArray 0)).get? h'.objs.size=some (seqObj "list" acc.toArray 0):=qo _ rfl;show wpAny _ _ _ _ _ { s with heap:=h'.push (seqObj "list" acc.toArray 0),drawn:=d',toks:=tk }
 have hul:∀u∈us,u< ~~~s:=λu hm=>by
  obtain⟨i,hi,e⟩:=List.getElem_of_mem hm
  have hi':i<ps.length:=by lia
  obtain⟨o,_,_,ho,_⟩:=hp i u ps[i] (by rw[qp hi,e]) (qp hi');exact qk ho
 refine wa (we (wf slot_list_sort ⟨_,hoL,rfl⟩ entry_list_sort (Ymf (us:=us) (ps:=ps) (s:={ s with heap:=h'.push (seqObj "list" acc.toArray 0),drawn:=d',toks:=tk }) hoL hpa h2 hps (λi u p hi hi'=>(hp i u p hi hi').keep λo e=>qd _ (keep u o e)) hne (λu hm=>ql (Qb (hul u hm) hle)) λh2' e k1 k2=>⟨_,rfl,?_⟩) (args_list_sort _)));refine wc ⟨_,rfl,hQ h2' d' tk e h'.objs.size (λb o eb=>?_) hle k2⟩;have hb:=qk (keep b o eb);exact k1 b o (ql hb) (qd _ (keep b o eb))
end
end
section
set_option maxRecDepth 100000
def prsD:AQ->Option (List (Int×Bool))
 | []=>some []
 | d::l=>(prI d).bind λx=>(prsD l).map (x::·)
theorem y47{K:W.Frag}{G:Hp}{d:D}{p:Int×Bool}{x:V}(h:prI d=some p)(rx:Rp K G d x):∃b,x=.ref b/\G b=some (.tup [.int p.1,.bl p.2]):=by
 rw[Yxg h,Rp]at rx;obtain⟨b,ys,rfl,hb,ry⟩:=rx;rw[RpL]at ry;obtain⟨y1,yr,rfl,r1,ry⟩:=ry;rw[RpL]at ry;obtain⟨y2,yr,rfl,r2,ry⟩:=ry;rw[RpL]at ry;subst ry;rw[Rp]at r1;rw[Rp]at r2;subst r1;subst r2;exact⟨b,rfl,hb⟩
theorem Yu1{d:D}{l:AQ}{ps:List (Int×Bool)}(e:prsD (d::l)=some ps):∃p ps',ps=p::ps'/\prI d=some p/\prsD l=some ps':=by
 obtain⟨x,h1,h2⟩:=qa e;obtain⟨y,h3,h4⟩:=qb h2;exact⟨x,y,h4.symm,h1,h3⟩
end
section
def setW(w:World)(p:Addr)(vs:AD):HO:=.ext λh=>SetV w h p vs
theorem y1q{P:Program}{w:World}{H:Hp}{h:Heap}{p:Addr}{vs:AD}(x:SetV w h p vs):ObjOk P w H h p (setW w p vs):=by
 refine⟨x,?_,λh1 h2 e k=>e.at k⟩;obtain⟨o,_,_,_,ho,_⟩:=x;exact⟨o,ho⟩
def PrsA(H:Hp)(bs:List Addr)(qs:List (Int×Bool)):Prop:=qs.length=bs.length/\∀(i:Nat) b q,bs[i]?=some b->qs[i]?=some q->H b=some (.tup [.int q.1,.bl q.2])
def oncP:List (Int×Bool)->List (Int×Bool)
 | [p1,p2]=>if p1=p2 then [p1]else [p1,p2]
 | ps=>ps
theorem PrsA.once{H:Hp}{bs:List Addr}{qs:List (Int×Bool)}(x:PrsA H bs qs)(h2:qs.length<=2):PrsA H (oncE bs qs) (oncP qs)/\(oncE bs qs).length<=2/\∀p q,oncP qs=[p,q]->p≠q:=by
 obtain⟨hl,hx⟩:=x;rcases qs with _|⟨p1,_|⟨p2,_|⟨p3,pr⟩⟩⟩
 ·rcases bs with _|⟨b1,br⟩
  ·exact⟨⟨rfl,λi b q h=>by simp[oncE]at h⟩,by simp[oncE],λp q z=>by simp[oncP]at z⟩
  ·simp at hl
 ·rcases bs with _|⟨b1,_|⟨b2,br⟩⟩
  ·simp at hl
  ·exact⟨⟨rfl,hx⟩,by simp[oncE],λp q z=>by simp[oncP]at z⟩
  ·simp at hl
 ·rcases bs with _|⟨b1,_|⟨b2,_|⟨b3,br⟩⟩⟩
  ·simp at hl
  ·simp at hl
  ·by_cases e:p1=p2
   ·subst e
    simp only[oncE,oncP,if_true];refine⟨⟨rfl,λi b q hb hq=>?_⟩,by simp,λp q z=>by simp at z⟩
    cases i with
    | zero=>exact hx 0 b q hb hq
    | succ i=>simp at hb
   ·simp only[oncE,oncP,if_neg e]
    refine⟨⟨rfl,hx⟩,by simp,λp q z=>?_⟩;simp at z;rw[<-z.1,<-z.2];exact e
  ·simp at hl
 ·simp at h2
def y7f(K:W.Frag)(w:World):AN->Hp->VK->Prop:=λxs H Q=>∃a bs qs,xs=[.ref a]/\SqL K H a (bs.map V.ref)/\PrsA H bs qs/\qs.length<=2/\(∀p q,qs=[p,q]->p=q\/pH p≠pH q)/\
 ∀p vs,H p=none->vs.Perm ((oncE bs qs).map Value.ref)->Q (.ref p) (upd H p (setW w p vs))
def y48(w:World):AN->Hp->VK->Prop:=λxs H Q=>∃a vs bs qs,xs=[.ref a]/\H a=some (setW w a vs)/\vs.Perm (bs.map Value.ref)/\PrsA H bs qs/\bs.length<=2/\(∀p q,qs=[p,q]->p≠q)/\
 ∀p,H p=none->Q (.ref p) (upd H p (.lst ((srtA bs qs).map V.ref)))
section
variable {X:Cx}
theorem Yu2{pins:AC}{s:Shared}{σ:L2.St}{H:Hp}(I:Inv X pins σ H s){bs:List Addr}{qs:List (Int×Bool)}(x:PrsA H bs qs)(i:Nat)(u:Addr)(p:Int×Bool)(hu:bs[i]?=some u)(hp:qs[i]?=some p):PairV s.heap u p:=by
 obtain⟨its2,rv,⟨o,e,hc,n,hd⟩,_⟩:=I.tuple (xs:=[.int p.1,.bl p.2]) (.of (x.2 i u p hu hp))
 cases rv with
 | cons ra rb=>
   cases rb with
   | cons rc rd=>
     cases rd;obtain⟨t,rfl⟩:=ra;cases rc;exact⟨o,t,n,e,hc,hd⟩
theorem Yoi:∀{bs:List Addr}{its:AD},Vals (bs.map V.ref) its->its=bs.map Value.ref
 | [],_,r=>by cases r;rfl
 | b::bs,_,r=>by
   cases r with
   | cons r1 r2=>
     cases r1;rw[Yoi r2];rfl
theorem Yoj:∀bs:List Addr,Vals (bs.map V.ref) (bs.map Value.ref)
 | []=>.nil
 | b::bs=>.cons rfl (Yoj bs)
theorem Yu3(hc:X.calm=true)(hu:X.A.units+64<cLine):Ydu X (.type "set") (y7f X.K X.w):=by
 intro pins s σ H xs us Q I r h;obtain⟨a,bs,qs,rfl,hq,hpr,h2,hd,q⟩:=h;obtain⟨u,rfl,rx⟩:=Yia r;cases rx;have hh:X.A.handled=none:=I.ok.hd hc;obtain⟨its,rv,pl,hz⟩:=I.list hq;cases Yoi rv;refine Yjf hh (by lia) pl.isList (by rw[<-hpr.1];exact h2) hpr.1 (Yu2 I hpr) hd λh' tk vs hS hpm hk=>?_;exact⟨.ref (~~~s),_,I.laid (t':=tk) hk (qt _) (y1q hS),rfl,q _ vs (I.hok.fresh (qt _)) hpm⟩
theorem Yso(hc:X.calm=true):Ydu X (.builtin "sorted") (y48 X.w):=by
 intro pins s σ H xs us Q I r h;obtain⟨a,vs,bs,qs,rfl,ha,hpm,hpr,h2,hne,q⟩:=h;obtain⟨u,rfl,rx⟩:=Yia r;cases rx;have hh:X.A.handled=none:=I.ok.hd hc;have hS:SetV X.w s.heap a vs:=(show ObjOk X.prog X.w H s.heap a (setW X.w a vs) from I.hok a _ ha).1;refine Ypw hh hS hpm h2 hpr.1 (Yu2 I hpr) hne λh' d' tk e p keep hp he=>?_;refine⟨.ref p,_,Inv.laid (t':=tk) (I.dr d') keep hp (show ObjOk X.prog X.w _ _ _ (.lst ((srtA bs qs).map V.ref)) from⟨?_,_,e,Yoj _,he⟩),rfl,q _ (I.hok.fresh hp)⟩
 have:(srtA bs qs).length<=2:=by
  unfold srtA
  split
  ·split<;>simp
  ·exact h2
 rw[qe,jj];lia
end
def Ymg(l:AQ):Option AQ:=(prsD l).bind λps=>match l,ps with
 | [],[]=>some []
 | [d],[_]=>some [d]
 | [d1,d2],[p1,p2]=>if p1=p2 then some [d1]else if pH p1≠pH p2 then some (if plt p2.1 p2.2 p1.1 p1.2=true then [d2,d1]else [d1,d2])else none
 | _,_=>none
theorem Yu4{K:W.Frag}{G H:Hp}(s:Same G H):∀{l:AQ}{ps:List (Int×Bool)}{xs:AN},prsD l=some ps->RpL K G l xs->∃bs,xs=bs.map V.ref/\PrsA H bs ps
 | [],ps,xs,e,r=>by
   rw[prsD]at e;cases e;rw[RpL]at r;subst r;exact⟨[],rfl,rfl,λi b q h=>by simp at h⟩
 | d::l,ps,xs,e,r=>by
   obtain⟨p,ps',rfl,h0,h1⟩:=Yu1 e;rw[RpL]at r;obtain⟨x,xr,rfl,rx,rr⟩:=r;obtain⟨bs,rfl,hl,hx⟩:=Yu4 s h1 rr;obtain⟨b,rfl,hb⟩:=y47 h0 rx;refine⟨b::bs,rfl,by simp[hl],λj c q hc hq=>?_⟩
   cases j with
   | zero=>
     simp at hc hq;subst hc hq;exact s _ _ hb
   | succ j=>exact hx j c q (by simpa using hc) (by simpa using hq)
theorem Yxn{K:W.Frag}{G:Hp}{l l':AQ}{bs:List Addr}{ps:List (Int×Bool)}(h:Ymg l=some l')(hps:prsD l=some ps)(r:RpL K G l (bs.map V.ref)) :
 ps.length<=2/\(∀p q,ps=[p,q]->p=q\/pH p≠pH q)/\RpL K G l' ((srtA (oncE bs ps) (oncP ps)).map V.ref):=by
 unfold Ymg at h;rw[hps,qc]at h
 split at h
 ·cases h
  rcases bs with _|⟨b1,br⟩
  ·exact⟨by simp,λp q z=>by simp at z,r⟩
  ·have:=r.length
   simp at this
 ·rename_i d p1
  cases h;rcases bs with _|⟨b1,_|⟨b2,br⟩⟩
  ·have:=r.length
   simp at this
  ·exact⟨by simp,λp q z=>by simp at z,r⟩
  ·have:=r.length
   simp at this
 ·rename_i d1 d2 p1 p2
  rcases bs with _|⟨b1,_|⟨b2,_|⟨b3,br⟩⟩⟩
  ·have:=r.length
   simp at this
  ·have:=r.length
   simp at this
  ·have r0:=r
   rw[q0,q0,List.map_nil,RpL]at r0;obtain⟨x1,xr,e1,ra,r0⟩:=r0;rw[RpL]at r0;obtain⟨x2,xr2,e2,rb,r0⟩:=r0;cases e1;cases e2;by_cases e:p1=p2
   ·rw[if_pos e]at h
    cases h;refine⟨by simp,λp q z=>?_,?_⟩
    ·simp at z
     exact .inl (by rw[<-z.1,<-z.2];exact e)
    ·simp only[oncE,oncP,if_pos e,srtA]
     exact .one ra
   ·rw[if_neg e]at h
    split at h
    case isFalse=>cases h
    rename_i hd;cases h;refine⟨by simp,λp q z=>?_,?_⟩
    ·simp at z
     exact .inr (by rw[<-z.1,<-z.2];exact hd)
    ·simp only[oncE,oncP,if_neg e,srtA]
     split
     ·exact .cons rb (.one ra)
     ·exact .cons ra (.one rb)
  ·have:=r.length
   simp at this
 ·cases h
section
variable {X:Cx}{e:Expr}{f:AV}{p p2 pos pos2:Pos}
def lstL:D->Option AQ
 | .lst l=>some l
 | _=>none
def Ygv(f:AV):AW:=λρ=>(b1 f lstL ρ).bind Ymg
@[simp] theorem ap_sortsetP{ρ:Ro}:Ygv f ρ=((f ρ).bind lstL).bind Ymg:=nr0 rfl
@[simp] theorem lstL_lst(l:AQ):lstL (.lst l)=some l:=nr0 rfl
end
end
section
set_option maxRecDepth 100000
def advM(mask:Nat)(p:SetTable.Probe):SetTable.Probe:=SetTable.advance { mask:=mask,place:=#[],dummies:=#[],finger:=0,led:=false,moves:=0,plain:=false } p
def itP(mask:Nat):Nat->SetTable.Probe->SetTable.Probe
 | 0,p=>p
 | k+1,p=>itP mask k (advM mask p)
def stP(mask i perturb:Nat):SetTable.Probe:={ j:=i,more:=SetTable.runEnd mask i-i,i,perturb,dummy:=none }
def Way(mask:Nat)(occ:Nat->Prop)(p:SetTable.Probe)(j:Nat):Prop:=∃k,(itP mask k p).j=j/\∀m,m<k->occ (itP mask m p).j
abbrev hSt(mask:Nat)(h:Int):SetTable.Probe:=stP mask (SetTable.bits h%(mask+1)) (SetTable.bits h)
section
variable {t:SetTable}{hA:Nat->Int}{h:Int}
structure Clean(t:SetTable)(n:Nat):Prop where
 hs:t.mask+1∈y7e
 dm:t.dummies=#[]
 rise:Rise t.place
 le:∀j∈t.place.toList,j<=t.mask
 sz:t.place.size=n
 room:n<=t.mask
end
end
section
set_option maxRecDepth 100000
def bI(b:Bool):Int:=if b then 1 else 0
def bH(bs:AH):Int:=y0u (bs.map bI)
def TupB(h:Heap)(u:Addr)(bs:AH):Prop:=bs.length<=4/\∃o n,h.get? u=some o/\o.cls=.type "tuple"/\o.data=.seq (bs.map Value.bool).toArray n
structure SetB(w:World)(h:Heap)(S:Addr)(us:List (Addr×AH)):Prop where
 ex:∃o es ep t,h.get? S=some o/\o.ExactSet/\o.data=.set es ep t/\es.toList.Perm (us.map λu=>(bH u.2,Value.ref u.1))/\t.fits es.size=true/\Clean t es.size/\Tab (byT w) t/\es.size*5<t.mask*3/\∀q∈es.toList.zip t.place.toList,Way t.mask (·∈t.place.toList) (hSt t.mask q.1.1) q.2
 keys:(us.map (·.2)).Nodup
 tups:∀u∈us,TupB h u.1 u.2
 few:us.length<=24
end
section
set_option maxRecDepth 100000
section
variable {n:Nat}{key:Nat->Nat}{cmp:Nat->Nat->(Bool->Shared->Prop)->Shared->Prop}{s:Shared}
variable (hinj:∀i j,i<n->j<n->key i=key j->i=j) (hc:∀i j (C:Bool->Shared->Prop),i<n->j<n->C (decide (key i<key j)) s->cmp i j C s)
include hinj hc
omit hinj hc in
omit hinj hc in
omit hinj hc in
end
end
section
section
variable {X:Cx}{e:Expr}{f:AV}{p p2 pos pos2:Pos}
def sExp(f:AV):AS:=λρ=>(f ρ).map λ_=>.nx ρ
@[simp] theorem y1r{ρ:Ro}:sExp f ρ=(f ρ).map λ_=>.nx ρ:=nr0 rfl
end
end
section
set_option maxRecDepth 100000
end
section
structure ZE(X:Cx)(e:Expr)(f:AV):Prop where
 un:ME X e f
structure ZC(X:Cx)(e:Expr)(f:AV):Prop where
 un:MC X e f
structure ZCA(X:Cx)(es:AL)(f:AW):Prop where
 un:MCA X es f
structure ZF(X:Cx)(e:Expr)(f:AW):Prop where
 un:MF X e f
structure ZT(X:Cx)(e:Expr)(f:AU):Prop where
 un:MT X e f
structure ZW(X:Cx)(e:Expr)(f:AU):Prop where
 un:MW X e f
structure ZA(X:Cx)(es:AL)(f:AW):Prop where
 un:MA X es f
structure ZI(X:Cx)(tg iter:Expr)(f:AW):Prop where
 un:MI X tg iter f
structure ZS(X:Cx)(st:Stmt)(f:AS):Prop where
 un:MS X st f
structure ZB(X:Cx)(sts:List Stmt)(f:AS):Prop where
 un:MB X sts f
structure ZG(X:Cx)(tg:Expr)(gt:AT):Prop where
 un:MG X tg gt
structure ZIfs(X:Cx)(K:W.Frag)(ifs:AL)(f:AU):Prop where
 un:PIfs X ifs (tTof K f)
structure ZO(X:Cx)(e:Option Expr)(f:Option AV):Prop where
 un:PO X e (tO X.K f)
structure ZP(X:Cx)(pos:Pos)(keys:List (Option Expr))(values:AL)(ks:AK)(fs:List AV):Prop where
 un:MP X pos keys values ks fs
section
variable {K:W.Frag}{X:Cx}{H0 G0 H G:Hp}{σ:L2.St}{ρ:Ro}{a b c e:Expr}{es:AL}{fa fb fc f:AV}{ga:AW}{pos:Pos}
theorem Yc{e:Expr}{f:AV}(h:ZE X e f):ZC X e f:=⟨ME.mc h.un⟩
theorem Ye(i:Nat){x:Str}(hN:X.N[i]?=some x:=by rfl)(hv:Vis X.env.scope x:=by trivial)(hd:Ndb x:=by decide)(hcd:Ncd x:=by decide):ZE X (.Name x pos) (getV i):=⟨
 PE.imp (Yeo hN hv hd hcd) λσ H Q hx_=>by
  obtain⟨ρ,d,H0,G0,G,e,s,h⟩:=hx_;obtain⟨v,h1,h2⟩:=s.sh i d (Ytx e)
  exact⟨v,h1,h v H G (.refl s.seen) h2⟩⟩
theorem Yd(i:Nat){x:Str}(hN:X.N[i]?=some x:=by rfl)(hv:Vis X.env.scope x:=by trivial)(hd:Ndb x:=by decide)(hcd:Ncd x:=by decide):ZC X (.Name x pos) (getC i):=⟨
 PE.imp (Yeo hN hv hd hcd) λσ H Q hx_=>by
  obtain⟨ρ,d,H0,G0,G,e,s,h⟩:=hx_;unfold getC at e
  split at e
  ·rename_i d' hd'
   cases e;obtain⟨v,h1,h2⟩:=s.sh i _ hd';exact⟨v,h1,h v H G (.refl s.seen) (.of s.seen h2)⟩
  ·rename_i l hl
   cases e;obtain⟨a,xs,h1,h2,h3,h4,h5⟩:=s.ow i l hl;exact⟨_,h1,h _ H G (.refl s.seen) (by rw[Ct];exact⟨a,xs,rfl,.inl h4,h5⟩)⟩
  ·rename_i t ks vs hl
   cases e;obtain⟨a,kxs,vxs,h1,h2,h3,h4,h5⟩:=s.od i t ks vs hl;exact⟨_,h1,h _ H G (.refl s.seen) (by rw[Ct];exact⟨a,kxs,vxs,rfl,h4,h5⟩)⟩
  ·cases e⟩
theorem Yh{i:Int}{j}:ZE X (.Constant (.int i) j pos) (kD (.int i)):=⟨y3x ⟩
theorem Ycp{k:Bool}{j}:ZE X (.Constant (.bool k) j pos) (kD (.bl k)):=⟨y6w ⟩
theorem Ybd{j}:ZE X (.Constant .none j pos) (kD .non):=⟨y3y ⟩
theorem Yag{x:Str}{j}(hx:PyData.strOk x=true:=by decide +kernel):ZE X (.Constant (.str x) j pos) (kD (.str x)):=⟨Ygp (v:=.str x) Yy0 (λ_ _ _ q=>q) λ_=>by rw[Rp];exact⟨rfl,hx⟩⟩
theorem Ypy(ha:ZC X a fa)(hb:ZC X b fb):ZE X (.BinOp a .Sub b pos) (b2 fa fb subI):=⟨have ha:=ha.un;have hb:=hb.un;Ylf y3a Yty ha hb⟩
theorem y1t(ha:ZC X a fa)(hb:ZC X b fb):ZE X (.BinOp a .Mult b pos) (b2 fa fb mulI):=⟨have ha:=ha.un;have hb:=hb.un;Ylf y3b (Yq7 λi j h=>by
 simp only[Bool.or_eq_true,Qf,wm]at h
 exact h) ha hb⟩
theorem Ye1(ha:ZC X a fa)(hb:ZC X b fb):ZE X (.BinOp a .FloorDiv b pos) (b2 fa fb divI):=⟨have ha:=ha.un;have hb:=hb.un;Ylf Yz8 (Yq7 λi j h=>by
 simp only[Qf,wm]at h
 exact h) ha hb⟩
theorem Ya4(ha:ZC X a fa)(hb:ZC X b fb):ZE X (.BinOp a .Mod b pos) (b2 fa fb modI):=⟨have ha:=ha.un;have hb:=hb.un;Ylf y3c (Yq7 λi j h=>of_decide_eq_true h) ha hb⟩
theorem Yu5(ha:ZC X a fa)(hb:ZC X b fb):ZE X (.Compare a [.Lt] [b] pos) (mB (b2 fa fb ltI)):=⟨have ha:=ha.un;have hb:=hb.un;Yn3 y3f Yl9 ha hb (Ydv _)⟩
theorem y49(ha:ZC X a fa)(hb:ZC X b fb):ZE X (.Compare a [.GtE] [b] pos) (mB (b2 fa fb geI)):=⟨have ha:=ha.un;have hb:=hb.un;Yn3 y6o Yl9 ha hb (Ydv _)⟩
theorem y5a(ha:ZC X a fa)(hb:ZC X b fb):ZT X (.Compare a [.Lt] [b] pos) (b2 fa fb ltI):=⟨have ha:=ha.un;have hb:=hb.un;Yh5 y3f Yl9 ha hb (Ydv _)⟩
theorem Yzl(ha:ZC X a fa)(hb:ZC X b fb):ZT X (.Compare a [.Gt] [b] pos) (b2 fa fb gtI):=⟨have ha:=ha.un;have hb:=hb.un;Yh5 y6n Yl9 ha hb (Ydv _)⟩
theorem Ybu(hu:X.A.units+64<cLine)(ha:ZC X a fa)(hb:ZC X b fb):ZE X (.Compare a [.Eq] [b] pos) (mB (b2 fa fb (eqM false))):=⟨have ha:=ha.un;have hb:=hb.un;Yn3 (Yzd hu) Yma ha hb (Ydv _)⟩
theorem y5b(hu:X.A.units+64<cLine)(ha:ZC X a fa)(hb:ZC X b fb):ZE X (.Compare a [.NotEq] [b] pos) (mB (b2 fa fb (eqM true))):=⟨have ha:=ha.un;have hb:=hb.un;Yn3 (Yze hu) Yma ha hb (Ydv _)⟩
theorem Ybh(hu:X.A.units+64<cLine)(ha:ZC X a fa)(hb:ZC X b fb):ZT X (.Compare a [.Eq] [b] pos) (b2 fa fb (eqM false)):=⟨have ha:=ha.un;have hb:=hb.un;Yh5 (Yzd hu) Yma ha hb (Ydv _)⟩
theorem Yzm(hu:X.A.units+64<cLine)(ha:ZC X a fa)(hb:ZC X b fb):ZT X (.Compare a [.NotEq] [b] pos) (b2 fa fb (eqM true)):=⟨have ha:=ha.un;have hb:=hb.un;Yh5 (Yze hu) Yma ha hb (Ydv _)⟩
end
section
variable {K:W.Frag}{X:Cx}{a b c e tg elt iter ie ke:Expr}{es rest ifs elts:AL}{fa fb f fe fk:AV}{fc fd:AU}{ga gl:AW}{pos p pos' pt px:Pos}{x:Str}{id T:String}{r:AN->Hp->VK->Prop}{g:AQ->Option D}{gf:AQ->Option AQ}{st:Stmt}{sts:List Stmt}{fs gs:AS}{scope:Scope}{N:AK}{src:List AM}{gt:AT}{P:Program}{w:World}{mg:AE}{base:Heap}{x1:Nat}
theorem Ycy(ha:ZC X a fa)(he:∀whole,isTrue a X.env whole=(do let v <-whole;standAt a.pos;holding [v] (truthy v)):=by intro _;rfl):ZT X a (b1 fa truD):=⟨have ha:=ha.un;
 PT.imp (Ywp ha he) λσ H Q hx_=>by
  obtain⟨ρ,k,H0,G0,G,e,s,h⟩:=hx_;obtain⟨d,h1,h2⟩:=Ybo e
  exact tCof.at h1 s λv H1 G1 g1 r1 s1=>⟨k,y0w h2 r1,h H1 G1 g1⟩⟩
theorem Ymh(ha:ZT X a fc):ZW X (.BoolOp .And [a] pos) fc:=⟨have ha:=ha.un;Yz4 ha⟩
theorem Ypz(ha:ZT X a fc):ZW X (.BoolOp .Or [a] pos) fc:=⟨have ha:=ha.un;y20 ha⟩
theorem Yp0(ha:ZT X a fc)(hb:ZW X (.BoolOp .And (b::rest) pos) fd):ZW X (.BoolOp .And (a::b::rest) pos) (andT fc fd):=⟨have ha:=ha.un;have hb:=hb.un;PW.imp (y21 ha hb) λ_ _ _ h=>y0y h⟩
theorem Yrf(ha:ZT X a fc)(hb:ZW X (.BoolOp .Or (b::rest) pos) fd):ZW X (.BoolOp .Or (a::b::rest) pos) (orT fc fd):=⟨have ha:=ha.un;have hb:=hb.un;PW.imp (y6f ha hb) λ_ _ _ h=>y37 h⟩
theorem Yf7(ha:ZT X a fc):ZT X (.UnaryOp .Not a pos) (notT fc):=⟨have ha:=ha.un;PT.imp (y22 ha) λσ H Q hx_=>by
 obtain⟨ρ,k,H0,G0,G,e,s,h⟩:=hx_;obtain⟨k1,h1,rfl⟩:=qb e
 exact tTof.at h1 s λH1 G1 g1 _=>h H1 G1 g1⟩
theorem Yff(ha:ZE X a fa):ZE X (.BoolOp .And [a] pos) fa:=⟨have ha:=ha.un;y23 ha⟩
theorem Yhv(ha:ZE X a fa)(hb:ZE X (.BoolOp .And (b::rest) pos) fb):ZE X (.BoolOp .And (a::b::rest) pos) (andV fa fb):=⟨have ha:=ha.un;have hb:=hb.un;PE.imp (y24 ha hb) λσ H Q hx_=>by
 obtain⟨ρ,d,H0,G0,G,e,s,h⟩:=hx_;unfold andV at e;obtain⟨k,h1,e⟩:=qa e;obtain⟨d1,h2,h3⟩:=Ybo h1;cases Yq8 h3
 refine tOf.at h2 s λv H1 G1 g1 r1 s1=>⟨k,by rw[Rp]at r1;exact r1,?_⟩
 cases k with
 | true=>
   rw[if_pos rfl]at e ⊢;exact tOf.at e s1 λw H2 G2 g2 r2 _=>h w H2 G2 (g1.trans g2) r2
 | false=>
   rw[if_neg qh]at e ⊢;cases e
   exact h _ H1 G1 g1 (by rw[Rp])⟩
theorem Yu6(ha:ZE X a fa):ZE X (.UnaryOp .Not a pos) (notV fa):=⟨have ha:=ha.un;PE.imp (y25 ha) λσ H Q hx_=>by
 obtain⟨ρ,d,H0,G0,G,e,s,h⟩:=hx_;obtain⟨k,h1,rfl⟩:=qb e;obtain⟨d1,h2,h3⟩:=Ybo h1;cases Yq8 h3
 exact tOf.at h2 s λv H1 G1 g1 r1 s1=>⟨k,by rw[Rp]at r1;exact r1,h _ H1 G1 g1 (by rw[Rp])⟩⟩
theorem Yu7(hc:ZT X c fc)(ha:ZE X a fa)(hb:ZE X b fb):ZE X (.IfExp c a b pos) (ifV fc fa fb):=⟨have hc:=hc.un;have ha:=ha.un;have hb:=hb.un;PE.imp (Ywn hc ha hb) λσ H Q hx_=>by
 obtain⟨ρ,d,H0,G0,G,e,s,h⟩:=hx_;unfold ifV at e;obtain⟨k,h1,e⟩:=qa e;refine tTof.at h1 s λH1 G1 g1 s1=>?_
 cases k with
 | true=>
   rw[if_pos rfl]at e ⊢;exact tOf.at e s1 λw H2 G2 g2 r2 _=>h w H2 G2 (g1.trans g2) r2
 | false=>
   rw[if_neg qh]at e ⊢
   exact tOf.at e s1 λw H2 G2 g2 r2 _=>h w H2 G2 (g1.trans g2) r2⟩
theorem Yxo(ha:ZC X a fa)(hb:ZC X b fb):ZE X (.Compare a [.IsNot] [b] pos) (mB (b2 fa fb (isN true))):=⟨have ha:=ha.un;have hb:=hb.un;Yn3 Ytd Yra ha hb (Ydv _)⟩
theorem Yjg(ha:ZC X a fa)(hb:ZC X b fb):ZT X (.Compare a [.Is] [b] pos) (b2 fa fb (isN false)):=⟨have ha:=ha.un;have hb:=hb.un;Yh5 y3g y00 ha hb (Ydv _)⟩
theorem Ymi(ha:ZC X a fa)(hb:ZC X b fb):ZT X (.Compare a [.IsNot] [b] pos) (b2 fa fb (isN true)):=⟨have ha:=ha.un;have hb:=hb.un;Yh5 Ytd Yra ha hb (Ydv _)⟩
theorem Yl(ha:ZC X a fa)(hb:ZC X b fb)(hs:Yis b:=by intro _ _;rfl):ZE X (.Subscript a b pos) (b2 fa fb ixD):=⟨have ha:=ha.un;have hb:=hb.un;y30 y3r y4d ha hb hs⟩
theorem Yjh{lo hi:Option Expr}{fl fh:Option AV}{p2:Pos}(ha:ZC X a fa)(hl:ZO X lo fl)(hh:ZO X hi fh):ZF X (.Subscript a (.Slice lo hi none p2) pos) (slF fa fl fh):=⟨have ha:=ha.un;have hl:=hl.un;have hh:=hh.un;
 PE.imp (Ywy y0m ha hl hh) λσ H Q hx_=>by
  obtain⟨ρ,l,H0,G0,G,e,s,h⟩:=hx_;unfold slF at e;obtain⟨l0,h1,e⟩:=qa e;obtain⟨i,h2,e⟩:=qa e;obtain⟨j,h3,e⟩:=qa e;cases e;obtain⟨d,h4,h5⟩:=Ybo h1;refine tCof.at h4 s λv H1 G1 g1 r1 s1=>y4e h2 s1 λH2 G2 g2 s2=>y4e h3 s2 λH3 G3 g3 s3=>?_;have r3:=(r1.grow g2).grow g3;obtain⟨p,xs,rfl,g,rl⟩:=Yt0 h5 r3;refine⟨p,xs,rfl,g,λq hq=>?_⟩;have hq0:H q=none:=g1.h.free (g2.h.free (g3.h.free hq));have gg:=((g1.trans g2).trans g3).trans (Gr.hid (p:=q) s3.seen hq (.lst (cutV xs i j)));refine h q _ _ G3 gg hq0 (s3.seen.free hq) Yv ?_;unfold cutD cutV;rw[rl.length]
  exact(rl.drop _).take _⟩
theorem y5c :ZO X none none:=⟨y67 ⟩
theorem Yok(h:ZC X e f):ZO X (some e) (some f):=⟨have h:=h.un;y0l h⟩
theorem Ya0{g:AW}(h:ZF X e g):ZE X e (lF g):=⟨MF.me h.un⟩
theorem Yj :ZA X [] aNil:=⟨Yzf ⟩
theorem Yb(ha:ZE X e f)(hr:ZA X es ga)(hs:starEach (e::es) X.env=(false,eval e X.env)::starEach es X.env:=by rfl):ZA X (e::es) (Yg f ga):=⟨Yt1 ha.un hr.un hs⟩
theorem Yx :ZCA X [] aNil:=⟨Ypo ⟩
theorem Ys(ha:ZC X e f)(hr:ZCA X es ga)(hs:starEach (e::es) X.env=(false,eval e X.env)::starEach es X.env:=by rfl):ZCA X (e::es) (Yg f ga):=⟨Ymb ha.un hr.un hs⟩
theorem Ye2{x1}(h:ZA X es ga):ZE X (.Tuple es x1 pos) (dTup ga):=⟨have h:=h.un;PE.imp (y3k h) λσ H Q hx_=>by
 obtain⟨ρ,d,H0,G0,G,e,s,h⟩:=hx_;unfold dTup at e;obtain⟨l,h1,e⟩:=qa e
 split at e
 ·cases e
  refine tAof.at h1 s λvs H1 G1 g1 r1 s1=>⟨by rw[r1.length];exact Yeb (by assumption),λp hp=>?_⟩
  refine h _ _ _ (g1.trans (.new s1.seen hp (.tup vs))) ?_;rw[Rp];exact⟨p,vs,rfl,Yv,r1.mono (Gr.new s1.seen hp (.tup vs)).g⟩
 ·cases e⟩
theorem Ybv(h:ZA X es ga):ZF X (.List es pos) (dLst ga):=⟨have h:=h.un;PE.imp (Ytj h) λσ H Q hx_=>by
 obtain⟨ρ,d,H0,G0,G,e,s,h⟩:=hx_;unfold dLst at e;obtain⟨l,h1,e⟩:=qa e
 split at e
 ·cases e
  refine tAof.at h1 s λvs H1 G1 g1 r1 s1=>⟨by rw[r1.length];exact Yeb (by assumption),λp hp=>?_⟩
  exact h p vs _ G1 (g1.trans (.hid s1.seen hp (.lst vs))) (g1.h.free hp) (s1.seen.free hp) Yv r1
 ·cases e⟩
theorem Yac(hc:Ydu X (.builtin id) r)(hr:SemC X.K r g)(hg:Gl X x)(hm:X.mg x=none)(hv:bootBuiltins x=some (.builtin id))(ha:ZCA X (e::es) ga)(hn:x≠"__name__":=by decide)(hdb:Ndb x:=by decide)(he:starEach (e::es) X.env=(false,eval e X.env)::starEach es X.env:=by rfl)(hpl:(backTo pos (starEach es X.env)).any (·.1)=false:=by rfl):ZE X (.Call (.Name x p) (e::es) [] pos) (cC ga g):=⟨have ha:=ha.un;
 PE.imp (Ygh hc hg hm hv ha hn hdb he hpl) λ_ _ _ h=>Yzg hr h⟩
theorem Ybf(hc:Ydu X (.type T) r)(hr:SemC X.K r g)(hg:Gl X x)(hm:X.mg x=none)(hv:bootBuiltins x=some (.type T))(ha:ZCA X (e::es) ga)(hn:x≠"__name__":=by decide)(hdb:Ndb x:=by decide)(he:starEach (e::es) X.env=(false,eval e X.env)::starEach es X.env:=by rfl)(hpl:(backTo pos (starEach es X.env)).any (·.1)=false:=by rfl):ZE X (.Call (.Name x p) (e::es) [] pos) (cC ga g):=⟨have ha:=ha.un;
 PE.imp (Ygi hc hg hm hv ha hn hdb he hpl) λ_ _ _ h=>Yzg hr h⟩
theorem Yfg(hc:Ydu X (.type T) r)(hr:SemF X.K r gf)(hg:Gl X x)(hm:X.mg x=none)(hv:bootBuiltins x=some (.type T))(ha:ZCA X (e::es) ga)(hn:x≠"__name__":=by decide)(hdb:Ndb x:=by decide)(he:starEach (e::es) X.env=(false,eval e X.env)::starEach es X.env:=by rfl)(hpl:(backTo pos (starEach es X.env)).any (·.1)=false:=by rfl):ZF X (.Call (.Name x p) (e::es) [] pos) (cF ga gf):=⟨have ha:=ha.un;
 PE.imp (Ygi hc hg hm hv ha hn hdb he hpl) λ_ _ _ h=>y04 hr h⟩
theorem Yah :ZB X [] sNil:=⟨y4h ⟩
theorem Yk(h1:ZS X st fs)(h2:ZB X sts gs):ZB X (st::sts) (sSeq fs gs):=⟨have h1:=h1.un;have h2:=h2.un;PSs.imp (Yqv h1 h2) λF σ H hx_=>by
 obtain⟨ρ,out,H0,G0,G,e,s,h⟩:=hx_;unfold sSeq at e;obtain⟨o,h3,e⟩:=qa e
 cases o with
 | nx ρ'=>exact⟨ρ,.nx ρ',H0,G0,G,h3,s,λσ' H' G' s'=>⟨ρ',out,H0,G0,G',e,s',h⟩⟩
 | rt d=>cases e;exact⟨ρ,.rt d,H0,G0,G,h3,s,h⟩
 | bk ρ'=>cases e;exact⟨ρ,.bk ρ',H0,G0,G,h3,s,h⟩
 | ct ρ'=>cases e;exact⟨ρ,.ct ρ',H0,G0,G,h3,s,h⟩⟩
theorem Ym(h1:ZS X st fs):ZB X [st] fs:=⟨have h1:=h1.un;Ys7 h1⟩
theorem Yu8(is:AF)(h:ZS X st fs):ZS X st (wF is fs):=⟨have h:=h.un;PS.imp h λF σ H hx_=>by
 obtain⟨ρ,out,H0,G0,G,e,s,h⟩:=hx_;obtain⟨G',s'⟩:=SR.frz is s
 exact⟨frz is ρ,out,H0,G0,G',e,s',h⟩⟩
theorem Yak(i:Nat){x:Str}(hN:X.N.Nodup)(he:ZE X e f)(hi:X.N[i]?=some x:=by rfl)(hx:Loc X.env.scope x:=by trivial)(hs:swapsWith e (some (.Name x pos')) pos.line X.env=pure false:=by rfl)(hf:X.fn x=true\/X.env.scope.names.lookup x=some .local:=by trivial):ZS X (.Assign [.Name x pos'] e pos) (sSet i f):=⟨have he:=he.un;PS.imp (Yqw hN hi hx he hs hf) λ_ _ _ h=>y4k h⟩
theorem Ycz(i:Nat){x:Str}(hN:X.N.Nodup)(he:ZF X e gl)(hi:X.N[i]?=some x:=by rfl)(hx:Loc X.env.scope x:=by trivial)(hs:swapsWith e (some (.Name x pos')) pos.line X.env=pure false:=by rfl)(hf:X.fn x=true\/X.env.scope.names.lookup x=some .local:=by trivial):ZS X (.Assign [.Name x pos'] e pos) (sOwn i gl):=⟨have he:=he.un;PS.imp (Yqw hN hi hx he hs hf) λ_ _ _ h=>y4l h⟩
theorem Yt(he:ZE X e f):ZS X (.Return (some e) pos) (sRet f):=⟨have he:=he.un;PS.imp (Yy1 he) λF σ H hx_=>by
 obtain⟨ρ,out,H0,G0,G,e,s,h⟩:=hx_;obtain⟨d,h1,rfl⟩:=qb e
 exact tOf.at h1 s λv H1 G1 g1 r1 s1=>h v H1 G1 s1.gr r1⟩
theorem Yxp :ZS X (.Pass pos) sNil:=⟨y08 ⟩
theorem Yat{c:Expr}{a b:List Stmt}{fc:AU}(hc:ZT X c fc)(ha:ZB X a fs)(hb:ZB X b gs):ZS X (.If c a b pos) (sIf fc fs gs):=⟨have hc:=hc.un;have ha:=ha.un;have hb:=hb.un;PS.imp (Yz6 hc ha hb) λF σ H hx_=>by
 obtain⟨ρ,out,H0,G0,G,e,s,h⟩:=hx_;unfold sIf at e;obtain⟨k,h1,e⟩:=qa e;refine tTof.at h1 s λH1 G1 g1 s1=>?_
 cases k with
 | true=>
   rw[if_pos rfl]at e ⊢;exact⟨ρ,out,H0,G0,G1,e,s1,h⟩
 | false=>
   rw[if_neg qh]at e ⊢
   exact⟨ρ,out,H0,G0,G1,e,s1,h⟩⟩
abbrev Few(X:Cx)(c:Pos)(l:AL):Prop:=((backTo c (starEach l X.env)).all (λx=>!x.1)&&(backToKw c (keywordEach [] X.env)).all (λx=>x.1.isSome)&&decide (l.length+([]:List Keyword).length+(if ([]:List Keyword).isEmpty then 0 else 1)<30))=true
theorem Ydy(i:Nat){x:Str}{p2 apos cpos:Pos}(he:ZE X e f)(hN:X.N[i]?=some x:=by rfl)(hv:Vis X.env.scope x:=by trivial)(hd:Ndb x:=by decide)(hcd:Ncd x:=by decide)(hse:swapsWith (.Call (.Attribute (.Name x p2) "append" apos) [e] [] cpos) none pos.line X.env=pure false:=by rfl)(hs:starEach [e] X.env=[(false,eval e X.env)]:=by rfl)(hfew:Few X cpos [e]:=by rfl)(hline:(apos.endLine==cpos.line)=true:=by rfl)(hbase:attributeBase (.Name x p2) "append" X.env (eval (.Name x p2) X.env)=eval (.Name x p2) X.env:=by rfl):ZS X (.Expr (.Call (.Attribute (.Name x p2) "append" apos) [e] [] cpos) pos) (sMut i f appD):=⟨have he:=he.un;
 PS.imp (Yf0 (Yw0 PySem.F.plainAttrs_list PySem.F.slot_list_append PySem.F.type_list_append Yit (Yeo hN hv hd hcd) (Ybr he Yep hs) hbase hfew hline hs rfl) hse) λF σ H hx_=>by
  obtain⟨ρ,out,H0,G0,G,e,s,h⟩:=hx_;unfold sMut at e;obtain⟨l,h1,e⟩:=qa e;obtain⟨d,h2,e⟩:=qa e;obtain⟨l',h3,rfl⟩:=qb e;unfold appD at h3
  split at h3
  ·rename_i hl
   cases h3;obtain⟨a,xs,ha,hH,hr,hG⟩:=Yn5 s h1;refine⟨_,ha,.inl ⟨rfl,xs,SqL.of hH⟩,tOf.at h2 s λv H1 G1 g1 r1 s1=>?_⟩;refine⟨a,xs,v,rfl,rfl,g1.h _ _ hH,?_,h σ _ G1 (s1.mut (Ydw h1) ha ((hr.mono g1.g).append (.one r1)))⟩;rw[hr.length];exact Qb hl (Yeb (qt _))
  ·cases h3⟩
theorem Ybe{l:Expr}(hl:ZE X l f):ZI X tg l (b1 f Yp):=⟨have hl:=hl.un;PI.imp (y4p hl) λσ H R hx_=>by
 obtain⟨ρ,ds,H0,G0,G,e,s,h⟩:=hx_;obtain⟨c,h1,h2⟩:=Ybo e;refine tOf.at h1 s λv H1 G1 g1 r1 s1=>?_;rcases Ybt h2 with rfl|rfl|⟨ns,rfl,rfl⟩
 ·rw[Rp]at r1
  obtain⟨p,xs,rfl,g,rl⟩:=r1;refine⟨p,xs,rfl,.inr ⟨.inl (.inl (s1.seen _ _ g)),λhz=>h _ H1 G1 g1 (Yxa (by rw[<-rl.length];exact hz) λi H2 G2 e1 e2=>⟨λd hd=>?_,λhi=>⟨xs,.inl (.inl (e2 _ _ (e1 _ _ g))),by rw[rl.length];exact hi⟩⟩)⟩⟩;obtain⟨x,hx,rx⟩:=rl.get hd;refine⟨⟨xs,x,.inl (.inl (e2 _ _ (e1 _ _ g))),hx⟩,λy H3 q=>⟨q.1,?_⟩⟩;have:=q.2 xs (.inl (.inl (e2 _ _ (e1 _ _ g))));rw[hx]at this;cases this;exact rx.mono e1
 ·rw[Rp]at r1
  obtain⟨p,xs,rfl,g,rl⟩:=r1;refine⟨p,xs,rfl,.inl ⟨.inl (Ya3 s1.seen g),λhz=>h _ H1 G1 g1 (Yxa (by rw[<-rl.length];exact hz) λi H2 G2 e1 e2=>⟨λd hd=>?_,λhi=>⟨xs,.inl (Ya3 e2 (Ya3 e1 g)),by rw[rl.length];exact hi⟩⟩)⟩⟩;obtain⟨x,hx,rx⟩:=rl.get hd;refine⟨⟨xs,x,.inl (Ya3 e2 (Ya3 e1 g)),hx⟩,λy H3 q=>⟨q.1,?_⟩⟩;have:=q.2 xs (.inl (Ya3 e2 (Ya3 e1 g)));rw[hx]at this;cases this;exact rx.mono e1
 ·rw[Rp]at r1
  obtain⟨p,rfl,g⟩:=r1;have rl:RpL X.K G1 (ns.map D.int) (ns.map V.int):=.ints ns;refine⟨p,_,rfl,.inl ⟨s1.seen.seq g,λhz=>h _ H1 G1 g1 (Yxa (by rw[<-rl.length];exact hz) λi H2 G2 e1 e2=>⟨λd hd=>?_,λhi=>⟨_,e2.seq (e1.seq g),by rw[rl.length];exact hi⟩⟩)⟩⟩;obtain⟨x,hx,rx⟩:=rl.get hd;refine⟨⟨_,x,e2.seq (e1.seq g),hx⟩,λy H3 q=>⟨q.1,?_⟩⟩;have:=q.2 _ (e2.seq (e1.seq g));rw[hx]at this;cases this
  exact rx.mono e1⟩
theorem Ydz{a:Expr}{ga:AW}{p:Pos}(hg:Gl X "range")(hm:X.mg "range"=none)(ha:ZA X [a] ga)(hs:starEach [a] X.env=[(false,eval a X.env)]:=by rfl):ZI X tg (.Call (.Name "range" p) [a] [] pos) (cF ga rng1):=⟨have ha:=ha.un;
 PI.imp (Yta hg hm ha hs) λσ H R hx_=>by
  obtain⟨ρ,ds,H0,G0,G,e,s,h⟩:=hx_;unfold cF at e;obtain⟨l,h1,h2⟩:=qa e;refine tAof.at h1 s λvs H1 G1 g1 r1 s1=>?_;obtain⟨n,rfl,c1,c2,rfl⟩:=Yt6 h2;obtain⟨v,rfl,rv⟩:=Yi3 r1;rw[Rp]at rv;subst rv;refine⟨n,rfl,by lia,by lia,?_⟩;have:=h (Itr 0 (n-0).toNat) H1 G1 g1 (Yzh (Yeb (by unfold cap6;lia)))
  simpa using this⟩
theorem Yli{a b:Expr}{ga:AW}{p:Pos}(hg:Gl X "range")(hm:X.mg "range"=none)(ha:ZA X [a,b] ga)(hs:starEach [a,b] X.env=[(false,eval a X.env),(false,eval b X.env)]:=by rfl)(hs2:starEach [b] X.env=[(false,eval b X.env)]:=by rfl):ZI X tg (.Call (.Name "range" p) [a,b] [] pos) (cF ga rng2):=⟨have ha:=ha.un;
 PI.imp (Ytb hg hm ha hs hs2) λσ H R hx_=>by
  obtain⟨ρ,ds,H0,G0,G,e,s,h⟩:=hx_;unfold cF at e;obtain⟨l,h1,h2⟩:=qa e;refine tAof.at h1 s λvs H1 G1 g1 r1 s1=>?_;obtain⟨a,n,rfl,c1,c2,c3,c4,rfl⟩:=Yt7 h2;rw[RpL]at r1;obtain⟨x,r,rfl,rx,r1⟩:=r1;obtain⟨y,rfl,ry⟩:=Yi3 r1;rw[Rp]at rx ry;subst rx;subst ry
  exact⟨a,n,rfl,⟨by lia,by lia,by lia,by lia⟩,h _ H1 G1 g1 (Yzh (Nat.le_trans (by lia:(n-a).toNat<=2000000) (by rw[jj];decide)))⟩⟩
theorem Yai(i:Nat){x:Str}(hN:X.N.Nodup)(hi:X.N[i]?=some x:=by rfl)(hx:Loc X.env.scope x:=by trivial)(hf:X.fn x=true\/X.env.scope.names.lookup x=some .local:=by trivial):ZG X (.Name x pos) (gSet i):=⟨
 PG.imp (Yhm hN hi hx hf) λv σ H Q hx_=>by
  obtain⟨d,ρ,ρ',H0,G0,G,e,s,r,h⟩:=hx_;cases e
  exact h _ (s.set_sh i r)⟩
theorem Yxq(i j:Nat){x y:Str}{px py:Pos}{k:Nat}(hc:X.calm=true)(hN:X.N.Nodup)(hi:X.N[i]?=some x:=by rfl)(hj:X.N[j]?=some y:=by rfl)(hx:Loc X.env.scope x:=by trivial)(hy:Loc X.env.scope y:=by trivial)(hf:X.fn x=true\/X.env.scope.names.lookup x=some .local:=by trivial)(hf2:X.fn y=true\/X.env.scope.names.lookup y=some .local:=by trivial):ZG X (.Tuple [.Name x px,.Name y py] k pos) (Ypp i j):=⟨
 PG.imp (Yy2 (n:=2) hc (Ygg (Yhm hN hi hx hf) (Ygg (Yhm hN hj hy hf2) Ys8))) λv σ H Q hx_=>by
  obtain⟨d,ρ,ρ',H0,G0,G,e,s,r,h⟩:=hx_
  match d,e,r with
  | .tup [a,b],e,r=>
    cases e;rw[Rp]at r;obtain⟨p,xs,rfl,g,rl⟩:=r;rw[RpL]at rl;obtain⟨u,us,rfl,ru,rl⟩:=rl;obtain⟨w,rfl,rw'⟩:=Yi3 rl
    exact⟨p,[u,w],rfl,.inl (.inl (s.seen _ _ g)),rfl,u,[w],rfl,w,[],rfl,rfl,h _ ((s.set_sh i ru).set_sh j rw')⟩⟩
theorem Yec{iter:Expr}{body:List Stmt}{gt:AT}(hp:PassesOwn (model X.prog X.w) X.A X.env X.xe)(hc:X.calm=true)(hi:ZI X tg iter gl)(hg:ZG X tg gt)(hb:ZB X body fs)(hs:∀x,foldedSetIterable iter X.env x=pure x:=by intro _;rfl):ZS X (.For tg iter body [] pos) (sFor gl gt fs):=⟨have hi:=hi.un;have hg:=hg.un;have hb:=hb.un;
 PS.imp (Yy5 hp hc hi hg hb hs) λF σ H hx_=>by
  obtain⟨ρ,out,H0,G0,G,e,s,h⟩:=hx_;unfold sFor at e;obtain⟨ds,h1,h2⟩:=qa e;refine⟨ρ,ds,H0,G0,G,h1,s,λJ H1 G1 g1 wk=>?_⟩;obtain⟨Hb,sb,back⟩:=(s.grow g1).rebase;have hout:=Yf5 ds ρ out h2;refine⟨λi m σ' H'=>m=ds.length-i/\i<=ds.length/\∃ρ' G',SR X.K Hb G1 σ' H' G' ρ'/\forM gt fs (ds.drop i) ρ'=some out,⟨_,rfl,Qc _,ρ,G1,sb,h2⟩,?_⟩;rintro i m σ' H' ⟨rfl,hi,ρ',G',s',e'⟩;have W:=wk.2 i H' G' s'.gr.g s'.seen;by_cases hlt:i<ds.length
  ·have hd:ds[i]?=some ds[i]:=qp hlt
   obtain⟨go,yl⟩:=W.1 _ hd;rw[List.drop_eq_getElem_cons hlt,forM]at e';obtain⟨ρ1,e1,e'⟩:=qa e';obtain⟨o,e2,e'⟩:=qa e';refine .inr ⟨go,λσ' H'=>i+1<=ds.length/\∃ρ' G',SR X.K Hb G1 σ' H' G' ρ'/\forM gt fs (ds.drop (i+1)) ρ'=some out,λσ2 H2 q=>⟨ds.length-(i+1),by lia,rfl,q.1,q.2⟩,λx H2 y=>?_⟩;obtain⟨G2,g2,r2⟩:=yl x H2 y;refine⟨_,ρ',ρ1,Hb,G1,G2,e1,s'.grow g2,r2,λσ3 s3=>?_⟩;refine⟨ρ1,o,Hb,G1,G2,e2,s3,?_⟩
   cases o with
   | nx ρ2=>exact λσ4 H4 G4 s4=>⟨hlt,ρ2,G4,s4,e'⟩
   | ct ρ2=>exact λσ4 H4 G4 s4=>⟨hlt,ρ2,G4,s4,e'⟩
   | bk ρ2=>
     cases e';exact λσ4 H4 G4 s4=>h σ4 H4 G4 (back _ _ _ _ s4)
   | rt d=>
     cases e';refine λv H4 G4 g4 r4=>h v H4 G4 ?_ r4;have:=(back [] H4 G4 [] (SR.mkSh g4 rfl (λi d e=>(by simp at e)) (λi l e=>(by simp at e)) (λi t ks vs e=>(by simp at e)))).gr;exact this
  ·have ei:i=ds.length:=by lia
   subst ei;rw[List.drop_length,forM]at e';cases e'
   exact .inl ⟨W.2 (qt _),h σ' H' G' (back _ _ _ _ s')⟩⟩
theorem Ye3 :ZIfs X X.K [] tY:=⟨y4s ⟩
theorem Ybm(S:CompSc X.N X.env.scope N src scope)(hc:X.calm=true)(hit:ZI X tg iter gl)(hg:∀cl C fp s H,ZG (Yas X scope N cl C fp s H) tg gt)(hi:∀cl C fp s H,ZIfs (Yas X scope N cl C fp s H) X.K ifs fc)(he:∀cl C fp s H,ZE (Yas X scope N cl C fp s H) elt fe)(hle:∀ρ d ρ1,gt d (capR src ρ)=some ρ1->Le (capR src ρ) ρ1)(hs:∀x,foldedSetIterable iter X.env x=pure x:=by intro _;rfl):ZF X (.ListComp elt [⟨tg,iter,ifs,0⟩] scope pos) (Yci gl src gt fc fe):=⟨y1c S hc hit.un (λcl C fp s H=>(hg cl C fp s H).un) (λcl C fp s H=>(hi cl C fp s H).un) (λcl C fp s H=>(he cl C fp s H).un) hle hs⟩
theorem Yxr(i:Nat){y:Str}{py spos:Pos}(hN:X.N.Nodup)(S:CompSc X.N X.env.scope N src scope)(hc:X.calm=true)(hit:ZI X tg iter gl)(hg:∀cl C fp s H,ZG (Yas X scope N cl C fp s H) tg gt)(hi:∀cl C fp s H,ZIfs (Yas X scope N cl C fp s H) X.K ifs fc)(he:∀cl C fp s H,ZE (Yas X scope N cl C fp s H) elt fe)(hle:∀ρ d ρ1,gt d (capR src ρ)=some ρ1->Le (capR src ρ) ρ1)(hsw:swapsWith (.ListComp elt [⟨tg,iter,ifs,0⟩] scope pos) (some (.Name y py)) spos.line X.env=pure true:=by rfl)(hy:X.N[i]?=some y:=by rfl)(hx:Loc X.env.scope y:=by trivial)(hf:X.fn y=true\/X.env.scope.names.lookup y=some .local:=by trivial)(hs:∀x,foldedSetIterable iter X.env x=pure x:=by intro _;rfl):ZS X (.Assign [.Name y py] (.ListComp elt [⟨tg,iter,ifs,0⟩] scope pos) spos) (sOwn i (Yci gl src gt fc fe)):=⟨y1d i hN S hc hit.un (λcl C fp s H=>(hg cl C fp s H).un) (λcl C fp s H=>(hi cl C fp s H).un) (λcl C fp s H=>(he cl C fp s H).un) hle hsw hy hx hf hs⟩
theorem Yhw{x qual:Str}{st:Stmt}{f:Addr}{fd:FuncData}{N ps:AK}{k n m:Nat}{fb:AS}(F:Fun K x qual st f fd)(S:FnScope N ps (defScope st))(hn:N.length=n)(hm:ps.length=m)(hb:∀(cdv:Value) (A:Around) (outer:List Env) (s:Shared) (H:Hp) (E:XK),Room k (A.deeper (envOfC qual (defScope st) (~~~s) f cdv))->ZB (cxOf CX0 P w K mg base N qual (defScope st) f cdv A outer s H E).nox (defBody st) fb):FnOk P w K mg base CX0 (k+1) f fd ps (spOf K m (runB m n fb)):=Yub F S hn hm (λcdv A outer s H E hr=>(hb cdv A outer s H E hr).un)
theorem Yq{j k n:Nat}{x:Str}{p:Pos}{ps:AK}{fn:AQ->Option D}(c:Okf X.prog X.w X.K X.mg X.base j n x ps fn)(hr:Room k X.A)(hg:Gl X x)(ha:ZA X (e::es) ga)(hl:∀ρ l,ga ρ=some l->l.length=n)(hj:j<=k:=by first|exact qt _|lia)(hdb:Ndb x:=by decide)(he:starEach (e::es) X.env=(false,eval e X.env)::starEach es X.env:=by rfl)(hpl:(backTo pos (starEach es X.env)).any (·.1)=false:=by rfl):ZE X (.Call (.Name x p) (e::es) [] pos) (cC ga fn):=⟨have ha:=ha.un;by
 obtain⟨a,fd,F,hb,hk,hm⟩:=c
 exact y05 F (hr.mono hj) hg hm hk hb ha hdb he hpl hl⟩
theorem Ydp(ha:ZC X a fa)(hb:ZC X b fb):ZE X (.BinOp a .Add b pos) (b2 fa fb addI):=⟨have ha:=ha.un;have hb:=hb.un;Ylf y29 Yty ha hb⟩
theorem y1u(ha:ZC X a fa):ZE X (.UnaryOp .USub a pos) (b1 fa negI):=⟨have ha:=ha.un;PE.imp (y6m y3e ha) λσ H Q hx_=>by
 obtain⟨ρ,d,H0,G0,G,e,s,h⟩:=hx_;obtain⟨x,h1,h2⟩:=Ybo e;refine tCof.at h1 s λv H1 G1 g1 r1 s1=>?_;cases x<;>simp[negI]at h2;subst h2;rw[Ct]at r1
 exact⟨_,r1,h _ H1 G1 g1 (by rw[Rp])⟩⟩
theorem Yp1(ha:ZC X a fa)(hb:ZC X b fb):ZF X (.BinOp a .Add b pos) (b2 fa fb catD):=⟨have ha:=ha.un;have hb:=hb.un;PE.imp (y28 y1e ha hb) λσ H Q hx_=>by
 obtain⟨ρ,l,H0,G0,G,e,s,h⟩:=hx_;obtain⟨dx,dy,h1,h2,h3⟩:=Yi1 e;refine tCof.at h1 s λv H1 G1 g1 r1 s1=>tCof.at h2 s1 λu H2 G2 g2 r2 s2=>?_;unfold catD at h3
 split at h3
 ·rename_i l1 l2
  split at h3
  ·rename_i hz
   cases h3;have r1':=r1.grow g2;rw[Ct]at r1' r2;obtain⟨p,xs,rfl,gp,rl⟩:=r1';obtain⟨q,zs,rfl,gq,rm⟩:=r2;refine⟨p,q,xs,zs,rfl,rfl,gp,gq,by rw[rl.length,rm.length];exact Yeb hz,λm hm=>?_⟩;exact h m _ _ G2 ((g1.trans g2).trans (.hid s2.seen hm _)) (g1.h.free (g2.h.free hm)) (s2.seen.free hm) Yv (rl.append rm)
  ·cases h3
 ·cases h3⟩
theorem Yp2{T:String}{tn:Str}{p p2:Pos}(ha:ZC X a fa)(hg:Gl X "isinstance")(hg2:Gl X tn)(hm:X.mg "isinstance"=none)(hm2:X.mg tn=none)(hv2:bootBuiltins tn=some (.type T))(hk:Kit T)(hv:bootBuiltins "isinstance"=some (.builtin "isinstance"):=by decide +kernel)(hn2:tn≠"__name__":=by decide)(hd2:(tn==("__debug__":Str))=false:=by decide)(hs:starEach [a,.Name tn p2] X.env=(false,eval a X.env)::starEach [.Name tn p2] X.env:=by rfl)(hs2:starEach [.Name tn p2] X.env=(false,eval (.Name tn p2) X.env)::starEach [] X.env:=by rfl)(hpl:(backTo pos (starEach [.Name tn p2] X.env)).any (·.1)=false:=by rfl):ZE X (.Call (.Name "isinstance" p) [a,.Name tn p2] [] pos) (mB (b1 fa (isiD T))):=⟨have ha:=ha.un;
 PE.imp (Ygh (Yxf hk) hg hm hv (Ybr ha (Ybr (Yz2 hg2 hm2 hv2 (v:=.ty T) rfl hn2 hd2) Yep hs2) hs) (by decide) (by decide) hs hpl) λσ H Q hx_=>by
  obtain⟨ρ,d,H0,G0,G,e,s,h⟩:=hx_;obtain⟨k,ek,rfl⟩:=Yl8 e;obtain⟨x,h1,h2⟩:=Ybo ek;unfold isiD at h2
  split at h2
  ·cases h2
   exact tCof.at h1 s λv H1 G1 g1 r1 s1=>⟨v,x,G1,rfl,by assumption,r1,h _ H1 G1 g1 (by rw[Rp])⟩
  ·cases h2⟩
theorem Yp3(i:Nat){x:Str}{ie:Expr}{p2 p3:Pos}(hb:ZC X ie fb)(he:ZE X e f)(hN:X.N[i]?=some x:=by rfl)(hv:Vis X.env.scope x:=by trivial)(hd:Ndb x:=by decide)(hcd:Ncd x:=by decide)(ha:∀v,assign (.Subscript (.Name x p2) ie p3) X.env v=(do
 let ov <-holding [v] (eval (.Name x p2) X.env)
 let iv <-holding [v,ov] (eval ie X.env)
 standAt p3
 holding [v,ov,iv] (setItem ov iv v)
 release [v,ov,iv] []):=by intro _;rfl) (hs:swapsWithSole [.Subscript (.Name x p2) ie p3] e pos.line X.env=pure false:=by rfl) (hw:swappedStores [.Subscript (.Name x p2) ie p3] e X.env=pure none:=by rfl) (h1:(assignEach [.Subscript (.Name x p2) ie p3] X.env).map (·.2)=[assign (.Subscript (.Name x p2) ie p3) X.env]:=by rfl):ZS X (.Assign [.Subscript (.Name x p2) ie p3] e pos) (Yi8 i fb f setD):=⟨have hb:=hb.un;have he:=he.un;
 PS.imp (Yy4 he (Yy3 (Yeo hN hv hd hcd) hb Ywz ha) hs hw h1) λF σ H hx_=>by
  obtain⟨ρ,out,H0,G0,G,e,s,h⟩:=hx_;unfold Yi8 at e;obtain⟨d,h1,e⟩:=qa e;obtain⟨l,h2,e⟩:=qa e;obtain⟨k,h3,e⟩:=qa e;obtain⟨l',h4,rfl⟩:=qb e;unfold setD at h4;obtain⟨n,h5,h4⟩:=qa h4;obtain⟨j,h6,rfl⟩:=qb h4;refine tOf.at h1 s λv H1 G1 g1 r1 s1=>?_;obtain⟨a,xs,ha,hH,hr,hG⟩:=Yn5 s1 h2;refine⟨_,ha,tCof.at h3 s1 λu H2 G2 g2 r2 s2=>?_⟩;cases k<;>simp[intD]at h5;subst h5;rw[Ct]at r2;subst r2;refine⟨a,xs,_,j,rfl,rfl,g2.h _ _ hH,by rw[hr.length];exact h6,?_⟩
  exact h σ _ G2 (s2.mut (Ydw h2) ha ((hr.mono g2.g).set j (r1.mono g2.g)))⟩
theorem Ymj{l:Expr}{f:AV}{p:Pos}(hg:Gl X "enumerate")(hm:X.mg "enumerate"=none)(hl:ZE X l f)(hs:starEach [l] X.env=[(false,eval l X.env)]:=by rfl):ZI X (.Tuple elts x1 pt) (.Call (.Name "enumerate" p) [l] [] pos) (b1 f Yxh):=⟨have hl:=hl.un;
 PI.imp (y1h hg hm (Yt1 hl Yzf hs) hs) λσ H R hx_=>by
  obtain⟨ρ,ds,H0,G0,G,e,s,h⟩:=hx_;obtain⟨c,h1,h2⟩:=Ybo e;obtain⟨l,h3,rfl⟩:=qb h2;refine tAof.at (show Yg f aNil ρ=some [c] by simp[Yg,aNil,h1]) s λvs H1 G1 g1 r1 s1=>?_;obtain⟨v,rfl,rv⟩:=Yi3 r1;rcases Ybt h3 with rfl|rfl|⟨ns,rfl,rfl⟩
  ·rw[Rp]at rv
   obtain⟨p,xs,rfl,g,rl⟩:=rv;refine⟨p,xs,rfl,.inr ⟨.inl (.inl (s1.seen _ _ g)),λhz=>h _ H1 G1 g1 ⟨by rw[Ybq,<-rl.length];exact hz,λi H2 G2 e1 e2=>⟨λd hd=>?_,λhi=>⟨xs,.inl (.inl (e2 _ _ (e1 _ _ g))),by rw[rl.length,<-Ybq l];exact hi⟩⟩⟩⟩⟩;obtain⟨d',hd',rfl⟩:=Yjb hd;obtain⟨x,hx,rx⟩:=rl.get hd';refine⟨⟨xs,x,.inl (.inl (e2 _ _ (e1 _ _ g))),hx⟩,λy H3 q=>?_⟩;obtain⟨y',q',a1,a2,rfl,rfl⟩:=q;have:=a1 xs (.inl (.inl (e2 _ _ (e1 _ _ g))));rw[hx]at this;cases this;exact Gr.newTup e2 a2 i (rx.mono e1)
  ·rw[Rp]at rv
   obtain⟨p,xs,rfl,g,rl⟩:=rv;refine⟨p,xs,rfl,.inl ⟨.inl (Ya3 s1.seen g),λhz=>h _ H1 G1 g1 ⟨by rw[Ybq,<-rl.length];exact hz,λi H2 G2 e1 e2=>⟨λd hd=>?_,λhi=>⟨xs,.inl (Ya3 e2 (Ya3 e1 g)),by rw[rl.length,<-Ybq l];exact hi⟩⟩⟩⟩⟩;obtain⟨d',hd',rfl⟩:=Yjb hd;obtain⟨x,hx,rx⟩:=rl.get hd';refine⟨⟨xs,x,.inl (Ya3 e2 (Ya3 e1 g)),hx⟩,λy H3 q=>?_⟩;obtain⟨y',q',a1,a2,rfl,rfl⟩:=q;have:=a1 xs (.inl (Ya3 e2 (Ya3 e1 g)));rw[hx]at this;cases this;exact Gr.newTup e2 a2 i (rx.mono e1)
  ·rw[Rp]at rv
   obtain⟨p,rfl,g⟩:=rv;have rl:RpL X.K G1 (ns.map D.int) (ns.map V.int):=.ints ns;refine⟨p,_,rfl,.inl ⟨s1.seen.seq g,λhz=>h _ H1 G1 g1 ⟨by rw[Ybq,<-rl.length];exact hz,λi H2 G2 e1 e2=>⟨λd hd=>?_,λhi=>⟨_,e2.seq (e1.seq g),by rw[rl.length,<-Ybq];exact hi⟩⟩⟩⟩⟩;obtain⟨d',hd',rfl⟩:=Yjb hd;obtain⟨x,hx,rx⟩:=rl.get hd';refine⟨⟨_,x,e2.seq (e1.seq g),hx⟩,λy H3 q=>?_⟩;obtain⟨y',q',a1,a2,rfl,rfl⟩:=q;have:=a1 _ (e2.seq (e1.seq g));rw[hx]at this;cases this
   exact Gr.newTup e2 a2 i (rx.mono e1)⟩
theorem Ysp(i:Nat){x:Str}{p2 apos cpos:Pos}(hb:ZE X ie fb)(he:ZE X e f)(hN:X.N[i]?=some x:=by rfl)(hv:Vis X.env.scope x:=by trivial)(hd:Ndb x:=by decide)(hcd:Ncd x:=by decide)(hse:swapsWith (.Call (.Attribute (.Name x p2) "insert" apos) [ie,e] [] cpos) none pos.line X.env=pure false:=by rfl)(hs:starEach [ie,e] X.env=(false,eval ie X.env)::starEach [e] X.env:=by rfl)(hs2:starEach [e] X.env=[(false,eval e X.env)]:=by rfl)(hfew:Few X cpos [ie,e]:=by rfl)(hline:(apos.endLine==cpos.line)=true:=by rfl)(hbase:attributeBase (.Name x p2) "insert" X.env (eval (.Name x p2) X.env)=eval (.Name x p2) X.env:=by rfl)(hpl:(backTo cpos (starEach [e] X.env)).any (·.1)=false:=by rfl):ZS X (.Expr (.Call (.Attribute (.Name x p2) "insert" apos) [ie,e] [] cpos) pos) (Yi8 i fb f insD):=⟨have hb:=hb.un;have he:=he.un;
 PS.imp (Yf0 (Yw0 PySem.F.plainAttrs_list PySem.F.slot_list_insert PySem.F.type_list_insert Yuk (Yeo hN hv hd hcd) (Ybr hb (Ybr he Yep hs2) hs) hbase hfew hline hs hpl) hse) λF σ H hx_=>by
  obtain⟨ρ,out,H0,G0,G,e,s,h⟩:=hx_;unfold Yi8 at e;obtain⟨d,h1,e⟩:=qa e;obtain⟨l,h2,e⟩:=qa e;obtain⟨k,h3,e⟩:=qa e;obtain⟨l',h4,rfl⟩:=qb e;unfold insD at h4;obtain⟨n,h5,h4⟩:=qa h4
  split at h4
  ·rename_i hc
   cases h4;simp only[Qf,wm]at hc;obtain⟨⟨hc1,hc2⟩,hc3⟩:=hc;obtain⟨a,xs,ha,hH,hr,hG⟩:=Yn5 s h2;refine⟨_,ha,.inl ⟨rfl,xs,SqL.of hH⟩,tOf.at h3 s λu H1 G1 g1 r1 s1=>tOf.at h1 s1 λv H2 G2 g2 r2 s2=>?_⟩;cases k<;>simp[intD]at h5;subst h5;rw[Rp]at r1;subst r1;have hr2:=(hr.mono g1.g).mono g2.g;refine⟨a,xs,_,v,rfl,rfl,g2.h _ _ (g1.h _ _ hH),hc1,by rw[hr.length];exact hc2,?_,h σ _ G2 (s2.mut (Ydw h2) ha ((hr2.take _).append (.cons r2 (hr2.drop _))))⟩;rw[hr.length];exact Qb hc3 (Yeb (qt _))
  ·cases h4⟩
theorem Ysq(i:Nat){x:Str}{p2 apos cpos:Pos}(he:ZE X e f)(hN:X.N[i]?=some x:=by rfl)(hv:Vis X.env.scope x:=by trivial)(hd:Ndb x:=by decide)(hcd:Ncd x:=by decide)(hse:swapsWith (.Call (.Attribute (.Name x p2) "extend" apos) [e] [] cpos) none pos.line X.env=pure false:=by rfl)(hs:starEach [e] X.env=[(false,eval e X.env)]:=by rfl)(hfew:Few X cpos [e]:=by rfl)(hline:(apos.endLine==cpos.line)=true:=by rfl)(hbase:attributeBase (.Name x p2) "extend" X.env (eval (.Name x p2) X.env)=eval (.Name x p2) X.env:=by rfl):ZS X (.Expr (.Call (.Attribute (.Name x p2) "extend" apos) [e] [] cpos) pos) (sMut i f extD):=⟨have he:=he.un;
 PS.imp (Yf0 (Yw0 PySem.F.plainAttrs_list PySem.F.slot_list_extend PySem.F.type_list_extend y4y (Yeo hN hv hd hcd) (Ybr he Yep hs) hbase hfew hline hs rfl) hse) λF σ H hx_=>by
  obtain⟨ρ,out,H0,G0,G,e,s,h⟩:=hx_;unfold sMut at e;obtain⟨l,h1,e⟩:=qa e;obtain⟨d,h2,e⟩:=qa e;obtain⟨l',h3,rfl⟩:=qb e;unfold extD at h3
  split at h3
  ·rename_i m
   split at h3
   ·rename_i hl
    cases h3;obtain⟨a,xs,ha,hH,hr,hG⟩:=Yn5 s h1;refine⟨_,ha,.inl ⟨rfl,xs,SqL.of hH⟩,tOf.at h2 s λv H1 G1 g1 r1 s1=>?_⟩;rw[Rp]at r1;obtain⟨b,zs,rfl,gb,rz⟩:=r1;refine⟨a,b,xs,zs,rfl,rfl,g1.h _ _ hH,Ya3 s1.seen gb,?_,h σ _ G1 (s1.mut (Ydw h1) ha ((hr.mono g1.g).append rz))⟩;rw[hr.length,rz.length];exact Yeb hl
   ·cases h3
  ·cases h3⟩
theorem Yxs{i:Int}(g:GI X.mg x i)(hg:Gl X x)(hd:Ndb x:=by decide):ZE X (.Name x px) (kD (.int i)):=⟨by
 obtain⟨t,hm⟩:=g
 exact Ygp (v:=.int i) (Ylv (v:=.int i) hg hm ⟨t,rfl⟩ hd) (λ_ _ _ q=>q) λ_=>by rw[Rp]⟩
theorem Yu9{X:Cx}{pos:Pos}:ZP X pos [] [] [] []:=⟨y40 ⟩
theorem Yik{X:Cx}{pos pk:Pos}{x:Str}{j:Nat}{v:Expr}{f:AV}{keys:List (Option Expr)}{values:AL}{ks:AK}{fs:List AV}(hv:ZE X v f)(hr:ZP X pos keys values ks fs):ZP X pos (some (.Constant (.str x) j pk)::keys) (v::values) (x::ks) (f::fs):=⟨have hv:=hv.un;have hr:=hr.un;⟨by simp[hr.len],Ywx y4z hv hr.pps,by simpa using hr.all,by simp[hr.kv],by simp[hr.kk]⟩⟩
end
section
variable {X:Cx}{a b c e:Expr}{fa fb fc:AV}{pos:Pos}{st:Stmt}
theorem Ya7 :ZS X st nS:=⟨Yxj ⟩
end
section
variable {X:Cx}{e a b:Expr}{f fa fb:AV}{fc:AU}{gl:AW}{K:W.Frag}{pos:Pos}
theorem Yrg(is:AF)(h:ZT X e fc):ZT X e (Yod is fc):=⟨have h:=h.un;PT.imp h λσ H Q hx_=>by
 obtain⟨ρ,d,H0,G0,G,e,s,h⟩:=hx_;obtain⟨G',s'⟩:=SR.frz is s
 exact⟨frz is ρ,d,H0,G0,G',e,s',λH1 G1 g=>h H1 G (.back s.seen g)⟩⟩
theorem y1v(ha:ZC X a fa)(hb:ZC X b fb):ZT X (.Compare a [.Is] [b] pos) (b2 fa fb (isB false)):=⟨have ha:=ha.un;have hb:=hb.un;Yh5 y43 Yun ha hb (Ydv _)⟩
theorem Yil(ha:ZC X a fa)(hb:ZC X b fb):ZT X (.Compare a [.IsNot] [b] pos) (b2 fa fb (isB true)):=⟨have ha:=ha.un;have hb:=hb.un;Yh5 y1l Yun ha hb (Ydv _)⟩
end
theorem Ygw{X:Cx}{c:Expr}{f:AU}(h:ZT X c f):ZIfs X X.K [c] f:=⟨have h:=h.un;λpins s σ H Q I hq=>wpAny_tests_one (h pins s σ H Q I hq)⟩
theorem Ylj{X:Cx}{e:Expr}{f:AU}(h:ZW X e f):ZT X e f:=⟨PW.pt h.un⟩
end
section
section
variable {X:Cx}{e:Expr}{f:AV}{p p2 pos pos2:Pos}
theorem Yp4(hc:X.calm=true)(hg:Gl X "sorted")(hm:X.mg "sorted"=none)(hg2:Gl X "set")(hm2:X.mg "set"=none)(ha:ZC X e f)(hs:starEach [e] X.env=[(false,eval e X.env)]:=by rfl)(he:starEach [.Call (.Name "set" p2) [e] [] pos2] X.env=[(false,eval (.Call (.Name "set" p2) [e] [] pos2) X.env)]:=by rfl)(hpl:(backTo pos2 (starEach [] X.env)).any (·.1)=false:=by rfl)(hpl2:(backTo pos (starEach [] X.env)).any (·.1)=false:=by rfl):ZF X (.Call (.Name "sorted" p) [.Call (.Name "set" p2) [e] [] pos2] [] pos) (Ygt f):=⟨have ha:=ha.un;
 PE.imp (Ygh (Ysl hc) hg hm boot_sorted (Ybr (Ygi (Yuq hc) hg2 hm2 boot_set (Ymb ha Ypo hs) (by decide) (by decide) hs hpl) Yep he) (by decide) (by decide) he hpl2) λσ H Q hx_=>by
  obtain⟨ρ,l,H0,G0,G,e,s,h⟩:=hx_;unfold Ygt at e;obtain⟨l0,h1,e⟩:=qa e;obtain⟨d,h2,h3⟩:=Ybo h1;refine tCAof.at (show Yg f aNil ρ=some [d] by simp[Yg,aNil,h2]) s λvs H1 G1 g1 r1 s1=>?_;obtain⟨v,rfl,rv⟩:=Yey r1;obtain⟨q,xs,rfl,hq,rl⟩:=Yt4 (K:=X.K) h3 rv;unfold Yur at e
  split at e
  ·rename_i ns hns
   split at e
   ·rename_i hl
    cases e;cases Ylg hns;cases Yrb rl;refine⟨q,ns,rfl,hq,hl.1,λm ms hm' hp=>?_⟩;have g2:=Gr.hid s1.seen hm' (setO X.prog X.w m ms);have s2:=s1.grow g2;refine⟨m,ms,rfl,Yv,by rw[hp.length_eq];exact hl.2,λr hr=>?_⟩;rw[Yme hp];refine h r _ _ G1 ((g1.trans g2).trans (.hid s2.seen hr _)) ((g1.trans g2).h.free hr) (s2.seen.free hr) Yv (.ints _)
   ·cases e
  ·cases e⟩
theorem Yol(hc:X.calm=true)(hu:X.A.units+64<cLine)(hg:Gl X "sorted")(hm:X.mg "sorted"=none)(hg2:Gl X "set")(hm2:X.mg "set"=none)(ha:ZC X e f)(hs:starEach [e] X.env=[(false,eval e X.env)]:=by rfl)(he:starEach [.Call (.Name "set" p2) [e] [] pos2] X.env=[(false,eval (.Call (.Name "set" p2) [e] [] pos2) X.env)]:=by rfl)(hpl:(backTo pos2 (starEach [] X.env)).any (·.1)=false:=by rfl)(hpl2:(backTo pos (starEach [] X.env)).any (·.1)=false:=by rfl):ZF X (.Call (.Name "sorted" p) [.Call (.Name "set" p2) [e] [] pos2] [] pos) (Ygv f):=⟨have ha:=ha.un;
 PE.imp (Ygh (Yso hc) hg hm boot_sorted (Ybr (Ygi (Yu3 hc hu) hg2 hm2 boot_set (Ymb ha Ypo hs) (by decide) (by decide) hs hpl) Yep he) (by decide) (by decide) he hpl2) λσ H Q hx_=>by
  obtain⟨ρ,l,H0,G0,G,e,s,h⟩:=hx_;unfold Ygv at e;obtain⟨l0,h1,e⟩:=qa e;obtain⟨d,h2,h3⟩:=Ybo h1;refine tCAof.at (show Yg f aNil ρ=some [d] by simp[Yg,aNil,h2]) s λvs H1 G1 g1 r1 s1=>?_;obtain⟨v,rfl,rv⟩:=Yey r1;unfold lstL at h3
  split at h3
  case h_2=>cases h3
  cases h3;rw[Ct]at rv;obtain⟨a,xs,rfl,hq,rl⟩:=rv
  obtain⟨ps,hps⟩:∃ps,prsD l0=some ps:=by
   unfold Ymg at e;obtain⟨ps,h4,_⟩:=qa e;exact⟨ps,h4⟩
  obtain⟨bs,rfl,hA⟩:=Yu4 s1.seen hps rl;obtain⟨k1,k2,k3⟩:=Yxn e hps rl;obtain⟨o1,o2,o3⟩:=hA.once k1;refine⟨a,bs,ps,rfl,.inl hq,hA,k1,k2,λm ms hm' hp=>?_⟩;have g2:=Gr.hid s1.seen hm' (setW X.w m ms);have s2:=s1.grow g2;refine⟨m,ms,oncE bs ps,oncP ps,rfl,Yv,hp,⟨o1.1,λi b q hb hq'=>?_⟩,o2,o3,λr hr=>?_⟩
  ·rw[Yo (Yr (o1.2 i b q hb hq') hm')]
   exact o1.2 i b q hb hq'
  ·refine h r _ _ G1 ((g1.trans g2).trans (.hid s2.seen hr _)) ((g1.trans g2).h.free hr) (s2.seen.free hr) Yv k3⟩
theorem Yxt(he:ZE X e f)(hse:swapsWith e none pos.line X.env=pure false:=by rfl):ZS X (.Expr e pos) (sExp f):=⟨have he:=he.un;PS.imp (Yf0 he hse) λF σ H hx_=>by
 obtain⟨ρ,out,H0,G0,G,e,s,h⟩:=hx_;obtain⟨d,h1,rfl⟩:=qb e
 exact tOf.at h1 s λv H1 G1 g1 r1 s1=>h σ H1 G1 s1⟩
end
end
section
variable {K:W.Frag}
def y7g(K:W.Frag)(j:Nat)(x:Option (Option V))(H0 G0:Hp)(F:Ends):Out->Prop
 | .nx ρ'=>∀σ' H' G',SR K H0 G0 σ' H' G' ρ'->σ'[j]?=x->F.nx σ' H'
 | .rt _=>False
 | .bk ρ'=>∀σ' H' G',SR K H0 G0 σ' H' G' ρ'->σ'[j]?=x->F.bk σ' H'
 | .ct ρ'=>∀σ' H' G',SR K H0 G0 σ' H' G' ρ'->σ'[j]?=x->F.ct σ' H'
def sOfK(K:W.Frag)(j:Nat)(f:AS):TS:=λF σ H=>∃ρ out H0 G0 G,f ρ=some out/\SR K H0 G0 σ H G ρ/\y7g K j σ[j]? H0 G0 F out
structure KS(j:Nat)(X:Cx)(st:Stmt)(f:AS):Prop where
 un:PS X st (sOfK X.K j f)
structure KB(j:Nat)(X:Cx)(sts:List Stmt)(f:AS):Prop where
 un:PSs X sts (sOfK X.K j f)
def sOfR(K:W.Frag)(j r:Nat)(fb:AS):TS:=λF σ H=>∃ρ ρ' l d H0 G0 G,fb ρ=some (.nx ρ')/\getO j ρ'=some l/\getV r (frz [r] ρ')=some d/\SR K H0 G0 σ H G ρ/\
 ∀v σ' H' G',SR K H0 G0 σ' H' G' (frz [r] ρ')->σ'[j]?=σ[j]?->Rp K G' d v->F.rt v H'
structure KR(j r:Nat)(X:Cx)(sts:List Stmt)(f:AS):Prop where
 un:PSs X sts (sOfR X.K j r f)
def sOfL(K:W.Frag)(gl:AW)(fb:AS):TS:=λF σ H=>∃ρ ρ' l H0 G0 G,fb ρ=some (.nx ρ')/\gl ρ'=some l/\SR K H0 G0 σ H G ρ/\
 ∀p xs H' G',Gr H0 G0 H' G'->H0 p=none->G' p=none->H' p=some (.lst xs)->RpL K G' l xs->F.rt (.ref p) H'
structure KL(gl:AW)(X:Cx)(sts:List Stmt)(f:AS):Prop where
 un:PSs X sts (sOfL X.K gl f)
theorem len1{us:AD}(h:us.length=1):∃a0,us=[a0]:=List.length_eq_one_iff.mp h
theorem len2{us:AD}(h:us.length=2):∃a0 a1,us=[a0,a1]:=by
 cases us with
 | nil=>cases h
 | cons a us=>
   obtain⟨b0,rfl⟩:=len1 (Nat.succ.inj h);exact⟨a,b0,rfl⟩
theorem len3{us:AD}(h:us.length=3):∃a0 a1 a2,us=[a0,a1,a2]:=by
 cases us with
 | nil=>cases h
 | cons a us=>
   obtain⟨b0,b1,rfl⟩:=len2 (Nat.succ.inj h);exact⟨a,b0,b1,rfl⟩
theorem len4{us:AD}(h:us.length=4):∃a0 a1 a2 a3,us=[a0,a1,a2,a3]:=by
 cases us with
 | nil=>cases h
 | cons a us=>
   obtain⟨b0,b1,b2,rfl⟩:=len3 (Nat.succ.inj h);exact⟨a,b0,b1,b2,rfl⟩
theorem len5{us:AD}(h:us.length=5):∃a0 a1 a2 a3 a4,us=[a0,a1,a2,a3,a4]:=by
 cases us with
 | nil=>cases h
 | cons a us=>
   obtain⟨b0,b1,b2,b3,rfl⟩:=len4 (Nat.succ.inj h);exact⟨a,b0,b1,b2,b3,rfl⟩
theorem len6{us:AD}(h:us.length=6):∃a0 a1 a2 a3 a4 a5,us=[a0,a1,a2,a3,a4,a5]:=by
 cases us with
 | nil=>cases h
 | cons a us=>
   obtain⟨b0,b1,b2,b3,b4,rfl⟩:=len5 (Nat.succ.inj h);exact⟨a,b0,b1,b2,b3,b4,rfl⟩
theorem len7{us:AD}(h:us.length=7):∃a0 a1 a2 a3 a4 a5 a6,us=[a0,a1,a2,a3,a4,a5,a6]:=by
 cases us with
 | nil=>cases h
 | cons a us=>
   obtain⟨b0,b1,b2,b3,b4,b5,rfl⟩:=len6 (Nat.succ.inj h);exact⟨a,b0,b1,b2,b3,b4,b5,rfl⟩
end
end M
namespace M
open PySem L2
theorem nr{α:Sort _}{a b:α}(h:a=b):a=b:=h
section
variable {ρ:Ro}
@[simp] theorem Yxu{α:Type}(fa fb:AV)(g:D->D->Option α):b2 fa fb g ρ=(fa ρ).bind λx=>(fb ρ).bind λy=>g x y:=nr rfl
@[simp] theorem Ysr{α:Type}(fa:AV)(g:D->Option α):b1 fa g ρ=(fa ρ).bind g:=nr rfl
@[simp] theorem y1w(d:D):kD d ρ=some d:=nr rfl
@[simp] theorem ap_mB(f:AU):mB f ρ=(f ρ).map D.bl:=nr rfl
@[simp] theorem ap_andT(f g:AU):andT f g ρ=(f ρ).bind λk=>if k=true then g ρ else some false:=nr rfl
@[simp] theorem ap_orT(f g:AU):orT f g ρ=(f ρ).bind λk=>if k=true then some true else g ρ:=nr rfl
@[simp] theorem ap_notT(f:AU):notT f ρ=(f ρ).map (!·):=nr rfl
@[simp] theorem ap_andV(f g:AV):andV f g ρ=((f ρ).bind blD).bind λk=>if k=true then g ρ else some (.bl false):=nr rfl
@[simp] theorem ap_notV(f:AV):notV f ρ=((f ρ).bind blD).map λk=>.bl (!k):=nr rfl
@[simp] theorem ap_ifV(c:AU)(f g:AV):ifV c f g ρ=(c ρ).bind λk=>if k=true then f ρ else g ρ:=nr rfl
@[simp] theorem y7h(f:AW):lF f ρ=(f ρ).map D.lst:=nr rfl
@[simp] theorem Yhx:aNil ρ=some []:=nr rfl
@[simp] theorem Ydc(f:AV)(g:AW):Yg f g ρ=(f ρ).bind λd=>(g ρ).map (d::·):=nr rfl
@[simp] theorem ap_dTup(f:AW):dTup f ρ=(f ρ).bind λl=>if l.length<=cap6 then some (.tup l)else none:=nr rfl
@[simp] theorem y1x(f:AW):dLst f ρ=(f ρ).bind λl=>if l.length<=cap6 then some l else none:=nr rfl
@[simp] theorem Yxv(f:AW)(g:AQ->Option D):cC f g ρ=(f ρ).bind g:=nr rfl
@[simp] theorem y5d(f:AW)(g:AQ->Option AQ):cF f g ρ=(f ρ).bind g:=nr rfl
@[simp] theorem ap_slF(f:AV)(lo hi:Option AV):slF f lo hi ρ=((f ρ).bind lstD).bind λl=>(optI lo ρ).bind λi=>(optI hi ρ).bind λj=>some (cutD l i j):=nr rfl
@[simp] theorem ap_optN:optI none ρ=some none:=nr rfl
@[simp] theorem ap_optS(f:AV):optI (some f) ρ=((f ρ).bind intD).map some:=nr rfl
@[simp] theorem ap_sNil:sNil ρ=some (.nx ρ):=nr rfl
@[simp] theorem ap_sSet(i:Nat)(f:AV):sSet i f ρ=(f ρ).map λd=>.nx (ρ.set i (some (.sh d))):=nr rfl
@[simp] theorem y1y(i:Nat)(f:AW):sOwn i f ρ=(f ρ).map λl=>.nx (ρ.set i (some (.ow l))):=nr rfl
@[simp] theorem ap_sRet(f:AV):sRet f ρ=(f ρ).map .rt:=nr rfl
@[simp] theorem y5e(c:AU)(f g:AS):sIf c f g ρ=(c ρ).bind λk=>if k=true then f ρ else g ρ:=nr rfl
@[simp] theorem ap_sMut(i:Nat)(f:AV)(g:AQ->D->Option AQ):sMut i f g ρ=(getO i ρ).bind λl=>(f ρ).bind λd=>(g l d).map λl'=>.nx (ρ.set i (some (.ow l'))):=nr rfl
@[simp] theorem y1z(gl:AW)(gt:AT)(fb:AS):sFor gl gt fb ρ=(gl ρ).bind λds=>forM gt fb ds ρ:=nr rfl
@[simp] theorem ap_fComp(gl:AW)(src:List AM)(gt:AT)(fc:AU)(fe:AV):Yci gl src gt fc fe ρ=(gl ρ).bind λds=>Yhq gt fc fe (capR src ρ) ds:=nr rfl
@[simp] theorem ap_wF(is:AF)(f:AS):wF is f ρ=f (frz is ρ):=nr rfl
def y10(g:AS):Out->Option Out
 | .nx ρ'=>g ρ'
 | o=>some o
@[simp] theorem Yxw(g:AS)(ρ':Ro):y10 g (.nx ρ')=g ρ':=nr rfl
@[simp] theorem thenS_rt(g:AS)(d:D):y10 g (.rt d)=some (.rt d):=nr rfl
@[simp] theorem Yva(f g:AS):sSeq f g ρ=(f ρ).bind (y10 g):=nr rfl
def endB:Out->Option D
 | .rt d=>some d
 | .nx _=>some .non
 | _=>none
@[simp] theorem endB_rt(d:D):endB (.rt d)=some d:=nr rfl
@[simp] theorem endB_nx(ρ:Ro):endB (.nx ρ)=some .non:=nr rfl
theorem Yaq{k n:Nat}{fb:AS}{ds:AQ}(h:ds.length=k):runB k n fb ds=(fb (Yw n ds)).bind endB:=by
 unfold runB;rw[if_pos h];rfl
@[simp] theorem ap_lendT(is:AF)(f:AU):Yod is f ρ=f (frz is ρ):=nr rfl
@[simp] theorem frz_nil:frz [] ρ=ρ:=nr rfl
@[simp] theorem frz_cons(i:Nat)(is:AF):frz (i::is) ρ=frz is (frz1 i ρ):=nr rfl
end
@[simp] theorem add_int'(i j:Int):addI (.int i) (.int j)=some (.int (i+j)):=nr rfl
@[simp] theorem sub_int'(i j:Int):subI (.int i) (.int j)=some (.int (i-j)):=nr rfl
theorem Yxx{i j:Int}(h:-(2^64)<i/\i<2^64):mulI (.int i) (.int j)=some (.int (i*j)):=by
 simp only[mulI,i2];rw[if_pos];simp only[Bool.or_eq_true,Qf,wm];exact .inl h
@[simp] theorem Yxy{i j:Int}(h:0<j)(h':j<1073741824):divI (.int i) (.int j)=some (.int (i/j)):=by
 simp only[divI,i2];rw[if_pos];simp only[Qf,wm];exact⟨h,h'⟩
@[simp] theorem Ygx{i j:Int}(h:0<j):modI (.int i) (.int j)=some (.int (i%j)):=by
 simp only[modI,i2];rw[if_pos];simp only[wm];exact h
@[simp] theorem lt_int'(i j:Int):ltI (.int i) (.int j)=some (decide (i<j)):=nr rfl
@[simp] theorem gt_int'(i j:Int):gtI (.int i) (.int j)=some (decide (j<i)):=nr rfl
@[simp] theorem ge_int'(i j:Int):geI (.int i) (.int j)=some (decide (j<=i)):=nr rfl
@[simp] theorem blD_bl(b:Bool):blD (.bl b)=some b:=nr rfl
@[simp] theorem truD_bl(b:Bool):truD (.bl b)=some b:=nr rfl
@[simp] theorem itemsOf_tup(l:AQ):Yp (.tup l)=some l:=nr rfl
@[simp] theorem itemsOf_lst(l:AQ):Yp (.lst l)=some l:=nr rfl
@[simp] theorem itemsOf_scr(ns:AG):Yp (.scr ns)=some (ns.map D.int):=nr rfl
@[simp] theorem lenC_one(c:D):lenC [c]=(Yp c).map λl=>.int l.length:=nr rfl
@[simp] theorem tupC_one(c:D):tupC [c]=(Yp c).map D.tup:=nr rfl
@[simp] theorem listF_one(c:D):Yn4 [c]=Yp c:=nr rfl
@[simp] theorem intC_bl(b:Bool):intC [.bl b]=some (.int (if b then 1 else 0)):=nr rfl
@[simp] theorem y11(c:D)(i:Int):ixD c (.int i)=(Yp c).bind λl=>atI l i:=nr rfl
@[simp] theorem lstD_lst(l:AQ):lstD (.lst l)=some l:=nr rfl
@[simp] theorem lstD_scr(ns:AG):lstD (.scr ns)=some (ns.map D.int):=nr rfl
@[simp] theorem intD_int(i:Int):intD (.int i)=some i:=nr rfl
@[simp] theorem negI_int(i:Int):negI (.int i)=some (.int (-i)):=nr rfl
@[simp] theorem y12(i j:Int):eqD (.int i) (.int j)=(i==j):=by simp[eqD,toPy,PyData.eqv]
@[simp] theorem y5f(i j:Bool):eqD (.bl i) (.bl j)=(i==j):=by simp[eqD,toPy,PyData.eqv]
@[simp] theorem Yvb(i j:Str):eqD (.str i) (.str j)=(i==j):=by simp[eqD,toPy,PyData.eqv]
@[simp] theorem y13(l m:AQ):eqD (.tup l) (.tup m)=eqL l m:=by simp[eqD,eqL,toPy,PyData.eqv]
@[simp] theorem eqL_nil:eqL [] []=true:=by simp[eqL,Yfp,PyData.eqvAll]
@[simp] theorem Yxz(a b:D)(l m:AQ):eqL (a::l) (b::m)=(eqD a b&&eqL l m):=by simp[eqL,eqD,Yfp,PyData.eqvAll]
@[simp] theorem dep_int(i:Int):dep (.int i)=0:=by simp[dep]
@[simp] theorem dep_bl(i:Bool):dep (.bl i)=0:=by simp[dep]
@[simp] theorem dep_str(i:Str):dep (.str i)=0:=by simp[dep]
@[simp] theorem dep_tup(l:AQ):dep (.tup l)=depL l+1:=by simp[dep]
@[simp] theorem depL_nil:depL []=0:=by simp[depL]
@[simp] theorem depL_cons(d:D)(l:AQ):depL (d::l)=max (dep d) (depL l):=by simp[depL]
theorem Yji{neg:Bool}{d e:D}(h:dep d<=60)(h':dep e<=60):eqM neg d e=some (if neg then !eqD d e else eqD d e):=by
 unfold eqM;rw[if_pos ⟨h,h'⟩]
theorem Ygy{gt:AT}{fc:AU}{fe:AV}{ρ:Ro}{α:Type}(enc:α->D)(p:α->Bool)(f:α->D):∀(l:List α),(∀a∈l,∃ρ1,gt (enc a) ρ=some ρ1/\fc ρ1=some (p a)/\(p a=true->fe ρ1=some (f a)))->
 Yhq gt fc fe ρ (l.map enc)=some ((l.filter p).map f)
 | [],_=>rfl
 | a::l,h=>by
   obtain⟨ρ1,h1,h2,h3⟩:=h a qg;have ih:=Ygy enc p f l λb hb=>h b (qf _ hb);rw[q0,Yhq,h1,qc,h2,qc]
   cases hp:p a with
   | true=>
     rw[if_pos rfl,h3 hp,qc,ih,List.filter_cons_of_pos hp];rfl
   | false=>rw[if_neg qh,ih,List.filter_cons_of_neg (by rw[hp];exact qh)]
@[simp] theorem atI_zero{α:Type}(a:α)(l:List α):atI (a::l) 0=some a:=by
 have:=Yly (xs:=a::l) (j:=0) (v:=a) rfl;simpa using this
@[simp] theorem atI_one{α:Type}(a b:α)(l:List α):atI (a::b::l) 1=some b:=by
 have:=Yly (xs:=a::b::l) (j:=1) (v:=b) rfl;simpa using this
theorem y5g{α:Type}{l:List α}{i:Int}{j:Nat}{v:α}(hi:i=(j:Int))(h:l[j]?=some v):atI l i=some v:=by
 subst hi;exact Yly h
theorem Ycr{gt:AT}{fb:AS}{α:Type}(enc:α->D)(I:List α->Ro->Prop):∀(l pre:List α) (ρ:Ro),I pre ρ->
 (∀q a r ρ,pre++l=q++a::r->I q ρ->∃ρ1 ρ2,gt (enc a) ρ=some ρ1/\fb ρ1=some (.nx ρ2)/\I (q++[a]) ρ2)->∃ρ',M.forM gt fb (l.map enc) ρ=some (.nx ρ')/\I (pre++l) ρ'
 | [],pre,ρ,h0,_=>⟨ρ,rfl,by rw[jb];exact h0⟩
 | a::l,pre,ρ,h0,hs=>by
   obtain⟨ρ1,ρ2,e1,e2,h2⟩:=hs pre a l ρ rfl h0;obtain⟨ρ',e3,h3⟩:=Ycr enc I l (pre++[a]) ρ2 h2 λq b r ρ e hI=>hs q b r ρ (by rw[<-e,jc];rfl) hI;refine⟨ρ',?_,by rw[jc]at h3;exact h3⟩;rw[q0,M.forM,e1,qc,e2,qc];exact e3
theorem Yf8(a n:Int):rngD a n=(List.range (n-a).toNat).map λi=>D.int (a+(i:Nat)):=rfl
theorem Yjj{n:Int}(h:-1000000<=n)(h':n<=1000000):rng1 [.int n]=some (rngD 0 n):=by
 have hcap:(cap6:Int)=1000000:=by decide
 simp only[rng1];rw[if_pos];simp only[Qf,wm];lia
theorem Yvc{a n:Int}(h:-1000000<=n)(h':n<=1000000)(h2:-1000000<=a)(h3:a<=1000000):rng2 [.int a,.int n]=some (rngD a n):=by
 have hcap:(cap6:Int)=1000000:=by decide
 simp only[rng2];rw[if_pos];simp only[Qf,wm];lia
theorem y14{α:Type}{l:List α}{i:Int}(h0:0<=i)(h:i<(l.length:Int)):∃v,v∈l/\atI l i=some v:=by
 have hk:i.toNat<l.length:=by lia
 exact⟨l[i.toNat],List.getElem_mem hk,y5g (j:=i.toNat) (by lia) (qp hk)⟩
theorem Ya5{α:Type}{l:List α}{i:Nat}(h:i<l.length):atI l (i:Int)=some l[i]:=Yly (qp h)
theorem Ybw{α β:Type}(f:α->β)(l:List α)(i:Int):atI (l.map f) i=(atI l i).map f:=by
 unfold atI;rw[qe]
 cases ixN l.length i with
 | none=>rfl
 | some j=>
   show(l.map f)[j]?=(l[j]?).map f;rw[Qe]
@[simp] theorem nat_eq_iff(x b:Nat):((x:Int)=(b:Int))↔x=b:=by lia
@[simp] theorem eqM_int(neg:Bool)(i j:Int):eqM neg (.int i) (.int j)=some (if neg then !decide (i=j)else decide (i=j)):=by
 rw[Yji (by simp) (by simp),y12];rfl
@[simp] theorem eqM_bl(neg:Bool)(i j:Bool):eqM neg (.bl i) (.bl j)=some (if neg then !(i==j)else i==j):=by
 rw[Yji (by simp) (by simp),y5f]
@[simp] theorem isN_non(neg:Bool):isN neg .non .non=some (if neg then false else true):=by cases neg<;>rfl
@[simp] theorem isN_int(neg:Bool)(i:Int):isN neg (.int i) .non=some (if neg then true else false):=by cases neg<;>rfl
@[simp] theorem isN_bl(neg:Bool)(l:Bool):isN neg (.bl l) .non=some (if neg then true else false):=by cases neg<;>rfl
@[simp] theorem Ymk{α:Type}(f:α->Bool):∀l:List α,blsD (l.map λa=>.bl (f a))=some (l.map f)
 | []=>rfl
 | a::l=>by rw[q0,blsD,Ymk f l];rfl
@[simp] theorem Yom{α:Type}(f:α->Int):∀l:List α,Yfq (l.map λa=>.int (f a))=some (l.map f)
 | []=>rfl
 | a::l=>by rw[q0,Yfq,Yom f l];rfl
@[simp] theorem Yvd(l:AG):Yfq (l.map D.int)=some l:=by simpa using Yom id l
@[simp] theorem anyC_lst(l:AQ):anyC [.lst l]=(blsD l).map λbs=>.bl (bs.any id):=nr rfl
@[simp] theorem allC_lst(l:AQ):allC [.lst l]=(blsD l).map λbs=>.bl (bs.all id):=nr rfl
@[simp] theorem ap_sMut2{ρ:Ro}(i:Nat)(fi f:AV)(g:AQ->D->D->Option AQ):Yi8 i fi f g ρ=(f ρ).bind λd=>(getO i ρ).bind λl=>(fi ρ).bind λk=>(g l k d).map λl'=>.nx (ρ.set i (some (.ow l'))):=nr rfl
@[simp] theorem enumD_of(c:D):Yxh c=(Yp c).map Ymd:=nr rfl
@[simp] theorem y15:cap6=1000000:=nr rfl
@[simp] theorem gV0(d:D)(r:Ro):getV 0 (some (.sh d)::r)=some d:=nr rfl
@[simp] theorem gC0(d:D)(r:Ro):getC 0 (some (.sh d)::r)=some d:=nr rfl
@[simp] theorem gC0o(l:AQ)(r:Ro):getC 0 (some (.ow l)::r)=some (.lst l):=nr rfl
@[simp] theorem gO0(l:AQ)(r:Ro):getO 0 (some (.ow l)::r)=some l:=nr rfl
@[simp] theorem gVs(n:Nat)(b:AR)(r:Ro):getV (n+1) (b::r)=getV n r:=by simp[getV]
@[simp] theorem gCs(n:Nat)(b:AR)(r:Ro):getC (n+1) (b::r)=getC n r:=by simp[getC]
@[simp] theorem gOs(n:Nat)(b:AR)(r:Ro):getO (n+1) (b::r)=getO n r:=by simp[getO]
@[simp] theorem frz0o(l:AQ)(r:Ro):frz1 0 (some (.ow l)::r)=some (.sh (.lst l))::r:=nr rfl
@[simp] theorem frz_s(n:Nat)(b:AR)(r:Ro):frz1 (n+1) (b::r)=b::frz1 n r:=by
 unfold frz1;rw[List.getElem?_cons_succ]
 cases h:r[n]? with
 | none=>rfl
 | some o=>
   cases o with
   | none=>rfl
   | some b=>cases b<;>rfl
theorem Yve{a b:AQ}(h:a.length+b.length<=1000000):catD (.lst a) (.lst b)=some (a++b):=if_pos h
theorem Yml{l:AQ}{d:D}(h:l.length<1000000):appD l d=some (l++[d]):=if_pos h
theorem Yp5{fe:AV}{r:Ro}{α:Type}{enc:α->D}(f:α->D){l:List α}(h:∀a∈l,fe (some (.sh (enc a))::r)=some (f a)):Yhq (gSet 0) tY fe (none::r) (l.map enc)=some (l.map f):=by
 have:=Ygy (gt:=gSet 0) (fc:=tY) (fe:=fe) (ρ:=none::r) enc (λ_=>true) f l λa ha=>⟨_,rfl,rfl,λ_=>h a ha⟩
 rw[List.filter_eq_self.mpr (λ_ _=>rfl)]at this;exact this
theorem Yrh{fc:AU}{fe:AV}{r:Ro}{α:Type}{enc:α->D}(p:α->Bool)(f:α->D){l:List α}(h1:∀a∈l,fc (some (.sh (enc a))::r)=some (p a))(h2:∀a∈l,p a=true->fe (some (.sh (enc a))::r)=some (f a)) :
 Yhq (gSet 0) fc fe (none::r) (l.map enc)=some ((l.filter p).map f):=
 Ygy (gt:=gSet 0) enc p f l λa ha=>⟨_,rfl,h1 a ha,h2 a ha⟩
theorem y5h{fc:AU}{fe:AV}{r:Ro}{α:Type}{e1 e2:α->D}(p:α->Bool)(f:α->D){l:List α}(h1:∀a∈l,fc (some (.sh (e1 a))::some (.sh (e2 a))::r)=some (p a))(h2:∀a∈l,p a=true->fe (some (.sh (e1 a))::some (.sh (e2 a))::r)=some (f a)) :
 Yhq (Ypp 0 1) fc fe (none::none::r) (l.map λa=>.tup [e1 a,e2 a])=some ((l.filter p).map f):=
 Ygy (gt:=Ypp 0 1) (λa=>.tup [e1 a,e2 a]) p f l λa ha=>⟨_,rfl,h1 a ha,h2 a ha⟩
theorem Yvf{α:Type}(enc:α->D)(d:α)(l:List α):Ymd (l.map enc)=(List.range l.length).map λi=>.tup [.int i,enc (l.getD i d)]:=by
 unfold Ymd;rw[qe];refine List.map_congr_left λi hi=>?_;have h:=qz hi;simp[h]
end M
namespace Bk
open PySem L2 M
abbrev Say:=Nat×Bool
abbrev AY:=List Say
abbrev AX:=List AY
inductive Kd where
 | e|s|i|n
 deriving DecidableEq
inductive Rl where
 | ei (l:AY)
 | su (b:AF) (o:Bool)
 | im (b:AF) (h:AM)
 deriving DecidableEq
def kS:Kd->Str
 | .e=>Str.ofString "eithers"
 | .s=>Str.ofString "sums"
 | .i=>Str.ofString "ifs"
 | .n=>Str.ofString "nots"
def kdD(k:Kd):D:=.str (kS k)
abbrev nD(n:Nat):D:=.int n
def sayD(s:Say):D:=.tup [.int s.1,.bl s.2]
def optD:AM->D
 | none=>.non
 | some n=>.int n
def rlD:Rl->D
 | .ei l=>.tup (l.map sayD)
 | .su b o=>.tup [.tup (b.map nD),.bl o]
 | .im b h=>.tup [.tup (b.map nD),optD h]
def Yn(k:Kd)(R:List Rl):D:=.tup [kdD k,.tup (R.map rlD)]
@[simp] theorem dep_kd(k:Kd):dep (kdD k)=0:=by simp[kdD]
theorem y5i:∀{k j:Kd},kS k=kS j->k=j:=by
 intro k j
 cases k<;>cases j<;>first|(intro _;rfl)|(intro h;exact absurd h (by decide +kernel))
@[simp] theorem Yzn(k j:Kd):eqD (kdD k) (kdD j)=decide (k=j):=by
 rw[kdD,kdD,Yvb];by_cases h:k=j
 ·simp[h]
 ·have h':¬kS k=kS j:=λe=>h (y5i e)
  simp[h,h']
theorem Yvg(neg:Bool)(k j:Kd):eqM neg (kdD k) (kdD j)=some (if neg then !decide (k=j)else decide (k=j)):=by
 rw[Yji (by simp) (by simp),Yzn]
@[simp] theorem eqM_e(neg:Bool)(k:Kd):eqM neg (kdD k) (.str (Str.ofString "eithers"))=some (if neg then !decide (k=.e)else decide (k=.e)):=Yvg neg k .e
@[simp] theorem eqM_s(neg:Bool)(k:Kd):eqM neg (kdD k) (.str (Str.ofString "sums"))=some (if neg then !decide (k=.s)else decide (k=.s)):=Yvg neg k .s
@[simp] theorem eqM_i(neg:Bool)(k:Kd):eqM neg (kdD k) (.str (Str.ofString "ifs"))=some (if neg then !decide (k=.i)else decide (k=.i)):=Yvg neg k .i
@[simp] theorem ix_say0(s:Say):(Yp (sayD s)).bind (λl=>atI l 0)=some (.int s.1):=by simp[sayD]
@[simp] theorem ix_say1(s:Say):(Yp (sayD s)).bind (λl=>atI l 1)=some (.bl s.2):=by simp[sayD]
@[simp] theorem items_ei(l:AY):Yp (rlD (.ei l))=some (l.map sayD):=nr rfl
@[simp] theorem items_su(b:AF)(o:Bool):Yp (rlD (.su b o))=some [.tup (b.map nD),.bl o]:=nr rfl
@[simp] theorem items_im(b:AF)(h:AM):Yp (rlD (.im b h))=some [.tup (b.map nD),optD h]:=nr rfl
@[simp] theorem items_book(k:Kd)(R:List Rl):Yp (Yn k R)=some [kdD k,.tup (R.map rlD)]:=nr rfl
def at'(ev:AH)(n:Nat):Bool:=ev.getD n false
theorem Yss{ev:AH}{n:Nat}(h:n<ev.length):atI (ev.map D.bl) (n:Int)=some (.bl (at' ev n)):=by
 rw[Ybw,Ya5 h];simp[at',h]
def In(k:Kd)(n:Nat):Rl->Prop
 | .ei l=>k=.e/\∀s∈l,s.1<n
 | .su b _=>k=.s/\∀x∈b,x<n
 | .im b h=>(k=.i\/k=.n)/\(∀x∈b,x<n)/\∀x,h=some x->x<n
def slt(s t:Say):Prop:=s.1<t.1\/(s.1=t.1/\s.2=false/\t.2=true)
def Srt:Rl->Prop
 | .ei l=>l.length<=2/\l.Pairwise slt
 | .su b _=>b.Pairwise (·<·)
 | .im b _=>b.Pairwise (·<·)
def hd(ev:AH)(w:Bool):AM->Bool
 | none=>false
 | some x=>at' ev x==w
def nth(R:List Rl)(i:Nat):Rl:=R.getD i (.ei [])
theorem y16{R:List Rl}{i:Nat}(h:i<R.length):nth R i∈R:=by simp[nth,h]
theorem y17(R:List Rl):Ymd (R.map rlD)=(List.range R.length).map λi:Nat=>.tup [.int (i:Int),rlD (nth R i)]:=Yvf rlD (.ei []) R
def so(k:Kd)(ev:AH):Rl->Bool
 | .ei l=>l.any λs=>at' ev s.1==s.2
 | .su b o=>decide ((b.filter (at' ev)).length%2=1)==o
 | .im b h=>(b.any λx=>at' ev x != decide (k=.i))||hd ev (decide (k=.i)) h
end Bk
namespace Bk
def brk(k:Kd)(ev:AH)(R:List Rl):AF:=(List.range R.length).filter λi=>!so k ev (nth R i)
end Bk
namespace Bk
open PySem L2 M
mutual
def Pl:D->Prop
 | .tup l=>l.length<=1000000/\PlL l
 | .lst _=>False
 | .scr _=>False
 | .dct _ _ _=>False
 | .obj _ _ _=>False
 | .adr _=>False
 | _=>True
def PlL:AQ->Prop
 | []=>True
 | d::l=>Pl d/\PlL l
end
theorem PlL_iff:∀{l:AQ},PlL l↔∀d∈l,Pl d
 | []=>by simp[PlL]
 | d::l=>by simp[PlL,PlL_iff (l:=l)]
def sz:Rl->Nat
 | .ei l=>l.length
 | .su b _=>b.length
 | .im b _=>b.length
theorem Yvh{n:Nat}:∀{l:AF}{a:Nat},l.Pairwise (·<·)->(∀x∈l,a<=x/\x<n)->l.length<=n-a
 | [],_,_,_=>Qc _
 | x::l,a,h,hl=>by
   have hx:=hl x qg;have hp:=List.pairwise_cons.mp h
   have ih:=Yvh (n:=n) (l:=l) (a:=x+1) hp.2 λy hy=>⟨hp.1 y hy,(hl y (qf _ hy)).2⟩
   rw[qq];lia
theorem y5j{n:Nat}{l:AF}(h:l.Pairwise (·<·))(hl:∀x∈l,x<n):l.length<=n:=Yvh (a:=0) h λx hx=>⟨Qc _,hl x hx⟩
end Bk
namespace Bk
def bcs:Rl->AF
 | .ei l=>l.map (·.1)
 | .su b _=>b
 | .im b none=>b
 | .im b (some x)=>b++[x]
end Bk
namespace Bk
open PySem L2 M
theorem Yzo{k:Kd}{n:Nat}{r:Rl}(h:In k n r):∀x∈bcs r,x<n:=by
 cases r with
 | ei l=>
   intro x hx;obtain⟨s,hs,rfl⟩:=qw hx;exact h.2 s hs
 | su b o=>exact h.2
 | im b o=>
   intro x hx
   cases o with
   | none=>exact h.2.1 x hx
   | some y=>
     rcases qu hx with hx|hx
     ·exact h.2.1 x hx
     ·rw[List.mem_singleton.mp hx];exact h.2.2 y rfl
mutual
theorem Yri:∀d:D,Pl d->eqD d d=true
 | .non,_=>by simp[eqD,toPy,PyData.eqv]
 | .bl b,_=>by simp
 | .int i,_=>by simp
 | .str x,_=>by simp
 | .tup l,h=>by
   rw[Pl]at h;rw[y13];exact Yrj l h.2
 | .lst l,h=>by rw[Pl]at h;exact h.elim
 | .scr l,h=>by rw[Pl]at h;exact h.elim
 | .dct _ _ _,h=>by rw[Pl]at h;exact h.elim
 | .obj _ _ _,h=>by rw[Pl]at h;exact h.elim
 | .adr _,h=>by rw[Pl]at h;exact h.elim
theorem Yrj:∀l:AQ,PlL l->eqL l l=true
 | [],_=>by simp
 | d::l,h=>by
   rw[PlL]at h;rw[Yxz,Yri d h.1,Yrj l h.2];rfl
end
theorem Yx0{d:D}(h:Pl d)(hd:dep d<=60)(neg:Bool):eqM neg d d=some (!neg):=by
 rw[Yji hd hd,Yri d h];cases neg<;>rfl
end Bk
namespace M
open PySem PySem.Spec PyProof.Rows L2
section
variable {K:W.Frag}
section
variable {X:Cx}{pos:Pos}
def Ygz(i j k:Nat):AT:=λd ρ=>match d with
 | .tup [a,b,c]=>some (((ρ.set i (some (.sh a))).set j (some (.sh b))).set k (some (.sh c)))
 | _=>none
theorem Yrk(i j k:Nat){x y z:Str}{px py pz:Pos}{n:Nat}(hc:X.calm=true)(hN:X.N.Nodup)(hi:X.N[i]?=some x:=by rfl)(hj:X.N[j]?=some y:=by rfl)(hk:X.N[k]?=some z:=by rfl)(hx:Loc X.env.scope x:=by trivial)(hy:Loc X.env.scope y:=by trivial)(hz:Loc X.env.scope z:=by trivial)
 (hf:X.fn x=true\/X.env.scope.names.lookup x=some .local:=by trivial) (hf2:X.fn y=true\/X.env.scope.names.lookup y=some .local:=by trivial) (hf3:X.fn z=true\/X.env.scope.names.lookup z=some .local:=by trivial):ZG X (.Tuple [.Name x px,.Name y py,.Name z pz] n pos) (Ygz i j k):=⟨
 PG.imp (Yy2 (n:=3) hc (Ygg (Yhm hN hi hx hf) (Ygg (Yhm hN hj hy hf2) (Ygg (Yhm hN hk hz hf3) Ys8)))) λv σ H Q hx_=>by
  obtain⟨d,ρ,ρ',H0,G0,G,e,s,r,h⟩:=hx_
  match d,e,r with
  | .tup [a,b,c],e,r=>
    cases e;rw[Rp]at r;obtain⟨p,xs,rfl,g,rl⟩:=r;rw[RpL]at rl;obtain⟨u,us,rfl,ru,rl⟩:=rl;rw[RpL]at rl;obtain⟨w,ws,rfl,rw',rl⟩:=rl;obtain⟨t,rfl,rt⟩:=Yi3 rl
    exact⟨p,[u,w,t],rfl,.inl (.inl (s.seen _ _ g)),rfl,u,[w,t],rfl,w,[t],rfl,t,[],rfl,rfl,h _ (((s.set_sh i ru).set_sh j rw').set_sh k rt)⟩⟩
end
end
section
variable {K:W.Frag}
def fldD(c f:Str):D->Option D
 | .obj c' ks vs=>if c'=c then (ks.zip vs).lookup f else none
 | _=>none
def CF(K:W.Frag)(c f:Str):Prop:=∀C,W.nsIn K mainGlobals c=some (some (.ref C))->Cls K C/\NoAttr K C f
theorem RpL.look{G:Hp}{f:Str}:∀{ks:AK}{vs:AQ}{xs:AN}{d:D},RpL K G vs xs->(ks.zip vs).lookup f=some d->∃v,(ks.zip xs).lookup f=some v/\Rp K G d v
 | [],_,_,_,_,e=>by simp at e
 | _::_,[],_,_,_,e=>by simp at e
 | k::ks,d'::vs,xs,d,r,e=>by
   rw[RpL]at r;obtain⟨x,xs',rfl,g,q⟩:=r;rw[List.zip_cons_cons,Qg]at e ⊢
   cases h:(f==k)with
   | true=>
     rw[h]at e;cases e;exact⟨x,rfl,g⟩
   | false=>
     rw[h]at e;exact RpL.look q e
section
variable {X:Cx}{e o:Expr}{fa fo:AV}{pos apos:Pos}{c f:Str}
def Okm(P:Program)(w:World)(K:W.Frag)(mg:AE)(base:Heap)(k:Nat)(c m:Str)(ps:AK)(sp:Sp):Prop:=
 ∃C f fd,FnOk P w K mg base CX0 k f fd ps sp/\Binds K fd ps []/\W.nsIn K mainGlobals c=some (some (.ref C))/\Cls K C/\Meth K C m f
def mthD(c m:Str)(fn:AQ->Option D):D->Option D
 | .obj c' ks vs=>if c'=c/\m∉ks then fn [.obj c' ks vs]else none
 | _=>none
theorem Ymm{f:Str}:∀{ks:AK}{xs:AN},f∉ks->(ks.zip xs).lookup f=none
 | [],_,_=>by simp
 | _::_,[],_=>by simp
 | k::ks,x::xs,h=>by
   rw[List.zip_cons_cons,Qg]
   have h1:(f==k)=false:=by
    rw[beq_eq_false_iff_ne];exact λz=>h (by rw[z];exact qg)
   rw[h1];exact Ymm λz=>h (qf _ z)
end
end
section
variable {K:W.Frag}
inductive OutW (τ:Type) where
 | nx (ρ:Ro) (t:τ)|rt (d:D) (t:τ)|bk (ρ:Ro) (t:τ)|ct (ρ:Ro) (t:τ)
def Off(l:Addr)(H H':Hp):Prop:=∀a,a≠l->H' a=H a
structure WR(K:W.Frag)(l:Addr)(o:HO)(H0 G0:Hp)(σ:L2.St)(H G:Hp)(ρ:Ro):Prop where
 sr:SR K H0 G0 σ H G ρ
 g0:G0 l=none
 h0:H0 l=some o
def y7i{τ:Type}(rep:τ->HO)(K:W.Frag)(l:Addr)(H0 G0:Hp)(F:Ends):OutW τ->Prop
 | .nx ρ' t=>∀σ' H' G' H1,Off l H0 H1->WR K l (rep t) H1 G0 σ' H' G' ρ'->F.nx σ' H'
 | .rt d t=>∀v H' G' H1,Off l H0 H1->H1 l=some (rep t)->Gr H1 G0 H' G'->Rp K G' d v->F.rt v H'
 | .bk ρ' t=>∀σ' H' G' H1,Off l H0 H1->WR K l (rep t) H1 G0 σ' H' G' ρ'->F.bk σ' H'
 | .ct ρ' t=>∀σ' H' G' H1,Off l H0 H1->WR K l (rep t) H1 G0 σ' H' G' ρ'->F.ct σ' H'
def sOfW{τ:Type}(rep:τ->HO)(K:W.Frag)(l:Addr)(f:Ro->τ->Option (OutW τ)):TS:=λF σ H=>∃ρ t out H0 G0 G,f ρ t=some out/\WR K l (rep t) H0 G0 σ H G ρ/\y7i rep K l H0 G0 F out
abbrev WS{τ:Type}(rep:τ->HO)(X:Cx)(l:Addr)(st:Stmt)(f:Ro->τ->Option (OutW τ)):Prop:=PS X st (sOfW rep X.K l f)
abbrev WB{τ:Type}(rep:τ->HO)(X:Cx)(l:Addr)(sts:List Stmt)(f:Ro->τ->Option (OutW τ)):Prop:=PSs X sts (sOfW rep X.K l f)
section
variable {τ:Type}{rep:τ->HO}{X:Cx}{l:Addr}{st:Stmt}{sts:List Stmt}{fs gs:Ro->τ->Option (OutW τ)}{pos:Pos}{tg:Expr}{gl:AW}
def WT(rep:τ->HO)(X:Cx)(l:Addr)(c:Expr)(f:Ro->τ->Option Bool):Prop:=PT X c λσ H Q=>∃ρ t k H0 G0 G,f ρ t=some k/\WR X.K l (rep t) H0 G0 σ H G ρ/\∀H' G',Gr H G H' G'->Q k H'
end
end
section
variable {K:W.Frag}
abbrev wl(t:AH):HO:=.lst (t.map V.bl)
abbrev wks:AK:=["book","hands","truths"]
abbrev watD(b h x:D):D:=.obj "Watch" wks [b,h,x]
theorem Yvi{G:Hp}:∀t:AH,RpL K G (t.map D.bl) (t.map V.bl)
 | []=>.nil
 | b::t=>.cons (by rw[Rp]) (Yvi t)
theorem RpL.three{G:Hp}{a b c:D}{xs:AN}(r:RpL K G [a,b,c] xs):∃x y z,xs=[x,y,z]/\Rp K G a x/\Rp K G b y/\Rp K G c z:=by
 rw[RpL]at r;obtain⟨x,r1,rfl,h1,r⟩:=r;rw[RpL]at r;obtain⟨y,r2,rfl,h2,r⟩:=r;rw[RpL]at r;obtain⟨z,r3,rfl,h3,r⟩:=r;rw[RpL]at r;subst r;exact⟨x,y,z,rfl,h1,h2,h3⟩
end
section
variable {K:W.Frag}
end
section
variable {K:W.Frag}
def ifP(p:Prop)(a:Option Out):Option Out:=@ite _ p (Classical.propDecidable p) a none
theorem Yp6{p:Prop}{a:Option Out}(h:p):ifP p a=a:=@if_pos p (Classical.propDecidable p) h _ _ _
theorem Yx2{p:Prop}{a:Option Out}{o:Out}(e:ifP p a=some o):p/\a=some o:=by
 by_cases h:p
 ·rw[Yp6 h]at e
  exact⟨h,e⟩
 ·have:ifP p a=none:=@if_neg p (Classical.propDecidable p) h _ _ _
  rw[this]at e;cases e
end
section
abbrev Wm:=Ro->AH->Option (OutW AH)
structure ZWS(X:Cx)(l:Addr)(st:Stmt)(f:Wm):Prop where
 un:WS wl X l st f
structure ZWB(X:Cx)(l:Addr)(sts:List Stmt)(f:Wm):Prop where
 un:WB wl X l sts f
structure ZWT(X:Cx)(l:Addr)(c:Expr)(f:Ro->AH->Option Bool):Prop where
 un:WT wl X l c f
section
variable {X:Cx}{l:Addr}{st:Stmt}{sts:List Stmt}{fs gs:Wm}{pos apos:Pos}{tg e o:Expr}{gl:AW}{f fa fo:AV}{c m:Str}
theorem Ybj{f:Str}(k:CF X.K c f)(he:ZE X e fa)(hb:attributeBase e f X.env (eval e X.env)=eval e X.env:=by rfl):ZE X (.Attribute e f pos) (b1 fa (fldD c f)):=⟨have he:=he.un;
 PE.imp (Yy7 he hb) λσ H Q hx_=>by
  obtain⟨ρ,d,H0,G0,G,e,s,h⟩:=hx_;obtain⟨x,h1,h2⟩:=Ybo e;refine tOf.at h1 s λv H1 G1 g1 r1 s1=>?_
  cases x with
  | obj c' ks vs=>
    change (if c'=c then (ks.zip vs).lookup f else none)=some d at h2
    by_cases hc:c'=c
    ·rw[if_pos hc]at h2
     subst hc;rw[Rp]at r1;obtain⟨a,C,dx,xs,rfl,n,g,l,q⟩:=r1;obtain⟨v,hv,rv⟩:=q.look h2;exact⟨a,C,dx,_,v,rfl,s1.seen _ _ g,(k C n).1,(k C n).2,hv,h v H1 G1 g1 rv⟩
    ·rw[if_neg hc]at h2
     cases h2
  | _=>cases h2⟩
theorem Ybx{j k:Nat}{ps:AK}{fn:AQ->Option D}{pl:Sem Bool}(O:Okm X.prog X.w X.K X.mg X.base j c m ps (spOf X.K 1 fn))(hr:Room k X.A)(ho:ZE X o fo)(hj:j<=k:=by first|exact qt _|omega)
 (ht:eval (.Call (.Attribute o m apos) [] [] pos) X.env=(do
  let ov <-eval o X.env
  standAt apos.atName
  let (f,first) <-holding [ov] (getMethod ov m pl)
  callWith pos f first (backTo pos (starEach [] X.env)) (backToKw pos (keywordEach [] X.env))):=by rfl):ZE X (.Call (.Attribute o m apos) [] [] pos) (b1 fo (mthD c m fn)):=⟨have ho:=ho.un;by
 intro pins s σ H Q I hx_;obtain⟨ρ,d,H0,G0,G,e,sr,h⟩:=hx_;obtain⟨x,h1,h2⟩:=Ybo e
 cases x with
 | obj c' ks vs=>
   change (if c'=c/\m∉ks then fn [.obj c' ks vs]else none)=some d at h2
   by_cases hc:c'=c/\m∉ks
   ·rw[if_pos hc]at h2
    obtain⟨rfl,hm⟩:=hc;obtain⟨C,f,fd,F,hb,hn,cl,me⟩:=O;refine Yws (E:=E0) ho cl me F (hr.mono hj) hb .nil Ysb ht pins s σ H Q I ?_;refine tOf.at h1 sr λv H1 G1 g1 r1 s1=>?_;rw[Rp]at r1;obtain⟨a,C',dx,xs,rfl,n,g,l,q⟩:=r1;rw[hn]at n;cases n;refine⟨a,dx,_,rfl,s1.seen _ _ g,Ymm hm,?_⟩;refine⟨rfl,[_],d,G1,s1.seen,.one ?_,h2,λv H' G' g2 r2=>h v H' G' (g1.trans g2) r2⟩;rw[Rp];exact⟨a,C,dx,xs,rfl,hn,g,l,q⟩
   ·rw[if_neg hc]at h2
    cases h2
 | _=>cases h2⟩
end
def Mq(K:W.Frag)(c m q:Str)(st:Stmt):Prop:=∃C f fd,W.nsIn K mainGlobals c=some (some (.ref C))/\Cls K C/\Meth K C m f/\Fun K m q st f fd
theorem mq_mk{K:W.Frag}{c m q:Str}{st:Stmt}{C f:Addr}{oc:Value}{od an:Option Addr}{osl:Array (Option Value)}{kV doc pm cdv ct:Value}(a:W.nsIn K mainGlobals c=some (some (.ref C)))(pg:W.plainGet K C Str.empty=true)(hd:W.hasDictIn K C=true)(po:W.plainOver K C=true)(sa:W.findIn K (.ref C) "__setattr__"=some (some (.builtin "object.__setattr__")))
 (i:W.findIn K (.ref C) m=some (some (.ref f))) (n:W.isFn K (.ref f)=true) (l:K.lookup f=some ⟨oc,od,.func (W.fnOf m q (defArgs st) (defBody st) (defScope st) .none kV doc pm an cdv ct),osl⟩) (cd:W.codeIn K cdv q=true) (k:W.keepIn K (.ref f)=true):Mq K c m q st:=
 ⟨C,f,_,a,⟨pg,hd,po,sa⟩,⟨i,n,k⟩,Ynx l cd k⟩
def Nq(K:W.Frag)(c f:Str):Prop:=∃C,W.nsIn K mainGlobals c=some (some (.ref C))/\Cls K C/\NoAttr K C f
theorem nq_mk{K:W.Frag}{c f:Str}{C:Addr}(a:W.nsIn K mainGlobals c=some (some (.ref C)))(pg:W.plainGet K C Str.empty=true)(hd:W.hasDictIn K C=true)(po:W.plainOver K C=true)(sa:W.findIn K (.ref C) "__setattr__"=some (some (.builtin "object.__setattr__")))(n:W.findIn K (.ref C) f=some none):Nq K c f:=
 ⟨C,a,⟨pg,hd,po,sa⟩,n⟩
theorem Nq.cf{K:W.Frag}{c f:Str}(h:Nq K c f):CF K c f:=λC e=>by
 obtain⟨C',a,cl,n⟩:=h;rw[a]at e;cases e;exact⟨cl,n⟩
def Bnm(x q:Str)(st:Stmt)(ps:AK):Prop:=∀(kV doc pm:Value) (an:Option Addr) (cdv ct:Value) (us:AD),us.length=ps.length->bindArgs (W.fnOf x q (defArgs st) (defBody st) (defScope st) .none kV doc pm an cdv ct) ⟨us,[]⟩=pure (ps.zip us)
section
variable {P:Program}{w:World}{K:W.Frag}{mg:AE}{base:Heap}
theorem okmn{c x q:Str}{st:Stmt}{k n m:Nat}{N ps:AK}{fb:AS}(F:Mq K c x q st)(S:FnScope N ps (defScope st))(hb:∀{f:Addr}{cdv:Value}{A:Around}{outer:List Env}{s:Shared}{H:Hp}{E:XK},Room k (A.deeper (envOfC q (defScope st) (~~~s) f cdv))->ZB (cxOf CX0 P w K mg base N q (defScope st) f cdv A outer s H E).nox (defBody st) fb)(hn:N.length=n:=by rfl)(hm:ps.length=m:=by rfl)
 (B:Bnm x q st ps:=by(intro _ _ _ _ _ _ us hl;first|(obtain⟨_,rfl⟩:=len1 hl;rfl)|(obtain⟨_,_,rfl⟩:=len2 hl;rfl)|(obtain⟨_,_,_,rfl⟩:=len3 hl;rfl))):Okm P w K mg base (k+1) c x ps (spOf K m (runB m n fb)):=by
 obtain⟨C,f,fd,a,cl,me,fu⟩:=F;exact⟨C,f,fd,Yhw (k:=k) fu S hn hm λ_ _ _ _ _ _ hr=>hb hr,fu.binds B,a,cl,me⟩
end
end
section
section
variable {X:Cx}{a:Expr}{fa:AV}{pos px:Pos}{x:Str}{ks:AK}
theorem y5l(hu:X.A.units+64<cLine){p:Addr}{o:Obj}{its:Array Value}{n:Nat}(hl:X.K.lookup p=some o)(hc:o.cls=.type "tuple")(hd:o.data=.seq its n)(hs:y1o its.toList ks):OpR X (compareOp .In) (rInG p ks false):=by
 intro pins s σ H x y v u Q I rx ry h;obtain⟨k,rfl,hk,rfl,q⟩:=h;cases ry;obtain⟨t,rfl⟩:=rx;obtain⟨as,h1,h2⟩:=Ylh (h:=s.heap) hs;have ht:Reads s.heap (.ref p) (.tuple (ks.map PyData.str)) _:=.tuple (I.kIn p o hl) hc hd h1;refine SeqAt.in_tuple_reads ht (.str k t) (by simpa [PyData.canLay0]using h2) (by simp[PyData.canLay0,hk]) ?_ ⟨.bl _,H,I,rfl,?_⟩
 ·have e:(PyData.str k).depth=0:=by simp[PyData.depth]
  rw[e];omega
 ·rw[Yuo]
  have e:decide (k∈ks)=(decide (k∈ks)!=false):=by cases decide (k∈ks)<;>rfl
  rw[e];exact q
theorem y19(hu:X.A.units+64<cLine)(g:GT X.K X.mg x ks)(hg:Gl X x)(ha:ZC X a fa)(hm:behindInMarks .In (.Name x px)=false:=by with_unfolding_all rfl)(hd:Ndb x:=by decide):ZE X (.Compare a [.In] [.Name x px] pos) (mB (b1 fa (inG false ks))):=by
 obtain⟨p,o,its,n,hmg,hl,hc,hdt,hs⟩:=g;refine⟨PE.imp (Yte (y5l hu hl hc hdt hs) ha.un (Ylv (v:=.ref p) hg hmg rfl hd) hm) λσ H Q hx_=>?_⟩;obtain⟨ρ,b,H0,G0,G,e,s,h⟩:=hx_;obtain⟨k,ek,rfl⟩:=Yl8 e;obtain⟨d,h1,h2⟩:=Ybo ek;refine tCof.at h1 s λv H1 G1 g1 r1 s1=>?_;unfold inG at h2
 split at h2
 ·rename_i k
  cases h2;rw[Ct]at r1;exact⟨k,r1.1,r1.2,rfl,h _ H1 G1 g1 (by rw[Rp])⟩
 ·cases h2
end
end
section
def powI:D->D->Option D:=i2 (λi j=>decide (0<=j/\j<=1000000/\i.natAbs<2^64)) λi j=>i^j.toNat
section
variable {X:Cx}{a b:Expr}{fa fb:AV}{pos:Pos}
theorem y2a(ha:ZC X a fa)(hb:ZC X b fb):ZE X (.BinOp a .Pow b pos) (b2 fa fb powI):=⟨have ha:=ha.un;have hb:=hb.un;Ylf y3d (Yq7 (λi j h=>(show 0<=j/\j<=1000000/\i.natAbs<2^64 from of_decide_eq_true h))) ha hb⟩
end
end
section
variable {K:W.Frag}
inductive HS where
 | bls (t:AH)
 | ins (c:Str) (C dx:Addr) (ks:AK) (vs:AN) (ds:AQ)
abbrev Hs:=Addr->Option HS
def HS.ho:HS->HO
 | .bls t=>.lst (t.map V.bl)
 | .ins _ C dx ks vs _=>.ins C dx (ks.zip vs)
def HS.d:HS->D
 | .bls t=>.lst (t.map D.bl)
 | .ins c _ _ ks _ ds=>.obj c ks ds
def HS.ok(K:W.Frag)(G:Hp):HS->Prop
 | .bls _=>True
 | .ins c C _ ks vs ds=>W.nsIn K mainGlobals c=some (some (.ref C))/\vs.length=ks.length/\RpL K G ds vs
theorem HS.ok.mono{G G':Hp}(h:Same G G'):∀{s:HS},s.ok K G->s.ok K G'
 | .bls _,_=>trivial
 | .ins ..,⟨a,b,c⟩=>⟨a,b,c.mono h⟩
def pt(t:Hs)(a:Addr)(s:Option HS):Hs:=λb=>if b=a then s else t b
theorem Yaa{t:Hs}{a:Addr}{s:Option HS}:pt t a s a=s:=if_pos rfl
theorem Yay{t:Hs}{a b:Addr}{s:Option HS}(h:b≠a):pt t a s b=t b:=if_neg h
structure HW(K:W.Frag)(t:Hs)(H G:Hp):Prop where
 g:∀a s,t a=some s->G a=none
 h:∀a s,t a=some s->H a=some s.ho
 ok:∀a s,t a=some s->s.ok K G
structure WH(K:W.Frag)(t:Hs)(H0 G0:Hp)(σ:L2.St)(H G:Hp)(ρ:Ro):Prop where
 sr:SR K H0 G0 σ H G ρ
 h0:∀a s,t a=some s->H0 a=some s.ho
 g0:∀a s,t a=some s->G0 a=none
 ok:∀a s,t a=some s->s.ok K G
structure OffH(t t':Hs)(H0 H1:Hp):Prop where
 keep:∀a,t' a=none->H1 a=H0 a
 grow:∀a,t' a=none->t a=none
 new:∀a,t a=none->t' a≠none->H0 a=none
theorem OffH.refl{t:Hs}{H:Hp}:OffH t t H H:=⟨λ_ _=>rfl,λ_ h=>h,λ_ h h'=>absurd h h'⟩
theorem OffH.trans{t t1 t2:Hs}{H H1 H2:Hp}(a:OffH t t1 H H1)(b:OffH t1 t2 H1 H2):OffH t t2 H H2:=
 ⟨λx h=>(b.keep x h).trans (a.keep x (b.grow x h)),λx h=>a.grow x (b.grow x h),λx h h'=>by
  by_cases z:t1 x=none
  ·rw[<-a.keep x z];exact b.new x z h'
  ·exact a.new x h z⟩
structure Aft(K:W.Frag)(t t':Hs)(H G H' G':Hp):Prop where
 keep:∀a o,t a=none->H a=some o->H' a=some o
 grow:∀a,t' a=none->t a=none
 new:∀a,t a=none->t' a≠none->H a=none
 hw:HW K t' H' G'
 g:Same G G'
 s:Same G' H'
 n:∀a,G a=none->G' a≠none->H a=none
section
variable {t t':Hs}{H0 G0 H G H' G':Hp}{σ:L2.St}{ρ:Ro}
theorem WH.no(w:WH K t H0 G0 σ H G ρ){a:Addr}{s:HS}(e:t a=some s):G a=none:=by
 cases h:G a with
 | none=>rfl
 | some u=>
   have:=w.sr.gr.n a (w.g0 a s e) (by rw[h];exact λz=>nomatch z);rw[w.h0 a s e]at this;cases this
theorem WH.hw(w:WH K t H0 G0 σ H G ρ):HW K t H G:=⟨λ_ _ e=>w.no e,λa s e=>w.sr.gr.h _ _ (w.h0 a s e),w.ok⟩
theorem WH.grow(w:WH K t H0 G0 σ H G ρ)(g:Gr H G H' G'):WH K t H0 G0 σ H' G' ρ:=⟨w.sr.grow g,w.h0,w.g0,λa s e=>(w.ok a s e).mono g.g⟩
theorem WH.bare(w:WH K t H0 G0 σ H G ρ):WH K t H0 G0 [] H G []:=⟨SR.mkSh w.sr.gr rfl (λi d e=>(by simp at e)) (λi l e=>(by simp at e)) (λi t ks vs e=>(by simp at e)),w.h0,w.g0,w.ok⟩
theorem WH.after(w:WH K t H0 G0 σ H G ρ)(a:Aft K t t' H G H' G'):∃H1,OffH t t' H0 H1/\WH K t' H1 G0 σ H' G' ρ:=by
 have s:=w.sr
 have tn:∀{b:Addr},H0 b=none->t b=none:=λ{b} h=>by
  cases z:t b with
  | none=>rfl
  | some x=>have:=w.h0 b x z;rw[h]at this;cases this
 have own:∀{b:Addr}{o:HO},H0 b=none->H b=some o->G b=none->t' b=none/\H' b=some o/\G' b=none:=λ{b o} h1 h2 h3=>by
  refine⟨?_,a.keep b o (tn h1) h2,?_⟩
  ·refine Classical.byContradiction λz=>?_
   have:=a.new b (tn h1) z;rw[h2]at this;cases this
  ·refine Classical.byContradiction λz=>?_
   have:=a.n b h3 z;rw[h2]at this;cases this
 refine⟨λb=>if t' b=none then H0 b else H' b,⟨λb h=>if_pos h,a.grow,λb h h'=>s.gr.h.free (a.new b h h')⟩,⟨⟨λb u e=>?_,s.gr.g.trans a.g,a.s,λb h h'=>?_⟩,s.len,λi d e=>?_,λi l e=>?_,s.ap,λi t1 ks vs e=>?_,s.apd⟩,λb x e=>?_,λb x e=>(s.gr.g.trans a.g).free (a.hw.g b x e),a.hw.ok⟩
 ·by_cases z:t' b=none
  ·simp only[if_pos z]at e
   exact a.keep b u (a.grow b z) (s.gr.h b u e)
  ·simp only[if_neg z]at e
   exact e
 ·have z:t' b=none:=by
   cases z:t' b with
   | none=>rfl
   | some x=>exact absurd (a.hw.g b x z) h'
  show(if t' b=none then H0 b else H' b)=none;rw[if_pos z];by_cases y:G b=none
  ·exact s.gr.h.free (a.n b y h')
  ·exact s.gr.n b h y
 ·obtain⟨v,q1,q2⟩:=s.sh i d e
  exact⟨v,q1,q2.mono a.g⟩
 ·obtain⟨b,xs,q1,q2,q3,q4,q5⟩:=s.ow i l e
  obtain⟨z1,z2,z3⟩:=own q3 q4 q2;exact⟨b,xs,q1,z3,by show(if t' b=none then H0 b else H' b)=none;rw[if_pos z1];exact q3,z2,q5.mono a.g⟩
 ·obtain⟨b,kxs,vxs,q1,q2,q3,q4,q5,q6⟩:=s.od i t1 ks vs e
  obtain⟨o,h4,_⟩:=q4.some;obtain⟨z1,z2,z3⟩:=own q3 h4 q2;exact⟨b,kxs,vxs,q1,z3,by show(if t' b=none then H0 b else H' b)=none;rw[if_pos z1];exact q3,q4.mono a.g λo' z=>by rw[h4]at z;rw[z2];exact z,q5.mono a.g,q6.mono a.g⟩
 ·show(if t' b=none then H0 b else H' b)=_
  rw[if_neg (by rw[e];exact λz=>nomatch z)];exact a.hw.h b x e
theorem WH.aft(w:WH K t' H0 G0 σ H G ρ){Ha Ga:Hp}(o:OffH t t' Ha H0)(g:Ga=G0):Aft K t t' Ha Ga H G:=by
 subst g;refine⟨λa u h e=>?_,o.grow,o.new,w.hw,w.sr.gr.g,w.sr.gr.s,λa h h'=>?_⟩
 ·by_cases z:t' a=none
  ·exact w.sr.gr.h a u (by rw[o.keep a z];exact e)
  ·have:=o.new a h z
   rw[e]at this;cases this
 ·have h1:=w.sr.gr.n a h h'
  by_cases z:t' a=none
  ·rw[<-o.keep a z];exact h1
  ·obtain⟨x,hx⟩:=Option.ne_none_iff_exists'.mp z
   rw[w.h0 a x hx]at h1;cases h1
theorem WH.rebase(w:WH K t H0 G0 σ H G ρ):∃H1,WH K t H1 G σ H G ρ/\∀t' H2 σ' H' G' ρ',OffH t t' H1 H2->WH K t' H2 G σ' H' G' ρ'->∃H3,OffH t t' H0 H3/\WH K t' H3 G0 σ' H' G' ρ':=by
 classical
 have s:=w.sr
 let own:Addr->Prop:=λa=>∃(i:Nat),((∃l:AQ,ρ[i]?=some (some (B.ow l)))\/(∃t ks vs,ρ[i]?=some (some (B.od t ks vs))))/\σ[i]?=some (some (V.ref a))
 have hh:∀a,own a->H0 a=none/\G a=none:=λa ha=>by
  obtain⟨i,e1,e2⟩:=ha;rcases e1 with⟨l,e1⟩|⟨t,ks,vs,e1⟩
  ·obtain⟨b,xs,q1,q2,q3,_⟩:=s.ow i l e1
   rw[e2]at q1;cases q1;exact⟨q3,q2⟩
  ·obtain⟨b,kxs,vxs,q1,q2,q3,_⟩:=s.od i t ks vs e1
   rw[e2]at q1;cases q1;exact⟨q3,q2⟩
 have back:∀a,(if own a then (none:Option HO)else H a)=none->H0 a=none:=λa h=>by
  by_cases o:own a
  ·exact(hh a o).1
  ·rw[if_neg o]at h;exact s.gr.h.free h
 refine⟨λa=>if own a then none else H a,⟨⟨⟨λb o e=>?_,Same.refl _,s.gr.s,λ_ h h'=>absurd h h'⟩,s.len,s.sh,λi l e=>?_,s.ap,λi t ks vs e=>?_,s.apd⟩,λa x e=>?_,λa x e=>w.no e,w.ok⟩,λt' H2 σ' H' G' ρ' f w'=>?_⟩
 ·by_cases z:own b
  ·simp only[if_pos z]at e;cases e
  ·simp only[if_neg z]at e;exact e
 ·obtain⟨a,xs,q1,q2,q3,q4,q5⟩:=s.ow i l e
  exact⟨a,xs,q1,q2,if_pos ⟨i,.inl ⟨l,e⟩,q1⟩,q4,q5⟩
 ·obtain⟨a,kxs,vxs,q1,q2,q3,q4⟩:=s.od i t ks vs e
  exact⟨a,kxs,vxs,q1,q2,if_pos ⟨i,.inr ⟨t,ks,vs,e⟩,q1⟩,q4⟩
 ·have z:¬own a:=λz=>by
   have:=(hh a z).1;rw[w.h0 a x e]at this;cases this
  show(if own a then none else H a)=_;rw[if_neg z];exact w.hw.h a x e
 ·have t1:=w'.sr
  have bk2:∀a,H2 a=none->(if t' a=none then H0 a else H2 a)=none:=λa h=>by
   by_cases z:t' a=none
   ·rw[if_pos z]
    rw[f.keep a z]at h;exact back a h
   ·rw[if_neg z];exact h
  refine⟨λa=>if t' a=none then H0 a else H2 a,⟨λa h=>if_pos h,f.grow,λa h h'=>back a (f.new a h h')⟩,⟨⟨λb u e=>?_,s.gr.g.trans t1.gr.g,t1.gr.s,λb h h'=>?_⟩,t1.len,t1.sh,λi l e=>?_,t1.ap,λi t1' ks vs e=>?_,t1.apd⟩,λa x e=>?_,λa x e=>s.gr.g.free (w'.g0 a x e),w'.ok⟩
  ·refine t1.gr.h b u ?_
   by_cases z:t' b=none
   ·simp only[if_pos z]at e
    rw[f.keep b z]
    have z2:¬own b:=λq=>by rw[(hh b q).1]at e;cases e
    show(if own b then none else H b)=some u;rw[if_neg z2];exact s.gr.h b u e
   ·simp only[if_neg z]at e;exact e
  ·by_cases z:G b=none
   ·exact bk2 b (t1.gr.n b z h')
   ·have q:=s.gr.n b h z
    have z2:t' b=none:=by
     cases y:t' b with
     | none=>rfl
     | some x=>exact absurd (w'.g0 b x y) z
    show(if t' b=none then H0 b else H2 b)=none;rw[if_pos z2];exact q
  ·obtain⟨a,xs,q1,q2,q3,q4,q5⟩:=t1.ow i l e
   exact⟨a,xs,q1,q2,bk2 a q3,q4,q5⟩
  ·obtain⟨a,kxs,vxs,q1,q2,q3,q4⟩:=t1.od i t1' ks vs e
   exact⟨a,kxs,vxs,q1,q2,bk2 a q3,q4⟩
  ·show(if t' a=none then H0 a else H2 a)=_
   rw[if_neg (by rw[e];exact λz=>nomatch z)];exact w'.h0 a x e
end
def ContH(K:W.Frag)(t:Hs)(H0 G0:Hp)(F:Ends):OutW Hs->Prop
 | .nx ρ' t'=>∀σ' H' G' H1,OffH t t' H0 H1->WH K t' H1 G0 σ' H' G' ρ'->F.nx σ' H'
 | .rt d t'=>∀v H' G' H1,OffH t t' H0 H1->WH K t' H1 G0 [] H' G' []->Rp K G' d v->F.rt v H'
 | .bk ρ' t'=>∀σ' H' G' H1,OffH t t' H0 H1->WH K t' H1 G0 σ' H' G' ρ'->F.bk σ' H'
 | .ct ρ' t'=>∀σ' H' G' H1,OffH t t' H0 H1->WH K t' H1 G0 σ' H' G' ρ'->F.ct σ' H'
theorem ContH.off{t t':Hs}{H0 G0 H1:Hp}{F:Ends}{o:OutW Hs}(f:OffH t t' H0 H1)(c:ContH K t H0 G0 F o):ContH K t' H1 G0 F o:=by
 cases o with
 | nx ρ t2=>exact λσ' H' G' H2 g w=>c σ' H' G' H2 (f.trans g) w
 | rt d t2=>exact λv H' G' H2 g w=>c v H' G' H2 (f.trans g) w
 | bk ρ t2=>exact λσ' H' G' H2 g w=>c σ' H' G' H2 (f.trans g) w
 | ct ρ t2=>exact λσ' H' G' H2 g w=>c σ' H' G' H2 (f.trans g) w
abbrev Hm:=Ro->Hs->(OutW Hs->Prop)->Prop
abbrev He:=Ro->Hs->(D->Hs->Prop)->Prop
abbrev Ha:=Ro->Hs->(AQ->Hs->Prop)->Prop
def sOfH(K:W.Frag)(f:Hm):TS:=λF σ H=>∃ρ t H0 G0 G Q,WH K t H0 G0 σ H G ρ/\f ρ t Q/\∀o,Q o->ContH K t H0 G0 F o
def tHE(K:W.Frag)(f:He):TE:=λσ H Q=>∃ρ t H0 G0 G R,WH K t H0 G0 σ H G ρ/\f ρ t R/\∀d t',R d t'->∀v H' G' H1,OffH t t' H0 H1->WH K t' H1 G0 σ H' G' ρ->Same G G'->Rp K G' d v->Q v H'
def tHA(K:W.Frag)(f:Ha):TA:=λσ H Q=>∃ρ t H0 G0 G R,WH K t H0 G0 σ H G ρ/\f ρ t R/\∀ds t',R ds t'->∀vs H' G' H1,OffH t t' H0 H1->WH K t' H1 G0 σ H' G' ρ->Same G G'->RpL K G' ds vs->Q vs H'
def tHT(K:W.Frag)(f:Ro->Hs->Option Bool):TT:=λσ H Q=>∃ρ t k H0 G0 G,f ρ t=some k/\WH K t H0 G0 σ H G ρ/\∀H' G',Gr H G H' G'->Q k H'
structure ZHS(X:Cx)(st:Stmt)(f:Hm):Prop where
 un:PS X st (sOfH X.K f)
structure ZHB(X:Cx)(sts:List Stmt)(f:Hm):Prop where
 un:PSs X sts (sOfH X.K f)
structure ZHE(X:Cx)(e:Expr)(f:He):Prop where
 un:PE X e (tHE X.K f)
structure ZHA(X:Cx)(es:AL)(f:Ha):Prop where
 un:PA X es (tHA X.K f)
structure ZHT(X:Cx)(e:Expr)(f:Ro->Hs->Option Bool):Prop where
 un:PT X e (tHT X.K f)
def outH(t:Hs):Out->OutW Hs
 | .nx ρ'=>.nx ρ' t
 | .rt d=>.rt d t
 | .bk ρ'=>.bk ρ' t
 | .ct ρ'=>.ct ρ' t
def Yck(f:AS):Hm:=λρ t Q=>∃o,f ρ=some o/\Q (outH t o)
def nilH:Hm:=λρ t Q=>Q (.nx ρ t)
def seqH(f g:Hm):Hm:=λρ t Q=>f ρ t fun
 | .nx ρ' t'=>g ρ' t' Q
 | o=>Q o
def ifH(c:Ro->Hs->Option Bool)(f g:Hm):Hm:=λρ t Q=>∃k,c ρ t=some k/\((k=true->f ρ t Q)/\(k=false->g ρ t Q))
def forR(gt:AT)(fb:Hm):AQ->Hm
 | [],ρ,t,Q=>Q (.nx ρ t)
 | d::ds,ρ,t,Q=>∃ρ1,gt d ρ=some ρ1/\fb ρ1 t fun
   | .nx ρ2 t2=>forR gt fb ds ρ2 t2 Q
   | .ct ρ2 t2=>forR gt fb ds ρ2 t2 Q
   | .bk ρ2 t2=>Q (.nx ρ2 t2)
   | .rt d t2=>Q (.rt d t2)
def forH(gl:AW)(gt:AT)(fb:Hm):Hm:=λρ t Q=>∃ds,gl ρ=some ds/\forR gt fb ds ρ t Q
def Ylk(c:Ro->Hs->Option Bool)(fb:Hm):Nat->Hm
 | 0,_,_,_=>False
 | n+1,ρ,t,Q=>∃k,c ρ t=some k/\((k=true->fb ρ t fun
   | .nx ρ2 t2=>Ylk c fb n ρ2 t2 Q
   | .ct ρ2 t2=>Ylk c fb n ρ2 t2 Q
   | .bk ρ2 t2=>Q (.nx ρ2 t2)
   | .rt d t2=>Q (.rt d t2))/\(k=false->Q (.nx ρ t)))
def Yzp(c:Ro->Hs->Option Bool)(fb:Hm):Hm:=λρ t Q=>∃n,Ylk c fb n ρ t Q
section
variable {X:Cx}{st:Stmt}{sts:List Stmt}{fs gs:Hm}{pos:Pos}{tg:Expr}{gl:AW}
theorem Yaj{f:AS}(h:ZS X st f):ZHS X st (Yck f):=⟨PS.imp h.un λF σ H hx_=>by
 obtain⟨ρ,t,H0,G0,G,Q,w,⟨o,h1,q⟩,c⟩:=hx_;obtain⟨H1,w1,back⟩:=w.rebase;have c:=c _ q;refine⟨ρ,o,H1,G,G,h1,w1.sr,?_⟩;have mk:∀{σ':L2.St}{H' G':Hp}{ρ':Ro},SR X.K H1 G σ' H' G' ρ'->∃H3,OffH t t H0 H3/\WH X.K t H3 G0 σ' H' G' ρ':=λ{σ' H' G' ρ'} s'=>back t H1 σ' H' G' ρ' OffH.refl ⟨s',w1.h0,w1.g0,λa s e=>(w1.ok a s e).mono s'.gr.g⟩
 cases o with
 | nx ρ'=>
   exact λσ' H' G' s'=>by
    obtain⟨H3,f3,w3⟩:=mk s';exact c σ' H' G' H3 f3 w3
 | rt d=>
   exact λv H' G' g r=>by
    obtain⟨H3,f3,w3⟩:=mk (σ':=[]) (ρ':=[]) (SR.mkSh g rfl (λi d e=>(by simp at e)) (λi l e=>(by simp at e)) (λi t ks vs e=>(by simp at e)));exact c v H' G' H3 f3 w3 r
 | bk ρ'=>
   exact λσ' H' G' s'=>by
    obtain⟨H3,f3,w3⟩:=mk s';exact c σ' H' G' H3 f3 w3
 | ct ρ'=>
   exact λσ' H' G' s'=>by
    obtain⟨H3,f3,w3⟩:=mk s'
    exact c σ' H' G' H3 f3 w3⟩
theorem Yhy:ZHB X [] nilH:=⟨PSs.imp Ys6 λF σ H hx_=>by
 obtain⟨ρ,t,H0,G0,G,Q,w,q,c⟩:=hx_
 exact c _ q σ H G H0 OffH.refl w⟩
theorem Yaw(h:ZHS X st fs):ZHB X [st] fs:=⟨Ys7 h.un⟩
theorem Yu(h1:ZHS X st fs)(h2:ZHB X sts gs):ZHB X (st::sts) (seqH fs gs):=⟨PSs.imp (Yqv h1.un h2.un) λF σ H hx_=>by
 obtain⟨ρ,t,H0,G0,G,Q,w,q,c⟩:=hx_;refine⟨ρ,t,H0,G0,G,_,w,q,λo hq=>?_⟩
 cases o with
 | nx ρ' t'=>exact λσ' H' G' H1 f w'=>⟨ρ',t',H1,G0,G',Q,w',hq,λo ho=>(c o ho).off f⟩
 | rt d t'=>exact c _ hq
 | bk ρ' t'=>exact c _ hq
 | ct ρ' t'=>exact c _ hq⟩
theorem Yon{c:Expr}{a b:List Stmt}{fc:Ro->Hs->Option Bool}(hc:ZHT X c fc)(ha:ZHB X a fs)(hb:ZHB X b gs):ZHS X (.If c a b pos) (ifH fc fs gs):=⟨PS.imp (Yz6 hc.un ha.un hb.un) λF σ H hx_=>by
 obtain⟨ρ,t,H0,G0,G,Q,w,⟨k,h1,ht,hf⟩,c⟩:=hx_;refine⟨ρ,t,k,H0,G0,G,h1,w,λH1 G1 g1=>?_⟩
 cases k with
 | true=>exact iteT ⟨ρ,t,H0,G0,G1,Q,w.grow g1,ht rfl,c⟩
 | false=>exact iteF ⟨ρ,t,H0,G0,G1,Q,w.grow g1,hf rfl,c⟩⟩
theorem Yp7{iter:Expr}{body:List Stmt}{gt:AT}(hp:PassesOwn (model X.prog X.w) X.A X.env X.xe)(hc:X.calm=true)(hi:ZI X tg iter gl)(hg:ZG X tg gt)(hb:ZHB X body fs)
 (hs:∀x,foldedSetIterable iter X.env x=pure x:=by intro _;rfl):ZHS X (.For tg iter body [] pos) (forH gl gt fs):=
 ⟨PS.imp (Yy5 hp hc hi.un hg.un hb.un hs) λF σ H hx_=>by
  obtain⟨ρ,t,H0,G0,G,Q,w,⟨ds,h1,h2⟩,c⟩:=hx_;refine⟨ρ,ds,H0,G0,G,h1,w.sr,λJ H1 G1 g1 wk=>?_⟩;obtain⟨Hb,wb,back⟩:=(w.grow g1).rebase;refine⟨λi m σ' H'=>m=ds.length-i/\i<=ds.length/\∃ρ' t' G' Hc,OffH t t' Hb Hc/\WH X.K t' Hc G1 σ' H' G' ρ'/\forR gt fs (ds.drop i) ρ' t' Q,⟨_,rfl,Qc _,ρ,t,G1,Hb,OffH.refl,wb,h2⟩,?_⟩;rintro i m σ' H' ⟨rfl,hi,ρ',t',G',Hc,fc,w',e'⟩;have W:=wk.2 i H' G' w'.sr.gr.g w'.sr.seen;by_cases hlt:i<ds.length
  ·have hd:ds[i]?=some ds[i]:=qp hlt
   obtain⟨go,yl⟩:=W.1 _ hd;rw[List.drop_eq_getElem_cons hlt,forR]at e';obtain⟨ρ1,e1,e'⟩:=e';refine .inr ⟨go,λσ' H'=>i+1<=ds.length/\∃ρ' t' G' Hc,OffH t t' Hb Hc/\WH X.K t' Hc G1 σ' H' G' ρ'/\forR gt fs (ds.drop (i+1)) ρ' t' Q,λσ2 H2 q=>⟨ds.length-(i+1),by omega,rfl,q.1,q.2⟩,λx H2 y=>?_⟩;obtain⟨G2,g2,r2⟩:=yl x H2 y;have w2:=w'.grow g2;refine⟨_,ρ',ρ1,Hc,G1,G2,e1,w2.sr,r2,λσ3 s3=>?_⟩;refine⟨ρ1,t',Hc,G1,G2,_,⟨s3,w2.h0,w2.g0,w2.ok⟩,e',λo ho=>?_⟩
   cases o with
   | nx ρ2 t2=>exact λσ4 H4 G4 Hd f4 w4=>⟨hlt,ρ2,t2,G4,Hd,fc.trans f4,w4,ho⟩
   | ct ρ2 t2=>exact λσ4 H4 G4 Hd f4 w4=>⟨hlt,ρ2,t2,G4,Hd,fc.trans f4,w4,ho⟩
   | bk ρ2 t2=>
     exact λσ4 H4 G4 Hd f4 w4=>by
      obtain⟨He,f5,w5⟩:=back _ _ _ _ _ _ (fc.trans f4) w4;exact c _ ho σ4 H4 G4 He f5 w5
   | rt d t2=>
     exact λv H4 G4 Hd f4 w4 r4=>by
      obtain⟨He,f5,w5⟩:=back _ _ _ _ _ _ (fc.trans f4) w4;exact c _ ho v H4 G4 He f5 w5 r4
  ·have ei:i=ds.length:=by omega
   subst ei;rw[List.drop_length,forR]at e';obtain⟨He,f5,w5⟩:=back _ _ _ _ _ _ fc w'
   exact .inl ⟨W.2 (qt _),c _ e' σ' H' G' He f5 w5⟩⟩
theorem Yvj{c:Expr}{body:List Stmt}{fc:Ro->Hs->Option Bool}(hp:PassesOwn (model X.prog X.w) X.A X.env X.xe)(hc:ZHT X c fc)(hb:ZHB X body fs):ZHS X (.While c body [] pos) (Yzp fc fs):=
 ⟨PS.imp (Ywo hp hc.un hb.un) λF σ H hx_=>by
  obtain⟨ρ,t,H0,G0,G,Q,w,⟨n,h2⟩,c⟩:=hx_;refine⟨λm σ' H'=>∃ρ' t' G' H1,OffH t t' H0 H1/\WH X.K t' H1 G0 σ' H' G' ρ'/\Ylk fc fs m ρ' t' Q,⟨n,ρ,t,G,H0,OffH.refl,w,h2⟩,?_⟩;rintro m σ1 Ha ⟨ρ1,t1,G1,H1,f1,w1,e1⟩
  cases m with
  | zero=>exact e1.elim
  | succ m=>
    obtain⟨k,hk,ht,hf⟩:=e1;refine⟨ρ1,t1,k,H1,G0,G1,hk,w1,λH2 G2 g2=>?_⟩;have w2:=w1.grow g2
    cases k with
    | true=>
      refine iteT ⟨λσ' H'=>∃ρ' t' G' H1,OffH t t' H0 H1/\WH X.K t' H1 G0 σ' H' G' ρ'/\Ylk fc fs m ρ' t' Q,λσ' H' q=>⟨m,qy m,q⟩,ρ1,t1,H1,G0,G2,_,w2,ht rfl,λo ho=>?_⟩
      cases o with
      | nx ρ2 t2=>exact λσ4 H4 G4 Hd f4 w4=>⟨ρ2,t2,G4,Hd,f1.trans f4,w4,ho⟩
      | ct ρ2 t2=>exact λσ4 H4 G4 Hd f4 w4=>⟨ρ2,t2,G4,Hd,f1.trans f4,w4,ho⟩
      | bk ρ2 t2=>exact λσ4 H4 G4 Hd f4 w4=>c _ ho σ4 H4 G4 Hd (f1.trans f4) w4
      | rt d t2=>exact λv H4 G4 Hd f4 w4 r4=>c _ ho v H4 G4 Hd (f1.trans f4) w4 r4
    | false=>exact iteF (c _ (hf rfl) σ1 H2 G2 H1 f1 w2)⟩
end
end
section
variable {K:W.Frag}
mutual
def thD(t:Hs):D->D
 | .non=>.non
 | .bl b=>.bl b
 | .int i=>.int i
 | .str x=>.str x
 | .tup l=>.tup (thL t l)
 | .lst l=>.lst (thL t l)
 | .scr ns=>.scr ns
 | .dct b ks vs=>.dct b ks vs
 | .obj c ks vs=>.obj c ks (thL t vs)
 | .adr a=>match t a with
   | some s=>s.d
   | none=>.adr a
def thL(t:Hs):AQ->AQ
 | []=>[]
 | d::l=>thD t d::thL t l
end
def thB(t:Hs):B->B
 | .sh d=>.sh (thD t d)
 | .ow l=>.ow l
 | .od b ks vs=>.od b ks vs
def thR(t:Hs)(ρ:Ro):Ro:=ρ.map (Option.map (thB t))
def thG(t:Hs)(G:Hp):Hp:=λa=>match t a with
 | some s=>some s.ho
 | none=>G a
section
variable {t:Hs}{G:Hp}
theorem Ymn{a:Addr}{s:HS}(h:t a=some s):thG t G a=some s.ho:=by unfold thG;rw[h]
theorem Yg0{a:Addr}(h:t a=none):thG t G a=G a:=by unfold thG;rw[h]
theorem HW.same{H:Hp}(w:HW K t H G):Same G (thG t G):=λa o e=>by
 cases h:t a with
 | none=>rw[Yg0 h];exact e
 | some s=>rw[w.g a s h]at e;cases e
mutual
theorem Rp.thaw{H:Hp}(w:HW K t H G):∀{d:D}{v:V},Rp K G d v->Rp K (thG t G) (thD t d) v
 | .non,_,r=>by rw[thD];exact r.mono w.same
 | .bl _,_,r=>by rw[thD];exact r.mono w.same
 | .int _,_,r=>by rw[thD];exact r.mono w.same
 | .str _,_,r=>by rw[thD];exact r.mono w.same
 | .tup l,_,r=>by
   rw[thD,Rp];rw[Rp]at r;obtain⟨a,xs,e,g,q⟩:=r;exact⟨a,xs,e,w.same _ _ g,RpL.thaw w q⟩
 | .lst l,_,r=>by
   rw[thD,Rp];rw[Rp]at r;obtain⟨a,xs,e,g,q⟩:=r;exact⟨a,xs,e,Ya3 w.same g,RpL.thaw w q⟩
 | .scr _,_,r=>by rw[thD];exact r.mono w.same
 | .dct _ _ _,_,r=>by rw[thD];exact r.mono w.same
 | .obj c ks vs,_,r=>by
   rw[thD,Rp];rw[Rp]at r;obtain⟨a,C,dx,xs,e,n,g,l,q⟩:=r;exact⟨a,C,dx,xs,e,n,w.same _ _ g,l,RpL.thaw w q⟩
 | .adr a,_,r=>by
   rw[Rp]at r;subst r;rw[thD]
   cases h:t a with
   | none=>rw[Rp]
   | some s=>
     cases s with
     | bls y=>
       show Rp K _ (.lst (y.map D.bl)) _;rw[Rp];exact⟨a,y.map V.bl,rfl,.inl (Ymn h),Yvi y⟩
     | ins c C dx ks vs ds=>
       obtain⟨o1,o2,o3⟩:=w.ok a _ h;show Rp K _ (.obj c ks ds) _;rw[Rp];exact⟨a,C,dx,vs,rfl,o1,Ymn h,o2,o3.mono w.same⟩
theorem RpL.thaw{H:Hp}(w:HW K t H G):∀{l:AQ}{xs:AN},RpL K G l xs->RpL K (thG t G) (thL t l) xs
 | [],_,r=>by rw[RpL]at r;subst r;rw[thL];exact .nil
 | d::l,_,r=>by
   rw[RpL]at r;obtain⟨x,xs,rfl,g,q⟩:=r;rw[thL];exact .cons (Rp.thaw w g) (RpL.thaw w q)
end
theorem Yf9{ρ:Ro}{j:Nat}{b:B}(h:(thR t ρ)[j]?=some (some b)):∃b0,ρ[j]?=some (some b0)/\thB t b0=b:=by
 unfold thR at h;rw[Qe]at h;obtain⟨o,h1,h2⟩:=qb h;obtain⟨b0,rfl,h3⟩:=qb h2;exact⟨b0,h1,h3⟩
theorem WH.thaw{H0 G0 H:Hp}{σ:L2.St}{ρ:Ro}(w:WH K t H0 G0 σ H G ρ):∃H2,SR K H2 G0 σ H (thG t G) (thR t ρ):=by
 have s:=w.sr
 have tn:∀{b:Addr},H0 b=none->t b=none:=λ{b} h=>by
  cases z:t b with
  | none=>rfl
  | some x=>have:=w.h0 b x z;rw[h]at this;cases this
 refine⟨λa=>if t a=none then H0 a else none,⟨⟨λb o e=>?_,s.gr.g.trans w.hw.same,λb o e=>?_,λb h h'=>?_⟩,by unfold thR;rw[qe];exact s.len,λj d e=>?_,λj l e=>?_,λj k l l' a b h1 h2 h3 h4 h5=>?_,λj t1 ks vs e=>?_,λj k ta ka va tb kb vb a b h1 h2 h3 h4 h5=>?_⟩⟩
 ·by_cases z:t b=none
  ·simp only[if_pos z]at e;exact s.gr.h b o e
  ·simp only[if_neg z]at e;cases e
 ·cases z:t b with
  | none=>rw[Yg0 z]at e;exact s.gr.s b o e
  | some x=>rw[Ymn z]at e;rw[<-e];exact w.hw.h b x z
 ·show(if t b=none then H0 b else none)=none
  cases z:t b with
  | none=>
    rw[Yg0 z]at h';rw[if_pos rfl];exact s.gr.n b h h'
  | some x=>exact if_neg (λy=>nomatch y)
 ·obtain⟨b0,h1,h2⟩:=Yf9 e
  cases b0 with
  | sh d0=>
    cases h2;obtain⟨v,q1,q2⟩:=s.sh j d0 h1;exact⟨v,q1,q2.thaw w.hw⟩
  | ow l=>cases h2
  | od b ks vs=>cases h2
 ·obtain⟨b0,h1,h2⟩:=Yf9 e
  cases b0 with
  | sh d0=>cases h2
  | ow l0=>
    cases h2;obtain⟨a,xs,q1,q2,q3,q4,q5⟩:=s.ow j l h1;exact⟨a,xs,q1,by rw[Yg0 (tn q3)];exact q2,by show(if t a=none then H0 a else none)=none;rw[if_pos (tn q3)];exact q3,q4,q5.mono w.hw.same⟩
  | od b ks vs=>cases h2
 ·obtain⟨b1,e1,e2⟩:=Yf9 h1
  obtain⟨b2,e3,e4⟩:=Yf9 h2;cases b1<;>cases e2;cases b2<;>cases e4;exact s.ap j k _ _ a b e1 e3 h3 h4 h5
 ·obtain⟨b0,h1,h2⟩:=Yf9 e
  cases b0 with
  | sh d0=>cases h2
  | ow l0=>cases h2
  | od b0 ks0 vs0=>
    cases h2;obtain⟨a,kxs,vxs,q1,q2,q3,q4,q5,q6⟩:=s.od j t1 ks vs h1;exact⟨a,kxs,vxs,q1,by rw[Yg0 (tn q3)];exact q2,by show(if t a=none then H0 a else none)=none;rw[if_pos (tn q3)];exact q3,q4.mono w.hw.same λ_ z=>z,q5.mono w.hw.same,q6.mono w.hw.same⟩
 ·obtain⟨b1,e1,e2⟩:=Yf9 h1
  obtain⟨b2,e3,e4⟩:=Yf9 h2;cases b1<;>cases e2;cases b2<;>cases e4;exact s.apd j k _ _ _ _ _ _ a b e1 e3 h3 h4 h5
end
def rdE(f:AV):He:=λρ t Q=>∃d,f (thR t ρ)=some d/\Yxk d=true/\Q d t
def rdT(f:AU):Ro->Hs->Option Bool:=λρ t=>f (thR t ρ)
def Yx3:Ha:=λ_ t Q=>Q [] t
def Yjk(f:He)(g:Ha):Ha:=λρ t Q=>f ρ t λd t1=>g ρ t1 λds t2=>Q (d::ds) t2
def lstH(g:Ha):He:=λρ t Q=>g ρ t λds t'=>ds.length<=cap6/\Q (.lst ds) t'
def setH(i:Nat)(f:He):Hm:=λρ t Q=>f ρ t λd t'=>Q (.nx (ρ.set i (some (.sh d))) t')
def retH(f:He):Hm:=λρ t Q=>f ρ t λd t'=>Q (.rt d t')
def exH(f:He):Hm:=λρ t Q=>f ρ t λ_ t'=>Q (.nx ρ t')
def frzH(is:AF)(f:Hm):Hm:=λρ t Q=>f (frz is ρ) t Q
section
variable {X:Cx}{e c:Expr}{es:AL}{f:AV}{fe:He}{ga:Ha}{pos p1:Pos}{st:Stmt}{fs:Hm}
theorem Yim(h:ZE X e f):ZHE X e (rdE f):=⟨PE.imp h.un λσ H Q hx_=>by
 obtain⟨ρ,t,H0,G0,G,R,w,⟨d,h1,hs,q⟩,k⟩:=hx_;obtain⟨H2,s2⟩:=w.thaw
 exact⟨_,d,H2,G0,_,h1,s2,λv H' G' g r=>k d t q v H' G H0 OffH.refl (w.grow (.back w.sr.seen g)) (Same.refl _) (r.scal hs)⟩⟩
theorem Yfh{fc:AU}(h:ZT X c fc):ZHT X c (rdT fc):=⟨PT.imp h.un λσ H Q hx_=>by
 obtain⟨ρ,t,k,H0,G0,G,e,w,q⟩:=hx_;obtain⟨H2,s2⟩:=w.thaw
 exact⟨_,k,H2,G0,_,e,s2,λH' G' g=>q H' G (.back w.sr.seen g)⟩⟩
theorem Yvk:ZHA X [] Yx3:=⟨PA.imp Yep λσ H Q hx_=>by
 obtain⟨ρ,t,H0,G0,G,R,w,q,k⟩:=hx_
 exact k [] t q [] H G H0 OffH.refl w (Same.refl _) .nil⟩
theorem Yg1(ha:ZHE X e fe)(hb:ZHA X es ga)(hs:starEach (e::es) X.env=(false,eval e X.env)::starEach es X.env:=by rfl):ZHA X (e::es) (Yjk fe ga):=⟨PA.imp (Ybr ha.un hb.un hs) λσ H Q hx_=>by
 obtain⟨ρ,t,H0,G0,G,R,w,q,k⟩:=hx_
 exact⟨ρ,t,H0,G0,G,_,w,q,λd1 t1 q1 v1 H1 G1 Ha f1 w1 s1 r1=>⟨ρ,t1,Ha,G0,G1,_,w1,q1,λds t2 q2 vs H2 G2 Hb f2 w2 s2 r2=>k (d1::ds) t2 q2 (v1::vs) H2 G2 Hb (f1.trans f2) w2 (s1.trans s2) (.cons (r1.mono s2) r2)⟩⟩⟩
theorem Yvl(h:ZHA X es ga):ZHE X (.List es pos) (lstH ga):=⟨PE.imp (Ytj h.un) λσ H Q hx_=>by
 obtain⟨ρ,t,H0,G0,G,R,w,q,k⟩:=hx_;refine⟨ρ,t,H0,G0,G,_,w,q,λds t1 q1 vs H1 G1 Ha f1 w1 s1 r1=>⟨by rw[r1.length];exact Yeb q1.1,λp hp=>?_⟩⟩;have gn:=Gr.new w1.sr.seen hp (.lst vs);refine k _ _ q1.2 _ _ _ Ha f1 (w1.grow gn) (s1.trans gn.g) ?_;rw[Rp]
 exact⟨p,vs,rfl,.inl Yv,r1.mono gn.g⟩⟩
theorem Yga(i:Nat){y:Str}(hN:X.N.Nodup)(h:ZHE X e fe)(hy:X.N[i]?=some y:=by rfl)(hx:Loc X.env.scope y:=by trivial)(hse:swapsWith e (some (.Name y p1)) pos.line X.env=pure false:=by rfl)
 (hf:X.fn y=true\/X.env.scope.names.lookup y=some .local:=by trivial):ZHS X (.Assign [.Name y p1] e pos) (setH i fe):=⟨PS.imp (Yqw hN hy hx h.un hse hf) λF σ H hx_=>by
 obtain⟨ρ,t,H0,G0,G,Q,w,q,c⟩:=hx_
 exact⟨ρ,t,H0,G0,G,_,w,q,λd t' hq v H' G' H1 f1 w1 s1 r1=>c _ hq _ H' G' H1 f1 ⟨w1.sr.set_sh i r1,w1.h0,w1.g0,w1.ok⟩⟩⟩
theorem Yvm(h:ZHE X e fe):ZHS X (.Return (some e) pos) (retH fe):=⟨PS.imp (Yy1 h.un) λF σ H hx_=>by
 obtain⟨ρ,t,H0,G0,G,Q,w,q,c⟩:=hx_
 exact⟨ρ,t,H0,G0,G,_,w,q,λd t' hq v H' G' H1 f1 w1 s1 r1=>c _ hq v H' G' H1 f1 w1.bare r1⟩⟩
theorem Yfi(h:ZHE X e fe)(hse:swapsWith e none pos.line X.env=pure false:=by rfl):ZHS X (.Expr e pos) (exH fe):=⟨PS.imp (Yf0 h.un hse) λF σ H hx_=>by
 obtain⟨ρ,t,H0,G0,G,Q,w,q,c⟩:=hx_
 exact⟨ρ,t,H0,G0,G,_,w,q,λd t' hq v H' G' H1 f1 w1 s1 r1=>c _ hq σ H' G' H1 f1 w1⟩⟩
theorem y2b(is:AF)(h:ZHS X st fs):ZHS X st (frzH is fs):=⟨PS.imp h.un λF σ H hx_=>by
 obtain⟨ρ,t,H0,G0,G,Q,w,q,c⟩:=hx_;obtain⟨Hb,wb,back⟩:=w.rebase;obtain⟨Gf,sf⟩:=SR.frz is wb.sr;obtain⟨H3,f3,w3⟩:=back t Hb σ H Gf _ OffH.refl ⟨sf,wb.h0,wb.g0,λa s e=>(wb.ok a s e).mono sf.gr.g⟩
 exact⟨_,t,H3,G0,Gf,Q,w3,q,λo ho=>(c o ho).off f3⟩⟩
def tstH(f:He)(g:D->Option Bool)(fs gs:Hm):Hm:=λρ t Q=>f ρ t λd t'=>∃k,g d=some k/\((k=true->fs ρ t' Q)/\(k=false->gs ρ t' Q))
end
def spH(K:W.Frag)(n:Nat)(m:AQ->Hs->(D->Hs->Prop)->Prop):Sp:=λvs H Q _=>vs.length=n/\∃ds t G R,RpL K G ds vs/\Same G H/\HW K t H G/\m ds t R/\∀d t',R d t'->∀v H' G',Aft K t t' H G H' G'->Rp K G' d v->Q v H'
def runH(n:Nat)(g:Hm)(ds:AQ)(t:Hs)(R:D->Hs->Prop):Prop:=g (Yw n ds) t fun
 | .rt d t'=>R d t'
 | .nx _ t'=>R .non t'
 | _=>False
def OkH(P:Program)(w:World)(K:W.Frag)(mg:AE)(base:Heap)(k n:Nat)(x:Str)(ps:AK)(m:AQ->Hs->(D->Hs->Prop)->Prop):Prop:=
 ∃a fd,FnOk P w K mg base CX0 k a fd ps (spH K n m)/\Binds K fd ps []/\W.keepIn K (.ref a)=true/\mg x=some (.ref a)
section
variable {P:Program}{w:World}{mg:AE}{base:Heap}
theorem Ymo{x qual:Str}{st:Stmt}{f:Addr}{fd:FuncData}{N ps:AK}{k n m:Nat}{g:Hm}(F:Fun K x qual st f fd)(S:FnScope N ps (defScope st))(hn:N.length=n)(hm:ps.length=m)
 (hb:∀(cdv:Value) (A:Around) (outer:List Env) (s:Shared) (H:Hp) (E:XK),Room k (A.deeper (envOfC qual (defScope st) (~~~s) f cdv))->ZHB (cxOf CX0 P w K mg base N qual (defScope st) f cdv A outer s H E).nox (defBody st) g) :
 FnOk P w K mg base CX0 (k+1) f fd ps (spH K m (runH n g)):=by
 refine F.ok S (λvs H Q E h=>by rw[h.1,hm]) λcdv A outer s H vs Q E hr h=>?_;obtain⟨hl,ds,t,G,R,rr,sm,hw,e,q⟩:=h;refine⟨_,(hb cdv A outer s H E hr).un,?_⟩
 have s0:SR K H G (start N vs) H G (Yw n ds):=by
  rw[<-hn];exact SR.start (N:=N) sm rr
 refine⟨_,t,H,G,G,_,⟨s0,hw.h,hw.g,hw.ok⟩,e,λo ho=>?_⟩
 cases o with
 | rt d t'=>exact λv H' G' H1 f1 w1 r1=>q d t' ho v H' G' (w1.aft f1 rfl) r1
 | nx ρ' t'=>exact λσ' H' G' H1 f1 w1=>q .non t' ho .non H' G' (w1.aft f1 rfl) (by rw[Rp])
 | bk ρ' t'=>exact ho.elim
 | ct ρ' t'=>exact ho.elim
end
def Yvn(ga:AW)(m:AQ->Hs->(D->Hs->Prop)->Prop):He:=λρ t Q=>∃ds,ga ρ=some ds/\∃R,m ds t R/\∀d t',R d t'->Q d t'
section
variable {X:Cx}{e o:Expr}{es:AL}{ga:AW}{m:AQ->Hs->(D->Hs->Prop)->Prop}{p cpos apos:Pos}
theorem Yx4{j k n:Nat}{x:Str}{ps:AK}(c:OkH X.prog X.w X.K X.mg X.base j n x ps m)(hr:Room k X.A)(hg:Gl X x)(ha:ZA X (e::es) ga)(hl:∀ρ ds,ga ρ=some ds->ds.length=n)(hj:j<=k:=by first|exact qt _|omega)(hdb:Ndb x:=by decide)
 (he:starEach (e::es) X.env=(false,eval e X.env)::starEach es X.env:=by rfl) (hpl:(backTo cpos (starEach es X.env)).any (·.1)=false:=by rfl):ZHE X (.Call (.Name x p) (e::es) [] cpos) (Yvn ga m):=by
 obtain⟨a,fd,F,hb,hk,hm⟩:=c;refine⟨PE.imp (Ytk (E:=E0) (F.mono hj) hr hg hm hk hb .nil Ysb ha.un hdb he hpl) λσ H Q hx_=>?_⟩;obtain⟨ρ,t,H0,G0,G,R,w,⟨ds,h1,R',h2,h3⟩,k⟩:=hx_;refine tAof.at h1 w.sr λvs H1 G1 g1 r1 s1=>?_;have w1:=w.grow g1;show spH X.K n m (vs++[]) H1 Q E0;rw[jb];refine⟨by rw[r1.length,hl ρ ds h1],ds,t,G1,R',r1,s1.seen,w1.hw,h2,λd t' hd v H' G' af r=>?_⟩;obtain⟨H3,f3,w3⟩:=w1.after af;exact k d t' (h3 d t' hd) v H' G' H3 f3 w3 (g1.g.trans af.g) r
end
section
variable {X:Cx}{k:Nat}{m:Str}{pos apos:Pos}{e o:Expr}{es:AL}{ta:TE}{t:TA}{ι:Type}{Cf:ι->Addr}{S:ι->Sp}
theorem Yrl{pl:Sem Bool}(he:PE X o ta)(hm:∀i:ι,∃f fd ps,Cls X.K (Cf i)/\Meth X.K (Cf i) m f/\FnOk X.prog X.w X.K X.mg X.base CX0 k f fd ps (S i)/\Binds X.K fd ps [])(hr:Room k X.A)(ha:PA X (e::es) t)
 (hst:starEach (e::es) X.env=(false,eval e X.env)::starEach es X.env:=by rfl) (hpl:(backTo pos (starEach es X.env)).any (·.1)=false:=by rfl)
 (ht:eval (.Call (.Attribute o m apos) (e::es) [] pos) X.env=(do
  let ov <-eval o X.env
  standAt apos.atName
  let (f,first) <-holding [ov] (getMethod ov m pl)
  callWith pos f first (backTo pos (starEach (e::es) X.env)) (backToKw pos (keywordEach [] X.env))):=by rfl) :
 PE X (.Call (.Attribute o m apos) (e::es) [] pos) (λσ H Q=>ta σ H λx H1=>∃i a dx fs,x=.ref a/\H1 a=some (.ins (Cf i) dx fs)/\fs.lookup m=none/\t σ H1 λvs H2=>S i (x::vs) H2 Q E0):=by
 intro pins s σ H Q I h;refine W.methodCall_KW (pl:=pl) (thn (he pins s σ H _ I h) λu s1 hx_=>?_) ht;obtain⟨x,H1,I1,rx,i,a,dx,fs,ex,ea,l,q⟩:=hx_;subst ex;obtain rfl:u=Value.ref a:=rx;obtain⟨f,fd,ps,cl,me,F,hb⟩:=hm i;refine Yk8 I1 ea cl me l ?_;refine W.callWith_K (first:=[.ref a]) (h₀:=X.base) I.ok.mod.kin me.kp (thn (ha pos pins s1 σ H1 _ I1 q) λus s2 hy_=>?_) hst hpl;obtain⟨vs,H2,I2,r,q2⟩:=hy_;refine⟨I2.kIn,?_⟩;refine Yqy (us:=.ref a::us) (vs:=.ref a::vs) (dvs:=[]) (E:=E0) F hr hb .nil Ysb I2 (.cons rfl r) ?_;rw[jb];exact q2
end
abbrev Hf:=AQ->Hs->(D->Hs->Prop)->Prop
def OkTb(P:Program)(w:World)(K:W.Frag)(mg:AE)(base:Heap)(k:Nat)(m:Str){α:Type}(sp:α->Sp):List (Str×α)->Prop
 | []=>True
 | (c,fn)::r=>(∃ps,Okm P w K mg base k c m ps (sp fn))/\OkTb P w K mg base k m sp r
theorem OkTb.look{P:Program}{w:World}{mg:AE}{base:Heap}{k:Nat}{m:Str}{α:Type}{sp:α->Sp}{c:Str}{fn:α}:∀{tb:List (Str×α)},OkTb P w K mg base k m sp tb->tb.lookup c=some fn->∃ps,Okm P w K mg base k c m ps (sp fn)
 | [],_,e=>by cases e
 | (c',fn')::r,h,e=>by
   rw[Qg]at e
   split at e
   ·rename_i hc
    cases e;rw[eq_of_beq hc];exact h.1
   ·exact OkTb.look h.2 e
def clsH(t:Hs):D->Option (Str×AK)
 | .obj c ks _=>some (c,ks)
 | .adr a=>match t a with
   | some (.ins c _ _ ks _ _)=>some (c,ks)
   | _=>none
 | _=>none
def Ymp(m:Str)(tb:List (Str×Hf))(fo:AV)(ga:AW):He:=λρ t Q=>∃x ds c ks fn R,fo ρ=some x/\ga ρ=some ds/\clsH t x=some (c,ks)/\m∉ks/\tb.lookup c=some fn/\fn (x::ds) t R/\∀d t',R d t'->Q d t'
def dspD(m:Str)(tb:List (Str×(AQ->Option D)))(x:D)(ds:AQ):Option D:=match x with
 | .obj c ks vs=>if m∈ks then none else (tb.lookup c).bind λfn=>fn (.obj c ks vs::ds)
 | _=>none
def Yp8(m:Str)(tb:List (Str×(AQ->Option D)))(fo:AV)(ga:AW):AV:=λρ=>(fo ρ).bind λx=>(ga ρ).bind λds=>dspD m tb x ds
section
variable {X:Cx}{e o:Expr}{es:AL}{fo:AV}{ga:AW}{p cpos apos:Pos}{m:Str}
theorem Yg2{j k n:Nat}{tb:List (Str×Hf)}{pl:Sem Bool}(T:OkTb X.prog X.w X.K X.mg X.base j m (spH X.K (n+1)) tb)(hr:Room k X.A)(ho:ZE X o fo)(ha:ZA X (e::es) ga)(hl:∀ρ ds,ga ρ=some ds->ds.length=n)(hj:j<=k:=by first|exact qt _|omega)
 (hst:starEach (e::es) X.env=(false,eval e X.env)::starEach es X.env:=by rfl) (hpl:(backTo cpos (starEach es X.env)).any (·.1)=false:=by rfl)
 (ht:eval (.Call (.Attribute o m apos) (e::es) [] cpos) X.env=(do
  let ov <-eval o X.env
  standAt apos.atName
  let (f,first) <-holding [ov] (getMethod ov m pl)
  callWith cpos f first (backTo cpos (starEach (e::es) X.env)) (backToKw cpos (keywordEach [] X.env))):=by rfl):ZHE X (.Call (.Attribute o m apos) (e::es) [] cpos) (Ymp m tb fo ga):=by
 have hm:∀i:{ p:Addr×Hf // ∃c ps f fd,FnOk X.prog X.w X.K X.mg X.base CX0 j f fd ps (spH X.K (n+1) p.2)/\Binds X.K fd ps []/\W.nsIn X.K mainGlobals c=some (some (.ref p.1))/\Cls X.K p.1/\Meth X.K p.1 m f },∃f fd ps,Cls X.K i.1.1/\Meth X.K i.1.1 m f/\FnOk X.prog X.w X.K X.mg X.base CX0 k f fd ps (spH X.K (n+1) i.1.2)/\Binds X.K fd ps []:=λi=>by
  obtain⟨c,ps,f,fd,F,hb,hn,cl,me⟩:=i.2;exact⟨f,fd,ps,cl,me,F.mono hj,hb⟩
 refine⟨PE.imp (Yrl ho.un hm hr ha.un hst hpl ht) λσ H Q hx_=>?_⟩;obtain⟨ρ,t,H0,G0,G,R,w,⟨x,ds,c,ks,fn,R',h1,h2,h3,h4,h5,h6,h7⟩,kk⟩:=hx_;obtain⟨ps,C,f,fd,F,hb,hn,cl,me⟩:=T.look h5;refine tOf.at h1 w.sr λv H1 G1 g1 r1 s1=>?_;have w1:=w.grow g1
 have at_:∃a dx xs,v=.ref a/\H1 a=some (.ins C dx (ks.zip xs)):=by
  unfold clsH at h3
  split at h3
  ·cases h3
   rw[Rp]at r1;obtain⟨a,C',dx,xs,rfl,n',g,l,q⟩:=r1;rw[hn]at n';cases n';exact⟨a,dx,xs,rfl,s1.seen _ _ g⟩
  ·rename_i a
   split at h3
   ·rename_i c' C' dx ks' vs ds' ha
    cases h3;rw[Rp]at r1;subst r1;obtain⟨o1,o2,o3⟩:=w1.ok a _ ha;rw[hn]at o1;cases o1;exact⟨a,dx,vs,rfl,w1.hw.h a _ ha⟩
   ·cases h3
  ·cases h3
 obtain⟨a,dx,xs,rfl,hat⟩:=at_;refine⟨⟨(C,fn),c,ps,f,fd,F,hb,hn,cl,me⟩,a,dx,_,rfl,hat,Ymm h4,tAof.at h2 s1 λvs H2 G2 g2 r2 s2=>?_⟩;have w2:=w1.grow g2;refine⟨by rw[qq,r2.length,hl ρ ds h2],x::ds,t,G2,R',.cons (r1.mono g2.g) r2,s2.seen,w2.hw,h6,λd t' hd v H' G' af r=>?_⟩;obtain⟨H3,f3,w3⟩:=w2.after af;exact kk d t' (h7 d t' hd) v H' G' H3 f3 w3 ((g1.g.trans g2.g).trans af.g) r
theorem Yoo{j k n:Nat}{tb:List (Str×(AQ->Option D))}{pl:Sem Bool}(T:OkTb X.prog X.w X.K X.mg X.base j m (spOf X.K (n+1)) tb)(hr:Room k X.A)(ho:ZE X o fo)(ha:ZA X (e::es) ga)(hl:∀ρ ds,ga ρ=some ds->ds.length=n)(hj:j<=k:=by first|exact qt _|omega)
 (hst:starEach (e::es) X.env=(false,eval e X.env)::starEach es X.env:=by rfl) (hpl:(backTo cpos (starEach es X.env)).any (·.1)=false:=by rfl)
 (ht:eval (.Call (.Attribute o m apos) (e::es) [] cpos) X.env=(do
  let ov <-eval o X.env
  standAt apos.atName
  let (f,first) <-holding [ov] (getMethod ov m pl)
  callWith cpos f first (backTo cpos (starEach (e::es) X.env)) (backToKw cpos (keywordEach [] X.env))):=by rfl):ZE X (.Call (.Attribute o m apos) (e::es) [] cpos) (Yp8 m tb fo ga):=by
 have hm:∀i:{ p:Addr×(AQ->Option D) // ∃c ps f fd,FnOk X.prog X.w X.K X.mg X.base CX0 j f fd ps (spOf X.K (n+1) p.2)/\Binds X.K fd ps []/\W.nsIn X.K mainGlobals c=some (some (.ref p.1))/\Cls X.K p.1/\Meth X.K p.1 m f },∃f fd ps,Cls X.K i.1.1/\Meth X.K i.1.1 m f/\FnOk X.prog X.w X.K X.mg X.base CX0 k f fd ps (spOf X.K (n+1) i.1.2)/\Binds X.K fd ps []:=λi=>by
  obtain⟨c,ps,f,fd,F,hb,hn,cl,me⟩:=i.2;exact⟨f,fd,ps,cl,me,F.mono hj,hb⟩
 refine⟨PE.imp (Yrl ho.un hm hr ha.un hst hpl ht) λσ H Q hx_=>?_⟩;obtain⟨ρ,d,H0,G0,G,er,s,q⟩:=hx_;obtain⟨x,h1,er⟩:=qa er;obtain⟨ds,h2,er⟩:=qa er
 cases x with
 | obj c ks vs=>
   change (if m∈ks then none else (tb.lookup c).bind λfn=>fn (.obj c ks vs::ds))=some d at er
   split at er
   ·cases er
   ·rename_i h4
    obtain⟨fn,h5,h6⟩:=qa er;obtain⟨ps,C,f,fd,F,hb,hn,cl,me⟩:=T.look h5;refine tOf.at h1 s λv H1 G1 g1 r1 s1=>?_;have r1':=r1;rw[Rp]at r1';obtain⟨a,C',dx,xs,rfl,n',g,l,_⟩:=r1';rw[hn]at n';cases n';refine⟨⟨(C,fn),c,ps,f,fd,F,hb,hn,cl,me⟩,a,dx,_,rfl,s1.seen _ _ g,Ymm h4,tAof.at h2 s1 λws H2 G2 g2 r2 s2=>?_⟩;exact⟨by rw[qq,r2.length,hl ρ ds h2],_,d,G2,s2.seen,.cons (r1.mono g2.g) r2,h6,λv H' G' g' rd=>q v H' G' ((g1.trans g2).trans g') rd⟩
 | _=>cases er
end
end
section
variable {K:W.Frag}
def qB:D->Bool
 | .adr _=>true
 | d=>plB d
def HS.pl:HS->Bool
 | .bls _=>true
 | .ins _ _ _ _ _ ds=>ds.all qB
theorem Rp.q{G G':Hp}(hG:∀b ys,G b=some (HO.tup ys)->G' b=some (HO.tup ys)){d:D}{v:V}(h:qB d=true)(r:Rp K G d v):Rp K G' d v:=by
 cases d with
 | adr a=>rw[Rp]at r ⊢;exact r
 | _=>exact r.plain hG h
theorem RpL.q{G G':Hp}(hG:∀b ys,G b=some (HO.tup ys)->G' b=some (HO.tup ys)):∀{l:AQ}{xs:AN},l.all qB=true->RpL K G l xs->RpL K G' l xs
 | [],_,_,r=>by rw[RpL]at r ⊢;exact r
 | d::l,_,h,r=>by
   rw[RpL]at r ⊢;rw[List.all_cons,Qf]at h;obtain⟨x,xs,e,g,q⟩:=r;exact⟨x,xs,e,g.q hG h.1,RpL.q hG h.2 q⟩
theorem HS.ok.q{G G':Hp}(hG:∀b ys,G b=some (HO.tup ys)->G' b=some (HO.tup ys)):∀{s:HS},s.pl=true->s.ok K G->s.ok K G'
 | .bls _,_,_=>trivial
 | .ins ..,h,⟨a,b,c⟩=>⟨a,b,c.q hG h⟩
def OkC(P:Program)(w:World)(K:W.Frag)(mg:AE)(base:Heap)(k n:Nat)(c:Str)(ps:AK)(dvs:AQ)(m:Hf):Prop:=
 ∃C f fd ds vs,W.nsIn K mainGlobals c=some (some (.ref C))/\mg c=some (.ref C)/\Mk K C f/\FnOk P w K mg base CX0 k f fd ps (spH K n m)/\Binds K fd ps ds/\Vals vs ds/\∀G,RpL K G dvs vs
def Yid(c:Str)(shown:Bool)(is:AF)(dvs:AQ)(ga:AW)(m:Hf):He:=λρ t Q=>∃ds,ga (frz is ρ)=some ds/\∀x C dx,t x=none->∃R,m (.adr x::(ds++dvs)) (pt t x (some (.ins c C dx [] [] []))) R/\
 ∀d t',R d t'->(∀a s,t' a=some s->t a=some s\/s.pl=true)/\d=.non/\(shown=false->Q (.adr x) t')/\(shown=true->∃ks vs es,t' x=some (.ins c C dx ks vs es)/\Q (.obj c ks es) (pt t' x none))
section
variable {X:Cx}{e:Expr}{es:AL}{ga:AW}{p cpos:Pos}{m:Hf}
theorem Yed(shown:Bool)(is:AF){k k' n:Nat}{c:Str}{ps:AK}{dvs:AQ}(O:OkC X.prog X.w X.K X.mg X.base k (n+1) c ps dvs m)(hr:Room k' X.A)(hg:Gl X c)(ha:ZA X (e::es) ga)(hl:∀ρ ds,ga ρ=some ds->ds.length+dvs.length=n)(hk:k+1<=k':=by first|exact qt _|omega)
 (hdb:(c==("__debug__":Str))=false:=by decide) (he:starEach (e::es) X.env=(false,eval e X.env)::starEach es X.env:=by rfl) (hpl:(backTo cpos (starEach es X.env)).any (·.1)=false:=by rfl) :
 ZHE X (.Call (.Name c p) (e::es) [] cpos) (Yid c shown is dvs ga m):=by
 obtain⟨C,f,fd,dfs,dfv,hC,hm,mk,F,hb,hdv,hdd⟩:=O;refine⟨PE.imp (y0f (E:=E0) mk F (hr.mono hk) hg hm hb hdv Ysb ha.un hdb he hpl) λσ H Q hx_=>?_⟩;obtain⟨ρ,t,H0,G0,G,R,w,⟨ds,h1,h2⟩,kk⟩:=hx_;obtain⟨Hb,wb,_⟩:=w.rebase;obtain⟨Gf,sf,ht⟩:=SR.frzT is wb.sr;have smf:Same G Gf:=sf.gr.g;refine tAof.at h1 sf λvs H1 G1 g1 r1 s1=>?_;intro x dx hx0 hdx hne;have hHx:H x=none:=g1.h.free hx0;have hHdx:H dx=none:=g1.h.free hdx
 have hid1:∀a s,t a=some s->G1 a=none:=λa s e=>by
  have h3:=w.hw.h a s e
  have h4:Gf a=none:=by
   refine Classical.byContradiction λz=>?_;have:=sf.gr.n a (w.no e) z;rw[wb.h0 a s e]at this;cases this
  refine Classical.byContradiction λz=>?_;have:=g1.n a h4 z;rw[h3]at this;cases this
 have tx:t x=none:=by
  cases z:t x with
  | none=>rfl
  | some s=>rw[w.hw.h x s z]at hHx;cases hHx
 have g1x:G1 x=none:=s1.seen.free hx0;have g1dx:G1 dx=none:=s1.seen.free hdx;obtain⟨R',hi,hR⟩:=h2 x C dx tx;show spH X.K (n+1) m (.ref x::(vs++dfv)) _ _ E0;refine⟨by rw[qq,qx,r1.length,(hdd G1).length,hl _ ds h1],.adr x::(ds++dvs),_,G1,R',.cons (by rw[Rp]) (r1.append (hdd G1)),λa o ho=>?_,⟨λa s e=>?_,λa s e=>?_,λa s e=>?_⟩,hi,λd t' hd v H' G' af rd=>?_⟩
 ·have n1:a≠x:=λz=>by rw[z,g1x]at ho;cases ho
  have n2:a≠dx:=λz=>by rw[z,g1dx]at ho;cases ho
  rw[Yo n1,Yo n2];exact s1.seen a o ho
 ·by_cases z:a=x
  ·rw[z];exact g1x
  ·rw[Yay z]at e;exact hid1 a s e
 ·by_cases z:a=x
  ·subst z
   rw[Yaa]at e;cases e;rw[Yv];rfl
  ·rw[Yay z]at e
   have h3:=g1.h _ _ (w.hw.h a s e)
   have n2:a≠dx:=λy=>by rw[y,hdx]at h3;cases h3
   rw[Yo z,Yo n2];exact h3
 ·by_cases z:a=x
  ·subst z
   rw[Yaa]at e;cases e;exact⟨hC,rfl,.nil⟩
  ·rw[Yay z]at e
   exact(w.ok a s e).mono (smf.trans g1.g)
 obtain⟨hpl,rfl,hsf,hst⟩:=hR d t' hd;rw[Rp]at rd;subst rd;refine⟨rfl,?_⟩;have at1:∀a,a≠x->pt t x (some (HS.ins c C dx [] [] [])) a=t a:=λa z=>Yay z
 have hnew:∀a,t a=none->t' a≠none->H a=none:=λa h h'=>by
  by_cases z:a=x
  ·rw[z];exact hHx
  ·have h3:=af.new a (by rw[at1 a z];exact h) h'
   rw[Yo z]at h3;by_cases y:a=dx
   ·rw[y];exact hHdx
   ·rw[Yo y]at h3;exact g1.h.free h3
 have hgrow:∀a,t' a=none->t a=none:=λa h=>by
  have h3:=af.grow a h;by_cases z:a=x
  ·rw[z];exact tx
  ·rw[at1 a z]at h3;exact h3
 have hkeep:∀a o,t a=none->H a=some o->H' a=some o:=λa o h ho=>by
  have h3:=g1.h a o ho
  have n1:a≠x:=λz=>by rw[z,hHx]at ho;cases ho
  have n2:a≠dx:=λz=>by rw[z,hHdx]at ho;cases ho
  exact af.keep a o (by rw[at1 a n1];exact h) (by rw[Yo n1,Yo n2];exact h3)
 let G2:Hp:=λa=>if H a=none then G' a else G a
 have g2p:∀{a},H a=none->G2 a=G' a:=λh=>if_pos h;have g2n:∀{a},H a≠none->G2 a=G a:=λh=>if_neg h
 have hsm:Same G G2:=λa o ho=>by
  rw[g2n (by rw[w.sr.seen a o ho];exact λy=>nomatch y)];exact ho
 have hs2:Same G2 H':=λa o ho=>by
  by_cases z:H a=none
  ·rw[g2p z]at ho;exact af.s a o ho
  ·rw[g2n z]at ho
   have tn:t a=none:=by
    cases y:t a with
    | none=>rfl
    | some s=>rw[w.no y]at ho;cases ho
   exact hkeep a o tn (w.sr.seen a o ho)
 have tup:∀b ys,G' b=some (HO.tup ys)->G2 b=some (HO.tup ys):=λb ys hb=>by
  by_cases z:H b=none
  ·rw[g2p z];exact hb
  ·rw[g2n z]
   refine ht b ys ?_
   have hb1:G1 b=some (HO.tup ys):=by
    cases q:G1 b with
    | none=>
      have h3:=af.n b q (by rw[hb];exact λy=>nomatch y);have n1:b≠x:=λy=>z (by rw[y];exact hHx);have n2:b≠dx:=λy=>z (by rw[y];exact hHdx);rw[Yo n1,Yo n2]at h3;exact absurd (g1.h.free h3) z
    | some o=>
      have:=af.g _ _ q;rw[hb]at this;cases this;rfl
   cases q:Gf b with
   | none=>exact absurd (g1.n b q (by rw[hb1];exact λy=>nomatch y)) z
   | some o=>
     have:=g1.g _ _ q;rw[hb1]at this;cases this;rfl
 have hw2:HW X.K t' H' G2:=⟨λa s e=>by
  by_cases z:H a=none
  ·rw[g2p z];exact af.hw.g a s e
  ·rw[g2n z]
   cases y:t a with
   | none=>exact absurd (hnew a y (by rw[e];exact λq=>nomatch q)) z
   | some s'=>exact w.no y,af.hw.h,λa s e=>by
  rcases hpl a s e with h|h
  ·exact(w.ok a s h).mono hsm
  ·exact(af.hw.ok a s e).q tup h⟩
 have hn2:∀a,G a=none->G2 a≠none->H a=none:=λa h h'=>Classical.byContradiction λz=>h' (by rw[g2n z];exact h)
 cases shown with
 | false=>
   obtain⟨H3,f3,w3⟩:=w.after ⟨hkeep,hgrow,hnew,hw2,hsm,hs2,hn2⟩;exact kk _ _ (hsf rfl) _ H' G2 H3 f3 w3 hsm (by rw[Rp])
 | true=>
   obtain⟨ks,ws,es,hx,hq⟩:=hst rfl;have g2x:=hw2.g x _ hx
   have sm3:Same G2 (upd G2 x (.ins C dx (ks.zip ws))):=λa o ho=>by rw[Yo (Yr ho g2x)];exact ho
   obtain⟨o1,o2,o3⟩:=hw2.ok x _ hx
   obtain⟨H3,f3,w3⟩:=w.after (t':=pt t' x none) (H':=H') (G':=upd G2 x (.ins C dx (ks.zip ws))) ⟨hkeep,λa h=>by
    by_cases z:a=x
    ·rw[z];exact tx
    ·rw[Yay z]at h;exact hgrow a h,λa h h'=>by
    by_cases z:a=x
    ·rw[z];exact hHx
    ·rw[Yay z]at h';exact hnew a h h',⟨λa s e=>by
    have z:a≠x:=λz=>by rw[z,Yaa]at e;cases e
    rw[Yay z]at e
    rw[Yo z];exact hw2.g a s e,λa s e=>by
    have z:a≠x:=λz=>by rw[z,Yaa]at e;cases e
    rw[Yay z]at e
    exact hw2.h a s e,λa s e=>by
    have z:a≠x:=λz=>by rw[z,Yaa]at e;cases e
    rw[Yay z]at e
    exact(hw2.ok a s e).mono sm3⟩,hsm.trans sm3,λa o ho=>by
    by_cases z:a=x
    ·subst z
     rw[Yv]at ho;rw[<-ho];exact hw2.h a _ hx
    ·rw[Yo z]at ho;exact hs2 a o ho,λa h h'=>by
    by_cases z:a=x
    ·rw[z];exact hHx
    ·rw[Yo z]at h';exact hn2 a h h'⟩
   refine kk _ _ hq _ H' _ H3 f3 w3 (hsm.trans sm3) ?_;rw[Rp];exact⟨x,C,dx,ws,rfl,o1,Yv,o2,o3.mono sm3⟩
end
theorem Ymq{f:Str}{y:V}:∀{ks:AK}{vs:AN},f∉ks->vs.length=ks.length->putF f y (ks.zip vs)=(ks++[f]).zip (vs++[y])
 | [],[],_,_=>rfl
 | [],_::_,_,h=>nomatch h
 | _::_,[],_,h=>nomatch h
 | k::ks,v::vs,h,hl=>by
   rw[List.zip_cons_cons,List.cons_append,List.cons_append,List.zip_cons_cons];show(if k=f then _ else (k,v)::putF f y (ks.zip vs))=_;rw[if_neg λz=>h (by rw[z];exact qg),Ymq (λz=>h (qf _ z)) (by simpa using hl)]
theorem Aft.put{t:Hs}{H G:Hp}{x:Addr}{s s':HS}(w:HW K t H G)(sm:Same G H)(e:t x=some s)(ok:s'.ok K G):Aft K t (pt t x (some s')) H G (upd H x s'.ho) G:=by
 have gx:=w.g x s e;refine⟨λa o h ho=>?_,λa h=>?_,λa h h'=>?_,⟨λa s e'=>?_,λa s e'=>?_,λa s e'=>?_⟩,Same.refl _,λa o ho=>?_,λa h h'=>absurd h h'⟩
 ·have z:a≠x:=λz=>by rw[z,e]at h;cases h
  rw[Yo z];exact ho
 ·by_cases z:a=x
  ·rw[z,Yaa]at h;cases h
  ·rw[Yay z]at h;exact h
 ·by_cases z:a=x
  ·rw[z,e]at h;cases h
  ·rw[Yay z]at h';exact absurd h h'
 ·by_cases z:a=x
  ·rw[z];exact gx
  ·rw[Yay z]at e';exact w.g a s e'
 ·by_cases z:a=x
  ·subst z;rw[Yaa]at e';cases e';exact Yv
  ·rw[Yay z]at e';rw[Yo z];exact w.h a s e'
 ·by_cases z:a=x
  ·subst z;rw[Yaa]at e';cases e';exact ok
  ·rw[Yay z]at e';exact w.ok a s e'
 ·rw[Yo (Yr ho gx)];exact sm a o ho
def fldH(i:Nat)(f:Str)(cs:AK)(fe:AV):Hm:=λρ t Q=>∃x c C dx ks vs ds d,ρ[i]?=some (some (.sh (.adr x)))/\t x=some (.ins c C dx ks vs ds)/\c∈cs/\f∉ks/\ks.length<1000/\fe ρ=some d/\∀v,Q (.nx ρ (pt t x (some (.ins c C dx (ks++[f]) (vs++[v]) (ds++[d])))))
def fldN(i:Nat)(f:Str)(cs:AK):Hm:=λρ t Q=>∃x c C dx ks vs ds,ρ[i]?=some (some (.sh (.adr x)))/\t x=some (.ins c C dx ks vs ds)/\c∈cs/\f∉ks/\ks.length<1000/\∀l,t l=none->Q (.nx ρ (pt (pt t l (some (.bls []))) x (some (.ins c C dx (ks++[f]) (vs++[.ref l]) (ds++[.adr l])))))
abbrev rwk:AK:=["hand","row","seen"]
def incH(i:Nat):Hm:=λρ t Q=>∃x C dx va vb vc a b n,ρ[i]?=some (some (.sh (.adr x)))/\t x=some (.ins "Rowed" C dx rwk [va,vb,vc] [a,b,.int n])/\Q (.nx ρ (pt t x (some (.ins "Rowed" C dx rwk [va,vb,.int (n+1)] [a,b,.int (n+1)]))))
def appH(i:Nat)(fe:AV):Hm:=λρ t Q=>∃b h l y k,ρ[i]?=some (some (.sh (watD b h (.adr l))))/\t l=some (.bls y)/\y.length<1000000/\fe ρ=some (.bl k)/\Q (.nx ρ (pt t l (some (.bls (y++[k])))))
section
variable {X:Cx}{e:Expr}{fe:AV}{pos p1 tpos:Pos}{f x:Str}{cs:AK}
theorem Yvo{H0 G0 H G:Hp}{σ:L2.St}{ρ:Ro}{i:Nat}{a:Addr}(s:SR K H0 G0 σ H G ρ)(h:ρ[i]?=some (some (.sh (.adr a)))):σ[i]?=some (some (V.ref a)):=by
 obtain⟨v,q1,q2⟩:=s.sh i _ h;rw[Rp]at q2;rw[q1,q2]
theorem Yvp{ks:AK}{vs:AN}(h:vs.length=ks.length):(ks.zip vs).length=ks.length:=by
 rw[List.length_zip,h,Nat.min_self]
theorem Ydq(i:Nat)(hcs:∀c∈cs,CF X.K c f)(he:ZE X e fe)(hN:X.N[i]?=some x:=by rfl)(hv:Vis X.env.scope x:=by trivial)
 (hd:Ndb x:=by decide) (hcd:Ncd x:=by decide) (hs:swapsWith e (some (.Attribute (.Name x p1) f tpos)) pos.line X.env=pure false:=by rfl) :
 ZHS X (.Assign [.Attribute (.Name x p1) f tpos] e pos) (fldH i f cs fe):=⟨PS.imp (Yy8 (Yeo hN hv hd hcd) he.un hs) λF σ H hx_=>by
 obtain⟨ρ,t,H0,G0,G,Q,w,⟨a,c,C,dx,ks,vs,ds,d,h1,h2,h3,h4,h5,h6,h7⟩,cc⟩:=hx_;refine tOf.at h6 w.sr λy H1 G1 g1 r1 s1=>?_;have w1:=w.grow g1;obtain⟨o1,o2,o3⟩:=w1.ok a _ h2;obtain⟨cl,na⟩:=hcs c h3 C o1;refine⟨_,Yvo s1 h1,a,C,dx,_,rfl,w1.hw.h a _ h2,cl,na,by rw[Yvp o2];exact h5,?_⟩
 have e1:HO.ins C dx (putF f y (ks.zip vs))=HS.ho (.ins c C dx (ks++[f]) (vs++[y]) (ds++[d])):=by rw[Ymq h4 o2];rfl
 rw[e1];obtain⟨H3,f3,w3⟩:=w1.after (Aft.put w1.hw s1.seen h2 (s':=.ins c C dx (ks++[f]) (vs++[y]) (ds++[d])) ⟨o1,by simp[o2],o3.append (.one r1)⟩)
 exact cc _ (h7 y) σ _ G1 H3 f3 w3⟩
theorem Aft.add{t:Hs}{H G:Hp}{l:Addr}{s:HS}(w:HW K t H G)(sm:Same G H)(h:H l=none)(ok:s.ok K G):Aft K t (pt t l (some s)) H G (upd H l s.ho) G:=by
 have gl:=sm.free h
 have tl:t l=none:=by
  cases z:t l with
  | none=>rfl
  | some x=>rw[w.h l x z]at h;cases h
 refine⟨λa o _ ho=>?_,λa h=>?_,λa h1 h'=>?_,⟨λa s e'=>?_,λa s e'=>?_,λa s e'=>?_⟩,Same.refl _,λa o ho=>?_,λa h h'=>absurd h h'⟩
 ·rw[Yo (Yr ho h)];exact ho
 ·by_cases z:a=l
  ·rw[z];exact tl
  ·rw[Yay z]at h;exact h
 ·by_cases z:a=l
  ·rw[z];exact h
  ·rw[Yay z]at h';exact absurd h1 h'
 ·by_cases z:a=l
  ·rw[z];exact gl
  ·rw[Yay z]at e';exact w.g a s e'
 ·by_cases z:a=l
  ·subst z;rw[Yaa]at e';cases e';exact Yv
  ·rw[Yay z]at e';rw[Yo z];exact w.h a s e'
 ·by_cases z:a=l
  ·subst z;rw[Yaa]at e';cases e';exact ok
  ·rw[Yay z]at e';exact w.ok a s e'
 ·rw[Yo (Yr ho gl)];exact sm a o ho
theorem Yx5(i:Nat){lp:Pos}(hcs:∀c∈cs,CF X.K c f)(hN:X.N[i]?=some x:=by rfl)(hv:Vis X.env.scope x:=by trivial)
 (hd:Ndb x:=by decide) (hcd:Ncd x:=by decide) (hs:swapsWith (.List [] lp) (some (.Attribute (.Name x p1) f tpos)) pos.line X.env=pure false:=by rfl) :
 ZHS X (.Assign [.Attribute (.Name x p1) f tpos] (.List [] lp) pos) (fldN i f cs):=⟨PS.imp (Yy8 (Yeo hN hv hd hcd) (Ytj Yep) hs) λF σ H hx_=>by
 obtain⟨ρ,t,H0,G0,G,Q,w,⟨a,c,C,dx,ks,vs,ds,h1,h2,h3,h4,h5,h7⟩,cc⟩:=hx_;refine⟨Qc _,λl hl=>?_⟩
 have tl:t l=none:=by
  cases z:t l with
  | none=>rfl
  | some x=>rw[w.hw.h l x z]at hl;cases hl
 obtain⟨o1,o2,o3⟩:=w.ok a _ h2;obtain⟨cl,na⟩:=hcs c h3 C o1;obtain⟨H3,f3,w3⟩:=w.after (Aft.add (s:=.bls []) w.hw w.sr.seen hl trivial)
 have hal:a≠l:=λz=>by rw[z,tl]at h2;cases h2
 have h2':pt t l (some (.bls [])) a=some (.ins c C dx ks vs ds):=by rw[Yay hal];exact h2
 refine⟨_,Yvo w3.sr h1,a,C,dx,_,rfl,w3.hw.h a _ h2',cl,na,by rw[Yvp o2];exact h5,?_⟩
 have e1:HO.ins C dx (putF f (.ref l) (ks.zip vs))=HS.ho (.ins c C dx (ks++[f]) (vs++[.ref l]) (ds++[.adr l])):=by rw[Ymq h4 o2];rfl
 rw[e1];obtain⟨H4,f4,w4⟩:=w3.after (Aft.put w3.hw w3.sr.seen h2' (s':=.ins c C dx (ks++[f]) (vs++[.ref l]) (ds++[.adr l])) ⟨o1,by simp[o2],o3.append (.one (by rw[Rp]))⟩)
 exact cc _ (h7 l tl) σ _ G H4 (f3.trans f4) w4⟩
theorem y2c(i:Nat){p2:Pos}{j}(k:CF X.K "Rowed" "seen")(hN:X.N[i]?=some x:=by rfl)(hv:Vis X.env.scope x:=by trivial)
 (hd:Ndb x:=by decide) (hcd:Ncd x:=by decide):ZHS X (.AugAssign (.Attribute (.Name x p1) "seen" tpos) .Add (.Constant (.int 1) j p2) pos) (incH i):=
 ⟨PS.imp (Yti (Yeo hN hv hd hcd) Yyz y3j) λF σ H hx_=>by
  obtain⟨ρ,t,H0,G0,G,Q,w,⟨a,C,dx,va,vb,vc,da,db,n,h1,h2,h7⟩,cc⟩:=hx_;obtain⟨o1,o2,o3⟩:=w.ok a _ h2;obtain⟨cl,na⟩:=k C o1;obtain⟨y1,y2,y3,e3,r1,r2,r3⟩:=o3.three;cases e3;rw[Rp]at r3;subst r3;refine⟨_,Yvo w.sr h1,a,C,dx,_,.int n,rfl,w.hw.h a _ h2,cl,na,rfl,n,1,rfl,rfl,dx,_,w.hw.h a _ h2,by show 3<1000;decide,?_⟩;have e1:HO.ins C dx (putF "seen" (.int (n+1)) (rwk.zip [va,vb,.int n]))=HS.ho (.ins "Rowed" C dx rwk [va,vb,.int (n+1)] [da,db,.int (n+1)]):=rfl;rw[e1];obtain⟨H4,f4,w4⟩:=w.after (Aft.put w.hw w.sr.seen h2 (s':=.ins "Rowed" C dx rwk [va,vb,.int (n+1)] [da,db,.int (n+1)]) ⟨o1,rfl,.cons r1 (.cons r2 (.one (by rw[Rp])))⟩)
  exact cc _ h7 σ _ G H4 f4 w4⟩
theorem y2d(i:Nat){p2 apos cpos:Pos}(k:CF X.K "Watch" "truths")(he:ZE X e fe)(hN:X.N[i]?=some x:=by rfl)(hv:Vis X.env.scope x:=by trivial)
 (hd:Ndb x:=by decide) (hcd:Ncd x:=by decide) (hse:swapsWith (.Call (.Attribute (.Attribute (.Name x p1) "truths" p2) "append" apos) [e] [] cpos) none pos.line X.env=pure false:=by rfl)
 (hs:starEach [e] X.env=[(false,eval e X.env)]:=by rfl)
 (hfew:Few X cpos [e]:=by rfl)
 (hline:(apos.endLine==cpos.line)=true:=by rfl) (hbase:attributeBase (.Attribute (.Name x p1) "truths" p2) "append" X.env (eval (.Attribute (.Name x p1) "truths" p2) X.env)=eval (.Attribute (.Name x p1) "truths" p2) X.env:=by rfl)
 (hb1:attributeBase (.Name x p1) "truths" X.env (eval (.Name x p1) X.env)=eval (.Name x p1) X.env:=by rfl) :
 ZHS X (.Expr (.Call (.Attribute (.Attribute (.Name x p1) "truths" p2) "append" apos) [e] [] cpos) pos) (appH i fe):=
 ⟨PS.imp (Yf0 (Yw0 PySem.F.plainAttrs_list PySem.F.slot_list_append PySem.F.type_list_append Yit (Yy7 (Yeo hN hv hd hcd) hb1) (Ybr he.un Yep hs) hbase hfew hline hs rfl) hse) λF σ H hx_=>by
  obtain⟨ρ,t,H0,G0,G,Q,w,⟨b,h,l,y,kk,h1,h2,h3,h4,h7⟩,cc⟩:=hx_;obtain⟨v,q1,q2⟩:=w.sr.sh i _ h1;rw[Rp]at q2;obtain⟨a,C,dx,xs,rfl,n,g,lx,q⟩:=q2;obtain⟨y1,y2,y3,rfl,r1,r2,r3⟩:=q.three;rw[Rp]at r3;subst r3;refine⟨_,q1,a,C,dx,_,.ref l,rfl,w.sr.seen _ _ g,(k C n).1,(k C n).2,rfl,.inl ⟨rfl,_,SqL.of (w.hw.h l _ h2)⟩,tOf.at h4 w.sr λv H1 G1 g1 rv s1=>?_⟩;rw[Rp]at rv;subst rv;have w1:=w.grow g1;refine⟨l,y.map V.bl,_,rfl,rfl,w1.hw.h l _ h2,?_,?_⟩
  ·rw[qe]
   exact Qb h3 (Yeb (qt _))
  ·obtain⟨H4,f4,w4⟩:=w1.after (Aft.put w1.hw s1.seen h2 (s':=.bls (y++[kk])) trivial)
   have e2:HS.ho (.bls (y++[kk]))=HO.lst (y.map V.bl++[V.bl kk]):=by
    show HO.lst ((y++[kk]).map V.bl)=_;rw[wt];rfl
   have:=cc _ h7 σ _ G1 H4 f4 w4;rw[e2]at this
   exact this⟩
end
def OkK(P:Program)(w:World)(K:W.Frag)(mg:AE)(base:Heap)(k n:Nat)(c f:Str)(ps:AK)(m:Hf):Prop:=
 ∃C a fd mc,mg c=some (.ref C)/\FnOk P w K mg base CX0 k a fd ps (spH K n m)/\Binds K fd ps []/\W.keepIn K (.ref a)=true/\W.specialIn K (.ref C) "__getattribute__"=some (some (.builtin "type.__getattribute__"))/\W.readsIn K C mc=true/\W.findCls K (.ref C) mc f=some (.val (.ref a))/\W.handedIn (.ref a)=true
section
variable {X:Cx}{e:Expr}{es:AL}{ga:AW}{p apos cpos:Pos}{m:Hf}
theorem Yvq{j k n:Nat}{c f:Str}{ps:AK}{pl:Sem Bool}(O:OkK X.prog X.w X.K X.mg X.base j n c f ps m)(hr:Room k X.A)(hg:Gl X c)(ha:ZA X (e::es) ga)(hl:∀ρ ds,ga ρ=some ds->ds.length=n)(hj:j<=k:=by first|exact qt _|omega)(hdb:(c==("__debug__":Str))=false:=by decide)
 (hst:starEach (e::es) X.env=(false,eval e X.env)::starEach es X.env:=by rfl) (hpl:(backTo cpos (starEach es X.env)).any (·.1)=false:=by rfl)
 (ht:eval (.Call (.Attribute (.Name c p) f apos) (e::es) [] cpos) X.env=(do
  let ov <-eval (.Name c p) X.env
  standAt apos.atName
  let (f,first) <-holding [ov] (getMethod ov f pl)
  callWith cpos f first (backTo cpos (starEach (e::es) X.env)) (backToKw cpos (keywordEach [] X.env))):=by rfl):ZHE X (.Call (.Attribute (.Name c p) f apos) (e::es) [] cpos) (Yvn ga m):=by
 obtain⟨C,a,fd,mc,hm,F,hb,hk,hs,hrd,hf,hh⟩:=O
 have T:PE X (.Call (.Attribute (.Name c p) f apos) (e::es) [] cpos) (y3l (spH X.K n m) [] E0 (tAof X.K ga)):=by
  intro pins s σ H Q I h;refine W.methodCall_KW (pl:=pl) (thn (Ylv (v:=.ref C) hg hm rfl hdb pins s σ H (λv H1=>v=.ref C/\H1=H) I ⟨rfl,rfl⟩) λu s1 hx_=>?_) ht;obtain⟨v,H1,I1,rv,ev,eh⟩:=hx_;subst ev;subst eh;obtain rfl:u=Value.ref C:=rv;refine W.method_cls I1.kIn hs (W.cls_value I1.kIn hrd hf hh ?_);refine W.callWith_K (first:=[]) (h₀:=X.base) I.ok.mod.kin hk (thn (ha.un cpos pins _ σ H1 _ (I1.tok _) h) λus s2 hy_=>?_) hst hpl;obtain⟨vs,H2,I2,r,q2⟩:=hy_;exact⟨I2.kIn,Yqy F (hr.mono hj) hb .nil Ysb I2 r q2⟩
 refine⟨PE.imp T λσ H Q hx_=>?_⟩;obtain⟨ρ,t,H0,G0,G,R,w,⟨ds,h1,R',h2,h3⟩,k⟩:=hx_;refine tAof.at h1 w.sr λvs H1 G1 g1 r1 s1=>?_;have w1:=w.grow g1;show spH X.K n m (vs++[]) H1 Q E0;rw[jb];refine⟨by rw[r1.length,hl ρ ds h1],ds,t,G1,R',r1,s1.seen,w1.hw,h2,λd t' hd v H' G' af r=>?_⟩;obtain⟨H3,f3,w3⟩:=w1.after af;exact k d t' (h3 d t' hd) v H' G' H3 f3 w3 (g1.g.trans af.g) r
end
def nnD:D->Option Bool
 | .non=>some false
 | _=>some true
def Yp9(g:Hm):AS:=λρ=>ifP (g ρ (λ_=>none) fun
 | .rt (.bl true) _=>True
 | _=>False) (some (.rt (.bl true)))
section
variable {X:Cx}{e:Expr}{fe:He}{a b sts:List Stmt}{fs gs g:Hm}{pos cp np:Pos}
theorem Rp.nn{G:Hp}{d:D}{v:V}{k:Bool}(r:Rp K G d v)(h:nnD d=some k):(!decide (v=V.non))=k:=by
 cases d<;>cases h<;>rw[Rp]at r<;>first|(obtain⟨_,_,_,_,rfl,_⟩:=r;rfl)|(obtain⟨_,_,_,rfl,_⟩:=r;rfl)|(obtain⟨_,_,rfl,_⟩:=r;rfl)|(obtain⟨_,rfl,_⟩:=r;rfl)|(obtain⟨rfl,_⟩:=r;rfl)|(subst r;rfl)
theorem y2e{j}(h:ZHE X e fe)(ha:ZHB X a fs)(hb:ZHB X b gs):ZHS X (.If (.Compare e [.IsNot] [.Constant .none j np] cp) a b pos) (tstH fe nnD fs gs):=⟨PS.imp (Yz6 (y2z (Yz3 h.un)) ha.un hb.un) λF σ H hx_=>by
 obtain⟨ρ,t,H0,G0,G,Q,w,q,c⟩:=hx_;refine⟨ρ,t,H0,G0,G,_,w,q,λd t' hq v H' G' H1 f1 w1 s1 r1=>⟨_,rfl,?_⟩⟩;obtain⟨k,hk,ht,hf⟩:=hq;rw[r1.nn hk]
 cases k with
 | true=>exact iteT ⟨ρ,t',H1,G0,G',Q,w1,ht rfl,λo ho=>(c o ho).off f1⟩
 | false=>exact iteF ⟨ρ,t',H1,G0,G',Q,w1,hf rfl,λo ho=>(c o ho).off f1⟩⟩
theorem Yvr(h:ZHB X sts g):ZB X sts (Yp9 g):=⟨PSs.imp h.un λF σ H hx_=>by
 obtain⟨ρ,out,H0,G0,G,er,s,c⟩:=hx_;obtain⟨hg,er⟩:=Yx2 er;cases er;refine⟨ρ,λ_=>none,H0,G0,G,_,⟨s,λ_ _ e=>(nomatch (show(none:Option HS)=some _ from e)),λ_ _ e=>(nomatch (show(none:Option HS)=some _ from e)),λ_ _ e=>(nomatch (show(none:Option HS)=some _ from e))⟩,hg,λo ho=>?_⟩
 split at ho
 ·exact λv H' G' H1 f1 w1 r1=>by
   have af:=w1.aft f1 rfl;exact c v H' G' ⟨λa o e=>af.keep a o rfl e,af.g,af.s,af.n⟩ r1
 ·exact ho.elim⟩
def clrS(i:Nat):AS:=λρ=>(getO i ρ).map λ_=>.nx (ρ.set i (some (.ow [])))
theorem Yvs(i:Nat){x:Str}{p1 apos cpos:Pos}(hN:X.N[i]?=some x:=by rfl)(hv:Vis X.env.scope x:=by trivial)
 (hd:Ndb x:=by decide) (hcd:Ncd x:=by decide) (hse:swapsWith (.Call (.Attribute (.Name x p1) "clear" apos) [] [] cpos) none pos.line X.env=pure false:=by rfl)
 (hline:(apos.endLine==cpos.line)=true:=by rfl) (hbase:attributeBase (.Name x p1) "clear" X.env (eval (.Name x p1) X.env)=eval (.Name x p1) X.env:=by rfl) :
 ZS X (.Expr (.Call (.Attribute (.Name x p1) "clear" apos) [] [] cpos) pos) (clrS i):=
 ⟨PS.imp (Yf0 (y3s PySem.F.plainAttrs_list PySem.F.slot_list_clear PySem.F.type_list_clear Yw2 (Yeo hN hv hd hcd) hbase hline) hse) λF σ H hx_=>by
  obtain⟨ρ,out,H0,G0,G,er,s,c⟩:=hx_;obtain⟨l,h1,rfl⟩:=qb er;obtain⟨a,xs,ha,hH,hr,hG⟩:=Yn5 s h1
  exact⟨_,ha,.inl ⟨rfl,xs,SqL.of hH⟩,a,xs,rfl,rfl,hH,c σ _ G (s.mut (Ydw h1) ha .nil)⟩⟩
end
end
section
variable {K:W.Frag}
def txD:AQ->Option AK
 | []=>some []
 | .str x::l=>(txD l).map (x::·)
 | _::_=>none
def zS(ss:AK)(vxs:AN):List (Key×V):=(ss.map Sum.inr).zip vxs
theorem Yx6{G:Hp}:∀{ks:AQ}{ss:AK}{kxs:AN},txD ks=some ss->RpL K G ks kxs->kxs=ss.map V.str
 | [],_,_,h,r=>by
   cases h;rw[RpL]at r;exact r
 | d::ks,ss,kxs,h,r=>by
   cases d with
   | str x=>
     rw[txD]at h;obtain⟨l,h1,rfl⟩:=qb h;rw[RpL]at r;obtain⟨y,r',rfl,r1,r2⟩:=r;rw[Rp]at r1;rw[r1.1,Yx6 h1 r2];rfl
   | _=>simp[txD]at h
theorem y5n:∀{kvs:List (Key×V)}{ss:AK},kvs.map (λp=>kV p.1)=ss.map V.str->kvs=zS ss (kvs.map (·.2))
 | [],[],_=>rfl
 | [],_::_,h=>by cases h
 | _::_,[],h=>by cases h
 | (k,v)::kvs,s::ss,h=>by
   rw[q0,q0]at h;obtain⟨h1,h2⟩:=List.cons.inj h
   have e:k=Sum.inr s:=by
    cases k with
    | inl i=>cases h1
    | inr x=>cases h1;rfl
   rw[e,q0];show _=(Sum.inr s,v)::zS ss (kvs.map (·.2));rw[<-y5n h2]
theorem y5o{G H:Hp}{a:Addr}{ks:AQ}{kxs vxs:AN}{ss:AK}(hn:txD ks=some ss)(d:Dc false G H a kxs vxs)(r:RpL K G ks kxs):H a=some (.dK (zS ss vxs))/\ss.Nodup/\ss.length=vxs.length:=by
 rcases d with⟨_,kvs,h1,h2,h3,h4⟩|⟨h,_⟩
 ·have e:=y5n (h3.symm.trans (Yx6 hn r))
  rw[<-h4]at e
  have hl:ss.length=vxs.length:=by
   have:=congrArg List.length (h3.symm.trans (Yx6 hn r));rw[qe,qe]at this;rw[<-this,h4,qe]
  rw[e]at h1 h2;refine⟨h1,?_,hl⟩;have:(zS ss vxs).map (·.1)=ss.map Sum.inr:=List.map_fst_zip (by simp[hl]);rw[this]at h2;exact(List.pairwise_map.mp h2).imp λh z=>h (by rw[z])
 ·cases h
theorem y5p{G H:Hp}{a:Addr}{vxs:AN}{ss:AK}(h:H a=some (.dK (zS ss vxs)))(hn:ss.Nodup)(hl:ss.length=vxs.length):Dc false G H a (ss.map V.str) vxs:=by
 refine .inl ⟨rfl,zS ss vxs,h,?_,?_,?_⟩
 ·rw[show(zS ss vxs).map (·.1)=ss.map Sum.inr from List.map_fst_zip (by simp[hl])]
  exact List.Pairwise.map _ (λa b h z=>h (Sum.inr.inj z)) hn
 ·have e:(zS ss vxs).map (λp=>kV p.1)=((zS ss vxs).map (·.1)).map kV:=by rw[List.map_map];rfl
  rw[e,show(zS ss vxs).map (·.1)=ss.map Sum.inr from List.map_fst_zip (by simp[hl]),List.map_map];rfl
 ·exact(List.map_snd_zip (by simp[hl])).symm
def getS:D->D->Option D
 | .dct false ks vs,.str k=>(txD ks).bind λss=>Yfs ss vs k
 | _,_=>none
theorem Yx7:Sem2 K rIxI getS:=by
 intro x y dx dy d H G Q h s rx ry q;unfold getS at h
 split at h
 ·rename_i ks vs k
  obtain⟨ss,h1,h⟩:=qa h;rw[Ct]at rx;rw[Ct]at ry;obtain⟨rfl,_⟩:=ry;obtain⟨a,kxs,vxs,rfl,dc,r1,r2⟩:=rx;obtain⟨e1,e2,e3⟩:=y5o h1 dc r1;obtain⟨v,f1,f2⟩:=(Yui k r2).1 d h;refine⟨a,v,rfl,?_,q v H G (.refl s) f2⟩;have:=DGet.k (k:=Sum.inr k) e1;rw[show valV (zS ss vxs) (Sum.inr k)=Yfs ss vxs k from Yxi k,f1]at this;exact this
 ·cases h
theorem Yzq(x:Str):∀(ss:AK) (vxs:AN),ss.length=vxs.length->x∈ss->((zS ss vxs).any λkv=>decide (kv.1=Sum.inr x))=true
 | [],_,_,h=>by cases h
 | n::ss,[],h,_=>by simp at h
 | n::ss,v::vxs,h,hx=>by
   show((Sum.inr n,v)::zS ss vxs).any _=true;rw[List.any_cons];rcases qr hx with rfl|hx
   ·simp
   ·rw[Yzq x ss vxs (by simpa using h) hx,Bool.or_true]
theorem Yzr(x:Str)(y:V):∀(ss:AK) (vxs:AN),ss.length=vxs.length->ss.Nodup->(zS ss vxs).map (λkv=>if kv.1=Sum.inr x then (kv.1,y)else kv)=zS ss (setK ss vxs x y)
 | [],vxs,_,_=>by simp[zS]
 | n::ss,[],h,_=>by simp at h
 | n::ss,v::vxs,h,hn=>by
   obtain⟨h1,h2⟩:=List.nodup_cons.mp hn
   have hl:ss.length=vxs.length:=by simpa using h
   show(((Sum.inr n,v)::zS ss vxs):List (Key×V)).map _=_;rw[q0,setK];by_cases e:n=x
   ·subst e
    rw[if_pos rfl,if_pos rfl];show _=(Sum.inr n,y)::zS ss vxs
    have:(zS ss vxs).map (λkv=>if kv.1=Sum.inr n then (kv.1,y)else kv)=zS ss vxs:=by
     refine(List.map_congr_left λkv hkv=>?_).trans (List.map_id _);rw[if_neg]
     ·rfl
     ·intro z
      have:kv.1∈(zS ss vxs).map (·.1):=List.mem_map_of_mem hkv;rw[show(zS ss vxs).map (·.1)=ss.map Sum.inr from List.map_fst_zip (by simp[hl]),z]at this;obtain⟨m,hm,e⟩:=qw this;injection e with e;exact h1 (e ▸ hm)
    rw[this]
   ·rw[if_neg (by simpa using e),if_neg e,Yzr x y ss vxs hl h2]
    rfl
theorem Yvt{G:Hp}:∀{ks:AK},(∀k∈ks,PyData.strOk k=true)->RpL K G (ks.map D.str) (ks.map V.str)
 | [],_=>.nil
 | k::ks,h=>.cons (by rw[Rp];exact⟨rfl,h k (by simp)⟩) (Yvt λk' hk=>h k' (by simp[hk]))
section
variable {X:Cx}{a b e:Expr}{fa fb f:AV}{pos:Pos}
theorem Yee(hu:X.A.units+64<cLine)(ha:ZC X a fa)(hb:ZC X b fb)(hs:Yis b:=by intro _ _;rfl):ZE X (.Subscript a b pos) (b2 fa fb getS):=⟨y30 (y7c hu) Yx7 ha.un hb.un hs⟩
def Yop(i:Nat)(ks:AK)(fs:List AV):AS:=λρ=>(evs fs ρ).bind λds=>some (.nx (ρ.set i (some (.od false (ks.map D.str) ds))))
theorem Yvu{ρ:Ro}:∀{fs:List AV}{ds:AQ},evs fs ρ=some ds->ds.length=fs.length
 | [],_,h=>by cases h;rfl
 | f::fs,ds,h=>by
   rw[evs]at h;obtain⟨d,_,h⟩:=qa h;obtain⟨l,h3,rfl⟩:=qb h;simp[Yvu h3]
theorem Yoq(i:Nat){x:Str}{p1 dpos:Pos}{keys:List (Option Expr)}{values:AL}(ks:AK)(fs:List AV)(hok:∀k∈ks,PyData.strOk k=true)(hn:ks.Nodup)(h15:ks.length<=15)(h0:ks≠[])(hp:ZP X dpos keys values ks fs)(hN:X.N.Nodup)(hi:X.N[i]?=some x:=by rfl)(hx:Loc X.env.scope x:=by trivial)
 (hs:swapsWith (.Dict keys values dpos) (some (.Name x p1)) pos.line X.env=pure false:=by rfl) (hf:X.fn x=true\/X.env.scope.names.lookup x=some .local:=by trivial):ZS X (.Assign [.Name x p1] (.Dict keys values dpos) pos) (Yop i ks fs):=by
 have hp:=hp.un;refine⟨PS.imp (Yqw hN hi hx (y0j hp.pps hp.all hp.kv (λz=>h0 (List.eq_nil_of_length_eq_zero (by rw[<-hp.kk,z];rfl))) (by rw[hp.kk];exact h15)) hs hf) λF σ H hx_=>?_⟩;obtain⟨ρ,out,H0,G0,G,e,s,h⟩:=hx_;obtain⟨ds,h1,e⟩:=qa e;cases e;intro p hp0;have g0:Gr H G (upd H p (.dK [])) G:=Gr.hid s.seen hp0 _;refine Yob hp.len h1 (s.grow g0) λvs H2 G2 g2 r2=>?_
 have hz:ks.length=vs.length:=by rw[r2.length,Yvu h1,hp.len]
 refine⟨g2.h _ _ Yv,zS ks vs,?_,by unfold zS;simp[hz];omega,?_⟩
 ·apply List.ext_getElem
  ·simp[zS]
  ·intro i h3 h4
   simp[kV,zS]
 ·have hkeys:(zS ks vs).map (·.1)=ks.map Sum.inr:=List.map_fst_zip (by simp[hz])
  have hm:Ygj [] (zS ks vs)=zS ks vs:=by
   rw[Yoc (by rw[hkeys];exact List.Pairwise.map _ (λa b h z=>h (Sum.inr.inj z)) hn) λk _=>rfl];rfl
  rw[hm];have gp:G2 p=none:=Yi0 g2 Yv (s.seen.free hp0);have g3:Gr H G (upd H2 p (.dK (zS ks vs))) G2:=(g0.trans g2).updHid hp0 gp _;refine h _ _ G2 (s.set_od i g3 hp0 gp (kxs:=ks.map V.str) (vxs:=vs) (y5p Yv hn hz) ?_ r2);exact Yvt hok
def y2f(ks vs:AQ)(k d:D):Option AQ:=(txD ks).bind λss=>match k with
 | .str x=>if vs.length<cap6/\x∈ss then some (setK ss vs x d)else none
 | _=>none
def y2g(i:Nat)(fi f:AV):AS:=λρ=>(f ρ).bind λd=>(Yoe i ρ).bind λl=>(fi ρ).bind λk=>(y2f l.1 l.2 k d).map λvs=>.nx (ρ.set i (some (.od false l.1 vs)))
theorem Yx8(hu:X.A.units+64<cLine)(i:Nat){x:Str}{ie:Expr}{p2 p3:Pos}(hb:ZC X ie fb)(he:ZE X e f)(hN:X.N[i]?=some x:=by rfl)(hv:Vis X.env.scope x:=by trivial)
 (hd:Ndb x:=by decide) (hcd:Ncd x:=by decide)
 (ha:∀v,assign (.Subscript (.Name x p2) ie p3) X.env v=(do
  let ov <-holding [v] (eval (.Name x p2) X.env)
  let iv <-holding [v,ov] (eval ie X.env)
  standAt p3
  holding [v,ov,iv] (setItem ov iv v)
  release [v,ov,iv] []):=by intro _;rfl)
 (hs:swapsWithSole [.Subscript (.Name x p2) ie p3] e pos.line X.env=pure false:=by rfl) (hw:swappedStores [.Subscript (.Name x p2) ie p3] e X.env=pure none:=by rfl)
 (h1:(assignEach [.Subscript (.Name x p2) ie p3] X.env).map (·.2)=[assign (.Subscript (.Name x p2) ie p3) X.env]:=by rfl):ZS X (.Assign [.Subscript (.Name x p2) ie p3] e pos) (y2g i fb f):=by
 refine⟨PS.imp (Yy4 he.un (Yy3 (Yeo hN hv hd hcd) hb.un (y42 hu) ha) hs hw h1) λF σ H hx_=>?_⟩;obtain⟨ρ,out,H0,G0,G,e,s,h⟩:=hx_;obtain⟨d,h1,e⟩:=qa e;obtain⟨l,h2,e⟩:=qa e;obtain⟨k,h3,e⟩:=qa e;obtain⟨vs',h4,rfl⟩:=qb e;obtain⟨ks,vs⟩:=l;obtain⟨ss,h5,h4⟩:=qa h4
 cases k with
 | str j=>
   dsimp only at h4
   split at h4
   case isFalse=>cases h4
   rename_i hcap;cases h4;have hod:=Ysj h2;refine tOf.at h1 s λv H1 G1 g1 r1 s1=>?_;obtain⟨a0,_,_,ha0,_⟩:=s1.od i _ _ _ hod;refine⟨_,ha0,tCof.at h3 s1 λu H2 G2 g2 r2 s2=>?_⟩;obtain⟨a,kxs,vxs,ha,hG,hH0,dc,rk,rv⟩:=s2.od i _ _ _ hod;rw[ha0]at ha;cases ha;obtain⟨e1,e2,e3⟩:=y5o h5 dc rk;rw[Ct]at r2;obtain⟨rfl,_⟩:=r2
   have hvl:vxs.length<cap6:=by rw[rv.length];exact hcap.1
   have hsl:(zS ss vxs).length<sizeLine:=by
    unfold zS;rw[List.length_zip,qe,e3,Nat.min_self,jj];have:cap6=1000000:=rfl;omega
   refine⟨a0,_,rfl,DPut.k (k:=Sum.inr j) (v:=v) e1 hsl,?_⟩
   have e4:putK (zS ss vxs) (Sum.inr j) v=zS ss (setK ss vxs j v):=by
    unfold putK;rw[if_pos (Yzq j ss vxs e3 hcap.2)];exact Yzr j v ss vxs e3 e2
   rw[e4];have hk:=Yx6 h5 rk;rw[hk]at rk;exact h _ _ G2 (s2.mutd hod ha0 (kxs:=ss.map V.str) (vxs:=setK ss vxs j v) (y5p Yv e2 (by rw[Yjc];exact e3)) rk (Yuj j (r1.mono g2.g) rv))
 | _=>cases h4
end
def IsO(K:W.Frag)(mg:AE)(c0 c:Str)(b:Bool):Prop:=∃C C0,W.nsIn K mainGlobals c=some (some (.ref C))/\mg c0=some (.ref C0)/\Cls K C/\W.findIn K (.ref C) "__class__"=some (some (.builtin "object.__class__"))/\
 W.specialIn K (.builtin "object.__class__") "__get__"=some (some (.builtin "getset_descriptor.__get__"))/\W.takesIn K (.builtin "object.__class__")=some true/\W.mroIn K C (.type "object")=some true/\W.kitOne K (.ref C) (.ref C0)=some b
def IsK(K:W.Frag)(c0 c:Str)(b:Bool):Prop:=∃C C0,W.nsIn K mainGlobals c=some (some (.ref C))/\W.nsIn K mainGlobals c0=some (some (.ref C0))/\Cls K C/\W.findIn K (.ref C) "__class__"=some (some (.builtin "object.__class__"))/\
 W.specialIn K (.builtin "object.__class__") "__get__"=some (some (.builtin "getset_descriptor.__get__"))/\W.takesIn K (.builtin "object.__class__")=some true/\W.mroIn K C (.type "object")=some true/\W.kitOne K (.ref C) (.ref C0)=some b
theorem isk_mk{c0 c:Str}{b:Bool}{C C0:Addr}(a:W.nsIn K mainGlobals c=some (some (.ref C)))(a0:W.nsIn K mainGlobals c0=some (some (.ref C0)))(pg:W.plainGet K C Str.empty=true)(hd:W.hasDictIn K C=true)(po:W.plainOver K C=true)(sa:W.findIn K (.ref C) "__setattr__"=some (some (.builtin "object.__setattr__")))
 (e:W.findIn K (.ref C) "__class__"=some (some (.builtin "object.__class__"))) (f:W.specialIn K (.builtin "object.__class__") "__get__"=some (some (.builtin "getset_descriptor.__get__"))) (g:W.takesIn K (.builtin "object.__class__")=some true) (m:W.mroIn K C (.type "object")=some true) (k:W.kitOne K (.ref C) (.ref C0)=some b):IsK K c0 c b:=⟨C,C0,a,a0,⟨pg,hd,po,sa⟩,e,f,g,m,k⟩
theorem IsK.on{h:Heap}{mg:AE}{c0 c:Str}{b:Bool}(F:IsK K c0 c b)(X:K.In h)(G:h.Ns mainGlobals mg):IsO K mg c0 c b:=by
 obtain⟨C,C0,a,a0,r⟩:=F;exact⟨C,C0,a,W.mg_of X G a0,r⟩
theorem IsK.m{h:Heap}{mg:AE}{c0 c:Str}{b:Bool}(F:IsK K c0 c b)(X:K.In h)(G:h.Ns mainGlobals mg):∃C,mg c0=some (.ref C):=by
 obtain⟨C,C0,a,a0,r⟩:=F;exact⟨C0,W.mg_of X G a0⟩
def isiO(tb:List (Str×Bool)):D->Option Bool
 | .obj c _ _=>tb.lookup c
 | _=>none
def OkIs(K:W.Frag)(mg:AE)(c0:Str):List (Str×Bool)->Prop
 | []=>True
 | (c,b)::r=>IsO K mg c0 c b/\OkIs K mg c0 r
theorem OkIs.look{mg:AE}{c0 c:Str}{b:Bool}:∀{tb:List (Str×Bool)},OkIs K mg c0 tb->tb.lookup c=some b->IsO K mg c0 c b
 | [],_,e=>by cases e
 | (c',b')::r,h,e=>by
   rw[Qg]at e
   split at e
   ·rename_i hc
    cases e;rw[eq_of_beq hc];exact h.1
   ·exact OkIs.look h.2 e
section
variable {X:Cx}{a:Expr}{fa:AV}{pos p p2:Pos}{c0:Str}
theorem Yx9{tb:List (Str×Bool)}(T:OkIs X.K X.mg c0 tb)(ha:ZC X a fa)(hm:X.mg "isinstance"=none)(hm2:∃C0,X.mg c0=some (.ref C0))(hg:Gl X "isinstance":=by rfl)(hg2:Gl X c0:=by rfl)(hv:bootBuiltins "isinstance"=some (.builtin "isinstance"):=by decide +kernel)(hd2:(c0==("__debug__":Str))=false:=by decide)
 (hs:starEach [a,.Name c0 p2] X.env=(false,eval a X.env)::starEach [.Name c0 p2] X.env:=by rfl) (hs2:starEach [.Name c0 p2] X.env=(false,eval (.Name c0 p2) X.env)::starEach [] X.env:=by rfl) (hpl:(backTo pos (starEach [.Name c0 p2] X.env)).any (·.1)=false:=by rfl) :
 ZE X (.Call (.Name "isinstance" p) [a,.Name c0 p2] [] pos) (mB (b1 fa (isiO tb))):=by
 obtain⟨C0,hm2⟩:=hm2
 have cr:Ydu X (.builtin "isinstance") (λxs H Q=>∃x C k,xs=[x,.ref C0]/\TyOf X.K H x (.ref C)/\W.kitOne X.K (.ref C) (.ref C0)=some k/\Q (.bl k) H):=by
  intro pins s σ H xs us Q I r h;obtain⟨x,C,k,rfl,ty,hk,q⟩:=h;obtain⟨u,w',rfl,r1,r2⟩:=y0a r;cases (show w'=Value.ref C0 from r2)
  exact Ynp I r1 ty hk λtk=>⟨.bl _,H,I.tok tk,rfl,q⟩
 refine⟨PE.imp (Ygh cr hg hm hv (Ybr ha.un (Ybr (Ylv hg2 hm2 (v:=.ref C0) rfl hd2) Yep hs2) hs) (by decide) (by decide) hs hpl) λσ H Q hx_=>?_⟩;obtain⟨ρ,d,H0,G0,G,e,s,h⟩:=hx_;obtain⟨k,ek,rfl⟩:=Yl8 e;obtain⟨x,h1,h2⟩:=Ybo ek
 cases x with
 | obj c ks vs=>
   obtain⟨C,C0',q1,q2,q3,q4,q5,q6,q7,q8⟩:=T.look (show tb.lookup c=some k from h2);rw[hm2]at q2;cases q2;refine tCof.at h1 s λv H1 G1 g1 r1 s1=>?_;rw[Ct]at r1;obtain⟨a,C',dx,xs,rfl,n,g,l,q⟩:=r1;rw[q1]at n;cases n;exact⟨_,C,k,rfl,.ins (s1.seen _ _ g) q3 q4 q5 q6 q7,q8,h _ H1 G1 g1 (by rw[Rp])⟩
 | _=>cases h2
theorem Yef{P:Program}{w:World}{mg:AE}{base:Heap}{j k:Nat}{c m:Str}{ps:AK}{sp:Sp}(O:Okm P w K mg base j c m ps sp)(h:j<=k:=by decide):Okm P w K mg base k c m ps sp:=by
 obtain⟨C,f,fd,F,r⟩:=O;exact⟨C,f,fd,F.mono h,r⟩
end
def Iqc(K:W.Frag)(c q:Str)(st:Stmt):Prop:=∃C f fd,W.nsIn K mainGlobals c=some (some (.ref C))/\Mk K C f/\Fun K "__init__" q st f fd
theorem iqc_mk{c q:Str}{st:Stmt}{C f:Addr}{oc:Value}{od an:Option Addr}{osl:Array (Option Value)}{kV doc pm cdv ct:Value}(a:W.nsIn K mainGlobals c=some (some (.ref C)))(mk:W.makesIn K C=true)(kc:W.keepIn K (.ref C)=true)
 (i:W.findIn K (.ref C) "__init__"=some (some (.ref f))) (n:W.isFn K (.ref f)=true) (l:K.lookup f=some ⟨oc,od,.func (W.fnOf "__init__" q (defArgs st) (defBody st) (defScope st) .none kV doc pm an cdv ct),osl⟩) (cd:W.codeIn K cdv q=true) (k:W.keepIn K (.ref f)=true):Iqc K c q st:=
 ⟨C,f,_,a,⟨mk,i,n,kc⟩,Ynx l cd k⟩
structure FunZ(K:W.Frag)(x q:Str)(st:Stmt)(f:Addr)(fd:FuncData)(T:Addr)(t:Tok):Prop where
 ex:∃(oc:Value) (od:Option Addr) (kV doc pm:Value) (an:Option Addr) (cdv ct:Value) (osl:Array (Option Value)),
  fd=W.fnOf x q (defArgs st) (defBody st) (defScope st) (.ref T) kV doc pm an cdv ct/\K.lookup f=some ⟨oc,od,.func fd,osl⟩/\W.codeIn K cdv q=true
 df:∃(oc:Value) (od:Option Addr) (n:Nat) (osl:Array (Option Value)),K.lookup T=some ⟨oc,od,.seq #[.int 0 t] n,osl⟩
def Iqz(K:W.Frag)(c q:Str)(st:Stmt):Prop:=∃C f fd T t,W.nsIn K mainGlobals c=some (some (.ref C))/\Mk K C f/\FunZ K "__init__" q st f fd T t
theorem iqz_mk{c q:Str}{st:Stmt}{C f T:Addr}{oc oc':Value}{od od' an:Option Addr}{osl osl':Array (Option Value)}{kV doc pm cdv ct:Value}{t:Tok}{n':Nat}(a:W.nsIn K mainGlobals c=some (some (.ref C)))(mk:W.makesIn K C=true)(kc:W.keepIn K (.ref C)=true)
 (i:W.findIn K (.ref C) "__init__"=some (some (.ref f))) (n:W.isFn K (.ref f)=true) (l:K.lookup f=some ⟨oc,od,.func (W.fnOf "__init__" q (defArgs st) (defBody st) (defScope st) (.ref T) kV doc pm an cdv ct),osl⟩) (cd:W.codeIn K cdv q=true) (d:K.lookup T=some ⟨oc',od',.seq #[.int 0 t] n',osl'⟩):Iqz K c q st:=
 ⟨C,f,_,T,t,a,⟨mk,i,n,kc⟩,⟨_,_,_,_,_,_,_,_,_,rfl,l,cd⟩,_,_,_,_,d⟩
section
variable {P:Program}{w:World}{mg:AE}{base:Heap}
theorem okmh{c x q:Str}{st:Stmt}{k n m:Nat}{N ps:AK}{g:Hm}(F:Mq K c x q st)(S:FnScope N ps (defScope st))(hb:∀{f:Addr}{cdv:Value}{A:Around}{outer:List Env}{s:Shared}{H:Hp}{E:XK},Room k (A.deeper (envOfC q (defScope st) (~~~s) f cdv))->ZHB (cxOf CX0 P w K mg base N q (defScope st) f cdv A outer s H E).nox (defBody st) g)(hn:N.length=n:=by rfl)(hm:ps.length=m:=by rfl)
 (B:Bnm x q st ps:=by(intro _ _ _ _ _ _ us hl;first|(obtain⟨_,_,rfl⟩:=len2 hl;rfl)|(obtain⟨_,_,_,rfl⟩:=len3 hl;rfl))):Okm P w K mg base (k+1) c x ps (spH K m (runH n g)):=by
 obtain⟨C,f,fd,a,cl,me,fu⟩:=F;exact⟨C,f,fd,Ymo (k:=k) fu S hn hm λ_ _ _ _ _ _ hr=>hb hr,fu.binds B,a,cl,me⟩
theorem okch{c q:Str}{st:Stmt}{k n m:Nat}{N ps:AK}{g:Hm}(F:Iqc K c q st)(hW:∀C,W.nsIn K mainGlobals c=some (some (.ref C))->mg c=some (.ref C))(S:FnScope N ps (defScope st))(hb:∀{f:Addr}{cdv:Value}{A:Around}{outer:List Env}{s:Shared}{H:Hp}{E:XK},Room k (A.deeper (envOfC q (defScope st) (~~~s) f cdv))->ZHB (cxOf CX0 P w K mg base N q (defScope st) f cdv A outer s H E).nox (defBody st) g)(hn:N.length=n:=by rfl)(hm:ps.length=m:=by rfl)
 (B:Bnm "__init__" q st ps:=by(intro _ _ _ _ _ _ us hl;first|(obtain⟨_,_,rfl⟩:=len2 hl;rfl)|(obtain⟨_,_,_,rfl⟩:=len3 hl;rfl))):OkC P w K mg base (k+1) m c ps [] (runH n g):=by
 obtain⟨C,f,fd,a,mk,fu⟩:=F;exact⟨C,f,fd,[],[],a,hW C a,mk,Ymo (k:=k) fu S hn hm λ_ _ _ _ _ _ hr=>hb hr,fu.binds B,.nil,λG=>.nil⟩
theorem okcz{c q:Str}{st:Stmt}{k n m:Nat}{N ps:AK}{g:Hm}(F:Iqz K c q st)(hW:∀C,W.nsIn K mainGlobals c=some (some (.ref C))->mg c=some (.ref C))(S:FnScope N ps (defScope st))(hb:∀{f:Addr}{cdv:Value}{A:Around}{outer:List Env}{s:Shared}{H:Hp}{E:XK},Room k (A.deeper (envOfC q (defScope st) (~~~s) f cdv))->ZHB (cxOf CX0 P w K mg base N q (defScope st) f cdv A outer s H E).nox (defBody st) g)
 (hbd:∀(T:Addr) (t:Tok) (kV doc pm:Value) (an:Option Addr) (cdv ct:Value) (us:AD),us.length=m->∃c:Option (Array Value)->Sem (List (Str×Value)),bindArgs (W.fnOf "__init__" q (defArgs st) (defBody st) (defScope st) (.ref T) kV doc pm an cdv ct) ⟨us,[]⟩=seqItems? (.ref T)>>=c/\c (some #[.int 0 t])=pure (ps.zip (us++[.int 0 t])))
 (hn:N.length=n:=by rfl) (hm:ps.length=m+1:=by rfl):OkC P w K mg base (k+1) (m+1) c ps [.int 0] (runH n g):=by
 obtain⟨C,f,fd,T,t,a,mk,fu⟩:=F;obtain⟨oc,od,kV,doc,pm,an,cdv,ct,osl,rfl,lk,hcd⟩:=fu.ex;refine⟨C,f,_,[.int 0 t],[.int 0],a,hW C a,mk,y3m lk hcd S (λvs H Q E h=>by rw[h.1,hm]) λA outer s H vs Q E hr h=>?_,λs us hK hl=>?_,.cons ⟨t,rfl⟩ .nil,λG=>.cons (by rw[Rp]) .nil⟩
 ·obtain⟨hl,ds,t,G,R,rr,sm,hw,e,q⟩:=h
  refine⟨_,((hb hr).un).nox,?_⟩
  have s0:SR K H G (start N vs) H G (Yw n ds):=by
   rw[<-hn];exact SR.start (N:=N) sm rr
  refine⟨_,t,H,G,G,_,⟨s0,hw.h,hw.g,hw.ok⟩,e,λo ho=>?_⟩
  cases o with
  | rt d t'=>exact λv H' G' H1 f1 w1 r1=>q d t' ho v H' G' (w1.aft f1 rfl) r1
  | nx ρ' t'=>exact λσ' H' G' H1 f1 w1=>q .non t' ho .non H' G' (w1.aft f1 rfl) (by rw[Rp])
  | bk ρ' t'=>exact ho.elim
  | ct ρ' t'=>exact ho.elim
 ·rw[hm,qx,jd]at hl
  obtain⟨_,_,_,_,ho⟩:=fu.df;obtain⟨c,h1,h2⟩:=hbd T t kV doc pm an cdv ct us (by omega);exact BindsTo.of_defaults (T:=T) rfl (hK _ _ ho) rfl h1 h2
end
def Kq(K:W.Frag)(c f q:Str)(st:Stmt):Prop:=∃C a fd mc,W.nsIn K mainGlobals c=some (some (.ref C))/\Fun K f q st a fd/\W.specialIn K (.ref C) "__getattribute__"=some (some (.builtin "type.__getattribute__"))/\W.readsIn K C mc=true/\W.findCls K (.ref C) mc f=some (.val (.ref a))/\W.handedIn (.ref a)=true
theorem kq_mk{c f q:Str}{st:Stmt}{C a:Addr}{mc:Value}{oc:Value}{od an:Option Addr}{osl:Array (Option Value)}{kV doc pm cdv ct:Value}(e:W.nsIn K mainGlobals c=some (some (.ref C)))(i:W.findIn K (.ref C) f=some (some (.ref a)))(l:K.lookup a=some ⟨oc,od,.func (W.fnOf f q (defArgs st) (defBody st) (defScope st) .none kV doc pm an cdv ct),osl⟩)(cd:W.codeIn K cdv q=true)(k:W.keepIn K (.ref a)=true)
 (s:W.specialIn K (.ref C) "__getattribute__"=some (some (.builtin "type.__getattribute__"))) (r:W.readsIn K C mc=true) (g:W.findCls K (.ref C) mc f=some (.val (.ref a))) (h:W.handedIn (.ref a)=true):Kq K c f q st:=⟨C,a,_,mc,e,Ynx l cd k,s,r,g,h⟩
theorem okkh{P:Program}{w:World}{mg:AE}{base:Heap}{c f q:Str}{st:Stmt}{k n m:Nat}{N ps:AK}{g:Hm}(F:Kq K c f q st)(hW:∀C,W.nsIn K mainGlobals c=some (some (.ref C))->mg c=some (.ref C))(S:FnScope N ps (defScope st))(hb:∀{f:Addr}{cdv:Value}{A:Around}{outer:List Env}{s:Shared}{H:Hp}{E:XK},Room k (A.deeper (envOfC q (defScope st) (~~~s) f cdv))->ZHB (cxOf CX0 P w K mg base N q (defScope st) f cdv A outer s H E).nox (defBody st) g)(hn:N.length=n:=by rfl)(hm:ps.length=m:=by rfl)
 (B:Bnm f q st ps:=by(intro _ _ _ _ _ _ us hl;first|(obtain⟨_,_,rfl⟩:=len2 hl;rfl)|(obtain⟨_,_,_,rfl⟩:=len3 hl;rfl))):OkK P w K mg base (k+1) m c f ps (runH n g):=by
 obtain⟨C,a,fd,mc,e,fu,s,r,g',h⟩:=F;exact⟨C,a,fd,mc,hW C e,Ymo (k:=k) fu S hn hm λ_ _ _ _ _ _ hr=>hb hr,fu.binds B,fu.kp,s,r,g',h⟩
end
end M
namespace Lw
open PySem PySem.Spec PyProof.Rows L2 M
def top(i:Nat):Stmt:=PySem.Challenge.pw_duskbook_k41_settlers.main.body.getD i (.Pass ⟨0,0,0,0⟩)
def Yrm:AK:=[(Str.ofString "keeper"),(Str.ofString "storm")]
set_option maxHeartbeats 4000000
def Fq(K:W.Frag)(mg:AE)(x:Str)(i:Nat):Prop:=∃a fd,Fun K x x (top i) a fd/\mg x=some (.ref a)
def Fk(K:W.Frag)(x:Str)(i:Nat):Prop:=∃a fd,W.nsIn K mainGlobals x=some (some (.ref a))/\Fun K x x (top i) a fd
theorem Fk.on{K:W.Frag}{h:Heap}{mg:AE}{x:Str}{i:Nat}(F:Fk K x i)(X:K.In h)(G:h.Ns mainGlobals mg):Fq K mg x i:=by
 obtain⟨a,fd,n,f⟩:=F;exact⟨a,fd,f,W.mg_of X G n⟩
theorem fk_mk{K:W.Frag}{x:Str}{i:Nat}{f:Addr}{oc:Value}{od an:Option Addr}{osl:Array (Option Value)}{kV doc pm cdv ct:Value}(a:W.nsIn K mainGlobals x=some (some (.ref f)))(l:K.lookup f=some ⟨oc,od,.func (W.fnOf x x (defArgs (top i)) (defBody (top i)) (defScope (top i)) .none kV doc pm an cdv ct),osl⟩)(c:W.codeIn K cdv x=true)(k:W.keepIn K (.ref f)=true):Fk K x i:=⟨_,_,a,Ynx l c k⟩
theorem fns{N ps:AK}{sc:Scope}(a:sc.kind=.function:=by rfl)(b:sc.isCoroutine=false:=by rfl)(c:sc.isGenerator=false:=by rfl)(d:N.Nodup:=by decide +kernel)(e:N.take ps.length=ps:=by rfl)(f:∀x∈ps,sc.names.lookup x=some .local\/sc.names.lookup x=some .cell:=by decide +kernel)(g:∀y∈sc.names,y.2≠.free:=by decide +kernel):FnScope N ps sc:=⟨a,b,c,d,e,f,g⟩
def Bnd(x:Str)(i:Nat)(ps:AK):Prop:=∀(kV doc pm:Value) (an:Option Addr) (cdv ct:Value) (us:AD),us.length=ps.length->bindArgs (W.fnOf x x (defArgs (top i)) (defBody (top i)) (defScope (top i)) .none kV doc pm an cdv ct) ⟨us,[]⟩=pure (ps.zip us)
theorem okfn{P:Program}{w:World}{K:W.Frag}{mg:AE}{base:Heap}{x:Str}{i k n m:Nat}{N ps:AK}{fb:AS}(F:Fq K mg x i)(S:FnScope N ps (defScope (top i)))(hb:∀{f:Addr}{cdv:Value}{A:Around}{outer:List Env}{s:Shared}{H:Hp}{E:XK},Room k (A.deeper (envOfC x (defScope (top i)) (~~~s) f cdv))->ZB (cxOf CX0 P w K mg base N x (defScope (top i)) f cdv A outer s H E).nox (defBody (top i)) fb)(hn:N.length=n:=by rfl)(hm:ps.length=m:=by rfl)(B:Bnd x i ps:=by(intro _ _ _ _ _ _ us hl;first|(obtain⟨_,rfl⟩:=len1 hl;rfl)|(obtain⟨_,_,rfl⟩:=len2 hl;rfl)|(obtain⟨_,_,_,rfl⟩:=len3 hl;rfl)|(obtain⟨_,_,_,_,rfl⟩:=len4 hl;rfl)|(obtain⟨_,_,_,_,_,rfl⟩:=len5 hl;rfl)|(obtain⟨_,_,_,_,_,_,rfl⟩:=len6 hl;rfl)|(obtain⟨_,_,_,_,_,_,_,rfl⟩:=len7 hl;rfl))):Okf P w K mg base (k+1) m x ps (runB m n fb):=by
 obtain⟨a,fd,f,h⟩:=F;exact y4t f (f.binds B) h (Yhw (k:=k) f S hn hm λ_ _ _ _ _ _ hr=>hb hr)
theorem aL1{f0:AV}:∀ρ l,Yg f0 aNil ρ=some l->l.length=1:=Yex λ_ _ h=>Yw9 h
theorem aL2{f0 f1:AV}:∀ρ l,Yg f0 (Yg f1 aNil) ρ=some l->l.length=2:=Yex aL1
theorem aL3{f0 f1 f2:AV}:∀ρ l,Yg f0 (Yg f1 (Yg f2 aNil)) ρ=some l->l.length=3:=Yex aL2
theorem aL4{f0 f1 f2 f3:AV}:∀ρ l,Yg f0 (Yg f1 (Yg f2 (Yg f3 aNil))) ρ=some l->l.length=4:=Yex aL3
theorem aL5{f0 f1 f2 f3 f4:AV}:∀ρ l,Yg f0 (Yg f1 (Yg f2 (Yg f3 (Yg f4 aNil)))) ρ=some l->l.length=5:=Yex aL4
theorem okfh{P:Program}{w:World}{K:W.Frag}{mg:AE}{base:Heap}{x:Str}{i k n m:Nat}{N ps:AK}{g:Hm}(F:Fq K mg x i)(S:FnScope N ps (defScope (top i)))(hb:∀{f:Addr}{cdv:Value}{A:Around}{outer:List Env}{s:Shared}{H:Hp}{E:XK},Room k (A.deeper (envOfC x (defScope (top i)) (~~~s) f cdv))->ZHB (cxOf CX0 P w K mg base N x (defScope (top i)) f cdv A outer s H E).nox (defBody (top i)) g)(hn:N.length=n:=by rfl)(hm:ps.length=m:=by rfl)(B:Bnd x i ps:=by(intro _ _ _ _ _ _ us hl;first|(obtain⟨_,rfl⟩:=len1 hl;rfl)|(obtain⟨_,_,rfl⟩:=len2 hl;rfl)|(obtain⟨_,_,_,rfl⟩:=len3 hl;rfl)|(obtain⟨_,_,_,_,rfl⟩:=len4 hl;rfl))):OkH P w K mg base (k+1) m x ps (runH n g):=by
 obtain⟨a,fd,f,h⟩:=F;exact⟨a,fd,Ymo (k:=k) f S hn hm λ_ _ _ _ _ _ hr=>hb hr,f.binds B,f.kp,h⟩
theorem fcs1{K:W.Frag}{a f:Str}(h:CF K a f):∀c∈[a],CF K c f:=λc hc=>by
 cases List.mem_singleton.mp hc;exact h
theorem fcs3{K:W.Frag}{a b d f:Str}(h1:CF K a f)(h2:CF K b f)(h3:CF K d f):∀c∈[a,b,d],CF K c f:=λc hc=>by
 rcases qr hc with rfl|hc
 ·exact h1
 ·rcases qr hc with rfl|hc
  ·exact h2
  ·exact fcs1 h3 c hc
theorem aM1{f0:AV}:∀ρ l,Yg f0 aNil ρ=some l->l.length+([]:AQ).length=1:=aL1
theorem aM2{f0 f1:AV}:∀ρ l,Yg f0 (Yg f1 aNil) ρ=some l->l.length+([]:AQ).length=2:=aL2
theorem aZ4{f0 f1 f2 f3:AV}:∀ρ l,Yg f0 (Yg f1 (Yg f2 (Yg f3 aNil))) ρ=some l->l.length+[D.int 0].length=5:=λρ l h=>congrArg (·+1) (aL4 ρ l h)
structure Bl(K:W.Frag)(w:World)(mg:AE):Prop where
 Len:mg "len"=none
 Range:mg "range"=none
 List:mg "list"=none
 Tuple:mg "tuple"=none
 Int:mg "int"=none
 Bool:mg "bool"=none
 Str:mg "str"=none
 Sorted:mg "sorted"=none
 Any:mg "any"=none
 All:mg "all"=none
 Isinstance:mg "isinstance"=none
 Enumerate:mg "enumerate"=none
 Set:mg "set"=none
 g_BEACON_COUNT:GI mg "BEACON_COUNT" 60
 g_HANDS:GT K mg "HANDS" Yrm
 f14:Fq K mg "either_holds" 14
 f15:Fq K mg "sum_holds" 15
 f16:Fq K mg "if_holds" 16
 f17:Fq K mg "rule_holds" 17
 f18:Fq K mg "broken_rules" 18
 f19:Fq K mg "holds" 19
 f20:Fq K mg "beacons_in" 20
 f21:Fq K mg "beacons_of" 21
 f31:Fq K mg "row_of" 31
 f33:Fq K mg "plan_said" 33
 f40:Fq K mg "said" 40
 f45:Fq K mg "play_out" 45
 f47:Fq K mg "is_hand" 47
 f48:Fq K mg "check_hands" 48
 f51:Fq K mg "_law_cell" 51
 f52:Fq K mg "_law_mixed" 52
 f53:Fq K mg "_law_bits" 53
 f54:Fq K mg "_law_bool" 54
 f55:Fq K mg "_law_hands" 55
 f56:Fq K mg "_law_own" 56
 f57:Fq K mg "_law_plan" 57
 f58:Fq K mg "_law_comes" 58
 f59:Fq K mg "_law_either" 59
 f60:Fq K mg "_law_eithers" 60
 f61:Fq K mg "_law_numbers_of" 61
 f62:Fq K mg "_law_planned" 62
 f63:Fq K mg "_law_says" 63
 f64:Fq K mg "_law_two_rowed" 64
 r_Papered_says:Mq K "Papered" "says" "Papered.says" (inClass (top 44) 1)
 r_Papered_sees:Mq K "Papered" "sees" "Settler.sees" (inClass (top 42) 2)
 r_Rowed_says:Mq K "Rowed" "says" "Rowed.says" (inClass (top 43) 1)
 r_Rowed_sees:Mq K "Rowed" "sees" "Rowed.sees" (inClass (top 43) 2)
 r_Settler_says:Mq K "Settler" "says" "Settler.says" (inClass (top 42) 1)
 r_Settler_sees:Mq K "Settler" "sees" "Settler.sees" (inClass (top 42) 2)
 r_Watch_evening:Mq K "Watch" "evening" "Watch.evening" (inClass (top 49) 2)
 r_Watch_settle:Mq K "Watch" "settle" "Watch.settle" (inClass (top 49) 5)
 r_Watch_turn:Mq K "Watch" "turn" "Watch.turn" (inClass (top 49) 1)
 r_Watch_winner:Mq K "Watch" "winner" "Watch.winner" (inClass (top 49) 4)
 i_Settler:Iqc K "Settler" "Settler.__init__" (inClass (top 42) 0)
 i_Rowed:Iqc K "Rowed" "Rowed.__init__" (inClass (top 43) 0)
 i_Papered:Iqz K "Papered" "Papered.__init__" (inClass (top 44) 0)
 i_Watch:Iqc K "Watch" "Watch.__init__" (inClass (top 49) 0)
 k_Settler:Kq K "Settler" "__init__" "Settler.__init__" (inClass (top 42) 0)
 n_Papered_book:Nq K "Papered" "book"
 n_Papered_hand:Nq K "Papered" "hand"
 n_Papered_hands:Nq K "Papered" "hands"
 n_Papered_paper:Nq K "Papered" "paper"
 n_Papered_start:Nq K "Papered" "start"
 n_Rowed_hand:Nq K "Rowed" "hand"
 n_Rowed_row:Nq K "Rowed" "row"
 n_Rowed_seen:Nq K "Rowed" "seen"
 n_Settler_hand:Nq K "Settler" "hand"
 n_Watch_book:Nq K "Watch" "book"
 n_Watch_hands:Nq K "Watch" "hands"
 n_Watch_truths:Nq K "Watch" "truths"
 o_Settler_Settler:IsO K mg "Settler" "Settler" true
 o_Settler_Rowed:IsO K mg "Settler" "Rowed" true
 o_Settler_Papered:IsO K mg "Settler" "Papered" true
 c_Settler:∀C,W.nsIn K mainGlobals "Settler"=some (some (.ref C))->mg "Settler"=some (.ref C)
 c_Rowed:∀C,W.nsIn K mainGlobals "Rowed"=some (some (.ref C))->mg "Rowed"=some (.ref C)
 c_Papered:∀C,W.nsIn K mainGlobals "Papered"=some (some (.ref C))->mg "Papered"=some (.ref C)
 c_Watch:∀C,W.nsIn K mainGlobals "Watch"=some (some (.ref C))->mg "Watch"=some (.ref C)
 m_Settler:∃C,mg "Settler"=some (.ref C)
section
variable {P:Program}{w:World}{K:W.Frag}{mg:AE}{base:Heap}
theorem Yjl:FnScope ["rule","evening"] ["rule","evening"] (defScope (top 14)):=fns
theorem cs_either_holds_0:CompSc ["rule","evening"] (defScope (top 14)) ["saying","evening"] [none,some 1] (fsc [(".0",.local),("saying",.local),("evening",.free)]):=Yaz (by decide +kernel)
def Yb3:AV:=(mB (b2 (b2 (getC 1) (b2 (getC 0) (kD (.int 0)) ixD) ixD) (b2 (getC 0) (kD (.int 1)) ixD) (eqM false)))
def Yfu:AS:=(sRet (cC (Yg (lF (Yci (b1 (getV 0) Yp) [none,some 1] (gSet 0) tY (Yb3))) aNil) anyC))
def Yb8:AQ->Option D:=runB 2 2 Yfu
theorem Yjm(bl:Bl K w mg):Okf P w K mg base 1 2 "either_holds" ["rule","evening"] Yb8:=by
 refine okfn bl.f14 Yjl λhr=>?_;exact(Ym (Yt (Yac (Yi7 rfl) Ypq rfl bl.Any boot_any (Ys (Yc (Ya0 (Ybm cs_either_holds_0 rfl (Ybe (Ye 0)) (λ_ _ _ _ _=>(Yai 0 cs_either_holds_0.nd)) (λ_ _ _ _ _=>Ye3) (λ_ _ _ _ _=>(Ybu hr.units (Yc (Yl (Yd 1) (Yc (Yl (Yd 0) (Yc Yh))))) (Yc (Yl (Yd 0) (Yc Yh))))) (Ycj (i:=0) rfl)))) Yx))))
theorem sc_sum_holds:FnScope ["rule","evening","lit_ones"] ["rule","evening"] (defScope (top 15)):=fns
theorem cs_sum_holds_0:CompSc ["rule","evening","lit_ones"] (defScope (top 15)) ["beacon","evening"] [none,some 1] (fsc [(".0",.local),("beacon",.local),("evening",.free)]):=Yaz (by decide +kernel)
def Ydr:AU:=(b1 (b2 (getC 1) (getC 0) ixD) truD)
def Yds:AV:=(getV 0)
def Yjn:AS:=(sSeq (sOwn 2 (Yci (b1 (b2 (getC 0) (kD (.int 0)) ixD) Yp) [none,some 1] (gSet 0) (Ydr) (Yds))) (sRet (mB (b2 (mB (b2 (b2 (cC (Yg (getC 2) aNil) lenC) (kD (.int 2)) modI) (kD (.int 1)) (eqM false))) (b2 (getC 0) (kD (.int 1)) ixD) (eqM false)))))
def Yeg:AQ->Option D:=runB 2 3 Yjn
theorem Yor(bl:Bl K w mg):Okf P w K mg base 1 2 "sum_holds" ["rule","evening"] Yeg:=by
 refine okfn bl.f15 sc_sum_holds λhr=>?_;exact(Yk (Yxr 2 sc_sum_holds.nd cs_sum_holds_0 rfl (Ybe (Yl (Yd 0) (Yc Yh))) (λ_ _ _ _ _=>(Yai 0 cs_sum_holds_0.nd)) (λ_ _ _ _ _=>(Ygw (Ycy (Yc (Yl (Yd 1) (Yd 0)))))) (λ_ _ _ _ _=>(Ye 0)) (Ycj (i:=0) rfl)) (Ym (Yt (Ybu hr.units (Yc (Ybu hr.units (Yc (Ya4 (Yc (Yac Yz Ybb rfl bl.Len PySem.boot_len (Ys (Yd 2) Yx))) (Yc Yh))) (Yc Yh))) (Yc (Yl (Yd 0) (Yc Yh)))))))
theorem Yqa:FnScope ["rule","evening","lit"] ["rule","evening","lit"] (defScope (top 16)):=fns
theorem cs_if_holds_0:CompSc ["rule","evening","lit"] (defScope (top 16)) ["beacon","evening","lit"] [none,some 1,some 2] (fsc [(".0",.local),("beacon",.local),("evening",.free),("lit",.free)]):=Yaz (by decide +kernel)
def Yeh:AV:=(mB (b2 (b2 (getC 1) (getC 0) ixD) (getC 2) (eqM true)))
def Yfj:AS:=(sSeq (sIf (b1 (cC (Yg (lF (Yci (b1 (b2 (getC 0) (kD (.int 0)) ixD) Yp) [none,some 1,some 2] (gSet 0) tY (Yeh))) aNil) anyC) truD) (sRet (kD (.bl true))) sNil) (sRet (andV (mB (b2 (b2 (getC 0) (kD (.int 1)) ixD) (kD .non) (isN true))) (mB (b2 (b2 (getC 1) (b2 (getC 0) (kD (.int 1)) ixD) ixD) (getC 2) (eqM false))))))
def Yfk:AQ->Option D:=runB 3 3 Yfj
theorem Yqb(bl:Bl K w mg):Okf P w K mg base 1 3 "if_holds" ["rule","evening","lit"] Yfk:=by
 refine okfn bl.f16 Yqa λhr=>?_;exact(Yk (Yat (Ycy (Yc (Yac (Yi7 rfl) Ypq rfl bl.Any boot_any (Ys (Yc (Ya0 (Ybm cs_if_holds_0 rfl (Ybe (Yl (Yd 0) (Yc Yh))) (λ_ _ _ _ _=>(Yai 0 cs_if_holds_0.nd)) (λ_ _ _ _ _=>Ye3) (λ_ _ _ _ _=>(y5b hr.units (Yc (Yl (Yd 1) (Yd 0))) (Yd 2))) (Ycj (i:=0) rfl)))) Yx)))) (Ym (Yt Ycp)) Yah) (Ym (Yt (Yhv (Yxo (Yc (Yl (Yd 0) (Yc Yh))) (Yc Ybd)) (Yff (Ybu hr.units (Yc (Yl (Yd 1) (Yc (Yl (Yd 0) (Yc Yh))))) (Yd 2)))))))
theorem Ymr:FnScope ["kind","rule","evening"] ["kind","rule","evening"] (defScope (top 17)):=fns
@[simp] def Ykk:AS:=(sRet (cC (Yg (getV 1) (Yg (getV 2) (Yg (mB (b2 (getC 0) (kD (.str "ifs")) (eqM false))) aNil))) Yfk))
@[simp] def Ykl:AS:=(sSeq (sIf (b2 (getC 0) (kD (.str "sums")) (eqM false)) (sRet (cC (Yg (getV 1) (Yg (getV 2) aNil)) Yeg)) sNil) Ykk)
def Ycd:AS:=(sSeq (sIf (b2 (getC 0) (kD (.str "eithers")) (eqM false)) (sRet (cC (Yg (getV 1) (Yg (getV 2) aNil)) Yb8)) sNil) Ykl)
def Ydd:AQ->Option D:=runB 3 3 Ycd
theorem Yms(bl:Bl K w mg):Okf P w K mg base 2 3 "rule_holds" ["kind","rule","evening"] Ydd:=by
 refine okfn bl.f17 Ymr λhr=>?_;exact(Yk (Yat (Ybh hr.units (Yd 0) (Yc Yag)) (Ym (Yt (Yq (Yjm bl) hr rfl (Yb (Ye 1) (Yb (Ye 2) Yj)) aL2))) Yah) (Yk (Yat (Ybh hr.units (Yd 0) (Yc Yag)) (Ym (Yt (Yq (Yor bl) hr rfl (Yb (Ye 1) (Yb (Ye 2) Yj)) aL2))) Yah) (Ym (Yt (Yq (Yqb bl) hr rfl (Yb (Ye 1) (Yb (Ye 2) (Yb (Ybu hr.units (Yd 0) (Yc Yag)) Yj))) aL3)))))
theorem Yjo:FnScope ["book","evening"] ["book","evening"] (defScope (top 18)):=fns
theorem cs_broken_rules_0:CompSc ["book","evening"] (defScope (top 18)) ["place","rule","book","evening"] [none,none,some 0,some 1] (fsc [(".0",.local),("place",.local),("rule",.local),("rule_holds",.globalImplicit),("book",.free),("evening",.free)]):=Yaz (by decide +kernel)
def Yb4:AU:=(notT (b1 (cC (Yg (b2 (getC 2) (kD (.int 0)) ixD) (Yg (getV 1) (Yg (getV 3) aNil))) Ydd) truD))
def Yb5:AV:=(getV 0)
def Yfv:AS:=(sRet (lF (Yci (b1 (b2 (getC 0) (kD (.int 1)) ixD) Yxh) [none,none,some 0,some 1] (Ypp 0 1) (Yb4) (Yb5))))
def Yb9:AQ->Option D:=runB 2 2 Yfv
theorem Yjp(bl:Bl K w mg):Okf P w K mg base 3 2 "broken_rules" ["book","evening"] Yb9:=by
 refine okfn bl.f18 Yjo λhr=>?_;exact(Ym (Yt (Ya0 (Ybm cs_broken_rules_0 rfl (Ymj rfl bl.Enumerate (Yl (Yd 0) (Yc Yh))) (λ_ _ _ _ _=>(Yxq 0 1 rfl cs_broken_rules_0.nd)) (λ_ _ _ _ _=>(Ygw (Yf7 (Ycy (Yc (Yq (Yms bl) hr rfl (Yb (Yl (Yd 2) (Yc Yh)) (Yb (Ye 1) (Yb (Ye 3) Yj))) aL3)))))) (λ_ _ _ _ _=>(Ye 0)) (Yxb (i:=0) (k:=1) rfl rfl)))))
theorem Yya:FnScope ["book","evening"] ["book","evening"] (defScope (top 19)):=fns
def Yvv:AS:=(sRet (mB (b2 (cC (Yg (cC (Yg (getV 0) (Yg (getV 1) aNil)) Yb9) aNil) lenC) (kD (.int 0)) (eqM false))))
def Ymt:AQ->Option D:=runB 2 2 Yvv
theorem Yyb(bl:Bl K w mg):Okf P w K mg base 4 2 "holds" ["book","evening"] Ymt:=by
 refine okfn bl.f19 Yya λhr=>?_;exact(Ym (Yt (Ybu hr.units (Yc (Yac Yz Ybb rfl bl.Len PySem.boot_len (Ys (Yc (Yq (Yjp bl) hr rfl (Yb (Ye 0) (Yb (Ye 1) Yj)) aL2)) Yx))) (Yc Yh))))
theorem Ymu:FnScope ["kind","rule"] ["kind","rule"] (defScope (top 20)):=fns
theorem cs_beacons_in_0:CompSc ["kind","rule"] (defScope (top 20)) ["saying"] [none] (fsc [(".0",.local),("saying",.local)]):=Yaz (by decide +kernel)
def Yc0:AV:=(b2 (getC 0) (kD (.int 0)) ixD)
@[simp] def Ykm:AS:=(sRet (lF (b2 (lF (cF (Yg (b2 (getC 1) (kD (.int 0)) ixD) aNil) Yn4)) (lF (dLst (Yg (b2 (getC 1) (kD (.int 1)) ixD) aNil))) catD)))
@[simp] def Ykn:AS:=(sSeq (sIf (orT (b2 (getC 0) (kD (.str "sums")) (eqM false)) (b2 (b2 (getC 1) (kD (.int 1)) ixD) (kD .non) (isN false))) (sRet (lF (cF (Yg (b2 (getC 1) (kD (.int 0)) ixD) aNil) Yn4))) sNil) Ykm)
def Yce:AS:=(sSeq (sIf (b2 (getC 0) (kD (.str "eithers")) (eqM false)) (sRet (lF (Yci (b1 (getV 1) Yp) [none] (gSet 0) tY (Yc0)))) sNil) Ykn)
def Yde:AQ->Option D:=runB 2 2 Yce
theorem Ymv(bl:Bl K w mg):Okf P w K mg base 1 2 "beacons_in" ["kind","rule"] Yde:=by
 refine okfn bl.f20 Ymu λhr=>?_;exact(Yk (Yat (Ybh hr.units (Yd 0) (Yc Yag)) (Ym (Yt (Ya0 (Ybm cs_beacons_in_0 rfl (Ybe (Ye 1)) (λ_ _ _ _ _=>(Yai 0 cs_beacons_in_0.nd)) (λ_ _ _ _ _=>Ye3) (λ_ _ _ _ _=>(Yl (Yd 0) (Yc Yh))) (Ycj (i:=0) rfl))))) Yah) (Yk (Yat (Ylj (Yrf (Ybh hr.units (Yd 0) (Yc Yag)) (Ypz (Yjg (Yc (Yl (Yd 1) (Yc Yh))) (Yc Ybd))))) (Ym (Yt (Ya0 (Yfg Yda Yij rfl bl.List boot_list (Ys (Yc (Yl (Yd 1) (Yc Yh))) Yx))))) Yah) (Ym (Yt (Ya0 (Yp1 (Yc (Ya0 (Yfg Yda Yij rfl bl.List boot_list (Ys (Yc (Yl (Yd 1) (Yc Yh))) Yx)))) (Yc (Ya0 (Ybv (Yb (Yl (Yd 1) (Yc Yh)) Yj))))))))))
theorem sc_beacons_of:FnScope ["book","found","rule"] ["book"] (defScope (top 21)):=fns
def Yc1:AS:=(sMut 1 (cC (Yg (b2 (getC 0) (kD (.int 0)) ixD) (Yg (getV 2) aNil)) Yde) extD)
@[simp] def Yko:AS:=(sRet (lF (Ygt (getC 1))))
@[simp] def Ykp:AS:=(sSeq (sFor (b1 (b2 (getC 0) (kD (.int 1)) ixD) Yp) (gSet 2) Yc1) Yko)
def Yh7:AS:=(sSeq (sOwn 1 (dLst aNil)) Ykp)
def Ydf:AQ->Option D:=runB 1 3 Yh7
theorem Ymw(bl:Bl K w mg):Okf P w K mg base 2 1 "beacons_of" ["book"] Ydf:=by
 refine okfn bl.f21 sc_beacons_of λhr=>?_;exact(Yk (Ycz 1 sc_beacons_of.nd (Ybv Yj)) (Yk (Yec jg rfl (Ybe (Yl (Yd 0) (Yc Yh))) (Yai 2 sc_beacons_of.nd) (Ym (Ysq 1 (Yq (Ymv bl) hr rfl (Yb (Yl (Yd 0) (Yc Yh)) (Yb (Ye 2) Yj)) aL2)))) (Ym (Yt (Ya0 (Yp4 rfl rfl bl.Sorted rfl bl.Set (Yd 1)))))))
theorem Yvw:FnScope ["rows","beacon"] ["rows","beacon"] (defScope (top 31)):=fns
theorem cs_row_of_0:CompSc ["rows","beacon"] (defScope (top 31)) ["row","beacon"] [none,some 1] (fsc [(".0",.local),("row",.local),("beacon",.free)]):=Yaz (by decide +kernel)
def Ygb:AU:=(b2 (b2 (getC 0) (kD (.int 0)) ixD) (getC 1) (eqM false))
def Ygc:AV:=(getV 0)
def Yrn:AS:=(sRet (b2 (lF (Yci (b1 (getV 0) Yp) [none,some 1] (gSet 0) (Ygb) (Ygc))) (kD (.int 0)) ixD))
def Yin:AQ->Option D:=runB 2 2 Yrn
theorem Yvx(bl:Bl K w mg):Okf P w K mg base 1 2 "row_of" ["rows","beacon"] Yin:=by
 refine okfn bl.f31 Yvw λhr=>?_;exact(Ym (Yt (Yl (Yc (Ya0 (Ybm cs_row_of_0 rfl (Ybe (Ye 0)) (λ_ _ _ _ _=>(Yai 0 cs_row_of_0.nd)) (λ_ _ _ _ _=>(Ygw (Ybh hr.units (Yc (Yl (Yd 0) (Yc Yh))) (Yd 1)))) (λ_ _ _ _ _=>(Ye 0)) (Ycj (i:=0) rfl)))) (Yc Yh))))
theorem sc_plan_said:FnScope ["rows","evening","row"] ["rows","evening"] (defScope (top 33)):=fns
@[simp] def Ymx:AS:=(sRet (mB (b2 (b2 (getC 1) (b2 (getC 2) (kD (.int 1)) ixD) ixD) (b2 (getC 2) (kD (.int 2)) ixD) (eqM false))))
@[simp] def Ymy:AS:=(sSeq (sIf (b2 (b2 (getC 2) (kD (.int 1)) ixD) (kD .non) (isN false)) (sRet (b2 (getC 2) (kD (.int 2)) ixD)) sNil) Ymx)
def Ygd:AS:=(sSeq (sSet 2 (cC (Yg (getV 0) (Yg (cC (Yg (getC 1) aNil) lenC) aNil)) Yin)) Ymy)
def Yei:AQ->Option D:=runB 2 3 Ygd
theorem Yos(bl:Bl K w mg):Okf P w K mg base 2 2 "plan_said" ["rows","evening"] Yei:=by
 refine okfn bl.f33 sc_plan_said λhr=>?_;exact(Yk (Yak 2 sc_plan_said.nd (Yq (Yvx bl) hr rfl (Yb (Ye 0) (Yb (Yac Yz Ybb rfl bl.Len PySem.boot_len (Ys (Yd 1) Yx)) Yj)) aL2)) (Yk (Yat (Yjg (Yc (Yl (Yd 2) (Yc Yh))) (Yc Ybd)) (Ym (Yt (Yl (Yd 2) (Yc Yh)))) Yah) (Ym (Yt (Ybu hr.units (Yc (Yl (Yd 1) (Yc (Yl (Yd 2) (Yc Yh))))) (Yc (Yl (Yd 2) (Yc Yh))))))))
theorem sc_said:FnScope ["paper","book","hands","start","evening","word","so","ahead"] ["paper","book","hands","start","evening"] (defScope (top 40)):=fns
@[simp] def Yyc:AS:=(sRet (kD (.bl false)))
@[simp] def Yyd:AS:=(sSeq (sIf (b2 (getC 5) (kD (.str "lone")) (eqM false)) (sSeq nS nS) sNil) Yyc)
@[simp] def Yye:AS:=(sSeq (sIf (b2 (getC 5) (kD (.str "odd")) (eqM false)) nS sNil) Yyd)
@[simp] def Yyf:AS:=(sSeq (sIf (b2 (getC 5) (kD (.str "late")) (eqM false)) nS sNil) Yye)
@[simp] def Yyg:AS:=(sSeq (sIf (b2 (getC 5) (kD (.str "cross")) (eqM false)) nS sNil) Yyf)
@[simp] def Yyh:AS:=(sSeq (sIf (b2 (getC 5) (kD (.str "rows")) (eqM false)) nS sNil) Yyg)
@[simp] def Yyi:AS:=(sSeq (sIf (b2 (getC 5) (kD (.str "sums")) (eqM false)) nS sNil) Yyh)
@[simp] def Yyj:AS:=(sSeq (sIf (b2 (getC 5) (kD (.str "plan")) (eqM false)) (sRet (cC (Yg (b2 (getC 0) (kD (.int 1)) ixD) (Yg (getV 4) aNil)) Yei)) sNil) Yyi)
@[simp] def Yyk:AS:=(sSeq (sSet 6 (mB (b2 (b2 (getC 1) (kD (.int 0)) ixD) (kD (.str "ifs")) (eqM false)))) Yyj)
def Yzs:AS:=(sSeq (sSet 5 (b2 (getC 0) (kD (.int 0)) ixD)) Yyk)
def Yro:AQ->Option D:=runB 5 8 Yzs
theorem y2h(bl:Bl K w mg):Okf P w K mg base 3 5 "said" ["paper","book","hands","start","evening"] Yro:=by
 refine okfn bl.f40 sc_said λhr=>?_;exact(Yk (Yak 5 sc_said.nd (Yl (Yd 0) (Yc Yh))) (Yk (Yak 6 sc_said.nd (Ybu hr.units (Yc (Yl (Yd 1) (Yc Yh))) (Yc Yag))) (Yk (Yat (Ybh hr.units (Yd 5) (Yc Yag)) (Ym (Yt (Yq (Yos bl) hr rfl (Yb (Yl (Yd 0) (Yc Yh)) (Yb (Ye 4) Yj)) aL2))) Yah) (Yk (Yat (Ybh hr.units (Yd 5) (Yc Yag)) (Ym Ya7) Yah) (Yk (Yat (Ybh hr.units (Yd 5) (Yc Yag)) (Ym Ya7) Yah) (Yk (Yat (Ybh hr.units (Yd 5) (Yc Yag)) (Ym Ya7) Yah) (Yk (Yat (Ybh hr.units (Yd 5) (Yc Yag)) (Ym Ya7) Yah) (Yk (Yat (Ybh hr.units (Yd 5) (Yc Yag)) (Ym Ya7) Yah) (Yk (Yat (Ybh hr.units (Yd 5) (Yc Yag)) (Yk Ya7 (Ym Ya7)) Yah) (Ym (Yt Ycp)))))))))))
theorem Ymz:FnScope ["self","watch"] ["self","watch"] (defScope (inClass (top 43) 1)):=fns
def Ye4:AS:=(sRet (andV (mB (b2 (b1 (getV 0) (fldD "Rowed" "seen")) (cC (Yg (b1 (getV 0) (fldD "Rowed" "row")) aNil) lenC) ltI)) (mB (b2 (b2 (b2 (b1 (getV 0) (fldD "Rowed" "row")) (b1 (getV 0) (fldD "Rowed" "seen")) ixD) (kD (.int 2)) modI) (kD (.int 1)) (eqM false)))))
def Ydg:AQ->Option D:=runB 2 2 Ye4
theorem Ym0(bl:Bl K w mg){c:Str}(F:Mq K c "says" "Rowed.says" (inClass (top 43) 1)):Okm P w K mg base 1 c "says" ["self","watch"] (spOf K 2 Ydg):=by
 refine okmn F Ymz λhr=>?_;exact(Ym (Yt (Yhv (Yu5 (Yc (Ybj bl.n_Rowed_seen.cf (Ye 0))) (Yc (Yac Yz Ybb rfl bl.Len PySem.boot_len (Ys (Yc (Ybj bl.n_Rowed_row.cf (Ye 0))) Yx)))) (Yff (Ybu hr.units (Yc (Ya4 (Yc (Yl (Yc (Ybj bl.n_Rowed_row.cf (Ye 0))) (Yc (Ybj bl.n_Rowed_seen.cf (Ye 0))))) (Yc Yh))) (Yc Yh))))))
theorem Ym1:FnScope ["self"] ["self"] (defScope (inClass (top 49) 1)):=fns
def Ye5:AS:=(sSeq (sIf (b2 (cC (Yg (b1 (getV 0) (fldD "Watch" "truths")) aNil) lenC) (cC (Yg (b1 (getV 0) (fldD "Watch" "hands")) aNil) lenC) (eqM false)) (sRet (kD .non)) sNil) (sRet (b2 (b1 (getV 0) (fldD "Watch" "hands")) (cC (Yg (b1 (getV 0) (fldD "Watch" "truths")) aNil) lenC) ixD)))
def Yab:AQ->Option D:=runB 1 1 Ye5
theorem Ycs(bl:Bl K w mg){c:Str}(F:Mq K c "turn" "Watch.turn" (inClass (top 49) 1)):Okm P w K mg base 1 c "turn" ["self"] (spOf K 1 Yab):=by
 refine okmn F Ym1 λhr=>?_;exact(Yk (Yat (Ybh hr.units (Yc (Yac Yz Ybb rfl bl.Len PySem.boot_len (Ys (Yc (Ybj bl.n_Watch_truths.cf (Ye 0))) Yx))) (Yc (Yac Yz Ybb rfl bl.Len PySem.boot_len (Ys (Yc (Ybj bl.n_Watch_hands.cf (Ye 0))) Yx)))) (Ym (Yt Ybd)) Yah) (Ym (Yt (Yl (Yc (Ybj bl.n_Watch_hands.cf (Ye 0))) (Yc (Yac Yz Ybb rfl bl.Len PySem.boot_len (Ys (Yc (Ybj bl.n_Watch_truths.cf (Ye 0))) Yx)))))))
theorem Yjq:FnScope ["self"] ["self"] (defScope (inClass (top 49) 4)):=fns
def Yca:AS:=(sSeq (sIf (b2 (b1 (getV 0) (mthD "Watch" "turn" Yab)) (kD .non) (isN true)) (sRet (kD .non)) sNil) (sRet (ifV (b1 (cC (Yg (b1 (getV 0) (fldD "Watch" "book")) (Yg (b1 (getV 0) (fldD "Watch" "truths")) aNil)) Ymt) truD) (kD (.str "keeper")) (kD (.str "storm")))))
def Yae:AQ->Option D:=runB 1 1 Yca
theorem Yc2(bl:Bl K w mg){c:Str}(F:Mq K c "winner" "Watch.winner" (inClass (top 49) 4)):Okm P w K mg base 5 c "winner" ["self"] (spOf K 1 Yae):=by
 refine okmn F Yjq λhr=>?_;exact(Yk (Yat (Ymi (Yc (Ybx (Ycs bl bl.r_Watch_turn) hr (Ye 0))) (Yc Ybd)) (Ym (Yt Ybd)) Yah) (Ym (Yt (Yu7 (Ycy (Yc (Yq (Yyb bl) hr rfl (Yb (Ybj bl.n_Watch_book.cf (Ye 0)) (Yb (Ybj bl.n_Watch_truths.cf (Ye 0)) Yj)) aL2))) Yag Yag))))
theorem Yjr:FnScope ["self","lit"] ["self","lit"] (defScope (inClass (top 49) 5)):=fns
def Yd0:Hm:=(retH (rdE (b1 (getV 0) (mthD "Watch" "winner" Yae))))
def Yd1:Hm:=(seqH (appH 0 (getV 1)) Yd0)
def Yd2:Hm:=(seqH (Yck (sIf (andT (b2 (getC 1) (kD (.bl true)) (isB true)) (b2 (getC 1) (kD (.bl false)) (isB true))) nS sNil)) Yd1)
def Yfw:Hm:=(seqH (ifH (rdT (b2 (b1 (getV 0) (mthD "Watch" "turn" Yab)) (kD .non) (isN false))) (Yck nS) nilH) Yd2)
def Ybk:Hf:=runH 2 Yfw
theorem Yjs(bl:Bl K w mg){c:Str}(F:Mq K c "settle" "Watch.settle" (inClass (top 49) 5)):Okm P w K mg base 6 c "settle" ["self","lit"] (spH K 2 Ybk):=by
 refine okmh F Yjr λhr=>?_;exact(Yu (Yon (Yfh (Yjg (Yc (Ybx (Ycs bl bl.r_Watch_turn) hr (Ye 0))) (Yc Ybd))) (Yaw (Yaj Ya7)) Yhy) (Yu (Yaj (Yat (Ylj (Yp0 (Yil (Yd 1) (Yc Ycp)) (Ymh (Yil (Yd 1) (Yc Ycp))))) (Ym Ya7) Yah)) (Yu (y2d 0 bl.n_Watch_truths.cf (Ye 1)) (Yaw (Yvm (Yim (Ybx (Yc2 bl bl.r_Watch_winner) hr (Ye 0))))))))
theorem Yie:FnScope ["self"] ["self"] (defScope (inClass (top 49) 2)):=fns
def Ye6:AS:=(sRet (cC (Yg (b1 (getV 0) (fldD "Watch" "truths")) aNil) tupC))
def Yad:AQ->Option D:=runB 1 1 Ye6
theorem Yer(bl:Bl K w mg){c:Str}(F:Mq K c "evening" "Watch.evening" (inClass (top 49) 2)):Okm P w K mg base 1 c "evening" ["self"] (spOf K 1 Yad):=by
 refine okmn F Yie λhr=>?_;exact(Ym (Yt (Ybf Yau Yez rfl bl.Tuple boot_tuple (Ys (Yc (Ybj bl.n_Watch_truths.cf (Ye 0))) Yx))))
theorem Yjt:FnScope ["self","watch"] ["self","watch"] (defScope (inClass (top 44) 1)):=fns
def Yfx:AS:=(sRet (cC (Yg (b1 (getV 0) (fldD "Papered" "paper")) (Yg (b1 (getV 0) (fldD "Papered" "book")) (Yg (b1 (getV 0) (fldD "Papered" "hands")) (Yg (b1 (getV 0) (fldD "Papered" "start")) (Yg (b1 (getV 1) (mthD "Watch" "evening" Yad)) aNil))))) Yro))
def Ybl:AQ->Option D:=runB 2 2 Yfx
theorem Yju(bl:Bl K w mg){c:Str}(F:Mq K c "says" "Papered.says" (inClass (top 44) 1)):Okm P w K mg base 4 c "says" ["self","watch"] (spOf K 2 Ybl):=by
 refine okmn F Yjt λhr=>?_;exact(Ym (Yt (Yq (y2h bl) hr rfl (Yb (Ybj bl.n_Papered_paper.cf (Ye 0)) (Yb (Ybj bl.n_Papered_book.cf (Ye 0)) (Yb (Ybj bl.n_Papered_hands.cf (Ye 0)) (Yb (Ybj bl.n_Papered_start.cf (Ye 0)) (Yb (Ybx (Yer bl bl.r_Watch_evening) hr (Ye 1)) Yj))))) aL5)))
theorem Yjv:FnScope ["self","watch"] ["self","watch"] (defScope (inClass (top 42) 1)):=fns
def Ykq:AS:=(sRet (kD (.bl false)))
def Ycb:AQ->Option D:=runB 2 2 Ykq
theorem Yjw(bl:Bl K w mg){c:Str}(F:Mq K c "says" "Settler.says" (inClass (top 42) 1)):Okm P w K mg base 1 c "says" ["self","watch"] (spOf K 2 Ycb):=by
 refine okmn F Yjv λhr=>?_;exact(Ym (Yt Ycp))
theorem Ym2:FnScope ["self","hand","lit"] ["self","hand","lit"] (defScope (inClass (top 43) 2)):=fns
def Yh8:Hm:=(ifH (rdT (b2 (getC 1) (b1 (getV 0) (fldD "Rowed" "hand")) (eqM false))) (incH 0) nilH)
def Ycf:Hf:=runH 3 Yh8
theorem Ym3(bl:Bl K w mg){c:Str}(F:Mq K c "sees" "Rowed.sees" (inClass (top 43) 2)):Okm P w K mg base 1 c "sees" ["self","hand","lit"] (spH K 3 Ycf):=by
 refine okmh F Ym2 λhr=>?_;exact(Yaw (Yon (Yfh (Ybh hr.units (Yd 1) (Yc (Ybj bl.n_Rowed_hand.cf (Ye 0))))) (Yaw (y2c 0 bl.n_Rowed_seen.cf)) Yhy))
theorem Yjx:FnScope ["self","hand","lit"] ["self","hand","lit"] (defScope (inClass (top 42) 2)):=fns
def Ykr:Hm:=(Yck sNil)
def Ya9:Hf:=runH 3 Ykr
theorem Ye7(bl:Bl K w mg){c:Str}(F:Mq K c "sees" "Settler.sees" (inClass (top 42) 2)):Okm P w K mg base 1 c "sees" ["self","hand","lit"] (spH K 3 Ya9):=by
 refine okmh F Yjx λhr=>?_;exact(Yaw (Yaj Yxp))
theorem sc_play_out:FnScope ["watch","keeper","storm","hand","mover","lit"] ["watch","keeper","storm"] (defScope (top 45)):=fns
def tb_says:List (Str×(AQ->Option D)):=[("Settler",Ycb),("Rowed",Ydg),("Papered",Ybl)]
theorem Yrp(bl:Bl K w mg):OkTb P w K mg base 4 "says" (spOf K 2) tb_says:=⟨⟨_,Yef (Yjw bl bl.r_Settler_says)⟩,⟨⟨_,Yef (Ym0 bl bl.r_Rowed_says)⟩,⟨⟨_,Yef (Yju bl bl.r_Papered_says)⟩,trivial⟩⟩⟩
def tb_sees:List (Str×Hf):=[("Settler",Ya9),("Rowed",Ycf),("Papered",Ya9)]
theorem Ym4(bl:Bl K w mg):OkTb P w K mg base 1 "sees" (spH K 3) tb_sees:=⟨⟨_,Yef (Ye7 bl bl.r_Settler_sees)⟩,⟨⟨_,Yef (Ym3 bl bl.r_Rowed_sees)⟩,⟨⟨_,Yef (Ye7 bl bl.r_Papered_sees)⟩,trivial⟩⟩⟩
def Yg3:List (Str×Hf):=[("Watch",Ybk)]
theorem Yll(bl:Bl K w mg):OkTb P w K mg base 6 "settle" (spH K 2) Yg3:=⟨⟨_,Yef (Yjs bl bl.r_Watch_settle)⟩,trivial⟩
def Yg4:Hm:=(exH (Ymp "sees" tb_sees (getV 2) (Yg (getV 3) (Yg (getV 5) aNil))))
def Yg5:Hm:=(seqH (exH (Ymp "sees" tb_sees (getV 1) (Yg (getV 3) (Yg (getV 5) aNil)))) Yg4)
def Yg6:Hm:=(seqH (exH (Ymp "settle" Yg3 (getV 0) (Yg (getV 5) aNil))) Yg5)
def Yg7:Hm:=(seqH (setH 5 (rdE (Yp8 "says" tb_says (getV 4) (Yg (getV 0) aNil)))) Yg6)
def Yg8:Hm:=(seqH (Yck (sSet 4 (ifV (b2 (getC 3) (kD (.str "keeper")) (eqM false)) (getV 1) (getV 2)))) Yg7)
def Yct:Hm:=(seqH (setH 3 (rdE (b1 (getV 0) (mthD "Watch" "turn" Yab)))) Yg8)
def Ylm:Hm:=(seqH (Yzp (rdT (b2 (b1 (getV 0) (mthD "Watch" "turn" Yab)) (kD .non) (isN true))) Yct) (retH (rdE (b1 (getV 0) (mthD "Watch" "winner" Yae)))))
def Yfl:Hf:=runH 6 Ylm
theorem Yqc(bl:Bl K w mg):OkH P w K mg base 7 3 "play_out" ["watch","keeper","storm"] Yfl:=by
 refine okfh bl.f45 sc_play_out λhr=>?_;exact(Yu (Yvj jg (Yfh (Ymi (Yc (Ybx (Ycs bl bl.r_Watch_turn) hr (Ye 0))) (Yc Ybd))) (Yu (Yga 3 sc_play_out.nd (Yim (Ybx (Ycs bl bl.r_Watch_turn) hr (Ye 0)))) (Yu (Yaj (Yak 4 sc_play_out.nd (Yu7 (Ybh hr.units (Yd 3) (Yc Yag)) (Ye 1) (Ye 2)))) (Yu (Yga 5 sc_play_out.nd (Yim (Yoo (Yrp bl) hr (Ye 4) (Yb (Ye 0) Yj) aL1))) (Yu (Yfi (Yg2 (Yll bl) hr (Ye 0) (Yb (Ye 5) Yj) aL1)) (Yu (Yfi (Yg2 (Ym4 bl) hr (Ye 1) (Yb (Ye 3) (Yb (Ye 5) Yj)) aL2)) (Yaw (Yfi (Yg2 (Ym4 bl) hr (Ye 2) (Yb (Ye 3) (Yb (Ye 5) Yj)) aL2))))))))) (Yaw (Yvm (Yim (Ybx (Yc2 bl bl.r_Watch_winner) hr (Ye 0))))))
theorem Yst:FnScope ["thing"] ["thing"] (defScope (top 47)):=fns
def Yvy:AS:=(sRet (andV (mB (b1 (getC 0) (isiD "str"))) (mB (b1 (getC 0) (inG false Yrm)))))
def Yjy:AQ->Option D:=runB 1 1 Yvy
theorem Ysu(bl:Bl K w mg):Okf P w K mg base 1 1 "is_hand" ["thing"] Yjy:=by
 refine okfn bl.f47 Yst λhr=>?_;exact(Ym (Yt (Yhv (Yp2 (Yd 0) rfl rfl bl.Isinstance bl.Str boot_str (Yuc)) (Yff (y19 hr.units bl.g_HANDS rfl (Yd 0))))))
theorem Yks:FnScope ["book","hands"] ["book","hands"] (defScope (top 48)):=fns
theorem cs_check_hands_0:CompSc ["book","hands"] (defScope (top 48)) ["thing"] [none] (fsc [(".0",.local),("thing",.local),("is_hand",.globalImplicit)]):=Yaz (by decide +kernel)
theorem cs_check_hands_1:CompSc ["book","hands"] (defScope (top 48)) ["beacon","hands"] [none,some 1] (fsc [(".0",.local),("beacon",.local),("len",.globalImplicit),("hands",.free)]):=Yaz (by decide +kernel)
def Ycl:AV:=(cC (Yg (getV 0) aNil) Yjy)
def Ycm:AV:=(mB (b2 (getC 0) (cC (Yg (getC 1) aNil) lenC) geI))
@[simp] def Yjz:AS:=(sIf (b1 (cC (Yg (lF (Yci (b1 (cC (Yg (getV 0) aNil) Ydf) Yp) [none,some 1] (gSet 0) tY (Ycm))) aNil) anyC) truD) nS sNil)
@[simp] def Yj0:AS:=(sSeq (sIf (notT (b1 (cC (Yg (lF (Yci (b1 (getV 1) Yp) [none] (gSet 0) tY (Ycl))) aNil) allC) truD)) nS sNil) Yjz)
def Yej:AS:=(sSeq (sIf (b2 (cC (Yg (getC 1) aNil) lenC) (kD (.int 60)) gtI) nS sNil) Yj0)
def Yal:AQ->Option D:=runB 2 2 Yej
theorem Ykt(bl:Bl K w mg):Okf P w K mg base 3 2 "check_hands" ["book","hands"] Yal:=by
 refine okfn bl.f48 Yks λhr=>?_;exact(Yk (Yat (Yzl (Yc (Yac Yz Ybb rfl bl.Len PySem.boot_len (Ys (Yd 1) Yx))) (Yc (Yxs bl.g_BEACON_COUNT rfl))) (Ym Ya7) Yah) (Yk (Yat (Yf7 (Ycy (Yc (Yac (Yn9 rfl) Yuh rfl bl.All boot_all (Ys (Yc (Ya0 (Ybm cs_check_hands_0 rfl (Ybe (Ye 1)) (λ_ _ _ _ _=>(Yai 0 cs_check_hands_0.nd)) (λ_ _ _ _ _=>Ye3) (λ_ _ _ _ _=>(Yq (Ysu bl) hr rfl (Yb (Ye 0) Yj) aL1)) (Ycj (i:=0) rfl)))) Yx))))) (Ym Ya7) Yah) (Ym (Yat (Ycy (Yc (Yac (Yi7 rfl) Ypq rfl bl.Any boot_any (Ys (Yc (Ya0 (Ybm cs_check_hands_1 rfl (Ybe (Yq (Ymw bl) hr rfl (Yb (Ye 0) Yj) aL1)) (λ_ _ _ _ _=>(Yai 0 cs_check_hands_1.nd)) (λ_ _ _ _ _=>Ye3) (λ_ _ _ _ _=>(y49 (Yd 0) (Yc (Yac Yz Ybb rfl bl.Len PySem.boot_len (Ys (Yd 1) Yx))))) (Ycj (i:=0) rfl)))) Yx)))) (Ym Ya7) Yah))))
theorem Yqd:FnScope ["script","k"] ["script","k"] (defScope (top 51)):=fns
def Yhz:AS:=(sSeq (sIf (b2 (getC 1) (cC (Yg (getC 0) aNil) lenC) ltI) (sRet (b2 (getC 0) (getC 1) ixD)) sNil) (sRet (kD (.int 0))))
def Yar:AQ->Option D:=runB 2 2 Yhz
theorem Ybp(bl:Bl K w mg):Okf P w K mg base 1 2 "_law_cell" ["script","k"] Yar:=by
 refine okfn bl.f51 Yqd λhr=>?_;exact(Yk (Yat (y5a (Yd 1) (Yc (Yac Yz Ybb rfl bl.Len PySem.boot_len (Ys (Yd 0) Yx)))) (Ym (Yt (Yl (Yd 0) (Yd 1)))) Yah) (Ym (Yt Yh)))
theorem Yot:FnScope ["cell","by"] ["cell","by"] (defScope (top 52)):=fns
def Yj1:AS:=(sRet (b2 (b2 (b2 (getC 0) (kD (.int 2305843009213693951)) modI) (getC 1) mulI) (kD (.int 2305843009213693951)) modI))
def Yb6:AQ->Option D:=runB 2 2 Yj1
theorem Ye8(bl:Bl K w mg):Okf P w K mg base 1 2 "_law_mixed" ["cell","by"] Yb6:=by
 refine okfn bl.f52 Yot λhr=>?_;exact(Ym (Yt (Ya4 (Yc (y1t (Yc (Ya4 (Yd 0) (Yc Yh))) (Yd 1))) (Yc Yh))))
theorem sc_law_bits:FnScope ["cell","many","left","bits","k"] ["cell","many"] (defScope (top 53)):=fns
def Yek:AS:=(sSeq (sMut 3 (mB (b2 (b2 (getC 2) (kD (.int 2)) modI) (kD (.int 1)) (eqM false))) appD) (sSet 2 (b2 (getC 2) (kD (.int 2)) divI)))
@[simp] def You:AS:=(wF [3] (sRet (getV 3)))
@[simp] def Yov:AS:=(sSeq (sFor (cF (Yg (getV 1) aNil) rng1) (gSet 4) Yek) You)
@[simp] def Yow:AS:=(sSeq (sOwn 3 (dLst aNil)) Yov)
def Yln:AS:=(sSeq (sSet 2 (cC (Yg (getV 0) (Yg (kD (.int 1442695040888963407)) aNil)) Yb6)) Yow)
def Ycx:AQ->Option D:=runB 2 5 Yln
theorem Yj2(bl:Bl K w mg):Okf P w K mg base 2 2 "_law_bits" ["cell","many"] Ycx:=by
 refine okfn bl.f53 sc_law_bits λhr=>?_;exact(Yk (Yak 2 sc_law_bits.nd (Yq (Ye8 bl) hr rfl (Yb (Ye 0) (Yb Yh Yj)) aL2)) (Yk (Ycz 3 sc_law_bits.nd (Ybv Yj)) (Yk (Yec jg rfl (Ydz rfl bl.Range (Yb (Ye 1) Yj)) (Yai 4 sc_law_bits.nd) (Yk (Ydy 3 (Ybu hr.units (Yc (Ya4 (Yd 2) (Yc Yh))) (Yc Yh))) (Ym (Yak 2 sc_law_bits.nd (Ye1 (Yd 2) (Yc Yh)))))) (Ym (Yu8 [3] (Yt (Ye 3)))))))
theorem Yqe:FnScope ["found","due"] ["found","due"] (defScope (top 54)):=fns
def Ylo:AS:=(sRet (andV (mB (b1 (getC 0) (isiD "bool"))) (mB (b2 (getC 0) (getC 1) (eqM false)))))
def Yfm:AQ->Option D:=runB 2 2 Ylo
theorem Yqf(bl:Bl K w mg):Okf P w K mg base 1 2 "_law_bool" ["found","due"] Yfm:=by
 refine okfn bl.f54 Yqe λhr=>?_;exact(Ym (Yt (Yhv (Yp2 (Yd 0) rfl rfl bl.Isinstance bl.Bool boot_bool (Yxe)) (Yff (Ybu hr.units (Yd 0) (Yd 1))))))
theorem Yox:FnScope ["cell","many"] ["cell","many"] (defScope (top 55)):=fns
theorem cs_law_hands_0:CompSc ["cell","many"] (defScope (top 55)) ["bit"] [none] (fsc [(".0",.local),("bit",.local),("int",.globalImplicit)]):=Yaz (by decide +kernel)
def Ydt:AV:=(b2 (lF (dLst (Yg (kD (.str "storm")) (Yg (kD (.str "keeper")) aNil)))) (cC (Yg (getC 0) aNil) intC) ixD)
def Yj3:AS:=(sRet (lF (Yci (b1 (cC (Yg (getV 0) (Yg (getV 1) aNil)) Ycx) Yp) [none] (gSet 0) tY (Ydt))))
def Yel:AQ->Option D:=runB 2 2 Yj3
theorem Yoy(bl:Bl K w mg):Okf P w K mg base 3 2 "_law_hands" ["cell","many"] Yel:=by
 refine okfn bl.f55 Yox λhr=>?_;exact(Ym (Yt (Ya0 (Ybm cs_law_hands_0 rfl (Ybe (Yq (Yj2 bl) hr rfl (Yb (Ye 0) (Yb (Ye 1) Yj)) aL2)) (λ_ _ _ _ _=>(Yai 0 cs_law_hands_0.nd)) (λ_ _ _ _ _=>Ye3) (λ_ _ _ _ _=>(Yl (Yc (Ya0 (Ybv (Yb Yag (Yb Yag Yj))))) (Yc (Ybf Ytf y06 rfl bl.Int boot_int (Ys (Yd 0) Yx))))) (Ycj (i:=0) rfl)))))
theorem Ysv:FnScope ["hands","start","hand"] ["hands","start","hand"] (defScope (top 56)):=fns
theorem cs_law_own_0:CompSc ["hands","start","hand"] (defScope (top 56)) ["beacon","hands","hand"] [none,some 0,some 2] (fsc [(".0",.local),("beacon",.local),("hand",.free),("hands",.free)]):=Yaz (by decide +kernel)
def Ye9:AU:=(b2 (b2 (getC 1) (getC 0) ixD) (getC 2) (eqM false))
def Yfa:AV:=(getV 0)
def Yoz:AS:=(sRet (lF (Yci (cF (Yg (getV 1) (Yg (cC (Yg (getC 0) aNil) lenC) aNil)) rng2) [none,some 0,some 2] (gSet 0) (Ye9) (Yfa))))
def Yg9:AQ->Option D:=runB 3 3 Yoz
theorem Ysw(bl:Bl K w mg):Okf P w K mg base 1 3 "_law_own" ["hands","start","hand"] Yg9:=by
 refine okfn bl.f56 Ysv λhr=>?_;exact(Ym (Yt (Ya0 (Ybm cs_law_own_0 rfl (Yli rfl bl.Range (Yb (Ye 1) (Yb (Yac Yz Ybb rfl bl.Len PySem.boot_len (Ys (Yd 0) Yx)) Yj))) (λ_ _ _ _ _=>(Yai 0 cs_law_own_0.nd)) (λ_ _ _ _ _=>(Ygw (Ybh hr.units (Yc (Yl (Yd 1) (Yd 0))) (Yd 2)))) (λ_ _ _ _ _=>(Ye 0)) (Ycj (i:=0) rfl)))))
theorem sc_law_plan:FnScope ["script","hands","start","rows","beacon","left","sources"] ["script","hands","start"] (defScope (top 57)):=fns
theorem cs_law_plan_0:CompSc ["script","hands","start","rows","beacon","left","sources"] (defScope (top 57)) ["at","hands"] [none,some 1] (fsc [(".0",.local),("at",.local),("hands",.free)]):=Yaz (by decide +kernel)
def Yem:AU:=(b2 (b2 (getC 1) (getC 0) ixD) (kD (.str "storm")) (eqM false))
def Yen:AV:=(getV 0)
def Ycu:AS:=(sSeq (sSet 5 (cC (Yg (cC (Yg (getV 0) (Yg (b2 (kD (.int 3)) (getC 4) addI) aNil)) Yar) (Yg (kD (.int 2049848353892358983)) aNil)) Yb6)) (sSeq (sOwn 6 (b2 (lF (Yci (cF (Yg (getV 2) (Yg (getV 4) aNil)) rng2) [none,some 1] (gSet 0) (Yem) (Yen))) (lF (dLst (Yg (kD .non) aNil))) catD)) (sMut 3 (dTup (Yg (getV 4) (Yg (b2 (getC 6) (b2 (getC 5) (cC (Yg (getC 6) aNil) lenC) modI) ixD) (Yg (mB (b2 (b2 (b2 (getC 5) (kD (.int 61)) divI) (kD (.int 2)) modI) (kD (.int 1)) (eqM false))) aNil)))) appD)))
@[simp] def Yo0:AS:=(sRet (cC (Yg (getC 3) aNil) tupC))
@[simp] def Yo1:AS:=(sSeq (sFor (b1 (cC (Yg (getV 1) (Yg (getV 2) (Yg (kD (.str "keeper")) aNil))) Yg9) Yp) (gSet 4) Ycu) Yo0)
def Ylp:AS:=(sSeq (sOwn 3 (dLst aNil)) Yo1)
def Yfn:AQ->Option D:=runB 3 7 Ylp
theorem Yqg(bl:Bl K w mg):Okf P w K mg base 2 3 "_law_plan" ["script","hands","start"] Yfn:=by
 refine okfn bl.f57 sc_law_plan λhr=>?_;exact(Yk (Ycz 3 sc_law_plan.nd (Ybv Yj)) (Yk (Yec jg rfl (Ybe (Yq (Ysw bl) hr rfl (Yb (Ye 1) (Yb (Ye 2) (Yb Yag Yj))) aL3)) (Yai 4 sc_law_plan.nd) (Yk (Yak 5 sc_law_plan.nd (Yq (Ye8 bl) hr rfl (Yb (Yq (Ybp bl) hr rfl (Yb (Ye 0) (Yb (Ydp (Yc Yh) (Yd 4)) Yj)) aL2) (Yb Yh Yj)) aL2)) (Yk (Ycz 6 sc_law_plan.nd (Yp1 (Yc (Ya0 (Ybm cs_law_plan_0 rfl (Yli rfl bl.Range (Yb (Ye 2) (Yb (Ye 4) Yj))) (λ_ _ _ _ _=>(Yai 0 cs_law_plan_0.nd)) (λ_ _ _ _ _=>(Ygw (Ybh hr.units (Yc (Yl (Yd 1) (Yd 0))) (Yc Yag)))) (λ_ _ _ _ _=>(Ye 0)) (Ycj (i:=0) rfl)))) (Yc (Ya0 (Ybv (Yb Ybd Yj)))))) (Ym (Ydy 3 (Ye2 (Yb (Ye 4) (Yb (Yl (Yd 6) (Yc (Ya4 (Yd 5) (Yc (Yac Yz Ybb rfl bl.Len PySem.boot_len (Ys (Yd 6) Yx)))))) (Yb (Ybu hr.units (Yc (Ya4 (Yc (Ye1 (Yd 5) (Yc Yh))) (Yc Yh))) (Yc Yh)) Yj))))))))) (Ym (Yt (Ybf Yau Yez rfl bl.Tuple boot_tuple (Ys (Yd 3) Yx))))))
theorem sc_law_comes:FnScope ["rows","saying","beacon","source","lit"] ["rows","saying"] (defScope (top 58)):=fns
def Yy:AS:=(sIf (b2 (getC 2) (b2 (getC 1) (kD (.int 0)) ixD) (eqM false)) (sSeq (sIf (b2 (getC 3) (kD .non) (isN false)) (sRet (mB (b2 (getC 4) (b2 (getC 1) (kD (.int 1)) ixD) (eqM false)))) sNil) (sRet (dTup (Yg (getV 3) (Yg (mB (b2 (getC 4) (b2 (getC 1) (kD (.int 1)) ixD) (eqM false))) aNil))))) sNil)
def Yge:AS:=(sSeq (sFor (b1 (getV 0) Yp) (Ygz 2 3 4) Yy) (sRet (getV 1)))
def Yc3:AQ->Option D:=runB 2 5 Yge
theorem Yh9(bl:Bl K w mg):Okf P w K mg base 1 2 "_law_comes" ["rows","saying"] Yc3:=by
 refine okfn bl.f58 sc_law_comes λhr=>?_;exact(Yk (Yec jg rfl (Ybe (Ye 0)) (Yrk 2 3 4 rfl sc_law_comes.nd) (Ym (Yat (Ybh hr.units (Yd 2) (Yc (Yl (Yd 1) (Yc Yh)))) (Yk (Yat (Yjg (Yd 3) (Yc Ybd)) (Ym (Yt (Ybu hr.units (Yd 4) (Yc (Yl (Yd 1) (Yc Yh)))))) Yah) (Ym (Yt (Ye2 (Yb (Ye 3) (Yb (Ybu hr.units (Yd 4) (Yc (Yl (Yd 1) (Yc Yh)))) Yj)))))) Yah))) (Ym (Yt (Ye 1))))
theorem sc_law_either:FnScope ["rows","one","other","here"] ["rows","one","other"] (defScope (top 59)):=fns
@[simp] def Yku:AS:=(sRet (cC (Yg (lF (Ygv (lF (dLst (Yg (getV 1) (Yg (getV 2) aNil)))))) aNil) tupC))
@[simp] def Ykv:AS:=(sSeq (sIf (b2 (getC 3) (kD (.bl false)) (isB false)) (sSet 1 (dTup (Yg (b2 (getC 1) (kD (.int 0)) ixD) (Yg (notV (b2 (getC 1) (kD (.int 1)) ixD)) aNil)))) (sIf (andT (b2 (getC 3) (kD (.bl true)) (isB true)) (b2 (cC (Yg (getV 0) (Yg (getV 2) aNil)) Yc3) (kD (.bl true)) (isB true))) (sSet 2 (dTup (Yg (b2 (getC 3) (kD (.int 0)) ixD) (Yg (notV (b2 (getC 3) (kD (.int 1)) ixD)) aNil)))) sNil)) Yku)
def Ycg:AS:=(sSeq (sSet 3 (cC (Yg (getV 0) (Yg (getV 1) aNil)) Yc3)) Ykv)
def Ydh:AQ->Option D:=runB 3 4 Ycg
theorem Ym5(bl:Bl K w mg):Okf P w K mg base 2 3 "_law_either" ["rows","one","other"] Ydh:=by
 refine okfn bl.f59 sc_law_either λhr=>?_;exact(Yk (Yak 3 sc_law_either.nd (Yq (Yh9 bl) hr rfl (Yb (Ye 0) (Yb (Ye 1) Yj)) aL2)) (Yk (Yat (y1v (Yd 3) (Yc Ycp)) (Ym (Yak 1 sc_law_either.nd (Ye2 (Yb (Yl (Yd 1) (Yc Yh)) (Yb (Yu6 (Yl (Yd 1) (Yc Yh))) Yj))))) (Ym (Yat (Ylj (Yp0 (Yil (Yd 3) (Yc Ycp)) (Ymh (Yil (Yc (Yq (Yh9 bl) hr rfl (Yb (Ye 0) (Yb (Ye 2) Yj)) aL2)) (Yc Ycp))))) (Ym (Yak 2 sc_law_either.nd (Ye2 (Yb (Yl (Yd 3) (Yc Yh)) (Yb (Yu6 (Yl (Yd 3) (Yc Yh))) Yj))))) Yah))) (Ym (Yt (Ybf Yau Yez rfl bl.Tuple boot_tuple (Ys (Yc (Ya0 (Yol rfl hr.units rfl bl.Sorted rfl bl.Set (Yc (Ya0 (Ybv (Yb (Ye 1) (Yb (Ye 2) Yj)))))))) Yx))))))
theorem sc_law_eithers:FnScope ["script","rows","hands","start","rules","many","cell","left","one","other"] ["script","rows","hands","start"] (defScope (top 60)):=fns
def Yan:AS:=(sIf (b2 (getC 5) (kD (.int 0)) gtI) (sSeq (sSet 7 (cC (Yg (getV 6) (Yg (kD (.int 1181783497276652981)) aNil)) Yb6)) (sSeq (sSet 8 (dTup (Yg (b2 (getC 3) (b2 (b2 (getC 7) (kD (.int 4)) divI) (getC 5) modI) addI) (Yg (mB (b2 (b2 (getC 7) (kD (.int 2)) modI) (kD (.int 1)) (eqM false))) aNil)))) (sSeq (sSet 9 (dTup (Yg (b2 (getC 3) (b2 (b2 (b2 (getC 7) (kD (.int 4)) divI) (getC 5) divI) (getC 5) modI) addI) (Yg (mB (b2 (b2 (b2 (getC 7) (kD (.int 2)) divI) (kD (.int 2)) modI) (kD (.int 1)) (eqM false))) aNil)))) (sMut 4 (cC (Yg (getV 1) (Yg (getV 8) (Yg (getV 9) aNil))) Ydh) appD)))) sNil)
@[simp] def Yj4:AS:=(sRet (dTup (Yg (kD (.str "eithers")) (Yg (cC (Yg (getC 4) aNil) tupC) aNil))))
@[simp] def Yj5:AS:=(sSeq (sFor (b1 (lF (slF (getC 0) (some (kD (.int 3))) (some (kD (.int 63))))) Yp) (gSet 6) Yan) Yj4)
@[simp] def Yj6:AS:=(sSeq (sSet 5 (b2 (cC (Yg (getC 2) aNil) lenC) (getC 3) subI)) Yj5)
def Yha:AS:=(sSeq (sOwn 4 (dLst aNil)) Yj6)
def Ycv:AQ->Option D:=runB 4 10 Yha
theorem Ykw(bl:Bl K w mg):Okf P w K mg base 3 4 "_law_eithers" ["script","rows","hands","start"] Ycv:=by
 refine okfn bl.f60 sc_law_eithers λhr=>?_;exact(Yk (Ycz 4 sc_law_eithers.nd (Ybv Yj)) (Yk (Yak 5 sc_law_eithers.nd (Ypy (Yc (Yac Yz Ybb rfl bl.Len PySem.boot_len (Ys (Yd 2) Yx))) (Yd 3))) (Yk (Yec jg rfl (Ybe (Ya0 (Yjh (fl:=(some (kD (.int 3)))) (fh:=(some (kD (.int 63)))) (Yd 0) (Yok (Yc Yh)) (Yok (Yc Yh))))) (Yai 6 sc_law_eithers.nd) (Ym (Yat (Yzl (Yd 5) (Yc Yh)) (Yk (Yak 7 sc_law_eithers.nd (Yq (Ye8 bl) hr rfl (Yb (Ye 6) (Yb Yh Yj)) aL2)) (Yk (Yak 8 sc_law_eithers.nd (Ye2 (Yb (Ydp (Yd 3) (Yc (Ya4 (Yc (Ye1 (Yd 7) (Yc Yh))) (Yd 5)))) (Yb (Ybu hr.units (Yc (Ya4 (Yd 7) (Yc Yh))) (Yc Yh)) Yj)))) (Yk (Yak 9 sc_law_eithers.nd (Ye2 (Yb (Ydp (Yd 3) (Yc (Ya4 (Yc (Ye1 (Yc (Ye1 (Yd 7) (Yc Yh))) (Yd 5))) (Yd 5)))) (Yb (Ybu hr.units (Yc (Ya4 (Yc (Ye1 (Yd 7) (Yc Yh))) (Yc Yh))) (Yc Yh)) Yj)))) (Ym (Ydy 4 (Yq (Ym5 bl) hr rfl (Yb (Ye 1) (Yb (Ye 8) (Yb (Ye 9) Yj))) aL3)))))) Yah))) (Ym (Yt (Ye2 (Yb Yag (Yb (Ybf Yau Yez rfl bl.Tuple boot_tuple (Ys (Yd 4) Yx)) Yj))))))))
theorem sc_law_numbers_of:FnScope ["cells","row","cell","number"] ["cells"] (defScope (top 61)):=fns
def Ya6:AS:=(sSeq (sSet 3 (b2 (getC 2) (b2 (kD (.int 10)) (kD (.int 60)) powI) modI)) (sSeq (sIf (b2 (b2 (cC (Yg (getC 1) aNil) lenC) (kD (.int 3)) modI) (kD (.int 2)) (eqM false)) (sSet 3 (b2 (b1 (kD (.int 1)) negI) (getC 3) subI)) sNil) (sMut 1 (getV 3) appD)))
@[simp] def Yhb:AS:=(wF [1] (sRet (getV 1)))
@[simp] def Yhc:AS:=(sSeq (sFor (b1 (getV 0) Yp) (gSet 2) Ya6) Yhb)
def Yes:AS:=(sSeq (sOwn 1 (dLst aNil)) Yhc)
def Ybn:AQ->Option D:=runB 1 4 Yes
theorem Yh0(bl:Bl K w mg):Okf P w K mg base 1 1 "_law_numbers_of" ["cells"] Ybn:=by
 refine okfn bl.f61 sc_law_numbers_of λhr=>?_;exact(Yk (Ycz 1 sc_law_numbers_of.nd (Ybv Yj)) (Yk (Yec jg rfl (Ybe (Ye 0)) (Yai 2 sc_law_numbers_of.nd) (Yk (Yak 3 sc_law_numbers_of.nd (Ya4 (Yd 2) (Yc (y2a (Yc Yh) (Yc Yh))))) (Yk (Yat (Ybh hr.units (Yc (Ya4 (Yc (Yac Yz Ybb rfl bl.Len PySem.boot_len (Ys (Yd 1) Yx))) (Yc Yh))) (Yc Yh)) (Ym (Yak 3 sc_law_numbers_of.nd (Ypy (Yc (y1u (Yc Yh))) (Yd 3)))) Yah) (Ym (Ydy 1 (Ye 3)))))) (Ym (Yu8 [1] (Yt (Ye 1))))))
theorem sc_law_planned:FnScope ["rows","evening","beacon","source","lit"] ["rows","evening"] (defScope (top 62)):=fns
def Yao:AS:=(sIf (b2 (getC 2) (cC (Yg (getC 1) aNil) lenC) (eqM false)) (sRet (ifV (b2 (getC 3) (kD .non) (isN false)) (getV 4) (mB (b2 (b2 (getC 1) (getC 3) ixD) (getC 4) (eqM false))))) sNil)
def Yhd:AS:=(sSeq (sFor (b1 (getV 0) Yp) (Ygz 2 3 4) Yao) (sRet (kD .non)))
def Yby:AQ->Option D:=runB 2 5 Yhd
theorem Ykx(bl:Bl K w mg):Okf P w K mg base 1 2 "_law_planned" ["rows","evening"] Yby:=by
 refine okfn bl.f62 sc_law_planned λhr=>?_;exact(Yk (Yec jg rfl (Ybe (Ye 0)) (Yrk 2 3 4 rfl sc_law_planned.nd) (Ym (Yat (Ybh hr.units (Yd 2) (Yc (Yac Yz Ybb rfl bl.Len PySem.boot_len (Ys (Yd 1) Yx)))) (Ym (Yt (Yu7 (Yjg (Yd 3) (Yc Ybd)) (Ye 4) (Ybu hr.units (Yc (Yl (Yd 1) (Yd 3))) (Yd 4))))) Yah))) (Ym (Yt Ybd)))
theorem sc_law_says:FnScope ["settlers","watch","dues","order","k","which"] ["settlers","watch","dues","order"] (defScope (top 63)):=fns
def Ybg:AS:=(sSeq (sSet 5 (b2 (b2 (getC 4) (getC 3) addI) (kD (.int 3)) modI)) (sIf (andT (b2 (b2 (getC 2) (getC 5) ixD) (kD .non) (isN true)) (notT (b1 (cC (Yg (Yp8 "says" tb_says (b2 (getC 0) (getC 5) ixD) (Yg (getV 1) aNil)) (Yg (b2 (getC 2) (getC 5) ixD) aNil)) Yfm) truD))) (sRet (kD (.bl false))) sNil))
def Ylq:AS:=(sSeq (sFor (cF (Yg (kD (.int 3)) aNil) rng1) (gSet 4) Ybg) (sRet (kD (.bl true))))
def Yb7:AQ->Option D:=runB 4 6 Ylq
theorem Yj7(bl:Bl K w mg):Okf P w K mg base 5 4 "_law_says" ["settlers","watch","dues","order"] Yb7:=by
 refine okfn bl.f63 sc_law_says λhr=>?_;exact(Yk (Yec jg rfl (Ydz rfl bl.Range (Yb Yh Yj)) (Yai 4 sc_law_says.nd) (Yk (Yak 5 sc_law_says.nd (Ya4 (Yc (Ydp (Yd 4) (Yd 3))) (Yc Yh))) (Ym (Yat (Ylj (Yp0 (Ymi (Yc (Yl (Yd 2) (Yd 5))) (Yc Ybd)) (Ymh (Yf7 (Ycy (Yc (Yq (Yqf bl) hr rfl (Yb (Yoo (Yrp bl) hr (Yl (Yd 0) (Yd 5)) (Yb (Ye 1) Yj) aL1) (Yb (Yl (Yd 2) (Yd 5)) Yj)) aL2))))))) (Ym (Yt Ycp)) Yah)))) (Ym (Yt Ycp)))
theorem Yj8:FnScope ["self","book","hands"] ["self","book","hands"] (defScope (inClass (top 49) 0)):=fns
def Yd3:Hm:=(fldN 0 "truths" ["Watch"])
def Yd4:Hm:=(seqH (fldH 0 "hands" ["Watch"] (cC (Yg (getC 2) aNil) tupC)) Yd3)
def Yd5:Hm:=(seqH (fldH 0 "book" ["Watch"] (getV 1)) Yd4)
def Yfy:Hm:=(seqH (Yck (sExp (cC (Yg (getV 1) (Yg (getV 2) aNil)) Yal))) Yd5)
def Yba:Hf:=runH 3 Yfy
theorem Yet(bl:Bl K w mg):OkC P w K mg base 4 3 "Watch" ["self","book","hands"] [] Yba:=by
 refine okch bl.i_Watch bl.c_Watch Yj8 (λhr=>?_);exact(Yu (Yaj (Yxt (Yq (Ykt bl) hr rfl (Yb (Ye 1) (Yb (Ye 2) Yj)) aL2))) (Yu (Ydq 0 (cs:=["Watch"]) (fcs1 bl.n_Watch_book.cf) (Ye 1)) (Yu (Ydq 0 (cs:=["Watch"]) (fcs1 bl.n_Watch_hands.cf) (Ybf Yau Yez rfl bl.Tuple boot_tuple (Ys (Yd 2) Yx))) (Yaw (Yx5 0 (cs:=["Watch"]) (fcs1 bl.n_Watch_truths.cf))))))
theorem Yd6:FnScope ["self","hand"] ["self","hand"] (defScope (inClass (top 42) 0)):=fns
def Yif:Hm:=(fldH 0 "hand" ["Settler","Rowed","Papered"] (getV 1))
def Yap:Hf:=runH 2 Yif
theorem Yhe(bl:Bl K w mg):OkC P w K mg base 1 2 "Settler" ["self","hand"] [] Yap:=by
 refine okch bl.i_Settler bl.c_Settler Yd6 (λhr=>?_);exact(Yaw (Ydq 0 (cs:=["Settler","Rowed","Papered"]) (fcs3 bl.n_Settler_hand.cf bl.n_Rowed_hand.cf bl.n_Papered_hand.cf) (Ye 1)))
theorem Ydi(bl:Bl K w mg):OkK P w K mg base 1 2 "Settler" "__init__" ["self","hand"] Yap:=by
 refine okkh bl.k_Settler bl.c_Settler Yd6 (λhr=>?_);exact(Yaw (Ydq 0 (cs:=["Settler","Rowed","Papered"]) (fcs3 bl.n_Settler_hand.cf bl.n_Rowed_hand.cf bl.n_Papered_hand.cf) (Ye 1)))
theorem Yj9:FnScope ["self","hand","row"] ["self","hand","row"] (defScope (inClass (top 43) 0)):=fns
def Yd7:Hm:=(fldH 0 "seen" ["Rowed"] (kD (.int 0)))
def Yd8:Hm:=(seqH (fldH 0 "row" ["Rowed"] (cC (Yg (getC 2) aNil) tupC)) Yd7)
def Yfz:Hm:=(seqH (exH (Yvn (Yg (getV 0) (Yg (getV 1) aNil)) Yap)) Yd8)
def Yax:Hf:=runH 3 Yfz
theorem Ycn(bl:Bl K w mg):OkC P w K mg base 3 3 "Rowed" ["self","hand","row"] [] Yax:=by
 refine okch bl.i_Rowed bl.c_Rowed Yj9 (λhr=>?_);exact(Yu (Yfi (Yvq (Ydi bl) hr rfl (Yb (Ye 0) (Yb (Ye 1) Yj)) aL2)) (Yu (Ydq 0 (cs:=["Rowed"]) (fcs1 bl.n_Rowed_row.cf) (Ybf Yau Yez rfl bl.Tuple boot_tuple (Ys (Yd 2) Yx))) (Yaw (Ydq 0 (cs:=["Rowed"]) (fcs1 bl.n_Rowed_seen.cf) Yh))))
theorem sc_law_two_rowed:FnScope ["book","hands","numbers","rows","both","counts","turn","watch","won","evening","hand"] ["book","hands","numbers"] (defScope (top 64)):=fns
theorem cs_law_two_rowed_0:CompSc ["book","hands","numbers","rows","both","counts","turn","watch","won","evening","hand"] (defScope (top 64)) ["k","numbers"] [none,some 2] (fsc [(".0",.local),("k",.local),("numbers",.free)]):=Yaz (by decide +kernel)
def Yam:AV:=(b2 (b2 (getC 1) (getC 0) ixD) (getC 0) addI)
def Yaf:AS:=(sSeq (sMut 9 (andV (mB (b2 (b2 (getC 5) (getC 10) getS) (cC (Yg (b2 (getC 3) (getC 10) getS) aNil) lenC) ltI)) (mB (b2 (b2 (b2 (b2 (getC 3) (getC 10) getS) (b2 (getC 5) (getC 10) getS) ixD) (kD (.int 2)) modI) (kD (.int 1)) (eqM false)))) appD) (y2g 5 (getC 10) (b2 (b2 (getC 5) (getC 10) getS) (kD (.int 1)) addI)))
def Ydj:Hm:=(ifH (rdT (orT (notT (b1 (mB (b1 (getC 8) (isiD "str"))) truD)) (orT (b2 (getC 8) (b1 (getV 7) (mthD "Watch" "winner" Yae)) (eqM true)) (b2 (b1 (getV 7) (mthD "Watch" "evening" Yad)) (cC (Yg (getC 9) aNil) tupC) (eqM true))))) (Yck (sRet (kD (.bl false)))) nilH)
def Ydk:Hm:=(seqH (Yck (sFor (b1 (getV 1) Yp) (gSet 10) Yaf)) Ydj)
def Ydl:Hm:=(seqH (Yck (sOwn 9 (dLst aNil))) Ydk)
def Ydm:Hm:=(seqH (setH 8 (Yvn (Yg (getV 7) (Yg (b2 (getC 4) (kD (.int 0)) ixD) (Yg (b2 (getC 4) (kD (.int 1)) ixD) aNil))) Yfl)) Ydl)
def Ybz:Hm:=(seqH (setH 7 (Yid "Watch" true [] [] (Yg (getV 0) (Yg (getV 1) aNil)) Yba)) Ydm)
def Yhf:Hm:=(Yck (sRet (kD (.bl true))))
def Ydn:Hm:=(seqH (forH (cF (Yg (kD (.int 2)) aNil) rng1) (gSet 6) Ybz) Yhf)
def Ydo:Hm:=(seqH (Yck (Yop 5 [(Str.ofString "keeper"),(Str.ofString "storm")] [(kD (.int 0)),(kD (.int 0))])) Ydn)
def Yco:Hm:=(seqH (setH 4 (lstH (Yjk (Yid "Rowed" false [] [] (Yg (kD (.str "keeper")) (Yg (b2 (getC 3) (kD (.str "keeper")) getS) aNil)) Yax) (Yjk (Yid "Rowed" false [] [] (Yg (kD (.str "storm")) (Yg (b2 (getC 3) (kD (.str "storm")) getS) aNil)) Yax) Yx3)))) Ydo)
@[simp] def Yd9:AS:=(Yp9 Yco)
def Yfb:AS:=(sSeq (Yop 3 [(Str.ofString "keeper"),(Str.ofString "storm")] [(getV 2),(lF (b2 (lF (Yci (cF (Yg (cC (Yg (getC 2) aNil) lenC) aNil) rng1) [none,some 2] (gSet 0) tY (Yam))) (lF (dLst (Yg (kD (.int 1)) aNil))) catD))]) Yd9)
def Yb0:AQ->Option D:=runB 3 11 Yfb
theorem Yig(bl:Bl K w mg):Okf P w K mg base 8 3 "_law_two_rowed" ["book","hands","numbers"] Yb0:=by
 refine okfn bl.f64 sc_law_two_rowed λhr=>?_;exact(Yk (Yoq 3 [(Str.ofString "keeper"),(Str.ofString "storm")] [(getV 2),(lF (b2 (lF (Yci (cF (Yg (cC (Yg (getC 2) aNil) lenC) aNil) rng1) [none,some 2] (gSet 0) tY (Yam))) (lF (dLst (Yg (kD (.int 1)) aNil))) catD))] (by decide +kernel) (by decide +kernel) (by decide) (by decide) (Yik (Ye 2) (Yik (Ya0 (Yp1 (Yc (Ya0 (Ybm cs_law_two_rowed_0 rfl (Ydz rfl bl.Range (Yb (Yac Yz Ybb rfl bl.Len PySem.boot_len (Ys (Yd 2) Yx)) Yj)) (λ_ _ _ _ _=>(Yai 0 cs_law_two_rowed_0.nd)) (λ_ _ _ _ _=>Ye3) (λ_ _ _ _ _=>(Ydp (Yc (Yl (Yd 1) (Yd 0))) (Yd 0))) (Ycj (i:=0) rfl)))) (Yc (Ya0 (Ybv (Yb Yh Yj)))))) Yu9)) sc_law_two_rowed.nd) (Yvr (Yu (Yga 4 sc_law_two_rowed.nd (Yvl (Yg1 (Yed false [] (Ycn bl) hr rfl (Yb Yag (Yb (Yee hr.units (Yd 3) (Yc Yag)) Yj)) aM2) (Yg1 (Yed false [] (Ycn bl) hr rfl (Yb Yag (Yb (Yee hr.units (Yd 3) (Yc Yag)) Yj)) aM2) Yvk)))) (Yu (Yaj (Yoq 5 [(Str.ofString "keeper"),(Str.ofString "storm")] [(kD (.int 0)),(kD (.int 0))] (by decide +kernel) (by decide +kernel) (by decide) (by decide) (Yik Yh (Yik Yh Yu9)) sc_law_two_rowed.nd)) (Yu (Yp7 jg rfl (Ydz rfl bl.Range (Yb Yh Yj)) (Yai 6 sc_law_two_rowed.nd) (Yu (Yga 7 sc_law_two_rowed.nd (Yed true [] (Yet bl) hr rfl (Yb (Ye 0) (Yb (Ye 1) Yj)) aM2)) (Yu (Yga 8 sc_law_two_rowed.nd (Yx4 (Yqc bl) hr rfl (Yb (Ye 7) (Yb (Yl (Yd 4) (Yc Yh)) (Yb (Yl (Yd 4) (Yc Yh)) Yj))) aL3)) (Yu (Yaj (Ycz 9 sc_law_two_rowed.nd (Ybv Yj))) (Yu (Yaj (Yec jg rfl (Ybe (Ye 1)) (Yai 10 sc_law_two_rowed.nd) (Yk (Ydy 9 (Yhv (Yu5 (Yc (Yee hr.units (Yd 5) (Yd 10))) (Yc (Yac Yz Ybb rfl bl.Len PySem.boot_len (Ys (Yc (Yee hr.units (Yd 3) (Yd 10))) Yx)))) (Yff (Ybu hr.units (Yc (Ya4 (Yc (Yl (Yc (Yee hr.units (Yd 3) (Yd 10))) (Yc (Yee hr.units (Yd 5) (Yd 10))))) (Yc Yh))) (Yc Yh))))) (Ym (Yx8 hr.units 5 (Yd 10) (Ydp (Yc (Yee hr.units (Yd 5) (Yd 10))) (Yc Yh))))))) (Yaw (Yon (Yfh (Ylj (Yrf (Yf7 (Ycy (Yc (Yp2 (Yd 8) rfl rfl bl.Isinstance bl.Str boot_str (Yuc))))) (Yrf (Yzm hr.units (Yd 8) (Yc (Ybx (Yc2 bl bl.r_Watch_winner) hr (Ye 7)))) (Ypz (Yzm hr.units (Yc (Ybx (Yer bl bl.r_Watch_evening) hr (Ye 7))) (Yc (Ybf Yau Yez rfl bl.Tuple boot_tuple (Ys (Yd 9) Yx))))))))) (Yaw (Yaj (Yt Ycp))) Yhy))))))) (Yaw (Yaj (Yt Ycp))))))))
theorem Yh1:FnScope ["self","hand","paper","book","hands","start"] ["self","hand","paper","book","hands","start"] (defScope (inClass (top 44) 0)):=fns
def Yc4:Hm:=(fldH 0 "start" ["Papered"] (getV 5))
def Yc5:Hm:=(seqH (fldH 0 "hands" ["Papered"] (cC (Yg (getC 4) aNil) tupC)) Yc4)
def Yc6:Hm:=(seqH (fldH 0 "book" ["Papered"] (getV 3)) Yc5)
def Yc7:Hm:=(seqH (fldH 0 "paper" ["Papered"] (getV 2)) Yc6)
def Yeu:Hm:=(seqH (exH (Yvn (Yg (getV 0) (Yg (getV 1) aNil)) Yap)) Yc7)
def Ya8:Hf:=runH 6 Yeu
theorem Yhg(bl:Bl K w mg):OkC P w K mg base 3 6 "Papered" ["self","hand","paper","book","hands","start"] [.int 0] Ya8:=by
 refine okcz bl.i_Papered bl.c_Papered Yh1 (λhr=>?_) (λ_ _ _ _ _ _ _ _ us hl=>by obtain⟨_,_,_,_,_,rfl⟩:=len5 hl;exact⟨_,rfl,rfl⟩);exact(Yu (Yfi (Yvq (Ydi bl) hr rfl (Yb (Ye 0) (Yb (Ye 1) Yj)) aL2)) (Yu (Ydq 0 (cs:=["Papered"]) (fcs1 bl.n_Papered_paper.cf) (Ye 2)) (Yu (Ydq 0 (cs:=["Papered"]) (fcs1 bl.n_Papered_book.cf) (Ye 3)) (Yu (Ydq 0 (cs:=["Papered"]) (fcs1 bl.n_Papered_hands.cf) (Ybf Yau Yez rfl bl.Tuple boot_tuple (Ys (Yd 4) Yx))) (Yaw (Ydq 0 (cs:=["Papered"]) (fcs1 bl.n_Papered_start.cf) (Ye 5)))))))
theorem sc_law:FnScope ["script","many","hands","rows","book","mine","numbers","row","kept_hands","settlers","watch","evening","done","beacon","dues","order","settler"] ["script"] (defScope (top 65)):=fns
theorem cs_law_0:CompSc ["script","many","hands","rows","book","mine","numbers","row","kept_hands","settlers","watch","evening","done","beacon","dues","order","settler"] (defScope (top 65)) ["settler"] [none] (fsc [(".0",.local),("settler",.local),("isinstance",.globalImplicit),("Settler",.globalImplicit)]):=Yaz (by decide +kernel)
def Ylr:List (Str×Bool):=[("Settler",true),("Rowed",true),("Papered",true)]
theorem Yqh(bl:Bl K w mg):OkIs K mg "Settler" Ylr:=⟨bl.o_Settler_Settler,⟨bl.o_Settler_Rowed,⟨bl.o_Settler_Papered,trivial⟩⟩⟩
def Yhh:Hm:=(tstH (Ymp "sees" tb_sees (getV 16) (Yg (b2 (getC 2) (getC 13) ixD) (Yg (b2 (getC 11) (getC 13) ixD) aNil))) nnD (Yck (sRet (kD (.bl false)))) nilH)
def Ym6:Hm:=(frzH [9] (forH (b1 (getV 9) Yp) (gSet 16) Yhh))
def Yrq:Hm:=(seqH (exH (Ymp "settle" Yg3 (getV 10) (Yg (b2 (getC 11) (getC 13) ixD) aNil))) Ym6)
def Yrr:Hm:=(seqH (ifH (rdT (Yod [9,14] (orT (notT (b1 (cC (Yg (getV 9) (Yg (getV 10) (Yg (getV 14) (Yg (getV 15) aNil)))) Yb7) truD)) (notT (b1 (cC (Yg (getV 9) (Yg (getV 10) (Yg (getV 14) (Yg (b2 (kD (.int 0)) (getC 15) subI) aNil)))) Yb7) truD))))) (Yck (sRet (kD (.bl false)))) nilH) Yrq)
def Yrs:Hm:=(seqH (Yck (sSet 15 (cC (Yg (getV 0) (Yg (b2 (kD (.int 3)) (getC 13) addI) aNil)) Yar))) Yrr)
def Yrt:Hm:=(seqH (Yck (sIf (b2 (b2 (getC 2) (getC 13) ixD) (kD (.str "keeper")) (eqM false)) (Yi8 14 (kD (.int 2)) (cC (Yg (getV 3) (Yg (lF (slF (getC 11) none (some (getC 13)))) aNil)) Yby) setD) sNil)) Yrs)
def Yru:Hm:=(seqH (Yck (sIf (b2 (b2 (getC 2) (getC 13) ixD) (getC 5) (eqM false)) (sSeq (sOwn 14 (dLst (Yg (kD (.bl false)) (Yg (andV (mB (b2 (getC 12) (cC (Yg (getC 6) aNil) lenC) ltI)) (mB (b2 (b2 (b2 (getC 6) (getC 12) ixD) (kD (.int 2)) modI) (kD (.int 1)) (eqM false)))) (Yg (kD .non) aNil))))) (sSet 12 (b2 (getC 12) (kD (.int 1)) addI))) sNil)) Yrt)
def Ym7:Hm:=(seqH (Yck (sOwn 14 (dLst (Yg (kD .non) (Yg (kD .non) (Yg (kD .non) aNil)))))) Yru)
def Yio:AV:=(mB (b1 (getC 0) (isiO Ylr)))
def Yrv:Hm:=(Yck (sRet (cC (Yg (getV 4) (Yg (getV 2) (Yg (getV 6) aNil))) Yb0)))
def Ym8:Hm:=(seqH (ifH (rdT (Yod [9] (notT (b1 (cC (Yg (lF (Yci (b1 (getV 9) Yp) [none] (gSet 0) tY (Yio))) aNil) allC) truD)))) (Yck (sRet (kD (.bl false)))) nilH) Yrv)
def Yrw:Hm:=(seqH (forH (cF (Yg (getV 1) aNil) rng1) (gSet 13) Ym7) Ym8)
def Yrx:Hm:=(seqH (Yck (sSet 12 (kD (.int 0)))) Yrw)
def Yo2:Hm:=(seqH (Yck (sSet 11 (cC (Yg (cC (Yg (getV 0) (Yg (kD (.int 2)) aNil)) Yar) (Yg (getV 1) aNil)) Ycx))) Yrx)
def Yo3:Hm:=(seqH (setH 10 (Yid "Watch" true [] [] (Yg (getV 4) (Yg (getV 2) aNil)) Yba)) Yo2)
def Yo4:Hm:=(seqH (Yck (clrS 8)) Yo3)
def Yo5:Hm:=(seqH (Yck (Yi8 7 (kD (.int 0)) (kD (.int 1)) insD)) Yo4)
def Yvz:Hm:=(seqH (setH 9 (lstH (Yjk (Yid "Settler" true [] [] (Yg (getV 5) aNil) Yap) (Yjk (Yid "Rowed" false [7] [] (Yg (getV 5) (Yg (getV 7) aNil)) Yax) (Yjk (Yid "Papered" true [8] [.int 0] (Yg (kD (.str "keeper")) (Yg (dTup (Yg (kD (.str "plan")) (Yg (getV 3) aNil))) (Yg (getV 4) (Yg (getV 8) aNil)))) Ya8) Yx3))))) Yo5)
def Yv0:AS:=(Yp9 Yvz)
def Yv1:AS:=(sSeq (sOwn 8 (cF (Yg (getC 2) aNil) Yn4)) Yv0)
def Yka:AS:=(sSeq (sOwn 7 (cF (Yg (getC 6) aNil) Yn4)) Yv1)
def Ym9:AS:=(sSeq (sSet 6 (cC (Yg (lF (slF (getC 0) (some (kD (.int 2))) (some (b2 (kD (.int 2)) (b2 (b2 (cC (Yg (getV 0) (Yg (kD (.int 0)) aNil)) Yar) (kD (.int 80)) divI) (kD (.int 20)) modI) addI)))) aNil) Ybn)) Yka)
def Yna:AS:=(sSeq (sSet 5 (b2 (lF (dLst (Yg (kD (.str "storm")) (Yg (kD (.str "keeper")) aNil)))) (b2 (cC (Yg (getV 0) (Yg (kD (.int 0)) aNil)) Yar) (kD (.int 2)) modI) ixD)) Ym9)
def Ynb:AS:=(sSeq (sSet 4 (cC (Yg (getV 0) (Yg (getV 3) (Yg (getV 2) (Yg (kD (.int 0)) aNil)))) Ycv)) Yna)
def Ync:AS:=(sSeq (sSet 3 (cC (Yg (getV 0) (Yg (getV 2) (Yg (kD (.int 0)) aNil))) Yfn)) Ynb)
def Ynd:AS:=(sSeq (sSet 2 (cC (Yg (cC (Yg (getV 0) (Yg (kD (.int 1)) aNil)) Yar) (Yg (getV 1) aNil)) Yel)) Ync)
def y2i:AS:=(sSeq (sSet 1 (b2 (kD (.int 1)) (b2 (b2 (cC (Yg (getV 0) (Yg (kD (.int 0)) aNil)) Yar) (kD (.int 4)) divI) (kD (.int 20)) modI) addI)) Ynd)
def Yqi:AQ->Option D:=runB 1 17 y2i
theorem y5q(bl:Bl K w mg){a:Addr}{fd:FuncData}(F:Fun K "law" "law" (top 65) a fd):FnOk P w K mg base CX0 9 a fd ["script"] (spOf K 1 Yqi):=by
 refine Yhw (k:=8) F sc_law rfl rfl λcdv A outer s H E hr=>?_;exact(Yk (Yak 1 sc_law.nd (Ydp (Yc Yh) (Yc (Ya4 (Yc (Ye1 (Yc (Yq (Ybp bl) hr rfl (Yb (Ye 0) (Yb Yh Yj)) aL2)) (Yc Yh))) (Yc Yh))))) (Yk (Yak 2 sc_law.nd (Yq (Yoy bl) hr rfl (Yb (Yq (Ybp bl) hr rfl (Yb (Ye 0) (Yb Yh Yj)) aL2) (Yb (Ye 1) Yj)) aL2)) (Yk (Yak 3 sc_law.nd (Yq (Yqg bl) hr rfl (Yb (Ye 0) (Yb (Ye 2) (Yb Yh Yj))) aL3)) (Yk (Yak 4 sc_law.nd (Yq (Ykw bl) hr rfl (Yb (Ye 0) (Yb (Ye 3) (Yb (Ye 2) (Yb Yh Yj)))) aL4)) (Yk (Yak 5 sc_law.nd (Yl (Yc (Ya0 (Ybv (Yb Yag (Yb Yag Yj))))) (Yc (Ya4 (Yc (Yq (Ybp bl) hr rfl (Yb (Ye 0) (Yb Yh Yj)) aL2)) (Yc Yh))))) (Yk (Yak 6 sc_law.nd (Yq (Yh0 bl) hr rfl (Yb (Ya0 (Yjh (fl:=(some (kD (.int 2)))) (fh:=(some (b2 (kD (.int 2)) (b2 (b2 (cC (Yg (getV 0) (Yg (kD (.int 0)) aNil)) Yar) (kD (.int 80)) divI) (kD (.int 20)) modI) addI))) (Yd 0) (Yok (Yc Yh)) (Yok (Yc (Ydp (Yc Yh) (Yc (Ya4 (Yc (Ye1 (Yc (Yq (Ybp bl) hr rfl (Yb (Ye 0) (Yb Yh Yj)) aL2)) (Yc Yh))) (Yc Yh)))))))) Yj) aL1)) (Yk (Ycz 7 sc_law.nd (Yfg Yda Yij rfl bl.List boot_list (Ys (Yd 6) Yx))) (Yk (Ycz 8 sc_law.nd (Yfg Yda Yij rfl bl.List boot_list (Ys (Yd 2) Yx))) (Yvr (Yu (Yga 9 sc_law.nd (Yvl (Yg1 (Yed true [] (Yhe bl) hr rfl (Yb (Ye 5) Yj) aM1) (Yg1 (Yed false [7] (Ycn bl) hr rfl (Yb (Ye 5) (Yb (Ye 7) Yj)) aM2) (Yg1 (Yed true [8] (Yhg bl) hr rfl (Yb Yag (Yb (Ye2 (Yb Yag (Yb (Ye 3) Yj))) (Yb (Ye 4) (Yb (Ye 8) Yj)))) aZ4) Yvk))))) (Yu (Yaj (Ysp 7 Yh Yh)) (Yu (Yaj (Yvs 8)) (Yu (Yga 10 sc_law.nd (Yed true [] (Yet bl) hr rfl (Yb (Ye 4) (Yb (Ye 2) Yj)) aM2)) (Yu (Yaj (Yak 11 sc_law.nd (Yq (Yj2 bl) hr rfl (Yb (Yq (Ybp bl) hr rfl (Yb (Ye 0) (Yb Yh Yj)) aL2) (Yb (Ye 1) Yj)) aL2))) (Yu (Yaj (Yak 12 sc_law.nd Yh)) (Yu (Yp7 jg rfl (Ydz rfl bl.Range (Yb (Ye 1) Yj)) (Yai 13 sc_law.nd) (Yu (Yaj (Ycz 14 sc_law.nd (Ybv (Yb Ybd (Yb Ybd (Yb Ybd Yj)))))) (Yu (Yaj (Yat (Ybh hr.units (Yc (Yl (Yd 2) (Yd 13))) (Yd 5)) (Yk (Ycz 14 sc_law.nd (Ybv (Yb Ycp (Yb (Yhv (Yu5 (Yd 12) (Yc (Yac Yz Ybb rfl bl.Len PySem.boot_len (Ys (Yd 6) Yx)))) (Yff (Ybu hr.units (Yc (Ya4 (Yc (Yl (Yd 6) (Yd 12))) (Yc Yh))) (Yc Yh)))) (Yb Ybd Yj))))) (Ym (Yak 12 sc_law.nd (Ydp (Yd 12) (Yc Yh))))) Yah)) (Yu (Yaj (Yat (Ybh hr.units (Yc (Yl (Yd 2) (Yd 13))) (Yc Yag)) (Ym (Yp3 14 (Yc Yh) (Yq (Ykx bl) hr rfl (Yb (Ye 3) (Yb (Ya0 (Yjh (fl:=none) (fh:=(some (getC 13))) (Yd 11) y5c (Yok (Yd 13)))) Yj)) aL2))) Yah)) (Yu (Yaj (Yak 15 sc_law.nd (Yq (Ybp bl) hr rfl (Yb (Ye 0) (Yb (Ydp (Yc Yh) (Yd 13)) Yj)) aL2))) (Yu (Yon (Yfh (Yrg [9,14] (Ylj (Yrf (Yf7 (Ycy (Yc (Yq (Yj7 bl) hr rfl (Yb (Ye 9) (Yb (Ye 10) (Yb (Ye 14) (Yb (Ye 15) Yj)))) aL4)))) (Ypz (Yf7 (Ycy (Yc (Yq (Yj7 bl) hr rfl (Yb (Ye 9) (Yb (Ye 10) (Yb (Ye 14) (Yb (Ypy (Yc Yh) (Yd 15)) Yj)))) aL4))))))))) (Yaw (Yaj (Yt Ycp))) Yhy) (Yu (Yfi (Yg2 (Yll bl) hr (Ye 10) (Yb (Yl (Yd 11) (Yd 13)) Yj) aL1)) (Yaw (y2b [9] (Yp7 jg rfl (Ybe (Ye 9)) (Yai 16 sc_law.nd) (Yaw (y2e (Yg2 (Ym4 bl) hr (Ye 16) (Yb (Yl (Yd 2) (Yd 13)) (Yb (Yl (Yd 11) (Yd 13)) Yj)) aL2) (Yaw (Yaj (Yt Ycp))) Yhy)))))))))))) (Yu (Yon (Yfh (Yrg [9] (Yf7 (Ycy (Yc (Yac (Yn9 rfl) Yuh rfl bl.All boot_all (Ys (Yc (Ya0 (Ybm cs_law_0 rfl (Ybe (Ye 9)) (λ_ _ _ _ _=>(Yai 0 cs_law_0.nd)) (λ_ _ _ _ _=>Ye3) (λ_ _ _ _ _=>(Yx9 (Yqh bl) (Yd 0) bl.Isinstance bl.m_Settler)) (Ycj (i:=0) rfl)))) Yx))))))) (Yaw (Yaj (Yt Ycp))) Yhy) (Yaw (Yaj (Yt (Yq (Yig bl) hr rfl (Yb (Ye 4) (Yb (Ye 2) (Yb (Ye 6) Yj))) aL3)))))))))))))))))))))
end
abbrev Yne:Nat:=9
theorem all_mk{l:W.OpenLaw}{w:World}{K:W.Frag}{h:Heap}{mg:AE}{fa ue:Addr}(X:K.In h)(G:h.Ns mainGlobals mg)(hfa:mg "law"=some (.ref fa))
 {uu uh:Option Addr}{uv:Array (Option Value)}{uw ui uj uk uc ul:Value}
 (F_either_holds:Fk K "either_holds" 14)
 (F_sum_holds:Fk K "sum_holds" 15)
 (F_if_holds:Fk K "if_holds" 16)
 (F_rule_holds:Fk K "rule_holds" 17)
 (F_broken_rules:Fk K "broken_rules" 18)
 (F_holds:Fk K "holds" 19)
 (F_beacons_in:Fk K "beacons_in" 20)
 (F_beacons_of:Fk K "beacons_of" 21)
 (F_row_of:Fk K "row_of" 31)
 (F_plan_said:Fk K "plan_said" 33)
 (F_said:Fk K "said" 40)
 (F_play_out:Fk K "play_out" 45)
 (F_is_hand:Fk K "is_hand" 47)
 (F_check_hands:Fk K "check_hands" 48)
 (F_law_cell:Fk K "_law_cell" 51)
 (F_law_mixed:Fk K "_law_mixed" 52)
 (F_law_bits:Fk K "_law_bits" 53)
 (F_law_bool:Fk K "_law_bool" 54)
 (F_law_hands:Fk K "_law_hands" 55)
 (F_law_own:Fk K "_law_own" 56)
 (F_law_plan:Fk K "_law_plan" 57)
 (F_law_comes:Fk K "_law_comes" 58)
 (F_law_either:Fk K "_law_either" 59)
 (F_law_eithers:Fk K "_law_eithers" 60)
 (F_law_numbers_of:Fk K "_law_numbers_of" 61)
 (F_law_planned:Fk K "_law_planned" 62)
 (F_law_says:Fk K "_law_says" 63)
 (F_law_two_rowed:Fk K "_law_two_rowed" 64)
 (ux:W.nsIn K mainGlobals "law"=some (some (.ref ue))) (uy:K.lookup ue=some ⟨uw,uu,.func (W.fnOf "law" "law" (defArgs (top 65)) (defBody (top 65)) (defScope (top 65)) .none ui uj uk uh uc ul),uv⟩) (uz:W.codeIn K uc "law"=true) (u0:W.keepIn K (.ref ue)=true)
 (R_Papered_says:Mq K "Papered" "says" "Papered.says" (inClass (top 44) 1))
 (R_Papered_sees:Mq K "Papered" "sees" "Settler.sees" (inClass (top 42) 2))
 (R_Rowed_says:Mq K "Rowed" "says" "Rowed.says" (inClass (top 43) 1))
 (R_Rowed_sees:Mq K "Rowed" "sees" "Rowed.sees" (inClass (top 43) 2))
 (R_Settler_says:Mq K "Settler" "says" "Settler.says" (inClass (top 42) 1))
 (R_Settler_sees:Mq K "Settler" "sees" "Settler.sees" (inClass (top 42) 2))
 (R_Watch_evening:Mq K "Watch" "evening" "Watch.evening" (inClass (top 49) 2))
 (R_Watch_settle:Mq K "Watch" "settle" "Watch.settle" (inClass (top 49) 5))
 (R_Watch_turn:Mq K "Watch" "turn" "Watch.turn" (inClass (top 49) 1))
 (R_Watch_winner:Mq K "Watch" "winner" "Watch.winner" (inClass (top 49) 4))
 (I_Settler:Iqc K "Settler" "Settler.__init__" (inClass (top 42) 0))
 (I_Rowed:Iqc K "Rowed" "Rowed.__init__" (inClass (top 43) 0))
 (I_Papered:Iqz K "Papered" "Papered.__init__" (inClass (top 44) 0))
 (I_Watch:Iqc K "Watch" "Watch.__init__" (inClass (top 49) 0))
 (Q_Settler:Kq K "Settler" "__init__" "Settler.__init__" (inClass (top 42) 0))
 (N_Papered_book:Nq K "Papered" "book")
 (N_Papered_hand:Nq K "Papered" "hand")
 (N_Papered_hands:Nq K "Papered" "hands")
 (N_Papered_paper:Nq K "Papered" "paper")
 (N_Papered_start:Nq K "Papered" "start")
 (N_Rowed_hand:Nq K "Rowed" "hand")
 (N_Rowed_row:Nq K "Rowed" "row")
 (N_Rowed_seen:Nq K "Rowed" "seen")
 (N_Settler_hand:Nq K "Settler" "hand")
 (N_Watch_book:Nq K "Watch" "book")
 (N_Watch_hands:Nq K "Watch" "hands")
 (N_Watch_truths:Nq K "Watch" "truths")
 (O_Settler_Settler:IsK K "Settler" "Settler" true)
 (O_Settler_Rowed:IsK K "Settler" "Rowed" true)
 (O_Settler_Papered:IsK K "Settler" "Papered" true)
 {ua:Tok} (ub:W.nsIn K mainGlobals "BEACON_COUNT"=some (some (.int 60 ua)))
 {ud:Addr}{um:_}{uo:_}{up:_}{uf ug:_} (uq:W.nsIn K mainGlobals "HANDS"=some (some (.ref ud))) (ut:K.lookup ud=some ⟨.type "tuple",um,.seq #[.str "keeper" uf,.str "storm" ug] uo,up⟩)
 (z_len:W.nsIn K mainGlobals "len"=some none)
 (z_range:W.nsIn K mainGlobals "range"=some none)
 (z_list:W.nsIn K mainGlobals "list"=some none)
 (z_tuple:W.nsIn K mainGlobals "tuple"=some none)
 (z_int:W.nsIn K mainGlobals "int"=some none)
 (z_bool:W.nsIn K mainGlobals "bool"=some none)
 (z_str:W.nsIn K mainGlobals "str"=some none)
 (z_sorted:W.nsIn K mainGlobals "sorted"=some none)
 (z_any:W.nsIn K mainGlobals "any"=some none)
 (z_all:W.nsIn K mainGlobals "all"=some none)
 (z_isinstance:W.nsIn K mainGlobals "isinstance"=some none)
 (z_enumerate:W.nsIn K mainGlobals "enumerate"=some none)
 (z_set:W.nsIn K mainGlobals "set"=some none)
 : ∃fd:FuncData,(∀(s:Shared) (v:Value),BindsTo s fd ⟨[v],[]⟩ [("script",v)])/\∀base:Heap,K.In base->base.Ns mainGlobals mg->FnOk l.prog w K mg base CX0 Yne fa fd ["script"] (spOf K 1 Yqi):=by
 have e:=hfa.symm.trans (W.mg_of X G ux);cases e
 have bl:Bl K w mg:=⟨W.mg_none_of X G z_len,W.mg_none_of X G z_range,W.mg_none_of X G z_list,W.mg_none_of X G z_tuple,W.mg_none_of X G z_int,W.mg_none_of X G z_bool,W.mg_none_of X G z_str,W.mg_none_of X G z_sorted,W.mg_none_of X G z_any,W.mg_none_of X G z_all,W.mg_none_of X G z_isinstance,W.mg_none_of X G z_enumerate,W.mg_none_of X G z_set,⟨_,W.mg_of X G ub⟩,⟨_,_,_,_,W.mg_of X G uq,ut,rfl,rfl,(.cons ⟨⟨_,rfl⟩,by decide +kernel⟩ (.cons ⟨⟨_,rfl⟩,by decide +kernel⟩ .nil))⟩,F_either_holds.on X G,F_sum_holds.on X G,F_if_holds.on X G,F_rule_holds.on X G,F_broken_rules.on X G,F_holds.on X G,F_beacons_in.on X G,F_beacons_of.on X G,F_row_of.on X G,F_plan_said.on X G,F_said.on X G,F_play_out.on X G,F_is_hand.on X G,F_check_hands.on X G,F_law_cell.on X G,F_law_mixed.on X G,F_law_bits.on X G,F_law_bool.on X G,F_law_hands.on X G,F_law_own.on X G,F_law_plan.on X G,F_law_comes.on X G,F_law_either.on X G,F_law_eithers.on X G,F_law_numbers_of.on X G,F_law_planned.on X G,F_law_says.on X G,F_law_two_rowed.on X G,R_Papered_says,R_Papered_sees,R_Rowed_says,R_Rowed_sees,R_Settler_says,R_Settler_sees,R_Watch_evening,R_Watch_settle,R_Watch_turn,R_Watch_winner,I_Settler,I_Rowed,I_Papered,I_Watch,Q_Settler,N_Papered_book,N_Papered_hand,N_Papered_hands,N_Papered_paper,N_Papered_start,N_Rowed_hand,N_Rowed_row,N_Rowed_seen,N_Settler_hand,N_Watch_book,N_Watch_hands,N_Watch_truths,O_Settler_Settler.on X G,O_Settler_Rowed.on X G,O_Settler_Papered.on X G,λC h=>W.mg_of X G h,λC h=>W.mg_of X G h,λC h=>W.mg_of X G h,λC h=>W.mg_of X G h,O_Settler_Settler.m X G⟩
 have u4:=Ynx (st:=(top 65)) uy uz u0;refine⟨W.fnOf "law" "law" (defArgs (top 65)) (defBody (top 65)) (defScope (top 65)) .none ui uj uk uh uc ul,λs v=>.of_eq rfl,λbase _ _=>?_⟩;exact y5q bl u4
theorem walk(hlaw:∀ns:AG,ns.length<=63->Yqi [.scr ns]=some (.bl true)){l:W.OpenLaw}{q:Program}{loose:AK}{XP:(AE)->Heap->Prop}{YP:World->Heap->Prop}{d:DefRec}{K:Params->W.Frag}(hn:l.most=some 63)(hdf:d.params.defaults=[])
 (hY:∀(w:World) (h:Heap),YP w h->(K w.params).In h)
 (F:∀(w:World) (mg:AE) (fa:Addr) (h:Heap),(K w.params).In h->h.Ns mainGlobals mg->mg d.name=some (.ref fa)->
  ∃fd:FuncData,(∀(s:Shared) (u:Value),BindsTo s fd ⟨[u],[]⟩ [("script",u)])/\∀base:Heap,(K w.params).In base->base.Ns mainGlobals mg->FnOk l.prog w (K w.params) mg base CX0 Yne fa fd ["script"] (spOf (K w.params) 1 Yqi)) :
 W.WalkO q loose XP YP l.row.toRowW d [] (λf vs=>PySem.call f vs):=
 L2.walk_of (n:=63) (k:=Yne) (x:="script") (CX:=λ_=>CX0) (sp:=λw=>spOf (K w.params) 1 Yqi) hn (by decide) hdf ⟨rfl,by decide,by decide⟩ hY F
  (λw H a ns hl _ hS=>⟨rfl,[.scr ns],.bl true,H,Same.refl H,.one (by rw[Rp];exact⟨a,rfl,hS⟩),hlaw ns hl,λv H' G' g r=>by rw[Rp]at r;exact r⟩) λ_ _ _ _ _ z=>z
end Lw
namespace Lw
open PySem L2 M Bk
theorem Yry:∀(l acc:AG) (x:Int),x∈ddup acc l↔x∈acc\/x∈l
 | [],acc,x=>by simp[ddup]
 | k::l,acc,x=>by
   rw[ddup,Yry];by_cases h:k∈acc
   ·rw[if_pos h]
    simp;constructor
    ·rintro(h1|h1)
     ·exact .inl h1
     ·exact .inr (.inr h1)
    ·rintro(h1|h1|h1)
     ·exact .inl h1
     ·subst h1;exact .inl h
     ·exact .inr h1
   ·rw[if_neg h]
    simp[or_assoc]
theorem Yls:∀(l acc:AG),acc.Nodup->(ddup acc l).Nodup
 | [],_,h=>h
 | k::l,acc,h=>by
   rw[ddup];refine Yls l _ ?_;by_cases hk:k∈acc
   ·rw[if_pos hk];exact h
   ·rw[if_neg hk,List.nodup_append]
    refine⟨h,by simp,λx hx y hy z=>?_⟩;simp at hy;subst hy;exact hk (z ▸ hx)
theorem Yyl{n:Nat}(hn:n<64)(l:AF)(h:∀x∈l,x<n)(hl:l.length<4000):∃l':AF,l'.Pairwise (·<·)/\(∀x,x∈l'↔x∈l)/\Yur (l.map nD)=some (l'.map nD):=by
 have e1:l.map nD=(l.map Int.ofNat).map D.int:=by simp[nD,wu]
 generalize hd:ddup [] (l.map Int.ofNat)=d
 have hnd:d.Nodup:=by rw[<-hd];exact Yls _ _ .nil
 have hmem:∀x,x∈d↔∃y∈l,(y:Int)=x:=λx=>by rw[<-hd,Yry];simp
 have hp:=Ycw d;have hs:=Ycc d
 obtain⟨l',e2⟩:∃l':AF,Yhr d=l'.map Int.ofNat:=by
  refine⟨(Yhr d).map Int.toNat,?_⟩;rw[List.map_map];refine(List.map_id _).symm.trans (List.map_congr_left λx hx=>?_);obtain⟨y,_,rfl⟩:=(hmem x).mp (hp.mem_iff.mp hx);simp[wu]
 have hm2:∀x,x∈l'↔x∈l:=λx=>by
  have h1:x∈l'↔(x:Int)∈Yhr d:=by
   rw[e2];constructor
   ·exact λh=>List.mem_map_of_mem (f:=Int.ofNat) h
   ·intro h
    obtain⟨y,hy,hyx⟩:=qw h
    have:y=x:=by simpa using hyx
    exact this ▸ hy
  rw[h1,hp.mem_iff,hmem];constructor
  ·rintro⟨y,hy,hyx⟩
   have:y=x:=by omega
   exact this ▸ hy
  ·exact λh=>⟨x,h,rfl⟩
 have hpw:l'.Pairwise (·<·):=by
  rw[e2]at hp hs
  have hn':l'.Nodup:=by
   have:=hp.nodup_iff.mpr hnd;rw[List.nodup_iff_pairwise_ne,List.pairwise_map]at this;exact this.imp λh z=>h (by rw[z])
  have hs':l'.Pairwise (·<=·):=(List.pairwise_map.mp hs).imp λh=>by simpa using h
  exact(hs'.and hn').imp λh=>Nat.lt_of_le_of_ne h.1 h.2
 have hlen:d.length<=n:=by
  rw[<-hp.length_eq,e2,qe];exact y5j hpw λx hx=>h x ((hm2 x).mp hx)
 refine⟨l',hpw,hm2,?_⟩;unfold Yur;rw[e1,Yvd];dsimp only;rw[if_pos ⟨by rw[qe];exact hl,by rw[hd];omega⟩,hd,e2];simp[nD,wu]
theorem y5r(ns:AG)(k:Nat):Yar [.scr ns,.int k]=some (.int (ns.getD k 0)):=by
 rw[Yar,Yaq (by rfl)];by_cases h:k<ns.length
 ·have e:atI (ns.map D.int) (k:Int)=some (.int ns[k]):=by
   rw[Ybw,Ya5 h];rfl
  simp[Yhz,Yw,h,e]
 ·simp[Yhz,Yw,h]
theorem Yhi(ns:AG)(k:Nat)(i:Int)(hi:i=(k:Int)):Yar [.scr ns,.int i]=some (.int (ns.getD k 0)):=by
 subst hi;exact y5r ns k
theorem Yv2(ns:AG)(a b:Nat):cutD (ns.map D.int) (some (a:Int)) (some (b:Int))=((ns.drop (min a ns.length)).take (min b ns.length-min a ns.length)).map D.int:=by
 unfold cutD;rw[HT.sIx_nat,HT.sIx_nat];simp
theorem Yqj(c m:Int):∃v:Int,0<=v/\Yb6 [.int c,.int m]=some (.int v):=by
 refine⟨c%2305843009213693951*m%2305843009213693951,Int.emod_nonneg _ (by decide),?_⟩;rw[Yb6,Yaq (by rfl)];have h1:0<=c%2305843009213693951:=Int.emod_nonneg _ (by decide);have h2:c%2305843009213693951<2305843009213693951:=Int.emod_lt_of_pos _ (by decide);have h3:mulI (.int (c%2305843009213693951)) (.int m)=some (.int (c%2305843009213693951*m)):=Yxx ⟨by omega,by omega⟩;simp[Yj1,Yw,h3]
theorem Yzt(c:Int)(n:Nat)(hn:n<=1000):∃ev:AH,ev.length=n/\Ycx [.int c,.int n]=some (.lst (ev.map D.bl)):=by
 obtain⟨v,_,hv⟩:=Yqj c 1442695040888963407
 obtain⟨ρ',e1,bs,left,y,hl,rfl⟩:=Ycr (gt:=gSet 4) (fb:=Yek) (λi:Nat=>D.int (0+(i:Nat))) (λpre ρ=>∃(bs:AH) (left:Int) (y:AR),bs.length=pre.length/\
  ρ=[↑(.int c),↑(.int n),↑(.int left),some (.ow (bs.map D.bl)),y]) (List.range n) []
  [↑(.int c),↑(.int n),↑(.int v),some (.ow []),none] ⟨[],v,none,rfl,rfl⟩ (by
   rintro q a r ρ e ⟨bs,left,y,hl,rfl⟩
   have hq:q.length<n:=by have:=congrArg List.length e;simp at this;omega
   have hcap:bs.length<1000000:=by omega
   refine⟨_,_,rfl,by simp[Yek,appD,hcap];rfl,bs++[decide (left%2=1)],left/2,↑(.int (0+(a:Int))),by simp[hl],by simp⟩)
 refine⟨bs,by simpa using hl,?_⟩;rw[Ycx,Yaq (by rfl)];have hr:=Yjj (n:=(n:Int)) (by omega) (by omega);rw[Yf8]at hr;simp[Yln,Yw,hv,hr]at e1 ⊢;rw[e1];simp
theorem y5s(a b:Bool):Yfm [.bl a,.bl b]=some (.bl (a==b)):=by
 rw[Yfm,Yaq (by rfl)];simp[Ylo,Yw,isiD,Ygr,Yxd]
section
variable {c:D}{ev:AH} (hc:Yp c=some (ev.map D.bl))
include hc
theorem Yky{l:AY}(hl:∀s∈l,s.1<ev.length):Yb8 [rlD (.ei l),c]=some (.bl (l.any λs=>at' ev s.1==s.2)):=by
 have h:=Yp5 (fe:=Yb3) (r:=[↑c]) (enc:=sayD) (λs=>.bl (at' ev s.1==s.2)) (l:=l) (λs hs=>by
  simp[Yb3,hc,Yss (hl s hs)])
 rw[Yb8,Yaq (by rfl)];simp[Yfu,Yw,capR,h,wu]
theorem Yqk{b:AF}{o:Bool}(hl:∀x∈b,x<ev.length):Yeg [rlD (.su b o),c]=some (.bl (decide ((b.filter (at' ev)).length%2=1)==o)):=by
 have h:=Yrh (fc:=Ydr) (fe:=Yds) (r:=[↑c]) (enc:=nD) (at' ev) nD (l:=b) (λs hs=>by
  simp[Ydr,hc,nD,Yss (hl s hs)]) (λs _ _=>by simp[Yds])
 have e:∀n:Nat,decide (((n:Nat):Int)%2=1)=decide (n%2=1):=λn=>by
  by_cases z:n%2=1
  ·have:((n:Nat):Int)%2=1:=by omega
   simp[z,this]
  ·have:¬((n:Nat):Int)%2=1:=by omega
   simp[z,this]
 rw[Yeg,Yaq (by rfl)];simp[Yjn,Yw,capR,h,e]
theorem Ylt{b:AF}{h:AM}{w:Bool}(hl:∀x∈b,x<ev.length)(hh:∀x,h=some x->x<ev.length):Yfk [rlD (.im b h),c,.bl w]=some (.bl ((b.any λx=>at' ev x != w)||hd ev w h)):=by
 have h1:=Yp5 (fe:=Yeh) (r:=[↑c,↑(.bl w)]) (enc:=nD) (λx=>.bl (at' ev x != w)) (l:=b) (λs hs=>by
  simp[Yeh,hc,nD,Yss (hl s hs),bne])
 rw[Yfk,Yaq (by rfl)]
 cases hb:(b.any λx=>at' ev x != w)with
 | true=>simp[Yfj,Yw,capR,h1,wu,hb]
 | false=>
   cases h with
   | none=>simp[Yfj,Yw,capR,h1,wu,hb,optD,hd]
   | some x=>simp[Yfj,Yw,capR,h1,wu,hb,optD,hd,hc,Yss (hh x rfl)]
theorem Yo6{k:Kd}{r:Rl}(hr:In k ev.length r):Ydd [kdD k,rlD r,c]=some (.bl (so k ev r)):=by
 rw[Ydd,Yaq (by rfl)]
 cases r with
 | ei l=>
   obtain⟨rfl,hl⟩:=hr;simp[Ycd,Yw,Yky hc hl,so]
 | su b o=>
   obtain⟨rfl,hl⟩:=hr;simp[Ycd,Yw,Yqk hc hl,so]
 | im b h=>
   obtain⟨hk,hl,hh⟩:=hr;rcases hk with rfl|rfl
   ·simp[Ycd,Yw,Ylt hc hl hh,so]
   ·simp[Ycd,Yw,Ylt hc hl hh,so]
end
section
variable {c:D}{ev:AH} (hc:Yp c=some (ev.map D.bl))
include hc
theorem Ykz{k:Kd}{R:List Rl}(hR:∀r∈R,In k ev.length r):Yb9 [Yn k R,c]=some (.lst ((brk k ev R).map nD)):=by
 have h:=y5h (fc:=Yb4) (fe:=Yb5) (r:=[↑(Yn k R),↑c]) (e1:=λi:Nat=>.int i) (e2:=λi=>rlD (nth R i)) (λi=>!so k ev (nth R i)) nD (l:=List.range R.length) (λi hi=>by
  have hi':=qz hi;have hr:=Yo6 hc (hR (nth R i) (y16 hi'))
  simp[Yb4,hr]) (λi _ _=>by simp[Yb5,nD])
 rw[Yb9,Yaq (by rfl)];simp[Yfv,Yw,capR,y17,h,brk]
end
section
variable {c:D}{ev:AH} (hc:Yp c=some (ev.map D.bl))
include hc
theorem y2j{k:Kd}{R:List Rl}(hR:∀r∈R,In k ev.length r):Ymt [Yn k R,c]=some (.bl (decide (brk k ev R=[]))):=by
 rw[Ymt,Yaq (by rfl)]
 have e:decide (((brk k ev R).length:Int)=0)=decide (brk k ev R=[]):=by
  cases brk k ev R with
  | nil=>rfl
  | cons a l=>simp;omega
 simp[Yvv,Yw,Ykz hc hR,e]
end
theorem Yo7{k:Kd}{n:Nat}{r:Rl}(hr:In k n r)(hs:sz r<=999999):Yde [kdD k,rlD r]=some (.lst ((bcs r).map nD)):=by
 rw[Yde,Yaq (by rfl)]
 cases r with
 | ei l=>
   obtain⟨rfl,_⟩:=hr;have h:=Yp5 (fe:=Yc0) (r:=[]) (enc:=sayD) (λs=>nD s.1) (l:=l) (λs _=>by simp[Yc0]);simp[Yce,Yw,capR,h,bcs,wu]
 | su b o=>
   obtain⟨rfl,_⟩:=hr;simp[Yce,Yw,bcs]
 | im b h=>
   obtain⟨hk,_⟩:=hr
   have hke:¬k=.e:=by rcases hk with rfl|rfl<;>decide
   have hks:¬k=.s:=by rcases hk with rfl|rfl<;>decide
   have hs':b.length+1<=1000000:=by simp[sz]at hs;omega
   cases h with
   | none=>simp[Yce,Yw,bcs,hke,hks,optD]
   | some x=>simp[Yce,Yw,bcs,hke,hks,optD,catD,hs']
theorem y2k(r:Rl):(bcs r).length<=sz r+1:=by
 cases r with
 | ei l=>simp[bcs,sz]
 | su l o=>simp[bcs,sz]
 | im l h=>cases h<;>simp[bcs,sz]
theorem Yo8{k:Kd}{n m:Nat}(hn:n<64){R:List Rl}(hR:∀r∈R,In k n r/\sz r+1<=m)(hm:R.length*m<4000):∃l:AF,l.Pairwise (·<·)/\(∀x,x∈l↔∃r∈R,x∈bcs r)/\Ydf [Yn k R]=some (.lst (l.map nD)):=by
 obtain⟨ρ',e1,f,y,hf,hfl,rfl⟩:=Ycr (gt:=gSet 2) (fb:=Yc1) rlD (λpre ρ=>∃(f:AF) (y:AR),f=pre.flatMap bcs/\f.length<=pre.length*m/\
  ρ=[↑(Yn k R),some (.ow (f.map nD)),y]) R [] [↑(Yn k R),some (.ow []),none] ⟨[],none,rfl,by simp,rfl⟩ (by
  rintro q a r ρ e ⟨f,y,hf,hfl,rfl⟩
  have ha:a∈R:=by rw[List.nil_append]at e;rw[e];simp
  obtain⟨h1,h2⟩:=hR a ha
  have hq:q.length<R.length:=by rw[List.nil_append]at e;rw[e];simp
  have hpos:q.length*m+m<=R.length*m:=by
   have:=Nat.mul_le_mul_right m (show q.length+1<=R.length from hq);rw[Nat.add_mul,Nat.one_mul]at this;exact this
  have hb:=Yo7 h1 (by omega);have hbl:=y2k a
  have hcap:f.length+(bcs a).length<=1000000:=by omega
  refine⟨_,_,rfl,?_,f++bcs a,↑(rlD a),by rw[hf];simp,?_,rfl⟩
  ·simp[Yc1,hb,extD,hcap]
  ·rw[qx,qx,Nat.add_mul]
   simp
   omega)
 rw[List.nil_append]at hf hfl
 obtain⟨l,h1,h2,h3⟩:=Yyl hn f (λx hx=>by
  rw[hf]at hx;obtain⟨r,hr,hx⟩:=List.mem_flatMap.mp hx
  exact Yzo (hR r hr).1 x hx) (by omega)
 refine⟨l,h1,λx=>?_,?_⟩
 ·rw[h2,hf,List.mem_flatMap]
 ·rw[Ydf,Yaq (by rfl)]
  simp[Yh7,Yw,e1,h3]
abbrev fl(n:Nat)(P:AJ):AF:=(List.range n).filter P
def hdD(b:Bool):D:=.str (if b=true then Str.ofString "keeper" else Str.ofString "storm")
theorem Yv3(a:String)(neg:Bool):eqM neg (.str (Str.ofString a)) (.str (Str.ofString a))=some (!neg):=by
 rw[Yji (by simp) (by simp),Yvb];cases neg<;>simp
theorem Yql(c:Int)(n:Nat)(hn:n<=1000):∃hs:AH,hs.length=n/\Yel [.int c,.int n]=some (.lst (hs.map hdD)):=by
 obtain⟨ev,hl,he⟩:=Yzt c n hn
 have hc:=Yp5 (fe:=Ydt) (r:=[]) (enc:=D.bl) hdD (l:=ev) (λb _=>by
  cases b<;>simp[Ydt,hdD])
 refine⟨ev,hl,?_⟩;rw[Yel,Yaq (by rfl)];generalize ev.map hdD=HH at *;simp[Yj3,Yw,he,capR,hc]
theorem Yo9(a b:Bool):eqM false (hdD a) (hdD b)=some (a==b):=by
 rw[Yji (by simp[hdD]) (by simp[hdD])];cases a<;>cases b<;>decide +kernel
def ofH(hs:AH)(st:Nat)(b:Bool):AF:=(List.range hs.length).filter λi=>decide (st<=i)&&(hs.getD i false==b)
theorem Yv4{c:D}(hs:AH)(hc:Yp c=some (hs.map hdD))(hl:hs.length<=1000)(st:Nat)(hst:st<=hs.length)(b:Bool):Yg9 [c,.int st,hdD b]=some (.lst ((ofH hs st b).map nD)):=by
 rw[Yg9,Yaq (by rfl)];have hr:=Yvc (a:=(st:Int)) (n:=(hs.length:Int)) (by omega) (by omega) (by omega) (by omega);rw[Yf8]at hr
 have hcm:=Yrh (fc:=Ye9) (fe:=Yfa) (r:=[↑c,↑(hdD b)]) (enc:=λi:Nat=>D.int ((st:Int)+(i:Nat))) (λi:Nat=>hs.getD (st+i) false==b) (λi:Nat=>nD (st+i)) (l:=List.range ((hs.length:Int)-st).toNat) (λi hi=>by
  have hi':st+i<hs.length:=by simp at hi;omega
  have e0:(st:Int)+(i:Int)=((st+i:Nat):Int):=by omega
  have hat:atI (hs.map hdD) ((st+i:Nat):Int)=some (hdD (hs.getD (st+i) false)):=by
   rw[Ybw,Ya5 hi'];simp[hi']
  rw[e0]
  simp only[Ye9,Yxu,gCs,gC0,qc,y11,hc,hat,Yo9]) (λi _ _=>by simp[Yfa,nD])
 have he:(((List.range ((hs.length:Int)-st).toNat).filter λi:Nat=>hs.getD (st+i) false==b).map λi:Nat=>nD (st+i))=(ofH hs st b).map nD:=by
  unfold ofH
  have h1:List.range hs.length=List.range st++(List.range (hs.length-st)).map (st+·):=by
   rw[<-List.range_add]
   congr 1
   omega
  rw[h1,List.filter_append,List.filter_map]
  have h2:(List.range st).filter (λi=>decide (st<=i)&&(hs.getD i false==b))=[]:=by
   rw[List.filter_eq_nil_iff];intro x hx;have:=qz hx;simp;omega
  have h3:((hs.length:Int)-st).toNat=hs.length-st:=by omega
  rw[h2,h3,List.nil_append,List.map_map];simp[wu]
 have h3:((hs.length:Int)-st).toNat=hs.length-st:=by omega
 rw[he,h3]at hcm;rw[h3]at hr;simp[Yoz,Yw,hc,hr,capR,hcm]
def tabH:AG:=(List.range 120).map λi=>pH (((i/2:Nat):Int),decide (i%2=1))
def Ynf:AG->Bool
 | []=>true
 | a::l=>!(l.contains a)&&Ynf l
set_option maxRecDepth 100000 in
theorem y5t:Ynf tabH=true:=by decide +kernel
theorem Yhj:∀{l:AG},Ynf l=true->l.Nodup
 | [],_=>.nil
 | a::l,h=>by
   rw[Ynf,Qf]at h;refine List.nodup_cons.mpr ⟨λhm=>?_,Yhj h.2⟩
   have:l.contains a=true:=by simpa using hm
   rw[this]at h;exact Bool.noConfusion h.1
def sIdx(s:Say):Nat:=2*s.1+if s.2 then 1 else 0
theorem Yzu(s:Say)(h:s.1<60):tabH[sIdx s]?=some (pH ((s.1:Int),s.2)):=by
 obtain⟨b,l⟩:=s
 have hi:sIdx (b,l)<120:=by cases l<;>simp[sIdx]at *<;>omega
 unfold tabH;rw[Qe,List.getElem?_range hi,Option.map_some];cases l
 ·have e1:sIdx (b,false)/2=b:=by simp[sIdx]
  have e2:sIdx (b,false)%2=0:=by simp[sIdx]
  dsimp only;rw[e1,e2];rfl
 ·have e1:sIdx (b,true)/2=b:=by simp only[sIdx,if_true];omega
  have e2:sIdx (b,true)%2=1:=by simp only[sIdx,if_true];omega
  dsimp only;rw[e1,e2];rfl
theorem y5u{T:AG}(hn:T.Nodup){i j:Nat}{x:Int}(h1:T[i]?=some x)(h2:T[j]?=some x):i=j:=by
 obtain⟨hi,a1⟩:=qm h1;obtain⟨hj,a2⟩:=qm h2;exact(List.getElem_inj hn).mp (a1.trans a2.symm)
theorem Ysx{s t:Say}(h:sIdx s=sIdx t):s=t:=by
 obtain⟨b,l⟩:=s;obtain⟨c,m⟩:=t;cases l<;>cases m<;>simp[sIdx]at h ⊢<;>omega
theorem y7j{s t:Say}(hs:s.1<60)(ht:t.1<60)(hst:s≠t):pH ((s.1:Int),s.2)≠pH ((t.1:Int),t.2):=λe=>by
 have h1:=Yzu s hs;have h2:=Yzu t ht;rw[<-e]at h2;exact hst (Ysx (y5u (Yhj y5t) h1 h2))
abbrev Prw:=Nat×Option Nat×Bool
def prwD(r:Prw):D:=.tup [.int r.1,optD r.2.1,.bl r.2.2]
@[simp] theorem Yv5(r:Prw):Yp (prwD r)=some [.int r.1,optD r.2.1,.bl r.2.2]:=nr rfl
theorem y5v(a b c:D):atI [a,b,c] 1=some b:=rfl
theorem y5w(a b c:D):atI [a,b,c] 2=some c:=rfl
abbrev End:=Option Nat×Bool
theorem Yhk(neg:Bool)(b:AM):isN neg (optD b) .non=some (if neg then !decide (b=none)else decide (b=none)):=by
 cases b<;>cases neg<;>rfl
def Ybc(rows:List Prw)(s:Say):End:=
 match rows.find? (λr=>r.1==s.1)with
 | none=>(some s.1,s.2)
 | some r=>(r.2.1,s.2==r.2.2)
def flE(e:End):End:=(e.1,!e.2)
def Ypa(es:List End):Bool:=es.any λe=>decide (e=(none,true))||decide (flE e∈es)
abbrev Srw:=Nat×List Nat×Bool
theorem mem_ofH{hs:AH}{st:Nat}{b:Bool}{x:Nat}:x∈ofH hs st b↔x<hs.length/\st<=x/\hs.getD x false=b:=by
 unfold ofH;rw[List.mem_filter,List.mem_range];simp
theorem Yv6{α:Type}(key:α->Nat):∀{rows:List α},(rows.map key).Nodup->∀{r s:α},r∈rows->s∈rows->key r=key s->r=s
 | [],_,_,_,h,_,_=>nomatch h
 | a::rows,hn,r,s,hr,hs,e=>by
   rw[q0,List.nodup_cons]at hn;rcases qr hr with h1|h1
   ·rcases qr hs with h2|h2
    ·rw[h1,h2]
    ·refine absurd ?_ hn.1
     rw[<-h1,e];exact List.mem_map_of_mem h2
   ·rcases qr hs with h2|h2
    ·refine absurd ?_ hn.1
     rw[<-h2,<-e];exact List.mem_map_of_mem h1
    ·exact Yv6 key hn.2 h1 h2 e
theorem Yym{α:Type}(key:α->Nat){rows:List α}{x:Nat}(hx:x∉rows.map key):rows.find? (λa=>key a==x)=none:=by
 rw[List.find?_eq_none];intro a ha;simp;exact λz=>hx (List.mem_map.mpr ⟨a,ha,z⟩)
theorem Yyn{α:Type}(enc:α->D)(key:α->Nat)(h0:∀a,∃l,Yp (enc a)=some (.int (key a)::l)){rows:List α}(hn:(rows.map key).Nodup){r:α}(hr:r∈rows) :
 Yin [.tup (rows.map enc),.int (key r)]=some (enc r):=by
 have hc:=Yrh (fc:=Ygb) (fe:=Ygc) (r:=[↑(.int (key r:Int))]) (enc:=enc) (λa=>decide (key a=key r)) enc (l:=rows) (λa _=>by
  obtain⟨l,hl⟩:=h0 a
  have ha:atI (.int (key a)::l) 0=some (.int (key a)):=by
   have h:=Ya5 (l:=D.int (key a)::l) (i:=0) (by simp);simpa using h
  generalize enc a=ea at *
  simp[Ygb,hl,ha]) (λa _ _=>by simp[Ygc])
 obtain⟨t,ht⟩:∃t,rows.filter (λa=>decide (key a=key r))=r::t:=by
  have hm:r∈rows.filter (λa=>decide (key a=key r)):=List.mem_filter.mpr ⟨hr,by simp⟩
  cases e:rows.filter (λa=>decide (key a=key r))with
  | nil=>rw[e]at hm;cases hm
  | cons a t=>
    have ha:a∈rows.filter (λa=>decide (key a=key r)):=by rw[e];exact qg
    obtain⟨h1,h2⟩:=List.mem_filter.mp ha
    have h3:key a=key r:=by simpa using h2
    rw[Yv6 key hn h1 hr h3];exact⟨t,rfl⟩
 rw[ht]at hc
 have hat:atI ((r::t).map enc) 0=some (enc r):=by
  have h:=Ya5 (l:=(r::t).map enc) (i:=0) (by simp);simpa using h
 rw[Yin,Yaq (by rfl)];generalize (r::t).map enc=RT,rows.map enc=RR,enc r=er at *;simp[Yrn,Yw,capR,hc,hat]
theorem prw0(r:Prw):∃l,Yp (prwD r)=some (.int (r.1:Nat)::l):=⟨_,rfl⟩
def dueP(r:Prw)(ev:AH):Bool:=match r.2.1 with
 | none=>r.2.2
 | some x=>at' ev x==r.2.2
theorem Yqm{rows:List Prw}(hn:(rows.map (·.1)).Nodup){r:Prw}(hr:r∈rows){ev:AH}(hk:r.1=ev.length)(hx:∀x,r.2.1=some x->x<ev.length) :
 Yei [.tup (rows.map prwD),.tup (ev.map D.bl)]=some (.bl (dueP r ev)):=by
 have ho:=Yyn prwD (λr:Prw=>r.1) prw0 hn hr;have hi:=Yv5 r
 have hlen:((ev.map D.bl).length:Int)=(r.1:Int):=by simp[hk]
 rw[Yei,Yaq (by rfl)];unfold dueP
 cases h:r.2.1 with
 | none=>
   rw[h]at hi;have i1:=Yhk false none;generalize prwD r=rr,rows.map prwD=RR,ev.map D.bl=EE at *;simp[Ygd,Yw,hlen,ho,hi,y5v,y5w,i1]
 | some x=>
   rw[h]at hi;have i1:=Yhk false (some x);have i3:optD (some x)=.int x:=rfl;rw[i3]at hi i1;have ha:=Yss (hx x h);generalize prwD r=rr,rows.map prwD=RR,ev.map D.bl=EE at *;simp[Ygd,Yw,hlen,ho,hi,y5v,y5w,i1,ha]
def ppD(w:String)(l:AQ):D:=.tup [.str (Str.ofString w),.tup l]
theorem y7k{k:Kd}:eqM false (kdD k) (.str "ifs")=some (decide (k=.i)):=by
 have h:D.str "ifs"=kdD .i:=rfl;rw[h,Yji (by simp) (by simp),Yzn];rfl
theorem Yqn{rows:List Prw}(hn:(rows.map (·.1)).Nodup){r:Prw}(hr:r∈rows){ev:AH}(hk:r.1=ev.length)(hx:∀x,r.2.1=some x->x<ev.length)(k:Kd)(R:List Rl)(c s:D) :
 Yro [ppD "plan" (rows.map prwD),Yn k R,c,s,.tup (ev.map D.bl)]=some (.bl (dueP r ev)):=by
 have h:=Yqm hn hr hk hx;have hpi:Yp (ppD "plan" (rows.map prwD))=some [.str "plan",.tup (rows.map prwD)]:=rfl;have hbi:Yp (Yn k R)=some [kdD k,.tup (R.map rlD)]:=rfl;have hk:=y7k (k:=k);have e3:=Yv3 "plan" false;simp only[Bool.not_false]at e3;rw[Yro,Yaq (by rfl)];generalize ppD "plan" (rows.map prwD)=pp,Yn k R=bk,decide (k=.i)=w,kdD k=kd,dueP r ev=du,rows.map prwD=RR,ev.map D.bl=EE,R.map rlD=RL at *;simp[Yzs,Yw,hpi,hbi,hk,e3,h]
theorem Ysy(ns:AG){hs:AH}(hl:hs.length<=1000){st k:Nat}(hst:st<=k)(hk:k<hs.length){rows:List Prw}(hr:rows.length<=1000)(y5 y6:AR) :
 ∃(r:Prw) (z5 z6:AR),r.1=k/\(∀x,r.2.1=some x->x<k/\x∈ofH hs st false)/\Ycu [↑(.scr ns),↑(.lst (hs.map hdD)),↑(.int st),some (.ow (rows.map prwD)),↑(.int k),y5,y6] =
  some (.nx [↑(.scr ns),↑(.lst (hs.map hdD)),↑(.int st),some (.ow ((rows++[r]).map prwD)),↑(.int k),z5,z6]):=by
 have c:=Yhi ns (3+k) (3+(k:Int)) (by omega);generalize ns.getD (3+k) 0=x at c;obtain⟨v,hv0,hv⟩:=Yqj x 2049848353892358983;have hg:=Yvc (a:=(st:Int)) (n:=(k:Int)) (by omega) (by omega) (by omega) (by omega);rw[Yf8]at hg
 have el:((k:Int)-st).toNat=k-st:=by omega
 rw[el]at hg
 have hc:=Yrh (fc:=Yem) (fe:=Yen) (r:=[↑(.lst (hs.map hdD))]) (enc:=λi:Nat=>D.int ((st:Int)+(i:Nat))) (λi:Nat=>hs.getD (st+i) false==false) (λi:Nat=>nD (st+i)) (l:=List.range (k-st)) (λi hi=>by
  have hi':st+i<hs.length:=by have:=qz hi;omega
  have e0:(st:Int)+(i:Int)=((st+i:Nat):Int):=by omega
  have hat:atI (hs.map hdD) ((st+i:Nat):Int)=some (hdD (hs.getD (st+i) false)):=by
   rw[Ybw,Ya5 hi'];simp[hi']
  have hS:hdD false=.str "storm":=rfl;have hq2:eqM false (hdD (hs.getD (st+i) false)) (hdD false)=some (hs.getD (st+i) false==false):=Yo9 _ _;rw[hS]at hq2;rw[e0];generalize hdD (hs.getD (st+i) false)=hb1,(hs.getD (st+i) false==false)=hb2,hs.map hdD=HH,((st+i:Nat):Int)=ii at *
  simp[Yem,hat,hq2]) (λi _ _=>by simp[Yen,nD])
 have hA:∀y∈((List.range (k-st)).filter λi:Nat=>hs.getD (st+i) false==false).map (st+·),y<k/\y∈ofH hs st false:=λy hy=>by
  obtain⟨i,hi,rfl⟩:=qw hy;obtain⟨g1,g2⟩:=List.mem_filter.mp hi;have:=qz g1;exact⟨by omega,mem_ofH.mpr ⟨by omega,by omega,by simpa using g2⟩⟩
 have hmm:(((List.range (k-st)).filter λi:Nat=>hs.getD (st+i) false==false).map λi:Nat=>nD (st+i))=(((List.range (k-st)).filter λi:Nat=>hs.getD (st+i) false==false).map (st+·)).map nD:=by rw[List.map_map];rfl
 rw[hmm]at hc
 have hAl:(((List.range (k-st)).filter λi:Nat=>hs.getD (st+i) false==false).map (st+·)).length<=1000:=by
  rw[qe];exact Nat.le_trans (List.length_filter_le _ _) (by simp;omega)
 generalize ((List.range (k-st)).filter λi:Nat=>hs.getD (st+i) false==false).map (st+·)=A at *;have hcat:catD (.lst (A.map nD)) (.lst [.non])=some (A.map nD++[.non]):=Yve (by simp;omega)
 have hsrc:A.map nD++[.non]=(A.map some++[none]).map optD:=by rw[wt,List.map_map];rfl
 rw[hsrc]at hcat
 have hpI:(0:Int)<((A.map some++[none]).length:Int):=by simp<;>omega
 obtain⟨o,hom,e⟩:=y14 (l:=A.map some++[none]) (i:=v%((A.map some++[none]).length:Int)) (Int.emod_nonneg _ (by omega)) (Int.emod_lt_of_pos _ hpI)
 have hat:atI ((A.map some++[none]).map optD) (v%((A.map some++[none]).length:Int))=some (optD o):=by rw[Ybw,e];rfl
 have hmod:modI (.int v) (.int ((A.map some++[none]).length:Int))=some (.int (v%((A.map some++[none]).length:Int))):=Ygx hpI
 have hlen:(((A.map some++[none]).map optD).length:Int)=((A.map some++[none]).length:Int):=by rw[qe]
 refine⟨(k,o,decide (v/61%2=1)),↑(.int v),some (.ow ((A.map some++[none]).map optD)),rfl,λy hy=>?_,?_⟩
 ·have hy':o=some y:=hy
  subst hy';rcases qu hom with h|h
  ·obtain⟨z,hz,e⟩:=qw h
   cases e;exact hA _ hz
  ·simp at h
 have happ:∀d:D,appD (rows.map prwD) d=some (rows.map prwD++[d]):=λd=>Yml (by rw[qe];omega)
 have hap:(rows++[((k,o,decide (v/61%2=1)):Prw)]).map prwD=rows.map prwD++[.tup [.int k,optD o,.bl (decide (v/61%2=1))]]:=by rw[wt];rfl
 rw[hap];generalize ((A.map some++[none]).length:Int)=ll,(A.map some++[none]).map optD=OO,A.map nD=AA,optD o=od,rows.map prwD=RR,hs.map hdD=HH,((List.range (k-st)).map λi:Nat=>D.int ((st:Int)+(i:Nat)))=RG at *;simp[Ycu,c,hv,hg,capR,hc,hcat,hlen,hmod,hat,happ]
theorem Yqo(ns:AG){hs:AH}(hl:hs.length<=60){st:Nat}(hst:st<=hs.length) :
 ∃rows:List Prw,rows.map (·.1)=ofH hs st true/\(∀r∈rows,∀x,r.2.1=some x->x<r.1/\x∈ofH hs st false)/\Yfn [.scr ns,.lst (hs.map hdD),.int st]=some (.tup (rows.map prwD)):=by
 have o1:=Yv4 (c:=.lst (hs.map hdD)) hs rfl (by omega) st hst true;simp only[hdD,if_true]at o1
 have hKn:∀x∈ofH hs st true,st<=x/\x<hs.length:=λx hx=>⟨(mem_ofH.mp hx).2.1,(mem_ofH.mp hx).1⟩
 have hKl:(ofH hs st true).length<=60:=Nat.le_trans (List.length_filter_le _ _) (by simpa using hl);generalize ofH hs st true=K at *
 obtain⟨ρ',e1,rows,y4,y5,y6,hr1,hr2,rfl⟩:=Ycr (gt:=gSet 4) (fb:=Ycu) nD (λpre ρ=>∃(rows:List Prw) (y4 y5 y6:AR),rows.map (·.1)=pre/\(∀r∈rows,∀x,r.2.1=some x->x<r.1/\x∈ofH hs st false)/\
  ρ=[↑(.scr ns),↑(.lst (hs.map hdD)),↑(.int st),some (.ow (rows.map prwD)),y4,y5,y6]) K []
  [↑(.scr ns),↑(.lst (hs.map hdD)),↑(.int st),some (.ow []),none,none,none] ⟨[],_,_,_,rfl,by simp,rfl⟩ (by
   rintro q k r ρ e ⟨rows,y4,y5,y6,hr1,hr2,rfl⟩
   have hk:k∈K:=by rw[List.nil_append]at e;rw[e];simp
   have hq:q.length<=60:=by
    have:=congrArg List.length e;simp at this;omega
   have hrl:rows.length<=60:=by rw[<-hr1]at hq;simpa using hq
   obtain⟨r1,z5,z6,w1,w2,hw⟩:=Ysy ns (hs:=hs) (by omega) (hKn k hk).1 (hKn k hk).2 (rows:=rows) (by omega) y5 y6;refine⟨_,_,rfl,hw,rows++[r1],_,_,_,by simp[hr1,w1],λx hx=>?_,rfl⟩;rcases qu hx with hx|hx
   ·exact hr2 x hx
   ·rw[List.mem_singleton]at hx
    subst hx;rw[w1]
    exact w2)
 rw[List.nil_append]at hr1;refine⟨rows,hr1,hr2,?_⟩;rw[Yfn,Yaq (by rfl)];generalize rows.map prwD=RR,K.map nD=KK,hs.map hdD=HH at *;simp[Ylp,Yw,o1,e1]
def cmD(e:End):D:=match e.1 with
 | none=>.bl e.2
 | some x=>sayD (x,e.2)
def y2l(s:Say)(rd:D)(rows:List Prw)(ρ:Ro):Option Prw->Prop
 | none=>∃z2 z3 z4:AR,M.forM (Ygz 2 3 4) Yy (rows.map prwD) ρ=some (.nx [↑rd,↑(sayD s),z2,z3,z4])
 | some r=>M.forM (Ygz 2 3 4) Yy (rows.map prwD) ρ=some (.rt (cmD (r.2.1,s.2==r.2.2)))
theorem Ylu(s:Say)(rd:D):∀(rows:List Prw) (y2 y3 y4:AR),y2l s rd rows [↑rd,↑(sayD s),y2,y3,y4] (rows.find? (λr=>r.1==s.1))
 | [],y2,y3,y4=>⟨y2,y3,y4,rfl⟩
 | r::rows,y2,y3,y4=>by
   have hsi:Yp (sayD s)=some [.int s.1,.bl s.2]:=rfl;have hg:∀ρ:Ro,Ygz 2 3 4 (prwD r) ρ=some (((ρ.set 2 (some (.sh (.int r.1)))).set 3 (some (.sh (optD r.2.1)))).set 4 (some (.sh (.bl r.2.2)))):=λρ=>rfl;rw[List.find?_cons];have i1:=Yhk false r.2.1
   cases hb:(r.1==s.1)with
   | false=>
     have hne:¬r.1=s.1:=by simpa using hb
     have h:=Ylu s rd rows (some (.sh (.int r.1))) (some (.sh (optD r.2.1))) (some (.sh (.bl r.2.2)))
     have hstep:Yy [↑rd,↑(sayD s),↑(.int r.1),↑(optD r.2.1),↑(.bl r.2.2)]=some (.nx [↑rd,↑(sayD s),↑(.int r.1),↑(optD r.2.1),↑(.bl r.2.2)]):=by
      generalize sayD s=ss,optD r.2.1=od at *;simp[Yy,hsi,hne]
     have hfor:M.forM (Ygz 2 3 4) Yy ((r::rows).map prwD) [↑rd,↑(sayD s),y2,y3,y4]=M.forM (Ygz 2 3 4) Yy (rows.map prwD) [↑rd,↑(sayD s),↑(.int r.1),↑(optD r.2.1),↑(.bl r.2.2)]:=by
      rw[q0,M.forM,hg,qc];show(Yy [↑rd,↑(sayD s),↑(.int r.1),↑(optD r.2.1),↑(.bl r.2.2)]).bind _=_;rw[hstep];rfl
     dsimp only
     cases hq:rows.find? (λr=>r.1==s.1)with
     | none=>
       rw[hq]at h;obtain⟨z2,z3,z4,h⟩:=h;exact⟨z2,z3,z4,by rw[hfor];exact h⟩
     | some r'=>
       rw[hq]at h;show M.forM (Ygz 2 3 4) Yy ((r::rows).map prwD) _=_;rw[hfor];exact h
   | true=>
     have he:r.1=s.1:=by simpa using hb
     dsimp only;show M.forM (Ygz 2 3 4) Yy ((r::rows).map prwD) _=_;rw[q0,M.forM,hg,qc];show(Yy [↑rd,↑(sayD s),↑(.int r.1),↑(optD r.2.1),↑(.bl r.2.2)]).bind _=_
     have hstep:Yy [↑rd,↑(sayD s),↑(.int r.1),↑(optD r.2.1),↑(.bl r.2.2)]=some (.rt (cmD (r.2.1,s.2==r.2.2))):=by
      have hcomm:(r.2.2==s.2)=(s.2==r.2.2):=by cases r.2.2<;>cases s.2<;>rfl
      unfold cmD
      cases h:r.2.1 with
      | none=>
        rw[h]at i1;generalize sayD s=ss,optD none=od at *;simp[Yy,hsi,he,i1,hcomm]
      | some x=>
        rw[h]at i1;have i3:optD (some x)=.int x:=rfl;rw[i3]at i1 ⊢;have hxx:sayD (x,s.2==r.2.2)=.tup [.int x,.bl (s.2==r.2.2)]:=rfl;dsimp only;rw[hxx];generalize sayD s=ss at *;simp[Yy,hsi,he,i1,hcomm]
     rw[hstep];rfl
theorem Ykb(rows:List Prw)(s:Say):Yc3 [.tup (rows.map prwD),sayD s]=some (cmD (Ybc rows s)):=by
 have h:=Ylu s (.tup (rows.map prwD)) rows none none none;rw[Yc3,Yaq (by rfl)];have hst:Yw 5 [.tup (rows.map prwD),sayD s]=[↑(.tup (rows.map prwD)),↑(sayD s),none,none,none]:=rfl;rw[hst];unfold Ybc
 cases hq:rows.find? (λr=>r.1==s.1)with
 | none=>
   rw[hq]at h;obtain⟨z2,z3,z4,h⟩:=h;have hc:cmD (some s.1,s.2)=sayD s:=rfl;dsimp only;rw[hc];generalize rows.map prwD=RR,sayD s=ss at *;simp[Yge,h]
 | some r=>
   rw[hq]at h;dsimp only;replace h:M.forM (Ygz 2 3 4) Yy (rows.map prwD) [↑(.tup (rows.map prwD)),↑(sayD s),none,none,none]=some (.rt (cmD (r.2.1,s.2==r.2.2))):=h;generalize cmD (r.2.1,s.2==r.2.2)=cc,rows.map prwD=RR,sayD s=ss at *;simp[Yge,h]
theorem Yqp(k:Bool)(e:End):isBl k (cmD e)=decide (e=(none,k)):=by
 obtain⟨o,b⟩:=e
 cases o with
 | none=>
   show(b==k)=_;cases b<;>cases k<;>rfl
 | some x=>
   show false=_;simp
theorem y2m{rows:List Prw}{l:AY}{a b:Say}(h:∀x,x∈l↔x=a\/x=b)(hk:Ybc rows a=(none,true)\/Ybc rows b=(none,true)\/flE (Ybc rows a)=Ybc rows b):Ypa (l.map (Ybc rows))=true:=by
 have ha:Ybc rows a∈l.map (Ybc rows):=List.mem_map_of_mem ((h a).mpr (.inl rfl));have hb:Ybc rows b∈l.map (Ybc rows):=List.mem_map_of_mem ((h b).mpr (.inr rfl));unfold Ypa;rw[List.any_eq_true];rcases hk with z|z|z
 ·exact⟨_,ha,by simp[z]⟩
 ·exact⟨_,hb,by simp[z]⟩
 ·refine⟨_,ha,?_⟩
  rw[Bool.or_eq_true];exact .inr (wn (by rw[z];exact hb))
def od(l:AF)(E:AJ):Bool:=decide ((l.filter E).length%2=1)
def xr(T E:AJ):Bool:=od (List.range 60) (λx=>T x&&E x)
inductive Lin (rows:List Srw):(AJ)->Bool->Prop
 | zero:Lin rows (λ_=>false) false
 | add {f:AJ}{o:Bool} (h:Lin rows f o) {r:Srw} (hr:r∈rows):Lin rows (λx=>f x != decide (x∈r.1::r.2.1)) (o != r.2.2)
structure SumRows(rows:List Srw):Prop where
 nd:(rows.map (·.1)).Nodup
 pw:∀r∈rows,r.2.1.Pairwise (·<·)
 lt:∀r∈rows,∀y∈r.2.1,y<r.1
 out:∀r∈rows,∀y∈r.2.1,y∉rows.map (·.1)
 bd:∀r∈rows,r.1<60
def hnD(b:Bool):D:=.str (Str.ofString (if b then "keeper" else "storm"))
abbrev wtD(k:Kd)(R:List Rl)(H ev:AH):D:=watD (Yn k R) (.tup (H.map hnD)) (.lst (ev.map D.bl))
@[simp] theorem fld_b(b h x:D):fldD "Watch" "book" (watD b h x)=some b:=nr rfl
@[simp] theorem fld_h(b h x:D):fldD "Watch" "hands" (watD b h x)=some h:=nr rfl
@[simp] theorem fld_t(b h x:D):fldD "Watch" "truths" (watD b h x)=some x:=nr rfl
theorem Yyo(m:Str)(hm:m∉wks)(fn:AQ->Option D)(b h x:D):mthD "Watch" m fn (watD b h x)=fn [watD b h x]:=if_pos ⟨rfl,hm⟩
def Ysz(H ev:AH):D:=match H[ev.length]? with
 | some b=>hnD b
 | none=>.non
theorem Ykc{H ev:AH}(h:ev.length<H.length):Ysz H ev=hnD (H[ev.length]):=by
 unfold Ysz;rw[qp h]
theorem Yqq{H ev:AH}(h:¬ev.length<H.length):Ysz H ev=.non:=by
 unfold Ysz;rw[List.getElem?_eq_none (by omega)]
theorem Yrz{k:Kd}{R:List Rl}{H ev:AH}(h:ev.length<=H.length):Yab [wtD k R H ev]=some (Ysz H ev):=by
 rw[Yab,Yaq (by rfl)];have hst:Yw 1 [wtD k R H ev]=[↑(wtD k R H ev)]:=rfl;rw[hst];by_cases hl:ev.length=H.length
 ·rw[Yqq (by omega)]
  simp[Ye5,hl]
 ·have hlt:ev.length<H.length:=by omega
  rw[Ykc hlt]
  have hi:¬((ev.length:Int)=(H.length:Int)):=by omega
  have hat:atI (H.map hnD) (ev.length:Int)=some (hnD (H[ev.length])):=by
   rw[Ybw,Ya5 hlt];rfl
  simp[Ye5,hi,hl,hat]
theorem Ypb(k:Kd)(R:List Rl)(H ev:AH):Yad [wtD k R H ev]=some (.tup (ev.map D.bl)):=by
 rw[Yad,Yaq (by rfl)];have hst:Yw 1 [wtD k R H ev]=[↑(wtD k R H ev)]:=rfl;rw[hst];simp[Ye6]
def OkR(k:Kd)(n:Nat)(r:Rl):Prop:=In k n r/\Srt r
def wonO(k:Kd)(R:List Rl)(H ev:AH):D:=if ev.length<H.length then .non else .str (Str.ofString (if brk k ev R=[]then "keeper" else "storm"))
theorem Yzv(k:Kd)(R:List Rl)(H ev:AH):Yxk (wonO k R H ev)=true:=by
 unfold wonO
 split<;>rfl
theorem Yng{k:Kd}{R:List Rl}{H ev:AH}(h:ev.length<=H.length)(hR:∀r∈R,OkR k H.length r/\sz r<=9999):Yae [wtD k R H ev]=some (wonO k R H ev):=by
 rw[Yae,Yaq (by rfl)];have hst:Yw 1 [wtD k R H ev]=[↑(wtD k R H ev)]:=rfl;rw[hst];have ht:=Yrz (k:=k) (R:=R) h;have hm:=Yyo "turn" (by decide) Yab (Yn k R) (.tup (H.map hnD)) (.lst (ev.map D.bl));rw[ht]at hm;by_cases hl:ev.length<H.length
 ·rw[Ykc hl]at hm
  have hn:isN true (hnD H[ev.length]) .non=some true:=rfl;simp[Yca,hm,hn,wonO,hl]
 ·rw[Yqq hl]at hm
  have he:=y2j (c:=.lst (ev.map D.bl)) (ev:=ev) rfl (k:=k) (R:=R) (λr hr=>by rw[show ev.length=H.length by omega];exact(hR r hr).1.1);by_cases hb:brk k ev R=[]
  ·simp[Yca,hm,he,wonO,hl,hb]
  ·simp[Yca,hm,he,wonO,hl,hb]
theorem Yv7(b:Bool):Yjy [hnD b]=some (.bl true):=by
 cases b<;>rfl
theorem Yyp{k:Kd}{m:Nat}{R:List Rl}{H:AH}(hH:H.length<=60)(hl:R.length*m<4000)(hR:∀r∈R,OkR k H.length r/\sz r+1<=m){h:D}(hh:h=.lst (H.map hnD)\/h=.tup (H.map hnD)):Yal [Yn k R,h]=some .non:=by
 rw[Yal,Yaq (by rfl)];have hst:Yw 2 [Yn k R,h]=[↑(Yn k R),↑h]:=rfl;rw[hst];obtain⟨l,_,hm,hb⟩:=Yo8 (k:=k) (n:=H.length) (m:=m) (R:=R) (by omega) (λr hr=>⟨(hR r hr).1.1,(hR r hr).2⟩) hl
 have c0:=Yp5 (fe:=Ycl) (r:=[]) (enc:=hnD) (λ_=>D.bl true) (l:=H) (λb _=>by
  have:=Yv7 b
  simp[Ycl,this])
 have hi:Yp h=some (H.map hnD):=by rcases hh with rfl|rfl<;>rfl
 have hlen:lenC [h]=some (.int (H.length:Int)):=by rcases hh with rfl|rfl<;>simp
 have c1:=Yp5 (fe:=Ycm) (r:=[↑h]) (enc:=nD) (λ_=>D.bl false) (l:=l) (λb hb=>by
  have:b<H.length:=by
   obtain⟨r,hr,hx⟩:=(hm b).mp hb;exact Yzo (hR r hr).1.1 b hx
  simp[Ycm,hlen,nD]
  omega)
 have g1:¬((60:Int)<(H.length:Int)):=by omega
 have b0:=Ymk (λ_:Bool=>true) H;have b1:=Ymk (λ_:Nat=>false) l;rcases hh with rfl|rfl
 ·simp[Yej,hlen,g1,capR,c0,c1,hb,hi,b0,b1]
 ·simp[Yej,hlen,g1,capR,c0,c1,hb,hi,b0,b1]
section
variable {f g:Hm}{fe:He}{ρ ρ':Ro}{t:Hs}{Q:OutW Hs->Prop}{i:Nat}
theorem Yb1{f:AS}(h:f ρ=some (.nx ρ'))(k:g ρ' t Q):seqH (Yck f) g ρ t Q:=⟨_,h,k⟩
theorem Ykd(h:fe ρ t λd t'=>g (ρ.set i (some (.sh d))) t' Q):seqH (setH i fe) g ρ t Q:=h
theorem Yv8(h:fe ρ t λ_ t'=>g ρ t' Q):seqH (exH fe) g ρ t Q:=h
theorem y5x{g:Ha}{Q:D->Hs->Prop}(h:g ρ t λds t'=>ds.length<=cap6/\Q (.lst ds) t'):lstH g ρ t Q:=h
theorem Ypc{g:Ha}{Q:AQ->Hs->Prop}(h:fe ρ t λd t1=>g ρ t1 λds t2=>Q (d::ds) t2):Yjk fe g ρ t Q:=h
theorem y5y{Q:AQ->Hs->Prop}(h:Q [] t):Yx3 ρ t Q:=h
theorem y2n{c:Ro->Hs->Option Bool}{f:Hm}(h:c ρ t=some false)(k:g ρ t Q):seqH (ifH c f nilH) g ρ t Q:=⟨false,h,λz=>(nomatch z),λ_=>k⟩
theorem y2o{f:AS}{d:D}(h:f ρ=some (.rt d))(k:Q (.rt d t)):Yck f ρ t Q:=⟨_,h,k⟩
theorem Yzw{gl:AW}{gt:AT}{ds:AQ}(h:gl ρ=some ds)(k:forR gt f ds ρ t fun
 | .nx ρ' t'=>g ρ' t' Q
 | o=>Q o):seqH (forH gl gt f) g ρ t Q:=⟨ds,h,k⟩
theorem Ynh{gt:AT}{fb:Hm}{α:Type}(enc:α->D)(I:List α->Ro->Hs->Prop):∀(l pre:List α) (ρ:Ro) (t:Hs) (Q:OutW Hs->Prop),I pre ρ t->
 (∀q a r ρ t (Q:OutW Hs->Prop),pre++l=q++a::r->I q ρ t->(∀ρ2 t2,I (q++[a]) ρ2 t2->Q (.nx ρ2 t2))->∃ρ1,gt (enc a) ρ=some ρ1/\fb ρ1 t Q)->(∀ρ' t',I (pre++l) ρ' t'->Q (.nx ρ' t'))->forR gt fb (l.map enc) ρ t Q
 | [],pre,ρ,t,Q,h0,_,k=>k ρ t (by rw[jb];exact h0)
 | a::l,pre,ρ,t,Q,h0,hs,k=>by
   rw[q0,forR];refine hs pre a l ρ t _ rfl h0 λρ2 t2 h2=>?_;refine Ynh enc I l (pre++[a]) ρ2 t2 Q h2 (λq b r ρ t Q e hI hq=>hs q b r ρ t Q (by rw[<-e,jc];rfl) hI hq) λρ' t' h3=>k ρ' t' ?_;rw[jc]at h3;exact h3
end
theorem Yk0{t:Hs}{a:Addr}{s s':Option HS}:pt (pt t a s) a s'=pt t a s':=by
 funext b
 by_cases h:b=a
 ·rw[h,Yaa,Yaa]
 ·rw[Yay h,Yay h,Yay h]
theorem Yv9{t:Hs}{a:Addr}{s:Option HS}(h:t a=none):pt (pt t a s) a none=t:=by
 funext b
 by_cases e:b=a
 ·rw[e,Yaa,h]
 ·rw[Yay e,Yay e]
theorem Yyq(b:Bool):hnD b=hdD b:=by cases b<;>rfl
theorem Ywa(H:AH):H.map hnD=H.map hdD:=List.map_congr_left λb _=>Yyq b
theorem Yh2{α:Type}{enc:α->D}{t:Hs}(h:∀a,thD t (enc a)=enc a):∀l:List α,thL t (l.map enc)=l.map enc
 | []=>by rw[List.map_nil,thL]
 | a::l=>by rw[q0,thL,h,Yh2 h l]
theorem Yzx(t:Hs)(i:Int):thD t (.int i)=.int i:=by rw[thD]
theorem y5z(t:Hs)(x:Str):thD t (.str x)=.str x:=by rw[thD]
theorem Yyr(t:Hs)(b:Bool):thD t (hdD b)=hdD b:=by unfold hdD;rw[thD]
theorem y7l(t:Hs)(b:Bool):thD t (hnD b)=hnD b:=by unfold hnD;rw[thD]
theorem y50(t:Hs)(s:Say):thD t (sayD s)=sayD s:=by
 show thD t (.tup [.int s.1,.bl s.2])=.tup [.int s.1,.bl s.2];simp[thD,thL]
theorem Ywb(t:Hs)(L:AX):thD t (Yn .e (L.map Rl.ei))=Yn .e (L.map Rl.ei):=by
 have h:Yn .e (L.map Rl.ei)=.tup [.str "eithers",.tup (L.map λl=>rlD (.ei l))]:=by
  unfold Yn;rw[List.map_map];rfl
 rw[h,thD,thL,thL,thL,thD,thD,Yh2];intro l;show thD t (.tup (l.map sayD))=.tup (l.map sayD);rw[thD,Yh2 (y50 t)]
theorem y51(t:Hs)(o:AM):thD t (optD o)=optD o:=by
 cases o with
 | none=>show thD t .non=.non;rw[thD]
 | some x=>show thD t (.int _)=.int _;rw[thD]
theorem y52(t:Hs)(r:Prw):thD t (prwD r)=prwD r:=by
 show thD t (.tup [.int r.1,optD r.2.1,.bl r.2.2])=.tup [.int r.1,optD r.2.1,.bl r.2.2];simp[thD,thL,y51]
theorem Yke{t:Hs}{L:AX}{H ev:AH}{l:Addr}(h:t l=some (.bls ev)):thD t (watD (Yn .e (L.map Rl.ei)) (.tup (H.map hnD)) (.adr l))=wtD .e (L.map Rl.ei) H ev:=by
 show thD t (.obj "Watch" wks [Yn .e (L.map Rl.ei),.tup (H.map hnD),.adr l])=.obj "Watch" wks [Yn .e (L.map Rl.ei),.tup (H.map hnD),.lst (ev.map D.bl)];rw[thD,thL,thL,thL,thL,Ywb,thD,Yh2 (y7l t),thD,h];rfl
section
variable {L:AX}{H ev:AH}{l:Addr}{t:Hs}
theorem Yni(b h x:D):mthD "Watch" "turn" Yab (watD b h x)=Yab [watD b h x]:=Yyo "turn" (by decide) Yab b h x
theorem Yh3(b h x:D):mthD "Watch" "winner" Yae (watD b h x)=Yae [watD b h x]:=Yyo "winner" (by decide) Yae b h x
theorem Ykf(b h x:D):mthD "Watch" "evening" Yad (watD b h x)=Yad [watD b h x]:=Yyo "evening" (by decide) Yad b h x
theorem Yys(hl:t l=some (.bls ev))(hlt:ev.length<H.length)(hH:H.length<=60)(hR:∀r∈L.map Rl.ei,OkR .e H.length r/\sz r<=9999)(c:Bool){R:D->Hs->Prop}(k:R (wonO .e (L.map Rl.ei) H (ev++[c])) (pt t l (some (.bls (ev++[c]))))) :
 Ybk [watD (Yn .e (L.map Rl.ei)) (.tup (H.map hnD)) (.adr l),.bl c] t R:=by
 unfold Ybk runH;have hst:Yw 2 [watD (Yn .e (L.map Rl.ei)) (.tup (H.map hnD)) (.adr l),.bl c]=[↑(watD (Yn .e (L.map Rl.ei)) (.tup (H.map hnD)) (.adr l)),↑(.bl c)]:=rfl;rw[hst];have m1:=Yni (Yn .e (L.map Rl.ei)) (.tup (H.map hnD)) (.lst (ev.map D.bl));rw[Yrz (Nat.le_of_lt hlt),Ykc hlt]at m1;have m4:=Yh3 (Yn .e (L.map Rl.ei)) (.tup (H.map hnD)) (.lst ((ev++[c]).map D.bl));rw[Yng (by rw[qx];exact hlt) hR]at m4;have sc:=Yzv .e (L.map Rl.ei) H (ev++[c]);have hn:isN false (hnD H[ev.length]) .non=some false:=rfl;have t1:=Yke (H:=H) (L:=L) hl;have t2:=Yke (H:=H) (L:=L) (t:=pt t l (some (.bls (ev++[c])))) Yaa;unfold Yfw;refine y2n ?_ ?_
 ·show(b2 (b1 (getV 0) (mthD "Watch" "turn" Yab)) (kD .non) (isN false)) (thR t _)=_
  have:thR t [↑(watD (Yn .e (L.map Rl.ei)) (.tup (H.map hnD)) (.adr l)),↑(.bl c)]=[↑(wtD .e (L.map Rl.ei) H ev),↑(thD t (.bl c))]:=by
   show([↑(thD t (watD _ _ _)),↑(thD t (.bl c))]:Ro)=_;rw[t1]
  rw[this];generalize hnD H[ev.length]=tq at *;simp only[Yxu,Ysr,gV0,qc,y1w];rw[m1,qc];exact hn
 unfold Yd2;refine Yb1 (ρ':=[↑(watD (Yn .e (L.map Rl.ei)) (.tup (H.map hnD)) (.adr l)),↑(.bl c)]) (by cases c<;>rfl) ?_;unfold Yd1;refine⟨_,_,l,ev,c,rfl,hl,by omega,rfl,?_⟩;unfold Yd0;refine⟨wonO .e (L.map Rl.ei) H (ev++[c]),?_,sc,k⟩
 have:thR (pt t l (some (.bls (ev++[c])))) [↑(watD (Yn .e (L.map Rl.ei)) (.tup (H.map hnD)) (.adr l)),↑(.bl c)]=[↑(wtD .e (L.map Rl.ei) H (ev++[c])),↑(thD (pt t l (some (.bls (ev++[c])))) (.bl c))]:=by
  show([↑(thD _ (watD _ _ _)),↑(thD _ (.bl c))]:Ro)=_;rw[t2]
 rw[this];generalize wonO .e (L.map Rl.ei) H (ev++[c])=wq at *;simp only[Ysr,gV0,qc];exact m4
end
abbrev stD(d:D):D:=.obj "Settler" ["hand"] [d]
abbrev ppk:AK:=["hand","paper","book","hands","start"]
abbrev paD(a b c d e:D):D:=.obj "Papered" ppk [a,b,c,d,e]
abbrev roD(mb:Bool)(A:AG)(n:Nat):D:=.obj "Rowed" rwk [hdD mb,.tup (A.map D.int),.int n]
def Row(t:Hs)(x:Addr)(mb:Bool)(A:AG)(n:Nat):Prop:=∃C dx va vb vc,t x=some (.ins "Rowed" C dx rwk [va,vb,vc] [hdD mb,.tup (A.map D.int),.int n])
theorem Row.th{t:Hs}{x:Addr}{mb:Bool}{A:AG}{n:Nat}(h:Row t x mb A n):thD t (.adr x)=roD mb A n:=by
 obtain⟨C,dx,va,vb,vc,h⟩:=h;rw[thD,h];rfl
theorem Row.of{t t':Hs}{x:Addr}{mb:Bool}{A:AG}{n:Nat}(h:Row t x mb A n)(e:t' x=t x):Row t' x mb A n:=by
 obtain⟨C,dx,va,vb,vc,h⟩:=h;exact⟨C,dx,va,vb,vc,e.trans h⟩
theorem Row.ne{t:Hs}{x l:Addr}{mb:Bool}{A:AG}{n:Nat}{ev:AH}(h:Row t x mb A n)(hl:t l=some (.bls ev)):x≠l:=by
 obtain⟨C,dx,va,vb,vc,h⟩:=h;intro e;rw[e,hl]at h;cases h
theorem y53(x a b:D){t:Hs}{R:D->Hs->Prop}(k:R .non t):Ya9 [x,a,b] t R:=⟨_,rfl,k⟩
theorem y54{t:Hs}{x:Addr}{mb hb:Bool}{A:AG}{n:Nat}(h:Row t x mb A n)(b:D){R:D->Hs->Prop}
 (k:∀t',Row t' x mb A (if hb=mb then n+1 else n)->(∀a,a≠x->t' a=t a)->R .non t'):Ycf [.adr x,hdD hb,b] t R:=by
 unfold Ycf runH;have hst:Yw 3 [.adr x,hdD hb,b]=[↑(.adr x),↑(hdD hb),↑b]:=rfl;rw[hst]
 have hth:thR t [↑(.adr x),↑(hdD hb),↑b]=[↑(roD mb A n),↑(hdD hb),↑(thD t b)]:=by
  show([↑(thD t (.adr x)),↑(thD t (hdD hb)),↑(thD t b)]:Ro)=_;rw[h.th,Yyr]
 have he:=Yo9 hb mb;unfold Yh8;refine⟨hb==mb,?_,λe=>?_,λe=>?_⟩
 ·show(b2 (getC 1) (b1 (getV 0) (fldD "Rowed" "hand")) (eqM false)) (thR t _)=_
  rw[hth];have hf:fldD "Rowed" "hand" (roD mb A n)=some (hdD mb):=rfl;simp only[Yxu,Ysr,gV0,gC0,gCs,qc];rw[hf,qc];exact he
 ·have e':hb=mb:=by simpa using e
  obtain⟨C,dx,va,vb,vc,h⟩:=h;refine⟨x,C,dx,va,vb,vc,_,_,n,rfl,h,?_⟩;refine k _ ?_ λa ha=>Yay ha;rw[if_pos e'];exact⟨C,dx,va,vb,_,Yaa⟩
 ·have e':¬hb=mb:=by simpa using e
  show R .non t;refine k t ?_ λ_ _=>rfl;rw[if_neg e'];exact h
def rwB(A:AG)(n:Nat):Bool:=decide (n<A.length)&&decide (A.getD n 0%2=1)
theorem Ypd(mb:Bool)(A:AG)(n:Nat)(w:D):Ydg [roD mb A n,w]=some (.bl (rwB A n)):=by
 rw[Ydg,Yaq (by rfl)];have hst:Yw 2 [roD mb A n,w]=[↑(roD mb A n),↑w]:=rfl;rw[hst];have f1:fldD "Rowed" "seen" (roD mb A n)=some (.int n):=rfl;have f2:fldD "Rowed" "row" (roD mb A n)=some (.tup (A.map D.int)):=rfl;unfold rwB;generalize roD mb A n=ro at *;by_cases h:n<A.length
 ·have hi:(n:Int)<(A.length:Int):=by omega
  have hat:atI (A.map D.int) (n:Int)=some (.int (A.getD n 0)):=by
   rw[Ybw,Ya5 h];simp[h]
  simp[Ye4,f1,f2,hi,h,hat]
 ·have hi:¬(n:Int)<(A.length:Int):=by omega
  simp[Ye4,f1,f2,hi,h]
theorem Yk1(x w:D):Ycb [x,w]=some (.bl false):=by
 rw[Ycb,Yaq (by rfl)];rfl
theorem Yk2{rows:List Prw}(hn:(rows.map (·.1)).Nodup){r:Prw}(hr:r∈rows){ev:AH}(hk:r.1=ev.length)(hx:∀x,r.2.1=some x->x<ev.length)(a d e:D)(L:AX)(H:AH) :
 Ybl [paD a (ppD "plan" (rows.map prwD)) (Yn .e (L.map Rl.ei)) d e,wtD .e (L.map Rl.ei) H ev]=some (.bl (dueP r ev)):=by
 have h:=Yqn hn hr hk hx .e (L.map Rl.ei) d e;have he:mthD "Watch" "evening" Yad (wtD .e (L.map Rl.ei) H ev)=some (.tup (ev.map D.bl)):=(Ykf _ _ _).trans (Ypb _ _ _ _);rw[Ybl,Yaq (by rfl)];have hst:Yw 2 [paD a (ppD "plan" (rows.map prwD)) (Yn .e (L.map Rl.ei)) d e,wtD .e (L.map Rl.ei) H ev]=[↑(paD a (ppD "plan" (rows.map prwD)) (Yn .e (L.map Rl.ei)) d e),↑(wtD .e (L.map Rl.ei) H ev)]:=rfl;rw[hst];have f1:fldD "Papered" "paper" (paD a (ppD "plan" (rows.map prwD)) (Yn .e (L.map Rl.ei)) d e)=some (ppD "plan" (rows.map prwD)):=rfl;have f2:fldD "Papered" "book" (paD a (ppD "plan" (rows.map prwD)) (Yn .e (L.map Rl.ei)) d e)=some (Yn .e (L.map Rl.ei)):=rfl;have f3:fldD "Papered" "hands" (paD a (ppD "plan" (rows.map prwD)) (Yn .e (L.map Rl.ei)) d e)=some d:=rfl;have f4:fldD "Papered" "start" (paD a (ppD "plan" (rows.map prwD)) (Yn .e (L.map Rl.ei)) d e)=some e:=rfl;generalize paD a (ppD "plan" (rows.map prwD)) (Yn .e (L.map Rl.ei)) d e=pp,wtD .e (L.map Rl.ei) H ev=ww,ppD "plan" (rows.map prwD)=p1,Yn .e (L.map Rl.ei)=p2,ev.map D.bl=EE at *;simp[Yfx,f1,f2,f3,f4,he,h]
theorem y55(d w:D):dspD "says" tb_says (stD d) [w]=some (.bl false):=by
 show(if ("says":Str)∈(["hand"]:AK)then none else (tb_says.lookup ("Settler":Str)).bind λfn=>fn [stD d,w])=_;rw[if_neg (by decide)];exact Yk1 _ _
theorem Ywc(mb:Bool)(A:AG)(n:Nat)(w:D):dspD "says" tb_says (roD mb A n) [w]=some (.bl (rwB A n)):=by
 show(if ("says":Str)∈rwk then none else (tb_says.lookup ("Rowed":Str)).bind λfn=>fn [roD mb A n,w])=_;rw[if_neg (by decide)];exact Ypd _ _ _ _
theorem y56(a b c d e w:D):dspD "says" tb_says (paD a b c d e) [w]=Ybl [paD a b c d e,w]:=by
 show(if ("says":Str)∈ppk then none else (tb_says.lookup ("Papered":Str)).bind λfn=>fn [paD a b c d e,w])=_;rw[if_neg (by decide)];rfl
section
variable {t:Hs}{x:Addr}{R Q:D->Hs->Prop}{ρ:Ro}{is:AF}{ga:AW}
theorem Ykg{c:Str}{C dx:Addr}{d:D}(hx:t x=some (.ins c C dx [] [] []))(hc:c∈(["Settler","Rowed","Papered"]:AK))(k:∀v,R .non (pt t x (some (.ins c C dx ["hand"] [v] [d])))):Yap [.adr x,d] t R:=
 ⟨x,c,C,dx,[],[],[],d,rfl,hx,hc,by simp,by decide,rfl,λv=>k v⟩
theorem y2p{C dx:Addr}{d r:D}{l:AQ}(hx:t x=some (.ins "Rowed" C dx [] [] []))(hr:tupC [r]=some (.tup l))(k:∀v1 v2 v3,R .non (pt t x (some (.ins "Rowed" C dx rwk [v1,v2,v3] [d,.tup l,.int 0])))):Yax [.adr x,d,r] t R:=by
 unfold Yax runH;have hst:Yw 3 [.adr x,d,r]=[↑(.adr x),↑d,↑r]:=rfl;rw[hst];unfold Yfz;refine Yv8 ⟨[.adr x,d],rfl,_,Ykg (R:=λe t'=>e=.non/\∃v,t'=pt t x (some (.ins "Rowed" C dx ["hand"] [v] [d]))) hx (by decide) (λv=>⟨rfl,v,rfl⟩),λe t' h=>?_⟩;obtain⟨rfl,v1,rfl⟩:=h;unfold Yd8;refine⟨x,"Rowed",C,dx,["hand"],[v1],[d],.tup l,rfl,Yaa,by decide,by decide,by decide,?_,λv2=>?_⟩
 ·show(cC (Yg (getC 2) aNil) tupC) [↑(.adr x),↑d,↑r]=_
  simp only[Yxv,Ydc,Yhx,gCs,gC0,qc,Option.map_some];exact hr
 unfold Yd7;refine⟨x,"Rowed",C,dx,["hand","row"],[v1,v2],[d,.tup l],.int 0,rfl,Yaa,by decide,by decide,by decide,rfl,λv3=>?_⟩;have:=k v1 v2 v3;rw[Yk0,Yk0];exact this
theorem Ywd{C dx:Addr}{a b c h:D}{l:AQ}(hx:t x=some (.ins "Papered" C dx [] [] []))(hr:tupC [h]=some (.tup l))(k:∀vs,vs.length=5->R .non (pt t x (some (.ins "Papered" C dx ppk vs [a,b,c,.tup l,.int 0])))):Ya8 [.adr x,a,b,c,h,.int 0] t R:=by
 unfold Ya8 runH;have hst:Yw 6 [.adr x,a,b,c,h,.int 0]=[↑(.adr x),↑a,↑b,↑c,↑h,↑(.int 0)]:=rfl;rw[hst];unfold Yeu;refine Yv8 ⟨[.adr x,a],rfl,_,Ykg (R:=λe t'=>e=.non/\∃v,t'=pt t x (some (.ins "Papered" C dx ["hand"] [v] [a]))) hx (by decide) (λv=>⟨rfl,v,rfl⟩),λe t' h=>?_⟩;obtain⟨rfl,v1,rfl⟩:=h;unfold Yc7;refine⟨x,"Papered",C,dx,["hand"],[v1],[a],b,rfl,Yaa,by decide,by decide,by decide,rfl,λv2=>?_⟩;rw[Yk0];unfold Yc6;refine⟨x,"Papered",C,dx,["hand","paper"],[v1,v2],[a,b],c,rfl,Yaa,by decide,by decide,by decide,rfl,λv3=>?_⟩;rw[Yk0];unfold Yc5;refine⟨x,"Papered",C,dx,["hand","paper","book"],[v1,v2,v3],[a,b,c],.tup l,rfl,Yaa,by decide,by decide,by decide,?_,λv4=>?_⟩
 ·show(cC (Yg (getC 4) aNil) tupC) [↑(.adr x),↑a,↑b,↑c,↑h,↑(.int 0)]=_
  simp only[Yxv,Ydc,Yhx,gCs,gC0,qc,Option.map_some];exact hr
 rw[Yk0];unfold Yc4;refine⟨x,"Papered",C,dx,["hand","paper","book","hands"],[v1,v2,v3,v4],[a,b,c,.tup l],.int 0,rfl,Yaa,by decide,by decide,by decide,rfl,λv5=>?_⟩;rw[Yk0];exact k [v1,v2,v3,v4,v5] rfl
theorem y2q{C dx:Addr}{b h:D}{l:AQ}(hx:t x=some (.ins "Watch" C dx [] [] []))(hc:Yal [b,h]=some .non)(hr:tupC [h]=some (.tup l))
 (k:∀a v1 v2 t',a≠x->t a=none->t' x=some (.ins "Watch" C dx wks [v1,v2,.ref a] [b,.tup l,.adr a])->t' a=some (.bls [])->(∀y,y≠x->y≠a->t' y=t y)->R .non t'):Yba [.adr x,b,h] t R:=by
 unfold Yba runH;have hst:Yw 3 [.adr x,b,h]=[↑(.adr x),↑b,↑h]:=rfl;rw[hst];unfold Yfy;refine Yb1 (ρ':=[↑(.adr x),↑b,↑h]) ?_ ?_
 ·simp only[y1r,Yxv,Ydc,Yhx,gVs,gV0,qc,Option.map_some,hc]
 unfold Yd5;refine⟨x,"Watch",C,dx,[],[],[],b,rfl,hx,by decide,by decide,by decide,rfl,λv1=>?_⟩;unfold Yd4;refine⟨x,"Watch",C,dx,["book"],[v1],[b],.tup l,rfl,Yaa,by decide,by decide,by decide,?_,λv2=>?_⟩
 ·show(cC (Yg (getC 2) aNil) tupC) [↑(.adr x),↑b,↑h]=_
  simp only[Yxv,Ydc,Yhx,gCs,gC0,qc,Option.map_some];exact hr
 rw[Yk0];unfold Yd3;refine⟨x,"Watch",C,dx,["book","hands"],[v1,v2],[b,.tup l],rfl,Yaa,by decide,by decide,by decide,λa ha=>?_⟩
 have hax:a≠x:=λz=>by rw[z,Yaa]at ha;cases ha
 rw[Yay hax]at ha;refine k a v1 v2 _ hax ha Yaa ?_ λy h1 h2=>?_
 ·rw[Yay hax,Yaa]
 ·rw[Yay h1,Yay h2,Yay h1]
theorem Ys0{d:D}(hg:ga (frz is ρ)=some [d])(hd:plB d=true)(k:Q (stD d) t):Yid "Settler" true is [] ga Yap ρ t Q:=by
 refine⟨[d],hg,λx C dx tx=>⟨λe t'=>e=.non/\∃v,t'=pt t x (some (.ins "Settler" C dx ["hand"] [v] [d])),Ykg Yaa (by decide) (λv=>⟨rfl,v,Yk0⟩),λe t' h=>?_⟩⟩;obtain⟨rfl,v,rfl⟩:=h;refine⟨λa s h=>?_,rfl,λz=>(nomatch z),λ_=>⟨_,_,_,Yaa,?_⟩⟩
 ·by_cases e:a=x
  ·subst e
   rw[Yaa]at h;cases h;refine .inr ?_;show[d].all qB=true
   have:qB d=true:=by cases d<;>first|exact hd|rfl
   simp[this]
  ·rw[Yay e]at h
   exact .inl h
 ·rw[Yv9 tx]
  exact k
theorem Ynj{mb:Bool}{r:D}{A:AG}(hg:ga (frz is ρ)=some [hdD mb,r])(hr:tupC [r]=some (.tup (A.map D.int)))(k:∀x t',t x=none->Row t' x mb A 0->(∀a,a≠x->t' a=t a)->Q (.adr x) t'):Yid "Rowed" false is [] ga Yax ρ t Q:=by
 refine⟨[hdD mb,r],hg,λx C dx tx=>⟨λe t'=>e=.non/\∃v1 v2 v3,t'=pt t x (some (.ins "Rowed" C dx rwk [v1,v2,v3] [hdD mb,.tup (A.map D.int),.int 0])),y2p Yaa hr (λv1 v2 v3=>⟨rfl,v1,v2,v3,Yk0⟩),λe t' h=>?_⟩⟩;obtain⟨rfl,v1,v2,v3,rfl⟩:=h;refine⟨λa s h=>?_,rfl,λ_=>k x _ tx ⟨C,dx,v1,v2,v3,Yaa⟩ λa ha=>Yay ha,λz=>(nomatch z)⟩;by_cases e:a=x
 ·subst e
  rw[Yaa]at h;cases h;refine .inr ?_;have h1:qB (hdD mb)=true:=rfl
  have h2:∀A:AG,plBL (A.map D.int)=true:=λA=>by
   induction A with
   | nil=>rfl
   | cons a A ih=>rw[q0,plBL,ih];rfl
  have h3:qB (.tup (A.map D.int))=true:=by
   show plB (.tup (A.map D.int))=true;rw[plB];exact h2 A
  show[hdD mb,.tup (A.map D.int),.int 0].all qB=true;simp[h1,h3];rfl
 ·rw[Yay e]at h
  exact .inl h
theorem Ys1{a b c h:D}{l:AQ}(hg:ga (frz is ρ)=some [a,b,c,h])(hr:tupC [h]=some (.tup l))(ha:plB a=true)(hb:plB b=true)(hc:plB c=true)(hl:plBL l=true)(k:Q (paD a b c (.tup l) (.int 0)) t):Yid "Papered" true is [.int 0] ga Ya8 ρ t Q:=by
 refine⟨[a,b,c,h],hg,λx C dx tx=>⟨λe t'=>e=.non/\∃vs,t'=pt t x (some (.ins "Papered" C dx ppk vs [a,b,c,.tup l,.int 0])),Ywd Yaa hr (λvs _=>⟨rfl,vs,Yk0⟩),λe t' h=>?_⟩⟩;obtain⟨rfl,vs,rfl⟩:=h;refine⟨λy s h=>?_,rfl,λz=>(nomatch z),λ_=>⟨_,_,_,Yaa,?_⟩⟩
 ·by_cases e:y=x
  ·subst e
   rw[Yaa]at h;cases h;refine .inr ?_
   have q:∀{d:D},plB d=true->qB d=true:=λ{d} hd=>by cases d<;>first|exact hd|rfl
   have h3:qB (.tup l)=true:=q (by rw[plB];exact hl);show[a,b,c,.tup l,.int 0].all qB=true;simp[q ha,q hb,q hc,h3];rfl
  ·rw[Yay e]at h
   exact .inl h
 ·rw[Yv9 tx]
  exact k
theorem Yr0{b h:D}{l:AQ}(hg:ga (frz is ρ)=some [b,h])(hc:Yal [b,h]=some .non)(hr:tupC [h]=some (.tup l))(hb:plB b=true)(hl:plBL l=true)(k:∀a t',t a=none->t' a=some (.bls [])->(∀y,y≠a->t' y=t y)->Q (watD b (.tup l) (.adr a)) t'):Yid "Watch" true is [] ga Yba ρ t Q:=by
 refine⟨[b,h],hg,λx C dx tx=>⟨λe t'=>e=.non/\∃a v1 v2,a≠x/\t a=none/\t' x=some (.ins "Watch" C dx wks [v1,v2,.ref a] [b,.tup l,.adr a])/\t' a=some (.bls [])/\(∀y,y≠x->y≠a->t' y=t y),y2q Yaa hc hr (λa v1 v2 t' h1 h2 h3 h4 h5=>⟨rfl,a,v1,v2,h1,by rw[Yay h1]at h2;exact h2,h3,h4,λy g1 g2=>by rw[h5 y g1 g2,Yay g1]⟩),λe t' h=>?_⟩⟩;obtain⟨rfl,a,v1,v2,h1,h2,h3,h4,h5⟩:=h;refine⟨λy s h=>?_,rfl,λz=>(nomatch z),λ_=>⟨_,_,_,h3,?_⟩⟩
 ·by_cases e:y=x
  ·subst e
   rw[h3]at h;cases h;refine .inr ?_
   have q:∀{d:D},plB d=true->qB d=true:=λ{d} hd=>by cases d<;>first|exact hd|rfl
   have g3:qB (.tup l)=true:=q (by rw[plB];exact hl);show[b,.tup l,.adr a].all qB=true;simp[q hb,g3];rfl
  ·by_cases e2:y=a
   ·subst e2
    rw[h4]at h;cases h;exact .inr rfl
   ·rw[h5 y e e2]at h
    exact .inl h
 ·refine k a _ h2 ?_ λy hy=>?_
  ·rw[Yay h1]
   exact h4
  ·by_cases e:y=x
   ·rw[e,Yaa,tx]
   ·rw[Yay e]
    exact h5 y e hy
end
theorem Ygf{α:Type}{enc:α->D}(h:∀a,plB (enc a)=true):∀l:List α,plBL (l.map enc)=true
 | []=>by rw[List.map_nil,plBL]
 | a::l=>by rw[q0,plBL,h,Ygf h l];rfl
theorem Ywe(b:Bool):plB (hdD b)=true:=rfl
theorem y57(r:Prw):plB (prwD r)=true:=by
 show plB (.tup [.int r.1,optD r.2.1,.bl r.2.2])=true;cases h:r.2.1<;>rfl
theorem Yqr(L:AX):plB (Yn .e (L.map Rl.ei))=true:=by
 have h:Yn .e (L.map Rl.ei)=.tup [.str "eithers",.tup (L.map λl=>rlD (.ei l))]:=by
  unfold Yn;rw[List.map_map];rfl
 have h2:plB (.tup (L.map λl=>rlD (.ei l)))=true:=by
  rw[plB];refine Ygf (λl=>?_) L;show plB (.tup (l.map sayD))=true;rw[plB];exact Ygf (λs=>rfl) l
 rw[h,plB,plBL,plBL,plBL,h2];rfl
theorem y7m(rows:List Prw):plB (ppD "plan" (rows.map prwD))=true:=by
 have h2:plB (.tup (rows.map prwD))=true:=by
  rw[plB];exact Ygf y57 rows
 show plB (.tup [.str "plan",.tup (rows.map prwD)])=true;rw[plB,plBL,plBL,plBL,h2];rfl
theorem y58:powI (.int 10) (.int 60)=some (.int (10^60)):=rfl
theorem Ywf:∀(cells:AG),cells.length<=63->∃A:AG,A.length=cells.length/\Ybn [.lst (cells.map D.int)]=some (.lst (A.map D.int)):=λcells hc=>by
 obtain⟨ρ',e1,A,y2,y3,hA,rfl⟩:=Ycr (gt:=gSet 2) (fb:=Ya6) D.int (λpre ρ=>∃(A:AG) (y2 y3:AR),A.length=pre.length/\ρ=[↑(.lst (cells.map D.int)),some (.ow (A.map D.int)),y2,y3]) cells []
  [↑(.lst (cells.map D.int)),some (.ow []),none,none] ⟨[],_,_,rfl,rfl⟩ (by
   rintro q c r ρ e ⟨A,y2,y3,hA,rfl⟩
   have hq:q.length<=63:=by
    have:=congrArg List.length e;simp at this;omega
   have happ:∀d:D,appD (A.map D.int) d=some (A.map D.int++[d]):=λd=>Yml (by rw[qe];omega)
   have hlen:((A.map D.int).length:Int)=(A.length:Int):=by simp
   have hmod:modI (.int c) (.int (10^60))=some (.int (c%10^60)):=Ygx (by decide);have hp:=y58;generalize (10^60:Int)=P at *;by_cases h3:(A.length:Int)%3=2
   ·refine⟨_,[↑(.lst (cells.map D.int)),some (.ow ((A++[-1-c%P]).map D.int)),↑(.int c),↑(.int (-1-c%P))],rfl,?_,A++[-1-c%P],_,_,by simp[hA],rfl⟩
    have hap:(A++[-1-c%P]).map D.int=A.map D.int++[.int (-1-c%P)]:=by rw[wt];rfl
    rw[hap];generalize A.map D.int=AA,cells.map D.int=CC at *;simp[Ya6,hp,hmod,hlen,h3,happ]
   ·refine⟨_,[↑(.lst (cells.map D.int)),some (.ow ((A++[c%P]).map D.int)),↑(.int c),↑(.int (c%P))],rfl,?_,A++[c%P],_,_,by simp[hA],rfl⟩
    have hap:(A++[c%P]).map D.int=A.map D.int++[.int (c%P)]:=by rw[wt];rfl
    rw[hap];generalize A.map D.int=AA,cells.map D.int=CC at *
    simp[Ya6,hp,hmod,hlen,h3,happ])
 rw[List.nil_append]at hA;refine⟨A,hA,?_⟩;rw[Ybn,Yaq (by rfl)];generalize A.map D.int=AA at *;generalize hCC:cells.map D.int=CC at *;simp[Yes,Yw,e1]
theorem Ywg{rows:List Prw}(hn:(rows.map (·.1)).Nodup){r:Prw}(hr:r∈rows){ev:AH}(hk:r.1=ev.length)(hx:∀x,r.2.1=some x->x<ev.length):Yby [.tup (rows.map prwD),.lst (ev.map D.bl)]=some (.bl (dueP r ev)):=by
 rw[Yby,Yaq (by rfl)];have hst:Yw 5 [.tup (rows.map prwD),.lst (ev.map D.bl)]=[↑(.tup (rows.map prwD)),↑(.lst (ev.map D.bl)),none,none,none]:=rfl;rw[hst]
 have key:∀(rest:List Prw) (RR:D) (y2 y3 y4:AR),(rest.map (·.1)).Nodup->r∈rest->M.forM (Ygz 2 3 4) Yao (rest.map prwD) [↑RR,↑(.lst (ev.map D.bl)),y2,y3,y4]=some (.rt (.bl (dueP r ev))):=by
  intro rest
  induction rest with
  | nil=>intro _ _ _ _ _ h;cases h
  | cons s rest ih=>
    intro RR y2 y3 y4 hnn hm;have hg:Ygz 2 3 4 (prwD s) [↑RR,↑(.lst (ev.map D.bl)),y2,y3,y4]=some [↑RR,↑(.lst (ev.map D.bl)),↑(.int s.1),↑(optD s.2.1),↑(.bl s.2.2)]:=rfl
    have hlen:((ev.map D.bl).length:Int)=(ev.length:Int):=by simp
    rw[q0,M.forM,hg,qc];rw[q0,List.nodup_cons]at hnn;by_cases he:s.1=ev.length
    ·have hsr:s=r:=by
      rcases qr hm with h|h
      ·exact h.symm
      ·refine absurd (List.mem_map.mpr ⟨r,h,?_⟩) hnn.1
       show r.1=s.1;omega
     subst hsr
     have hei:(s.1:Int)=(ev.length:Int):=by omega
     have hb:Yao [↑RR,↑(.lst (ev.map D.bl)),↑(.int s.1),↑(optD s.2.1),↑(.bl s.2.2)]=some (.rt (.bl (dueP s ev))):=by
      unfold dueP
      cases h:s.2.1 with
      | none=>
        have i1:=Yhk false none;generalize optD none=od,ev.map D.bl=EE at *;simp[Yao,hlen,hei,i1]
      | some x=>
        have i1:=Yhk false (some x);have i3:optD (some x)=.int x:=rfl;rw[i3]at i1 ⊢;have ha:=Yss (hx x h);generalize ev.map D.bl=EE at *;simp[Yao,hlen,hei,i1,ha]
     rw[hb];rfl
    ·have hei:¬(s.1:Int)=(ev.length:Int):=by omega
     have hb:Yao [↑RR,↑(.lst (ev.map D.bl)),↑(.int s.1),↑(optD s.2.1),↑(.bl s.2.2)]=some (.nx [↑RR,↑(.lst (ev.map D.bl)),↑(.int s.1),↑(optD s.2.1),↑(.bl s.2.2)]):=by
      generalize optD s.2.1=od,ev.map D.bl=EE at *;simp[Yao,hlen,hei]
     rw[hb];refine ih RR _ _ _ hnn.2 ?_;rcases qr hm with h|h
     ·exact absurd (by rw[<-h];exact hk) he
     ·exact h
 have h:=key rows (.tup (rows.map prwD)) none none none hn hr;generalize dueP r ev=du,rows.map prwD=RR,ev.map D.bl=EE at *;simp[Yhd,h]
theorem Yzy{s0 s1 s2 w x0 x1 x2:D}(h0:x0=.non\/∃b,x0=.bl b/\dspD "says" tb_says s0 [w]=some (.bl b))(h1:x1=.non\/∃b,x1=.bl b/\dspD "says" tb_says s1 [w]=some (.bl b))(h2:x2=.non\/∃b,x2=.bl b/\dspD "says" tb_says s2 [w]=some (.bl b))(o:Int) :
 Yb7 [.lst [s0,s1,s2],w,.lst [x0,x1,x2],.int o]=some (.bl true):=by
 rw[Yb7,Yaq (by rfl)];have hst:Yw 6 [.lst [s0,s1,s2],w,.lst [x0,x1,x2],.int o]=[↑(.lst [s0,s1,s2]),↑w,↑(.lst [x0,x1,x2]),↑(.int o),none,none]:=rfl;rw[hst]
 have step:∀(k:Int) (y5:AR),∃z5,Ybg [↑(.lst [s0,s1,s2]),↑w,↑(.lst [x0,x1,x2]),↑(.int o),↑(.int k),y5]=some (.nx [↑(.lst [s0,s1,s2]),↑w,↑(.lst [x0,x1,x2]),↑(.int o),↑(.int k),z5]):=λk y5=>by
  have g1:=Int.emod_nonneg (k+o) (show(3:Int)≠0 by omega);have g2:=Int.emod_lt_of_pos (k+o) (show(0:Int)<3 by omega);have hm:modI (.int (k+o)) (.int 3)=some (.int ((k+o)%3)):=Ygx (by decide);generalize (k+o)%3=m at *;refine⟨some (.sh (.int m)),?_⟩
  have main:∀(s x:D),atI [s0,s1,s2] m=some s->atI [x0,x1,x2] m=some x->(x=.non\/∃b,x=.bl b/\dspD "says" tb_says s [w]=some (.bl b))->Ybg [↑(.lst [s0,s1,s2]),↑w,↑(.lst [x0,x1,x2]),↑(.int o),↑(.int k),y5]=some (.nx [↑(.lst [s0,s1,s2]),↑w,↑(.lst [x0,x1,x2]),↑(.int o),↑(.int k),↑(.int m)]):=λs x a1 a2 h=>by
   generalize [s0,s1,s2]=SS,[x0,x1,x2]=XX at *;rcases h with rfl|⟨b,rfl,hd⟩
   ·simp[Ybg,hm,a2]
   ·have hmd:Yp8 "says" tb_says (b2 (getC 0) (getC 5) ixD) (Yg (getV 1) aNil) [↑(.lst SS),↑w,↑(.lst XX),↑(.int o),↑(.int k),↑(.int m)]=some (.bl b):=by
     unfold Yp8;simp[a1];exact hd
    have hb:=y5s b b;simp at hb;simp[Ybg,hm,a2,hmd,hb]
  have:m=0\/m=1\/m=2:=by omega
  rcases this with rfl|rfl|rfl
  ·exact main s0 x0 rfl rfl h0
  ·exact main s1 x1 rfl rfl h1
  ·exact main s2 x2 rfl rfl h2
 have hg:=Yjj (n:=(3:Int)) (by omega) (by omega);rw[Yf8]at hg
 obtain⟨ρ',e1,y4,y5,rfl⟩:=Ycr (gt:=gSet 4) (fb:=Ybg) (λi:Nat=>D.int ((0:Int)+(i:Nat))) (λpre ρ=>∃(y4 y5:AR),ρ=[↑(.lst [s0,s1,s2]),↑w,↑(.lst [x0,x1,x2]),↑(.int o),y4,y5]) (List.range ((3:Int)-0).toNat) []
  [↑(.lst [s0,s1,s2]),↑w,↑(.lst [x0,x1,x2]),↑(.int o),none,none] ⟨_,_,rfl⟩ (by
   rintro q c r ρ e ⟨y4,y5,rfl⟩;obtain⟨z5,hz⟩:=step ((0:Int)+(c:Nat)) y5
   exact⟨_,_,rfl,hz,_,_,rfl⟩)
 generalize (List.range ((3:Int)-0).toNat).map (λi:Nat=>D.int ((0:Int)+(i:Nat)))=RG,[s0,s1,s2]=SS,[x0,x1,x2]=XX at *;simp[Ylq,hg,e1]
def plA(H:AH)(a i:Nat)(h:Bool):Nat:=a+(H.take i).count h
def plB'(A U:AG)(H:AH)(a b i:Nat):Bool:=if H.getD i false=true then rwB A (plA H a i true)else rwB U (plA H b i false)
def evo(A U:AG)(H:AH)(a b n:Nat):AH:=(List.range n).map (plB' A U H a b)
theorem Yfc(A U:AG)(H:AH)(a b n:Nat):(evo A U H a b n).length=n:=by unfold evo;simp
theorem Yr1(A U:AG)(H:AH)(a b n:Nat):evo A U H a b (n+1)=evo A U H a b n++[plB' A U H a b n]:=by
 unfold evo;rw[List.range_succ,wt];rfl
theorem Yhl{H:AH}{a i:Nat}{h:Bool}(hi:i<H.length):plA H a (i+1) h=if H.getD i false=h then plA H a i h+1 else plA H a i h:=by
 have e:H.getD i false=H[i]:=by simp[hi]
 unfold plA;rw[List.take_succ_eq_append_getElem hi,List.count_append,e];by_cases z:H[i]=h
 ·rw[if_pos z,z]
  simp;omega
 ·rw[if_neg z]
  simp[z]
structure Pst(t:Hs)(l x y:Addr)(A U:AG)(a b:Nat)(ev:AH):Prop where
 w:t l=some (.bls ev)
 k:Row t x true A a
 s:Row t y false U b
theorem Row.ne2{t:Hs}{x y:Addr}{A U:AG}{n m:Nat}(h:Row t x true A n)(g:Row t y false U m):x≠y:=by
 obtain⟨C,dx,va,vb,vc,h⟩:=h;obtain⟨C',dx',va',vb',vc',g⟩:=g;intro e;rw[e,g]at h;injection h with h;injection h with _ _ _ _ _ h;injection h with h
 revert h
 show hdD false=hdD true->False;intro h;have:eqM false (hdD false) (hdD true)=some false:=Yo9 false true;rw[h,Yo9 true true]at this;cases this
theorem Yr2{L:AX}{H ev:AH}{l:Addr}{t:Hs}{ρ:Ro}{fo:AV}{ga:AW}{Q:D->Hs->Prop}(ho:fo ρ=some (watD (Yn .e (L.map Rl.ei)) (.tup (H.map hnD)) (.adr l))){c:Bool}(hg:ga ρ=some [.bl c])(hl:t l=some (.bls ev))(hlt:ev.length<H.length)(hH:H.length<=60)(hR:∀r∈L.map Rl.ei,OkR .e H.length r/\sz r<=9999)
 (k:∀d,Q d (pt t l (some (.bls (ev++[c]))))):Ymp "settle" Yg3 fo ga ρ t Q:=
 ⟨_,_,"Watch",wks,Ybk,λ_ t'=>t'=pt t l (some (.bls (ev++[c]))),ho,hg,rfl,by decide,rfl,Yys hl hlt hH hR c rfl,λd t' e=>by rw[e];exact k d⟩
theorem Ynk{t:Hs}{x:Addr}{mb hb:Bool}{A:AG}{n:Nat}{ρ:Ro}{fo:AV}{ga:AW}{Q:D->Hs->Prop}{b:D}(h:Row t x mb A n)(ho:fo ρ=some (.adr x))(hg:ga ρ=some [hdD hb,b])(k:∀t',Row t' x mb A (if hb=mb then n+1 else n)->(∀a,a≠x->t' a=t a)->Q .non t'):Ymp "sees" tb_sees fo ga ρ t Q:=by
 have hc:clsH t (.adr x)=some (("Rowed":Str),rwk):=by
  obtain⟨C,dx,va,vb,vc,h⟩:=h
  show(match t x with
   | some (.ins c _ _ ks _ _)=>some (c,ks)
   | _=>none)=_
  rw[h]
 exact⟨_,_,"Rowed",rwk,Ycf,λd t'=>d=.non/\Row t' x mb A (if hb=mb then n+1 else n)/\∀a,a≠x->t' a=t a,ho,hg,hc,by decide,rfl,y54 h b λt' g1 g2=>⟨rfl,g1,g2⟩,λd t' e=>by
  obtain⟨rfl,g1,g2⟩:=e
  exact k t' g1 g2⟩
section
variable {L:AX}{H:AH}{l x y:Addr}{A U:AG}{a b:Nat}
abbrev Wx(L:AX)(H:AH)(l:Addr):D:=watD (Yn .e (L.map Rl.ei)) (.tup (H.map hnD)) (.adr l)
theorem Ywh{t:Hs}{i:Nat}(hi:i<H.length)(hH:H.length<=60)(hR:∀r∈L.map Rl.ei,OkR .e H.length r/\sz r<=9999)(P:Pst t l x y A U (plA H a i true) (plA H b i false) (evo A U H a b i))(y3 y4 y5:AR){Q:OutW Hs->Prop}
 (k:∀z3 z4 z5 t',Pst t' l x y A U (plA H a (i+1) true) (plA H b (i+1) false) (evo A U H a b (i+1))->Q (.nx [↑(Wx L H l),↑(.adr x),↑(.adr y),z3,z4,z5] t')) :
 Yct [↑(Wx L H l),↑(.adr x),↑(.adr y),y3,y4,y5] t Q:=by
 have hlt:(evo A U H a b i).length<H.length:=by rw[Yfc];exact hi
 have hgi:H.getD i false=H[i]:=by simp[hi]
 have t1:=Yke (H:=H) (L:=L) P.w;have m1:=Yni (Yn .e (L.map Rl.ei)) (.tup (H.map hnD)) (.lst ((evo A U H a b i).map D.bl));rw[Yrz (Nat.le_of_lt hlt),Ykc hlt,Yyq]at m1
 have hhi:H[(evo A U H a b i).length]=H.getD i false:=by simp[Yfc,hi]
 rw[hhi]at m1;unfold Yct;refine Ykd ⟨hdD (H.getD i false),?_,rfl,?_⟩
 ·show(b1 (getV 0) (mthD "Watch" "turn" Yab)) (some (.sh (thD t (Wx L H l)))::_)=_
  rw[t1];simp only[Ysr,gV0,qc];exact m1
 generalize hq:H.getD i false=h at *;unfold Yg8;have hk:eqM false (hdD h) (.str "keeper")=some (h==true):=Yo9 h true;refine Yb1 (ρ':=[↑(Wx L H l),↑(.adr x),↑(.adr y),↑(hdD h),↑(.adr (if h=true then x else y)),y5]) ?_ ?_
 ·show sSet 4 (ifV (b2 (getC 3) (kD (.str "keeper")) (eqM false)) (getV 1) (getV 2)) [↑(Wx L H l),↑(.adr x),↑(.adr y),↑(hdD h),y4,y5]=_
  generalize hdD h=hh,Wx L H l=ww at *;cases h<;>simp[hk]
 unfold Yg7;refine Ykd ⟨.bl (plB' A U H a b i),?_,rfl,?_⟩
 ·have hm:thD t (.adr (if h=true then x else y))=if h=true then roD true A (plA H a i true)else roD false U (plA H b i false):=by
   cases h
   ·exact P.s.th
   ·exact P.k.th
  show Yp8 "says" tb_says (getV 4) (Yg (getV 0) aNil) [↑(thD t (Wx L H l)),↑(thD t (.adr x)),↑(thD t (.adr y)),↑(thD t (hdD h)),↑(thD t (.adr (if h=true then x else y))),Option.map (thB t) y5]=_;rw[hm];generalize thD t (Wx L H l)=ww,thD t (.adr x)=w1,thD t (.adr y)=w2,thD t (hdD h)=w3 at *;unfold plB';rw[hq];unfold Yp8;cases h
  ·have:=Ywc false U (plA H b i false) ww
   simp;exact this
  ·have:=Ywc true A (plA H a i true) ww
   simp;exact this
 have he:=Yr1 A U H a b i;generalize plB' A U H a b i=c at *;unfold Yg6;refine Yv8 (Yr2 (ev:=evo A U H a b i) rfl rfl P.w hlt hH hR λd=>?_);rw[<-he];have nx:=P.k.ne P.w;have ny:=P.s.ne P.w;have nxy:=P.k.ne2 P.s;have k1:Row (pt t l (some (.bls (evo A U H a b (i+1))))) x true A (plA H a i true):=P.k.of (Yay nx);have s1:Row (pt t l (some (.bls (evo A U H a b (i+1))))) y false U (plA H b i false):=P.s.of (Yay ny);have w1:pt t l (some (.bls (evo A U H a b (i+1)))) l=some (.bls (evo A U H a b (i+1))):=Yaa;generalize pt t l (some (.bls (evo A U H a b (i+1))))=t1 at *;unfold Yg5;refine Yv8 (Ynk (hb:=h) (b:=.bl c) k1 rfl rfl λt2 k2 f2=>?_);have s2:Row t2 y false U (plA H b i false):=s1.of (f2 y (Ne.symm nxy));unfold Yg4;show Ymp "sees" tb_sees _ _ _ _ _;refine Ynk (hb:=h) (b:=.bl c) s2 rfl rfl λt3 s3 f3=>?_;refine k _ _ _ t3 ⟨by rw[f3 l (Ne.symm ny),f2 l (Ne.symm nx)];exact w1,?_,?_⟩
 ·rw[Yhl hi,hq]
  exact k2.of (f3 x nxy)
 ·rw[Yhl hi,hq]
  exact s3
theorem Ype(hH:H.length<=60)(hR:∀r∈L.map Rl.ei,OkR .e H.length r/\sz r<=9999){Q:OutW Hs->Prop}(k:∀z3 z4 z5 t',Pst t' l x y A U (plA H a H.length true) (plA H b H.length false) (evo A U H a b H.length)->Q (.nx [↑(Wx L H l),↑(.adr x),↑(.adr y),z3,z4,z5] t')) :
 ∀(j i:Nat) (t:Hs) (y3 y4 y5:AR),i+j=H.length->Pst t l x y A U (plA H a i true) (plA H b i false) (evo A U H a b i)->Ylk (rdT (b2 (b1 (getV 0) (mthD "Watch" "turn" Yab)) (kD .non) (isN true))) Yct (j+1) [↑(Wx L H l),↑(.adr x),↑(.adr y),y3,y4,y5] t Q
 | j,i,t,y3,y4,y5,e,P=>by
   have hle:(evo A U H a b i).length<=H.length:=by rw[Yfc];omega
   have t1:=Yke (H:=H) (L:=L) P.w;have m1:=Yni (Yn .e (L.map Rl.ei)) (.tup (H.map hnD)) (.lst ((evo A U H a b i).map D.bl));rw[Yrz hle]at m1
   have ht:rdT (b2 (b1 (getV 0) (mthD "Watch" "turn" Yab)) (kD .non) (isN true)) [↑(Wx L H l),↑(.adr x),↑(.adr y),y3,y4,y5] t=isN true (Ysz H (evo A U H a b i)) .non:=by
    show b2 (b1 (getV 0) (mthD "Watch" "turn" Yab)) (kD .non) (isN true) (some (.sh (thD t (Wx L H l)))::_)=_;rw[t1];simp only[Yxu,Ysr,gV0,qc,y1w];rw[m1,qc]
   cases j with
   | zero=>
     have e':i=H.length:=by omega
     subst e';rw[Yqq (by rw[Yfc];omega)]at ht;exact⟨false,ht.trans rfl,λz=>(nomatch z),λ_=>k y3 y4 y5 t P⟩
   | succ j=>
     have hi:i<H.length:=by omega
     rw[Ykc (by rw[Yfc];exact hi)]at ht;refine⟨true,ht.trans rfl,λ_=>?_,λz=>(nomatch z)⟩;refine Ywh hi hH hR P y3 y4 y5 λz3 z4 z5 t' P'=>?_;exact Ype hH hR k j (i+1) t' z3 z4 z5 (by omega) P'
theorem Ys2{t:Hs}(hH:H.length<=60)(hR:∀r∈L.map Rl.ei,OkR .e H.length r/\sz r<=9999)(P:Pst t l x y A U a b []){R:D->Hs->Prop}
 (k:∀t',Pst t' l x y A U (plA H a H.length true) (plA H b H.length false) (evo A U H a b H.length)->R (wonO .e (L.map Rl.ei) H (evo A U H a b H.length)) t'):Yfl [Wx L H l,.adr x,.adr y] t R:=by
 unfold Yfl runH;have hst:Yw 6 [Wx L H l,.adr x,.adr y]=[↑(Wx L H l),↑(.adr x),↑(.adr y),none,none,none]:=rfl;rw[hst];unfold Ylm
 have h0:∀(n:Nat) h,plA H n 0 h=n:=λn h=>by unfold plA;simp
 refine⟨H.length+1,Ype (A:=A) (U:=U) (a:=a) (b:=b) hH hR ?_ H.length 0 t none none none (by omega) ?_⟩
 ·intro z3 z4 z5 t' P'
  have t1:=Yke (H:=H) (L:=L) P'.w;have m4:=Yh3 (Yn .e (L.map Rl.ei)) (.tup (H.map hnD)) (.lst ((evo A U H a b H.length).map D.bl));rw[Yng (by rw[Yfc];omega) hR]at m4;refine⟨_,?_,Yzv _ _ _ _,k t' P'⟩;show b1 (getV 0) (mthD "Watch" "winner" Yae) (some (.sh (thD t' (Wx L H l)))::_)=_;rw[t1];simp only[Ysr,gV0,qc];exact m4
 ·rw[h0,h0]
  exact P
end
section
variable {L:AX}{H:AH}{A U:AG}
abbrev txK:AQ:=[.str "keeper",.str "storm"]
theorem Yzz(a b:D)(h:Bool):getS (.dct false txK [a,b]) (hdD h)=some (if h=true then a else b):=by
 cases h<;>rfl
theorem y2r(a b d:D)(h:Bool):y2f txK [a,b] (hdD h) d=some (if h=true then [d,b]else [a,d]):=by
 cases h<;>rfl
@[simp] theorem ap_sPutS{ρ:Ro}(i:Nat)(fi f:AV):y2g i fi f ρ=(f ρ).bind λd=>(Yoe i ρ).bind λl=>(fi ρ).bind λk=>(y2f l.1 l.2 k d).map λvs=>.nx (ρ.set i (some (.od false l.1 vs))):=nr1 rfl
theorem Yyt(hH:H.length<=60)(a b:Nat)(c0 c1 c2 c4 c6 c7 c8 c10:AR):∃z10,M.forM (gSet 10) Yaf (H.map hdD) [c0,c1,c2,some (.od false txK [.lst (A.map D.int),.lst (U.map D.int)]),c4,some (.od false txK [.int a,.int b]),c6,c7,c8,some (.ow []),c10] =
 some (.nx [c0,c1,c2,some (.od false txK [.lst (A.map D.int),.lst (U.map D.int)]),c4,some (.od false txK [.int (plA H a H.length true:Nat),.int (plA H b H.length false:Nat)]),c6,c7,c8,some (.ow ((evo A U H a b H.length).map D.bl)),z10]):=by
 obtain⟨ρ',e1,z10,rfl⟩:=Ycr (gt:=gSet 10) (fb:=Yaf) hdD (λpre ρ=>∃z10:AR,ρ=[c0,c1,c2,some (.od false txK [.lst (A.map D.int),.lst (U.map D.int)]),c4,some (.od false txK [.int (plA H a pre.length true:Nat),.int (plA H b pre.length false:Nat)]),c6,c7,c8,some (.ow ((evo A U H a b pre.length).map D.bl)),z10]) H []
  [c0,c1,c2,some (.od false txK [.lst (A.map D.int),.lst (U.map D.int)]),c4,some (.od false txK [.int a,.int b]),c6,c7,c8,some (.ow []),c10] ⟨c10,by simp[plA,evo]⟩ (by
   rintro q h r ρ e ⟨z10,rfl⟩;rw[List.nil_append]at e
   have hi:q.length<H.length:=by rw[e];simp
   have hgi:H.getD q.length false=h:=by rw[e];simp
   have hsz:(q++[h]).length=q.length+1:=by simp
   rw[hsz];refine⟨_,[c0,c1,c2,some (.od false txK [.lst (A.map D.int),.lst (U.map D.int)]),c4,some (.od false txK [.int (plA H a (q.length+1) true:Nat),.int (plA H b (q.length+1) false:Nat)]),c6,c7,c8,some (.ow ((evo A U H a b (q.length+1)).map D.bl)),↑(hdD h)],rfl,?_,_,rfl⟩;have p1:=Yhl (a:=a) (h:=true) hi;have p2:=Yhl (a:=b) (h:=false) hi;rw[hgi]at p1 p2;have he:=Yr1 A U H a b q.length;have hel:=Yfc A U H a b q.length
   have hp:plB' A U H a b q.length=if h=true then rwB A (plA H a q.length true)else rwB U (plA H b q.length false):=by unfold plB';rw[hgi]
   rw[hp]at he
   have hmap:(evo A U H a b (q.length+1)).map D.bl=(evo A U H a b q.length).map D.bl++[.bl (if h=true then rwB A (plA H a q.length true)else rwB U (plA H b q.length false))]:=by rw[he,wt];rfl
   have happ:∀d:D,appD ((evo A U H a b q.length).map D.bl) d=some ((evo A U H a b q.length).map D.bl++[d]):=λd=>Yml (by rw[qe,hel];omega);rw[p1,p2,hmap]
   have key:∀(X:AG) (n:Nat),(∃b1:Bool,ltI (.int (n:Int)) (.int (X.length:Int))=some b1/\(b1=true->∃v,atI (X.map D.int) (n:Int)=some (.int v)/\rwB X n=decide (v%2=1))/\(b1=false->rwB X n=false)):=λX n=>by
    by_cases hn:n<X.length
    ·refine⟨true,by simp;omega,λ_=>⟨X.getD n 0,?_,?_⟩,λz=>(nomatch z)⟩
     ·rw[Ybw,Ya5 hn]
      simp[hn]
     ·unfold rwB
      simp[hn]
    ·refine⟨false,by simp;omega,λz=>(nomatch z),λ_=>?_⟩
     unfold rwB;simp[hn]
   have q1:=Yzz (.lst (A.map D.int)) (.lst (U.map D.int)) h;have q2:=Yzz (.int (plA H a q.length true:Nat)) (.int (plA H b q.length false:Nat)) h;have q3:=λd=>y2r (.int (plA H a q.length true:Nat)) (.int (plA H b q.length false:Nat)) d h
   have lA:((A.map D.int).length:Int)=(A.length:Int):=by simp
   have lU:((U.map D.int).length:Int)=(U.length:Int):=by simp
   obtain⟨bA,kA1,kA2,kA3⟩:=key A (plA H a q.length true);obtain⟨bU,kU1,kU2,kU3⟩:=key U (plA H b q.length false);generalize (evo A U H a b q.length).map D.bl=EE,plA H a q.length true=na at *;generalize plA H b q.length false=nb,rwB A na=ra at *;generalize rwB U nb=ru,A.map D.int=AA,U.map D.int=UU at *;have q4:Yp (.lst AA)=some AA:=rfl
   cases h with
   | true=>
     simp only[if_true]at q1 q2 q3 p1 ⊢;generalize hdD true=hh,txK=TX at *
     cases bA with
     | true=>
       obtain⟨v,g1,g2⟩:=kA2 rfl;subst g2;simp at kA1;simp[Yaf,q1,q2,q3,lA,kA1,g1,happ,Yoe]
     | false=>
       have g2:=kA3 rfl;subst g2;simp at kA1
       have kA1':¬(na:Int)<(A.length:Int):=by omega
       simp[Yaf,q1,q2,q3,lA,kA1,kA1',happ,Yoe]
   | false=>
     simp only[Bool.false_eq_true,if_false,if_true]at q1 q2 q3 p2 ⊢;generalize hdD false=hh,txK=TX at *
     cases bU with
     | true=>
       obtain⟨v,g1,g2⟩:=kU2 rfl;subst g2;simp at kU1;simp[Yaf,q1,q2,q3,lU,kU1,g1,happ,Yoe]
     | false=>
       have g2:=kU3 rfl;subst g2;simp at kU1
       have kU1':¬(nb:Int)<(U.length:Int):=by omega
       simp[Yaf,q1,q2,q3,lU,kU1,kU1',happ,Yoe])
 rw[List.nil_append]at e1;exact⟨z10,e1⟩
end
section
variable {L:AX}{H:AH}{A U:AG}
theorem Ywi:∀ev:AH,depL (ev.map D.bl)<=1
 | []=>by simp
 | b::ev=>by simp[Ywi ev]
theorem y59{ev:AH}(h:ev.length<=60):eqM true (.tup (ev.map D.bl)) (.tup (ev.map D.bl))=some false:=by
 refine Yx0 ?_ ?_ true
 ·rw[Pl]
  refine⟨by rw[qe];omega,PlL_iff.mpr λd hd=>?_⟩;obtain⟨x,_,rfl⟩:=qw hd;simp[Pl]
 ·have:=Ywi ev
  simp;omega
theorem Yyu{t:Hs}{x y:Addr}{a b:Nat}(h0:0<H.length)(hH:H.length<=60)(hR:∀r∈L.map Rl.ei,OkR .e H.length r/\sz r<=9999)(hck:Yal [Yn .e (L.map Rl.ei),.lst (H.map hdD)]=some .non)(kx:Row t x true A a)(ky:Row t y false U b)(c2 c6 c7 c8 c9 c10:AR){Q:OutW Hs->Prop}
 (k:∀z7 z8 z9 z10 t' a' b',Row t' x true A a'->Row t' y false U b'->Q (.nx [↑(Yn .e (L.map Rl.ei)),↑(.lst (H.map hdD)),c2,some (.od false txK [.lst (A.map D.int),.lst (U.map D.int)]),↑(.lst [.adr x,.adr y]),some (.od false txK [.int (a':Nat),.int (b':Nat)]),c6,z7,z8,z9,z10] t')) :
 Ybz [↑(Yn .e (L.map Rl.ei)),↑(.lst (H.map hdD)),c2,some (.od false txK [.lst (A.map D.int),.lst (U.map D.int)]),↑(.lst [.adr x,.adr y]),some (.od false txK [.int (a:Nat),.int (b:Nat)]),c6,c7,c8,c9,c10] t Q:=by
 have htp:tupC [.lst (H.map hdD)]=some (.tup (H.map hnD)):=by rw[Ywa];simp
 unfold Ybz;refine Ykd (Yr0 (b:=Yn .e (L.map Rl.ei)) (h:=.lst (H.map hdD)) (l:=H.map hnD) rfl hck htp (Yqr L) (Ygf (λb=>by rw[Yyq];exact Ywe b) H) λl t1 tl hl f1=>?_)
 have nx:x≠l:=λe=>by
  obtain⟨C,dx,va,vb,vc,h⟩:=kx;rw[e,tl]at h;cases h
 have ny:y≠l:=λe=>by
  obtain⟨C,dx,va,vb,vc,h⟩:=ky;rw[e,tl]at h;cases h
 have P:Pst t1 l x y A U a b []:=⟨hl,kx.of (f1 x nx),ky.of (f1 y ny)⟩
 unfold Ydm;refine Ykd ⟨[Wx L H l,.adr x,.adr y],rfl,λd t'=>d=wonO .e (L.map Rl.ei) H (evo A U H a b H.length)/\Pst t' l x y A U (plA H a H.length true) (plA H b H.length false) (evo A U H a b H.length),Ys2 hH hR P λt' P'=>⟨rfl,P'⟩,λd t2 h2=>?_⟩;obtain⟨rfl,P2⟩:=h2;unfold Ydl;refine Yb1 (ρ':=[↑(Yn .e (L.map Rl.ei)),↑(.lst (H.map hdD)),c2,some (.od false txK [.lst (A.map D.int),.lst (U.map D.int)]),↑(.lst [.adr x,.adr y]),some (.od false txK [.int (a:Nat),.int (b:Nat)]),c6,↑(Wx L H l),↑(wonO .e (L.map Rl.ei) H (evo A U H a b H.length)),some (.ow []),c10]) rfl ?_;unfold Ydk;obtain⟨z10,hz⟩:=Yyt (H:=H) (A:=A) (U:=U) hH a b (some (.sh (Yn .e (L.map Rl.ei)))) (some (.sh (.lst (H.map hdD)))) c2 (some (.sh (.lst [.adr x,.adr y]))) c6 (some (.sh (Wx L H l))) (some (.sh (wonO .e (L.map Rl.ei) H (evo A U H a b H.length)))) c10;refine Yb1 (ρ':=[↑(Yn .e (L.map Rl.ei)),↑(.lst (H.map hdD)),c2,some (.od false txK [.lst (A.map D.int),.lst (U.map D.int)]),↑(.lst [.adr x,.adr y]),some (.od false txK [.int (plA H a H.length true:Nat),.int (plA H b H.length false:Nat)]),c6,↑(Wx L H l),↑(wonO .e (L.map Rl.ei) H (evo A U H a b H.length)),some (.ow ((evo A U H a b H.length).map D.bl)),z10]) ?_ ?_
 ·show sFor (b1 (getV 1) Yp) (gSet 10) Yaf _=_
  rw[y1z];have hi:b1 (getV 1) Yp [↑(Yn .e (L.map Rl.ei)),↑(.lst (H.map hdD)),c2,some (.od false txK [.lst (A.map D.int),.lst (U.map D.int)]),↑(.lst [.adr x,.adr y]),some (.od false txK [.int (a:Nat),.int (b:Nat)]),c6,↑(Wx L H l),↑(wonO .e (L.map Rl.ei) H (evo A U H a b H.length)),some (.ow []),c10]=some (H.map hdD):=rfl;rw[hi,qc];exact hz
 unfold Ydj;have t1':=Yke (H:=H) (L:=L) P2.w;have hev:=Yfc A U H a b H.length;have m4:=Yh3 (Yn .e (L.map Rl.ei)) (.tup (H.map hnD)) (.lst ((evo A U H a b H.length).map D.bl));rw[Yng (by omega) hR]at m4;have m5:=Ykf (Yn .e (L.map Rl.ei)) (.tup (H.map hnD)) (.lst ((evo A U H a b H.length).map D.bl));rw[Ypb]at m5;have hb:=y59 (ev:=evo A U H a b H.length) (by omega)
 obtain⟨w,hw⟩:∃w:String,wonO .e (L.map Rl.ei) H (evo A U H a b H.length)=.str (Str.ofString w):=by
  unfold wonO;rw[if_neg (by omega)];exact⟨_,rfl⟩
 have hq:=Yv3 w true;rw[hw]at m4 ⊢
 have htE:tupC [.lst ((evo A U H a b H.length).map D.bl)]=some (.tup ((evo A U H a b H.length).map D.bl)):=by simp[hev]
 refine⟨false,?_,λz=>(nomatch z),λ_=>k _ _ _ _ t2 _ _ P2.k P2.s⟩;show(orT (notT (b1 (mB (b1 (getC 8) (isiD "str"))) truD)) (orT (b2 (getC 8) (b1 (getV 7) (mthD "Watch" "winner" Yae)) (eqM true)) (b2 (b1 (getV 7) (mthD "Watch" "evening" Yad)) (cC (Yg (getC 9) aNil) tupC) (eqM true)))) [↑(thD t2 (Yn .e (L.map Rl.ei))),↑(thD t2 (.lst (H.map hdD))),Option.map (thB t2) c2,some (.od false txK [.lst (A.map D.int),.lst (U.map D.int)]),↑(thD t2 (.lst [.adr x,.adr y])),some (.od false txK [.int (plA H a H.length true:Nat),.int (plA H b H.length false:Nat)]),Option.map (thB t2) c6,↑(thD t2 (Wx L H l)),↑(thD t2 (.str (Str.ofString w))),some (.ow ((evo A U H a b H.length).map D.bl)),Option.map (thB t2) z10]=_;rw[t1',y5z];have his:isiD "str" (.str (Str.ofString w))=some true:=rfl;generalize thD t2 (Yn .e (L.map Rl.ei))=d0,thD t2 (.lst (H.map hdD))=d1,thD t2 (.lst [.adr x,.adr y])=d4,Option.map (thB t2) c2=e2,Option.map (thB t2) c6=e6,Option.map (thB t2) z10=e10 at *;have m4':mthD "Watch" "winner" Yae (wtD .e (L.map Rl.ei) H (evo A U H a b H.length))=some (.str (Str.ofString w)):=m4;have m5':mthD "Watch" "evening" Yad (wtD .e (L.map Rl.ei) H (evo A U H a b H.length))=some (.tup ((evo A U H a b H.length).map D.bl)):=m5;generalize wtD .e (L.map Rl.ei) H (evo A U H a b H.length)=ww,(evo A U H a b H.length).map D.bl=EE,Str.ofString w=sw,txK=TX,A.map D.int=AA,U.map D.int=UU at *;simp at htE;simp[his,m4',m5',hq,hb,htE]
theorem Yyv(X:AG)(hX:X.length<=63):∃U:AG,b2 (lF (Yci (cF (Yg (cC (Yg (getC 2) aNil) lenC) aNil) rng1) [none,some 2] (gSet 0) tY (Yam))) (lF (dLst (Yg (kD (.int 1)) aNil))) catD [↑(Yn .e (L.map Rl.ei)),↑(.lst (H.map hdD)),↑(.lst (X.map D.int)),none,none,none,none,none,none,none,none]=some (U.map D.int):=by
 have hg:=Yjj (n:=(X.length:Int)) (by omega) (by omega);rw[Yf8]at hg
 have el:((X.length:Int)-0).toNat=X.length:=by omega
 rw[el]at hg;simp only[Int.zero_add]at hg
 have hc:=Yp5 (fe:=Yam) (r:=[↑(.lst (X.map D.int))]) (enc:=λi:Nat=>D.int ((i:Nat):Int)) (λi:Nat=>D.int (X.getD i 0+(i:Int))) (l:=List.range X.length) (λi hi=>by
  have hi':=qz hi
  have hat:atI (X.map D.int) ((i:Nat):Int)=some (.int (X.getD i 0)):=by
   rw[Ybw,Ya5 hi'];simp[hi']
  generalize X.map D.int=XX at *
  simp[Yam,hat])
 have hm:((List.range X.length).map λi:Nat=>D.int (X.getD i 0+(i:Int)))=((List.range X.length).map λi:Nat=>X.getD i 0+(i:Int)).map D.int:=by rw[List.map_map];rfl
 rw[hm]at hc
 have hYl:((List.range X.length).map λi:Nat=>X.getD i 0+(i:Int)).length<=63:=by simp;exact hX
 generalize ((List.range X.length).map λi:Nat=>X.getD i 0+(i:Int))=Y at *;have hcat:catD (.lst (Y.map D.int)) (.lst [.int 1])=some (Y.map D.int++[.int 1]):=Yve (by simp;omega);refine⟨Y++[1],?_⟩;rw[wt]
 have hlen:((X.map D.int).length:Int)=(X.length:Int):=by simp
 generalize Y.map D.int=YY,X.map D.int=XX,Yn .e (L.map Rl.ei)=bk,H.map hdD=HH,(List.range X.length).map (λi:Nat=>D.int ((i:Nat):Int))=RG at *;simp[hlen,hg,capR,hc,hcat]
theorem Yqs(X:AG)(hX:X.length<=63)(h0:0<H.length)(hH:H.length<=60)(hR:∀r∈L.map Rl.ei,OkR .e H.length r/\sz r<=9999)(hck:Yal [Yn .e (L.map Rl.ei),.lst (H.map hdD)]=some .non):Yb0 [Yn .e (L.map Rl.ei),.lst (H.map hdD),.lst (X.map D.int)]=some (.bl true):=by
 obtain⟨U,hU⟩:=Yyv (L:=L) (H:=H) X hX;rw[Yb0,Yaq (by rfl)];have hst:Yw 11 [Yn .e (L.map Rl.ei),.lst (H.map hdD),.lst (X.map D.int)]=[↑(Yn .e (L.map Rl.ei)),↑(.lst (H.map hdD)),↑(.lst (X.map D.int)),none,none,none,none,none,none,none,none]:=rfl;rw[hst];unfold Yfb
 have hd:Yop 3 [(Str.ofString "keeper"),(Str.ofString "storm")] [(getV 2),(lF (b2 (lF (Yci (cF (Yg (cC (Yg (getC 2) aNil) lenC) aNil) rng1) [none,some 2] (gSet 0) tY (Yam))) (lF (dLst (Yg (kD (.int 1)) aNil))) catD))] [↑(Yn .e (L.map Rl.ei)),↑(.lst (H.map hdD)),↑(.lst (X.map D.int)),none,none,none,none,none,none,none,none]=some (.nx [↑(Yn .e (L.map Rl.ei)),↑(.lst (H.map hdD)),↑(.lst (X.map D.int)),some (.od false txK [.lst (X.map D.int),.lst (U.map D.int)]),none,none,none,none,none,none,none]):=by
  unfold Yop;rw[evs,evs,evs];rw[y7h,hU];rfl
 rw[Yva,hd,qc,Yxw]
 have hx:Yp9 Yco [↑(Yn .e (L.map Rl.ei)),↑(.lst (H.map hdD)),↑(.lst (X.map D.int)),some (.od false txK [.lst (X.map D.int),.lst (U.map D.int)]),none,none,none,none,none,none,none]=some (.rt (.bl true)):=by
  unfold Yp9;refine Yp6 ?_;unfold Yco
  have tX:tupC [.lst (X.map D.int)]=some (.tup (X.map D.int)):=by simp
  have hUl:U.length<=1000000:=by
   obtain⟨d1,d2,g1,g2,g3⟩:=Yi1 hU;unfold catD at g3
   split at g3
   ·split at g3
    ·rename_i hz
     have e:=congrArg List.length (w9 g3);rw[qx,qe]at e;have:cap6=1000000:=rfl;omega
    ·cases g3
   ·cases g3
  have tU:tupC [.lst (U.map D.int)]=some (.tup (U.map D.int)):=by simp
  refine Ykd (y5x (Ypc (Ynj (mb:=true) (r:=.lst (X.map D.int)) (A:=X) rfl tX λx t1 tx kx f1=>?_)));refine Ypc (Ynj (mb:=false) (r:=.lst (U.map D.int)) (A:=U) rfl tU λy t2 ty ky f2=>y5y ⟨show 2<=1000000 by omega,?_⟩)
  have nxy:x≠y:=λe=>by
   obtain⟨C,dx,va,vb,vc,h⟩:=kx;rw[e,ty]at h;cases h
  have kx2:=kx.of (f2 x nxy);unfold Ydo;refine Yb1 (ρ':=[↑(Yn .e (L.map Rl.ei)),↑(.lst (H.map hdD)),↑(.lst (X.map D.int)),some (.od false txK [.lst (X.map D.int),.lst (U.map D.int)]),↑(.lst [.adr x,.adr y]),some (.od false txK [.int (0:Nat),.int (0:Nat)]),none,none,none,none,none]) rfl ?_;unfold Ydn;have hg:=Yjj (n:=(2:Int)) (by omega) (by omega);rw[Yf8]at hg;refine Yzw (ds:=(List.range ((2:Int)-0).toNat).map λi:Nat=>D.int ((0:Int)+(i:Nat))) ?_ ?_
  ·simp only[y5d,Ydc,y1w,Yhx,qc,Option.map_some]
   exact hg
  refine Ynh (λi:Nat=>D.int ((0:Int)+(i:Nat))) (λ_ ρ t=>∃a b c6 c7 c8 c9 c10,Row t x true X a/\Row t y false U b/\ρ=[↑(Yn .e (L.map Rl.ei)),↑(.lst (H.map hdD)),↑(.lst (X.map D.int)),some (.od false txK [.lst (X.map D.int),.lst (U.map D.int)]),↑(.lst [.adr x,.adr y]),some (.od false txK [.int (a:Nat),.int (b:Nat)]),c6,c7,c8,c9,c10]) _ [] _ _ _ ⟨0,0,none,none,none,none,none,kx2,ky,rfl⟩ ?_ ?_
  ·rintro q i r ρ t Q e ⟨a,b,c6,c7,c8,c9,c10,g1,g2,rfl⟩ hq
   exact⟨_,rfl,Yyu h0 hH hR hck g1 g2 _ _ _ _ _ _ λz7 z8 z9 z10 t' a' b' w1 w2=>hq _ _ ⟨a',b',_,_,_,_,_,w1,w2,rfl⟩⟩
  ·rintro ρ t ⟨a,b,c6,c7,c8,c9,c10,g1,g2,rfl⟩
   exact⟨_,rfl,trivial⟩
 rw[Yd9,hx];rfl
end
section
variable {L:AX}{H ev:AH}{A ns:AG}{rows:List Prw}{mb:Bool}
abbrev LL(rows:List Prw)(L:AX)(H:AH)(mb:Bool)(x:Addr):D:=.lst [stD (hdD mb),.adr x,paD (hdD true) (ppD "plan" (rows.map prwD)) (Yn .e (L.map Rl.ei)) (.tup (H.map hdD)) (.int 0)]
theorem y6a{t:Hs}{x:Addr}{n:Nat}(h:Row t x mb A n):thD t (LL rows L H mb x)=.lst [stD (hdD mb),roD mb A n,paD (hdD true) (ppD "plan" (rows.map prwD)) (Yn .e (L.map Rl.ei)) (.tup (H.map hdD)) (.int 0)]:=by
 have h1:=h.th
 have h2:thD t (ppD "plan" (rows.map prwD))=ppD "plan" (rows.map prwD):=by
  show thD t (.tup [.str "plan",.tup (rows.map prwD)])=.tup [.str "plan",.tup (rows.map prwD)];rw[thD,thL,thL,thL,thD,thD,Yh2 (y52 t)]
 rw[thD,thL,thL,thL,thL,h1]
 have h3:thD t (stD (hdD mb))=stD (hdD mb):=by
  show thD t (.obj "Settler" ["hand"] [hdD mb])=.obj "Settler" ["hand"] [hdD mb];rw[thD,thL,thL,Yyr]
 have h4:thD t (paD (hdD true) (ppD "plan" (rows.map prwD)) (Yn .e (L.map Rl.ei)) (.tup (H.map hdD)) (.int 0))=paD (hdD true) (ppD "plan" (rows.map prwD)) (Yn .e (L.map Rl.ei)) (.tup (H.map hdD)) (.int 0):=by
  show thD t (.obj "Papered" ppk [hdD true,ppD "plan" (rows.map prwD),Yn .e (L.map Rl.ei),.tup (H.map hdD),.int 0])=.obj "Papered" ppk [hdD true,ppD "plan" (rows.map prwD),Yn .e (L.map Rl.ei),.tup (H.map hdD),.int 0];rw[thD,thL,thL,thL,thL,thL,thL,Yyr,h2,Ywb,Yzx,thD,Yh2 (Yyr t)]
 rw[h3,h4]
theorem Yyw{t:Hs}{x:Addr}{n i:Nat}(hi:i<H.length)(hei:i<ev.length)(kx:Row t x mb A n)(c0 c1 c3 c4 c5 c6 c7 c8 c10 c12 c14 c15 c16:AR){Q:OutW Hs->Prop}
 (k:∀z16 t',Row t' x mb A (if H.getD i false=mb then n+1 else n)->(∀a,a≠x->t' a=t a)->Q (.nx [c0,c1,↑(.lst (H.map hdD)),c3,c4,c5,c6,c7,c8,↑(LL rows L H mb x),c10,↑(.lst (ev.map D.bl)),c12,↑(.int i),c14,c15,z16] t')) :
 Ym6 [c0,c1,↑(.lst (H.map hdD)),c3,c4,c5,c6,c7,c8,↑(LL rows L H mb x),c10,↑(.lst (ev.map D.bl)),c12,↑(.int i),c14,c15,c16] t Q:=by
 have hat:atI (H.map hdD) (i:Int)=some (hdD (H.getD i false)):=by
  rw[Ybw,Ya5 hi];simp[hi]
 have hae:atI (ev.map D.bl) (i:Int)=some (.bl (ev.getD i false)):=by
  rw[Ybw,Ya5 hei];simp[hei]
 have hga:∀z:AR,Yg (b2 (getC 2) (getC 13) ixD) (Yg (b2 (getC 11) (getC 13) ixD) aNil) [c0,c1,↑(.lst (H.map hdD)),c3,c4,c5,c6,c7,c8,↑(LL rows L H mb x),c10,↑(.lst (ev.map D.bl)),c12,↑(.int i),c14,c15,z]=some [hdD (H.getD i false),.bl (ev.getD i false)]:=λz=>by
  generalize LL rows L H mb x=ll,hdD (H.getD i false)=hh,H.map hdD=HH,ev.map D.bl=EE at *;simp[hat,hae]
 generalize H.getD i false=h,ev.getD i false=e at *;unfold Ym6;refine⟨[stD (hdD mb),.adr x,paD (hdD true) (ppD "plan" (rows.map prwD)) (Yn .e (L.map Rl.ei)) (.tup (H.map hdD)) (.int 0)],rfl,?_⟩
 have stay:∀(z:AR) (d:D) (t:Hs) (P:OutW Hs->Prop),(∃c ks fn,clsH t d=some (c,ks)/\("sees":Str)∉ks/\tb_sees.lookup c=some fn/\fn=Ya9)->P (.nx [c0,c1,↑(.lst (H.map hdD)),c3,c4,c5,c6,c7,c8,↑(LL rows L H mb x),c10,↑(.lst (ev.map D.bl)),c12,↑(.int i),c14,c15,↑d] t)->
  Yhh [c0,c1,↑(.lst (H.map hdD)),c3,c4,c5,c6,c7,c8,↑(LL rows L H mb x),c10,↑(.lst (ev.map D.bl)),c12,↑(.int i),c14,c15,↑d] t P:=λz d t P hd hP=>by
  obtain⟨c,ks,fn,g1,g2,g3,rfl⟩:=hd;unfold Yhh
  exact⟨d,_,c,ks,Ya9,λv t'=>v=.non/\t'=t,rfl,hga _,g1,g2,g3,y53 _ _ _ ⟨rfl,rfl⟩,λv t' hv=>by
   obtain⟨rfl,rfl⟩:=hv
   exact⟨false,rfl,λz=>(nomatch z),λ_=>hP⟩⟩
 refine⟨_,rfl,stay c16 _ t _ ⟨_,_,_,rfl,by decide,rfl,rfl⟩ ?_⟩;refine⟨_,rfl,?_⟩;show Yhh [c0,c1,↑(.lst (H.map hdD)),c3,c4,c5,c6,c7,c8,↑(LL rows L H mb x),c10,↑(.lst (ev.map D.bl)),c12,↑(.int i),c14,c15,↑(.adr x)] t _;unfold Yhh
 refine Ynk (hb:=h) (b:=.bl e) kx rfl (hga _) λt1 k1 f1=>⟨false,rfl,λz=>(nomatch z),λ_=>?_⟩
 refine⟨_,rfl,?_⟩;exact stay c16 _ t1 _ ⟨_,_,_,rfl,by decide,rfl,rfl⟩ (k _ t1 k1 f1)
end
section
variable {L:AX}{H ev:AH}{A ns:AG}{rows:List Prw}{mb:Bool}
theorem y2s{α:Type}(f:α->D)(l:List α)(i:Nat):cutD (l.map f) none (some (i:Int))=(l.take i).map f:=by
 unfold cutD;rw[HT.sIx_nat,HT.sIx_none];simp
theorem Yz0(A:AG)(n:Nat)(ρ:Ro)(f1:getC 12 ρ=some (.int (n:Nat)))(f2:getC 6 ρ=some (.lst (A.map D.int))):andV (mB (b2 (getC 12) (cC (Yg (getC 6) aNil) lenC) ltI)) (mB (b2 (b2 (b2 (getC 6) (getC 12) ixD) (kD (.int 2)) modI) (kD (.int 1)) (eqM false))) ρ=some (.bl (rwB A n)):=by
 unfold rwB;by_cases h:n<A.length
 ·have hi:(n:Int)<(A.length:Int):=by omega
  have hat:atI (A.map D.int) (n:Int)=some (.int (A.getD n 0)):=by
   rw[Ybw,Ya5 h];simp[h]
  simp[f1,f2,hi,h,hat]
 ·have hi:¬(n:Int)<(A.length:Int):=by omega
  simp[f1,f2,hi,h]
theorem y6b(hr1:rows.map (·.1)=ofH H 0 true){i:Nat}(hi:i<H.length)(h:H.getD i false=true):∃r∈rows,r.1=i:=by
 have:i∈rows.map (·.1):=by rw[hr1];exact mem_ofH.mpr ⟨hi,Qc _,h⟩
 obtain⟨r,hr,e⟩:=qw this;exact⟨r,hr,e⟩
theorem Ywj(hr1:rows.map (·.1)=ofH H 0 true):(rows.map (·.1)).Nodup:=by
 rw[hr1];unfold ofH;exact List.nodup_range.filter _
theorem Yyx{t:Hs}{x l:Addr}{i:Nat}(hi:i<H.length)(hev:ev.length=H.length)(hH:H.length<=60)(hR:∀r∈L.map Rl.ei,OkR .e H.length r/\sz r<=9999)(hr1:rows.map (·.1)=ofH H 0 true)(hr2:∀r∈rows,∀x,r.2.1=some x->x<r.1/\x∈ofH H 0 false)
 (kx:Row t x mb A (plA H 0 i mb)) (hl:t l=some (.bls (ev.take i))) (c1 c7 c8 c14 c15 c16:AR) {Q:OutW Hs->Prop}
 (k:∀z13 z14 z15 z16 t',Row t' x mb A (plA H 0 (i+1) mb)->t' l=some (.bls (ev.take (i+1)))->Q (.nx [↑(.scr ns),c1,↑(.lst (H.map hdD)),↑(.tup (rows.map prwD)),↑(Yn .e (L.map Rl.ei)),↑(hdD mb),↑(.lst (A.map D.int)),c7,c8,↑(LL rows L H mb x),↑(Wx L H l),↑(.lst (ev.map D.bl)),↑(.int (plA H 0 (i+1) mb:Nat)),z13,z14,z15,z16] t')) :
 Ym7 [↑(.scr ns),c1,↑(.lst (H.map hdD)),↑(.tup (rows.map prwD)),↑(Yn .e (L.map Rl.ei)),↑(hdD mb),↑(.lst (A.map D.int)),c7,c8,↑(LL rows L H mb x),↑(Wx L H l),↑(.lst (ev.map D.bl)),↑(.int (plA H 0 i mb:Nat)),↑(.int (i:Nat)),c14,c15,c16] t Q:=by
 have hat:atI (H.map hdD) (i:Int)=some (hdD (H.getD i false)):=by
  rw[Ybw,Ya5 hi];simp[hi]
 have hae:atI (ev.map D.bl) (i:Int)=some (.bl (ev.getD i false)):=by
  rw[Ybw,Ya5 (show i<ev.length by omega)];simp[show i<ev.length by omega]
 have hmine:=Yo9 (H.getD i false) mb;have hkeep:eqM false (hdD (H.getD i false)) (.str "keeper")=some (H.getD i false==true):=Yo9 _ true;have hps:=Yhl (a:=0) (h:=mb) hi;unfold Ym7;refine Yb1 (ρ':=[↑(.scr ns),c1,↑(.lst (H.map hdD)),↑(.tup (rows.map prwD)),↑(Yn .e (L.map Rl.ei)),↑(hdD mb),↑(.lst (A.map D.int)),c7,c8,↑(LL rows L H mb x),↑(Wx L H l),↑(.lst (ev.map D.bl)),↑(.int (plA H 0 i mb:Nat)),↑(.int (i:Nat)),some (.ow [.non,.non,.non]),c15,c16]) rfl ?_;unfold Yru
 obtain⟨x0,x1,hx0,hx1,e5⟩:∃x0 x1:D,(x0=.non\/x0=.bl false)/\(x1=.non\/x1=.bl (rwB A (plA H 0 i mb)))/\sIf (b2 (b2 (getC 2) (getC 13) ixD) (getC 5) (eqM false)) (sSeq (sOwn 14 (dLst (Yg (kD (.bl false)) (Yg (andV (mB (b2 (getC 12) (cC (Yg (getC 6) aNil) lenC) ltI)) (mB (b2 (b2 (b2 (getC 6) (getC 12) ixD) (kD (.int 2)) modI) (kD (.int 1)) (eqM false)))) (Yg (kD .non) aNil))))) (sSet 12 (b2 (getC 12) (kD (.int 1)) addI))) sNil [↑(.scr ns),c1,↑(.lst (H.map hdD)),↑(.tup (rows.map prwD)),↑(Yn .e (L.map Rl.ei)),↑(hdD mb),↑(.lst (A.map D.int)),c7,c8,↑(LL rows L H mb x),↑(Wx L H l),↑(.lst (ev.map D.bl)),↑(.int (plA H 0 i mb:Nat)),↑(.int (i:Nat)),some (.ow [.non,.non,.non]),c15,c16] =
  some (.nx [↑(.scr ns),c1,↑(.lst (H.map hdD)),↑(.tup (rows.map prwD)),↑(Yn .e (L.map Rl.ei)),↑(hdD mb),↑(.lst (A.map D.int)),c7,c8,↑(LL rows L H mb x),↑(Wx L H l),↑(.lst (ev.map D.bl)),↑(.int (plA H 0 (i+1) mb:Nat)),↑(.int (i:Nat)),some (.ow [x0,x1,.non]),c15,c16]):=by
  rw[hps];have hB:=λρ=>Yz0 A (plA H 0 i mb) ρ;by_cases hm:H.getD i false=mb
  ·refine⟨.bl false,.bl (rwB A (plA H 0 i mb)),.inr rfl,.inr rfl,?_⟩
   rw[if_pos hm];have hm':(H.getD i false==mb)=true:=beq_iff_eq.mpr hm;rw[hm']at hmine;have hbb:=Yz0 A (plA H 0 i mb) [↑(.scr ns),c1,↑(.lst (H.map hdD)),↑(.tup (rows.map prwD)),↑(Yn .e (L.map Rl.ei)),↑(hdD mb),↑(.lst (A.map D.int)),c7,c8,↑(LL rows L H mb x),↑(Wx L H l),↑(.lst (ev.map D.bl)),↑(.int (plA H 0 i mb:Nat)),↑(.int (i:Nat)),some (.ow [.non,.non,.non]),c15,c16] rfl rfl
   have hc3:([.bl false,.bl (rwB A (plA H 0 i mb)),.non]:AQ).length<=cap6:=show 3<=1000000 by omega
   rw[y5e]
   have ht:b2 (b2 (getC 2) (getC 13) ixD) (getC 5) (eqM false) [↑(.scr ns),c1,↑(.lst (H.map hdD)),↑(.tup (rows.map prwD)),↑(Yn .e (L.map Rl.ei)),↑(hdD mb),↑(.lst (A.map D.int)),c7,c8,↑(LL rows L H mb x),↑(Wx L H l),↑(.lst (ev.map D.bl)),↑(.int (plA H 0 i mb:Nat)),↑(.int (i:Nat)),some (.ow [.non,.non,.non]),c15,c16]=some true:=by
    clear hbb hB;generalize LL rows L H mb x=ll,Wx L H l=wl,hdD (H.getD i false)=hh,hdD mb=hm2,H.map hdD=HH at *;simp[hat,hmine]
   rw[ht,qc,if_pos rfl,Yva,y1y,y1x,Ydc,Ydc,hbb];generalize rwB A (plA H 0 i mb)=rb,LL rows L H mb x=ll,Wx L H l=wl at *;simp
  ·refine⟨.non,.non,.inl rfl,.inl rfl,?_⟩
   rw[if_neg hm];have hm':(H.getD i false==mb)=false:=beq_eq_false_iff_ne.mpr hm;rw[hm']at hmine;generalize LL rows L H mb x=ll,Wx L H l=wl,hdD (H.getD i false)=hh,hdD mb=hm2,H.map hdD=HH at *;simp[hat,hmine]
 refine Yb1 e5 ?_;unfold Yrt
 obtain⟨x2,hx2,e4⟩:∃x2:D,(x2=.non\/∃r∈rows,r.1=i/\x2=.bl (dueP r (ev.take i)))/\sIf (b2 (b2 (getC 2) (getC 13) ixD) (kD (.str "keeper")) (eqM false)) (Yi8 14 (kD (.int 2)) (cC (Yg (getV 3) (Yg (lF (slF (getC 11) none (some (getC 13)))) aNil)) Yby) setD) sNil [↑(.scr ns),c1,↑(.lst (H.map hdD)),↑(.tup (rows.map prwD)),↑(Yn .e (L.map Rl.ei)),↑(hdD mb),↑(.lst (A.map D.int)),c7,c8,↑(LL rows L H mb x),↑(Wx L H l),↑(.lst (ev.map D.bl)),↑(.int (plA H 0 (i+1) mb:Nat)),↑(.int (i:Nat)),some (.ow [x0,x1,.non]),c15,c16] =
  some (.nx [↑(.scr ns),c1,↑(.lst (H.map hdD)),↑(.tup (rows.map prwD)),↑(Yn .e (L.map Rl.ei)),↑(hdD mb),↑(.lst (A.map D.int)),c7,c8,↑(LL rows L H mb x),↑(Wx L H l),↑(.lst (ev.map D.bl)),↑(.int (plA H 0 (i+1) mb:Nat)),↑(.int (i:Nat)),some (.ow [x0,x1,x2]),c15,c16]):=by
  by_cases hm:H.getD i false=true
  ·obtain⟨r,hr,he⟩:=y6b hr1 hi hm
   have hp:=Ywg (Ywj hr1) hr (ev:=ev.take i) (by rw[List.length_take];omega) (λy hy=>by rw[List.length_take];have:=(hr2 r hr y hy).1;omega);refine⟨.bl (dueP r (ev.take i)),.inr ⟨r,hr,he,rfl⟩,?_⟩;have hm':(H.getD i false==true)=true:=beq_iff_eq.mpr hm;rw[hm']at hkeep;have hcut:=y2s D.bl ev i;have hset:∀d,setD [x0,x1,.non] (.int 2) d=some [x0,x1,d]:=λd=>rfl;generalize dueP r (ev.take i)=du,LL rows L H mb x=ll,Wx L H l=wl,hdD (H.getD i false)=hh,(ev.take i).map D.bl=ET,ev.map D.bl=EE,rows.map prwD=RR,H.map hdD=HH at *;simp[hat,hkeep,hcut,hp,hset]
  ·refine⟨.non,.inl rfl,?_⟩
   have hm':(H.getD i false==true)=false:=beq_eq_false_iff_ne.mpr hm;rw[hm']at hkeep;generalize LL rows L H mb x=ll,Wx L H l=wl,hdD (H.getD i false)=hh,H.map hdD=HH at *;simp[hat,hkeep]
 refine Yb1 e4 ?_;unfold Yrs;have c:=Yhi ns (3+i) (3+(i:Int)) (by omega);generalize ns.getD (3+i) 0=o at c;refine Yb1 (ρ':=[↑(.scr ns),c1,↑(.lst (H.map hdD)),↑(.tup (rows.map prwD)),↑(Yn .e (L.map Rl.ei)),↑(hdD mb),↑(.lst (A.map D.int)),c7,c8,↑(LL rows L H mb x),↑(Wx L H l),↑(.lst (ev.map D.bl)),↑(.int (plA H 0 (i+1) mb:Nat)),↑(.int (i:Nat)),some (.ow [x0,x1,x2]),↑(.int o),c16]) ?_ ?_
 ·generalize LL rows L H mb x=ll at *
  generalize Wx L H l=wl at *;simp[c]
 unfold Yrr
 have htk:(ev.take i).length=i:=by rw[List.length_take];omega
 refine y2n ?_ ?_
 ·have tL:=y6a (rows:=rows) (L:=L) (H:=H) kx
  have tW:=Yke (H:=H) (L:=L) hl
  have h0:x0=.non\/∃b,x0=.bl b/\dspD "says" tb_says (stD (hdD mb)) [wtD .e (L.map Rl.ei) H (ev.take i)]=some (.bl b):=by
   rcases hx0 with h|h
   ·exact .inl h
   ·exact .inr ⟨_,h,y55 _ _⟩
  have h1:x1=.non\/∃b,x1=.bl b/\dspD "says" tb_says (roD mb A (plA H 0 i mb)) [wtD .e (L.map Rl.ei) H (ev.take i)]=some (.bl b):=by
   rcases hx1 with h|h
   ·exact .inl h
   ·exact .inr ⟨_,h,Ywc _ _ _ _⟩
  have h2:x2=.non\/∃b,x2=.bl b/\dspD "says" tb_says (paD (hdD true) (ppD "plan" (rows.map prwD)) (Yn .e (L.map Rl.ei)) (.tup (H.map hdD)) (.int 0)) [wtD .e (L.map Rl.ei) H (ev.take i)]=some (.bl b):=by
   rcases hx2 with h|⟨r,hr,he,h⟩
   ·exact .inl h
   ·refine .inr ⟨_,h,?_⟩
    rw[y56];exact Yk2 (Ywj hr1) hr (by omega) (λy hy=>by have:=(hr2 r hr y hy).1;omega) _ _ _ L H
  have s1:=Yzy h0 h1 h2 o;have s2:=Yzy h0 h1 h2 (0-o);show Yod [9,14] (orT (notT (b1 (cC (Yg (getV 9) (Yg (getV 10) (Yg (getV 14) (Yg (getV 15) aNil)))) Yb7) truD)) (notT (b1 (cC (Yg (getV 9) (Yg (getV 10) (Yg (getV 14) (Yg (b2 (kD (.int 0)) (getC 15) subI) aNil)))) Yb7) truD))) [↑(thD t (.scr ns)),Option.map (thB t) c1,↑(thD t (.lst (H.map hdD))),↑(thD t (.tup (rows.map prwD))),↑(thD t (Yn .e (L.map Rl.ei))),↑(thD t (hdD mb)),↑(thD t (.lst (A.map D.int))),Option.map (thB t) c7,Option.map (thB t) c8,↑(thD t (LL rows L H mb x)),↑(thD t (Wx L H l)),↑(thD t (.lst (ev.map D.bl))),↑(thD t (.int (plA H 0 (i+1) mb:Nat))),↑(thD t (.int (i:Nat))),some (.ow [x0,x1,x2]),↑(thD t (.int o)),Option.map (thB t) c16]=_;rw[tL,tW,Yzx t o];generalize thD t (.scr ns)=d0,thD t (.lst (H.map hdD))=d2,thD t (.tup (rows.map prwD))=d3,thD t (Yn .e (L.map Rl.ei))=d4,thD t (hdD mb)=d5,thD t (.lst (A.map D.int))=d6,thD t (.lst (ev.map D.bl))=d11,thD t (.int (plA H 0 (i+1) mb:Nat))=d12,thD t (.int (i:Nat))=d13,wtD .e (L.map Rl.ei) H (ev.take i)=ww,stD (hdD mb)=s0,roD mb A (plA H 0 i mb)=q1,paD (hdD true) (ppD "plan" (rows.map prwD)) (Yn .e (L.map Rl.ei)) (.tup (H.map hdD)) (.int 0)=q2 at *;generalize [s0,q1,q2]=SS,[x0,x1,x2]=XX at *;simp at s2;simp[frz,frz1,s1,s2]
 unfold Yrq;have hnx:=kx.ne hl;refine Yv8 (Yr2 (c:=ev.getD i false) (ev:=ev.take i) rfl ?_ hl (by omega) hH hR λd=>?_)
 ·show Yg (b2 (getC 11) (getC 13) ixD) aNil [↑(.scr ns),c1,↑(.lst (H.map hdD)),↑(.tup (rows.map prwD)),↑(Yn .e (L.map Rl.ei)),↑(hdD mb),↑(.lst (A.map D.int)),c7,c8,↑(LL rows L H mb x),↑(Wx L H l),↑(.lst (ev.map D.bl)),↑(.int (plA H 0 (i+1) mb:Nat)),↑(.int (i:Nat)),some (.ow [x0,x1,x2]),↑(.int o),c16]=_
  generalize LL rows L H mb x=ll,Wx L H l=wl,ev.map D.bl=EE at *;simp[hae]
 have htk1:ev.take i++[ev.getD i false]=ev.take (i+1):=by
  rw[List.take_succ_eq_append_getElem (by omega)];simp[show i<ev.length by omega]
 rw[htk1];have k1:Row (pt t l (some (.bls (ev.take (i+1))))) x mb A (plA H 0 i mb):=kx.of (Yay hnx);refine Yyw (ev:=ev) hi (by omega) k1 _ _ _ _ _ _ _ _ _ _ _ _ _ λz16 t' w1 w2=>?_;refine k _ _ _ _ t' ?_ ?_
 ·rw[hps]
  exact w1
 ·rw[w2 l (Ne.symm hnx)]
  exact Yaa
end
theorem Ywk{n:Nat}{s t:Say}(hs:s.1<n)(ht:t.1<n)(hn:n<=60):∃l:AY,OkR .e n (.ei l)/\(∀x,x∈l↔x=s\/x=t)/\Ymg [sayD s,sayD t]=some (l.map sayD):=by
 have hp:prsD [sayD s,sayD t]=some [((s.1:Int),s.2),((t.1:Int),t.2)]:=rfl;by_cases e:s=t
 ·subst e
  refine⟨[s],⟨⟨rfl,by simpa using hs⟩,by simp[Srt]⟩,λx=>by simp,?_⟩;unfold Ymg;rw[hp,qc];dsimp only;rw[if_pos rfl];rfl
 ·have hne:((s.1:Int),s.2)≠((t.1:Int),t.2):=λz=>e (by
   have h1:=congrArg Prod.fst z;have h2:=congrArg Prod.snd z
   exact Prod.ext (by simpa using h1) h2)
  have hh:=y7j (s:=s) (t:=t) (by omega) (by omega) e;generalize hP:plt (t.1:Int) t.2 (s.1:Int) s.2=b
  have hS:Srt (.ei (if b=true then [t,s]else [s,t])):=by
   unfold plt at hP
   cases b with
   | true=>
     refine⟨by simp,?_⟩;simp[slt]
     split at hP
     ·rename_i he
      simp at hP;exact .inr ⟨by omega,hP⟩
     ·exact .inl (by simpa using hP)
   | false=>
     refine⟨by simp,?_⟩;simp[slt]
     split at hP
     ·rename_i he
      have h1:s.1=t.1:=by omega
      refine .inr ⟨h1,?_⟩;have h2:s.2≠t.2:=λz=>e (Prod.ext h1 z)
      revert hP h2
      cases s.2<;>cases t.2<;>simp
     ·rename_i he
      have:¬(t.1:Int)<(s.1:Int):=by simpa using hP
      exact .inl (by omega)
  refine⟨if b=true then [t,s]else [s,t],⟨⟨rfl,λx hx=>?_⟩,hS⟩,λx=>?_,?_⟩
  ·split at hx<;>simp at hx<;>rcases hx with rfl|rfl<;>assumption
  ·cases b with
   | true=>simp[or_comm]
   | false=>simp
  ·unfold Ymg
   rw[hp,qc];dsimp only;rw[if_neg hne,if_pos hh,hP];cases b<;>rfl
theorem Ynl{n:Nat}(hn:n<=60){rows:List Prw}(hsrc:∀r∈rows,∀x,r.2.1=some x->x<n/\x∉rows.map (·.1)){one other:Say}(h1:one.1<n)(h2:other.1<n) :
 ∃l:AY,OkR .e n (.ei l)/\Ypa (l.map (Ybc rows))=true/\Ydh [.tup (rows.map prwD),sayD one,sayD other]=some (rlD (.ei l)):=by
 have c1:=Ykb rows one;have c2:=Ykb rows other;have b1:=Yqp false (Ybc rows one);have b2:=Yqp true (Ybc rows one);have b3:=Yqp true (Ybc rows other);have s1:Yp (sayD one)=some [.int one.1,.bl one.2]:=rfl;rw[Ydh,Yaq (by rfl)];have hst:Yw 4 [.tup (rows.map prwD),sayD one,sayD other]=[↑(.tup (rows.map prwD)),↑(sayD one),↑(sayD other),none]:=rfl;rw[hst]
 have fin:∀(a b:Say),a.1<n->b.1<n->(Ybc rows a=(none,true)\/Ybc rows b=(none,true)\/flE (Ybc rows a)=Ybc rows b)->∃l:AY,OkR .e n (.ei l)/\Ypa (l.map (Ybc rows))=true/\Ymg [sayD a,sayD b]=some (l.map sayD):=λa b ha hb hk=>by
  obtain⟨l,g1,g2,g3⟩:=Ywk ha hb hn;exact⟨l,g1,y2m g2 hk,g3⟩
 by_cases d1:Ybc rows one=(none,false)
 ·have hfl:Ybc rows (one.1,!one.2)=(none,true):=by
   unfold Ybc at d1 ⊢;dsimp only
   cases hq:rows.find? (λr=>r.1==one.1)with
   | none=>rw[hq]at d1;cases d1
   | some r=>
     rw[hq]at d1;dsimp only at d1 ⊢;have g1:=congrArg Prod.fst d1;have g2:=congrArg Prod.snd d1;dsimp only at g1 g2;rw[g1]
     congr 1
     revert g2
     cases one.2<;>cases r.2.2<;>simp
  obtain⟨l,g1,g2,g3⟩:=fin (one.1,!one.2) other h1 h2 (.inl hfl);refine⟨l,g1,g2,?_⟩;have hrl:rlD (.ei l)=.tup (l.map sayD):=rfl;have hsay:sayD (one.1,!one.2)=.tup [.int one.1,.bl (!one.2)]:=rfl;rw[hrl];rw[hsay]at g3;rw[d1]at b1 c1;simp only[decide_true]at b1;generalize l.map sayD=ll,cmD (none,false)=cm,sayD one=so1,sayD other=so2,rows.map prwD=RR at *;simp[Ycg,c1,b1,s1,g3]
 simp only[d1,decide_false]at b1;by_cases d2:Ybc rows one=(none,true)
 ·obtain⟨l,g1,g2,g3⟩:=fin one other h1 h2 (.inl d2)
  refine⟨l,g1,g2,?_⟩;have hrl:rlD (.ei l)=.tup (l.map sayD):=rfl;rw[hrl];simp only[d2,decide_true]at b2;rw[d2]at b1 c1;generalize l.map sayD=ll,cmD (none,true)=cm,sayD one=so1,sayD other=so2,rows.map prwD=RR at *;simp[Ycg,c1,b1,b2,g3]
 simp only[d2,decide_false]at b2;by_cases d3:Ybc rows other=(none,true)
 ·obtain⟨l,g1,g2,g3⟩:=fin one other h1 h2 (.inr (.inl d3))
  refine⟨l,g1,g2,?_⟩;have hrl:rlD (.ei l)=.tup (l.map sayD):=rfl;rw[hrl];simp only[d3,decide_true]at b3;rw[d3]at c2;generalize l.map sayD=ll,cmD (none,true)=cm,cmD (Ybc rows one)=cm1,sayD one=so1,sayD other=so2,rows.map prwD=RR at *;simp[Ycg,c1,c2,b1,b2,b3,g3]
 ·simp only[d3,decide_false]at b3
  obtain⟨x,p,hx⟩:∃x p,Ybc rows one=(some x,p):=by
   cases hc:Ybc rows one with
   | mk o p=>
     cases o with
     | some x=>exact⟨x,p,rfl⟩
     | none=>cases p with
       | true=>exact absurd hc d2
       | false=>exact absurd hc d1
  have hxn:x<n/\x∉rows.map (·.1):=by
   unfold Ybc at hx
   cases hq:rows.find? (λr=>r.1==one.1)with
   | none=>
     rw[hq]at hx;dsimp only at hx;have e1:=congrArg Prod.fst hx;dsimp only at e1;cases e1;refine⟨h1,λhm=>?_⟩;obtain⟨r,hr,e⟩:=qw hm;rw[List.find?_eq_none]at hq;have:=hq r hr;simp at this;exact this e
   | some r=>
     rw[hq]at hx;dsimp only at hx;exact hsrc r (List.mem_of_find?_eq_some hq) x (congrArg Prod.fst hx)
  have hcx:Ybc rows (x,!p)=(some x,!p):=by
   unfold Ybc;rw[Yym (λr:Prw=>r.1) hxn.2]
  obtain⟨l,g1,g2,g3⟩:=fin one (x,!p) h1 hxn.1 (.inr (.inr (by rw[hx,hcx];rfl)));refine⟨l,g1,g2,?_⟩;have hrl:rlD (.ei l)=.tup (l.map sayD):=rfl;have hsay:sayD (x,!p)=.tup [.int x,.bl (!p)]:=rfl;rw[hrl];rw[hsay]at g3;rw[hx]at c1 b1 b2;have hci:Yp (cmD (some x,p))=some [.int x,.bl p]:=rfl;generalize l.map sayD=ll,cmD (some x,p)=cm,cmD (Ybc rows other)=cm1,sayD one=so1,sayD other=so2,rows.map prwD=RR at *;simp[Ycg,c1,c2,b1,b2,b3,hci,g3]
theorem Ynm(c:Int){n st:Nat}(hst:st<n)(hn:n<=60){rows:List Prw}(hsrc:∀r∈rows,∀x,r.2.1=some x->x<n/\x∉rows.map (·.1)){L:AX}(hL:L.length<=1000)(a0 a2 y7 y8 y9:AR) :
 ∃(l:AY) (z7 z8 z9:AR),OkR .e n (.ei l)/\Ypa (l.map (Ybc rows))=true/\Yan [a0,↑(.tup (rows.map prwD)),a2,↑(.int st),some (.ow (L.map λl=>rlD (.ei l))),↑(.int ((n:Int)-st)),↑(.int c),y7,y8,y9] =
  some (.nx [a0,↑(.tup (rows.map prwD)),a2,↑(.int st),some (.ow ((L++[l]).map λl=>rlD (.ei l))),↑(.int ((n:Int)-st)),↑(.int c),z7,z8,z9]):=by
 obtain⟨v,_,hv⟩:=Yqj c 1181783497276652981
 have hd:(0:Int)<(n:Int)-st:=by omega
 have key:∀x:Int,∃a:Nat,(st:Int)+x%((n:Int)-st)=(a:Int)/\a<n:=λx=>by
  have g1:=Int.emod_nonneg x (show(n:Int)-st≠0 by omega);have g2:=Int.emod_lt_of_pos x hd;exact⟨((st:Int)+x%((n:Int)-st)).toNat,by omega,by omega⟩
 obtain⟨a,ea,ha⟩:=key (v/4);obtain⟨b,eb,hb⟩:=key (v/4/((n:Int)-st));have hm:∀x:Int,modI (.int x) (.int ((n:Int)-st))=some (.int (x%((n:Int)-st))):=λx=>Ygx hd;have hdv:∀x:Int,divI (.int x) (.int ((n:Int)-st))=some (.int (x/((n:Int)-st))):=λx=>Yxy hd (by omega);obtain⟨l,g1,g2,g3⟩:=Ynl hn hsrc (one:=(a,decide (v%2=1))) (other:=(b,decide (v/2%2=1))) ha hb;refine⟨l,↑(.int v),↑(sayD (a,decide (v%2=1))),↑(sayD (b,decide (v/2%2=1))),g1,g2,?_⟩;have happ:∀d:D,appD (L.map λl=>rlD (.ei l)) d=some ((L.map λl=>rlD (.ei l))++[d]):=λd=>Yml (by rw[qe];omega)
 have hap:((L++[l]).map λl=>rlD (.ei l))=(L.map λl=>rlD (.ei l))++[rlD (.ei l)]:=by rw[wt];rfl
 rw[hap];have sa:sayD (a,decide (v%2=1))=.tup [.int a,.bl (decide (v%2=1))]:=rfl;have sb:sayD (b,decide (v/2%2=1))=.tup [.int b,.bl (decide (v/2%2=1))]:=rfl;rw[sa,sb]at g3 ⊢;generalize rlD (.ei l)=rr at *;generalize (L.map λl=>rlD (.ei l))=LL at *;generalize rows.map prwD=RR at *;simp[Yan,hst,hd,hv,hm,hdv,ea,eb,g3,happ]
theorem Yk3(ns:AG)(hns:ns.length<=63){hs:AH}(hl:hs.length<=60){st:Nat}(hst:st<=hs.length){rows:List Prw}(hsrc:∀r∈rows,∀x,r.2.1=some x->x<hs.length/\x∉rows.map (·.1)) :
 ∃L:AX,L.length<=63/\(∀l∈L,OkR .e hs.length (.ei l)/\Ypa (l.map (Ybc rows))=true)/\Ycv [.scr ns,.tup (rows.map prwD),.lst (hs.map hdD),.int st]=some (Yn .e (L.map Rl.ei)):=by
 have k2:=Yv2 ns 3 63;generalize hcl:(ns.drop (min 3 ns.length)).take (min 63 ns.length-min 3 ns.length)=cells at k2
 have hcl':cells.length<=63:=by
  rw[<-hcl,List.length_take,List.length_drop];omega
 have hlen:((hs.map hdD).length:Int)=(hs.length:Int):=by simp
 have hmain:∃(L:AX) (ρ':Ro),L.length<=63/\(∀l∈L,OkR .e hs.length (.ei l)/\Ypa (l.map (Ybc rows))=true)/\M.forM (gSet 6) Yan (cells.map D.int) [↑(.scr ns),↑(.tup (rows.map prwD)),↑(.lst (hs.map hdD)),↑(.int st),some (.ow []),↑(.int ((hs.length:Int)-st)),none,none,none,none]=some (.nx ρ')/\(∃y0 y1 y2 y3 y5 y6 y7 y8 y9,ρ'=[y0,y1,y2,y3,some (.ow (L.map λl=>rlD (.ei l))),y5,y6,y7,y8,y9]):=by
  by_cases h0:st<hs.length
  ·obtain⟨ρ',e1,L,y6,y7,y8,y9,hLl,hL,rfl⟩:=Ycr (gt:=gSet 6) (fb:=Yan) D.int (λpre ρ=>∃(L:AX) (y6 y7 y8 y9:AR),L.length=pre.length/\(∀l∈L,OkR .e hs.length (.ei l)/\Ypa (l.map (Ybc rows))=true)/\
    ρ=[↑(.scr ns),↑(.tup (rows.map prwD)),↑(.lst (hs.map hdD)),↑(.int st),some (.ow (L.map λl=>rlD (.ei l))),↑(.int ((hs.length:Int)-st)),y6,y7,y8,y9]) cells []
    [↑(.scr ns),↑(.tup (rows.map prwD)),↑(.lst (hs.map hdD)),↑(.int st),some (.ow []),↑(.int ((hs.length:Int)-st)),none,none,none,none] ⟨[],_,_,_,_,rfl,by simp,rfl⟩ (by
     rintro q c r ρ e ⟨L,y6,y7,y8,y9,hLl,hL,rfl⟩
     have hq:q.length<=63:=by
      have:=congrArg List.length e;simp at this;omega
     obtain⟨l,z7,z8,z9,g1,g2,hw⟩:=Ynm c h0 hl hsrc (L:=L) (by omega) (some (.sh (.scr ns))) (some (.sh (.lst (hs.map hdD)))) y7 y8 y9;refine⟨_,_,rfl,hw,L++[l],_,_,_,_,by simp[hLl],λx hx=>?_,rfl⟩;rcases qu hx with hx|hx
     ·exact hL x hx
     ·rw[List.mem_singleton]at hx
      subst hx
      exact⟨g1,g2⟩)
   exact⟨L,_,by rw[hLl];simpa using hcl',hL,e1,_,_,_,_,_,_,_,_,_,rfl⟩
  ·have hz:¬(0:Int)<(hs.length:Int)-st:=by omega
   obtain⟨ρ',e1,y6,rfl⟩:=Ycr (gt:=gSet 6) (fb:=Yan) D.int (λpre ρ=>∃y6:AR,ρ=[↑(.scr ns),↑(.tup (rows.map prwD)),↑(.lst (hs.map hdD)),↑(.int st),some (.ow []),↑(.int ((hs.length:Int)-st)),y6,none,none,none]) cells []
    [↑(.scr ns),↑(.tup (rows.map prwD)),↑(.lst (hs.map hdD)),↑(.int st),some (.ow []),↑(.int ((hs.length:Int)-st)),none,none,none,none] ⟨_,rfl⟩ (by
     rintro q c r ρ e ⟨y6,rfl⟩;refine⟨_,[↑(.scr ns),↑(.tup (rows.map prwD)),↑(.lst (hs.map hdD)),↑(.int st),some (.ow []),↑(.int ((hs.length:Int)-st)),↑(.int c),none,none,none],rfl,?_,_,rfl⟩;generalize rows.map prwD=RR,hs.map hdD=HH at *
     simp[Yan,h0,hz])
   exact⟨[],_,by simp,by simp,e1,_,_,_,_,_,_,_,_,_,rfl⟩
 obtain⟨L,ρ',hLen,hL,e1,y0,y1,y2,y3,y5,y6,y7,y8,y9,rfl⟩:=hmain;refine⟨L,hLen,hL,?_⟩
 have hbk:Yn .e (L.map Rl.ei)=.tup [.str "eithers",.tup (L.map λl=>rlD (.ei l))]:=by
  unfold Yn;rw[List.map_map];rfl
 rw[hbk,Ycv,Yaq (by rfl)];simp at k2;generalize (L.map λl=>rlD (.ei l))=LL,rows.map prwD=RR,hs.map hdD=HH at *;simp[Yha,Yw,hlen,k2,e1]
section
variable {L:AX}{H ev:AH}{A ns:AG}{rows:List Prw}{mb:Bool}
theorem y2t(t:Hs)(x:Addr){n:Nat}(kx:Row t x mb A n)(c0 c1 c2 c3 c4 c5 c6 c7 c8 c10 c11 c12 c13 c14 c15 c16:AR) :
 rdT (Yod [9] (notT (b1 (cC (Yg (lF (Yci (b1 (getV 9) Yp) [none] (gSet 0) tY (Yio))) aNil) allC) truD))) [c0,c1,c2,c3,c4,c5,c6,c7,c8,↑(LL rows L H mb x),c10,c11,c12,c13,c14,c15,c16] t=some false:=by
 have tL:=y6a (rows:=rows) (L:=L) (H:=H) kx;have hc:∀r:Ro,Yhq (gSet 0) tY Yio (none::r) [stD (hdD mb),roD mb A n,paD (hdD true) (ppD "plan" (rows.map prwD)) (Yn .e (L.map Rl.ei)) (.tup (H.map hdD)) (.int 0)]=some [.bl true,.bl true,.bl true]:=λr=>rfl;show Yod [9] (notT (b1 (cC (Yg (lF (Yci (b1 (getV 9) Yp) [none] (gSet 0) tY (Yio))) aNil) allC) truD)) [Option.map (thB t) c0,Option.map (thB t) c1,Option.map (thB t) c2,Option.map (thB t) c3,Option.map (thB t) c4,Option.map (thB t) c5,Option.map (thB t) c6,Option.map (thB t) c7,Option.map (thB t) c8,↑(thD t (LL rows L H mb x)),Option.map (thB t) c10,Option.map (thB t) c11,Option.map (thB t) c12,Option.map (thB t) c13,Option.map (thB t) c14,Option.map (thB t) c15,Option.map (thB t) c16]=_;rw[tL];generalize [stD (hdD mb),roD mb A n,paD (hdD true) (ppD "plan" (rows.map prwD)) (Yn .e (L.map Rl.ei)) (.tup (H.map hdD)) (.int 0)]=SS at *;have hb:blsD [D.bl true,D.bl true,D.bl true]=some [true,true,true]:=rfl;simp[frz,frz1,capR,hc,hb]
theorem Yyy(hns:ns.length<=63)(h0:0<H.length)(hH:H.length<=60)(hR:∀r∈L.map Rl.ei,OkR .e H.length r/\sz r<=9999)(hck:Yal [Yn .e (L.map Rl.ei),.lst (H.map hdD)]=some .non)(hr1:rows.map (·.1)=ofH H 0 true)(hr2:∀r∈rows,∀x,r.2.1=some x->x<r.1/\x∈ofH H 0 false)(hA:A.length<=63) :
 Yp9 Yvz [↑(.scr ns),↑(.int (H.length:Nat)),↑(.lst (H.map hdD)),↑(.tup (rows.map prwD)),↑(Yn .e (L.map Rl.ei)),↑(hdD mb),↑(.lst (A.map D.int)),some (.ow (A.map D.int)),some (.ow (H.map hdD)),none,none,none,none,none,none,none,none]=some (.rt (.bl true)):=by
 have tA:tupC [.lst (A.map D.int)]=some (.tup (A.map D.int)):=by simp
 have tH:tupC [.lst (H.map hdD)]=some (.tup (H.map hdD)):=by simp
 have tN:tupC [.lst (H.map hdD)]=some (.tup (H.map hnD)):=by rw[Ywa];simp
 unfold Yp9;refine Yp6 ?_;unfold Yvz;refine Ykd (y5x (Ypc (Ys0 (d:=hdD mb) rfl (Ywe mb) (Ypc (Ynj (mb:=mb) (r:=.lst (A.map D.int)) (A:=A) rfl tA λx t1 tx kx f1=>?_)))));refine Ypc (Ys1 (a:=hdD true) (b:=ppD "plan" (rows.map prwD)) (c:=Yn .e (L.map Rl.ei)) (h:=.lst (H.map hdD)) (l:=H.map hdD) ?_ tH (Ywe true) (y7m rows) (Yqr L) (Ygf Ywe H) (y5y ⟨show 3<=1000000 by omega,?_⟩))
 ·show Yg (kD (.str "keeper")) (Yg (dTup (Yg (kD (.str "plan")) (Yg (getV 3) aNil))) (Yg (getV 4) (Yg (getV 8) aNil))) [↑(.scr ns),↑(.int (H.length:Nat)),↑(.lst (H.map hdD)),↑(.tup (rows.map prwD)),↑(Yn .e (L.map Rl.ei)),↑(hdD mb),↑(.lst (A.map D.int)),some (.ow (A.map D.int)),↑(.lst (H.map hdD)),none,none,none,none,none,none,none,none]=_
  have hp:ppD "plan" (rows.map prwD)=.tup [.str "plan",.tup (rows.map prwD)]:=rfl;have hd:hdD true=.str "keeper":=rfl;rw[hp,hd];generalize hdD mb=hm,Yn .e (L.map Rl.ei)=bk,rows.map prwD=RR,H.map hdD=HH,A.map D.int=AA at *;simp
 unfold Yo5
 have hins:insD (A.map D.int) (.int 0) (.int 1)=some (.int 1::A.map D.int):=by
  unfold insD
  have h1:(A.map D.int).length<cap6:=by rw[qe,y15];omega
  simp;omega
 refine Yb1 (ρ':=[↑(.scr ns),↑(.int (H.length:Nat)),↑(.lst (H.map hdD)),↑(.tup (rows.map prwD)),↑(Yn .e (L.map Rl.ei)),↑(hdD mb),↑(.lst (A.map D.int)),some (.ow (.int 1::A.map D.int)),some (.ow (H.map hdD)),↑(LL rows L H mb x),none,none,none,none,none,none,none]) ?_ ?_
 ·show Yi8 7 (kD (.int 0)) (kD (.int 1)) insD [↑(.scr ns),↑(.int (H.length:Nat)),↑(.lst (H.map hdD)),↑(.tup (rows.map prwD)),↑(Yn .e (L.map Rl.ei)),↑(hdD mb),↑(.lst (A.map D.int)),some (.ow (A.map D.int)),some (.ow (H.map hdD)),↑(LL rows L H mb x),none,none,none,none,none,none,none]=_
  generalize LL rows L H mb x=ll,A.map D.int=AA at *;simp[hins]
 unfold Yo4;refine Yb1 (ρ':=[↑(.scr ns),↑(.int (H.length:Nat)),↑(.lst (H.map hdD)),↑(.tup (rows.map prwD)),↑(Yn .e (L.map Rl.ei)),↑(hdD mb),↑(.lst (A.map D.int)),some (.ow (.int 1::A.map D.int)),some (.ow []),↑(LL rows L H mb x),none,none,none,none,none,none,none]) rfl ?_;unfold Yo3;refine Ykd (Yr0 (b:=Yn .e (L.map Rl.ei)) (h:=.lst (H.map hdD)) (l:=H.map hnD) rfl hck tN (Yqr L) (Ygf (λb=>by rw[Yyq];exact Ywe b) H) λl t2 tl hl f2=>?_)
 have nx:x≠l:=λe=>by
  obtain⟨C,dx,va,vb,vc,h⟩:=kx;rw[e,tl]at h;cases h
 have kx2:=kx.of (f2 x nx);unfold Yo2;have c2:=Yhi ns 2 2 rfl;generalize ns.getD 2 0=cc at c2;obtain⟨ev,hev,hbits⟩:=Yzt cc H.length (by omega);refine Yb1 (ρ':=[↑(.scr ns),↑(.int (H.length:Nat)),↑(.lst (H.map hdD)),↑(.tup (rows.map prwD)),↑(Yn .e (L.map Rl.ei)),↑(hdD mb),↑(.lst (A.map D.int)),some (.ow (.int 1::A.map D.int)),some (.ow []),↑(LL rows L H mb x),↑(Wx L H l),↑(.lst (ev.map D.bl)),none,none,none,none,none]) ?_ ?_
 ·show sSet 11 (cC (Yg (cC (Yg (getV 0) (Yg (kD (.int 2)) aNil)) Yar) (Yg (getV 1) aNil)) Ycx) [↑(.scr ns),↑(.int (H.length:Nat)),↑(.lst (H.map hdD)),↑(.tup (rows.map prwD)),↑(Yn .e (L.map Rl.ei)),↑(hdD mb),↑(.lst (A.map D.int)),some (.ow (.int 1::A.map D.int)),some (.ow []),↑(LL rows L H mb x),↑(Wx L H l),none,none,none,none,none,none]=_
  generalize LL rows L H mb x=ll,Wx L H l=wl,ev.map D.bl=EE at *;simp[c2,hbits]
 unfold Yrx;refine Yb1 (ρ':=[↑(.scr ns),↑(.int (H.length:Nat)),↑(.lst (H.map hdD)),↑(.tup (rows.map prwD)),↑(Yn .e (L.map Rl.ei)),↑(hdD mb),↑(.lst (A.map D.int)),some (.ow (.int 1::A.map D.int)),some (.ow []),↑(LL rows L H mb x),↑(Wx L H l),↑(.lst (ev.map D.bl)),↑(.int (0:Nat)),none,none,none,none]) rfl ?_;unfold Yrw;have hg:=Yjj (n:=(H.length:Int)) (by omega) (by omega);rw[Yf8]at hg
 have el:((H.length:Int)-0).toNat=H.length:=by omega
 rw[el]at hg;simp only[Int.zero_add]at hg;refine Yzw (ds:=(List.range H.length).map λi:Nat=>D.int ((i:Nat):Int)) ?_ ?_
 ·simp only[y5d,Ydc,Yhx,gVs,gV0,qc,Option.map_some]
  exact hg
 refine Ynh (λi:Nat=>D.int ((i:Nat):Int)) (λpre ρ t=>Row t x mb A (plA H 0 pre.length mb)/\t l=some (.bls (ev.take pre.length))/\∃z13 z14 z15 z16:AR,ρ=[↑(.scr ns),↑(.int (H.length:Nat)),↑(.lst (H.map hdD)),↑(.tup (rows.map prwD)),↑(Yn .e (L.map Rl.ei)),↑(hdD mb),↑(.lst (A.map D.int)),some (.ow (.int 1::A.map D.int)),some (.ow []),↑(LL rows L H mb x),↑(Wx L H l),↑(.lst (ev.map D.bl)),↑(.int (plA H 0 pre.length mb:Nat)),z13,z14,z15,z16]) (List.range H.length) [] _ _ _ ⟨by simpa [plA]using kx2,by simpa using hl,none,none,none,none,by simp[plA]⟩ ?_ ?_
 ·rintro q i r ρ t Q e ⟨g1,g2,z13,z14,z15,z16,rfl⟩ hq
  rw[List.nil_append]at e
  have hiq:i=q.length:=by
   have h1:=congrArg (λl=>l[q.length]?) e
   have hql:q.length<H.length:=by
    have:=congrArg List.length e;simp at this;omega
   simp[hql]at h1;omega
  have hi:i<H.length:=by
   have:i∈List.range H.length:=by rw[e];simp
   exact qz this
  have hs:(q++[i]).length=i+1:=by simp[hiq]
  rw[<-hiq]at g1 g2 ⊢;refine⟨_,rfl,Yyx hi hev hH hR hr1 hr2 g1 g2 _ _ _ _ _ _ λw13 w14 w15 w16 t' k1 k2=>hq _ t' ?_⟩;rw[hs];exact⟨k1,k2,_,_,_,_,rfl⟩
 ·rintro ρ t ⟨g1,g2,z13,z14,z15,z16,rfl⟩
  show Ym8 _ t _;unfold Ym8;refine y2n (y2t t x g1 _ _ _ _ _ _ _ _ _ _ _ _ _ _ _ _) ?_;unfold Yrv;have hw:=Yqs (L:=L) (H:=H) A hA h0 hH hR hck;refine y2o (d:=.bl true) ?_ trivial;generalize LL rows L H mb x=ll,Wx L H l=wl,Yn .e (L.map Rl.ei)=bk,H.map hdD=HH,A.map D.int=AA at *;simp[hw]
end
theorem law_true:∀ns:AG,ns.length<=63->Yqi [.scr ns]=some (.bl true):=by
 intro ns hns;have c0:=Yhi ns 0 0 rfl;generalize ns.getD 0 0=v0 at c0;have c1:=Yhi ns 1 1 rfl;generalize ns.getD 1 0=v1 at c1
 obtain⟨n,hn0,hn1,hn2⟩:∃n:Nat,(1:Int)+v0/4%20=(n:Int)/\0<n/\n<=20:=by
  have g1:=Int.emod_nonneg (v0/4) (show(20:Int)≠0 by omega);have g2:=Int.emod_lt_of_pos (v0/4) (show(0:Int)<20 by omega);exact⟨(1+v0/4%20).toNat,by omega,by omega,by omega⟩
 obtain⟨H,hHl,hHe⟩:=Yql v1 n (by omega);subst hHl;obtain⟨rows,hr1,hr2,hre⟩:=Yqo ns (hs:=H) (by omega) (st:=0) (by omega)
 obtain⟨L,hL1,hL2,hLe⟩:=Yk3 ns hns (hs:=H) (by omega) (st:=0) (by omega) (rows:=rows) (λr hr x hx=>⟨by have:=(hr2 r hr x hx).1;have h3:=(mem_ofH.mp (hr2 r hr x hx).2).1;exact h3,λhm=>by
  rw[hr1]at hm;have h1:=(mem_ofH.mp hm).2.2;have h2:=(mem_ofH.mp (hr2 r hr x hx).2).2.2;rw[h1]at h2
  cases h2⟩)
 have hR:∀r∈L.map Rl.ei,OkR .e H.length r/\sz r<=9999:=λr hr=>by
  obtain⟨l,hl,rfl⟩:=qw hr;have:=(hL2 l hl).1;refine⟨this,?_⟩;show l.length<=9999;have h2:l.length<=2:=this.2.1;omega
 have hck:Yal [Yn .e (L.map Rl.ei),.lst (H.map hdD)]=some .non:=Yyp (m:=4) (H:=H) (by omega) (by rw[qe];omega) (λr hr=>by
  obtain⟨l,hl,rfl⟩:=qw hr;have:=(hL2 l hl).1;refine⟨this,?_⟩;show l.length+1<=4;have h2:l.length<=2:=this.2.1
  omega) (.inl (by rw[Ywa]))
 obtain⟨k,hk⟩:∃k:Nat,(2:Int)+v0/80%20=(k:Int):=by
  have g1:=Int.emod_nonneg (v0/80) (show(20:Int)≠0 by omega);exact⟨(2+v0/80%20).toNat,by omega⟩
 have k2:=Yv2 ns 2 k;generalize hcl:(ns.drop (min 2 ns.length)).take (min k ns.length-min 2 ns.length)=cells at k2
 have hcl':cells.length<=63:=by
  rw[<-hcl,List.length_take,List.length_drop];omega
 obtain⟨A,hA1,hA2⟩:=Ywf cells hcl'
 have hmine:∃mb:Bool,atI [.str "storm",.str "keeper"] (v0%2)=some (hdD mb):=by
  have g1:=Int.emod_nonneg v0 (show(2:Int)≠0 by omega);have g2:=Int.emod_lt_of_pos v0 (show(0:Int)<2 by omega)
  have:v0%2=0\/v0%2=1:=by omega
  rcases this with h|h
  ·rw[h];exact⟨false,rfl⟩
  ·rw[h];exact⟨true,rfl⟩
 obtain⟨mb,hmb⟩:=hmine;have hx:=Yyy (ns:=ns) (mb:=mb) hns hn1 (by omega) hR hck hr1 hr2 (A:=A) (by omega);rw[Yqi,Yaq (by rfl)];have hst:Yw 17 [.scr ns]=[↑(.scr ns),none,none,none,none,none,none,none,none,none,none,none,none,none,none,none,none]:=rfl;rw[hst]
 have e0:y2i [↑(.scr ns),none,none,none,none,none,none,none,none,none,none,none,none,none,none,none,none]=Ynd [↑(.scr ns),↑(.int (H.length:Nat)),none,none,none,none,none,none,none,none,none,none,none,none,none,none,none]:=by
  simp[y2i,c0,hn0]
 have e1:Ynd [↑(.scr ns),↑(.int (H.length:Nat)),none,none,none,none,none,none,none,none,none,none,none,none,none,none,none]=Ync [↑(.scr ns),↑(.int (H.length:Nat)),↑(.lst (H.map hdD)),none,none,none,none,none,none,none,none,none,none,none,none,none,none]:=by
  generalize H.map hdD=HH at *;simp[Ynd,c1,hHe]
 have e2:Ync [↑(.scr ns),↑(.int (H.length:Nat)),↑(.lst (H.map hdD)),none,none,none,none,none,none,none,none,none,none,none,none,none,none]=Ynb [↑(.scr ns),↑(.int (H.length:Nat)),↑(.lst (H.map hdD)),↑(.tup (rows.map prwD)),none,none,none,none,none,none,none,none,none,none,none,none,none]:=by
  generalize H.map hdD=HH,rows.map prwD=RR at *;simp at hre;simp[Ync,hre]
 have e3:Ynb [↑(.scr ns),↑(.int (H.length:Nat)),↑(.lst (H.map hdD)),↑(.tup (rows.map prwD)),none,none,none,none,none,none,none,none,none,none,none,none,none]=Yna [↑(.scr ns),↑(.int (H.length:Nat)),↑(.lst (H.map hdD)),↑(.tup (rows.map prwD)),↑(Yn .e (L.map Rl.ei)),none,none,none,none,none,none,none,none,none,none,none,none]:=by
  generalize H.map hdD=HH,rows.map prwD=RR,Yn .e (L.map Rl.ei)=bk at *;simp at hLe;simp[Ynb,hLe]
 have e4:Yna [↑(.scr ns),↑(.int (H.length:Nat)),↑(.lst (H.map hdD)),↑(.tup (rows.map prwD)),↑(Yn .e (L.map Rl.ei)),none,none,none,none,none,none,none,none,none,none,none,none]=Ym9 [↑(.scr ns),↑(.int (H.length:Nat)),↑(.lst (H.map hdD)),↑(.tup (rows.map prwD)),↑(Yn .e (L.map Rl.ei)),↑(hdD mb),none,none,none,none,none,none,none,none,none,none,none]:=by
  generalize Yn .e (L.map Rl.ei)=bk,hdD mb=hm at *;simp[Yna,c0,hmb]
 have e5:Ym9 [↑(.scr ns),↑(.int (H.length:Nat)),↑(.lst (H.map hdD)),↑(.tup (rows.map prwD)),↑(Yn .e (L.map Rl.ei)),↑(hdD mb),none,none,none,none,none,none,none,none,none,none,none]=Yka [↑(.scr ns),↑(.int (H.length:Nat)),↑(.lst (H.map hdD)),↑(.tup (rows.map prwD)),↑(Yn .e (L.map Rl.ei)),↑(hdD mb),↑(.lst (A.map D.int)),none,none,none,none,none,none,none,none,none,none]:=by
  generalize Yn .e (L.map Rl.ei)=bk,hdD mb=hm,A.map D.int=AA,cells.map D.int=CC at *;simp at k2;simp[Ym9,c0,hk,k2,hA2]
 have e6:Yka [↑(.scr ns),↑(.int (H.length:Nat)),↑(.lst (H.map hdD)),↑(.tup (rows.map prwD)),↑(Yn .e (L.map Rl.ei)),↑(hdD mb),↑(.lst (A.map D.int)),none,none,none,none,none,none,none,none,none,none]=some (.rt (.bl true)):=by
  have f1:Yn4 [.lst (A.map D.int)]=some (A.map D.int):=by simp
  have f2:Yn4 [.lst (H.map hdD)]=some (H.map hdD):=by simp
  have s1:Yka [↑(.scr ns),↑(.int (H.length:Nat)),↑(.lst (H.map hdD)),↑(.tup (rows.map prwD)),↑(Yn .e (L.map Rl.ei)),↑(hdD mb),↑(.lst (A.map D.int)),none,none,none,none,none,none,none,none,none,none]=Yv0 [↑(.scr ns),↑(.int (H.length:Nat)),↑(.lst (H.map hdD)),↑(.tup (rows.map prwD)),↑(Yn .e (L.map Rl.ei)),↑(hdD mb),↑(.lst (A.map D.int)),some (.ow (A.map D.int)),some (.ow (H.map hdD)),none,none,none,none,none,none,none,none]:=by
   generalize Yn .e (L.map Rl.ei)=bk,hdD mb=hm,A.map D.int=AA,H.map hdD=HH at *;simp at f1 f2;simp[Yka,Yv1,f1,f2]
  rw[s1];exact hx
 rw[e0,e1,e2,e3,e4,e5,e6];rfl
end Lw
end
namespace Op
open PySem PySem.W PyProof.Rows PySem.Calls
set_option maxRecDepth 100000
noncomputable abbrev pg:Program:=PySem.Challenge.pw_duskbook_k41_settlers
noncomputable def topm(i j:Nat):Stmt:=L2.inClass (Lw.top i) j
noncomputable abbrev en(P:Params)(x:Str)(t:Nat)(v:Value):DictEntry:=⟨PyData.keyHash P x,.str x t,v⟩
noncomputable abbrev fn(name qual:Str)(s:Stmt)(dV kV doc pm:Value)(an:Option Addr)(cdv ct:Value)(g b:Nat):Data:=.func ⟨name,qual,L2.defArgs s,.stmts (L2.defBody s),L2.defScope s,g,[],dV,kV,doc,pm,an,cdv,ct,b⟩
noncomputable abbrev tu(l:AD):Obj:=⟨.type "tuple",none,.seq ⟨l⟩ 0,#[]⟩
noncomputable abbrev fl:Obj:=⟨.none,none,.fields #[],#[]⟩
noncomputable abbrev oZ(x:Str)(i:Nat):Obj:=⟨.none,none,fn x x (Lw.top i) .none .none .none .none none .none .none 0 0,#[]⟩
noncomputable abbrev oF(x:Str)(i:Nat)(pm:Value)(c:Nat):Obj:=⟨.type "function",none,.func (fnOf x x (L2.defArgs (Lw.top i)) (L2.defBody (Lw.top i)) (L2.defScope (Lw.top i)) .none .none .none pm none (.ref c) .none),#[]⟩
noncomputable abbrev oM(x q:Str)(i j:Nat)(pm:Value)(c:Nat):Obj:=⟨.type "function",none,.func (fnOf x q (L2.defArgs (L2.inClass (Lw.top i) j)) (L2.defBody (L2.inClass (Lw.top i) j)) (L2.defScope (L2.inClass (Lw.top i) j)) .none .none .none pm none (.ref c) .none),#[]⟩
noncomputable abbrev oC(x:Str)(t l n b:Nat)(u v:Value)(c k e:Nat):Obj:=⟨.type "code",none,.fields #[.str x t,.str x (t+1),.str "/claim/cut.py" (t+2),.int (.ofNat l) 0,.int (.ofNat n) 0,.int 0 0,.int 0 0,.int 3 0,.ref b,.bool true,.int (.ofNat k) 0,.ref (b+1),.none,u,v,.ref c,.int (.ofNat e) 0,.int (.ofNat l) 0,.str "/claim/cut.py" (e+1)],#[]⟩
noncomputable abbrev p0:Value:=(.str "__main__" 164)
noncomputable abbrev p1:Value:=(.str "duskbook.adding" 194)
noncomputable abbrev p2:Value:=(.str "duskbook.parts" 214)
noncomputable abbrev p3:Value:=(.str "duskbook.books" 293)
noncomputable abbrev p4:Value:=(.str "duskbook.storming" 402)
noncomputable abbrev p5:Value:=(.str "duskbook.playing" 410)
noncomputable abbrev p6:Value:=(.str "duskbook.settlers" 495)
noncomputable abbrev p7:Value:=(.str "duskbook.watches" 640)
noncomputable abbrev p8:Value:=(.str "law_duskbook_k41_settlers" 733)
noncomputable def et0(P:Params):List DictEntry:=[en P "__doc__" 166 .none,en P "__package__" 167 .none,en P "__loader__" 168 (.builtin "__main__.__loader__#opaque"),en P "__spec__" 169 .none,en P "__annotations__" 170 (.ref 6),en P "__builtins__" 171 (.ref 4),en P "__file__" 173 (.str "/claim/cut.py" 172),en P "__cached__" 174 .none,en P "_wall" 193 (.ref 21),en P "both_added" 203 (.ref 28),en P "added" 213 (.ref 35),en P "HANDS" 218 (.ref 36),en P "beacons_with" 224 (.ref 41),en P "DuskError" 244 (.ref 51),en P "NoHands" 260 (.ref 64),en P "Over" 276 (.ref 76),en P "NoLight" 292 (.ref 88),en P "BEACON_COUNT" 296 (.int (60) 295),en P "either_holds" 302 (.ref 95),en P "sum_holds" 308 (.ref 100),en P "if_holds" 314 (.ref 105),en P "rule_holds" 323 (.ref 112),en P "broken_rules" 329 (.ref 117),en P "holds" 337 (.ref 124),en P "beacons_in" 343 (.ref 129),en P "beacons_of" 352 (.ref 136),en P "without" 358 (.ref 141),en P "either_left" 364 (.ref 146),en P "sum_left" 375 (.ref 153),en P "if_left" 385 (.ref 160),en P "rule_left" 395 (.ref 167),en P "left_behind" 401 (.ref 172),en P "first_ones" 409 (.ref 177),en P "row_of" 417 (.ref 182),en P "is_odd_count" 423 (.ref 187),en P "plan_said" 432 (.ref 194),en P "sums_said" 441 (.ref 201),en P "rows_said" 447 (.ref 206),en P "cross_said" 456 (.ref 213),en P "late_said" 465 (.ref 220)]
noncomputable def et1(P:Params):List DictEntry:=[en P "odd_said" 474 (.ref 227),en P "lone_said" 480 (.ref 232),en P "said" 494 (.ref 239),en P "Settler" 542 (.ref 270),en P "Rowed" 586 (.ref 305),en P "Papered" 627 (.ref 332),en P "play_out" 639 (.ref 341),en P "is_hand" 648 (.ref 348),en P "check_hands" 654 (.ref 353),en P "Watch" 732 (.ref 412),en P "_law_cell" 742 (.ref 423),en P "_law_mixed" 750 (.ref 430),en P "_law_bits" 761 (.ref 437),en P "_law_bool" 769 (.ref 444),en P "_law_hands" 775 (.ref 449),en P "_law_own" 781 (.ref 454),en P "_law_plan" 787 (.ref 459),en P "_law_comes" 798 (.ref 466),en P "_law_either" 808 (.ref 473),en P "_law_eithers" 824 (.ref 480),en P "_law_numbers_of" 834 (.ref 487),en P "_law_planned" 845 (.ref 494),en P "_law_says" 857 (.ref 501),en P "_law_two_rowed" 863 (.ref 506),en P "law" 869 (.ref 511)]
noncomputable def et(P:Params):List DictEntry:=et0 P++et1 P
noncomputable abbrev ns(P:Params)(x:DictEntry)(n k:Nat):Obj:=⟨.type "dict",none,.dict ⟨x::(et P).take n⟩ k,#[]⟩
noncomputable def ff0:AD:=[(.int (1) 0),(.int (0) 0),(.ref 20),(.int (5) 0),(.int (0) 0),(.ref 27),(.int (7) 0),(.int (0) 0),(.ref 34),(.int (14) 0),(.int (0) 0),(.ref 40),(.int (17) 0),(.int (0) 0),(.ref 47),(.int (19) 0),(.int (0) 0),(.ref 60),(.int (21) 0),(.int (0) 0),(.ref 72),(.int (23) 0),(.int (0) 0),(.ref 84),(.int (27) 0),(.int (0) 0),(.ref 94),(.int (29) 0),(.int (0) 0),(.ref 99),(.int (32) 0),(.int (0) 0),(.ref 104),(.int (36) 0),(.int (0) 0),(.ref 111),(.int (42) 0),(.int (0) 0),(.ref 116),(.int (44) 0)]
noncomputable def ff1:AD:=[(.int (0) 0),(.ref 123),(.int (46) 0),(.int (0) 0),(.ref 128),(.int (52) 0),(.int (0) 0),(.ref 135),(.int (57) 0),(.int (0) 0),(.ref 140),(.int (59) 0),(.int (0) 0),(.ref 145),(.int (63) 0),(.int (0) 0),(.ref 152),(.int (69) 0),(.int (0) 0),(.ref 159),(.int (76) 0),(.int (0) 0),(.ref 166),(.int (84) 0),(.int (0) 0),(.ref 171),(.int (88) 0),(.int (0) 0),(.ref 176),(.int (94) 0),(.int (0) 0),(.ref 181),(.int (96) 0),(.int (0) 0),(.ref 186),(.int (98) 0),(.int (0) 0),(.ref 193),(.int (103) 0),(.int (0) 0)]
noncomputable def ff2:AD:=[(.ref 200),(.int (106) 0),(.int (0) 0),(.ref 205),(.int (112) 0),(.int (0) 0),(.ref 212),(.int (119) 0),(.int (0) 0),(.ref 219),(.int (124) 0),(.int (0) 0),(.ref 226),(.int (129) 0),(.int (0) 0),(.ref 231),(.int (133) 0),(.int (0) 0),(.ref 238),(.int (153) 0),(.int (0) 0),(.ref 245),(.int (163) 0),(.int (0) 0),(.ref 280),(.int (176) 0),(.int (0) 0),(.ref 313),(.int (187) 0),(.int (0) 0),(.ref 340),(.int (197) 0),(.int (0) 0),(.ref 347),(.int (199) 0),(.int (0) 0),(.ref 352),(.int (206) 0),(.int (0) 0),(.ref 359)]
noncomputable def ff3:AD:=[(.int (244) 0),(.int (0) 0),(.ref 422),(.int (248) 0),(.int (0) 0),(.ref 429),(.int (250) 0),(.int (0) 0),(.ref 436),(.int (257) 0),(.int (0) 0),(.ref 443),(.int (259) 0),(.int (0) 0),(.ref 448),(.int (261) 0),(.int (0) 0),(.ref 453),(.int (263) 0),(.int (0) 0),(.ref 458),(.int (270) 0),(.int (0) 0),(.ref 465),(.int (277) 0),(.int (0) 0),(.ref 472),(.int (284) 0),(.int (0) 0),(.ref 479),(.int (294) 0),(.int (0) 0),(.ref 486),(.int (302) 0),(.int (0) 0),(.ref 493),(.int (307) 0),(.int (0) 0),(.ref 500),(.int (313) 0)]
noncomputable def ff4:AD:=[(.int (0) 0),(.ref 505),(.int (327) 0),(.int (0) 0),(.ref 510)]
noncomputable def ff:AD:=ff0++ff1++ff2++ff3++ff4
noncomputable abbrev ft(n:Nat):Obj:=⟨.none,none,.fields ⟨ff.take n⟩,#[]⟩
noncomputable abbrev dF(x:Str)(i l n t b:Nat)(pm:Value)(k:Nat):List Obj:=[tu [],fl,oZ x i,oC x t l n b .none .none (b+2) k (t+3),oF x i pm (b+3)]
noncomputable abbrev dG(x:Str)(i l n t b:Nat)(pm:Value)(k:Nat)(u:AD):List Obj:=[tu [],fl,tu u,tu [],oZ x i,oC x t l n b (.ref (b+2)) (.ref (b+3)) (b+4) k (t+3+u.length),oF x i pm (b+5)]
noncomputable def al0(P:Params):List Obj:=[boot_o_0 P,boot_o_1 P,boot_o_2 P,ns P (en P "__name__" 165 (.str "law_duskbook_k41_settlers" 733)) 65 66,boot_o_4 P,boot_o_5 P,boot_o_6 P,boot_o_7 P,boot_o_8 P,boot_o_9 P,boot_o_10 P,tu [],ft 165,⟨(.type "code"),none,(.fields #[(.str "<module>" 182),(.str "<module>" 183),(.str "/claim/cut.py" 184),(.int (1) 0),(.int (0) 0),(.int (0) 0),(.int (0) 0),(.int (0) 0),(.ref 11),(.bool false),(.int (181) 0),(.ref 12),.none,.none,.none,.none,(.int (185) 0),(.int (1) 0),(.str "/claim/cut.py" 186)]),#[]⟩,⟨(.type "frame"),none,.plain,#[(some (.ref 13)),(some (.ref 3)),(some (.ref 3)),none,(some (.str "__main__" 164)),none,(some (.ref 0))]⟩]++(dG "_wall" 0 1 1 187 15 p0 181 [(.str "k" 190)]++(dG "both_added" 2 5 2 196 22 p1 181 [(.str "rule" 199),(.str "other" 200)]++(dG "added" 3 7 2 204 29 p1 181 [(.str "book" 207),(.str "places" 208),(.str "whole" 209),(.str "place" 210)]++([tu [(.str "keeper" 216),(.str "storm" 217)]]++(dF "beacons_with" 6 14 3 219 37 p2 181++([tu [(.type "ValueError")],⟨(.type "builtin_function_or_method"),none,(.fields #[(.builtin "type.__prepare__"),(.type "type")]),#[]⟩,⟨(.type "dict"),none,(.dict #[en P "__module__" 234 (.str "duskbook.errors" 225),en P "__qualname__" 236 (.str "DuskError" 235),en P "__firstlineno__" 238 (.int (17) 237),en P "__static_attributes__" 239 (.ref 49)] 4),#[]⟩,tu [],fl,⟨(.type "code"),none,(.fields #[(.str "DuskError" 229),(.str "DuskError" 230),(.str "/claim/cut.py" 231),(.int (17) 0),(.int (0) 0),(.int (0) 0),(.int (0) 0),(.int (0) 0),(.ref 45),(.bool false),(.int (181) 0),(.ref 46),.none,.none,.none,.none,(.int (232) 0),(.int (17) 0),(.str "/claim/cut.py" 233)]),#[]⟩,⟨(.type "frame"),none,.plain,#[(some (.ref 47)),(some (.ref 3)),(some (.ref 44)),none,(some (.str "duskbook.errors" 225)),none,(some (.ref 0))]⟩,tu [],⟨(.type "dict"),none,(.dict #[en P "__module__" 234 (.str "duskbook.errors" 225),en P "__firstlineno__" 238 (.int (17) 237),en P "__static_attributes__" 239 (.ref 49),en P "__weakref__" 241 (.ref 52),en P "__doc__" 242 .none] 3),#[]⟩,⟨(.type "type"),none,(.cls ⟨"DuskError",[(.type "ValueError")],[(.ref 51),(.type "ValueError"),(.type "Exception"),(.type "BaseException"),(.type "object")],50,"DuskError",true,[],[(.ref 64),(.ref 76),(.ref 88)],false,none,false⟩),#[(some (.ref 42)),none,(some (.str "DuskError" 227)),(some (.str "DuskError" 235)),(some (.builtin "ValueError.__new__")),(some (.bool true))]⟩,⟨(.type "getset_descriptor"),none,(.fields #[(.str "__weakref__" 240),(.ref 51),(.builtin "ExceptionGroup.__weakref__"),.none]),#[]⟩,⟨(.type "super"),none,(.fields #[(.ref 51),(.ref 51),(.ref 51)]),#[]⟩,⟨(.type "builtin_function_or_method"),none,(.fields #[(.builtin "object.__init_subclass__"),(.ref 51)]),#[]⟩,tu [(.ref 51)],⟨(.type "builtin_function_or_method"),none,(.fields #[(.builtin "type.__prepare__"),(.type "type")]),#[]⟩,⟨(.type "dict"),none,(.dict #[en P "__module__" 252 (.str "duskbook.errors" 225),en P "__qualname__" 254 (.str "NoHands" 253),en P "__firstlineno__" 256 (.int (19) 255),en P "__static_attributes__" 257 (.ref 62)] 4),#[]⟩,tu [],fl,⟨(.type "code"),none,(.fields #[(.str "NoHands" 247),(.str "NoHands" 248),(.str "/claim/cut.py" 249),(.int (19) 0),(.int (0) 0),(.int (0) 0),(.int (0) 0),(.int (0) 0),(.ref 58),(.bool false),(.int (181) 0),(.ref 59),.none,.none,.none,.none,(.int (250) 0),(.int (19) 0),(.str "/claim/cut.py" 251)]),#[]⟩,⟨(.type "frame"),none,.plain,#[(some (.ref 60)),(some (.ref 3)),(some (.ref 57)),none,(some (.str "duskbook.errors" 225)),none,(some (.ref 0))]⟩,tu [],⟨(.type "dict"),none,(.dict #[en P "__module__" 252 (.str "duskbook.errors" 225),en P "__firstlineno__" 256 (.int (19) 255),en P "__static_attributes__" 257 (.ref 62),en P "__doc__" 258 .none] 2),#[]⟩,⟨(.type "type"),none,(.cls ⟨"NoHands",[(.ref 51)],[(.ref 64),(.ref 51),(.type "ValueError"),(.type "Exception"),(.type "BaseException"),(.type "object")],63,"NoHands",true,[],[],false,none,false⟩),#[(some (.ref 55)),none,(some (.str "NoHands" 245)),(some (.str "NoHands" 253)),(some (.builtin "ValueError.__new__")),(some (.bool true))]⟩,⟨(.type "super"),none,(.fields #[(.ref 64),(.ref 64),(.ref 64)]),#[]⟩,⟨(.type "builtin_function_or_method"),none,(.fields #[(.builtin "object.__init_subclass__"),(.ref 64)]),#[]⟩,tu [(.ref 51)],⟨(.type "builtin_function_or_method"),none,(.fields #[(.builtin "type.__prepare__"),(.type "type")]),#[]⟩,⟨(.type "dict"),none,(.dict #[en P "__module__" 268 (.str "duskbook.errors" 225),en P "__qualname__" 270 (.str "Over" 269),en P "__firstlineno__" 272 (.int (21) 271),en P "__static_attributes__" 273 (.ref 74)] 4),#[]⟩,tu [],fl,⟨(.type "code"),none,(.fields #[(.str "Over" 263),(.str "Over" 264),(.str "/claim/cut.py" 265),(.int (21) 0),(.int (0) 0),(.int (0) 0),(.int (0) 0),(.int (0) 0),(.ref 70),(.bool false),(.int (181) 0),(.ref 71),.none,.none,.none,.none,(.int (266) 0),(.int (21) 0),(.str "/claim/cut.py" 267)]),#[]⟩,⟨(.type "frame"),none,.plain,#[(some (.ref 72)),(some (.ref 3)),(some (.ref 69)),none,(some (.str "duskbook.errors" 225)),none,(some (.ref 0))]⟩,tu [],⟨(.type "dict"),none,(.dict #[en P "__module__" 268 (.str "duskbook.errors" 225),en P "__firstlineno__" 272 (.int (21) 271),en P "__static_attributes__" 273 (.ref 74),en P "__doc__" 274 .none] 2),#[]⟩,⟨(.type "type"),none,(.cls ⟨"Over",[(.ref 51)],[(.ref 76),(.ref 51),(.type "ValueError"),(.type "Exception"),(.type "BaseException"),(.type "object")],75,"Over",true,[],[],false,none,false⟩),#[(some (.ref 67)),none,(some (.str "Over" 261)),(some (.str "Over" 269)),(some (.builtin "ValueError.__new__")),(some (.bool true))]⟩,⟨(.type "super"),none,(.fields #[(.ref 76),(.ref 76),(.ref 76)]),#[]⟩,⟨(.type "builtin_function_or_method"),none,(.fields #[(.builtin "object.__init_subclass__"),(.ref 76)]),#[]⟩,tu [(.ref 51)],⟨(.type "builtin_function_or_method"),none,(.fields #[(.builtin "type.__prepare__"),(.type "type")]),#[]⟩,⟨(.type "dict"),none,(.dict #[en P "__module__" 284 (.str "duskbook.errors" 225),en P "__qualname__" 286 (.str "NoLight" 285),en P "__firstlineno__" 288 (.int (23) 287),en P "__static_attributes__" 289 (.ref 86)] 4),#[]⟩]++([tu [],fl,⟨(.type "code"),none,(.fields #[(.str "NoLight" 279),(.str "NoLight" 280),(.str "/claim/cut.py" 281),(.int (23) 0),(.int (0) 0),(.int (0) 0),(.int (0) 0),(.int (0) 0),(.ref 82),(.bool false),(.int (181) 0),(.ref 83),.none,.none,.none,.none,(.int (282) 0),(.int (23) 0),(.str "/claim/cut.py" 283)]),#[]⟩,⟨(.type "frame"),none,.plain,#[(some (.ref 84)),(some (.ref 3)),(some (.ref 81)),none,(some (.str "duskbook.errors" 225)),none,(some (.ref 0))]⟩,tu [],⟨(.type "dict"),none,(.dict #[en P "__module__" 284 (.str "duskbook.errors" 225),en P "__firstlineno__" 288 (.int (23) 287),en P "__static_attributes__" 289 (.ref 86),en P "__doc__" 290 .none] 2),#[]⟩,⟨(.type "type"),none,(.cls ⟨"NoLight",[(.ref 51)],[(.ref 88),(.ref 51),(.type "ValueError"),(.type "Exception"),(.type "BaseException"),(.type "object")],87,"NoLight",true,[],[],false,none,false⟩),#[(some (.ref 79)),none,(some (.str "NoLight" 277)),(some (.str "NoLight" 285)),(some (.builtin "ValueError.__new__")),(some (.bool true))]⟩,⟨(.type "super"),none,(.fields #[(.ref 88),(.ref 88),(.ref 88)]),#[]⟩,⟨(.type "builtin_function_or_method"),none,(.fields #[(.builtin "object.__init_subclass__"),(.ref 88)]),#[]⟩]++(dF "either_holds" 14 27 2 297 91 p3 181++(dF "sum_holds" 15 29 2 303 96 p3 181++(dF "if_holds" 16 32 3 309 101 p3 181++(dG "rule_holds" 17 36 3 315 106 p3 181 [(.str "kind" 318),(.str "rule" 319),(.str "evening" 320)]++(dF "broken_rules" 18 42 2 324 113 p3 181++(dG "holds" 19 44 2 330 118 p3 181 [(.str "book" 333),(.str "evening" 334)]++(dF "beacons_in" 20 46 2 338 125 p3 181++(dG "beacons_of" 21 52 1 344 130 p3 181 [(.str "book" 347),(.str "found" 348),(.str "rule" 349)]++(dF "without" 22 57 2 353 137 p3 181++(dF "either_left" 23 59 3 359 142 p3 181++(dG "sum_left" 24 63 3 365 147 p3 181 [(.str "rule" 368),(.str "beacon" 369),(.str "lit" 370),(.str "beacons" 371),(.str "odd" 372)]++(dG "if_left" 25 69 3 376 154 p3 181 [(.str "rule" 379),(.str "beacon" 380),(.str "so" 381),(.str "head" 382)]++(dG "rule_left" 26 76 4 386 161 p3 181 [(.str "kind" 389),(.str "rule" 390),(.str "beacon" 391),(.str "lit" 392)]++(dF "left_behind" 27 84 3 396 168 p3 181++(dF "first_ones" 29 88 4 404 173 p4 181++(dF "row_of" 31 94 2 412 178 p5 181++(dF "is_odd_count" 32 96 2 418 183 p5 181))))))))))))))))))))))))
noncomputable def al1(P:Params):List Obj:=dG "plan_said" 33 98 2 424 188 p5 181 [(.str "rows" 427),(.str "evening" 428),(.str "row" 429)]++(dG "sums_said" 34 103 2 433 195 p5 181 [(.str "rows" 436),(.str "evening" 437),(.str "row" 438)]++(dF "rows_said" 35 106 4 442 202 p5 181++(dG "cross_said" 36 112 2 448 207 p5 181 [(.str "road" 451),(.str "evening" 452),(.str "beacon" 453)]++(dG "late_said" 37 119 2 457 214 p5 181 [(.str "road" 460),(.str "evening" 461),(.str "is_so" 462)]++(dG "odd_said" 38 124 2 466 221 p5 181 [(.str "whole" 469),(.str "evening" 470),(.str "beacons" 471)]++(dF "lone_said" 39 129 4 475 228 p5 181++(dG "said" 40 133 5 481 233 p5 181 [(.str "paper" 484),(.str "book" 485),(.str "hands" 486),(.str "start" 487),(.str "evening" 488),(.str "word" 489),(.str "so" 490),(.str "ahead" 491)]++([tu [],⟨(.type "builtin_function_or_method"),none,(.fields #[(.builtin "type.__prepare__"),(.type "type")]),#[]⟩,⟨(.type "dict"),none,(.dict #[en P "__module__" 504 (.str "duskbook.settlers" 495),en P "__qualname__" 506 (.str "Settler" 505),en P "__firstlineno__" 508 (.int (153) 507),en P "__init__" 516 (.ref 253),en P "says" 524 (.ref 260),en P "sees" 533 (.ref 267),en P "__static_attributes__" 535 (.ref 268)] 7),#[]⟩,tu [],⟨.none,none,(.fields #[(.int (155) 0),(.int (4) 0),(.ref 252),(.int (158) 0),(.int (4) 0),(.ref 259),(.int (161) 0),(.int (4) 0),(.ref 266)]),#[]⟩,⟨(.type "code"),none,(.fields #[(.str "Settler" 499),(.str "Settler" 500),(.str "/claim/cut.py" 501),(.int (153) 0),(.int (0) 0),(.int (0) 0),(.int (0) 0),(.int (0) 0),(.ref 243),(.bool false),(.int (181) 0),(.ref 244),.none,.none,.none,.none,(.int (502) 0),(.int (153) 0),(.str "/claim/cut.py" 503)]),#[]⟩,⟨(.type "frame"),none,.plain,#[(some (.ref 245)),(some (.ref 3)),(some (.ref 242)),none,(some (.str "duskbook.settlers" 495)),none,(some (.ref 0))]⟩,tu [],fl,tu [(.str "self" 512),(.str "hand" 513)],tu [],⟨.none,none,(fn "__init__" "Settler.__init__" (topm 42 0) .none .none .none .none none .none .none 0 0),#[]⟩,⟨(.type "code"),none,(.fields #[(.str "__init__" 509),(.str "Settler.__init__" 510),(.str "/claim/cut.py" 511),(.int (155) 0),(.int (2) 0),(.int (0) 0),(.int (0) 0),(.int (3) 0),(.ref 247),(.bool true),(.int (181) 0),(.ref 248),.none,(.ref 249),(.ref 250),(.ref 251),(.int (514) 0),(.int (155) 0),(.str "/claim/cut.py" 515)]),#[]⟩,oM "__init__" "Settler.__init__" 42 0 p6 252,tu [],fl,tu [(.str "self" 520),(.str "watch" 521)],tu [],⟨.none,none,(fn "says" "Settler.says" (topm 42 1) .none .none .none .none none .none .none 0 0),#[]⟩,⟨(.type "code"),none,(.fields #[(.str "says" 517),(.str "Settler.says" 518),(.str "/claim/cut.py" 519),(.int (158) 0),(.int (2) 0),(.int (0) 0),(.int (0) 0),(.int (3) 0),(.ref 254),(.bool true),(.int (181) 0),(.ref 255),.none,(.ref 256),(.ref 257),(.ref 258),(.int (522) 0),(.int (158) 0),(.str "/claim/cut.py" 523)]),#[]⟩,oM "says" "Settler.says" 42 1 p6 259,tu [],fl,tu [(.str "self" 528),(.str "hand" 529),(.str "lit" 530)],tu [],⟨.none,none,(fn "sees" "Settler.sees" (topm 42 2) .none .none .none .none none .none .none 0 0),#[]⟩,⟨(.type "code"),none,(.fields #[(.str "sees" 525),(.str "Settler.sees" 526),(.str "/claim/cut.py" 527),(.int (161) 0),(.int (3) 0),(.int (0) 0),(.int (0) 0),(.int (3) 0),(.ref 261),(.bool true),(.int (181) 0),(.ref 262),.none,(.ref 263),(.ref 264),(.ref 265),(.int (531) 0),(.int (161) 0),(.str "/claim/cut.py" 532)]),#[]⟩,oM "sees" "Settler.sees" 42 2 p6 266,tu [(.str "hand" 534)],⟨(.type "dict"),none,(.dict #[en P "__module__" 504 (.str "duskbook.settlers" 495),en P "__firstlineno__" 508 (.int (153) 507),en P "__init__" 516 (.ref 253),en P "says" 524 (.ref 260),en P "sees" 533 (.ref 267),en P "__static_attributes__" 535 (.ref 268),en P "__dict__" 537 (.ref 271),en P "__weakref__" 539 (.ref 272),en P "__doc__" 540 .none] 4),#[]⟩,⟨(.type "type"),none,(.cls ⟨"Settler",[(.type "object")],[(.ref 270),(.type "object")],269,"Settler",true,[],[(.ref 305),(.ref 332)],false,none,false⟩),#[none,none,(some (.str "Settler" 497)),(some (.str "Settler" 505)),(some (.builtin "object.__new__")),(some (.bool true))]⟩,⟨(.type "getset_descriptor"),none,(.fields #[(.str "__dict__" 536),(.ref 270),(.builtin "function.__dict__"),(.builtin "function.__dict__#set")]),#[]⟩,⟨(.type "getset_descriptor"),none,(.fields #[(.str "__weakref__" 538),(.ref 270),(.builtin "ExceptionGroup.__weakref__"),.none]),#[]⟩,⟨(.type "super"),none,(.fields #[(.ref 270),(.ref 270),(.ref 270)]),#[]⟩,⟨(.type "builtin_function_or_method"),none,(.fields #[(.builtin "object.__init_subclass__"),(.ref 270)]),#[]⟩,tu [(.ref 270)],⟨(.type "builtin_function_or_method"),none,(.fields #[(.builtin "type.__prepare__"),(.type "type")]),#[]⟩,⟨(.type "dict"),none,(.dict #[en P "__module__" 550 (.str "duskbook.settlers" 495),en P "__qualname__" 552 (.str "Rowed" 551),en P "__firstlineno__" 554 (.int (163) 553),en P "__init__" 563 (.ref 288),en P "says" 571 (.ref 295),en P "sees" 580 (.ref 302),en P "__static_attributes__" 583 (.ref 303)] 7),#[]⟩,tu [],⟨.none,none,(.fields #[(.int (165) 0),(.int (4) 0),(.ref 287),(.int (170) 0),(.int (4) 0),(.ref 294),(.int (173) 0),(.int (4) 0),(.ref 301)]),#[]⟩]++([⟨(.type "code"),none,(.fields #[(.str "Rowed" 545),(.str "Rowed" 546),(.str "/claim/cut.py" 547),(.int (163) 0),(.int (0) 0),(.int (0) 0),(.int (0) 0),(.int (0) 0),(.ref 278),(.bool false),(.int (181) 0),(.ref 279),.none,.none,.none,.none,(.int (548) 0),(.int (163) 0),(.str "/claim/cut.py" 549)]),#[]⟩,⟨(.type "frame"),none,.plain,#[(some (.ref 280)),(some (.ref 3)),(some (.ref 277)),none,(some (.str "duskbook.settlers" 495)),none,(some (.ref 0))]⟩,tu [],fl,tu [(.str "self" 558),(.str "hand" 559),(.str "row" 560)],tu [],⟨.none,none,(fn "__init__" "Rowed.__init__" (topm 43 0) .none .none .none .none none .none .none 0 0),#[]⟩,⟨(.type "code"),none,(.fields #[(.str "__init__" 555),(.str "Rowed.__init__" 556),(.str "/claim/cut.py" 557),(.int (165) 0),(.int (3) 0),(.int (0) 0),(.int (0) 0),(.int (3) 0),(.ref 282),(.bool true),(.int (181) 0),(.ref 283),.none,(.ref 284),(.ref 285),(.ref 286),(.int (561) 0),(.int (165) 0),(.str "/claim/cut.py" 562)]),#[]⟩,oM "__init__" "Rowed.__init__" 43 0 p6 287,tu [],fl,tu [(.str "self" 567),(.str "watch" 568)],tu [],⟨.none,none,(fn "says" "Rowed.says" (topm 43 1) .none .none .none .none none .none .none 0 0),#[]⟩,⟨(.type "code"),none,(.fields #[(.str "says" 564),(.str "Rowed.says" 565),(.str "/claim/cut.py" 566),(.int (170) 0),(.int (2) 0),(.int (0) 0),(.int (0) 0),(.int (3) 0),(.ref 289),(.bool true),(.int (181) 0),(.ref 290),.none,(.ref 291),(.ref 292),(.ref 293),(.int (569) 0),(.int (170) 0),(.str "/claim/cut.py" 570)]),#[]⟩,oM "says" "Rowed.says" 43 1 p6 294,tu [],fl,tu [(.str "self" 575),(.str "hand" 576),(.str "lit" 577)],tu [],⟨.none,none,(fn "sees" "Rowed.sees" (topm 43 2) .none .none .none .none none .none .none 0 0),#[]⟩,⟨(.type "code"),none,(.fields #[(.str "sees" 572),(.str "Rowed.sees" 573),(.str "/claim/cut.py" 574),(.int (173) 0),(.int (3) 0),(.int (0) 0),(.int (0) 0),(.int (3) 0),(.ref 296),(.bool true),(.int (181) 0),(.ref 297),.none,(.ref 298),(.ref 299),(.ref 300),(.int (578) 0),(.int (173) 0),(.str "/claim/cut.py" 579)]),#[]⟩,oM "sees" "Rowed.sees" 43 2 p6 301,tu [(.str "row" 581),(.str "seen" 582)],⟨(.type "dict"),none,(.dict #[en P "__module__" 550 (.str "duskbook.settlers" 495),en P "__firstlineno__" 554 (.int (163) 553),en P "__init__" 563 (.ref 288),en P "says" 571 (.ref 295),en P "sees" 580 (.ref 302),en P "__static_attributes__" 583 (.ref 303),en P "__doc__" 584 .none] 2),#[]⟩,⟨(.type "type"),none,(.cls ⟨"Rowed",[(.ref 270)],[(.ref 305),(.ref 270),(.type "object")],304,"Rowed",true,[],[],false,none,false⟩),#[(some (.ref 275)),none,(some (.str "Rowed" 543)),(some (.str "Rowed" 551)),(some (.builtin "object.__new__")),(some (.bool true))]⟩,⟨(.type "super"),none,(.fields #[(.ref 305),(.ref 305),(.ref 305)]),#[]⟩,⟨(.type "builtin_function_or_method"),none,(.fields #[(.builtin "object.__init_subclass__"),(.ref 305)]),#[]⟩,tu [(.ref 270)],⟨(.type "builtin_function_or_method"),none,(.fields #[(.builtin "type.__prepare__"),(.type "type")]),#[]⟩,⟨(.type "dict"),none,(.dict #[en P "__module__" 594 (.str "duskbook.settlers" 495),en P "__qualname__" 596 (.str "Papered" 595),en P "__firstlineno__" 598 (.int (176) 597),en P "__init__" 611 (.ref 322),en P "says" 619 (.ref 329),en P "__static_attributes__" 624 (.ref 330)] 6),#[]⟩,tu [],⟨.none,none,(.fields #[(.int (178) 0),(.int (4) 0),(.ref 321),(.int (185) 0),(.int (4) 0),(.ref 328)]),#[]⟩,⟨(.type "code"),none,(.fields #[(.str "Papered" 589),(.str "Papered" 590),(.str "/claim/cut.py" 591),(.int (176) 0),(.int (0) 0),(.int (0) 0),(.int (0) 0),(.int (0) 0),(.ref 311),(.bool false),(.int (181) 0),(.ref 312),.none,.none,.none,.none,(.int (592) 0),(.int (176) 0),(.str "/claim/cut.py" 593)]),#[]⟩,⟨(.type "frame"),none,.plain,#[(some (.ref 313)),(some (.ref 3)),(some (.ref 310)),none,(some (.str "duskbook.settlers" 495)),none,(some (.ref 0))]⟩,tu [(.int (0) 599)],tu [],fl,tu [(.str "self" 603),(.str "hand" 604),(.str "paper" 605),(.str "book" 606),(.str "hands" 607),(.str "start" 608)],tu []]++([⟨.none,none,(fn "__init__" "Papered.__init__" (topm 44 0) .none .none .none .none none .none .none 0 0),#[]⟩,⟨(.type "code"),none,(.fields #[(.str "__init__" 600),(.str "Papered.__init__" 601),(.str "/claim/cut.py" 602),(.int (178) 0),(.int (6) 0),(.int (0) 0),(.int (0) 0),(.int (3) 0),(.ref 316),(.bool true),(.int (181) 0),(.ref 317),.none,(.ref 318),(.ref 319),(.ref 320),(.int (609) 0),(.int (178) 0),(.str "/claim/cut.py" 610)]),#[]⟩,⟨(.type "function"),none,(fn "__init__" "Papered.__init__" (topm 44 0) (.ref 315) .none .none (.str "duskbook.settlers" 495) none (.ref 321) .none 3 0),#[]⟩,tu [],fl,tu [(.str "self" 615),(.str "watch" 616)],tu [],⟨.none,none,(fn "says" "Papered.says" (topm 44 1) .none .none .none .none none .none .none 0 0),#[]⟩,⟨(.type "code"),none,(.fields #[(.str "says" 612),(.str "Papered.says" 613),(.str "/claim/cut.py" 614),(.int (185) 0),(.int (2) 0),(.int (0) 0),(.int (0) 0),(.int (3) 0),(.ref 323),(.bool true),(.int (181) 0),(.ref 324),.none,(.ref 325),(.ref 326),(.ref 327),(.int (617) 0),(.int (185) 0),(.str "/claim/cut.py" 618)]),#[]⟩,oM "says" "Papered.says" 44 1 p6 328,tu [(.str "book" 620),(.str "hands" 621),(.str "paper" 622),(.str "start" 623)],⟨(.type "dict"),none,(.dict #[en P "__module__" 594 (.str "duskbook.settlers" 495),en P "__firstlineno__" 598 (.int (176) 597),en P "__init__" 611 (.ref 322),en P "says" 619 (.ref 329),en P "__static_attributes__" 624 (.ref 330),en P "__doc__" 625 .none] 2),#[]⟩,⟨(.type "type"),none,(.cls ⟨"Papered",[(.ref 270)],[(.ref 332),(.ref 270),(.type "object")],331,"Papered",true,[],[],false,none,false⟩),#[(some (.ref 308)),none,(some (.str "Papered" 587)),(some (.str "Papered" 595)),(some (.builtin "object.__new__")),(some (.bool true))]⟩,⟨(.type "super"),none,(.fields #[(.ref 332),(.ref 332),(.ref 332)]),#[]⟩,⟨(.type "builtin_function_or_method"),none,(.fields #[(.builtin "object.__init_subclass__"),(.ref 332)]),#[]⟩]++(dG "play_out" 45 187 3 628 335 p6 181 [(.str "watch" 631),(.str "keeper" 632),(.str "storm" 633),(.str "hand" 634),(.str "mover" 635),(.str "lit" 636)]++(dG "is_hand" 47 197 1 642 342 p7 181 [(.str "thing" 645)]++(dF "check_hands" 48 199 2 649 349 p7 181++([tu [],⟨(.type "builtin_function_or_method"),none,(.fields #[(.builtin "type.__prepare__"),(.type "type")]),#[]⟩,⟨(.type "dict"),none,(.dict #[en P "__module__" 662 (.str "duskbook.watches" 640),en P "__qualname__" 664 (.str "Watch" 663),en P "__firstlineno__" 666 (.int (206) 665),en P "__init__" 675 (.ref 367),en P "turn" 682 (.ref 374),en P "evening" 689 (.ref 381),en P "left" 699 (.ref 388),en P "winner" 706 (.ref 395),en P "settle" 714 (.ref 402),en P "back" 721 (.ref 409),en P "__static_attributes__" 725 (.ref 410)] 11),#[]⟩,tu [],⟨.none,none,(.fields #[(.int (208) 0),(.int (4) 0),(.ref 366),(.int (214) 0),(.int (4) 0),(.ref 373),(.int (219) 0),(.int (4) 0),(.ref 380),(.int (222) 0),(.int (4) 0),(.ref 387),(.int (228) 0),(.int (4) 0),(.ref 394),(.int (233) 0),(.int (4) 0),(.ref 401),(.int (241) 0),(.int (4) 0),(.ref 408)]),#[]⟩,⟨(.type "code"),none,(.fields #[(.str "Watch" 657),(.str "Watch" 658),(.str "/claim/cut.py" 659),(.int (206) 0),(.int (0) 0),(.int (0) 0),(.int (0) 0),(.int (0) 0),(.ref 357),(.bool false),(.int (181) 0),(.ref 358),.none,.none,.none,.none,(.int (660) 0),(.int (206) 0),(.str "/claim/cut.py" 661)]),#[]⟩,⟨(.type "frame"),none,.plain,#[(some (.ref 359)),(some (.ref 3)),(some (.ref 356)),none,(some (.str "duskbook.watches" 640)),none,(some (.ref 0))]⟩,tu [],fl,tu [(.str "self" 670),(.str "book" 671),(.str "hands" 672)],tu [],⟨.none,none,(fn "__init__" "Watch.__init__" (topm 49 0) .none .none .none .none none .none .none 0 0),#[]⟩,⟨(.type "code"),none,(.fields #[(.str "__init__" 667),(.str "Watch.__init__" 668),(.str "/claim/cut.py" 669),(.int (208) 0),(.int (3) 0),(.int (0) 0),(.int (0) 0),(.int (3) 0),(.ref 361),(.bool true),(.int (181) 0),(.ref 362),.none,(.ref 363),(.ref 364),(.ref 365),(.int (673) 0),(.int (208) 0),(.str "/claim/cut.py" 674)]),#[]⟩,oM "__init__" "Watch.__init__" 49 0 p7 366,tu [],fl,tu [(.str "self" 679)],tu [],⟨.none,none,(fn "turn" "Watch.turn" (topm 49 1) .none .none .none .none none .none .none 0 0),#[]⟩,⟨(.type "code"),none,(.fields #[(.str "turn" 676),(.str "Watch.turn" 677),(.str "/claim/cut.py" 678),(.int (214) 0),(.int (1) 0),(.int (0) 0),(.int (0) 0),(.int (3) 0),(.ref 368),(.bool true),(.int (181) 0),(.ref 369),.none,(.ref 370),(.ref 371),(.ref 372),(.int (680) 0),(.int (214) 0),(.str "/claim/cut.py" 681)]),#[]⟩,oM "turn" "Watch.turn" 49 1 p7 373,tu [],fl,tu [(.str "self" 686)],tu [],⟨.none,none,(fn "evening" "Watch.evening" (topm 49 2) .none .none .none .none none .none .none 0 0),#[]⟩,⟨(.type "code"),none,(.fields #[(.str "evening" 683),(.str "Watch.evening" 684),(.str "/claim/cut.py" 685),(.int (219) 0),(.int (1) 0),(.int (0) 0),(.int (0) 0),(.int (3) 0),(.ref 375),(.bool true),(.int (181) 0),(.ref 376),.none,(.ref 377),(.ref 378),(.ref 379),(.int (687) 0),(.int (219) 0),(.str "/claim/cut.py" 688)]),#[]⟩,oM "evening" "Watch.evening" 49 2 p7 380,tu [],fl,tu [(.str "self" 693),(.str "book" 694),(.str "beacon" 695),(.str "lit" 696)],tu [],⟨.none,none,(fn "left" "Watch.left" (topm 49 3) .none .none .none .none none .none .none 0 0),#[]⟩,⟨(.type "code"),none,(.fields #[(.str "left" 690),(.str "Watch.left" 691),(.str "/claim/cut.py" 692),(.int (222) 0),(.int (1) 0),(.int (0) 0),(.int (0) 0),(.int (3) 0),(.ref 382),(.bool true),(.int (181) 0),(.ref 383),.none,(.ref 384),(.ref 385),(.ref 386),(.int (697) 0),(.int (222) 0),(.str "/claim/cut.py" 698)]),#[]⟩,oM "left" "Watch.left" 49 3 p7 387,tu [],fl,tu [(.str "self" 703)],tu [],⟨.none,none,(fn "winner" "Watch.winner" (topm 49 4) .none .none .none .none none .none .none 0 0),#[]⟩]++([⟨(.type "code"),none,(.fields #[(.str "winner" 700),(.str "Watch.winner" 701),(.str "/claim/cut.py" 702),(.int (228) 0),(.int (1) 0),(.int (0) 0),(.int (0) 0),(.int (3) 0),(.ref 389),(.bool true),(.int (181) 0),(.ref 390),.none,(.ref 391),(.ref 392),(.ref 393),(.int (704) 0),(.int (228) 0),(.str "/claim/cut.py" 705)]),#[]⟩,oM "winner" "Watch.winner" 49 4 p7 394,tu [],fl,tu [(.str "self" 710),(.str "lit" 711)],tu [],⟨.none,none,(fn "settle" "Watch.settle" (topm 49 5) .none .none .none .none none .none .none 0 0),#[]⟩,⟨(.type "code"),none,(.fields #[(.str "settle" 707),(.str "Watch.settle" 708),(.str "/claim/cut.py" 709),(.int (233) 0),(.int (2) 0),(.int (0) 0),(.int (0) 0),(.int (3) 0),(.ref 396),(.bool true),(.int (181) 0),(.ref 397),.none,(.ref 398),(.ref 399),(.ref 400),(.int (712) 0),(.int (233) 0),(.str "/claim/cut.py" 713)]),#[]⟩,oM "settle" "Watch.settle" 49 5 p7 401,tu [],fl,tu [(.str "self" 718)],tu [],⟨.none,none,(fn "back" "Watch.back" (topm 49 6) .none .none .none .none none .none .none 0 0),#[]⟩,⟨(.type "code"),none,(.fields #[(.str "back" 715),(.str "Watch.back" 716),(.str "/claim/cut.py" 717),(.int (241) 0),(.int (1) 0),(.int (0) 0),(.int (0) 0),(.int (3) 0),(.ref 403),(.bool true),(.int (181) 0),(.ref 404),.none,(.ref 405),(.ref 406),(.ref 407),(.int (719) 0),(.int (241) 0),(.str "/claim/cut.py" 720)]),#[]⟩,oM "back" "Watch.back" 49 6 p7 408,tu [(.str "book" 722),(.str "hands" 723),(.str "truths" 724)],⟨(.type "dict"),none,(.dict #[en P "__module__" 662 (.str "duskbook.watches" 640),en P "__firstlineno__" 666 (.int (206) 665),en P "__init__" 675 (.ref 367),en P "turn" 682 (.ref 374),en P "evening" 689 (.ref 381),en P "left" 699 (.ref 388),en P "winner" 706 (.ref 395),en P "settle" 714 (.ref 402),en P "back" 721 (.ref 409),en P "__static_attributes__" 725 (.ref 410),en P "__dict__" 727 (.ref 413),en P "__weakref__" 729 (.ref 414),en P "__doc__" 730 .none] 4),#[]⟩,⟨(.type "type"),none,(.cls ⟨"Watch",[(.type "object")],[(.ref 412),(.type "object")],411,"Watch",true,[],[],false,none,false⟩),#[none,none,(some (.str "Watch" 655)),(some (.str "Watch" 663)),(some (.builtin "object.__new__")),(some (.bool true))]⟩,⟨(.type "getset_descriptor"),none,(.fields #[(.str "__dict__" 726),(.ref 412),(.builtin "function.__dict__"),(.builtin "function.__dict__#set")]),#[]⟩,⟨(.type "getset_descriptor"),none,(.fields #[(.str "__weakref__" 728),(.ref 412),(.builtin "ExceptionGroup.__weakref__"),.none]),#[]⟩,⟨(.type "super"),none,(.fields #[(.ref 412),(.ref 412),(.ref 412)]),#[]⟩,⟨(.type "builtin_function_or_method"),none,(.fields #[(.builtin "object.__init_subclass__"),(.ref 412)]),#[]⟩]++(dG "_law_cell" 51 244 2 735 417 p8 181 [(.str "script" 738),(.str "k" 739)]++(dG "_law_mixed" 52 248 2 743 424 p8 181 [(.str "cell" 746),(.str "by" 747)]++(dG "_law_bits" 53 250 2 751 431 p8 181 [(.str "cell" 754),(.str "many" 755),(.str "left" 756),(.str "bits" 757),(.str "k" 758)]++(dG "_law_bool" 54 257 2 762 438 p8 181 [(.str "found" 765),(.str "due" 766)]++(dF "_law_hands" 55 259 2 770 445 p8 181++(dF "_law_own" 56 261 3 776 450 p8 181++(dF "_law_plan" 57 263 3 782 455 p8 181++(dG "_law_comes" 58 270 2 788 460 p8 181 [(.str "rows" 791),(.str "saying" 792),(.str "beacon" 793),(.str "source" 794),(.str "lit" 795)]++(dG "_law_either" 59 277 3 799 467 p8 181 [(.str "rows" 802),(.str "one" 803),(.str "other" 804),(.str "here" 805)]))))))))))))))))))))))))
noncomputable def al2(P:Params):List Obj:=dG "_law_eithers" 60 284 4 809 474 p8 181 [(.str "script" 812),(.str "rows" 813),(.str "hands" 814),(.str "start" 815),(.str "rules" 816),(.str "many" 817),(.str "cell" 818),(.str "left" 819),(.str "one" 820),(.str "other" 821)]++(dG "_law_numbers_of" 61 294 1 825 481 p8 181 [(.str "cells" 828),(.str "row" 829),(.str "cell" 830),(.str "number" 831)]++(dG "_law_planned" 62 302 2 835 488 p8 181 [(.str "rows" 838),(.str "evening" 839),(.str "beacon" 840),(.str "source" 841),(.str "lit" 842)]++(dG "_law_says" 63 307 4 846 495 p8 181 [(.str "settlers" 849),(.str "watch" 850),(.str "dues" 851),(.str "order" 852),(.str "k" 853),(.str "which" 854)]++(dF "_law_two_rowed" 64 313 3 858 502 p8 181++(dF "law" 65 327 1 864 507 p8 181)))))
noncomputable def al(P:Params):List Obj:=al0 P++al1 P++al2 P
noncomputable def upd(l:List (Nat×Obj))(xs:List Obj):List Obj:=l.foldl (λxs p=>xs.set p.1 p.2) xs
noncomputable def ev:List Obj->List Obj
 | []=>[]
 | [x]=>[x]
 | x::_::r=>x::ev r
noncomputable def bt:Nat->List Obj->BT
 | 0,_=>.nil
 | _+1,[]=>.nil
 | n+1,x::xs=>.node x (bt n (ev xs)) (bt n (ev xs.tail))
noncomputable abbrev bd:List Stmt:=behindTheImports pg
noncomputable abbrev sl(i n:Nat):List Stmt:=(bd.drop i).take n
noncomputable abbrev env:Env:={ scope:=pg.main.scope,locals:=mainNs,globals:=mainNs,cells:=[],code:=(.ref 13),frame:=some 14 }
noncomputable abbrev cE:Code:=.body bd env
noncomputable abbrev B:List Frame:=[topFrame ⟨0,0,0,0⟩]
noncomputable abbrev ss(n:Nat)(l:Params->List (Nat×Obj))(t:Nat)(w:World)(os:OsState):SharedT:=⟨bt 12 (upd (l w.params) ((al w.params).take n)),n,{},.mk [],boot_drawn,t,os⟩
noncomputable def h0(P:Params):Heap:=⟨⟨upd [(3,boot_o_3 P),(12,fl)] ((al P).take 15)⟩,{}⟩
noncomputable abbrev s0(w:World)(os:OsState):Shared:=⟨h0 w.params,.mk [],boot_drawn,187,os⟩
noncomputable abbrev s1:World->OsState->SharedT:=ss 15 (λP=>[(3,boot_o_3 P),(12,fl)]) 187
noncomputable abbrev s2:World->OsState->SharedT:=ss 55 (λP=>[(3,ns P (en P "__name__" 165 (.str "duskbook.errors" 225)) 14 15),(12,ft 15),(51,⟨(.type "type"),none,(.cls ⟨"DuskError",[(.type "ValueError")],[(.ref 51),(.type "ValueError"),(.type "Exception"),(.type "BaseException"),(.type "object")],50,"DuskError",true,[],[],false,none,false⟩),#[(some (.ref 42)),none,(some (.str "DuskError" 227)),(some (.str "DuskError" 235)),(some (.builtin "ValueError.__new__")),(some (.bool true))]⟩)]) 245
noncomputable abbrev s3:World->OsState->SharedT:=ss 67 (λP=>[(3,ns P (en P "__name__" 165 (.str "duskbook.errors" 225)) 15 16),(12,ft 18),(51,⟨(.type "type"),none,(.cls ⟨"DuskError",[(.type "ValueError")],[(.ref 51),(.type "ValueError"),(.type "Exception"),(.type "BaseException"),(.type "object")],50,"DuskError",true,[],[(.ref 64)],false,none,false⟩),#[(some (.ref 42)),none,(some (.str "DuskError" 227)),(some (.str "DuskError" 235)),(some (.builtin "ValueError.__new__")),(some (.bool true))]⟩)]) 261
noncomputable abbrev s4:World->OsState->SharedT:=ss 79 (λP=>[(3,ns P (en P "__name__" 165 (.str "duskbook.errors" 225)) 16 17),(12,ft 21),(51,⟨(.type "type"),none,(.cls ⟨"DuskError",[(.type "ValueError")],[(.ref 51),(.type "ValueError"),(.type "Exception"),(.type "BaseException"),(.type "object")],50,"DuskError",true,[],[(.ref 64),(.ref 76)],false,none,false⟩),#[(some (.ref 42)),none,(some (.str "DuskError" 227)),(some (.str "DuskError" 235)),(some (.builtin "ValueError.__new__")),(some (.bool true))]⟩)]) 277
noncomputable abbrev s5:World->OsState->SharedT:=ss 125 (λP=>[(3,ns P (en P "__name__" 165 (.str "duskbook.books" 293)) 24 25),(12,ft 42)]) 338
noncomputable abbrev s6:World->OsState->SharedT:=ss 202 (λP=>[(3,ns P (en P "__name__" 165 (.str "duskbook.playing" 410)) 37 38),(12,ft 81)]) 442
noncomputable abbrev s7:World->OsState->SharedT:=ss 240 (λP=>[(3,ns P (en P "__name__" 165 (.str "duskbook.settlers" 495)) 43 44),(12,ft 99)]) 497
noncomputable abbrev s8:World->OsState->SharedT:=ss 275 (λP=>[(3,ns P (en P "__name__" 165 (.str "duskbook.settlers" 495)) 44 45),(12,ft 102),(270,⟨(.type "type"),none,(.cls ⟨"Settler",[(.type "object")],[(.ref 270),(.type "object")],269,"Settler",true,[],[],false,none,false⟩),#[none,none,(some (.str "Settler" 497)),(some (.str "Settler" 505)),(some (.builtin "object.__new__")),(some (.bool true))]⟩)]) 543
noncomputable abbrev s9:World->OsState->SharedT:=ss 308 (λP=>[(3,ns P (en P "__name__" 165 (.str "duskbook.settlers" 495)) 45 46),(12,ft 105),(270,⟨(.type "type"),none,(.cls ⟨"Settler",[(.type "object")],[(.ref 270),(.type "object")],269,"Settler",true,[],[(.ref 305)],false,none,false⟩),#[none,none,(some (.str "Settler" 497)),(some (.str "Settler" 505)),(some (.builtin "object.__new__")),(some (.bool true))]⟩)]) 587
noncomputable abbrev s10:World->OsState->SharedT:=ss 354 (λP=>[(3,ns P (en P "__name__" 165 (.str "duskbook.watches" 640)) 49 50),(12,ft 117)]) 655
noncomputable abbrev s11:World->OsState->SharedT:=ss 417 (λP=>[(3,ns P (en P "__name__" 165 (.str "duskbook.watches" 640)) 50 51),(12,ft 120)]) 733
noncomputable abbrev s12:World->OsState->SharedT:=ss 495 (λP=>[(3,ns P (en P "__name__" 165 (.str "law_duskbook_k41_settlers" 733)) 62 63),(12,ft 156)]) 846
noncomputable abbrev s13:World->OsState->SharedT:=ss 512 (λP=>[]) 870
noncomputable def h14(P:Params):Heap:=⟨⟨upd [] ((al P).take 512)⟩,{}⟩
noncomputable abbrev s14(w:World)(os:OsState):Shared:=⟨h14 w.params,.mk [],boot_drawn,870,os⟩
noncomputable abbrev sz(w:World)(os:OsState):Shared:=⟨boot_heap w.params,.mk [],boot_drawn,boot_toks,os⟩
theorem e0:∀w:World,(λos=>topGo treeTable pg w 11 (some (.ref 6)) 12 (sz w os) (topStub pg))=λos=>some (s0 w os,⟨denote treeTable cE,cE,⟨0,0,0,0⟩,B⟩):=by
 rw[W.Fast.te15667345088766844465,W.Fast.te14364793385576792824,W.Fast.te11892475500146522536];intro w;kernel_rfl
theorem e1:∀w:World,(λos=>segRun treeTable pg w 11 (some (.ref 6)) 1 1 (s0 w os) (blockOf bd env cE ⟨0,0,0,0⟩ B))=λos=>some (.next,(s1 w os).abs,cE,⟨0,0,0,0⟩):=by
 rw[W.Fast.te14374325043358763698,W.Fast.te14364793385576792824];intro w;kernel_rfl
theorem e2:∀w:World,(λos=>segRunT treeTable pg w 11 (some (.ref 6)) 1 343 (s1 w os) (piecesOf (sl 0 9) env cE ⟨0,0,0,0⟩ B))=λos=>some (.next,s2 w os,cE,⟨17,0,18,8⟩):=by
 rw[W.Fast.te10110043849684766642,W.Fast.te14364793385576792824];intro w;kernel_rfl
theorem e3:∀w:World,(λos=>segRunT treeTable pg w 11 (some (.ref 6)) 1 214 (s2 w os) (piecesOf (sl 9 1) env cE ⟨17,0,18,8⟩ B))=λos=>some (.next,s3 w os,cE,⟨19,0,20,8⟩):=by
 rw[W.Fast.te10110043849684766642,W.Fast.te14364793385576792824];intro w;kernel_rfl
theorem e4:∀w:World,(λos=>segRunT treeTable pg w 11 (some (.ref 6)) 1 214 (s3 w os) (piecesOf (sl 10 1) env cE ⟨19,0,20,8⟩ B))=λos=>some (.next,s4 w os,cE,⟨21,0,22,8⟩):=by
 rw[W.Fast.te10110043849684766642,W.Fast.te14364793385576792824];intro w;kernel_rfl
theorem e5:∀w:World,(λos=>segRunT treeTable pg w 11 (some (.ref 6)) 1 397 (s4 w os) (piecesOf (sl 11 9) env cE ⟨21,0,22,8⟩ B))=λos=>some (.next,s5 w os,cE,⟨44,0,45,48⟩):=by
 rw[W.Fast.te10110043849684766642,W.Fast.te14364793385576792824];intro w;kernel_rfl
theorem e6:∀w:World,(λos=>segRunT treeTable pg w 11 (some (.ref 6)) 1 391 (s5 w os) (piecesOf (sl 20 15) env cE ⟨44,0,45,48⟩ B))=λos=>some (.next,s6 w os,cE,⟨103,0,105,50⟩):=by
 rw[W.Fast.te10110043849684766642,W.Fast.te14364793385576792824];intro w;kernel_rfl
theorem e7:∀w:World,(λos=>segRunT treeTable pg w 11 (some (.ref 6)) 1 191 (s6 w os) (piecesOf (sl 35 7) env cE ⟨103,0,105,50⟩ B))=λos=>some (.next,s7 w os,cE,⟨152,0,152,8⟩):=by
 rw[W.Fast.te10110043849684766642,W.Fast.te14364793385576792824];intro w;kernel_rfl
theorem e8:∀w:World,(λos=>segRunT treeTable pg w 11 (some (.ref 6)) 1 288 (s7 w os) (piecesOf (sl 42 1) env cE ⟨152,0,152,8⟩ B))=λos=>some (.next,s8 w os,cE,⟨153,0,162,12⟩):=by
 rw[W.Fast.te10110043849684766642,W.Fast.te14364793385576792824];intro w;kernel_rfl
theorem e9:∀w:World,(λos=>segRunT treeTable pg w 11 (some (.ref 6)) 1 313 (s8 w os) (piecesOf (sl 43 1) env cE ⟨153,0,162,12⟩ B))=λos=>some (.next,s9 w os,cE,⟨163,0,175,26⟩):=by
 rw[W.Fast.te10110043849684766642,W.Fast.te14364793385576792824];intro w;kernel_rfl
theorem e10:∀w:World,(λos=>segRunT treeTable pg w 11 (some (.ref 6)) 1 385 (s9 w os) (piecesOf (sl 44 5) env cE ⟨163,0,175,26⟩ B))=λos=>some (.next,s10 w os,cE,⟨199,0,205,69⟩):=by
 rw[W.Fast.te10110043849684766642,W.Fast.te14364793385576792824];intro w;kernel_rfl
theorem e11:∀w:World,(λos=>segRunT treeTable pg w 11 (some (.ref 6)) 1 416 (s10 w os) (piecesOf (sl 49 1) env cE ⟨199,0,205,69⟩ B))=λos=>some (.next,s11 w os,cE,⟨206,0,242,16⟩):=by
 rw[W.Fast.te10110043849684766642,W.Fast.te14364793385576792824];intro w;kernel_rfl
theorem e12:∀w:World,(λos=>segRunT treeTable pg w 11 (some (.ref 6)) 1 379 (s11 w os) (piecesOf (sl 50 13) env cE ⟨206,0,242,16⟩ B))=λos=>some (.next,s12 w os,cE,⟨302,0,306,15⟩):=by
 rw[W.Fast.te10110043849684766642,W.Fast.te14364793385576792824];intro w;kernel_rfl
theorem e13:∀w:World,(λos=>segRunT treeTable pg w 11 (some (.ref 6)) 1 87 (s12 w os) (piecesOf (sl 63 3) env cE ⟨302,0,306,15⟩ B))=λos=>some (.next,s13 w os,cE,⟨327,0,358,47⟩):=by
 rw[W.Fast.te10110043849684766642,W.Fast.te14364793385576792824];intro w;kernel_rfl
theorem e14:∀w:World,(λos=>topRun treeTable pg w 11 (some (.ref 6)) 2 (s13 w os).abs ⟨doneF .next,cE,⟨327,0,358,47⟩,B⟩)=λos=>some (s14 w os):=by
 rw[W.Fast.te14082659384304107361,W.Fast.te14364793385576792824];intro w;kernel_rfl
noncomputable abbrev m14:Nat:=2
noncomputable abbrev t14:List Stmt:=[]
noncomputable abbrev R(w:World)(os:OsState)(m:Nat)(s:Shared)(t:List Stmt)(p:Pos):Prop:=topRun treeTable pg w 11 (some (.ref 6)) m s (restOf t env cE p B)=some (s14 w os)
theorem r14(w:World)(os:OsState):R w os m14 (s13 w os).abs t14 ⟨327,0,358,47⟩:=congrFun (e14 w) os
noncomputable abbrev m13:Nat:=87+m14
noncomputable abbrev t13:List Stmt:=sl 63 3++t14
theorem r13(w:World)(os:OsState):R w os m13 (s12 w os).abs t13 ⟨302,0,306,15⟩:=piece_app (segRun_of (congrFun (e13 w) os)) (r14 w os)
noncomputable abbrev m12:Nat:=379+m13
noncomputable abbrev t12:List Stmt:=sl 50 13++t13
theorem r12(w:World)(os:OsState):R w os m12 (s11 w os).abs t12 ⟨206,0,242,16⟩:=piece_app (segRun_of (congrFun (e12 w) os)) (r13 w os)
noncomputable abbrev m11:Nat:=416+m12
noncomputable abbrev t11:List Stmt:=sl 49 1++t12
theorem r11(w:World)(os:OsState):R w os m11 (s10 w os).abs t11 ⟨199,0,205,69⟩:=piece_app (segRun_of (congrFun (e11 w) os)) (r12 w os)
noncomputable abbrev m10:Nat:=385+m11
noncomputable abbrev t10:List Stmt:=sl 44 5++t11
theorem r10(w:World)(os:OsState):R w os m10 (s9 w os).abs t10 ⟨163,0,175,26⟩:=piece_app (segRun_of (congrFun (e10 w) os)) (r11 w os)
noncomputable abbrev m9:Nat:=313+m10
noncomputable abbrev t9:List Stmt:=sl 43 1++t10
theorem r9(w:World)(os:OsState):R w os m9 (s8 w os).abs t9 ⟨153,0,162,12⟩:=piece_app (segRun_of (congrFun (e9 w) os)) (r10 w os)
noncomputable abbrev m8:Nat:=288+m9
noncomputable abbrev t8:List Stmt:=sl 42 1++t9
theorem r8(w:World)(os:OsState):R w os m8 (s7 w os).abs t8 ⟨152,0,152,8⟩:=piece_app (segRun_of (congrFun (e8 w) os)) (r9 w os)
noncomputable abbrev m7:Nat:=191+m8
noncomputable abbrev t7:List Stmt:=sl 35 7++t8
theorem r7(w:World)(os:OsState):R w os m7 (s6 w os).abs t7 ⟨103,0,105,50⟩:=piece_app (segRun_of (congrFun (e7 w) os)) (r8 w os)
noncomputable abbrev m6:Nat:=391+m7
noncomputable abbrev t6:List Stmt:=sl 20 15++t7
theorem r6(w:World)(os:OsState):R w os m6 (s5 w os).abs t6 ⟨44,0,45,48⟩:=piece_app (segRun_of (congrFun (e6 w) os)) (r7 w os)
noncomputable abbrev m5:Nat:=397+m6
noncomputable abbrev t5:List Stmt:=sl 11 9++t6
theorem r5(w:World)(os:OsState):R w os m5 (s4 w os).abs t5 ⟨21,0,22,8⟩:=piece_app (segRun_of (congrFun (e5 w) os)) (r6 w os)
noncomputable abbrev m4:Nat:=214+m5
noncomputable abbrev t4:List Stmt:=sl 10 1++t5
theorem r4(w:World)(os:OsState):R w os m4 (s3 w os).abs t4 ⟨19,0,20,8⟩:=piece_app (segRun_of (congrFun (e4 w) os)) (r5 w os)
noncomputable abbrev m3:Nat:=214+m4
noncomputable abbrev t3:List Stmt:=sl 9 1++t4
theorem r3(w:World)(os:OsState):R w os m3 (s2 w os).abs t3 ⟨17,0,18,8⟩:=piece_app (segRun_of (congrFun (e3 w) os)) (r4 w os)
noncomputable abbrev m2:Nat:=343+m3
noncomputable abbrev t2:List Stmt:=sl 0 9++t3
theorem r2(w:World)(os:OsState):R w os m2 (s1 w os).abs t2 ⟨0,0,0,0⟩:=piece_app (segRun_of (congrFun (e2 w) os)) (r3 w os)
theorem tb:bd=t2:=by kernel_rfl
theorem run(w:World)(os:OsState):topRun treeTable pg w 11 (some (.ref 6)) (12+(1+m2)) (sz w os) (topStub pg)=some (s14 w os):=by
 have r:=r2 w os;unfold R at r;rw[<-congrArg (λx=>restOf x env cE ⟨0,0,0,0⟩ B) tb]at r;exact go_top (congrFun (e0 w) os) (piece_block (congrFun (e1 w) os) r)
theorem op:∀w:World,(fencedOpening treeTable pg w 7338).map (λs=>(s.heap,s.gens,s.drawn,s.toks))=some (boot_heap w.params,Array.mk [],boot_drawn,boot_toks):=
 boot_open (by kernel_rfl) (by decide) (λs=>by kernel_rfl)
theorem size:∀w:World,((boot_heap w.params).isNs mainGlobals&&(Array.mk []:Array GenState).size==0,(boot_heap w.params).objs.size,(boot_heap w.params).nsMap mainGlobals "__annotations__")=(true,11,(some (.ref 6))):=by
 rw[W.Fast.te8920871248978507458];intro w;kernel_rfl
noncomputable def K(P:Params):Frag:=(nat_lit 2,boot_o_2 P)::(nat_lit 3,ns P (en P "__name__" 165 (.str "law_duskbook_k41_settlers" 733)) 65 66)::(nat_lit 36,tu [(.str "keeper" 216),(.str "storm" 217)])::(nat_lit 94,oC "either_holds" 297 27 2 91 .none .none 93 181 300)::(nat_lit 95,oF "either_holds" 14 p3 94)::(nat_lit 99,oC "sum_holds" 303 29 2 96 .none .none 98 181 306)::(nat_lit 100,oF "sum_holds" 15 p3 99)::(nat_lit 104,oC "if_holds" 309 32 3 101 .none .none 103 181 312)::(nat_lit 105,oF "if_holds" 16 p3 104)::(nat_lit 111,oC "rule_holds" 315 36 3 106 (.ref 108) (.ref 109) 110 181 321)::(nat_lit 112,oF "rule_holds" 17 p3 111)::(nat_lit 116,oC "broken_rules" 324 42 2 113 .none .none 115 181 327)::(nat_lit 117,oF "broken_rules" 18 p3 116)::(nat_lit 123,oC "holds" 330 44 2 118 (.ref 120) (.ref 121) 122 181 335)::(nat_lit 124,oF "holds" 19 p3 123)::(nat_lit 128,oC "beacons_in" 338 46 2 125 .none .none 127 181 341)::(nat_lit 129,oF "beacons_in" 20 p3 128)::(nat_lit 135,oC "beacons_of" 344 52 1 130 (.ref 132) (.ref 133) 134 181 350)::(nat_lit 136,oF "beacons_of" 21 p3 135)::(nat_lit 181,oC "row_of" 412 94 2 178 .none .none 180 181 415)::(nat_lit 182,oF "row_of" 31 p5 181)::(nat_lit 193,oC "plan_said" 424 98 2 188 (.ref 190) (.ref 191) 192 181 430)::(nat_lit 194,oF "plan_said" 33 p5 193)::(nat_lit 238,oC "said" 481 133 5 233 (.ref 235) (.ref 236) 237 181 492)::(nat_lit 239,oF "said" 40 p5 238)::(nat_lit 252,⟨(.type "code"),none,(.fields #[(.str "__init__" 509),(.str "Settler.__init__" 510),(.str "/claim/cut.py" 511),(.int (155) 0),(.int (2) 0),(.int (0) 0),(.int (0) 0),(.int (3) 0),(.ref 247),(.bool true),(.int (181) 0),(.ref 248),.none,(.ref 249),(.ref 250),(.ref 251),(.int (514) 0),(.int (155) 0),(.str "/claim/cut.py" 515)]),#[]⟩)::(nat_lit 253,oM "__init__" "Settler.__init__" 42 0 p6 252)::(nat_lit 259,⟨(.type "code"),none,(.fields #[(.str "says" 517),(.str "Settler.says" 518),(.str "/claim/cut.py" 519),(.int (158) 0),(.int (2) 0),(.int (0) 0),(.int (0) 0),(.int (3) 0),(.ref 254),(.bool true),(.int (181) 0),(.ref 255),.none,(.ref 256),(.ref 257),(.ref 258),(.int (522) 0),(.int (158) 0),(.str "/claim/cut.py" 523)]),#[]⟩)::(nat_lit 260,oM "says" "Settler.says" 42 1 p6 259)::(nat_lit 266,⟨(.type "code"),none,(.fields #[(.str "sees" 525),(.str "Settler.sees" 526),(.str "/claim/cut.py" 527),(.int (161) 0),(.int (3) 0),(.int (0) 0),(.int (0) 0),(.int (3) 0),(.ref 261),(.bool true),(.int (181) 0),(.ref 262),.none,(.ref 263),(.ref 264),(.ref 265),(.int (531) 0),(.int (161) 0),(.str "/claim/cut.py" 532)]),#[]⟩)::(nat_lit 267,oM "sees" "Settler.sees" 42 2 p6 266)::(nat_lit 269,⟨(.type "dict"),none,(.dict #[en P "__module__" 504 (.str "duskbook.settlers" 495),en P "__firstlineno__" 508 (.int (153) 507),en P "__init__" 516 (.ref 253),en P "says" 524 (.ref 260),en P "sees" 533 (.ref 267),en P "__static_attributes__" 535 (.ref 268),en P "__dict__" 537 (.ref 271),en P "__weakref__" 539 (.ref 272),en P "__doc__" 540 .none] 4),#[]⟩)::(nat_lit 270,⟨(.type "type"),none,(.cls ⟨"Settler",[(.type "object")],[(.ref 270),(.type "object")],269,"Settler",true,[],[(.ref 305),(.ref 332)],false,none,false⟩),#[none,none,(some (.str "Settler" 497)),(some (.str "Settler" 505)),(some (.builtin "object.__new__")),(some (.bool true))]⟩)::(nat_lit 287,⟨(.type "code"),none,(.fields #[(.str "__init__" 555),(.str "Rowed.__init__" 556),(.str "/claim/cut.py" 557),(.int (165) 0),(.int (3) 0),(.int (0) 0),(.int (0) 0),(.int (3) 0),(.ref 282),(.bool true),(.int (181) 0),(.ref 283),.none,(.ref 284),(.ref 285),(.ref 286),(.int (561) 0),(.int (165) 0),(.str "/claim/cut.py" 562)]),#[]⟩)::(nat_lit 288,oM "__init__" "Rowed.__init__" 43 0 p6 287)::(nat_lit 294,⟨(.type "code"),none,(.fields #[(.str "says" 564),(.str "Rowed.says" 565),(.str "/claim/cut.py" 566),(.int (170) 0),(.int (2) 0),(.int (0) 0),(.int (0) 0),(.int (3) 0),(.ref 289),(.bool true),(.int (181) 0),(.ref 290),.none,(.ref 291),(.ref 292),(.ref 293),(.int (569) 0),(.int (170) 0),(.str "/claim/cut.py" 570)]),#[]⟩)::(nat_lit 295,oM "says" "Rowed.says" 43 1 p6 294)::(nat_lit 301,⟨(.type "code"),none,(.fields #[(.str "sees" 572),(.str "Rowed.sees" 573),(.str "/claim/cut.py" 574),(.int (173) 0),(.int (3) 0),(.int (0) 0),(.int (0) 0),(.int (3) 0),(.ref 296),(.bool true),(.int (181) 0),(.ref 297),.none,(.ref 298),(.ref 299),(.ref 300),(.int (578) 0),(.int (173) 0),(.str "/claim/cut.py" 579)]),#[]⟩)::(nat_lit 302,oM "sees" "Rowed.sees" 43 2 p6 301)::(nat_lit 304,⟨(.type "dict"),none,(.dict #[en P "__module__" 550 (.str "duskbook.settlers" 495),en P "__firstlineno__" 554 (.int (163) 553),en P "__init__" 563 (.ref 288),en P "says" 571 (.ref 295),en P "sees" 580 (.ref 302),en P "__static_attributes__" 583 (.ref 303),en P "__doc__" 584 .none] 2),#[]⟩)::(nat_lit 305,⟨(.type "type"),none,(.cls ⟨"Rowed",[(.ref 270)],[(.ref 305),(.ref 270),(.type "object")],304,"Rowed",true,[],[],false,none,false⟩),#[(some (.ref 275)),none,(some (.str "Rowed" 543)),(some (.str "Rowed" 551)),(some (.builtin "object.__new__")),(some (.bool true))]⟩)::(nat_lit 315,tu [(.int (0) 599)])::(nat_lit 321,⟨(.type "code"),none,(.fields #[(.str "__init__" 600),(.str "Papered.__init__" 601),(.str "/claim/cut.py" 602),(.int (178) 0),(.int (6) 0),(.int (0) 0),(.int (0) 0),(.int (3) 0),(.ref 316),(.bool true),(.int (181) 0),(.ref 317),.none,(.ref 318),(.ref 319),(.ref 320),(.int (609) 0),(.int (178) 0),(.str "/claim/cut.py" 610)]),#[]⟩)::(nat_lit 322,⟨(.type "function"),none,(fn "__init__" "Papered.__init__" (topm 44 0) (.ref 315) .none .none (.str "duskbook.settlers" 495) none (.ref 321) .none 3 0),#[]⟩)::(nat_lit 328,⟨(.type "code"),none,(.fields #[(.str "says" 612),(.str "Papered.says" 613),(.str "/claim/cut.py" 614),(.int (185) 0),(.int (2) 0),(.int (0) 0),(.int (0) 0),(.int (3) 0),(.ref 323),(.bool true),(.int (181) 0),(.ref 324),.none,(.ref 325),(.ref 326),(.ref 327),(.int (617) 0),(.int (185) 0),(.str "/claim/cut.py" 618)]),#[]⟩)::(nat_lit 329,oM "says" "Papered.says" 44 1 p6 328)::(nat_lit 331,⟨(.type "dict"),none,(.dict #[en P "__module__" 594 (.str "duskbook.settlers" 495),en P "__firstlineno__" 598 (.int (176) 597),en P "__init__" 611 (.ref 322),en P "says" 619 (.ref 329),en P "__static_attributes__" 624 (.ref 330),en P "__doc__" 625 .none] 2),#[]⟩)::(nat_lit 332,⟨(.type "type"),none,(.cls ⟨"Papered",[(.ref 270)],[(.ref 332),(.ref 270),(.type "object")],331,"Papered",true,[],[],false,none,false⟩),#[(some (.ref 308)),none,(some (.str "Papered" 587)),(some (.str "Papered" 595)),(some (.builtin "object.__new__")),(some (.bool true))]⟩)::(nat_lit 340,oC "play_out" 628 187 3 335 (.ref 337) (.ref 338) 339 181 637)::(nat_lit 341,oF "play_out" 45 p6 340)::(nat_lit 347,oC "is_hand" 642 197 1 342 (.ref 344) (.ref 345) 346 181 646)::(nat_lit 348,oF "is_hand" 47 p7 347)::(nat_lit 352,oC "check_hands" 649 199 2 349 .none .none 351 181 652)::(nat_lit 353,oF "check_hands" 48 p7 352)::(nat_lit 366,⟨(.type "code"),none,(.fields #[(.str "__init__" 667),(.str "Watch.__init__" 668),(.str "/claim/cut.py" 669),(.int (208) 0),(.int (3) 0),(.int (0) 0),(.int (0) 0),(.int (3) 0),(.ref 361),(.bool true),(.int (181) 0),(.ref 362),.none,(.ref 363),(.ref 364),(.ref 365),(.int (673) 0),(.int (208) 0),(.str "/claim/cut.py" 674)]),#[]⟩)::(nat_lit 367,oM "__init__" "Watch.__init__" 49 0 p7 366)::(nat_lit 373,⟨(.type "code"),none,(.fields #[(.str "turn" 676),(.str "Watch.turn" 677),(.str "/claim/cut.py" 678),(.int (214) 0),(.int (1) 0),(.int (0) 0),(.int (0) 0),(.int (3) 0),(.ref 368),(.bool true),(.int (181) 0),(.ref 369),.none,(.ref 370),(.ref 371),(.ref 372),(.int (680) 0),(.int (214) 0),(.str "/claim/cut.py" 681)]),#[]⟩)::(nat_lit 374,oM "turn" "Watch.turn" 49 1 p7 373)::(nat_lit 380,⟨(.type "code"),none,(.fields #[(.str "evening" 683),(.str "Watch.evening" 684),(.str "/claim/cut.py" 685),(.int (219) 0),(.int (1) 0),(.int (0) 0),(.int (0) 0),(.int (3) 0),(.ref 375),(.bool true),(.int (181) 0),(.ref 376),.none,(.ref 377),(.ref 378),(.ref 379),(.int (687) 0),(.int (219) 0),(.str "/claim/cut.py" 688)]),#[]⟩)::(nat_lit 381,oM "evening" "Watch.evening" 49 2 p7 380)::(nat_lit 387,⟨(.type "code"),none,(.fields #[(.str "left" 690),(.str "Watch.left" 691),(.str "/claim/cut.py" 692),(.int (222) 0),(.int (1) 0),(.int (0) 0),(.int (0) 0),(.int (3) 0),(.ref 382),(.bool true),(.int (181) 0),(.ref 383),.none,(.ref 384),(.ref 385),(.ref 386),(.int (697) 0),(.int (222) 0),(.str "/claim/cut.py" 698)]),#[]⟩)::(nat_lit 388,oM "left" "Watch.left" 49 3 p7 387)::(nat_lit 394,⟨(.type "code"),none,(.fields #[(.str "winner" 700),(.str "Watch.winner" 701),(.str "/claim/cut.py" 702),(.int (228) 0),(.int (1) 0),(.int (0) 0),(.int (0) 0),(.int (3) 0),(.ref 389),(.bool true),(.int (181) 0),(.ref 390),.none,(.ref 391),(.ref 392),(.ref 393),(.int (704) 0),(.int (228) 0),(.str "/claim/cut.py" 705)]),#[]⟩)::(nat_lit 395,oM "winner" "Watch.winner" 49 4 p7 394)::(nat_lit 401,⟨(.type "code"),none,(.fields #[(.str "settle" 707),(.str "Watch.settle" 708),(.str "/claim/cut.py" 709),(.int (233) 0),(.int (2) 0),(.int (0) 0),(.int (0) 0),(.int (3) 0),(.ref 396),(.bool true),(.int (181) 0),(.ref 397),.none,(.ref 398),(.ref 399),(.ref 400),(.int (712) 0),(.int (233) 0),(.str "/claim/cut.py" 713)]),#[]⟩)::(nat_lit 402,oM "settle" "Watch.settle" 49 5 p7 401)::(nat_lit 408,⟨(.type "code"),none,(.fields #[(.str "back" 715),(.str "Watch.back" 716),(.str "/claim/cut.py" 717),(.int (241) 0),(.int (1) 0),(.int (0) 0),(.int (0) 0),(.int (3) 0),(.ref 403),(.bool true),(.int (181) 0),(.ref 404),.none,(.ref 405),(.ref 406),(.ref 407),(.int (719) 0),(.int (241) 0),(.str "/claim/cut.py" 720)]),#[]⟩)::(nat_lit 409,oM "back" "Watch.back" 49 6 p7 408)::(nat_lit 411,⟨(.type "dict"),none,(.dict #[en P "__module__" 662 (.str "duskbook.watches" 640),en P "__firstlineno__" 666 (.int (206) 665),en P "__init__" 675 (.ref 367),en P "turn" 682 (.ref 374),en P "evening" 689 (.ref 381),en P "left" 699 (.ref 388),en P "winner" 706 (.ref 395),en P "settle" 714 (.ref 402),en P "back" 721 (.ref 409),en P "__static_attributes__" 725 (.ref 410),en P "__dict__" 727 (.ref 413),en P "__weakref__" 729 (.ref 414),en P "__doc__" 730 .none] 4),#[]⟩)::(nat_lit 412,⟨(.type "type"),none,(.cls ⟨"Watch",[(.type "object")],[(.ref 412),(.type "object")],411,"Watch",true,[],[],false,none,false⟩),#[none,none,(some (.str "Watch" 655)),(some (.str "Watch" 663)),(some (.builtin "object.__new__")),(some (.bool true))]⟩)::(nat_lit 422,oC "_law_cell" 735 244 2 417 (.ref 419) (.ref 420) 421 181 740)::(nat_lit 423,oF "_law_cell" 51 p8 422)::(nat_lit 429,oC "_law_mixed" 743 248 2 424 (.ref 426) (.ref 427) 428 181 748)::(nat_lit 430,oF "_law_mixed" 52 p8 429)::(nat_lit 436,oC "_law_bits" 751 250 2 431 (.ref 433) (.ref 434) 435 181 759)::(nat_lit 437,oF "_law_bits" 53 p8 436)::(nat_lit 443,oC "_law_bool" 762 257 2 438 (.ref 440) (.ref 441) 442 181 767)::(nat_lit 444,oF "_law_bool" 54 p8 443)::(nat_lit 448,oC "_law_hands" 770 259 2 445 .none .none 447 181 773)::(nat_lit 449,oF "_law_hands" 55 p8 448)::(nat_lit 453,oC "_law_own" 776 261 3 450 .none .none 452 181 779)::(nat_lit 454,oF "_law_own" 56 p8 453)::(nat_lit 458,oC "_law_plan" 782 263 3 455 .none .none 457 181 785)::(nat_lit 459,oF "_law_plan" 57 p8 458)::(nat_lit 465,oC "_law_comes" 788 270 2 460 (.ref 462) (.ref 463) 464 181 796)::(nat_lit 466,oF "_law_comes" 58 p8 465)::(nat_lit 472,oC "_law_either" 799 277 3 467 (.ref 469) (.ref 470) 471 181 806)::(nat_lit 473,oF "_law_either" 59 p8 472)::(nat_lit 479,oC "_law_eithers" 809 284 4 474 (.ref 476) (.ref 477) 478 181 822)::(nat_lit 480,oF "_law_eithers" 60 p8 479)::(nat_lit 486,oC "_law_numbers_of" 825 294 1 481 (.ref 483) (.ref 484) 485 181 832)::(nat_lit 487,oF "_law_numbers_of" 61 p8 486)::(nat_lit 493,oC "_law_planned" 835 302 2 488 (.ref 490) (.ref 491) 492 181 843)::(nat_lit 494,oF "_law_planned" 62 p8 493)::(nat_lit 500,oC "_law_says" 846 307 4 495 (.ref 497) (.ref 498) 499 181 855)::(nat_lit 501,oF "_law_says" 63 p8 500)::(nat_lit 505,oC "_law_two_rowed" 858 313 3 502 .none .none 504 181 861)::(nat_lit 506,oF "_law_two_rowed" 64 p8 505)::(nat_lit 510,oC "law" 864 327 1 507 .none .none 509 181 867)::(nat_lit 511,oF "law" 65 p8 510)::[]
noncomputable def hk:Hook:=kHook K (2::3::36::94::95::99::100::104::105::111::112::116::117::123::124::128::129::135::136::181::182::193::194::238::239::252::253::259::260::266::267::269::270::287::288::294::295::301::302::304::305::315::321::322::328::329::331::332::340::341::347::348::352::353::366::367::373::374::380::381::387::388::394::395::401::402::408::409::411::412::422::423::429::430::436::437::443::444::448::449::453::454::458::459::465::466::472::473::479::480::486::487::493::494::500::501::505::506::510::511::[]) (λ_=>by kernel_rfl)
noncomputable def Q:Program:={ pg with main:={ pg.main with body:=[Lw.top 65] } }
noncomputable def ls:AK:=(["_wall","both_added","added","HANDS","beacons_with","DuskError","NoHands","Over","NoLight","BEACON_COUNT","either_holds","sum_holds","if_holds","rule_holds","broken_rules","holds","beacons_in","beacons_of","without","either_left","sum_left","if_left","rule_left","left_behind","first_ones","row_of","is_odd_count","plan_said","sums_said","rows_said","cross_said","late_said","odd_said","lone_said","said","Settler","Rowed","Papered","play_out","is_hand","check_hands","Watch","_law_cell","_law_mixed","_law_bits","_law_bool","_law_hands","_law_own","_law_plan","_law_comes"]++["_law_either","_law_eithers","_law_numbers_of","_law_planned","_law_says","_law_two_rowed"]).map Str.ofString
noncomputable abbrev Xt(s:Shared):Bool:=xlAt Q [] s&&recOk (RowW.records (OpenRow.toRowW PySem.Challenge.rw_duskbook_k41_settlers.row)) s
theorem y7n:∀w:World,(λos=>((staticsOk (importedModules pg.main.body) (boot_heap w.params) (h14 w.params)&&namesBound pg (h14 w.params)&&gensDone (s14 w os)&&laidKept (boot_heap w.params) (h14 w.params)),openSeen Q ls (importedModules pg.main.body) Xt true (s14 w os),Hook.obs hk (s14 w os)))=λ_=>(true,openGood Q ls,Hook.val hk w):=by
 rw[W.Fast.te5923862056798008813,W.Fast.te4187177175401517315];intro w;kernel_rfl
theorem left:LeftO pg Q ls Xt (Hook.obs hk) (Hook.val hk) 7338:=LeftO.of_pieces (H₁:=h14) (M:=12+(1+m2)) op size run (by decide) y7n
end Op
open PySem PySem.W PyProof.Rows
set_option maxRecDepth 100000 in
theorem PySem.Challenge.cw_duskbook_k41_settlers_holds : PySem.Challenge.rw_duskbook_k41_settlers.Holds := by
 w_on;o_law
 refine holds_open (q:=Op.Q) (loose:=Op.ls) (Xt:=Op.Xt) (XP:=XL Op.Q []) (Yf:=Hook.obs Op.hk) (Ya:=Hook.val Op.hk) (YP:=InK Op.K) (N:=7338) Op.left (Hook.of Op.hk) (Hook.keeps Op.hk) (λs e=>xl_of s (Bool.and_eq_true_iff.mp e).1) XL.keeps (by rfl) (by rfl) (by rfl) (λs e=>recFacts_of (Bool.and_eq_true_iff.mp e).2) (by rfl) (by assumption) (by decide +kernel) ⟨rfl,rfl,rfl,rfl,rfl,by decide +kernel⟩ ?hw ?hc
 (case hw=>w_witness2)
 k_fill
 refine Lw.walk Lw.law_true (l:=PySem.Challenge.rw_duskbook_k41_settlers) rfl rfl (K:=Op.K) (λw h Y=>Y) ?F
 case F=>
  intro w mg fa h KX G hmg;refine' Lw.all_mk KX G hmg ?_ ?_ ?_ ?_ ?_ ?_ ?_ ?_ ?_ ?_ ?_ ?_ ?_ ?_ ?_ ?_ ?_ ?_ ?_ ?_ ?_ ?_ ?_ ?_ ?_ ?_ ?_ ?_ ?_ ?_ ?_ ?_ ?_ ?_ ?_ ?_ ?_ ?_ ?_ ?_ ?_ ?_ ?_ ?_ ?_ ?_ ?_ ?_ ?_ ?_ ?_ ?_ ?_ ?_ ?_ ?_ ?_ ?_ ?_ ?_ ?_ ?_ ?_ ?_ ?_ ?_ ?_ ?_ ?_ ?_ ?_ ?_ ?_ ?_ ?_ ?_ ?_ ?_
  all_goals (try (first|(refine' M.mq_mk ?a ?pg ?hd ?po ?sa ?i ?n ?l ?cd ?k;(case a=>first|k_is|kernel_rfl);(case pg=>first|k_is|kernel_rfl);(case hd=>first|k_is|kernel_rfl);(case po=>first|k_is|kernel_rfl);(case sa=>first|k_is|kernel_rfl);(case i=>first|k_is|kernel_rfl);(case n=>first|k_is|kernel_rfl);(case l=>first|k_is|kernel_rfl);(case cd=>first|k_is|kernel_rfl);(case k=>first|k_is|kernel_rfl))|(refine' M.nq_mk ?a ?pg ?hd ?po ?sa ?n;(case a=>first|k_is|kernel_rfl);(case pg=>first|k_is|kernel_rfl);(case hd=>first|k_is|kernel_rfl);(case po=>first|k_is|kernel_rfl);(case sa=>first|k_is|kernel_rfl);(case n=>first|k_is|kernel_rfl))|(refine' M.iqc_mk ?a ?mk ?kc ?i ?n ?l ?cd ?k;(case a=>first|k_is|kernel_rfl);(case mk=>first|k_is|kernel_rfl);(case kc=>first|k_is|kernel_rfl);(case i=>first|k_is|kernel_rfl);(case n=>first|k_is|kernel_rfl);(case l=>first|k_is|kernel_rfl);(case cd=>first|k_is|kernel_rfl);(case k=>first|k_is|kernel_rfl))|(refine' M.iqz_mk ?a ?mk ?kc ?i ?n ?l ?cd ?d;(case a=>first|k_is|kernel_rfl);(case mk=>first|k_is|kernel_rfl);(case kc=>first|k_is|kernel_rfl);(case i=>first|k_is|kernel_rfl);(case n=>first|k_is|kernel_rfl);(case l=>first|k_is|kernel_rfl);(case cd=>first|k_is|kernel_rfl);(case d=>first|k_is|kernel_rfl))|(refine' M.kq_mk (mc:=.type "type") ?e ?i ?l ?cd ?k ?s ?r ?g ?h;(case e=>first|k_is|kernel_rfl);(case i=>first|k_is|kernel_rfl);(case l=>first|k_is|kernel_rfl);(case cd=>first|k_is|kernel_rfl);(case k=>first|k_is|kernel_rfl);(case s=>first|k_is|kernel_rfl);(case r=>first|k_is|kernel_rfl);(case g=>first|k_is|kernel_rfl);(case h=>first|k_is|kernel_rfl))|(refine' M.isk_mk ?a ?a0 ?pg ?hd ?po ?sa ?e ?f ?g ?m ?k;(case a=>first|k_is|kernel_rfl);(case a0=>first|k_is|kernel_rfl);(case pg=>first|k_is|kernel_rfl);(case hd=>first|k_is|kernel_rfl);(case po=>first|k_is|kernel_rfl);(case sa=>first|k_is|kernel_rfl);(case e=>first|k_is|kernel_rfl);(case f=>first|k_is|kernel_rfl);(case g=>first|k_is|kernel_rfl);(case m=>first|k_is|kernel_rfl);(case k=>first|k_is|kernel_rfl))|(refine' Lw.fk_mk ?a ?l ?c ?k;(case a=>k_is);(case l=>k_is);(case c=>k_is);(case k=>k_is))|k_is))
