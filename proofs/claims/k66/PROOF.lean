import PyProof.Rows.All
import Wide.All
import OpenK.AllK
import Wide.FinOn
import Lean
import PyProof.EqAt
import PyProof.EqKinds
import PyProof.TupleCall
import PySem.Challenge.RW_duskbook_k66_whole_places_changed
set_option Elab.async false
set_option linter.all false
set_option compiler.extract_closed false
set_option maxRecDepth 100000
abbrev fsc(l:List (PySem.Str×PySem.NameKind)):PySem.Scope:={ kind:=.function,names:=l,isGenerator:=false,isCoroutine:=false,more:=[] }
def qa{α β:Type _}{o:Option α}{f:α->Option β}{b:β}(h:o.bind f=some b):∃a,o=some a/\f a=some b:=Option.bind_eq_some_iff.mp h
def qc{α β:Type _}{o:Option α}{f:α->β}{b:β}(h:o.map f=some b):∃a,o=some a/\f a=b:=Option.map_eq_some_iff.mp h
def qd:=@Option.bind_some
def qe:=@PySem.Heap.get?_push_of_some
def qf:=@List.length_map
def qg:=@List.mem_cons_of_mem
def qh:=@List.mem_cons_self
def qi:=@Bool.false_ne_true
def qj:=@Array.length_toList
def qk:=@List.size_toArray
def ql:=@PySem.Heap.lt_size
def qm:=@Nat.ne_of_lt
def qo{α:Type _}{l:List α}{i:Nat}{a:α}(h:l[i]?=some a):∃h:i<l.length,l[i]=a:=List.getElem?_eq_some_iff.mp h
def qp:=@PySem.Heap.get?_push_size
def qq:=@List.getElem?_eq_getElem
def qr:=@List.length_cons
def qt{α:Type _}{a b:α}{l:List α}(h:a∈b::l):a=b\/a∈l:=List.mem_cons.mp h
def qu:=@Nat.le_refl
def qv{α:Type _}{a:α}{s t:List α}(h:a∈s++t):a∈s\/a∈t:=List.mem_append.mp h
def qw{α β:Type _}{b:β}{f:α->β}{l:List α}(h:b∈l.map f):∃a,a∈l/\f a=b:=List.mem_map.mp h
def qx:=@List.length_append
def qy(h:m∈List.range n):m<n:=List.mem_range.mp h
def qz{α:Type _}{p:α->Bool}{l:List α}{a:α}(h:a∈l.filter p):a∈l/\p a=true:=List.mem_filter.mp h
def Qa:=@List.map_cons
def Qb:=@Bool.and_eq_true
def Qc:=@Nat.lt_of_lt_of_le
def Qd:=@List.map_map
def Qe:=@List.nil_append
def Qf:=@Nat.zero_le
def Qg:=@List.getElem?_set_ne
def Qh:=@Nat.le_trans
def Qi:=@List.getElem?_map
def Qj:=@List.map_congr_left
def Qk:=@List.mem_append_right
set_option maxHeartbeats 4000000
local macro_rules|`(tactic|trivial)=>`(tactic|first|exact .inl rfl|exact .inr rfl|exact .inr (.inl rfl)|exact .inr (.inr rfl)|assumption)
local macro_rules|`(~~~$x)=>`(($x).heap.objs.size)|`(↑$x)=>`(some (.sh $x))
abbrev AB:=PySem.Value->PySem.Shared->Prop
abbrev AC:=List (PySem.Addr×PySem.Obj)
abbrev AD:=List PySem.Value
abbrev AE:=PySem.Str->Option PySem.Value
abbrev AG:=List Nat
abbrev AH:=List Int
abbrev AJ:=List Bool
abbrev AK:=Nat->Bool
abbrev AL:=List PySem.Str
abbrev AM:=List PySem.Expr
abbrev AN:=Option Nat
def wa:=@PySem.wpAny_bind
def wb:=@PySem.wpAny_pure
def wc:=@PySem.wpAny_holding
def we:=@PySem.wpAny_call_entry
def wg:=@PySem.wpAny_newObj_type
def wj:=@PySem.wpAny_setState_of
def wm:=@decide_eq_true_eq
def wn:=@decide_eq_true
def wo:=@decide_eq_false
def wq:=@of_decide_eq_true
def wt:=@List.map_append
def wu:=@Function.comp_def
def wv:=@PySem.Heap.SameBut.update
def ww:=@PySem.Heap.size_push
def wy:=@PySem.Heap.get?_update_self
def wz:=@PySem.codeAny_builtin
def w5:=@PySem.wpAny_mono
def w6:=@Option.some.inj
def w9:=@Int.toNat_natCast
def ja:=@List.append_nil
def jb:=@List.append_assoc
def jc:=@List.length_singleton
def jd:=@PySem.plainId_quiet
def je:=@PySem.Around.under_plainId
def jf:=@PySem.PassesOwn.never
def jg:=@PySem.Obj.data_mapFields
def jh:=@PySem.wpAny_attempt
def ji:=@PySem.sizeLine_eq
abbrev mZ:=@PySem.model
abbrev W7:=PySem.W.Frag
abbrev P7:=PySem.Program
noncomputable section
namespace L2
open PySem PySem.Spec PyProof.Rows
abbrev Key:=Sum Int Str
def Yt4:Key->Value->Bool
 | .inl k,v=>Value.isInt k v
 | .inr x,v=>Value.isStrOf x v
def keyH(w:World):Key->Int
 | .inl k=>hashInt k
 | .inr x=>hashStr w x
theorem Ya7:∀{k:Key}{v:Value},Yt4 k v=true->(∃i t,k=Sum.inl i/\v=Value.int i t)\/(∃x t,k=Sum.inr x/\v=Value.str x t)
 | .inl i,v,h=>by
   obtain⟨t,e⟩:=Value.isInt_shape (k:=i) (v:=v) h;grind
 | .inr x,v,h=>by
   obtain⟨t,e⟩:=Value.isStrOf_shape (x:=x) (v:=v) h;grind
def Yzp(i:Int)(t:Tok):Yt4 (.inl i) (.int i t)=true:=by simp[Yt4,Value.isInt]
def Yzq(x:Str)(t:Tok):Yt4 (.inr x) (.str x t)=true:=by simp[Yt4,Value.isStrOf]
theorem Yabi(a b:Int):decide ((Sum.inl a:Key)=Sum.inl b)=(a==b):=by grind
theorem Yabj(a b:Str):decide ((Sum.inr a:Key)=Sum.inr b)=decide (a=b):=by grind
theorem Yabk(a:Int)(b:Str):decide ((Sum.inl a:Key)=Sum.inr b)=false:=by grind
theorem Yabl(a:Str)(b:Int):decide ((Sum.inr a:Key)=Sum.inl b)=false:=by grind
def Yaj(prog:P7)(w:World):KeyKind prog w Key where
 is:=Yt4
 hash:=keyH w
 inj:=λv a b ha hb=>by
  rcases Ya7 ha with⟨i,t,rfl,rfl⟩|⟨x,t,rfl,rfl⟩
  ·rcases Ya7 hb with⟨j,u,rfl,e⟩|⟨y,u,rfl,e⟩
   ·grind
   grind
  ·rcases Ya7 hb with⟨j,u,rfl,e⟩|⟨y,u,rfl,e⟩
   ·grind
   grind
 byValue:=λk v h=>by
  rcases Ya7 h with⟨i,t,rfl,rfl⟩|⟨x,t,rfl,rfl⟩<;>rfl
 pyHash:=λhv h=>by
  rcases Ya7 hv with⟨i,t,rfl,rfl⟩|⟨x,t,rfl,rfl⟩
  ·exact wpAny_pyHash_int h
  ·exact wpAny_pyHash_str h
 eqBool:=λhu hv h=>by
  rcases Ya7 hu with⟨i,t,rfl,rfl⟩|⟨x,t,rfl,rfl⟩
  ·rcases Ya7 hv with⟨j,u,rfl,rfl⟩|⟨y,u,rfl,rfl⟩
   ·rw[Yabi]at h;exact wpAny_eqBool_int h
   ·rw[Yabk]at h;exact SeqAt.EqAt.int_str i t y u _ _ _ _ h
  ·rcases Ya7 hv with⟨j,u,rfl,rfl⟩|⟨y,u,rfl,rfl⟩
   ·rw[Yabl]at h;exact SeqAt.EqAt.str_int x t j u _ _ _ _ h
   ·rw[Yabj]at h;exact wpAny_eqBool_str h
 «strs»:=λk x t v h=>by
  rcases Ya7 h with⟨i,u,rfl,e⟩|⟨y,u,rfl,e⟩
  ·grind
  ·injection e with e1 _
   subst e1;cases v<;>rfl
def Yt5(prog:P7)(w:World)(i:Int)(t:Tok):(Yaj prog w).is (.inl i) (.int i t)=true:=Yzp i t
def Yt6(prog:P7)(w:World)(x:Str)(t:Tok):(Yaj prog w).is (.inr x) (.str x t)=true:=Yzq x t
inductive V where
 | non|bl (b:Bool)|int (i:Int)|str (x:Str)|byt (b:Array UInt8)|flt (b:UInt64)|ref (a:Addr)|ty (n:String)
 deriving DecidableEq
abbrev AQ:=List V
def RelV:V->Value->Prop
 | .non,u=>u=Value.none
 | .bl b,u=>u=Value.bool b
 | .int i,u=>∃t,u=Value.int i t
 | .str x,u=>∃t,u=Value.str x t
 | .byt b,u=>∃t,u=Value.bytes b t
 | .flt b,u=>∃t,u=Value.float b t
 | .ref a,u=>u=Value.ref a
 | .ty n,u=>u=Value.type n
abbrev Vals:AQ->AD->Prop:=Paired RelV
def Vals.length(r:Vals xs us):xs.length=us.length:=Paired.length r
theorem Vals.get:∀{xs:AQ}{us:AD}{i:Nat}{x:V},Vals xs us->xs[i]?=some x->∃u,us[i]?=some u/\RelV x u
 | _,_,_,_,.nil,e=>by simp at e
 | _,_,0,_,.cons r _,e=>by simp at e;subst e;exact⟨_,rfl,r⟩
 | _,_,i+1,x,.cons _ t,e=>by
   obtain⟨u,h1,h2⟩:=Vals.get (i:=i) (x:=x) t (by simpa using e);exact⟨u,by simpa using h1,h2⟩
theorem Vals.append:∀{xs ys:AQ}{us ws:AD},Vals xs us->Vals ys ws->Vals (xs++ys) (us++ws)
 | _,_,_,_,.nil,s=>s
 | _,_,_,_,.cons r t,s=>.cons r (Vals.append t s)
theorem Vals.take:∀{xs:AQ}{us:AD} (n:Nat),Vals xs us->Vals (xs.take n) (us.take n)
 | _,_,0,_=>.nil
 | _,_,_+1,.nil=>.nil
 | _,_,n+1,.cons r t=>.cons r (Vals.take n t)
theorem Vals.drop:∀{xs:AQ}{us:AD} (n:Nat),Vals xs us->Vals (xs.drop n) (us.drop n)
 | _,_,0,r=>r
 | _,_,_+1,.nil=>.nil
 | _,_,n+1,.cons _ t=>Vals.drop n t
def RelO:Option V->Option Value->Prop
 | some v,some u=>RelV v u
 | none,none=>True
 | _,_=>False
def KV{κ:Type}:List (κ×V)->List (κ×Value)->Prop:=Paired fun(p:κ×V) (q:κ×Value)=>p.1=q.1/\RelV p.2 q.2
def kV:Key->V
 | .inl i=>.int i
 | .inr x=>.str x
inductive HO where
 | lst (xs:AQ)
 | tup (xs:AQ)
 | dK (kvs:List (Key×V))|dT (kvs:List (List Key×V))
 | set (S:Int->Bool) (n:Nat)
 | ins (C dx:Addr) (fs:List (Str×V))
 | own (x:Addr)
 | xd (fs:List (Str×V))
 | met (f x:Addr)
 | rng (lo hi:Int)
 | frz (o:Obj) (u:HO)
 | tbl (ps:Array Value)
 | ext (φ:Heap->Prop)
abbrev Hp:=Addr->Option HO
def upd(H:Hp)(a:Addr)(o:HO):Hp:=λb=>if b=a then some o else H b
theorem Yu:upd H a o a=some o:=by unfold upd;grind
def Yaa(h:b≠a):upd H a o b=H b:=by unfold upd;rw[if_neg h]
theorem Yafo{H:Hp}(h:H a=some o)(h':H b=some u)(d:o≠u):a≠b:=by grind
theorem Yz{H:Hp}(h:H a=some o)(h':H b=none):a≠b:=by grind
section
variable (P:P7) (w:World)
def ObjOk(H:Hp)(h:Heap)(a:Addr):HO->Prop
 | .lst xs=>xs.length<=sizeLine/\∃(its:AD) (n:Nat),Vals xs its/\h.get? a=some { cls:=.type "list",data:=.seq its.toArray n }
 | .tup xs=>xs.length<=sizeLine/\∃its:AD,Vals xs its/\IsTup h a its.toArray
 | .dK kvs=>kvs.length<=sizeLine/\(a==sysModules)=false/\∃vs,KV kvs vs/\h.DictOf (Yaj P w) a vs
 | .dT kvs=>kvs.length<=sizeLine/\(a==sysModules)=false/\∃xs:List (List Key×Addr×Value),
  Paired (fun(p:List Key×V) (q:List Key×Addr×Value)=>p.1=q.1/\H q.2.1=some (.tup (p.1.map kV))/\RelV p.2 q.2.2) kvs xs/\
  ∃o es ep,h.get? a=some o/\o.ExactDict/\o.data=.dict es ep/\es.toList=xs.map (entryOfKey (tupleKind (Yaj P w)))/\(xs.map (·.1)).Nodup
 | .set S n=>h.SetOf (intKind P w) a S n
 | .ins C dx fs=>H dx=some (.own a)/\fs.length<=1000/\dx≠a/\h.get? a=some (W.instObj C dx)/\
  ∃mA,h.Ns1 dx mA/\(∀f,RelO (fs.lookup f) (mA f))/\PySem.Within mA (fs.map (·.1))
 | .own _=>∃o,h.get? a=some o
 | .xd fs=>∃mA,h.Ns1 a mA/\∀f,RelO (fs.lookup f) (mA f)
 | .rng lo hi=>∃t u v,h.get? a=some { cls:=.type "range",data:=.fields #[.int lo t,.int hi u,.int 1 v] }
 | .frz o u=>h.get? a=some o/\ObjOk H h a u
 | .tbl ps=>h.get? a=some { cls:=.none,data:=.fields ps }
 | .met f x=>h.get? a=some (W.methodObj (.ref f) (.ref x))
 | .ext φ=>φ h/\(∃o,h.get? a=some o)/\∀h1 h2:Heap,φ h1->(∀o,h1.get? a=some o->h2.get? a=some o)->φ h2
def HOk(H:Hp)(h:Heap):Prop:=∀a o,H a=some o->ObjOk P w H h a o
end
section
variable {P:P7}{w:World}{H H':Hp}{h h':Heap}{a:Addr}{o:HO}
def ObjOk.lt(x:ObjOk P w H h a o):a<h.objs.size:=by
 cases o with
 | lst xs=>obtain⟨_,_,_,_,e⟩:=x;exact ql e
 | tup xs=>obtain⟨_,_,_,p⟩:=x;exact p.lt
 | dK kvs=>obtain⟨_,_,_,_,o,_,_,e,_⟩:=x;exact ql e
 | dT kvs=>obtain⟨_,_,_,_,o,_,_,e,_⟩:=x;exact ql e
 | set S n=>obtain⟨o,_,_,_,e,_⟩:=x;exact ql e
 | ins C dx fs=>obtain⟨_,_,_,e,_⟩:=x;exact ql e
 | own y=>obtain⟨_,e⟩:=x;exact ql e
 | xd fs=>obtain⟨_,⟨_,_,_,e,_⟩,_⟩:=x;exact ql e
 | rng lo hi=>obtain⟨_,_,_,e⟩:=x;exact ql e
 | frz ob u=>obtain⟨e,_⟩:=x;exact ql e
 | tbl ps=>exact ql (show h.get? a=some _ from x)
 | met f y=>exact ql (show h.get? a=some _ from x)
 | ext φ=>obtain⟨_,⟨_,e⟩,_⟩:=x;exact ql e
theorem Paired.mapP:∀{l₁:List α}{l₂:List β},Paired F l₁ l₂->(∀a b,F a b->G a b)->Paired G l₁ l₂
 | _,_,.nil,_=>.nil
 | _,_,.cons r t,f=>.cons (f _ _ r) (Paired.mapP t f)
theorem ObjOk.stay(x:ObjOk P w H h a o)(k:∀b u,(b=a\/H b=some (.own a))->h.get? b=some u->h'.get? b=some u)(ho:∀b,H b=some (.own a)->H' b=some (.own a))(ht:∀b xs,H b=some (.tup xs)->H' b=some (.tup xs)):ObjOk P w H' h' a o:=by
 induction o with
 | lst xs=>obtain⟨z,its,n,r,e⟩:=x;exact⟨z,its,n,r,k _ _ (.inl rfl) e⟩
 | tup xs=>obtain⟨z,its,r,ob,e,c⟩:=x;exact⟨z,its,r,ob,k _ _ (.inl rfl) e,c⟩
 | dK kvs=>obtain⟨z,y,vs,r,ob,es,ep,e,c⟩:=x;exact⟨z,y,vs,r,ob,es,ep,k _ _ (.inl rfl) e,c⟩
 | dT kvs=>
   obtain⟨z,y,xs,r,ob,es,ep,e,c⟩:=x;exact⟨z,y,xs,Paired.mapP r λp q z=>⟨z.1,ht _ _ z.2.1,z.2.2⟩,ob,es,ep,k _ _ (.inl rfl) e,c⟩
 | set S n=>obtain⟨ob,es,ep,t,e,c⟩:=x;exact⟨ob,es,ep,t,k _ _ (.inl rfl) e,c⟩
 | ins C dx fs=>
   obtain⟨d,z,ne,e,mA,⟨od,es,ep,e2,c⟩,r⟩:=x;exact⟨ho _ d,z,ne,k _ _ (.inl rfl) e,mA,⟨od,es,ep,k _ _ (.inr d) e2,c⟩,r⟩
 | own y=>obtain⟨ob,e⟩:=x;exact⟨ob,k _ _ (.inl rfl) e⟩
 | xd fs=>obtain⟨mA,⟨od,es,ep,e,c⟩,r⟩:=x;exact⟨mA,⟨od,es,ep,k _ _ (.inl rfl) e,c⟩,r⟩
 | rng lo hi=>obtain⟨t,u,v,e⟩:=x;exact⟨t,u,v,k _ _ (.inl rfl) e⟩
 | frz ob u ih=>obtain⟨e,q⟩:=x;exact⟨k _ _ (.inl rfl) e,ih q⟩
 | tbl ps=>
   have e:h.get? a=some { cls:=.none,data:=.fields ps }:=x;show h'.get? a=some { cls:=.none,data:=.fields ps };grind
 | met f y=>
   have e:h.get? a=some (W.methodObj (.ref f) (.ref y)):=x;show h'.get? a=some (W.methodObj (.ref f) (.ref y));grind
 | ext φ=>obtain⟨p,⟨o,e⟩,st⟩:=x;exact⟨st _ _ p λo q=>k _ _ (.inl rfl) q,⟨o,k _ _ (.inl rfl) e⟩,st⟩
def HOk.lt(x:HOk P w H h)(e:H a=some o):a<h.objs.size:=(x a o e).lt
def HOk.fresh(x:HOk P w H h)(e:h.objs.size<=a):H a=none:=by
 cases q:H a with
 | none=>rfl
 | some u=>exact absurd (Qc (x.lt q) e) (Nat.lt_irrefl _)
def HOk.kept(x:HOk P w H h)(k:∀b u,h.get? b=some u->h'.get? b=some u):HOk P w H h':=λa o e=>
 (x a o e).stay (λb u _ q=>k b u q) (λ_ q=>q) λ_ _ q=>q
theorem HOk.laid(x:HOk P w H h)(k:∀b u,h.get? b=some u->h'.get? b=some u)(hp:h.objs.size<=a)(new:ObjOk P w (upd H a o) h' a o):HOk P w (upd H a o) h':=λb u e=>by
 have hn:=x.fresh hp;by_cases hb:b=a
 ·subst hb;rw[Yu]at e;grind
 ·rw[Yaa hb]at e
  exact(x b u e).stay (λc v _ q=>k c v q) (λc q=>by rw[Yaa (Yz q hn)];exact q) λc xs q=>by rw[Yaa (Yz q hn)];exact q
end
def Rd(H:Hp)(a:Addr)(u:HO):Prop:=H a=some u\/∃o,H a=some (.frz o u)
def Rd.ok(r:Rd H a u)(x:HOk P w H h):ObjOk P w H h a u:=by
 rcases r with r|⟨o,r⟩
 ·exact x a u r
 ·obtain⟨_,q⟩:=x a _ r
  exact q
def Mut:Option HO->Prop
 | some (.lst _)=>True
 | some (.dK _)=>True
 | some (.dT _)=>True
 | some (.set _ _)=>True
 | some (.ins _ _ _)=>True
 | some (.ext _)=>True
 | _=>False
section
variable {P:P7}{w:World}{H:Hp}{h h':Heap}{x e:Addr}{o':HO}
theorem HOk.write(ok:HOk P w H h)(mu:Mut (H x))(he:e=x\/H e=some (.own x))(k:∀b u,b≠e->h.get? b=some u->h'.get? b=some u)(heo:∃u,h'.get? e=some u)(new:ObjOk P w (upd H x o') h' x o'):HOk P w (upd H x o') h':=λb u q=>by
 have nown:∀c y,H c=some (.own y)->c≠x:=λc y r z=>by subst z;rw[r]at mu;exact mu
 have ntup:∀c xs,H c=some (.tup xs)->c≠x:=λc xs r z=>by subst z;rw[r]at mu;exact mu
 by_cases hb:b=x
 ·subst hb;rw[Yu]at q;grind
 ·rw[Yaa hb]at q
  by_cases hbe:b=e
  ·have q':H b=some (.own x):=by
    grind
   rw[q]at q';cases q';obtain⟨v,hv⟩:=heo;exact⟨v,by grind⟩
  ·refine(ok b u q).stay (λc v hc r=>k c v ?_ r) (λc r=>by rw[Yaa (nown c b r)];exact r) λc xs r=>by rw[Yaa (ntup c xs r)];exact r
   grind
end
structure Un(fs ex:List Addr)(H H':Hp)(h h':Heap):Prop where
 keep:∀b o,h.get? b=some o->H b=none->b∉fs->b∉ex->h'.get? b=some o
 slot:∀b o,h.get? b=some o->H b=none->b∈fs->b∉ex->∃sl,h'.get? b=some { o with slots:=sl }
 free:∀b o,h.get? b=some o->H b=none->b∉ex->H' b=none
 there:∀b o,h.get? b=some o->b∉ex->∃o',h'.get? b=some o'
 tups:∀b xs,H b=some (.tup xs)->H' b=some (.tup xs)
 frzs:∀b o u,H b=some (.frz o u)->H' b=some (.frz o u)
 tbls:∀b ps,H b=some (.tbl ps)->∃more,H' b=some (.tbl (ps++more))
section
variable {fs fs' ex ex':List Addr}{H H1 H2:Hp}{h h1 h2 h':Heap}{a x e:Addr}{o:HO}
def Un.any(u:Un fs ex H H1 h h1)(q:h.get? b=some ob)(n:H b=none)(hx:b∉ex):∃sl,h1.get? b=some { ob with slots:=sl }:=by
 by_cases hb:b∈fs
 ·exact u.slot b ob q n hb hx
 ·exact⟨ob.slots,u.keep b ob q n hb hx⟩
def Un.kept(k:∀b u,h.get? b=some u->h'.get? b=some u):Un fs ex H H h h':=
 ⟨λb ob q _ _ _=>k b ob q,λb ob q _ _ _=>⟨ob.slots,k b ob q⟩,λ_ _ _ n _=>n,λb ob q _=>⟨ob,k b ob q⟩,λ_ _ q=>q,λ_ _ _ q=>q,λ_ ps q=>⟨#[],by rw[q];simp⟩⟩
def Un.refl:Un fs ex H H h h:=Un.kept λ_ _ q=>q
def Un.laid(k:∀b u,h.get? b=some u->h'.get? b=some u)(hp:h.objs.size<=a)(hn:H a=none):Un fs ex H (upd H a o) h h' where
 keep:=λb u q _ _ _=>k b u q
 slot:=λb u q _ _ _=>⟨u.slots,k b u q⟩
 free:=λb u q n _=>by rw[Yaa (qm (Qc (ql q) hp))];exact n
 there:=λb u q _=>⟨u,k b u q⟩
 tups:=λb xs q=>by rw[Yaa (Yz q hn)];exact q
 frzs:=λb u xs q=>by rw[Yaa (Yz q hn)];exact q
 tbls:=λb ps q=>⟨#[],by rw[Yaa (Yz q hn),q];simp⟩
theorem Un.write(mu:Mut (H x))(he:e=x\/H e=some (.own x))(k:∀b u,b≠e->h.get? b=some u->h'.get? b=some u)(heo:∃u,h'.get? e=some u):Un fs ex H (upd H x o) h h':=by
 have hx:∀b,H b=none->b≠x:=λb n z=>by subst z;rw[n]at mu;exact mu
 have hb:∀b,H b=none->b≠e:=λb n z=>by
  grind
 have hm:∀b u,H b=some u->¬Mut (some u)->b≠x:=λb u q nm z=>by grind
 refine⟨λb u q n _ _=>k b u (hb b n) q,λb u q n _ _=>⟨u.slots,k b u (hb b n) q⟩,λb u q n _=>by rw[Yaa (hx b n)];exact n,λb u q _=>?_,
  λb xs q=>by rw[Yaa (hm b _ q λz=>z)];exact q,λb u xs q=>by rw[Yaa (hm b _ q λz=>z)];exact q,λb ps q=>⟨#[],by rw[Yaa (hm b _ q λz=>z),q];simp⟩⟩
 grind
end
def trk(h:Heap)(H:Hp):List Addr:=(List.range h.objs.size).filter λa=>(H a).isSome
def hidT(h:Heap)(H:Hp):Heap:=W.hideAll h (trk h H)
def Yzr(h:Heap)(H:Hp):(hidT h H).objs.size=h.objs.size:=W.hideAll_size _ _
theorem y4l(e:h.get? b=some o)(n:H b=none):(hidT h H).get? b=some o:=
 W.hideAll_get _ e λhm=>by
  have q:(H b).isSome=true:=(qz hm).2;grind
theorem y8i(e:(hidT h H).get? b=some o):h.get? b=some o/\H b=none:=by
 have e':h.get? b=some o:=W.of_hideAll (trk h H) e;refine⟨e',?_⟩
 cases q:H b with
 | none=>rfl
 | some x=>
   have hm:b∈trk h H:=List.mem_filter.mpr ⟨List.mem_range.mpr (ql e'),by simp[q]⟩;have z:(hidT h H).get? b=none:=W.hideAll_none (trk h H) hm;grind
structure Mod(K:W7)(mg:AE)(base:Heap):Prop where
 kin:K.In base
 glob:base.Ns mainGlobals mg
 blt:∃mb,base.Ns builtinsNs mb/\∀x:Str,x≠"__name__"->mb x=bootBuiltins x
 nolimit:base.NoLimit
structure Cx where
 prog:P7
 w:World
 K:W7
 mg:AE
 base:Heap
 A:Around
 N:AL
 s₀:Shared
 H₀:Hp
 env:Env
 outer:List Env
 stack:List Env
 ex:List Addr
 fn:Str->Bool
 calm:Bool
 pn:AC
 xe:AB
def frs(l:List Env):List Addr:=l.filterMap (·.frame)
abbrev Cx.fs(X:Cx):List Addr:=frs X.outer
def Vis(sc:Scope)(x:Str):Prop:=sc.names.lookup x=some .local\/sc.names.lookup x=some .cell\/sc.names.lookup x=some .free
def Loc(sc:Scope)(x:Str):Prop:=sc.names.lookup x=some .local\/sc.names.lookup x=some .cell
def Look(env:Env)(h:Heap)(m:AE)(x:Str)(u:Value):Prop:=
 (env.kindOf x=some .local/\m x=some u)\/((env.kindOf x=some .cell\/env.kindOf x=some .free)/\∃c,env.cells.lookup x=some c/\h.IsCell c (some u))
structure Cx.Ok(X:Cx):Prop where
 mod:Mod X.K X.mg X.base
 kind:X.env.scope.kind=.function
 glob:X.env.globals=mainGlobals
 blt:X.env.builtins=builtinsNs
 above:X.s₀.heap.objs.size<=X.env.locals
 inj:∀x y c,X.env.cells.lookup x=some c->X.env.cells.lookup y=some c->x=y
 has:∀x,(X.env.kindOf x=some .cell\/X.env.kindOf x=some .free)->∃c,X.env.cells.lookup x=some c
 cab:∀x c,X.fn x=true->X.env.cells.lookup x=some c->X.s₀.heap.objs.size<=c
 hd:X.calm=true->X.A.handled=none
 frames:X.A.frames=some X.stack
 stk:X.stack=X.outer\/(X.stack=X.env::X.outer/\X.env.frame=some X.env.locals)
 exf:∀b∈X.ex,b≠X.env.locals/\∀x c,X.env.cells.lookup x=some c->c≠b
 bs:∀b o,X.base.get? b=some o->X.s₀.heap.get? b=some o/\X.H₀ b=none
 bsz:X.base.objs.size<=X.s₀.heap.objs.size
 noex:∀b o,X.base.get? b=some o->b∉X.ex
 exfs:∀b∈X.ex,b∉X.fs
 funs:X.s₀.heap.FunFrames X.base X.outer
 frf:∀b∈X.fs,X.H₀ b=none
structure Inv(X:Cx)(pins:AC)(σ:List (Option V))(H:Hp)(s:Shared):Prop where
 ok:X.Ok
 os:s.os=X.s₀.os
 bare:AllBare s.gens
 base:Un X.fs X.ex X.H₀ H X.s₀.heap s.heap
 loc:∃m,s.heap.Ns X.env.locals m/\∀(i:Nat) (x:Str) (v:V),X.N[i]?=some x->σ[i]?=some (some v)->Vis X.env.scope x->∃u,RelV v u/\Look X.env s.heap m x u
 cell:∀x c,X.env.cells.lookup x=some c->∃v,s.heap.IsCell c v
 free:H X.env.locals=none
 freeC:∀x c,X.env.cells.lookup x=some c->H c=none
 pin:∀p∈X.pn++pins,s.heap.get? p.1=some p.2/\H p.1=none/\p.1≠X.env.locals/\p.1∉X.fs/\∀v,p.2.data≠.cell v
 hok:HOk X.prog X.w H s.heap
 len:σ.length=X.N.length
section
variable {X:Cx}{pins:AC}{σ:List (Option V)}{H H':Hp}{s:Shared}{h':Heap}
theorem Cx.Ok.nofr(ok:X.Ok)(e:X.base.get? b=some o):b∉X.fs:=λhb=>by
 have:=(ok.funs.mem hb).1;grind
def Inv.bs(I:Inv X pins σ H s):∀b o,X.base.get? b=some o->s.heap.get? b=some o/\H b=none:=λb o e=>
 ⟨I.base.keep b o (I.ok.bs b o e).1 (I.ok.bs b o e).2 (I.ok.nofr e) (I.ok.noex b o e),I.base.free b o (I.ok.bs b o e).1 (I.ok.bs b o e).2 (I.ok.noex b o e)⟩
def Inv.bk(I:Inv X pins σ H s):∀b o,X.base.get? b=some o->s.heap.get? b=some o:=λb o e=>(I.bs b o e).1
def Inv.mod(I:Inv X pins σ H s):Mod X.K X.mg X.base:=I.ok.mod
def Inv.kIn(I:Inv X pins σ H s):X.K.In s.heap:=I.ok.mod.kin.keeps I.bk
def Inv.lt(I:Inv X pins σ H s):X.env.locals< ~~~s:=let ⟨_,hn,_⟩:=I.loc;hn.lt
def Inv.sz(I:Inv X pins σ H s):X.s₀.heap.objs.size<= ~~~s:=Qh I.ok.above (Nat.le_of_lt I.lt)
def Inv.nofs(I:Inv X pins σ H s){a:Addr}(h:(~~~s)<=a):a∉X.fs:=λhb=>by
 obtain⟨_,o,ho,_⟩:=I.ok.funs.mem hb;exact absurd (Qc (ql ho) (Qh I.sz h)) (Nat.lt_irrefl _)
theorem Inv.cne(I:Inv X pins σ H s):∀x c,X.env.cells.lookup x=some c->c≠X.env.locals:=λx c e z=>by
 obtain⟨v,o,ho,hd⟩:=I.cell x c e;obtain⟨m,⟨o',es,ep,ho',hd',_⟩,_⟩:=I.loc;grind
theorem Inv.funs(I:Inv X pins σ H s):s.heap.FunFrames X.base X.outer:=by
 have all:∀(l:List Env),(∀b∈frs l,b∈X.fs)->X.s₀.heap.FunFrames X.base l->s.heap.FunFrames X.base l:=by
  intro l
  induction l with
  | nil=>intro _ _;trivial
  | cons env r ih=>
    intro hs hl;obtain⟨hk,⟨L,o,hf,hn,ho,hd⟩,hr⟩:=hl;have hL:L∈X.fs:=hs L (by unfold frs;grind);obtain⟨sl,e⟩:=I.base.slot L o ho (I.ok.frf L hL) hL λz=>I.ok.exfs L z hL;exact⟨hk,⟨L,_,hf,hn,e,hd⟩,ih (λb hb=>hs b (by unfold frs;rw[List.filterMap_cons,hf];exact qg _ hb)) hr⟩
 exact all X.outer (λ_ hb=>hb) I.ok.funs
def Inv.stack(I:Inv X pins σ H s):s.heap.FunFrames X.base X.stack:=by
 rcases I.ok.stk with e|⟨e,hf⟩
 ·rw[e];exact I.funs
 ·rw[e]
  obtain⟨m,hn,_⟩:=I.loc;refine .cons (by rw[I.ok.kind];decide) hf hn ?_ I.funs;exact Heap.get?_none_of_le (Qh I.ok.bsz I.ok.above)
theorem Inv.stkSub(I:Inv X pins σ H s):∀b∈frs X.stack,b∈X.env.locals::X.fs:=λb hb=>by
 rcases I.ok.stk with e|⟨e,hf⟩
 ·grind
 ·rw[e]at hb
  unfold frs at hb;rw[List.filterMap_cons,hf]at hb;exact hb
def Inv.stkFree(I:Inv X pins σ H s):∀b∈frs X.stack,H b=none:=λb hb=>by
 rcases qt (I.stkSub b hb)with e|hb
 ·rw[e];exact I.free
 ·obtain⟨_,o,ho,_⟩:=I.ok.funs.mem hb
  exact I.base.free b o ho (I.ok.frf b hb) λz=>I.ok.exfs b z hb
theorem Inv.step{ch:List Addr}(I:Inv X pins σ H s)(hch:∀b∈ch,(b∈X.ex\/X.s₀.heap.objs.size<=b)/\b≠X.env.locals/\(∀x c,X.env.cells.lookup x=some c->c≠b)/\∀p∈X.pn++pins,p.1≠b)(keep:∀b o,b≠X.env.locals->b∉X.fs->b∉ch->s.heap.get? b=some o->H b=none->h'.get? b=some o)(slot:∀b o,b≠X.env.locals->b∈X.fs->b∉ch->s.heap.get? b=some o->H b=none->∃sl,h'.get? b=some { o with slots:=sl })(free:∀b o,b∉ch->s.heap.get? b=some o->H b=none->H' b=none)(there:∀b o,b∉ch->s.heap.get? b=some o->∃o',h'.get? b=some o')(tups:∀b xs,H b=some (.tup xs)->H' b=some (.tup xs))(frzs:∀b o u,H b=some (.frz o u)->H' b=some (.frz o u))(tbls:∀b ps,H b=some (.tbl ps)->∃more,H' b=some (.tbl (ps++more)))(ns:∀m,s.heap.Ns X.env.locals m->h'.Ns X.env.locals m)(hok:HOk X.prog X.w H' h')(hg:AllBare g'):
 Inv X pins σ H' { s with heap:=h',gens:=g',drawn:=d',toks:=t' }:=by
 have neL:∀b o,X.s₀.heap.get? b=some o->b≠X.env.locals:=λb o e=>qm (Qc (ql e) I.ok.above)
 have neC:∀b o,X.s₀.heap.get? b=some o->b∉X.ex->b∉ch:=λb o e hx hb=>by
  rcases(hch b hb).1 with z|z
  ·exact hx z
  ·exact absurd (Qc (ql e) z) (Nat.lt_irrefl _)
 have cellK:∀x c,X.env.cells.lookup x=some c->∀v,s.heap.IsCell c v->h'.IsCell c v:=λx c e v hx_=>by
  obtain⟨o,ho,hd⟩:=hx_;have nch:c∉ch:=λz=>(hch c z).2.2.1 x c e rfl;by_cases hc:c∈X.fs
  ·obtain⟨sl,q⟩:=slot c o (I.cne x c e) hc nch ho (I.freeC x c e)
   exact⟨_,q,hd⟩
  ·exact⟨o,keep c o (I.cne x c e) hc nch ho (I.freeC x c e),hd⟩
 refine⟨I.ok,I.os,hg,⟨λb o e n hb hx=>?_,λb o e n hb hx=>?_,λb o e n hx=>?_,λb o e hx=>?_,λb xs e=>tups b xs (I.base.tups b xs e),λb o xs e=>frzs b o xs (I.base.frzs b o xs e),λb ps e=>?_⟩,?_,λx c e=>?_,?_,λx c e=>?_,λp hp=>?_,hok,I.len⟩
 ·exact keep b o (neL b o e) hb (neC b o e hx) (I.base.keep b o e n hb hx) (I.base.free b o e n hx)
 ·obtain⟨sl,e1⟩:=I.base.slot b o e n hb hx
  obtain⟨sl',e2⟩:=slot b _ (neL b o e) hb (neC b o e hx) e1 (I.base.free b o e n hx);grind
 ·obtain⟨o',e1⟩:=I.base.there b o e hx
  exact free b o' (neC b o e hx) e1 (I.base.free b o e n hx)
 ·obtain⟨o',e1⟩:=I.base.there b o e hx
  grind
 ·obtain⟨m1,e1⟩:=I.base.tbls b ps e
  grind
 ·obtain⟨m,hn,hl⟩:=I.loc
  refine⟨m,ns m hn,λi x v e1 e2 e3=>?_⟩;obtain⟨u,r,l⟩:=hl i x v e1 e2 e3;refine⟨u,r,?_⟩;rcases l with l|⟨k,c,e,z⟩
  ·exact .inl l
  ·exact .inr ⟨k,c,e,cellK x c e _ z⟩
 ·obtain⟨v,z⟩:=I.cell x c e
  grind
 ·obtain⟨m,⟨o,_,_,ho,_⟩,_⟩:=I.loc
  exact free _ o (λz=>(hch _ z).2.1 rfl) ho I.free
 ·obtain⟨v,o,ho,hd⟩:=I.cell x c e
  exact free c o (λz=>(hch c z).2.2.1 x c e rfl) ho (I.freeC x c e)
 ·obtain⟨e,n,ne,nf,d⟩:=I.pin p hp
  grind
def Inv.un(I:Inv X pins σ H s)(u:Un X.fs [] H H' s.heap h')(hok:HOk X.prog X.w H' h'):Inv X pins σ H' { s with heap:=h',toks:=t' }:=by
 obtain⟨m,⟨o,es,ep,ho,r⟩,_⟩:=id I.loc;obtain⟨sl,hL⟩:=u.any ho I.free (by simp)
 exact I.step (g':=s.gens) (d':=s.drawn) (ch:=[]) (λ_ z=>nomatch z) (λb o _ hb _ e n=>u.keep b o e n hb (by simp)) (λb o _ hb _ e n=>u.slot b o e n hb (by simp)) (λb o _ e n=>u.free b o e n (by simp)) (λb o _ e=>u.there b o e (by simp)) u.tups u.frzs u.tbls (λm' hm=>by
  obtain⟨o',es',ep',ho',r'⟩:=hm;rw[ho]at ho';cases ho'
  exact⟨_,es',ep',hL,r'⟩) hok I.bare
def Inv.call(I:Inv X pins σ H s)(u:Un (frs X.stack) ch H H' s.heap h')(hok:HOk X.prog X.w H' h')(hg:AllBare g')(hch:∀b∈ch,(b∈X.ex\/X.s₀.heap.objs.size<=b)/\b≠X.env.locals/\(∀x c,X.env.cells.lookup x=some c->c≠b)/\∀p∈X.pn++pins,p.1≠b):
 Inv X pins σ H' { s with heap:=h',gens:=g',drawn:=d',toks:=t' }:=by
 obtain⟨m,⟨o,es,ep,ho,r⟩,_⟩:=id I.loc;obtain⟨sl,hL⟩:=u.any ho I.free λz=>(hch _ z).2.1 rfl
 exact I.step (ch:=ch) hch (λb o hL hb hc e n=>u.keep b o e n (λz=>(qt (I.stkSub b z)).elim hL hb) hc) (λb o _ _ hc e n=>u.any e n hc) (λb o hc e n=>u.free b o e n hc) (λb o hc e=>u.there b o e hc) u.tups u.frzs u.tbls (λm' hm=>by
  obtain⟨o',es',ep',ho',r'⟩:=hm;rw[ho]at ho';cases ho'
  exact⟨_,es',ep',hL,r'⟩) hok hg
theorem Inv.turned(I:Inv X pins σ H s)(k:∀b o,b≠it->s.heap.get? b=some o->h'.get? b=some o)(hn:H it=none)(hL:it≠X.env.locals)(h1:it∈X.ex\/X.s₀.heap.objs.size<=it)(h2:∀x c,X.env.cells.lookup x=some c->c≠it)(h3:∀p∈X.pn++pins,p.1≠it):Inv X pins σ H { s with heap:=h',toks:=t' }:=by
 have nit:∀b u,H b=some u->b≠it:=λb u e z=>by grind
 refine I.step (g':=s.gens) (d':=s.drawn) (ch:=[it]) (λb hb=>?_) (λb o _ _ hc e _=>k b o (λz=>hc (by simp[z])) e) (λb o _ _ hc e _=>⟨o.slots,k b o (λz=>hc (by simp[z])) e⟩) (λ_ _ _ _ n=>n)
  (λb o hc e=>⟨o,k b o (λz=>hc (by simp[z])) e⟩) (λ_ _ e=>e) (λ_ _ _ e=>e) (λb ps e=>⟨#[],by rw[e];simp⟩) (λm hm=>?_) (λb u e=>?_) I.bare
 ·grind
 ·obtain⟨o,es,ep,ho,r⟩:=hm
  exact⟨o,es,ep,k _ o (Ne.symm hL) ho,r⟩
 ·refine(I.hok b u e).stay (λc v hc q=>k c v ?_ q) (λ_ q=>q) λ_ _ q=>q
  grind
def Inv.tok(I:Inv X pins σ H s)(t:Nat):Inv X pins σ H { s with toks:=t }:=I.un (h':=s.heap) (t':=t) Un.refl I.hok
def Inv.kept(I:Inv X pins σ H s)(k:∀b u,s.heap.get? b=some u->h'.get? b=some u):Inv X pins σ H { s with heap:=h',toks:=t' }:=I.un (Un.kept k) (I.hok.kept k)
def Inv.laid{a:Addr}(I:Inv X pins σ H s)(k:∀b u,s.heap.get? b=some u->h'.get? b=some u)(hp:(~~~s)<=a)(new:ObjOk X.prog X.w (upd H a o) h' a o):
 Inv X pins σ (upd H a o) { s with heap:=h',toks:=t' }:=I.un (Un.laid k hp (I.hok.fresh hp)) (I.hok.laid k hp new)
def Inv.write(I:Inv X pins σ H s)(mu:Mut (H x))(he:e=x\/H e=some (.own x))(k:∀b u,b≠e->s.heap.get? b=some u->h'.get? b=some u)(heo:∃u,h'.get? e=some u)(new:ObjOk X.prog X.w (upd H x o) h' x o):Inv X pins σ (upd H x o) { s with heap:=h',toks:=t' }:=I.un (Un.write mu he k heo) (I.hok.write mu he k heo new)
def Inv.pins_of(I:Inv X pins σ H s)(h:∀p∈pins',s.heap.get? p.1=some p.2/\H p.1=none/\p.1≠X.env.locals/\p.1∉X.fs/\∀v,p.2.data≠.cell v):Inv X pins' σ H s:=
 ⟨I.ok,I.os,I.bare,I.base,I.loc,I.cell,I.free,I.freeC,λp hp=>(qv hp).elim (λz=>I.pin p (List.mem_append_left _ z)) (h p),I.hok,I.len⟩
def Yv9{N:AL}(hN:N.Nodup){i j:Nat}(a:N[i]?=some x)(b:N[j]?=some x):i=j:=by
 obtain⟨h1,e1⟩:=qo a;obtain⟨h2,e2⟩:=qo b;exact(List.getElem_inj hN).mp (e1.trans e2.symm)
theorem Yrg(I:Inv X pins σ H s)(hN:X.N.Nodup)(hi:X.N[i]?=some x)(hx:Loc X.env.scope x)(r:RelV v u)(h:∀s',Inv X pins (σ.set i (some v)) H s'->(∃a,Heap.SameBut a s.heap s'.heap/\(a=X.env.locals\/X.env.cells.lookup x=some a))->Q () s')(hf:X.fn x=true\/X.env.scope.names.lookup x=some .local:=by trivial):wpAny M A (storeName X.env x u) Q E s:=by
 obtain⟨m,hn,hl⟩:=id I.loc
 have hcls:(X.env.scope.kind==.class||(X.env.scope.kind==.module&&X.env.locals != X.env.globals))=false:=by rw[I.ok.kind];rfl
 have hiσ:i<σ.length:=by rw[I.len];grind
 have cne:=I.cne
 have tracked:∀{a:Addr}{h':Heap},(∃o,s.heap.get? a=some o/\H a=none)->Heap.SameBut a s.heap h'->HOk X.prog X.w H h':=λ{a h'} ha hs b ob e=>by
  obtain⟨_,_,hfree⟩:=ha;refine(I.hok b ob e).stay (λc w' hc q=>(hs.2 c ?_).trans q) (λ_ q=>q) λ_ _ q=>q;grind
 rcases hx with hk|hk
 ·refine wpAny_storeName_local hk hn (λh' hn' hs=>?_) hcls
  obtain⟨oL,_,_,hoL,_⟩:=id hn;refine h _ ⟨I.ok,I.os,I.bare,⟨λb o e n hb hx=>?_,λb o e n hb hx=>?_,I.base.free,λb o e hx=>?_,I.base.tups,I.base.frzs,I.base.tbls⟩,⟨_,hn',λj y v' e1 e2 e3=>?_⟩,λy c e=>?_,I.free,I.freeC,λp hp=>?_,tracked ⟨oL,hoL,I.free⟩ hs,by simpa using I.len⟩ ⟨_,hs,.inl rfl⟩
  ·exact(hs.2 b (qm (Qc (ql e) I.ok.above))).trans (I.base.keep b o e n hb hx)
  ·obtain⟨sl,e1⟩:=I.base.slot b o e n hb hx
   exact⟨sl,(hs.2 b (qm (Qc (ql e) I.ok.above))).trans e1⟩
  ·obtain⟨o',e1⟩:=I.base.there b o e hx
   exact⟨o',(hs.2 b (qm (Qc (ql e) I.ok.above))).trans e1⟩
  ·by_cases hj:j=i
   ·subst hj
    rw[hi]at e1;cases e1;rw[List.getElem?_set_self hiσ]at e2;cases e2;exact⟨u,r,.inl ⟨hk,by simp⟩⟩
   ·rw[Qg (Ne.symm hj)]at e2
    obtain⟨u',r',q⟩:=hl j y v' e1 e2 e3;refine⟨u',r',?_⟩;rcases q with⟨k,e⟩|⟨k,c,e,z⟩
    ·refine .inl ⟨k,?_⟩
     have:y≠x:=λe=>hj (Yv9 hN e1 (e ▸ hi));grind
    ·exact .inr ⟨k,c,e,z.sameBut hs (cne y c e)⟩
  ·obtain⟨w',z⟩:=I.cell y c e
   exact⟨w',z.sameBut hs (cne y c e)⟩
  ·obtain⟨e,n,ne,nf,d⟩:=I.pin p hp
   exact⟨(hs.2 p.1 ne).trans e,n,ne,nf,d⟩
 ·have hfn:X.fn x=true:=by
   grind
  obtain⟨c,hc⟩:=I.ok.has x (.inl hk);obtain⟨w',z⟩:=I.cell x c hc;refine wpAny_storeName_cell I.ok.kind hk hc z (λh' hc' hs=>?_);obtain⟨oc,hoc,hocd⟩:=id z;refine h { s with heap:=h' } ⟨I.ok,I.os,I.bare,⟨λb o e n hb hx=>?_,λb o e n hb hx=>?_,I.base.free,λb o e hx=>?_,I.base.tups,I.base.frzs,I.base.tbls⟩,⟨m,hn.sameBut hs (Ne.symm (cne x c hc)),λj y v' e1 e2 e3=>?_⟩,λy c' e=>?_,I.free,I.freeC,λp hp=>?_,tracked ⟨oc,hoc,I.freeC x c hc⟩ hs,by simpa using I.len⟩ ⟨c,hs,.inr hc⟩
  ·exact(hs.2 b (qm (Qc (ql e) (I.ok.cab x c hfn hc)))).trans (I.base.keep b o e n hb hx)
  ·obtain⟨sl,e1⟩:=I.base.slot b o e n hb hx
   exact⟨sl,(hs.2 b (qm (Qc (ql e) (I.ok.cab x c hfn hc)))).trans e1⟩
  ·obtain⟨o',e1⟩:=I.base.there b o e hx
   exact⟨o',(hs.2 b (qm (Qc (ql e) (I.ok.cab x c hfn hc)))).trans e1⟩
  ·by_cases hj:j=i
   ·subst hj
    rw[hi]at e1;cases e1;rw[List.getElem?_set_self hiσ]at e2;cases e2;exact⟨u,r,.inr ⟨.inl hk,c,hc,hc'⟩⟩
   ·rw[Qg (Ne.symm hj)]at e2
    obtain⟨u',r',q⟩:=hl j y v' e1 e2 e3;refine⟨u',r',?_⟩;rcases q with q|⟨k,c',e,z'⟩
    ·exact .inl q
    ·refine .inr ⟨k,c',e,z'.sameBut hs ?_⟩
     rintro rfl;exact hj (Yv9 hN e1 (I.ok.inj _ _ _ e hc ▸ hi))
  ·by_cases hcc:c'=c
   ·grind
   ·obtain⟨w2,z2⟩:=I.cell y c' e
    exact⟨w2,z2.sameBut hs hcc⟩
  ·obtain⟨e,n,ne,nf,d⟩:=I.pin p hp
   refine⟨(hs.2 p.1 ?_).trans e,n,ne,nf,d⟩;grind
def Ypf(I:Inv X pins σ H s)(hN:X.N.Nodup)(hi:X.N[i]?=some x)(hx:Loc X.env.scope x)(r:RelV v u)(h:∀s',Inv X pins (σ.set i (some v)) H s'->Q () s')(hf:X.fn x=true\/X.env.scope.names.lookup x=some .local:=by trivial):wpAny M A (storeName X.env x u) Q E s:=
 Yrg I hN hi hx r (λs' I' _=>h s' I') hf
def Inv.call'(I:Inv X pins σ H s)(ho:s'.os=s.os)(u:Un (frs X.stack) ch H H' s.heap s'.heap)(hok:HOk X.prog X.w H' s'.heap)(hg:AllBare s'.gens)(hch:∀b∈ch,(b∈X.ex\/X.s₀.heap.objs.size<=b)/\b≠X.env.locals/\(∀x c,X.env.cells.lookup x=some c->c≠b)/\∀p∈X.pn++pins,p.1≠b):Inv X pins σ H' s':=by
 obtain⟨h',g',d',t',o'⟩:=s';have e:o'=s.os:=ho;subst e;exact I.call (g':=g') (t':=t') (d':=d') u hok hg hch
end
abbrev XK:=Value->Option Addr->Hp->Prop
abbrev St:=List (Option V)
abbrev VK:=V->Hp->Prop
abbrev TE:=St->Hp->VK->Prop
abbrev TT:=St->Hp->(Bool->Hp->Prop)->Prop
abbrev TA:=St->Hp->(AQ->Hp->Prop)->Prop
structure Ends where
 nx:St->Hp->Prop
 rt:VK
 bk:St->Hp->Prop:=λ_ _=>False
 ct:St->Hp->Prop:=λ_ _=>False
abbrev TS:=Ends->St->Hp->Prop
def EP(X:Cx)(pins:AC)(σ:St)(Q:VK)(u:Value)(s':Shared):Prop:=∃v H',Inv X pins σ H' s'/\RelV v u/\Q v H'
def TP(X:Cx)(pins:AC)(σ:St)(Q:Bool->Hp->Prop)(b:Bool)(s':Shared):Prop:=∃H',Inv X pins σ H' s'/\Q b H'
def AP(X:Cx)(pins:AC)(σ:St)(Q:AQ->Hp->Prop)(us:AD)(s':Shared):Prop:=∃vs H',Inv X pins σ H' s'/\Vals vs us/\Q vs H'
def SP(X:Cx)(pins:AC)(D:Ends)(f:Flow)(s':Shared):Prop:=
 match f with
 | .next=>∃σ' H',Inv X pins σ' H' s'/\D.nx σ' H'
 | .brk=>∃σ' H',Inv X pins σ' H' s'/\D.bk σ' H'
 | .cont=>∃σ' H',Inv X pins σ' H' s'/\D.ct σ' H'
 | .ret u=>∃v σ' H',Inv X pins σ' H' s'/\RelV v u/\D.rt v H'
def PE(X:Cx)(e:Expr)(t:TE):Prop:=
 ∀(pins:AC) (s:Shared) (σ:St) (H:Hp) (Q:VK),Inv X pins σ H s->t σ H Q->wpAny (mZ X.prog X.w) X.A (eval e X.env) (EP X pins σ Q) X.xe s
def PT(X:Cx)(e:Expr)(t:TT):Prop:=
 ∀(pins:AC) (s:Shared) (σ:St) (H:Hp) (Q:Bool->Hp->Prop),Inv X pins σ H s->t σ H Q->wpAny (mZ X.prog X.w) X.A (isTrue e X.env (eval e X.env)) (TP X pins σ Q) X.xe s
def PW(X:Cx)(e:Expr)(t:TT):Prop:=
 ∀(whole:Sem Value) (pins:AC) (s:Shared) (σ:St) (H:Hp) (Q:Bool->Hp->Prop),Inv X pins σ H s->t σ H Q->wpAny (mZ X.prog X.w) X.A (isTrue e X.env whole) (TP X pins σ Q) X.xe s
def PW.pt(h:PW X e t):PT X e t:=h _
def PA(X:Cx)(es:AM)(t:TA):Prop:=
 ∀(pos:Pos) (pins:AC) (s:Shared) (σ:St) (H:Hp) (Q:AQ->Hp->Prop),Inv X pins σ H s->t σ H Q->wpAny (mZ X.prog X.w) X.A (spliced (backTo pos (starEach es X.env))) (AP X pins σ Q) X.xe s
def PS(X:Cx)(st:Stmt)(t:TS):Prop:=
 ∀(pins:AC) (s:Shared) (σ:St) (H:Hp) (D:Ends),Inv X pins σ H s->t D σ H->wpAny (mZ X.prog X.w) X.A (exec st X.env) (SP X pins D) X.xe s
def PSs(X:Cx)(st:List Stmt)(t:TS):Prop:=
 ∀(pins:AC) (s:Shared) (σ:St) (H:Hp) (D:Ends),Inv X pins σ H s->t D σ H->wpAny (mZ X.prog X.w) X.A (execs st X.env) (SP X pins D) X.xe s
def thn(h:wpAny M A t Q E s)(hQ:∀a s,Q a s->Q' a s):wpAny M A t Q' E s:=w5 h hQ λ_ _ x=>x
section
variable {X:Cx}
def tVar(i:Nat):TE:=λσ H Q=>∃v,σ[i]?=some (some v)/\Q v H
def tC(v:V):TE:=λ_ H Q=>Q v H
abbrev Ndb(x:Str):Prop:=(x==("__debug__":Str))=false
abbrev Ncd(x:Str):Prop:=(x==("__classdict__":Str))=false
def Ylp{pos:Pos}(hN:X.N[i]?=some x)(hv:Vis X.env.scope x)(hd:Ndb x:=by decide)(hcd:Ncd x:=by decide):PE X (.Name x pos) (tVar i):=by
 intro pins s σ H Q I h;obtain⟨v,e,h⟩:=h;obtain⟨m,hn,hl⟩:=I.loc;obtain⟨u,r,l⟩:=hl i x v hN e hv
 have fin:EP X pins σ Q u s:=⟨v,H,I,r,h⟩
 rcases l with⟨hk,hm⟩|⟨hk,c,hc,hcell⟩
 ·exact wpAny_Name (wpAny_loadName_local I.ok.kind hk hn hm fin) hd
 ·rcases hk with hk|hk
  ·exact wpAny_Name (wpAny_loadName_cell I.ok.kind hk hc hcell fin) hd
  ·exact wpAny_Name (wpAny_loadName_free I.ok.kind hk hc hcell fin hcd) hd
def Yabm{i j pos}:PE X (.Constant (.int i) j pos) (tC (.int i)):=λ_ _ _ H _ I h=>wpAny_Constant_int ⟨.int i,H,I.tok _,⟨_,rfl⟩,h⟩
def Yafp{b j pos}:PE X (.Constant (.bool b) j pos) (tC (.bl b)):=λ_ _ _ H _ I h=>Constant_bool ⟨.bl b,H,I,rfl,h⟩
def Yabn{j pos}:PE X (.Constant .none j pos) (tC .non):=λ_ _ _ H _ I h=>Constant_none ⟨.non,H,I,rfl,h⟩
def Yabo{x j pos}:PE X (.Constant (.str x) j pos) (tC (.str x)):=λ_ _ _ H _ I h=>Calls.Constant_str ⟨.str x,H,I.tok _,⟨_,rfl⟩,h⟩
def Gl(X:Cx)(x:Str):Prop:=X.env.kindOf x=some .globalImplicit
def Yzs{σ:St}(I:Inv X pins σ H s)(hg:Gl X x)(hm:X.mg x=some u)(h:Q u s)(hd:Ndb x:=by decide):wpAny (mZ X.prog X.w) X.A (eval (.Name x pos) X.env) Q E s:=
 Calls.Name_function_global I.ok.kind hg (Calls.loadGlobal_global (by rw[I.ok.glob];exact I.mod.glob.keeps I.bk) hm h) hd
def Ykg{E:AB}{σ:St}{pos:Pos}(I:Inv X pins σ H s)(hg:Gl X x)(hm:X.mg x=none)(hv:bootBuiltins x=some u)(h:Q u s)(hn:x≠"__name__":=by decide)(hd:Ndb x:=by decide):wpAny (mZ X.prog X.w) X.A (eval (.Name x pos) X.env) Q E s:=by
 obtain⟨mb,h1,h2⟩:=I.mod.blt;exact Calls.Name_function_global I.ok.kind hg (Calls.loadGlobal_builtin (by rw[I.ok.glob];exact I.mod.glob.keeps I.bk) hm (by rw[I.ok.blt];exact h1.keeps I.bk) ((h2 x hn).trans hv) h) hd
def y8j{pos:Pos}(hg:Gl X x)(hm:X.mg x=none)(hv:bootBuiltins x=some u)(r:RelV v u)(hn:x≠"__name__":=by decide)(hd:Ndb x:=by decide):PE X (.Name x pos) (tC v):=
 λ_ _ _ H _ I h=>Ykg I hg hm hv ⟨v,H,I,r,h⟩ hn hd
variable {a b:Expr}{ta tb:TE}{pos:Pos}
variable {tA tB':TT}{rest:AM}
def tAnd(t u:TT):TT:=λσ H Q=>t σ H λc H1=>if c=true then u σ H1 Q else Q false H1
def tOr(t u:TT):TT:=λσ H Q=>t σ H λc H1=>if c=true then Q true H1 else u σ H1 Q
def tNot(t:TT):TT:=λσ H Q=>t σ H λc H1=>Q (!c) H1
def y8k(ha:PT X a tA):PW X (.BoolOp .And [a] pos) tA:=by
 intro wh pins s σ H Q I h;refine isTrue_and (thn (ha pins s σ H Q I h) λc s1 e=>?_)
 cases c with
 | true=>exact isTrue_and_nil e
 | false=>exact e
def Yabp(ha:PT X a tA):PW X (.BoolOp .Or [a] pos) tA:=by
 intro wh pins s σ H Q I h;refine isTrue_or (thn (ha pins s σ H Q I h) λc s1 e=>?_)
 cases c with
 | false=>exact isTrue_or_nil e
 | true=>exact e
def Yabq(ha:PT X a tA)(hb:PW X (.BoolOp .And (b::rest) pos) tB'):PW X (.BoolOp .And (a::b::rest) pos) (tAnd tA tB'):=by
 intro wh pins s σ H Q I h;refine isTrue_and (thn (ha pins s σ H _ I h) λc s1 hx_=>?_);obtain⟨H1,I1,q1⟩:=hx_
 cases c with
 | true=>exact hb wh pins s1 σ H1 Q I1 q1
 | false=>exact⟨H1,I1,q1⟩
def Yafq(ha:PT X a tA)(hb:PW X (.BoolOp .Or (b::rest) pos) tB'):PW X (.BoolOp .Or (a::b::rest) pos) (tOr tA tB'):=by
 intro wh pins s σ H Q I h;refine isTrue_or (thn (ha pins s σ H _ I h) λc s1 hx_=>?_);obtain⟨H1,I1,q1⟩:=hx_
 cases c with
 | true=>exact⟨H1,I1,q1⟩
 | false=>exact hb wh pins s1 σ H1 Q I1 q1
def Yabr(ha:PT X a tA):PT X (.UnaryOp .Not a pos) (tNot tA):=by
 intro pins s σ H Q I h;exact isTrue_not (ha pins s σ H (λc H1=>Q (!c) H1) I h)
def Yafr(ta tb:TE):TE:=λσ H Q=>ta σ H λx H1=>∃c,x=.bl c/\if c=true then tb σ H1 Q else Q (.bl false) H1
def Yafs(ta:TE):TE:=λσ H Q=>ta σ H λx H1=>∃c,x=.bl c/\Q (.bl (!c)) H1
def Yabs{op}(h:PE X a t):PE X (.BoolOp op [a] pos) t:=λpins s σ H Q I hw=>BoolOp_one (h pins s σ H Q I hw)
def Yabt(ha:PE X a ta)(hb:PE X (.BoolOp .And (b::rest) pos) tb):PE X (.BoolOp .And (a::b::rest) pos) (Yafr ta tb):=by
 intro pins s σ H Q I h;refine BoolOp_and (thn (ha pins s σ H _ I h) λv s1 hx_=>?_);obtain⟨x,H1,I1,r1,q1⟩:=hx_;obtain⟨c,rfl,q1⟩:=q1;cases r1;refine wpAny_truthy_bool ?_
 cases c with
 | true=>exact hb pins s1 σ H1 Q I1 q1
 | false=>exact⟨.bl false,H1,I1,rfl,q1⟩
def Yabu(ha:PE X a ta):PE X (.UnaryOp .Not a pos) (Yafs ta):=by
 intro pins s σ H Q I h;refine UnaryOp_ (thn (ha pins s σ H _ I h) λv s1 hx_=>?_);obtain⟨x,H1,I1,r1,q1⟩:=hx_;obtain⟨c,rfl,q1⟩:=q1;cases r1;exact not_of (wpAny_truthy_bool ⟨.bl (!c),H1,I1,rfl,q1⟩)
def tIf(t:TT)(ta tb:TE):TE:=λσ H Q=>t σ H λc H1=>if c=true then ta σ H1 Q else tb σ H1 Q
def y4m(hc:PT X c tA)(ha:PE X a ta)(hb:PE X b tb):PE X (.IfExp c a b pos) (tIf tA ta tb):=by
 intro pins s σ H Q I h;refine wpAny_IfExp (thn (hc pins s σ H _ I h) λd s1 hx_=>?_);obtain⟨H1,I1,q1⟩:=hx_
 cases d with
 | true=>exact ha pins s1 σ H1 Q I1 q1
 | false=>exact hb pins s1 σ H1 Q I1 q1
end
def SqL(K:W7)(H:Hp)(a:Addr)(xs:AQ):Prop:=
 Rd H a (.lst xs)\/
  ∃(o:Obj) (its:Array Value) (n:Nat),K.lookup a=some o/\o.cls=.type "list"/\o.dict=none/\o.data=.seq its n/\its.size<=sizeLine/\Vals xs its.toList
def SqT(K:W7)(H:Hp)(a:Addr)(xs:AQ):Prop:=
 Rd H a (.tup xs)\/
  ∃(o:Obj) (its:Array Value) (n:Nat),K.lookup a=some o/\o.cls=.type "tuple"/\o.data=.seq its n/\its.size<=sizeLine/\Vals xs its.toList
def absV:Value->Option V
 | .none=>some .non
 | .bool b=>some (.bl b)
 | .int i _=>some (.int i)
 | .str x _=>some (.str x)
 | .bytes b _=>some (.byt b)
 | .float b _=>some (.flt b)
 | .ref a=>some (.ref a)
 | .type n=>some (.ty n)
 | _=>none
def RelV.abs(r:RelV x u):absV u=some x:=by
 cases x with
 | non=>cases r;rfl
 | bl _=>cases r;rfl
 | int _=>obtain⟨t,rfl⟩:=r;rfl
 | str _=>obtain⟨t,rfl⟩:=r;rfl
 | byt _=>obtain⟨t,rfl⟩:=r;rfl
 | flt _=>obtain⟨t,rfl⟩:=r;rfl
 | ref _=>cases r;rfl
 | ty _=>cases r;rfl
def RelV.inj(r:RelV x u)(q:RelV y u):x=y:=w6 (r.abs.symm.trans q.abs)
theorem Vals.inj:∀{xs ys:AQ}{us:AD},Vals xs us->Vals ys us->xs=ys
 :=by
  intro xs ys us h
  induction h generalizing ys with
  | nil=>
    intro h2;cases h2;rfl
  | cons r t ih=>
    intro h2
    cases h2 with
    | cons r' t'=>rw[r.inj r',ih t']
section
variable {X:Cx}{pins:AC}{σ:St}{H:Hp}{s:Shared}{a:Addr}{xs ys:AQ}
def SqL.of{K:W7}(h:H a=some (.lst xs)):SqL K H a xs:=.inl (.inl h)
def SqT.of{K:W7}(h:H a=some (.tup xs)):SqT K H a xs:=.inl (.inl h)
theorem Inv.list(I:Inv X pins σ H s)(h:SqL X.K H a xs):∃its:AD,Vals xs its/\PlainL s.heap a its.toArray/\xs.length<=sizeLine:=by
 rcases h with h|⟨o,its,n,hk,hc,hd,hs,hz,r⟩
 ·obtain⟨z,its,n,r,e⟩:=h.ok I.hok
  exact⟨its,r,⟨_,n,e,rfl,rfl,rfl⟩,z⟩
 ·refine⟨its.toList,r,⟨o,n,I.kIn a o hk,hc,hd,by simpa using hs⟩,?_⟩
  have e:=r.length;grind
theorem Inv.tuple(I:Inv X pins σ H s)(h:SqT X.K H a xs):∃its:AD,Vals xs its/\IsTup s.heap a its.toArray/\xs.length<=sizeLine:=by
 rcases h with h|⟨o,its,n,hk,hc,hs,hz,r⟩
 ·obtain⟨z,its,r,p⟩:=h.ok I.hok
  grind
 ·refine⟨its.toList,r,⟨o,I.kIn a o hk,hc,n,by simpa using hs⟩,?_⟩
  have e:=r.length;grind
theorem Inv.list_inj(I:Inv X pins σ H s)(h:SqL X.K H a xs)(h':SqL X.K H a ys):xs=ys:=by
 obtain⟨its,r,⟨o,n,e,_,_,d⟩,_⟩:=I.list h;obtain⟨its',r',⟨o',n',e',_,_,d'⟩,_⟩:=I.list h';rw[e]at e';cases e';rw[d]at d';injection d' with d1 _
 have:its=its':=by grind
 subst this;exact r.inj r'
theorem Inv.tuple_inj(I:Inv X pins σ H s)(h:SqT X.K H a xs)(h':SqT X.K H a ys):xs=ys:=by
 obtain⟨its,r,⟨o,e,_,n,d⟩,_⟩:=I.tuple h;obtain⟨its',r',⟨o',e',_,n',d'⟩,_⟩:=I.tuple h';rw[e]at e';cases e';rw[d]at d';injection d' with d1 _
 have:its=its':=by grind
 subst this;exact r.inj r'
end
abbrev Cx.wish(X:Cx)(E:AB):Cx:={ X with xe:=E }
abbrev Cx.nox(X:Cx):Cx:=X.wish λ_ _=>False
def Cx.Ok.wish{X:Cx}(ok:X.Ok)(E:AB):(X.wish E).Ok:=
 ⟨ok.mod,ok.kind,ok.glob,ok.blt,ok.above,ok.inj,ok.has,ok.cab,ok.hd,ok.frames,ok.stk,ok.exf,ok.bs,ok.bsz,ok.noex,ok.exfs,ok.funs,ok.frf⟩
def Cx.Ok.unwish{X:Cx}(ok:(X.wish E).Ok):X.Ok:=
 ⟨ok.mod,ok.kind,ok.glob,ok.blt,ok.above,ok.inj,ok.has,ok.cab,ok.hd,ok.frames,ok.stk,ok.exf,ok.bs,ok.bsz,ok.noex,ok.exfs,ok.funs,ok.frf⟩
section
variable {X:Cx}{pins:AC}{σ:St}{H:Hp}{s:Shared}{E:AB}{st:Stmt}{rest:List Stmt}{t u:TS}{e:Expr}{te:TE}{pos:Pos}
def Inv.wish(I:Inv X pins σ H s)(E:AB):Inv (X.wish E) pins σ H s:=⟨I.ok.wish E,I.os,I.bare,I.base,I.loc,I.cell,I.free,I.freeC,I.pin,I.hok,I.len⟩
def Inv.unwish(I:Inv (X.wish E) pins σ H s):Inv X pins σ H s:=⟨I.ok.unwish,I.os,I.bare,I.base,I.loc,I.cell,I.free,I.freeC,I.pin,I.hok,I.len⟩
def SP.unwish(h:SP (X.wish E) pins D f s'):SP X pins D f s':=by
 cases f with
 | next=>obtain⟨σ',H',I,q⟩:=h;exact⟨σ',H',I.unwish,q⟩
 | brk=>obtain⟨σ',H',I,q⟩:=h;exact⟨σ',H',I.unwish,q⟩
 | cont=>obtain⟨σ',H',I,q⟩:=h;exact⟨σ',H',I.unwish,q⟩
 | ret u=>obtain⟨v,σ',H',I,r,q⟩:=h;exact⟨v,σ',H',I.unwish,r,q⟩
def PSs.nox{st:List Stmt}(h:PSs X.nox st t):PSs X st t:=λpins s σ H D I hw=>
 w5 (h pins s σ H D (I.wish _) hw) (λ_ _ q=>q.unwish) λ_ _ z=>False.elim z
def Yaft:TS:=λD σ H=>D.nx σ H
def tSeq(t u:TS):TS:=λD σ H=>t { D with nx:=u D } σ H
def y8l:PSs X [] Yaft:=λ_ _ σ H _ I h=>wpAny_execs_nil ⟨σ,H,I,h⟩
def y4n(h1:PS X st t)(h2:PSs X rest u):PSs X (st::rest) (tSeq t u):=by
 intro pins s σ H D I h;refine wpAny_execs_cons (thn (h1 pins s σ H { D with nx:=u D } I h) λf s1 q=>?_)
 cases f with
 | next=>
   obtain⟨σ',H',I',q⟩:=q;exact h2 pins s1 σ' H' D I' q
 | ret v=>exact q
 | brk=>exact q
 | cont=>exact q
def y8m(h1:PS X st t):PSs X [st] t:=by
 intro pins s σ H D I h;refine wpAny_execs_cons (thn (h1 pins s σ H D I h) λf s1 q=>?_)
 cases f with
 | next=>exact wpAny_execs_nil q
 | ret v=>exact q
 | brk=>exact q
 | cont=>exact q
def Inv.quiet(I:Inv X pins σ H s):interactive X.env=false:=by simp[interactive,I.ok.kind]
def Yafu(te:TE):TS:=λD σ H=>te σ H λ_ H1=>D.nx σ H1
def Yt7(he:PE X e te)(hs:swapsWith e none pos.line X.env=pure false:=by rfl):PS X (.Expr e pos) (Yafu te):=by
 intro pins s σ H D I h;refine wpAny_Expr_any (thn (he pins s σ H _ I h) λv s1 hx_=>?_) I.quiet hs;obtain⟨x,H1,I1,r1,q1⟩:=hx_;exact⟨σ,H1,I1,q1⟩
def tRet(te:TE):TS:=λD σ H=>te σ H D.rt
def Yabv(he:PE X e te):PS X (.Return (some e) pos) (tRet te):=by
 intro pins s σ H D I h;refine wpAny_Return_some (thn (he pins s σ H _ I h) λv s1 hx_=>?_);obtain⟨x,H1,I1,r1,q1⟩:=hx_;exact⟨x,σ,H1,I1,r1,q1⟩
def tIfS(c:TT)(t u:TS):TS:=λD σ H=>c σ H λb H1=>if b=true then t D σ H1 else u D σ H1
def Yafv(hc:PT X c tc)(ha:PSs X a t)(hb:PSs X b u):PS X (.If c a b pos) (tIfS tc t u):=by
 intro pins s σ H D I h;refine wpAny_If (thn (hc pins s σ H _ I h) λd s1 hx_=>?_);obtain⟨H1,I1,q1⟩:=hx_
 cases d with
 | true=>exact ha pins s1 σ H1 D I1 q1
 | false=>exact hb pins s1 σ H1 D I1 q1
end
abbrev TG:=V->St->Hp->(St->Hp->Prop)->Prop
abbrev TGs:=AQ->St->Hp->(St->Hp->Prop)->Prop
def PG(X:Cx)(target:Expr)(t:TG):Prop:=
 ∀(pins:AC) (s:Shared) (σ:St) (H:Hp) (v:V) (u:Value) (Q:St->Hp->Prop),Inv X pins σ H s->RelV v u->t v σ H Q->
  wpAny (mZ X.prog X.w) X.A (assign target X.env u) (λ_ s'=>∃σ' H',Inv X pins σ' H' s'/\Q σ' H') X.xe s
def PGs(X:Cx)(ts:AM)(t:TGs):Prop:=
 ∀(pins:AC) (s:Shared) (σ:St) (H:Hp) (vs:AQ) (us:AD) (Q:St->Hp->Prop),Inv X pins σ H s->Vals vs us->t vs σ H Q->
  wpAny (mZ X.prog X.w) X.A (assignInOrder ((assignEach ts X.env).map (·.2)) us) (λ_ s'=>∃σ' H',Inv X pins σ' H' s'/\Q σ' H') X.xe s
abbrev TSet:=V->V->V->Hp->(Hp->Prop)->Prop
def PSet(X:Cx)(t:TSet):Prop:=
 ∀(pins:AC) (s:Shared) (σ:St) (H:Hp) (o i v:V) (ov iv u:Value) (Q:Hp->Prop),Inv X pins σ H s->RelV o ov->RelV i iv->RelV v u->t o i v H Q->
  wpAny (mZ X.prog X.w) X.A (setItem ov iv u) (λ_ s'=>∃H',Inv X pins σ H' s'/\Q H') X.xe s
abbrev TIp:=V->V->Hp->VK->Prop
def PIp(X:Cx)(op:Operator)(t:TIp):Prop:=
 ∀(pins:AC) (s:Shared) (σ:St) (H:Hp) (x y:V) (v u:Value) (Q:VK),Inv X pins σ H s->RelV x v->RelV y u->t x y H Q->
  wpAny (mZ X.prog X.w) X.A (inplaceOp op v u) (EP X pins σ Q) X.xe s
section
variable {X:Cx}{pos:Pos}
def Yxx(i:Nat):TG:=λv σ H Q=>Q (σ.set i (some v)) H
def Yt8(hN:X.N.Nodup)(hi:X.N[i]?=some x)(hx:Loc X.env.scope x)(hf:X.fn x=true\/X.env.scope.names.lookup x=some .local:=by trivial):PG X (.Name x pos) (Yxx i):=by
 intro pins s σ H v u Q I r h;exact wpAny_assign_Name (Ypf I hN hi hx r (λs' I'=>⟨_,H,I',h⟩) hf)
def gNil:TGs:=λvs σ H Q=>vs=[]/\Q σ H
def Yafw(t:TG)(u:TGs):TGs:=λvs σ H Q=>∃v r,vs=v::r/\t v σ H λσ' H'=>u r σ' H' Q
def y8n:PGs X [] gNil:=by
 intro pins s σ H vs us Q I r h;obtain⟨e,h⟩:=h;subst e;cases r;exact assignInOrder_nil ⟨σ,H,I,h⟩
def Ywa(h1:PG X e t)(h2:PGs X es u)(hs:(assignEach (e::es) X.env).map (·.2)=assign e X.env::(assignEach es X.env).map (·.2):=by rfl):PGs X (e::es) (Yafw t u):=by
 intro pins s σ H vs us Q I r h;obtain⟨v,vr,e1,h⟩:=h;subst e1
 cases r with
 | cons r rr=>
   rw[hs];refine assignInOrder_cons (thn (h1 pins s σ H _ _ _ I r h) λ_ s1 hx_=>?_);obtain⟨σ1,H1,I1,q1⟩:=hx_;exact h2 pins s1 σ1 H1 _ _ Q I1 rr q1
def gTup(K:W7)(n:Nat)(t:TGs):TG:=λv σ H Q=>∃a xs,v=.ref a/\SqT K H a xs/\xs.length=n/\t xs σ H Q
theorem Yabw{k:Nat}(hc:X.calm=true)(h:PGs X es t)(hn:(assignEach es X.env).length=n:=by rfl)(hst:(assignEach es X.env).findIdx? (·.1)=none:=by rfl):PG X (.Tuple es k pos) (gTup X.K n t):=by
 intro pins s σ H v u Q I r hw;obtain⟨a,xs,e1,hq,hl,hw⟩:=hw;subst e1;cases r;obtain⟨its,rv,ht,hz⟩:=I.tuple hq;refine assign_Tuple_tuple (I.ok.hd hc) ht (by simp[hn,<-hl,rv.length]) hst λh' hx=>?_;have I1:Inv X pins σ H { s with heap:=h' }:=I.kept (t':=s.toks) λb o e=>hx b o (qm (ql e)) e;exact h pins _ σ H xs _ Q I1 (by grind) hw
def gSub(to ti:TE)(t:TSet):TG:=λv σ H Q=>to σ H λo H1=>ti σ H1 λi H2=>t o i v H2 λH3=>Q σ H3
def y7e(ho:PE X o to)(hi:PE X i ti)(hs:PSet X t)(ha:∀v,assign (.Subscript o i pos) X.env v=(do
  let ov <-holding [v] (eval o X.env)
  let iv <-holding [v,ov] (eval i X.env)
  standAt pos
  holding [v,ov,iv] (setItem ov iv v)
  release [v,ov,iv] []):=by intro _;rfl):PG X (.Subscript o i pos) (gSub to ti t):=by
 intro pins s σ H v u Q I r h;rw[ha];refine wa (wc (thn (ho pins s σ H _ I h) λov s1 hx_=>?_));obtain⟨x,H1,I1,r1,q1⟩:=hx_;refine wa (wc (thn (hi pins s1 σ H1 _ I1 q1) λiv s2 hx_=>?_));obtain⟨y,H2,I2,r2,q2⟩:=hx_;refine wa (wpAny_standAt (wa (wc (thn (hs pins s2 σ H2 x y v ov iv u _ I2 r1 r2 r q2) λ_ s3 hx_=>?_))));obtain⟨H3,I3,q3⟩:=hx_;exact wpAny_release ⟨σ,H3,I3,q3⟩
def tAsg(te:TE)(g:TG):TS:=λD σ H=>te σ H λx H1=>g x σ H1 D.nx
def y7f(he:PE X e te)(hg:PG X tg g)(hs:swapsWithSole [tg] e pos.line X.env=pure false:=by rfl)(hw:swappedStores [tg] e X.env=pure none:=by rfl)(h1:(assignEach [tg] X.env).map (·.2)=[assign tg X.env]:=by rfl):PS X (.Assign [tg] e pos) (tAsg te g):=by
 intro pins s σ H D I h;refine wpAny_Assign_stores (thn (he pins s σ H _ I h) λv s1 hx_=>?_) hs hw;obtain⟨x,H1,I1,r1,q1⟩:=hx_;rw[h1];exact thn (hg pins s1 σ H1 x v _ I1 r1 q1) λ_ s2 q=>q
def Yoe(hN:X.N.Nodup)(hi:X.N[i]?=some x)(hx:Loc X.env.scope x)(he:PE X e te)(hs:swapsWith e (some (.Name x pos')) pos.line X.env=pure false:=by rfl)(hf:X.fn x=true\/X.env.scope.names.lookup x=some .local:=by trivial):
 PS X (.Assign [.Name x pos'] e pos) (tAsg te (Yxx i)):=by
 intro pins s σ H D I h;refine wpAny_Assign_Name (thn (he pins s σ H _ I h) λv s1 hx_=>?_) hs;obtain⟨y,H1,I1,r1,q1⟩:=hx_;exact Ypf I1 hN hi hx r1 (λs2 I2=>⟨_,H1,I2,q1⟩) hf
def tAug(i:Nat)(te:TE)(ti:TIp):TS:=λD σ H=>∃x,σ[i]?=some (some x)/\te σ H λy H1=>ti x y H1 λz H2=>D.nx (σ.set i (some z)) H2
theorem Yabx(hN:X.N.Nodup)(hi:X.N[i]?=some x)(hx:Loc X.env.scope x)(he:PE X e te)(ho:PIp X op ti)(hf:X.fn x=true\/X.env.scope.names.lookup x=some .local:=by trivial):
 PS X (.AugAssign (.Name x pos') op e pos) (tAug i te ti):=by
 intro pins s σ H D I h;obtain⟨v,e1,h⟩:=h;obtain⟨m,hn,hl⟩:=I.loc
 have vis:Vis X.env.scope x:=by rcases hx with k|k;exact .inl k;exact .inr (.inl k)
 obtain⟨u,r,l⟩:=hl i x v hi e1 vis;refine wpAny_AugAssign_Name ?_
 have go:wpAny (mZ X.prog X.w) X.A (eval e X.env) (λw s₂=>wpAny (mZ X.prog X.w) X.A (inplaceOp op u w) (λr s₃=>wpAny (mZ X.prog X.w) X.A (storeName X.env x r) (λ_=>SP X pins D .next) X.xe s₃) X.xe s₂) X.xe s:=by
  refine thn (he pins s σ H _ I h) λw s1 hx_=>?_;obtain⟨y,H1,I1,r1,q1⟩:=hx_;refine thn (ho pins s1 σ H1 v y u w _ I1 r r1 q1) λz s2 hx_=>?_;obtain⟨zv,H2,I2,r2,q2⟩:=hx_;exact Ypf I2 hN hi hx r2 (λs3 I3=>⟨_,H2,I3,q2⟩) hf
 rcases l with⟨hk,hm⟩|⟨hk,c,hc,hcell⟩
 ·exact wpAny_loadName_local I.ok.kind hk hn hm go
 ·rcases hk with hk|hk
  ·exact wpAny_loadName_cell I.ok.kind hk hc hcell go
  ·rcases hx with k|k
   ·have:X.env.scope.names.lookup x=some .free:=hk
    grind
   ·have:X.env.scope.names.lookup x=some .free:=hk
    grind
def ipI(f:Int->Int->Int):TIp:=λx y H Q=>∃i j,x=.int i/\y=.int j/\Q (.int (f i j)) H
def Yaby:PIp X .Add (ipI λi j=>i+j):=by
 intro pins s σ H x y v u Q I r1 r2 h;obtain⟨i,j,e1,e2,q⟩:=h;subst e1;subst e2;obtain⟨t,rfl⟩:=r1;obtain⟨t',rfl⟩:=r2;exact iadd_int ⟨.int _,H,I.tok _,⟨_,rfl⟩,q⟩
def Yabz(c:TT)(tb:TS):TS:=λD σ H=>∃W:Nat->St->Hp->Prop,(∃m,W m σ H)/\∀m σ H,W m σ H->
 c σ H λb H1=>if b=true then ∃N:St->Hp->Prop,(∀σ' H',N σ' H'->∃m',m'<m/\W m' σ' H')/\tb { D with nx:=N,ct:=N,bk:=D.nx } σ H1 else D.nx σ H1
theorem y4o(hp:PassesOwn (mZ X.prog X.w) X.A X.env X.xe)(hc:PT X c tc)(hb:PSs X body tb):PS X (.While c body [] pos) (Yabz tc tb):=by
 intro pins s σ H D I h;obtain⟨W,⟨m0,w0⟩,turn⟩:=h;refine wpAny_While (codeAny_whileLoop (λn s'=>∃σ' H',Inv X pins σ' H' s'/\W n σ' H') ?_ m0 ⟨σ,H,I,w0⟩);rintro n s1 ⟨σ1,H1,I1,w1⟩;refine wpAny_passesOwn hp (thn (hc pins s1 σ1 H1 _ I1 (turn n σ1 H1 w1)) λb s2 hx_=>?_);obtain⟨H2,I2,q2⟩:=hx_
 cases b with
 | true=>
   obtain⟨N,hN,q2⟩:=q2;rw[if_pos rfl];refine wpAny_passesOwn hp (thn (hb pins s2 σ1 H2 _ I2 q2) λf s3 q3=>?_)
   cases f with
   | next=>
     obtain⟨σ3,H3,I3,n3⟩:=q3;grind
   | cont=>
     obtain⟨σ3,H3,I3,n3⟩:=q3;grind
   | brk=>exact q3
   | ret v=>exact q3
 | false=>
   rw[if_neg qi];exact wpAny_execs_nil ⟨σ1,H2,I2,q2⟩
end
structure It where
 go:Nat->Hp->Prop
 yld:Nat->Hp->V->Hp->Prop
 stop:Nat->Hp->Prop
def FpOk(X:Cx)(pins:AC)(H:Hp)(b:Addr):Prop:=
 H b=none/\b≠X.env.locals/\b∉X.fs/\(b∈X.ex\/X.s₀.heap.objs.size<=b)/\(∀x c,X.env.cells.lookup x=some c->c≠b)/\∀p∈X.pn++pins,p.1≠b
def Inv.fpOk{σ:St}{b:Addr}(I:Inv X pins σ H s)(hb:(~~~s)<=b)(hn:H' b=none):FpOk X pins H' b:=by
 refine⟨hn,Nat.ne_of_gt (Qc I.lt hb),I.nofs hb,.inr (Qh I.sz hb),λx c e z=>?_,λp hp z=>?_⟩
 ·obtain⟨v,q⟩:=I.cell x c e
  exact absurd (Qc q.lt (by rw[z];exact hb)) (Nat.lt_irrefl _)
 ·exact absurd (Qc (ql (I.pin p hp).1) (by rw[z];exact hb)) (Nat.lt_irrefl _)
structure Turn(P:P7)(w:World)(K:W7)(tg:Expr)(J:It)(fp:List Addr)(it:Addr)(tn:Nat->Heap->Prop):Prop where
 mem:it∈fp
 obj:∀i h,tn i h->∀b∈fp,∃o,h.get? b=some o/\∀v,o.data≠.cell v
 keep:∀i h h',tn i h->(∀b∈fp,∀o,h.get? b=some o->h'.get? b=some o)->tn i h'
 item:∀(X:Cx),X.prog=P->X.w=w->X.K=K->X.calm=true->∀(i:Nat) (pins:AC) (s:Shared) (σ:St) (H:Hp) (E:AB),Inv X pins σ H s->(∀b∈fp,FpOk X pins H b)->tn i s.heap->J.go i H->
  wpAny (mZ P w) X.A (pyNext (.ref it)) (λr s1=>∃u,r=some u/\
   wpAny (mZ P w) X.A (letOwnedTupleGo tg (.ref it) u) (λ_ s2=>∃x H',Inv X pins σ H' s2/\RelV x u/\J.yld i H x H'/\tn (i+1) s2.heap/\∀b∈fp,H' b=none) E s1) E s
 done:∀(X:Cx),X.prog=P->X.w=w->X.K=K->X.calm=true->∀(i:Nat) (pins:AC) (s:Shared) (σ:St) (H:Hp) (E:AB),Inv X pins σ H s->(∀b∈fp,FpOk X pins H b)->tn i s.heap->J.stop i H->
  wpAny (mZ P w) X.A (pyNext (.ref it)) (λr s1=>r=none/\Inv X pins σ H s1) E s
 self:∀(A:Around) (i:Nat) (s:Shared) (Q:AB) (E:AB),tn i s.heap->Q (.ref it) s->wpAny (mZ P w) A (pyIter (.ref it)) Q E s
abbrev TI:=St->Hp->(It->Hp->Prop)->Prop
def PIE(X:Cx)(pins:AC)(σ:St)(tg:Expr)(R:It->Hp->Prop)(itv:Value)(s2:Shared):Prop:=
 ∃(it:Addr) (fp:List Addr) (tn:Nat->Heap->Prop) (J:It) (H':Hp),itv=.ref it/\Inv X pins σ H' s2/\Turn X.prog X.w X.K tg J fp it tn/\tn 0 s2.heap/\(∀b∈fp,FpOk X pins H' b)/\R J H'
def PI(X:Cx)(tg iter:Expr)(wi:TI):Prop:=
 ∀(pins:AC) (s:Shared) (σ:St) (H:Hp) (R:It->Hp->Prop),Inv X pins σ H s->wi σ H R->
  wpAny (mZ X.prog X.w) X.A (eval iter X.env) (λv s1=>wpAny (mZ X.prog X.w) X.A (pyIter v) (PIE X pins σ tg R) X.xe s1) X.xe s
theorem y4p(ho:s.heap.get? it=some o)(hc:o.cls=.type n)(hd:o.data=.fields vs)(hn:["enumerate","zip","dict_itemiterator","dict_reverseitemiterator","odict_iterator","itertools.zip_longest","itertools.pairwise"].contains n=false)(hQ:Q () s):wpAny M A (letOwnedTupleGo tg (.ref it) u) Q E s:=by
 unfold letOwnedTupleGo
 cases tg<;>first
  | exact wb hQ
  | (cases u<;>first
   | exact wb hQ
   | (refine wa (wpAny_load ho ?_)
      rw[hc,hd];show wpAny M A (if (["enumerate","zip","dict_itemiterator","dict_reverseitemiterator","odict_iterator","itertools.zip_longest","itertools.pairwise"].contains n&&vs[0]?==some (rawInt _))=true then _ else _) Q E s;rw[if_neg (by grind)]
      exact wb hQ))
def Itl(K:W7)(a:Addr):It:=
 ⟨λi H=>∃xs x,SqL K H a xs/\xs[i]?=some x,λi H x H'=>H'=H/\∀xs,SqL K H a xs->xs[i]?=some x,λi H=>∃xs,SqL K H a xs/\xs.length<=i⟩
def Itt(K:W7)(a:Addr):It:=
 ⟨λi H=>∃xs x,SqT K H a xs/\xs[i]?=some x,λi H x H'=>H'=H/\∀xs,SqT K H a xs->xs[i]?=some x,λi H=>∃xs,SqT K H a xs/\xs.length<=i⟩
def Itr(lo:Int)(n:Nat):It:=⟨λi _=>i<n,λi H x H'=>H'=H/\x=.int (lo+i),λi _=>n<=i⟩
theorem Yzt{K:W7}(a it:Addr):Turn P w K tg (Itl K a) [it] it (λi h=>h.IsListIter it a i) where
 mem:=by simp
 obj:=λi h st b hb=>by
  have e:b=it:=by grind
  subst e;obtain⟨o,e,c,d⟩:=st;grind
 keep:=λi h h' st k=>st.at λo e=>k it (by simp) o e
 item:=by
  intro X hP hw hK hc i pins s σ H E I hf st hg;subst hP hw hK;obtain⟨xs,x,hq,hx⟩:=hg;obtain⟨its,rv,p,hz⟩:=I.list hq;obtain⟨u,hu,ru⟩:=rv.get hx;obtain⟨f0,f1,f2,f3,f4,f5⟩:=hf it (by simp);refine wpAny_pyNext_list_item st p.isList (x:=u) (by grind) λh' st' sb=>?_;have I1:Inv X pins σ H { s with heap:=h' }:=I.turned (t':=s.toks) (λb o hb e=>(sb.2 b hb).trans e) f0 f1 f3 f4 f5;obtain⟨o,e,c,d⟩:=id st';exact⟨u,rfl,y4p (s:={ s with heap:=h' }) e c d (by decide) ⟨x,H,I1,ru,⟨rfl,λys hy=>by rw[I.list_inj hy hq];exact hx⟩,st',λb hb=>(hf b hb).1⟩⟩
 done:=by
  intro X hP hw hK hc i pins s σ H E I hf st hg;subst hP hw hK;obtain⟨xs,hq,hx⟩:=hg;obtain⟨its,rv,p,hz⟩:=I.list hq;obtain⟨f0,f1,f2,f3,f4,f5⟩:=hf it (by simp);have hl:=rv.length
  exact wpAny_pyNext_list_end (I.ok.hd hc) st p.isList (by simp;lia) λh' eb=>⟨rfl,I.turned (t':=s.toks) (λb o hb e=>eb b o hb e) f0 f1 f3 f4 f5⟩
 self:=λ_ _ _ _ _ st h=>wpAny_pyIter_listiter st h
theorem Yxy{K:W7}(a it:Addr):Turn P w K tg (Itt K a) [it] it (λi h=>h.IsTupleIter it a i) where
 mem:=by simp
 obj:=λi h st b hb=>by
  have e:b=it:=by grind
  subst e;obtain⟨o,e,c,d⟩:=st;grind
 keep:=λi h h' st k=>st.at λo e=>k it (by simp) o e
 item:=by
  intro X hP hw hK hc i pins s σ H E I hf st hg;subst hP hw hK;obtain⟨xs,x,hq,hx⟩:=hg;obtain⟨its,rv,p,hz⟩:=I.tuple hq;obtain⟨u,hu,ru⟩:=rv.get hx;obtain⟨f0,f1,f2,f3,f4,f5⟩:=hf it (by simp);refine wpAny_pyNext_tuple_item st (show s.heap.IsTuple a its.toArray from p) (x:=u) (by grind) λh' st' sb=>?_;have I1:Inv X pins σ H { s with heap:=h' }:=I.turned (t':=s.toks) (λb o hb e=>(sb.2 b hb).trans e) f0 f1 f3 f4 f5;obtain⟨o,e,c,d⟩:=id st';exact⟨u,rfl,y4p (s:={ s with heap:=h' }) e c d (by decide) ⟨x,H,I1,ru,⟨rfl,λys hy=>by rw[I.tuple_inj hy hq];exact hx⟩,st',λb hb=>(hf b hb).1⟩⟩
 done:=by
  intro X hP hw hK hc i pins s σ H E I hf st hg;subst hP hw hK;obtain⟨xs,hq,hx⟩:=hg;obtain⟨its,rv,p,hz⟩:=I.tuple hq;obtain⟨f0,f1,f2,f3,f4,f5⟩:=hf it (by simp);have hl:=rv.length
  exact wpAny_pyNext_tuple_end (I.ok.hd hc) st (show s.heap.IsTuple a its.toArray from p) (by simp;lia) λh' eb=>⟨rfl,I.turned (t':=s.toks) (λb o hb e=>eb b o hb e) f0 f1 f3 f4 f5⟩
 self:=λ_ _ _ _ _ st h=>wpAny_pyIter_tupleiter st h
theorem Yxz{K:W7}(it:Addr)(lo:Int)(n:Nat):Turn P w K tg (Itr lo n) [it] it (λi h=>IsRangeIter h it (lo+(i:Nat)*1) ((n:Int)-(i:Nat)) 1) where
 mem:=by simp
 obj:=λi h st b hb=>by
  grind
 keep:=λi h h' st k=>k it (by simp) _ st
 item:=by
  intro X hP hw hK hc i pins s σ H E I hf st hg;subst hP hw hK;obtain⟨f0,f1,f2,f3,f4,f5⟩:=hf it (by simp);have W:=Walks.range (prog:=X.prog) (w:=X.w) (I.ok.hd hc) it lo 1 n;refine W.item i s _ _ hg st λv h' tk hv st' kk=>?_;obtain⟨t,rfl⟩:=hv;have I1:Inv X pins σ H { s with heap:=h',toks:=tk }:=I.turned (λb o hb e=>kk b o (by grind) e) f0 f1 f3 f4 f5;refine⟨_,rfl,y4p (s:={ s with heap:=h',toks:=tk }) (n:="range_iterator") st' rfl rfl (by decide) ⟨.int (lo+i),H,I1,⟨t,?_⟩,⟨rfl,rfl⟩,st',λb hb=>(hf b hb).1⟩⟩;grind
 done:=by
  intro X hP hw hK hc i pins s σ H E I hf st hg;subst hP hw hK;obtain⟨f0,f1,f2,f3,f4,f5⟩:=hf it (by simp)
  exact wpAny_pyNext_range_end (I.ok.hd hc) st (by have:n<=i:=hg;lia) λh' eb=>⟨rfl,I.turned (t':=s.toks) (λb o hb e=>eb b o hb e) f0 f1 f3 f4 f5⟩
 self:=λ_ _ _ _ _ st h=>wpAny_pyIter_rangeiter st h
section
variable {X:Cx}{tg:Expr}
theorem Ywb{σ:St}{lo hi:Int}(I:Inv X pins σ H s)(h1:-(2^62)<=lo)(h2:lo<2^62)(h3:-(2^62)<=hi)(h4:hi<2^62)(q:R (Itr lo (hi-lo).toNat) H):wpAny (mZ X.prog X.w) X.A (pyIter (.ref (~~~s))) (PIE X pins σ tg R) E { s with heap:=s.heap.push { cls:=.type "range",data:=.fields #[.int lo t,.int hi u,.int 1 v] },toks:=tk }:=by
 refine wpAny_pyIter_range (IsRange.new ..) (small_one h1 h2 h3 h4) ?_;have I1:Inv X pins σ H { s with heap:=s.heap.push { cls:=.type "range",data:=.fields #[.int lo t,.int hi u,.int 1 v] },toks:=tk }:=I.kept λb o e=>qe _ e
 refine⟨(s.heap.push { cls:=.type "range",data:=.fields #[.int lo t,.int hi u,.int 1 v] }).objs.size,[(s.heap.push { cls:=.type "range",data:=.fields #[.int lo t,.int hi u,.int 1 v] }).objs.size],_,_,H,rfl,
  I1.kept (t':=tk) λb o e=>qe _ e,Yxz _ lo (hi-lo).toNat,?_,λb hb=>?_,q⟩
 ·have e1:lo+((0:Nat):Int)*1=lo:=by simp
  have e2:(((hi-lo).toNat:Nat):Int)-((0:Nat):Int)=Builtin.Range.rangeSize lo hi 1:=by rw[rangeSize_one];split<;>lia
  show IsRangeIter _ _ (lo+((0:Nat):Int)*1) ((((hi-lo).toNat:Nat):Int)-((0:Nat):Int)) 1;rw[e1,e2];exact qp _ rfl
 ·have e:b=(s.heap.push { cls:=.type "range",data:=.fields #[.int lo t,.int hi u,.int 1 v] }).objs.size:=by simpa using hb
  subst e;exact I1.fpOk (qu _) (I1.hok.fresh (qu _))
def Yafx(ta:TA):TI:=λσ H R=>ta σ H λvs H1=>∃j:Int,vs=[.int j]/\-(2^62)<=j/\j<2^62/\R (Itr 0 j.toNat) H1
def Yafy(ta:TA):TI:=λσ H R=>ta σ H λvs H1=>∃i j:Int,vs=[.int i,.int j]/\(-(2^62)<=i/\i<2^62/\-(2^62)<=j/\j<2^62)/\R (Itr i (j-i).toNat) H1
theorem Yzu(hg:Gl X "range")(hm:X.mg "range"=none)(ha:PA X [a] ta)(hs:starEach [a] X.env=[(false,eval a X.env)]:=by rfl):PI X tg (.Call (.Name "range" p) [a] [] pos) (Yafx ta):=by
 intro pins s σ H R I h;refine Call_ (Ykg I hg hm boot_range (PyProof.Rows.callWith_type1 (thn (ha pos pins s σ H _ I h) λus s1 hx_=>?_) hs rfl));obtain⟨vs,H1,I1,r1,q1⟩:=hx_;obtain⟨j,e,q1,q2,q⟩:=q1;subst e
 cases r1 with
 | cons r rr=>
   cases rr;obtain⟨t,rfl⟩:=r;exact call_range_1 (Ywb I1 (by lia) (by lia) q1 q2 (by simpa using q))
def Yzv{p pos:Pos}(hg:Gl X "range")(hm:X.mg "range"=none)(ha:PA X [a,b] ta)(hs:starEach [a,b] X.env=[(false,eval a X.env),(false,eval b X.env)]:=by rfl)(hs2:starEach [b] X.env=[(false,eval b X.env)]:=by rfl):
 PI X tg (.Call (.Name "range" p) [a,b] [] pos) (Yafy ta):=by
 intro pins s σ H R I h;refine Call_ (Ykg I hg hm boot_range (PyProof.Rows.callWith_type1 (thn (ha pos pins s σ H _ I h) λus s1 ⟨vs,H1,I1,r1,q1⟩=>?_) (by rw[hs,hs2]) (by rw[hs2];rfl)));obtain⟨i,j,e,⟨q1,q2,q3,q4⟩,q⟩:=q1;subst e
 cases r1 with
 | cons r rr=>
   cases rr with
   | cons r' rr=>
     cases rr;obtain⟨t,rfl⟩:=r;obtain⟨t',rfl⟩:=r';exact call_range_2 (Ywb I1 q1 q2 q3 q4 q)
def tFor(wi:TI)(g:TG)(tb:TS):TS:=λD σ H=>wi σ H λJ H1=>∃W:Nat->Nat->St->Hp->Prop,(∃m,W 0 m σ H1)/\∀i m σ H,W i m σ H->
 (J.stop i H/\D.nx σ H)\/(J.go i H/\∃N:St->Hp->Prop,(∀σ' H',N σ' H'->∃m',m'<m/\W (i+1) m' σ' H')/\∀x H',J.yld i H x H'->g x σ H' λσ2 H2=>tb { D with nx:=N,ct:=N,bk:=D.nx } σ2 H2)
def Yrh(fp:List Addr)(h:Heap):AC:=fp.filterMap λb=>(h.get? b).map λo=>(b,o)
def Yg4(hb:b∈fp)(e:h.get? b=some o):(b,o)∈Yrh fp h:=List.mem_filterMap.mpr ⟨b,hb,by rw[e];rfl⟩
theorem Yzw(hp:p∈Yrh fp h):p.1∈fp/\h.get? p.1=some p.2:=by
 obtain⟨b,hb,e⟩:=List.mem_filterMap.mp hp
 cases q:h.get? b with
 | none=>grind
 | some o=>
   grind
theorem Inv.pinned{σ:St}(I:Inv X pins σ H s)(hf:∀b∈fp,FpOk X pins H b)(ho:∀b∈fp,∃o,s.heap.get? b=some o/\∀v,o.data≠.cell v):Inv X (pins++Yrh fp s.heap) σ H s:=
 I.pins_of λp hp=>(qv hp).elim (λz=>I.pin p (Qk _ z)) λz=>by
  obtain⟨hb,e⟩:=Yzw z;obtain⟨f0,f1,f2,_⟩:=hf p.1 hb;grind
def Inv.unpinned{σ:St}(I:Inv X (pins++pl) σ H s):Inv X pins σ H s:=I.pins_of λp hp=>I.pin p (Qk _ (List.mem_append_left _ hp))
def Yab0(hp:PassesOwn (mZ X.prog X.w) X.A X.env X.xe)(hc:X.calm=true)(hi:PI X tg iter wi)(hg:PG X tg g)(hb:PSs X body tb)(hs:∀x,foldedSetIterable iter X.env x=pure x:=by intro _;rfl):PS X (.For tg iter body [] pos) (tFor wi g tb):=by
 intro pins s σ H D I h;refine wpAny_For (thn (hi pins s σ H _ I h) λv s1 h1=>thn h1 λitv s2 h2=>?_) hs;obtain⟨it,fp,tn,J,H2,e,I2,T,st2,f2,W,⟨m0,w0⟩,turn⟩:=h2;subst e
 have stat:∀{H':Hp},(∀b∈fp,H' b=none)->∀b∈fp,FpOk X pins H' b:=λhn b hb=>⟨hn b hb,(f2 b hb).2⟩
 refine codeAny_forLoop_any (λn s'=>∃i σ' H',Inv X pins σ' H' s'/\tn i s'.heap/\(∀b∈fp,H' b=none)/\W i n σ' H') ?_ m0 ⟨0,σ,H2,I2,st2,λb hb=>(f2 b hb).1,w0⟩;rintro n s3 ⟨i,σ3,H3,I3,st3,fr3,w3⟩;rcases turn i n σ3 H3 w3 with⟨stop,qn⟩|⟨go,N,hN,step⟩
 ·refine wpAny_passesOwn hp (thn (T.done X rfl rfl rfl hc i pins s3 σ3 H3 X.xe I3 (stat fr3) st3 stop) λr s4 hx_=>?_)
  obtain⟨hr,I4⟩:=hx_;subst hr;exact wpAny_execs_nil ⟨σ3,H3,I4,qn⟩
 ·refine wpAny_passesOwn hp (thn (T.item X rfl rfl rfl hc i pins s3 σ3 H3 X.xe I3 (stat fr3) st3 go) λr s4 hx_=>?_)
  obtain⟨u,hr,h4⟩:=hx_;subst hr;refine wpAny_passesOwn hp (thn h4 λ_ s5 hx_=>?_);obtain⟨x,H5,I5,r5,y5,st5,fr5⟩:=hx_;have I5':=I5.pinned (stat fr5) (T.obj _ _ st5);refine wpAny_passesOwn hp (thn (hg _ s5 σ3 H5 x u _ I5' r5 (step x H5 y5)) λ_ s6 hx_=>?_);obtain⟨σ6,H6,I6,q6⟩:=hx_;refine wpAny_passesOwn hp (thn (hb _ s6 σ6 H6 _ I6 q6) λf s7 q7=>?_)
  have again:∀{σ7:St}{H7:Hp},Inv X (pins++Yrh fp s5.heap) σ7 H7 s7->N σ7 H7->∃m,m<n/\∃i σ' H',Inv X pins σ' H' s7/\tn i s7.heap/\(∀b∈fp,H' b=none)/\W i m σ' H':=λ{σ7 H7} I7 n7=>by
   obtain⟨m',hm,w7⟩:=hN σ7 H7 n7;refine⟨m',hm,i+1,σ7,H7,I7.unpinned,T.keep _ _ _ st5 λb hb o e=>(I7.pin (b,o) (Qk _ (Qk _ (Yg4 hb e)))).1,λb hb=>?_,w7⟩;obtain⟨o,e,d⟩:=T.obj _ _ st5 b hb;exact(I7.pin (b,o) (Qk _ (Qk _ (Yg4 hb e)))).2.1
  cases f with
  | next=>obtain⟨σ7,H7,I7,n7⟩:=q7;exact again I7 n7
  | cont=>obtain⟨σ7,H7,I7,n7⟩:=q7;exact again I7 n7
  | brk=>obtain⟨σ7,H7,I7,q7⟩:=q7;exact⟨σ7,H7,I7.unpinned,q7⟩
  | ret v=>obtain⟨x7,σ7,H7,I7,r7,q7⟩:=q7;exact⟨x7,σ7,H7,I7.unpinned,r7,q7⟩
end
abbrev R2:=V->V->Hp->VK->Prop
def OpR(X:Cx)(f:Value->Value->Sem Value)(r:R2):Prop:=
 ∀(pins:AC) (s:Shared) (σ:St) (H:Hp) (x y:V) (v u:Value) (Q:VK),Inv X pins σ H s->RelV x v->RelV y u->r x y H Q->
  wpAny (mZ X.prog X.w) X.A (f v u) (EP X pins σ Q) X.xe s
def UnR(X:Cx)(f:Value->Sem Value)(r:V->Hp->VK->Prop):Prop:=
 ∀(pins:AC) (s:Shared) (σ:St) (H:Hp) (x:V) (v:Value) (Q:VK),Inv X pins σ H s->RelV x v->r x H Q->
  wpAny (mZ X.prog X.w) X.A (f v) (EP X pins σ Q) X.xe s
def Ydq(X:Cx)(f:Value)(r:AQ->Hp->VK->Prop):Prop:=
 ∀(pins:AC) (s:Shared) (σ:St) (H:Hp) (xs:AQ) (us:AD) (Q:VK),Inv X pins σ H s->Vals xs us->r xs H Q->
  wpAny (mZ X.prog X.w) X.A (call f us) (EP X pins σ Q) X.xe s
def TruR(X:Cx)(r:V->Hp->(Bool->Hp->Prop)->Prop):Prop:=
 ∀(pins:AC) (s:Shared) (σ:St) (H:Hp) (x:V) (v:Value) (Q:Bool->Hp->Prop),Inv X pins σ H s->RelV x v->r x H Q->
  wpAny (mZ X.prog X.w) X.A (truthy v) (TP X pins σ Q) X.xe s
def tOp(r:R2)(ta tb:TE):TE:=λσ H Q=>ta σ H λx H1=>tb σ H1 λy H2=>r x y H2 Q
def tUn(r:V->Hp->VK->Prop)(ta:TE):TE:=λσ H Q=>ta σ H λx H1=>r x H1 Q
def rI(C:Int->Int->Prop)(g:Int->Int->V):R2:=λx y H Q=>∃i j,x=.int i/\y=.int j/\C i j/\Q (g i j) H
def rI0(g:Int->Int->V):R2:=λx y H Q=>∃i j,x=.int i/\y=.int j/\Q (g i j) H
def rU(g:Int->V):V->Hp->VK->Prop:=λx H Q=>∃i,x=.int i/\Q (g i) H
section
variable {X:Cx}{a b c:Expr}{ta tb tc:TE}{pos:Pos}
theorem binT(ha:PE X a ta)(hb:PE X b tb){σ:St}{R:V->V->Hp->Prop}(I:Inv X pins σ H s)(h:ta σ H λx H1=>tb σ H1 λy H2=>R x y H2){f:Value->Value->Sem Value}(hf:∀v u s2 x y H2,Inv X pins σ H2 s2->RelV x v->RelV y u->R x y H2->wpAny (mZ X.prog X.w) X.A (f v u) Q X.xe s2):
 wpAny (mZ X.prog X.w) X.A (eval a X.env) (λv s₁=>wpAny (mZ X.prog X.w) X.A (eval b X.env) (λu s₂=>wpAny (mZ X.prog X.w) X.A (f v u) Q X.xe s₂) X.xe s₁) X.xe s:=by
 refine thn (ha pins s σ H _ I h) λv s1 hx_=>?_;obtain⟨x,H1,I1,r1,q1⟩:=hx_;refine thn (hb pins s1 σ H1 _ I1 q1) λu s2 hx_=>?_;obtain⟨y,H2,I2,r2,q2⟩:=hx_;grind
def y4q(ho:OpR X (binaryOp op) r)(ha:PE X a ta)(hb:PE X b tb):PE X (.BinOp a op b pos) (tOp r ta tb):=by
 intro pins s σ H Q I h;exact wpAny_BinOp (binT ha hb I h λv u s2 x y H2 I2 rx ry q=>ho pins s2 σ H2 x y v u Q I2 rx ry q)
def Yafz(ho:UnR X (unaryOp op) r)(ha:PE X a ta):PE X (.UnaryOp op a pos) (tUn r ta):=by
 intro pins s σ H Q I h;refine UnaryOp_ (thn (ha pins s σ H _ I h) λv s1 hx_=>?_);obtain⟨x,H1,I1,r1,q1⟩:=hx_;exact ho pins s1 σ H1 x v Q I1 r1 q1
def opI{g:Int->Int->Int}(rule:∀(i j:Int) (t u:Tok) (s:Shared) (Q:AB) (E:AB),C i j->Q (.int (g i j) s.toks) { s with toks:=s.toks+1 }->wpAny (mZ X.prog X.w) X.A (f (.int i t) (.int j u)) Q E s):
 OpR X f (rI C λi j=>.int (g i j)):=by
 intro pins s σ H x y v u Q I rx ry h;obtain⟨i,j,rfl,rfl,hc,q⟩:=h;obtain⟨t,rfl⟩:=rx;obtain⟨t',rfl⟩:=ry;exact rule i j t t' s _ _ hc ⟨.int (g i j),H,I.tok _,⟨_,rfl⟩,q⟩
def opI0{g:Int->Int->Int}(rule:∀(i j:Int) (t u:Tok) (s:Shared) (Q:AB) (E:AB),Q (.int (g i j) s.toks) { s with toks:=s.toks+1 }->wpAny (mZ X.prog X.w) X.A (f (.int i t) (.int j u)) Q E s):
 OpR X f (rI0 λi j=>.int (g i j)):=by
 intro pins s σ H x y v u Q I rx ry h;obtain⟨i,j,rfl,rfl,q⟩:=h;obtain⟨t,rfl⟩:=rx;obtain⟨t',rfl⟩:=ry;exact rule i j t t' s _ _ ⟨.int (g i j),H,I.tok _,⟨_,rfl⟩,q⟩
def opB0{g:Int->Int->Bool}(rule:∀(i j:Int) (t u:Tok) (s:Shared) (Q:AB) (E:AB),Q (.bool (g i j)) s->wpAny (mZ X.prog X.w) X.A (f (.int i t) (.int j u)) Q E s):
 OpR X f (rI0 λi j=>.bl (g i j)):=by
 intro pins s σ H x y v u Q I rx ry h;obtain⟨i,j,rfl,rfl,q⟩:=h;obtain⟨t,rfl⟩:=rx;obtain⟨t',rfl⟩:=ry;exact rule i j t t' s _ _ ⟨.bl (g i j),H,I,rfl,q⟩
def CDiv(i j:Int):Prop:=0<j/\j<1073741824
def CMul(i j:Int):Prop:=(-(2^64)<i/\i<2^64)\/(-(2^64)<j/\j<2^64)
def CMul.ok(h:CMul i j):IntMulOk i j:=by
 rcases h with⟨h1,h2⟩|⟨h1,h2⟩
 ·exact .of_left (intBits_le_64 h1 h2)
 ·exact .of_right (intBits_le_64 h1 h2)
def Yab1:OpR X (binaryOp .Add) (rI0 λi j=>.int (i+j)):=opI0 λ_ _ _ _ _ _ _ q=>add_int q
def Yab2:OpR X (binaryOp .Sub) (rI0 λi j=>.int (i-j)):=opI0 λ_ _ _ _ _ _ _ q=>sub_int q
def Yab3:OpR X (binaryOp .Mult) (rI CMul λi j=>.int (i*j)):=opI λ_ _ _ _ _ _ _ hc q=>mul_int q hc.ok
theorem y8o:OpR X (binaryOp .FloorDiv) (rI CDiv λi j=>.int (i/j)):=opI λi j _ _ _ _ _ hc q=>by
 have h1:(0:Int)<j:=hc.1;have h2:j<1073741824:=hc.2;exact floordiv_int (by lia) (by grind) (.inl (PyProof.noPylong_small (by lia)))
theorem Yab4:OpR X (binaryOp .Mod) (rI (λ_ j=>0<j) λi j=>.int (i%j)):=opI λi j _ _ _ _ _ hc q=>by
 have h1:(0:Int)<j:=hc;exact mod_int' (by lia) (by grind)
theorem Yab5:OpR X (binaryOp .RShift) (rI (λ_ j=>0<=j) λi j=>.int (i/2^j.toNat)):=opI λi j _ _ _ _ _ hc q=>
 rshift_int hc (by grind)
def op_xor:OpR X (binaryOp .BitXor) (rI0 λi j=>.int (Builtin.bitXor i j)):=opI0 λ_ _ _ _ _ _ _ q=>xor_int q
def unI{g:Int->Int}(rule:∀(i:Int) (t:Tok) (s:Shared) (Q:AB) (E:AB),Q (.int (g i) s.toks) { s with toks:=s.toks+1 }->wpAny (mZ X.prog X.w) X.A (f (.int i t)) Q E s):
 UnR X f (rU λi=>.int (g i)):=by
 intro pins s σ H x v Q I rx h;obtain⟨i,rfl,q⟩:=h;obtain⟨t,rfl⟩:=rx;exact rule i t s _ _ ⟨.int (g i),H,I.tok _,⟨_,rfl⟩,q⟩
def Yab6:UnR X (unaryOp .USub) (rU λi=>.int (-i)):=unI λ_ _ _ _ _ q=>neg_int q
end
def scal:V->V->Bool
 | .non,.non=>true|.non,.int _=>true|.int _,.non=>true|.non,.bl _=>true|.bl _,.non=>true|.non,.str _=>true|.str _,.non=>true
 | .int _,.int _=>true|.bl _,.bl _=>true|.str _,.str _=>true|.byt _,.byt _=>true
 | .int _,.str _=>true|.str _,.int _=>true|.bl _,.str _=>true|.str _,.bl _=>true
 | _,_=>false
section
variable {X:Cx}{a b c:Expr}{ta tb tc:TE}{pos:Pos}
def y7g{σ:St}(I:Inv X pins σ H s)(q:Q (.bl k) H)(e:k=k'):EP X pins σ Q (.bool k') s:=by
 subst e;exact⟨.bl k,H,I,rfl,q⟩
def Yab7:OpR X (compareOp .Lt) (rI0 λi j=>.bl (decide (i<j))):=opB0 λ_ _ _ _ _ _ _ q=>lt_int q
def Yaf0:OpR X (compareOp .LtE) (rI0 λi j=>.bl (decide (i<=j))):=opB0 λ_ _ _ _ _ _ _ q=>le_int q
def Yab8:OpR X (compareOp .Is) (λx y H Q=>y=.non/\Q (.bl (decide (x=.non))) H):=by
 intro pins s σ H x y v u Q I rx ry h;obtain⟨rfl,q⟩:=h;cases ry;refine is_none_gen (y7g I q ?_)
 cases x<;>first
  | (cases rx;rfl)
  | (obtain⟨t,rfl⟩:=rx;rfl)
def Yzx:OpR X (compareOp .IsNot) (λx y H Q=>y=.non/\Q (.bl (!decide (x=.non))) H):=by
 intro pins s σ H x y v u Q I rx ry h;obtain⟨rfl,q⟩:=h;cases ry;refine isnot_none_gen (y7g I q ?_)
 cases x<;>first
  | (cases rx;rfl)
  | (obtain⟨t,rfl⟩:=rx;rfl)
theorem Ykh(b:Expr)(h:op≠.In:=by decide)(h2:op≠.NotIn:=by decide):behindInMarks op b=false:=by
 have e1:(op==CmpOp.In)=false:=by grind
 have e2:(op==CmpOp.NotIn)=false:=by grind
 cases b with
 | Set elts k p=>
   show((k==0)&&((op==CmpOp.In)||(op==CmpOp.NotIn))&&_)=false;grind
 | _=>rfl
def y8p(ho:OpR X (compareOp op) r)(ha:PE X a ta)(hb:PE X b tb)(hm:behindInMarks op b=false):PE X (.Compare a [op] [b] pos) (tOp r ta tb):=by
 intro pins s σ H Q I h;exact wpAny_Compare1 (binT ha hb I h λv u s2 x y H2 I2 rx ry q=>ho pins s2 σ H2 x y v u Q I2 rx ry q) hm
def Yab9(t:TE):TT:=λσ H Q=>t σ H λx H'=>∃k,x=.bl k/\Q k H'
def y8q(ho:OpR X (compareOp op) r)(ha:PE X a ta)(hb:PE X b tb)(hm:behindInMarks op b=false):PT X (.Compare a [op] [b] pos) (Yab9 (tOp r ta tb)):=by
 intro pins s σ H Q I h;refine wpAny_isTrue_Compare1 (thn (ha pins s σ H _ I h) λv s1 hx_=>?_) hm;obtain⟨x,H1,I1,r1,q1⟩:=hx_;refine thn (hb pins s1 σ H1 _ I1 q1) λu s2 hx_=>?_;obtain⟨y,H2,I2,r2,q2⟩:=hx_;refine thn (ho pins s2 σ H2 x y v u _ I2 r1 r2 q2) λc s3 hx_=>?_;obtain⟨z,H3,I3,r3,k,e,q3⟩:=hx_;subst e;cases r3;exact wpAny_truthy_bool ⟨H3,I3,q3⟩
def Yaca(r r':R2)(ta tb tc:TE):TE:=λσ H Q=>ta σ H λx H1=>tb σ H1 λy H2=>r x y H2 λz H3=>∃k,z=.bl k/\
 (if k=true then tc σ H3 λw' H4=>r' y w' H4 Q else Q (.bl false) H3)
def y4r(ho:OpR X (compareOp op) r)(ho':OpR X (compareOp op') r')(ha:PE X a ta)(hb:PE X b tb)(hc:PE X c tc)(hm:lastMarks [op,op'] [b,c]=false:=by with_unfolding_all rfl):PE X (.Compare a [op,op'] [b,c] pos) (Yaca r r' ta tb tc):=by
 intro pins s σ H Q I h;refine Compare_chain (thn (ha pins s σ H _ I h) λv s1 hx_=>?_) hm;obtain⟨x,H1,I1,r1,q1⟩:=hx_;refine chain_link (thn (hb pins s1 σ H1 _ I1 q1) λu s2 hx_=>?_);obtain⟨y,H2,I2,r2,q2⟩:=hx_;refine thn (ho pins s2 σ H2 x y v u _ I2 r1 r2 q2) λd s3 hx_=>?_;obtain⟨z,H3,I3,r3,k,e,q3⟩:=hx_;subst e;cases r3;refine wpAny_truthy_bool ?_
 cases k with
 | false=>exact ite_ff ⟨.bl false,H3,I3,rfl,q3⟩
 | true=>
   refine ite_tt (chain_last (thn (hc pins s3 σ H3 _ I3 q3) λw' s4 hx_=>?_));obtain⟨z',H4,I4,r4,q4⟩:=hx_;exact ho' pins s4 σ H4 y z' u w' Q I4 r2 r4 q4
def TruV(K:W7)(x:V)(H:Hp)(k:Bool):Prop:=
 match x with
 | .non=>k=false
 | .bl b=>k=b
 | .int i=>k=(i != 0)
 | .str y=>y.length<=sizeLine/\k=((y.length:Int)!=0)
 | .byt y=>y.size<=sizeLine/\k=((y.size:Int)!=0)
 | .ref p=>(∃xs,SqL K H p xs/\k=!xs.isEmpty)\/(∃xs,SqT K H p xs/\k=!xs.isEmpty)\/∃kvs,H p=some (.dK kvs)/\k=!kvs.isEmpty
 | _=>False
def Yx0{vs:List (κ×Value)}(r:KV kvs vs):(!vs.isEmpty)=!kvs.isEmpty:=by
 cases r<;>rfl
def Yof(r:Vals xs its):(!its.toArray.isEmpty)=!xs.isEmpty:=by
 cases r<;>simp
def Yri:(sizeLine:Nat)<2^63:=by rw[ji];decide
theorem Yacb:TruR X (λx H Q=>∃k,TruV X.K x H k/\Q k H):=by
 intro pins s σ H x v Q I rx h;obtain⟨k,e,q⟩:=h;have hl:=Yri;have hs:sizeLine=16777216:=ji
 cases x with
 | non=>
   cases rx;have e':k=false:=e;subst e';exact truthy_none ⟨H,I,q⟩
 | bl b=>
   cases rx;have e':k=b:=e;subst e';exact wpAny_truthy_bool ⟨H,I,q⟩
 | int i=>
   obtain⟨t,rfl⟩:=rx;have e':k=(i != 0):=e;subst e';exact PySem.P.truthy_int ⟨H,I,q⟩
 | str y=>
   obtain⟨t,rfl⟩:=rx;obtain⟨hy,e'⟩:y.length<=sizeLine/\k=((y.length:Int)!=0):=e;subst e';exact PySem.P.truthy_str (by lia) ⟨H,I.tok _,q⟩
 | byt y=>
   obtain⟨t,rfl⟩:=rx;obtain⟨hy,e'⟩:y.size<=sizeLine/\k=((y.size:Int)!=0):=e;subst e';exact W.truthy_bytes (by lia) ⟨H,I.tok _,q⟩
 | ref p=>
   cases rx;have e':(∃xs,SqL X.K H p xs/\k=!xs.isEmpty)\/(∃xs,SqT X.K H p xs/\k=!xs.isEmpty)\/∃kvs,H p=some (.dK kvs)/\k=!kvs.isEmpty:=e;rcases e' with⟨xs,hx,e'⟩|⟨xs,hx,e'⟩|⟨kvs,hx,e'⟩
   ·subst e'
    obtain⟨its,r,pl,hz⟩:=I.list hx;have hlen:=r.length;exact wpAny_truthy_list pl.isList (by grind) ⟨H,I.tok _,by rw[Yof r];exact q⟩
   ·subst e'
    obtain⟨its,r,pl,hz⟩:=I.tuple hx;have hlen:=r.length;exact truthy_tuple pl (by grind) ⟨H,I.tok _,by rw[Yof r];exact q⟩
   ·subst e'
    obtain⟨hz,hS,vs,r,m⟩:kvs.length<=sizeLine/\(p==sysModules)=false/\∃vs,KV kvs vs/\s.heap.DictOf (Yaj X.prog X.w) p vs:=I.hok p _ hx;have hlen:kvs.length=vs.length:=Paired.length r;exact wpAny_truthy_dict hS m (by lia) ⟨H,I.tok _,by rw[Yx0 r];exact q⟩
 | _=>exact(show False from e).elim
def y4s(ha:PE X a ta)(he:∀whole,isTrue a X.env whole=(do let v <-whole;standAt a.pos;holding [v] (truthy v))):
 PT X a (λσ H Q=>ta σ H λx H'=>∃k,TruV X.K x H' k/\Q k H'):=by
 intro pins s σ H Q I h;refine isTrue_plain (thn (ha pins s σ H _ I h) λv s1 hx_=>?_) (he _);obtain⟨x,H1,I1,r1,q1⟩:=hx_;exact Yacb pins s1 σ H1 x v Q I1 r1 q1
theorem Yhj(r:Vals [x] us):∃u,us=[u]/\RelV x u:=by
 cases r with
 | cons r1 r2=>cases r2;grind
theorem Yx1(r:Vals [x,y] us):∃u w',us=[u,w']/\RelV x u/\RelV y w':=by
 cases r with
 | cons r1 r2=>
   cases r2 with
   | cons r3 r4=>cases r4;grind
def Yzy(hc:X.calm=true):Ydq X (.builtin "max") (λxs H Q=>∃i j,xs=[.int i,.int j]/\Q (.int (if j > i then j else i)) H):=by
 intro pins s σ H xs us Q I r h;obtain⟨i,j,rfl,q⟩:=h;obtain⟨u,w',rfl,⟨t,rfl⟩,⟨t',rfl⟩⟩:=Yx1 r
 refine max_two_ints (I.ok.hd hc) λh' tk k=>⟨_,H,I.kept k,?_,q⟩
 by_cases hj:j > i
 ·rw[if_pos hj,if_pos hj];exact⟨_,rfl⟩
 ·rw[if_neg hj,if_neg hj];exact⟨_,rfl⟩
def Ylq(hc:X.calm=true):Ydq X (.builtin "min") (λxs H Q=>∃i j,xs=[.int i,.int j]/\Q (.int (if j<i then j else i)) H):=by
 intro pins s σ H xs us Q I r h;obtain⟨i,j,rfl,q⟩:=h;obtain⟨u,w',rfl,⟨t,rfl⟩,⟨t',rfl⟩⟩:=Yx1 r
 refine min_two_ints (I.ok.hd hc) λh' tk k=>⟨_,H,I.kept k,?_,q⟩
 by_cases hj:j<i
 ·rw[if_pos hj,if_pos hj];exact⟨_,rfl⟩
 ·rw[if_neg hj,if_neg hj];exact⟨_,rfl⟩
end
structure ObjM(h:Heap)(x dx C:Addr)(mA:AE):Prop where
 obj:h.get? x=some (W.instObj C dx)
 ns:h.Ns1 dx mA
 ne:dx≠x
theorem Yzz{h:Heap}(n:h.Ns1 dx mA):∃od,h.get? dx=some od/\∀name,W.lookIn name od=some (mA name):=by
 obtain⟨o,es,ep,ho,hd,hk,_,hm⟩:=n;refine⟨o,ho,λname=>?_⟩;have e:=hm name;unfold nsFind findBy at e;rw[<-Array.find?_toList]at e;unfold W.lookIn;rw[hd];dsimp only
 split
 ·grind
 ·rename_i q
  rw[q]at e
  have a:es.toList.any (·.refKey)=false:=by
   rw[List.any_eq_false];intro y hy;obtain⟨z,t,hkey⟩:=hk y (Array.mem_toList_iff.mp hy);simp[DictEntry.refKey,hkey]
  grind
def ObjM.look(I:ObjM h x dx C mA):∃od,W.InstAt h x (W.instObj C dx) C (some od)/\∀name,W.lookIn name od=some (mA name):=
 let ⟨od,ho,hl⟩:=Yzz I.ns
 ⟨od,⟨I.obj,rfl,rfl,ho⟩,hl⟩
def RelO.some_of(r:RelO (some v) o):∃u,o=some u/\RelV v u:=by
 cases o with
 | none=>exact(show False from r).elim
 | some u=>exact⟨u,rfl,r⟩
section
variable {P:P7}{w:World}{H H':Hp}{h h':Heap}{a C dx:Addr}{fs fs':List (Str×V)}
def y8r(hok:HOk P w H h)(e:H a=some (.ins C dx fs)):∃mA,ObjM h a dx C mA/\(∀f,RelO (fs.lookup f) (mA f))/\PySem.Within mA (fs.map (·.1))/\fs.length<=1000/\H dx=some (.own a):=by
 obtain⟨d,z,ne,ob,mA,n,r,q⟩:=(show ObjOk P w H h a (.ins C dx fs) from hok a _ e)
 exact⟨mA,⟨ob,n,ne⟩,r,q,z,d⟩
end
structure Cls(K:W7)(C:Addr):Prop where
 pg:W.plainGet K C Str.empty=true
 hd:W.hasDictIn K C=true
 po:W.plainOver K C=true
 sa:W.findIn K (.ref C) "__setattr__"=some (some (.builtin "object.__setattr__"))
def Cls.get{K:W7}(c:Cls K C)(f:Str):W.plainGet K C f=true:=c.pg
structure Con(K:W7)(C:Addr)(f:Str)(v:V)(u:Value):Prop where
 at_:W.findIn K (.ref C) f=some (some u)
 rel:RelV v u
 get:W.specialIn K u "__get__"=some none
 cp:W.copiedNames.contains f=false
structure Meth(K:W7)(C:Addr)(m:Str)(f:Addr):Prop where
 at_:W.findIn K (.ref C) m=some (some (.ref f))
 fn:W.isFn K (.ref f)=true
 kp:W.keepIn K (.ref f)=true
section
variable {X:Cx}{pins:AC}{σ:St}{H:Hp}{s:Shared}{A:Around}{E Q:AB}{c:Value}{b:Bool}
inductive TyOf (K:W7) (H:Hp):V->Value->Prop where
 | non:TyOf K H .non (.type "NoneType")
 | bl (x:Bool):TyOf K H (.bl x) (.type "bool")
 | int (i:Int):TyOf K H (.int i) (.type "int")
 | str (x:Str):TyOf K H (.str x) (.type "str")
 | flt (x:UInt64):TyOf K H (.flt x) (.type "float")
 | lst {a:Addr}{xs:AQ} (e:H a=some (.lst xs)):TyOf K H (.ref a) (.type "list")
 | frz {a:Addr}{o:Obj}{xs:AQ} (e:H a=some (.frz o (.lst xs))):TyOf K H (.ref a) (.type "list")
 | tup {a:Addr}{xs:AQ} (e:H a=some (.tup xs)):TyOf K H (.ref a) (.type "tuple")
 | dK {a:Addr}{kvs:List (Key×V)} (e:H a=some (.dK kvs)):TyOf K H (.ref a) (.type "dict")
 | dT {a:Addr}{kvs:List (List Key×V)} (e:H a=some (.dT kvs)):TyOf K H (.ref a) (.type "dict")
 | ins {a C dx:Addr}{fs:List (Str×V)} (e:H a=some (.ins C dx fs)) (cl:Cls K C) (ha:W.findIn K (.ref C) "__class__"=some (some (.builtin "object.__class__")))
  (hn:W.specialIn K (.builtin "object.__class__") "__get__"=some (some (.builtin "getset_descriptor.__get__"))) (htk:W.takesIn K (.builtin "object.__class__")=some true)
  (hm:W.mroIn K C (.type "object")=some true):TyOf K H (.ref a) (.ref C)
def Yz0(I:Inv X pins σ H s)(rx:RelV x u)(ty:TyOf X.K H x t)(e:W.kitOne X.K t c=some b)(h:∀tk,Q (.bool b) { s with toks:=tk }):
 wpAny (mZ X.prog X.w) A (call (.builtin "isinstance") [u,c]) Q E s:=by
 cases ty with
 | non=>cases (show u=Value.none from rx);exact W.kia_one W.kitx_none I.kIn True.intro e (λz=>nomatch z) h
 | bl y=>cases (show u=Value.bool y from rx);exact W.kia_one W.kitx_bool I.kIn True.intro e (λz=>nomatch z) h
 | int i=>obtain⟨t,q⟩:=(show ∃t,u=Value.int i t from rx);cases q;exact W.kia_one W.kitx_int I.kIn True.intro e (λz=>nomatch z) h
 | str y=>obtain⟨t,q⟩:=(show ∃t,u=Value.str y t from rx);cases q;exact W.kia_one W.kitx_str I.kIn True.intro e (λz=>nomatch z) h
 | flt y=>obtain⟨t,q⟩:=(show ∃t,u=Value.float y t from rx);cases q;exact W.kia_one W.kitx_float I.kIn True.intro e (λz=>nomatch z) h
 | @lst a xs ea=>
   cases (show u=Value.ref a from rx)
   obtain⟨_,_,n,_,h1⟩:=(show ObjOk X.prog X.w H s.heap a (.lst xs) from I.hok a _ ea)
   exact W.kia_one W.kitx_list I.kIn ⟨_,h1,rfl⟩ e (λz=>nomatch z) h
 | @frz a ob xs ea=>
   cases (show u=Value.ref a from rx)
   obtain⟨_,_,_,n,_,h1⟩:=(show ObjOk X.prog X.w H s.heap a (.frz ob (.lst xs)) from I.hok a _ ea)
   exact W.kia_one W.kitx_list I.kIn ⟨_,h1,rfl⟩ e (λz=>nomatch z) h
 | @tup a xs ea=>
   cases (show u=Value.ref a from rx)
   obtain⟨_,_,_,p⟩:=(show ObjOk X.prog X.w H s.heap a (.tup xs) from I.hok a _ ea)
   obtain⟨o,h1,h2,_⟩:=p;exact W.kia_one W.kitx_tuple I.kIn ⟨o,h1,h2⟩ e (λz=>nomatch z) h
 | @dK a kvs ea=>
   cases (show u=Value.ref a from rx)
   obtain⟨_,_,vs,_,p⟩:=(show ObjOk X.prog X.w H s.heap a (.dK kvs) from I.hok a _ ea)
   obtain⟨o,es,ep,h1,h2,_⟩:=p;exact W.kia_one W.kitx_dict I.kIn ⟨o,h1,h2.1⟩ e (λz=>nomatch z) h
 | @dT a kvs ea=>
   cases (show u=Value.ref a from rx)
   obtain⟨_,_,xs,_,o,es,ep,h1,h2,_⟩:=(show ObjOk X.prog X.w H s.heap a (.dT kvs) from I.hok a _ ea)
   exact W.kia_one W.kitx_dict I.kIn ⟨o,h1,h2.1⟩ e (λz=>nomatch z) h
 | @ins a C dx fs ea cl ha hn htk hm=>
   cases (show u=Value.ref a from rx);obtain⟨mA,O,_⟩:=y8r I.hok ea;obtain⟨od,J,_⟩:=O.look;exact W.kia_one (W.kitx_own (cl.get _) cl.hd ha hn htk hm) I.kIn J e (λz=>nomatch z) h
end
structure Room(k:Nat)(A:Around):Prop where
 hd:A.handled=none
 dp:A.depth+3*k+5<recursionLimit
 un:A.units+16*k+200<cLine
theorem Room.mono(r:Room k A)(h:j<=k):Room j A:=⟨r.hd,by have:=r.dp;lia,by have:=r.un;lia⟩
theorem Room.deeper(r:Room (k+1) A)(env:Env):Room k (A.deeper env):=
 ⟨r.hd,by have:=r.dp;show A.depth+1+3*k+5<_;lia,by have:=r.un;show A.units+3+16*k+200<_;lia⟩
theorem Room.depth(r:Room k A):A.depth<recursionLimit:=by have:=r.dp;lia
theorem Room.units(r:Room k A):A.units+64<cLine:=by have:=r.un;lia
def tNil:TA:=λ_ H Q=>Q [] H
def Yaf1(ta:TE)(tr:TA):TA:=λσ H Q=>ta σ H λx H1=>tr σ H1 λxs H2=>Q (x::xs) H2
section
variable {X:Cx}{e:Expr}{es:AM}{te:TE}{t:TA}{pos:Pos}
def Yki:PA X [] tNil:=λ_ _ _ _ H Q I h=>Calls.spliced_nil ⟨[],H,I,.nil,h⟩
def Yfj(ha:PE X e te)(hr:PA X es t)(hs:starEach (e::es) X.env=(false,eval e X.env)::starEach es X.env:=by rfl):PA X (e::es) (Yaf1 te t):=by
 intro pos pins s σ H Q I h;rw[hs];show wpAny _ _ (spliced ((false,eval e X.env)::backTo pos (starEach es X.env))) _ _ s;refine Calls.spliced_cons (thn (ha pins s σ H _ I h) λu s1 hx_=>?_);obtain⟨x,H1,I1,r1,q1⟩:=hx_;refine thn (hr pos pins s1 σ H1 _ I1 q1) λus s2 hx_=>?_;obtain⟨xs,H2,I2,r2,q2⟩:=hx_;exact⟨x::xs,H2,I2,.cons r1 r2,q2⟩
def tTup(t:TA):TE:=λσ H Q=>t σ H λxs H1=>xs.length<=sizeLine/\∀p,H1 p=none->Q (.ref p) (upd H1 p (.tup xs))
def tLst(t:TA):TE:=λσ H Q=>t σ H λxs H1=>xs.length<=sizeLine/\∀p,H1 p=none->Q (.ref p) (upd H1 p (.lst xs))
def Yacc{x1}(h:PA X es t):PE X (.Tuple es x1 pos) (tTup t):=by
 intro pins s σ H Q I hq;refine wpAny_Tuple_spliced (thn (h pos pins s σ H _ I hq) λus s1 ⟨xs,H1,I1,r,z,q⟩=>⟨by rw[<-r.length];exact z,?_⟩);have hf:H1 (~~~s1)=none:=I1.hok.fresh (qu _);refine⟨.ref (~~~s1),upd H1 (~~~s1) (.tup xs),I1.laid (t':=s1.toks) (λb u e=>qe _ e) (qu _) ?_,rfl,q _ hf⟩;exact⟨z,us,r,⟨_,qp _ rfl,rfl,_,rfl⟩⟩
def Yacd(h:PA X es t):PE X (.List es pos) (tLst t):=by
 intro pins s σ H Q I hq;refine wpAny_List_spliced (thn (h pos pins s σ H _ I hq) λus s1 ⟨xs,H1,I1,r,z,q⟩=>⟨by rw[<-r.length];exact z,?_⟩);have hf:H1 (~~~s1)=none:=I1.hok.fresh (qu _);refine⟨.ref (~~~s1),upd H1 (~~~s1) (.lst xs),I1.laid (t':=s1.toks) (λb u e=>qe _ e) (qu _) ?_,rfl,q _ hf⟩;exact⟨z,us,0,r,qp _ rfl⟩
end
abbrev Sp:=AQ->Hp->VK->XK->Prop
abbrev CXT:=List Env->Hp->Shared->XK->AB
structure Env0(P:P7)(w:World)(K:W7)(mg:AE)(base:Heap)(A:Around)(outer:List Env)(s:Shared)(H:Hp):Prop where
 frames:A.frames=some outer
 mod:Mod K mg base
 bs:∀b o,base.get? b=some o->s.heap.get? b=some o/\H b=none
 bsz:base.objs.size<= ~~~s
 funs:s.heap.FunFrames base outer
 frf:∀b∈frs outer,H b=none
 hok:HOk P w H s.heap
 bare:AllBare s.gens
def CE(outer:List Env)(P:P7)(w:World)(H:Hp)(s:Shared)(Q:VK)(u:Value)(s':Shared):Prop:=
 ∃v H',s'.os=s.os/\AllBare s'.gens/\Un (frs outer) [] H H' s.heap s'.heap/\HOk P w H' s'.heap/\RelV v u/\Q v H'
def CR(CX:CXT)(outer:List Env)(P:P7)(w:World)(H:Hp)(s:Shared)(Q:VK)(E:XK)(r:Result)(s':Shared):Prop:=
 match r with
 | .ok (.ret u)=>CE outer P w H s Q u s'
 | .ok _=>False
 | .error e=>CX outer H s E e s'
structure FnOk(P:P7)(w:World)(K:W7)(mg:AE)(base:Heap)(CX:CXT)(k:Nat)(f:Addr)(fd:FuncData)(ps:AL)(sp:Sp):Prop where
 len:∀vs H Q E,sp vs H Q E->vs.length=ps.length
 run:∀(A:Around) (outer:List Env) (s:Shared) (H:Hp) (args:Args) (us:AD) (vs:AQ) (Q:VK) (E:XK),Room k A->Env0 P w K mg base A outer s H->BindsTo s fd args (ps.zip us)->Vals vs us->sp vs H Q E->
  codeAny (mZ P w) A (.call (.ref f) args) (CR CX outer P w H s Q E) s
section
variable {X:Cx}{pins:AC}{σ:St}{H:Hp}{s s':Shared}
def Inv.env0(I:Inv X pins σ H s):Env0 X.prog X.w X.K X.mg X.base X.A X.stack s H:=
 ⟨I.ok.frames,I.ok.mod,I.bs,Qh I.ok.bsz I.sz,I.stack,I.stkFree,I.hok,I.bare⟩
def Inv.after(I:Inv X pins σ H s)(h:CE X.stack X.prog X.w H s Q u s'):EP X pins σ Q u s':=by
 obtain⟨v,H',os,bare,un,hok,r,q⟩:=h;obtain⟨hh,g,d,t,os'⟩:=s';obtain rfl:os'=s.os:=os;exact⟨v,H',I.call (h':=hh) (g':=g) (d':=d) (t':=t) (ch:=[]) un hok bare (λb z=>absurd z (by simp)),r,q⟩
end
def Yaf2(sp:Sp)(dvs:AQ)(E:XK)(t:TA):TE:=λσ H Q=>t σ H λvs H1=>sp (vs++dvs) H1 Q E
def Binds(K:W7)(fd:FuncData)(ps:AL)(ds:AD):Prop:=
 ∀(s:Shared) (us:AD),K.In s.heap->(us++ds).length=ps.length->BindsTo s fd ⟨us,[]⟩ (ps.zip (us++ds))
def Binds.all{K:W7}(h:∀us:AD,us.length=ps.length->bindArgs fd ⟨us,[]⟩=pure (ps.zip us)):Binds K fd ps []:=λs us _ hl=>by
 rw[ja]at hl ⊢;exact .of_eq (h us hl)
def Yz1(CX:CXT)(X:Cx)(E:XK):Prop:=∀(pins:AC) (σ:St) (H:Hp) (s:Shared) (e:Value) (s':Shared),Inv X pins σ H s->CX X.stack H s E e s'->X.xe e s'
section
variable {X:Cx}{CX:CXT}{k:Nat}{f C:Addr}{fd:FuncData}{ps:AL}{sp:Sp}{dvs:AQ}{ds:AD}{E:XK}{x m:Str}{p pos apos:Pos}{e o:Expr}{es:AM}{ta:TE}{t:TA}
def Yace{σ:St}(F:FnOk X.prog X.w X.K X.mg X.base CX k f fd ps sp)(hr:Room k X.A)(hb:Binds X.K fd ps ds)(hd:Vals dvs ds)(hx:Yz1 CX X E)(I:Inv X pins σ H s)(r:Vals vs us)(h:sp (vs++dvs) H Q E):wpAny (mZ X.prog X.w) X.A (call (.ref f) us) (EP X pins σ Q) X.xe s:=by
 have r2:Vals (vs++dvs) (us++ds):=r.append hd
 have hl:(us++ds).length=ps.length:=by rw[<-r2.length];exact F.len _ _ _ _ h
 refine wpAny_call (codeAny_mono (F.run X.A X.stack s H ⟨us,[]⟩ (us++ds) (vs++dvs) Q E hr I.env0 (hb s us I.kIn hl) r2 h) λr s' hq=>?_)
 cases r with
 | error e=>exact hx pins σ H s e s' I hq
 | ok fl=>
   cases fl with
   | ret u=>exact I.after hq
   | next=>exact False.elim hq
   | brk=>exact False.elim hq
   | cont=>exact False.elim hq
def Yz2(F:FnOk X.prog X.w X.K X.mg X.base CX k f fd ps sp)(hr:Room k X.A)(hg:Gl X x)(hm:X.mg x=some (.ref f))(hk:W.keepIn X.K (.ref f)=true)(hb:Binds X.K fd ps ds)(hd:Vals dvs ds)(hx:Yz1 CX X E)(ha:PA X (e::es) t)(hdb:Ndb x:=by decide)(he:starEach (e::es) X.env=(false,eval e X.env)::starEach es X.env:=by rfl)(hpl:(backTo pos (starEach es X.env)).any (·.1)=false:=by rfl):
 PE X (.Call (.Name x p) (e::es) [] pos) (Yaf2 sp dvs E t):=by
 intro pins s σ H Q I h;refine wpAny_Call_Name_kw (Yzs I hg hm ?_ hdb);refine W.callWith_K (h₀:=X.base) I.ok.mod.kin hk (thn (ha pos pins s σ H _ I h) λus s1 hx_=>?_) he hpl;obtain⟨vs,H1,I1,r,q⟩:=hx_;refine⟨I1.kIn,?_⟩;exact Yace F hr hb hd hx I1 r q
structure Mk(K:W7)(C f:Addr):Prop where
 makes:W.makesIn K C=true
 init:W.findIn K (.ref C) "__init__"=some (some (.ref f))
 fn:W.isFn K (.ref f)=true
 kp:W.keepIn K (.ref C)=true
end
section
variable {X:Cx}{CX:CXT}{k:Nat}{f C:Addr}{fd:FuncData}{ps ks:AL}{sp:Sp}{E:XK}{x m:Str}{p pos apos kpos:Pos}{e o:Expr}{es:AM}{kws:List Keyword}{te ta:TE}{t tk:TA}{nm:Option Str}
structure KBinds(K:W7)(fd:FuncData)(ps ks:AL)(g:AD->AD->AD)(gV:AQ->AQ->AQ):Prop where
 to:∀(s:Shared) (us ws:AD),K.In s.heap->(g us ws).length=ps.length->BindsTo s fd ⟨us,ks.zip ws⟩ (ps.zip (g us ws))
 rel:∀{vs:AQ}{us:AD}{zs:AQ}{ws:AD},Vals vs us->Vals zs ws->Vals (gV vs zs) (g us ws)
variable {g:AD->AD->AD}{gV:AQ->AQ->AQ}
end
structure aJc(N P:AL)(sc:Scope):Prop where
 kind:sc.kind=.function
 co:sc.isCoroutine=false
 gen:sc.isGenerator=false
 nd:N.Nodup
 pre:N.take P.length=P
 par:∀x∈P,sc.names.lookup x=some .local\/sc.names.lookup x=some .cell
 nofree:∀y∈sc.names,y.2≠.free
theorem Yrj{kindOf:Str->Option NameKind}:∀{binds:List (Str×Value)}{m:AE},(∀v,(x,v)∉binds)->bindL kindOf binds m x=m x
 | [],_,_=>rfl
 | (n,v)::r,m,h=>by
   unfold bindL;rw[Yrj λw hw=>h w (qg _ hw)]
   split
   ·grind
   ·rfl
theorem Yrk{kindOf:Str->Option NameKind}:∀{binds:List (Str×Value)}{m:AE},(∀v,(x,v)∉binds)->bindC kindOf binds m x=m x
 | [],_,_=>rfl
 | (n,v)::r,m,h=>by
   unfold bindC;rw[Yrk λw hw=>h w (qg _ hw)]
   split
   ·rfl
   grind
def Yrl{kindOf:Str->Option NameKind}:∀{P:AL}{vs:AD}{i:Nat}{m:AE},P.Nodup->P[i]?=some x->vs[i]?=some v->kindOf x=some .local->
 bindL kindOf (P.zip vs) m x=some v
 | [],_,_,_,_,h,_,_=>by simp at h
 | _::_,[],_,_,_,_,h,_=>by simp at h
 | p::P,w::vs,0,m,nd,h1,h2,hk=>by
   simp at h1 h2;subst h1;subst h2;show bindL kindOf ((p,w)::P.zip vs) m p=_;unfold bindL;rw[Yrj λv hv=>(List.nodup_cons.mp nd).1 (List.of_mem_zip hv).1,if_pos hk];simp
 | p::P,w::vs,i+1,m,nd,h1,h2,hk=>by
   show bindL kindOf ((p,w)::P.zip vs) m x=_;unfold bindL;exact Yrl (i:=i) (List.nodup_cons.mp nd).2 (by simpa using h1) (by simpa using h2) hk
theorem Yrm{kindOf:Str->Option NameKind}:∀{P:AL}{vs:AD}{i:Nat}{m:AE},P.Nodup->P[i]?=some x->vs[i]?=some v->kindOf x≠some .local->
 bindC kindOf (P.zip vs) m x=some v
 | [],_,_,_,_,h,_,_=>by simp at h
 | _::_,[],_,_,_,_,h,_=>by simp at h
 | p::P,w::vs,0,m,nd,h1,h2,hk=>by
   simp at h1 h2;subst h1;subst h2;show bindC kindOf ((p,w)::P.zip vs) m p=_;unfold bindC;rw[Yrk λv hv=>(List.nodup_cons.mp nd).1 (List.of_mem_zip hv).1,if_neg hk];simp
 | p::P,w::vs,i+1,m,nd,h1,h2,hk=>by
   show bindC kindOf ((p,w)::P.zip vs) m x=_;unfold bindC;exact Yrm (i:=i) (List.nodup_cons.mp nd).2 (by grind) (by grind) hk
def start(N:AL)(vs:AQ):St:=vs.map some++List.replicate (N.length-vs.length) none
def cxOf(CX:CXT)(P:P7)(w:World)(K:W7)(mg:AE)(base:Heap)(N:AL)(qual:Str)(scope:Scope)(f:Addr)(cd:Value)(A:Around)(outer:List Env)(s:Shared)(H:Hp)(E:XK):Cx where
 prog:=P
 w:=w
 K:=K
 mg:=mg
 base:=base
 A:=A.deeper (envOfC qual scope (~~~s) f cd)
 N:=N
 s₀:=s
 H₀:=H
 env:=envOfC qual scope (~~~s) f cd
 outer:=outer
 stack:=envOfC qual scope (~~~s) f cd::outer
 ex:=[]
 calm:=true
 fn:=λ_=>true
 pn:=[]
 xe:=λe s'=>wpAny (mZ P w) (A.deeper (envOfC qual scope (~~~s) f cd)) (leaving (envOfC qual scope (~~~s) f cd) e) (λ_ s''=>CX outer H s E e s'') (λe' s''=>CX outer H s E e' s'') s'
def Ywc{sc:Scope}(h:sc.names.lookup x=some .cell):∃c,(cellsFrom n sc.names []).lookup x=some c:=by
 have q:=PySem.W.cellsFrom_some sc.names n [] (.inl h);exact Option.isSome_iff_exists.mp q
theorem Yz3{K:W7}(S:aJc N ps scope)(hd:A.handled=none)(e0:Env0 P w K mg base A outer s H)(hl:vs.length=ps.length)(r:Vals vs us)(x:InCallC s (~~~s) (bindL (envOfC qual scope (~~~s) f cd).kindOf (ps.zip us) λ_=>none) (cellsFrom (~~~s+1) scope.names []) (bindC (envOfC qual scope (~~~s) f cd).kindOf (ps.zip us) λ_=>none) s1):
 Inv (cxOf CX P w K mg base N qual scope f cd A outer s H E) [] (start N vs) H s1:=by
 have hpl:ps.length<=N.length:=by have:=congrArg List.length S.pre;grind
 obtain⟨h1,tk,rfl,hk⟩:=x.done;have noA:∀b:Addr,b∉(cxOf CX P w K mg base N qual scope f cd A outer s H E).ex:=λb z=>absurd (show b∈([]:List Addr) from z) (by simp)
 refine⟨⟨e0.mod,S.kind,rfl,rfl,qu _,λy z c h1 h2=>?_,λy hy=>?_,λy c _ h=>?_,λ_=>hd,Around.frames_deeper e0.frames,.inr ⟨rfl,rfl⟩,λb z=>absurd z (noA b),e0.bs,e0.bsz,λb _ _=>noA b,λb z=>absurd z (noA b),e0.funs,e0.frf⟩,
  rfl,e0.bare,Un.kept hk,⟨_,x.toInCall.ns,λi y v h1 h2 h3=>?_⟩,λy c h=>⟨_,x.cell y c h⟩,e0.hok.fresh (qu _),λy c h=>?_,λp hp=>absurd (show p∈([]:AC) from hp) (by simp),e0.hok.kept hk,?_⟩
 ·exact name_of_addr x.apart (PySem.mem_of_lookup h1) (PySem.mem_of_lookup h2)
 ·have hy:scope.names.lookup y=some .cell\/scope.names.lookup y=some .free:=hy
  rcases hy with hy|hy
  ·exact Ywc hy
  ·exact absurd rfl (S.nofree _ (PySem.mem_of_lookup hy))
 ·exact Nat.le_of_lt (x.above y c (PySem.mem_of_lookup h))
 ·have hi:i<vs.length:=by
   unfold start at h2;grind
  have ha:vs[i]?=some v:=by
   unfold start at h2;grind
  obtain⟨u,hu,rv⟩:=r.get ha
  have hp:ps[i]?=some y:=by
   rw[<-S.pre,List.getElem?_take_of_lt (by lia)];exact h1
  have ndP:ps.Nodup:=by rw[<-S.pre];exact S.nd.sublist (List.take_sublist _ _)
  refine⟨u,rv,?_⟩;rcases S.par y (List.mem_of_getElem? hp)with k|k
  ·exact .inl ⟨k,Yrl ndP hp hu k⟩
  ·obtain⟨c,e⟩:=Ywc (n:= ~~~s+1) k
   refine .inr ⟨.inl k,c,e,?_⟩;have q:=x.cell y c e;rw[Yrm ndP hp hu (by show scope.names.lookup y≠_;grind)]at q;exact q
 ·exact e0.hok.fresh (Nat.le_of_lt (x.above y c (PySem.mem_of_lookup h)))
 ·unfold start
  show _=N.length;grind
theorem Yacf{K:W7}{dV kV doc pm cdv ct oc:Value}(lk:K.lookup f=some ⟨oc,od,.func (W.fnOf name qual params body scope dV kV doc pm an cdv ct),osl⟩)(hcd:W.codeIn K cdv qual=true)(S:aJc N ps scope)(len:∀vs H Q E,sp vs H Q E->vs.length=ps.length)(hbody:∀(A:Around) (outer:List Env) (s:Shared) (H:Hp) (vs:AQ) (Q:VK) (E:XK),Room k (A.deeper (envOfC qual scope (~~~s) f cdv))->sp vs H Q E->
   ∃t,PSs (cxOf CX P w K mg base N qual scope f cdv A outer s H E) body t/\t { nx:=λ_ H'=>Q .non H',rt:=Q } (start N vs) H):
  FnOk P w K mg base CX (k+1) f (W.fnOf name qual params body scope dV kV doc pm an cdv ct) ps sp:=by
  refine⟨len,λA outer s H args us vs Q E hr e0 hb r hsp=>?_⟩;have hl:=len _ _ _ _ hsp;have KX:K.In s.heap:=e0.mod.kin.keeps λb o e=>(e0.bs b o e).1;have lim:s.heap.NoLimit:=e0.mod.nolimit.keeps λb o e=>(e0.bs b o e).1
  have hkind:∀y∈ps.zip us,scope.names.lookup y.1=some .local\/(scope.names.lookup y.1=some .cell/\((cellsFrom (~~~s+1) scope.names []).lookup y.1).isSome=true):=λ⟨n,v⟩ hy=>by
   rcases S.par n (List.of_mem_zip hy).1 with q|q
   ·exact .inl q
   ·exact .inr ⟨q,PySem.W.cellsFrom_some _ _ _ (.inl q)⟩
  refine codeAny_call_function hr.depth (KX _ _ lk) rfl S.co S.gen rfl (W.codeRec_of KX hcd) (hb _ _ _ _ ?_);refine wpAny_newFunctionEnv_cells S.kind hkind λenv he s1 x=>?_;subst he;refine⟨lim.keeps x.toInCall.keep,codeAny_func ?_⟩;obtain⟨t,ht,hq⟩:=hbody A outer s H vs Q E (hr.deeper _) hsp;have I:Inv (cxOf CX P w K mg base N qual scope f cdv A outer s H E) [] (start N vs) H s1:=Yz3 S hr.hd e0 hl r x;refine w5 (ht [] s1 (start N vs) H _ I hq) (λfl s' hs=>?_) λe s' hs=>hs
  have fin:∀{σ':St}{H':Hp}{v:V}{u:Value},Inv (cxOf CX P w K mg base N qual scope f cdv A outer s H E) [] σ' H' s'->RelV v u->Q v H'->CE outer P w H s Q u s':=
   λ{σ' H' v u} J rv q=>⟨v,H',J.os,J.bare,J.base,J.hok,rv,q⟩
  cases fl with
  | ret u=>
    obtain⟨v,σ',H',J,rv,q⟩:=hs;exact fin J rv q
  | next=>
    obtain⟨σ',H',J,q⟩:=hs;exact fin (v:=V.non) (u:=Value.none) J rfl q
  | brk=>
    obtain⟨_,_,_,q⟩:=hs;grind
  | cont=>
    obtain⟨_,_,_,q⟩:=hs;grind
section
variable {X:Cx}{x:Str}{p pos:Pos}{e:Expr}{es:AM}{t:TA}{id T:String}{r:AQ->Hp->VK->Prop}
def tCB(r:AQ->Hp->VK->Prop)(t:TA):TE:=λσ H Q=>t σ H λvs H1=>r vs H1 Q
def Yk7(hc:Ydq X (.builtin id) r)(hg:Gl X x)(hm:X.mg x=none)(hv:bootBuiltins x=some (.builtin id))(ha:PA X (e::es) t)(hn:x≠"__name__":=by decide)(hdb:Ndb x:=by decide)(he:starEach (e::es) X.env=(false,eval e X.env)::starEach es X.env:=by rfl)(hpl:(backTo pos (starEach es X.env)).any (·.1)=false:=by rfl):PE X (.Call (.Name x p) (e::es) [] pos) (tCB r t):=by
 intro pins s σ H Q I h;refine wpAny_Call_Name_kw (Ykg I hg hm hv ?_ hn hdb);refine PyProof.Rows.callWith_builtin1 (thn (ha pos pins s σ H _ I h) λus s1 hx_=>?_) he hpl;obtain⟨vs,H1,I1,r1,q1⟩:=hx_;exact hc pins s1 σ H1 vs us Q I1 r1 q1
def Yd9(hc:Ydq X (.type T) r)(hg:Gl X x)(hm:X.mg x=none)(hv:bootBuiltins x=some (.type T))(ha:PA X (e::es) t)(hn:x≠"__name__":=by decide)(hdb:Ndb x:=by decide)(he:starEach (e::es) X.env=(false,eval e X.env)::starEach es X.env:=by rfl)(hpl:(backTo pos (starEach es X.env)).any (·.1)=false:=by rfl):PE X (.Call (.Name x p) (e::es) [] pos) (tCB r t):=by
 intro pins s σ H Q I h;refine wpAny_Call_Name_kw (Ykg I hg hm hv ?_ hn hdb);refine PyProof.Rows.callWith_type1 (thn (ha pos pins s σ H _ I h) λus s1 hx_=>?_) he hpl;obtain⟨vs,H1,I1,r1,q1⟩:=hx_;exact hc pins s1 σ H1 vs us Q I1 r1 q1
end
section
variable {κ:Type} [DecidableEq κ]
def valV(kvs:List (κ×V))(k:κ):Option V:=(kvs.find? λkv=>decide (kv.1=k)).map (·.2)
def putK(kvs:List (κ×V))(k:κ)(v:V):List (κ×V):=
 if (kvs.any λkv=>decide (kv.1=k))=true then kvs.map (λkv=>if kv.1=k then (kv.1,v)else kv)else kvs++[(k,v)]
def Yk8{k:κ}(e:p.1=k):valV (p::r) k=some p.2:=by simp[valV,List.find?_cons,e]
def Yk9{k:κ}(e:¬p.1=k):valV (p::r) k=valV r k:=by simp[valV,List.find?_cons,e]
theorem Ywd(k:κ):∀kvs:List (κ×V),(kvs.any λkv=>decide (kv.1=k))=(valV kvs k).isSome
 | []=>rfl
 | p::r=>by
   rw[List.any_cons];by_cases e:p.1=k
   ·simp only[Yk8 e,wn e,Bool.true_or,Option.isSome_some]
   ·rw[Yk9 e,wo e,Bool.false_or];exact Ywd k r
theorem Yh0(kvs:List (κ×V))(k:κ)(v:V):(putK kvs k v).length<=kvs.length+1:=by
 unfold putK;grind
def RelO.isSome_eq(r:RelO o u):o.isSome=u.isSome:=by
 cases o with
 | none=>cases u with
   | none=>rfl
   | some _=>exact(show False from r).elim
 | some _=>cases u with
   | none=>exact(show False from r).elim
   | some _=>rfl
def RelO.getD(r:RelO o u)(rd:RelV d d'):RelV (o.getD d) (u.getD d'):=by
 cases o with
 | none=>cases u with
   | none=>exact rd
   | some _=>exact(show False from r).elim
 | some _=>cases u with
   | none=>exact(show False from r).elim
   | some _=>exact r
theorem KV.val(r:KV kvs vs)(k:κ):RelO (valV kvs k) (valueAt vs k):=by
 unfold KV at r
 induction r with
 | nil=>exact True.intro
 | @cons p q ps qs h t ih=>
   obtain⟨h1,h2⟩:=h;by_cases e:p.1=k
   ·have e':q.1=k:=h1.symm.trans e
    have b:valueAt (q::qs) k=some q.2:=by simp[valueAt,List.find?_cons,e']
    rw[Yk8 e,b];exact h2
   ·have e':¬q.1=k:=λz=>e (h1.trans z)
    have b:valueAt (q::qs) k=valueAt qs k:=by simp[valueAt,List.find?_cons,e']
    rw[Yk9 e,b];exact ih
theorem KV.any(r:KV kvs vs)(k:κ):(kvs.any λkv=>decide (kv.1=k))=vs.any λkv=>decide (kv.1=k):=by
 unfold KV at r
 induction r with
 | nil=>rfl
 | cons h t ih=>rw[List.any_cons,List.any_cons,ih,h.1]
theorem KV.repl(r:KV kvs vs)(k:κ)(ry:RelV y u):
 KV (kvs.map λkv=>if kv.1=k then (kv.1,y)else kv) (vs.map λkv=>if kv.1=k then (kv.1,u)else kv):=by
 unfold KV at r ⊢
 induction r with
 | nil=>exact .nil
 | @cons p q ps qs h t ih=>
   rw[Qa,Qa];refine .cons ?_ ih;grind
def KV.put(r:KV kvs vs)(k:κ)(ry:RelV y u):KV (putK kvs k y) (stored vs k u):=by
 unfold putK stored;rw[r.any k];by_cases e:(vs.any λkv=>decide (kv.1=k))=true
 ·rw[if_pos e,if_pos e];exact r.repl k ry
 ·rw[if_neg e,if_neg e];exact Paired.snoc r ⟨rfl,ry⟩
def KV.length{vs:List (κ×Value)}(r:KV kvs vs):kvs.length=vs.length:=Paired.length r
end
def Yt9(r:RelV (kV k) u):(Yaj P w).is k u=true:=by
 cases k with
 | inl i=>obtain⟨t,e⟩:=(show ∃t,u=Value.int i t from r);subst e;exact Yt5 P w i t
 | inr x=>obtain⟨t,e⟩:=(show ∃t,u=Value.str x t from r);subst e;exact Yt6 P w x t
theorem Yrn:∀{ks:List Key}{us:AD},Vals (ks.map kV) us->ItemsAre (Yaj P w) ks us
 | [],_,r=>by rw[List.map_nil]at r;cases r;exact .nil
 | k::ks,_,r=>by
   rw[Qa]at r
   cases r with
   | cons h t=>exact .cons (Yt9 h) (Yrn t)
abbrev KT(H:Hp):List (List Key×V)->List (List Key×Addr×Value)->Prop:=Paired λp q=>p.1=q.1/\H q.2.1=some (.tup (p.1.map kV))/\RelV p.2 q.2.2
theorem KT.val(r:KT H kvs xs)(k:List Key):RelO (valV kvs k) ((atKey xs k).map (·.2)):=by
 induction r with
 | nil=>exact True.intro
 | @cons p q ps qs h t ih=>
   obtain⟨h1,_,h2⟩:=h;by_cases e:p.1=k
   ·have e':q.1=k:=h1.symm.trans e
    have b:atKey (q::qs) k=some q.2:=by simp[atKey,List.find?_cons,e']
    rw[Yk8 e,b];exact h2
   ·have e':¬q.1=k:=λz=>e (h1.trans z)
    have b:atKey (q::qs) k=atKey qs k:=by simp[atKey,List.find?_cons,e']
    rw[Yk9 e,b];exact ih
theorem KT.repl(r:KT H kvs xs)(k:List Key)(ry:RelV y u):
 KT H (kvs.map λkv=>if kv.1=k then (kv.1,y)else kv) (xs.map (putAt k u)):=by
 induction r with
 | nil=>exact .nil
 | @cons p q ps qs h t ih=>
   rw[Qa,Qa];refine .cons ?_ ih;obtain⟨h1,h2,h3⟩:=h;unfold putAt;grind
def KT.put(r:KT H kvs xs)(k:List Key)(hb:H b=some (.tup (k.map kV)))(ry:RelV y u):
 KT H (putK kvs k y) (storedH xs k b u):=by
 have e:(kvs.any λkv=>decide (kv.1=k))=(atKey xs k).isSome:=by
  rw[Ywd,(r.val k).isSome_eq,Option.isSome_map]
 unfold putK storedH;rw[e];by_cases q:(atKey xs k).isSome=true
 ·rw[if_pos q,if_pos q];exact r.repl k ry
 ·rw[if_neg q,if_neg q];exact Paired.snoc r ⟨rfl,hb,ry⟩
def KT.keeps(r:KT H kvs xs)(ht:∀b ys,H b=some (.tup ys)->H' b=some (.tup ys)):KT H' kvs xs:=
 Paired.mapP r λ_ _ z=>⟨z.1,ht _ _ z.2.1,z.2.2⟩
section
variable {P:P7}{w:World}{H:Hp}{h:Heap}{a:Addr}
def Yacg(ok:HOk P w H h)(e:Rd H a u):ObjOk P w H h a u:=e.ok ok
def Yro(ok:HOk P w H h)(e:Rd H a (.dK kvs)):kvs.length<=sizeLine/\(a==sysModules)=false/\∃vs,KV kvs vs/\h.DictOf (Yaj P w) a vs:=
 show ObjOk P w H h a (.dK kvs) from Yacg ok e
def y8s(ok:HOk P w H h)(e:H a=some (.dK kvs)):kvs.length<=sizeLine/\(a==sysModules)=false/\∃vs,KV kvs vs/\h.DictOf (Yaj P w) a vs:=Yro ok (.inl e)
def Yog(ok:HOk P w H h)(e:H a=some (.tup (ks.map kV))):(tupleKind (Yaj P w)).is h ks a:=by
 obtain⟨_,its,r,o,h1,h2,n,h3⟩:=(show ObjOk P w H h a (.tup (ks.map kV)) from ok a _ e)
 exact⟨o,its.toArray,n,h1,h2,h3,by simpa using Yrn r⟩
theorem Yua(ok:HOk P w H h)(e:Rd H a (.dT kvs)):kvs.length<=sizeLine/\(a==sysModules)=false/\
 ∃xs,KT H kvs xs/\h.DictOfH (tupleKind (Yaj P w)) a xs:=by
 obtain⟨z,y,xs,r,o,es,ep,h1,h2,h3,h4,h5⟩:=(show ObjOk P w H h a (.dT kvs) from Yacg ok e)
 refine⟨z,y,xs,r,o,es,ep,h1,h2,h3,h4,λx hx=>?_,h5⟩
 have all:∀{l:List (List Key×V)}{m:List (List Key×Addr×Value)},KT H l m->∀x∈m,(tupleKind (Yaj P w)).is h x.1 x.2.1:=by
  intro l m q
  induction q with
  | nil=>grind
  | @cons p q ps qs hq t ih=>
    intro x hx;rcases qt hx with e|hx
    ·subst e
     exact Yog ok (by grind)
    grind
 grind
def Yaf3(ok:HOk P w H h)(e:H a=some (.dT kvs)):kvs.length<=sizeLine/\(a==sysModules)=false/\
 ∃xs,KT H kvs xs/\h.DictOfH (tupleKind (Yaj P w)) a xs:=Yua ok (.inl e)
end
def DGet(H:Hp)(a:Addr)(y:V)(r:Option V):Prop:=
 (∃kvs k,Rd H a (.dK kvs)/\y=kV k/\r=valV kvs k)\/∃kvs k b,Rd H a (.dT kvs)/\y=.ref b/\H b=some (.tup (k.map kV))/\r=valV kvs k
def DPut(H:Hp)(a:Addr)(y v:V)(H':Hp):Prop:=
 (∃kvs k,H a=some (.dK kvs)/\y=kV k/\kvs.length<sizeLine/\H'=upd H a (.dK (putK kvs k v)))\/
 ∃kvs k b,H a=some (.dT kvs)/\y=.ref b/\H b=some (.tup (k.map kV))/\kvs.length<sizeLine/\H'=upd H a (.dT (putK kvs k v))
def DGet.k{k:Key}(e:H a=some (.dK kvs)):DGet H a (kV k) (valV kvs k):=.inl ⟨kvs,k,.inl e,rfl,rfl⟩
def DPut.k{k:Key}(e:H a=some (.dK kvs))(hl:kvs.length<sizeLine):DPut H a (kV k) v (upd H a (.dK (putK kvs k v))):=.inl ⟨kvs,k,e,rfl,hl,rfl⟩
section
variable {X:Cx}{pins:AC}{σ:St}{H:Hp}{s:Shared}{a:Addr}{y v:V}{u r:Value}{o:Option V}{A:Around}{E:AB}
def Inv.big(I:Inv X pins σ H s):sysModules< ~~~s:=by
 have h:mainGlobals< ~~~s:=(I.mod.glob.keeps I.bk).lt;exact Nat.lt_trans (by decide) h
def Yz4(hu:A.units+1<cLine)(I:Inv X pins σ H s)(g:DGet H a y (some v))(ry:RelV y u)(h:∀w' s',Inv X pins σ H s'->RelV v w'->Q w' s'):
 wpAny (mZ X.prog X.w) A (getItem (.ref a) u) Q E s:=by
 rcases g with⟨kvs,k,e,ey,l⟩|⟨kvs,k,b,e,ey,eb,l⟩
 ·subst ey
  obtain⟨z,hd,vs,rel,dd⟩:=Yro I.hok e;obtain⟨w',hw,rw'⟩:=RelO.some_of (v:=v) (o:=valueAt vs k) (by rw[l];exact rel.val k);exact wpAny_getItem_of (Yt9 ry) dd.mapOf hw (h w' _ (I.tok _) rw')
 ·subst ey
  cases (show u=Value.ref b from ry);obtain⟨z,hd,xs,rel,dd⟩:=Yua I.hok e;obtain⟨w',hw,rw'⟩:=RelO.some_of (v:=v) (o:=(atKey xs k).map (·.2)) (by rw[l];exact rel.val k);obtain⟨p,hp,hp2⟩:=qc hw;refine wpAny_getItem_heap (tupleKind_room_in1 hu) (Yog I.hok eb) dd hp ?_;rw[hp2];exact h w' _ (I.tok _) rw'
def d_in(hu:A.units+1<cLine)(I:Inv X pins σ H s)(g:DGet H a y o)(ry:RelV y u)(h:∀s',Inv X pins σ H s'->Q (.bool o.isSome) s'):
 wpAny (mZ X.prog X.w) A (compareOp .In u (.ref a)) Q E s:=by
 rcases g with⟨kvs,k,e,ey,l⟩|⟨kvs,k,b,e,ey,eb,l⟩
 ·subst ey
  obtain⟨z,hd,vs,rel,dd⟩:=Yro I.hok e;refine wpAny_in_of (Yt9 ry) hd dd.mapOf ?_;rw[<-(rel.val k).isSome_eq,<-l];exact h _ (I.tok _)
 ·subst ey
  cases (show u=Value.ref b from ry);obtain⟨z,hd,xs,rel,dd⟩:=Yua I.hok e;refine wpAny_in_heap (tupleKind_room_in1 hu) (Yog I.hok eb) hd dd ?_;have q:=(rel.val k).isSome_eq;rw[Option.isSome_map]at q;rw[<-q,<-l];exact h _ (I.tok _)
def y8t(hu:A.units+1<cLine)(I:Inv X pins σ H s)(g:DGet H a y o)(ry:RelV y u)(h:∀s',Inv X pins σ H s'->Q (.bool (!o.isSome)) s'):
 wpAny (mZ X.prog X.w) A (compareOp .NotIn u (.ref a)) Q E s:=by
 rcases g with⟨kvs,k,e,ey,l⟩|⟨kvs,k,b,e,ey,eb,l⟩
 ·subst ey
  obtain⟨z,hd,vs,rel,dd⟩:=Yro I.hok e;refine wpAny_notIn_of (Yt9 ry) hd dd.mapOf ?_;rw[<-(rel.val k).isSome_eq,<-l];exact h _ (I.tok _)
 ·subst ey
  cases (show u=Value.ref b from ry);obtain⟨z,hd,xs,rel,dd⟩:=Yua I.hok e;refine wpAny_notIn_heap (tupleKind_room_in1 hu) (Yog I.hok eb) hd dd ?_;have q:=(rel.val k).isSome_eq;rw[Option.isSome_map]at q;rw[<-q,<-l];exact h _ (I.tok _)
def Ylr(I:Inv X pins σ H s)(mu:Mut (H a))(hs:Heap.SameBut a s.heap h')(he:∃q,h'.get? a=some q)(new:ObjOk X.prog X.w (upd H a ob) h' a ob):
 Inv X pins σ (upd H a ob) { s with heap:=h',toks:=t' }:=
 I.write (x:=a) (e:=a) mu (.inl rfl) (λb q hb z=>(hs.2 b hb).trans z) he new
def Yz5(z:kvs.length<=sizeLine)(hd:(a==sysModules)=false)(rel:KV kvs vs)(dd:h'.DictOf (Yaj P w) a vs):
 ObjOk P w H' h' a (.dK kvs):=⟨z,hd,vs,rel,dd⟩
theorem Yz6(hu:A.units+1<cLine)(I:Inv X pins σ H s)(g:DPut H a y v H')(ry:RelV y u)(rv:RelV v r)(h:∀s',Inv X pins σ H' s'->Q () s'):
 wpAny (mZ X.prog X.w) A (setItem (.ref a) u r) Q E s:=by
 rcases g with⟨kvs,k,e,ey,l,eH⟩|⟨kvs,k,b,e,ey,eb,l,eH⟩
 ·subst ey eH
  obtain⟨z,hd,vs,rel,dd⟩:=y8s I.hok e
  have hz:vs.length<=sizeLine:=by rw[<-rel.length];exact z
  have hl:(putK kvs k v).length<=sizeLine:=by have:=Yh0 kvs k v;lia
  refine wpAny_setItem_pairs (hsz:=hz) (Yt9 ry) dd λh' dd' hs=>h _ ?_;have he:∃q,h'.get? a=some q:=let ⟨q,_,_,hq,_⟩:=dd';⟨q,hq⟩;exact Ylr I (by rw[e];exact True.intro) hs he (Yz5 hl hd (rel.put k rv) dd')
 ·subst ey eH
  cases (show u=Value.ref b from ry);obtain⟨z,hd,xs,rel,dd⟩:=Yaf3 I.hok e
  have hz:xs.length<=sizeLine:=by rw[<-Paired.length rel];exact z
  have hl:(putK kvs k v).length<=sizeLine:=by have:=Yh0 kvs k v;lia
  refine wpAny_setItem_heap (hsz:=hz) (tupleKind_room_in1 hu) (Yog I.hok eb) dd λh' dd' hs=>h _ ?_;obtain⟨q,es,ep,hq,h2,h3,h4,_,h5⟩:=dd';refine Ylr I (by rw[e];exact True.intro) hs ⟨q,hq⟩ ⟨hl,hd,_,(rel.put k eb rv).keeps λc ys ec=>?_,q,es,ep,hq,h2,h3,h4,h5⟩;rw[Yaa (Yafo ec e (λz=>nomatch z))];exact ec
end
def NoSl(i:Expr):Prop:=∀ov iv,subscripted i false ov iv=operate [ov,iv] (getItem ov iv)
def y8u{T id:String}(hl:typeLookup (.type T) "__getitem__"=pure (some (.builtin id)))(hs:NoSl slice)(h:wpAny (mZ prog w) A (eval value env) (λo s₁=>wpAny (mZ prog w) A (eval slice env) (λi s₂=>s₂.TypeIs o T/\wpAny (mZ prog w) A (getItem o i) Q E s₂) E s₁) E s):
 wpAny (mZ prog w) A (eval (.Subscript value slice pos) env) Q E s:=by
 refine Subscript_ (w5 h (λo s₁ h₁=>w5 h₁ (λi s₂ h₂=>?_) λ_ _ x=>x) λ_ _ x=>x);obtain⟨hT,h₂⟩:=h₂;unfold subscriptTail;refine wa ?_;rw[getitemInPython_of_ne hT.not_modules];refine wa (wpAny_specialOf hT hl ?_)
 have fin:wpAny (mZ prog w) A (subscripted slice false o i) (λr s₃=>wpAny (mZ prog w) A (letTemporaryGo value o r>>=λ_=>pure r) Q E s₃) E s₂:=by
  rw[hs o i];exact wpAny_operating (w5 h₂ (λr s₃ h₃=>wa (wpAny_letTemporaryGo (wb h₃))) λ_ _ x=>x)
 first
  | exact wb (wa fin)
  | exact wa (wb (wa fin))
  | exact wa fin
def Yub{σ:St}(I:Inv X pins σ H s)(g:DGet H a y o):s.TypeIs (.ref a) "dict":=by
 rcases g with⟨kvs,k,e,_,_⟩|⟨kvs,k,b,e,_,_,_⟩
 ·obtain⟨_,_,vs,_,dd⟩:=Yro I.hok e
  exact dd.typeIs
 ·obtain⟨_,_,xs,_,dd⟩:=Yua I.hok e
  exact dd.typeIs
def y4t(h:Heap)(hb:sysModules<h.objs.size):ObjOk P w H (h.push { cls:=.type "dict",data:=.dict #[] }) h.objs.size (.dK []):=
 ⟨Qf _,beq_eq_false_iff_ne.mpr (Ne.symm (qm hb)),[],.nil,Heap.DictOf.new h⟩
def Yach:TE:=λ_ H Q=>∀p,H p=none->Q (.ref p) (upd H p (.dK []))
section
variable {X:Cx}{pos:Pos}
def y4u:PE X (.Dict [] [] pos) Yach:=λpins s σ H Q I h=>
 wpAny_Dict_empty ⟨.ref (~~~s),_,I.laid (a:= ~~~s) (o:=.dK []) (t':=s.toks) (λ_ _ q=>qe _ q) (qu _) (y4t s.heap I.big),rfl,h _ (I.hok.fresh (qu _))⟩
end
def Yz7:List (TE×TE)->St->Hp->(List (V×V)->Hp->Prop)->Prop
 | [],_,H,Q=>Q [] H
 | (tk,tv)::r,σ,H,Q=>tk σ H λx H1=>tv σ H1 λy H2=>Yz7 r σ H2 λps H3=>Q ((x,y)::ps) H3
abbrev VV:List (V×V)->List (Value×Value)->Prop:=Paired λp q=>RelV p.1 q.1/\RelV p.2 q.2
def PPs(X:Cx)(pos:Pos)(keys:List (Option Expr))(values:AM)(trs:List (TE×TE)):Prop:=
 ∀(pins:AC) (s:Shared) (σ:St) (H:Hp) (Q:List (V×V)->Hp->Prop),Inv X pins σ H s->Yz7 trs σ H Q->
  wpAny (mZ X.prog X.w) X.A (evalPairs (pairTrees keys values X.env pos)) (λvs s'=>∃ps H',Inv X pins σ H' s'/\VV ps vs/\Q ps H') X.xe s
def y8v:PPs X pos [] [] []:=λpins s σ H Q I h=>pairTrees_nil_walk ⟨[],H,I,.nil,h⟩
def y4v(hk:PE X k tk)(hv:PE X v tv)(hr:PPs X pos ks vs trs):
 PPs X pos (some k::ks) (v::vs) ((tk,tv)::trs):=λpins s σ H Q I h=>
 pairTrees_cons_walk (thn (hk pins s σ H _ I h) λu s1 ⟨x,H1,I1,rx,q1⟩=>thn (hv pins s1 σ H1 _ I1 q1) λw2 s2 ⟨y,H2,I2,ry,q2⟩=>
  thn (hr pins s2 σ H2 _ I2 q2) λws s3 ⟨ps,H3,I3,rel,q3⟩=>⟨(x,y)::ps,H3,I3,.cons ⟨rx,ry⟩ rel,q3⟩)
structure M1(X:Cx)(o:Expr)(m:Str)(apos:Pos)(e:Expr)(cpos:Pos):Prop where
 base:attributeBase o m X.env (eval o X.env)=eval o X.env
 few:((backTo cpos (starEach [e] X.env)).all (λx=>!x.1)&&(backToKw cpos (keywordEach [] X.env)).all (λx=>x.1.isSome)
  &&decide (([e]:AM).length+([]:List Keyword).length+(if ([]:List Keyword).isEmpty then 0 else 1)<30))=true
 line:(apos.endLine==cpos.line)=true
 trees:backTo cpos (starEach [e] X.env)=[(false,eval e X.env)]
structure M2(X:Cx)(o:Expr)(m:Str)(apos:Pos)(e f:Expr)(cpos:Pos):Prop where
 base:attributeBase o m X.env (eval o X.env)=eval o X.env
 few:((backTo cpos (starEach [e,f] X.env)).all (λx=>!x.1)&&(backToKw cpos (keywordEach [] X.env)).all (λx=>x.1.isSome)
  &&decide (([e,f]:AM).length+([]:List Keyword).length+(if ([]:List Keyword).isEmpty then 0 else 1)<30))=true
 line:(apos.endLine==cpos.line)=true
 trees:backTo cpos (starEach [e,f] X.env)=[(false,eval e X.env),(false,eval f X.env)]
def IsD(H:Hp)(a:Addr):Prop:=(∃kvs,Rd H a (.dK kvs))\/∃kvs,Rd H a (.dT kvs)
def Yaci{σ:St}(I:Inv X pins σ H s)(d:IsD H a):
 s.TypeIs (.ref a) "dict"/\(∀b,Value.ref a=.ref b->∃ob,s.heap.get? b=some ob/\ob.dict=none)/\(a==sysModules)=false:=by
 rcases d with⟨kvs,e⟩|⟨kvs,e⟩
 ·obtain⟨_,hd,vs,_,dd⟩:=Yro I.hok e
  refine⟨dd.typeIs,λb q=>?_,hd⟩;cases q;obtain⟨ob,_,_,h1,h2,_⟩:=dd;exact⟨ob,h1,h2.2.1⟩
 ·obtain⟨_,hd,xs,_,dd⟩:=Yua I.hok e
  refine⟨dd.typeIs,λb q=>?_,hd⟩;cases q;obtain⟨ob,_,_,h1,h2,_⟩:=dd;exact⟨ob,h1,h2.2.1⟩
section
variable {X:Cx}{pins:AC}{σ:St}{H:Hp}{s:Shared}{a:Addr}{y d:V}{u r:Value}{o:Option V}{A:Around}{E:AB}
def Yacj(hu:A.units+1<cLine)(I:Inv X pins σ H s)(g:DGet H a y o)(ry:RelV y u)(rd:RelV d r)(h:∀w' s',Inv X pins σ H s'->RelV (o.getD d) w'->Q w' s'):
 wpAny (mZ X.prog X.w) A (call (.builtin "dict.get") [.ref a,u,r]) Q E s:=by
 rcases g with⟨kvs,k,e,ey,l⟩|⟨kvs,k,b,e,ey,eb,l⟩
 ·subst ey
  obtain⟨z,hd,vs,rel,dd⟩:=Yro I.hok e;refine call_meetsIn PySem.F.slot_dict_get dd.typeIs PySem.F.entry_dict_get (PySem.F.args_dict_get_3 _ _ _) (meets_dict_get_default (Yaj X.prog X.w) a (Yt9 ry) hd r) ⟨_,dd.mapOf,h _ _ (I.tok _) ?_⟩;rw[l];exact(rel.val k).getD rd
 ·subst ey
  cases (show u=Value.ref b from ry);obtain⟨z,hd,xs,rel,dd⟩:=Yua I.hok e;refine call_meetsIn PySem.F.slot_dict_get dd.typeIs PySem.F.entry_dict_get (PySem.F.args_dict_get_3 _ _ _) (meetsH_dict_get_default (tupleKind (Yaj X.prog X.w)) a b hd r) ⟨tupleKind_room_in1 hu,k,xs,Yog I.hok eb,dd,h _ _ (I.tok _) ?_⟩;rw[l];exact(rel.val k).getD rd
end
def Yack(td ty tx:TE):TE:=λσ H Q=>td σ H λx H1=>∃a,x=.ref a/\IsD H1 a/\ty σ H1 λy H2=>tx σ H2 λz H3=>∃o,DGet H3 a y o/\Q (o.getD z) H3
section
variable {X:Cx}{o e f:Expr}{apos cpos:Pos}{td ty tx:TE}
def y4w(hu:X.A.units+1<cLine)(ho:PE X o td)(he:PE X e ty)(hf:PE X f tx)(m:M2 X o "get" apos e f cpos):PE X (.Call (.Attribute o "get" apos) [e,f] [] cpos) (Yack td ty tx):=by
 intro pins s σ H Q I h;refine wpAny_Call_method m.base m.few m.line PySem.F.plainAttrs_dict PySem.F.slot_dict_get PySem.F.type_dict_get (thn (ho pins s σ H _ I h) λu s1 hx_=>?_);obtain⟨x,H1,I1,rx,a,ex,d,q1⟩:=hx_;subst ex;obtain rfl:u=Value.ref a:=rx;obtain⟨t1,t2,_⟩:=Yaci I1 d;refine⟨t1,t2,?_⟩;rw[m.trees];refine Calls.callWith_builtin rfl (Calls.evalArgs_plain (Calls.spliced_cons (thn (he pins s1 σ H1 _ I1 q1) λiv s2 hx_=>?_)));obtain⟨y,H2,I2,ry,q2⟩:=hx_;refine Calls.spliced_cons (thn (hf pins s2 σ H2 _ I2 q2) λfv s3 hx_=>?_);obtain⟨z,H3,I3,rz,ov,g,q3⟩:=hx_;refine Calls.spliced_nil ?_
 exact Yacj hu I3 g ry rz λw' s4 I4 rw'=>⟨_,H3,I4,rw',q3⟩
end
end L2
namespace HT
open PySem PyProof.Rows
section
variable {prog:P7}{w:World}{A:Around}{E:AB}{s:Shared}
theorem cat_tup(ht:IsTup s.heap t vs.toArray)(hb:IsTup s.heap b ws.toArray)(hv:vs≠[])(h1:ws=[]->Q (.ref t) s)(h2:ws≠[]->Q (.ref (~~~s)) { s with heap:=s.heap.push { cls:=.type "tuple",data:=.seq (vs++ws).toArray } })(hsz:vs.length+ws.length<=sizeLine):wpAny (mZ prog w) A (binaryOp .Add (.ref t) (.ref b)) Q E s:=by
 obtain⟨⟨cls,dd,data,sl⟩,ho,hc,n,hd⟩:=id ht;obtain⟨⟨cls2,dd2,data2,sl2⟩,ho2,hc2,n2,hd2⟩:=id hb;simp only at hc hd hc2 hd2;subst hc hd hc2 hd2
 have e:vs.toArray++ws.toArray=(vs++ws).toArray:=by simp
 by_cases hw:ws=[]
 ·exact concat_meets ⟨_,ho,rfl⟩ ⟨_,ho2,rfl⟩ noFill_tuple_add seq_tuple_add PySem.F.slot_tuple_add PySem.F.entry_tuple_add (PySem.F.args_tuple_add_2 _ _)
   (tuple_addW1 t b vs.toArray ws.toArray n n2 dd dd2 sl sl2 (by grind) (by simp[hw])) ⟨ho,ho2,h1 hw⟩
 ·refine concat_meets ⟨_,ho,rfl⟩ ⟨_,ho2,rfl⟩ noFill_tuple_add seq_tuple_add PySem.F.slot_tuple_add PySem.F.entry_tuple_add (PySem.F.args_tuple_add_2 _ _)
   (tuple_addW2 t b vs.toArray ws.toArray n n2 dd dd2 sl sl2 (by grind) (by grind) (by grind)) ⟨ho,ho2,?_⟩
  grind
def sIx(n d:Nat):Option Int->Nat
 | none=>d
 | some v=>if v<0 then (v+(n:Int)).toNat else min v.toNat n
def sIx_none(n d:Nat):sIx n d none=d:=rfl
theorem sIx_nat(n d k:Nat):sIx n d (some (k:Int))=min k n:=by
 show(if (k:Int)<0 then ((k:Int)+(n:Int)).toNat else min (k:Int).toNat n)=min k n;rw[if_neg (by lia),w9]
theorem Yacl(n d:Nat)(hd:d<=n)(o:Option Int):sIx n d o<=n:=by
 cases o with
 | none=>exact hd
 | some v=>
   show(if v<0 then (v+(n:Int)).toNat else min v.toNat n)<=n;grind
theorem Yz8(v:Int)(n d:Nat):(if v<0 then max (v+(n:Int)) 0 else min v (n:Int))=((sIx n d (some v):Nat):Int):=by
 show(if v<0 then max (v+(n:Int)) 0 else min v (n:Int))=(((if v<0 then (v+(n:Int)).toNat else min v.toNat n):Nat):Int);grind
theorem Yx2(lo hi:Option Int)(n:Nat):Builtin.Slice.sliceAdjust lo hi 1 (n:Int)=(((sIx n 0 lo:Nat):Int),((sIx n n hi:Nat):Int)):=by
 have h1:¬((1:Int)<0):=by lia
 unfold Builtin.Slice.sliceAdjust;simp only[h1,if_false];refine Prod.ext ?_ ?_
 ·cases lo with
  | none=>rfl
  | some v=>exact Yz8 v n 0
 ·cases hi with
  | none=>rfl
  | some v=>exact Yz8 v n n
theorem Yx3(i j:Nat):Builtin.Slice.slicePlaces (i:Int) (j:Int) 1=j-i:=by
 unfold Builtin.Slice.slicePlaces;grind
def Yoh(p:IsPart v o)(h:Q o s):wpAny (mZ prog w) A (Builtin.Slice.slicePartIndex v) Q E s:=by
 cases p with
 | none=>exact slicePart_none h
 | int i t=>exact slicePart_int h
def sliceApplied_gen{lo hi:Option Int}{Q:Int×Int×Nat->Shared->Prop}(hs:s.heap.IsSliceOf sl vl vu .none)(pl:IsPart vl lo)(pu:IsPart vu hi)(h:Q (((sIx n 0 lo:Nat):Int),1,sIx n n hi-sIx n 0 lo) s):wpAny (mZ prog w) A (Builtin.Slice.sliceApplied (.ref sl) (pure (n:Int))) Q E s:=by
 obtain⟨os,hos,hcs,hds⟩:=id hs;unfold Builtin.Slice.sliceApplied Builtin.Slice.sliceFields;refine wa (wa (wpAny_field hos hds (x:=vl) rfl (wa (wpAny_field hos hds (x:=vu) rfl (wa (wpAny_field hos hds (x:=.none) rfl (wb ?_)))))));refine wa (slicePart_none ?_);show wpAny _ _ (if ((1:Int)==0)=true then _ else _) _ _ s;rw[if_neg (by decide)];refine wa (Yoh pl (wa (Yoh pu (wa (wb ?_)))));show wpAny _ _ (match Builtin.Slice.sliceAdjust lo hi 1 (n:Int)with|(lo,hi)=>pure (lo,(1:Int),Builtin.Slice.slicePlaces lo hi 1)) _ _ s;rw[Yx2 lo hi n];show wpAny _ _ (pure (((sIx n 0 lo:Nat):Int),(1:Int),Builtin.Slice.slicePlaces ((sIx n 0 lo:Nat):Int) ((sIx n n hi:Nat):Int) 1)) _ _ s;rw[Yx3];exact wb h
theorem y4x(xs:Array Value)(i k:Nat):((List.range k).filterMap fun(m:Nat)=>xs[((i:Int)+(m:Int)*1).toNat]?).toArray=((xs.toList.drop i).take k).toArray:=by
 have e:(fun(m:Nat)=>xs[((i:Int)+(m:Int)*1).toNat]?)=λm=>xs[i+m]?:=by
  grind
 rw[e];have:=pick_run xs i k;rw[List.filterMap_map]at this;have e2:((λx=>xs[x]?) ∘ λx=>i+x)=λm=>xs[i+m]?:=rfl;grind
theorem getItem_tuple_cut{lo hi:Option Int}(ht:IsTup s.heap t items)(hs:s.heap.IsSliceOf sl vl vu .none)(pl:IsPart vl lo)(pu:IsPart vu hi)(hw:¬(sIx items.size 0 lo=0/\sIx items.size items.size hi=items.size))(h:Q (.ref (~~~s)) { s with heap:=s.heap.push { cls:=.type "tuple",data:=.seq ((items.toList.drop (sIx items.size 0 lo)).take (sIx items.size items.size hi-sIx items.size 0 lo)).toArray } })(hsz:items.size<=sizeLine):wpAny (mZ prog w) A (getItem (.ref t) (.ref sl)) Q E s:=by
 have htake:sizeOk (.seq ((items.toList.drop (sIx items.size 0 lo)).take (sIx items.size items.size hi-sIx items.size 0 lo)).toArray):=by
  show((items.toList.drop (sIx items.size 0 lo)).take (sIx items.size items.size hi-sIx items.size 0 lo)).toArray.size<=sizeLine;grind
 have hj:sIx items.size items.size hi<=items.size:=Yacl _ _ (qu _) hi;obtain⟨os,hos,hcs,hds⟩:=id hs
 have hTs:s.TypeIs (.ref sl) "slice":=⟨os,hos,hcs⟩
 unfold getItem
 try with_reducible refine wc ?_
 first|refine wa (wb ?_)|skip
 refine wa (wpAny_sequenceKey ht.typeIs (by decide) ?_)
 refine wa (wpAny_callSpecial?_slot (name:=Str.ofString "__getitem__") ht.typeIs PyProof.Rows.slot_tuple_getitem
  (we PyProof.Rows.slot_tuple_getitem ht.typeIs entry_tuple_getitem ?_ (args_tuple_getitem _ _)))
 show wpAny _ _ (Builtin.Tuple.tupleItemsOf (.ref t)>>=_) _ _ s;refine wa (tupleItemsOf_ ht ?_);refine wa (wpAny_typeOf hTs ?_);rw[if_pos (by decide)];refine wa (sliceApplied_gen hs pl pu ?_)
 have hno:¬((((sIx items.size 0 lo:Nat):Int)==0&&(1:Int)==1&&(sIx items.size items.size hi-sIx items.size 0 lo)==items.size)=true):=by
  grind
 show wpAny _ _ (if (((sIx items.size 0 lo:Nat):Int)==0&&(1:Int)==1&&(sIx items.size items.size hi-sIx items.size 0 lo)==items.size)=true then _ else _) _ _ s;rw[if_neg hno,y4x]
 first
  | exact wa (m:=Builtin.Tuple.tupleExact _) (wg (wb ⟨_,rfl,wb h⟩) htake)
  | exact wa (m:=Builtin.Tuple.tupleExact _) (wg (wa (wb (wb ⟨_,rfl,wb h⟩))) htake)
  | exact wa (wa (m:=Builtin.Tuple.tupleExact _) (wg (wb (wb ⟨_,rfl,wb h⟩)) htake))
  | exact wa (wa (m:=Builtin.Tuple.tupleExact _) (wg (wb ⟨_,rfl,wb h⟩) htake))
end
end HT
namespace L2
open PySem PySem.Spec PyProof.Rows
abbrev TO:=St->Hp->(Option Int->Hp->Prop)->Prop
def PO(X:Cx)(e:Option Expr)(t:TO):Prop:=
 ∀(pins:AC) (s:Shared) (σ:St) (H:Hp) (Q:Option Int->Hp->Prop),Inv X pins σ H s->t σ H Q->
  wpAny (mZ X.prog X.w) X.A (evalPart e X.env) (λu s'=>∃o H',Inv X pins σ H' s'/\IsPart u o/\Q o H') X.xe s
def Yz9:TO:=λ_ H Q=>Q none H
def Yacm(t:TE):TO:=λσ H Q=>t σ H λx H1=>∃i,x=.int i/\Q (some i) H1
theorem Yg5:∀{us:AD},Vals (ns.map V.int) us->IntsAre us ns:=by
 induction ns with
 | nil=>intro us r;rw[List.map_nil]at r;cases r;exact .nil
 | cons n ns ih=>
   intro us r;rw[Qa]at r
   cases r with
   | cons r1 r2=>
     obtain⟨t,e⟩:=r1;subst e;exact .cons n t (ih r2)
section
variable {X:Cx}{e:Expr}{te:TE}{lo hi:Option Expr}{tl th:TO}{pos p2:Pos}
def y8w:PO X none Yz9:=by
 intro pins s σ H Q I h;rw[evalPart_none];exact wb ⟨none,H,I,.none,h⟩
def y8x(h:PE X e te):PO X (some e) (Yacm te):=by
 intro pins s σ H Q I hw;rw[evalPart_some];refine thn (h pins s σ H _ I hw) λu s1 hx_=>?_;obtain⟨x,H1,I1,r1,q1⟩:=hx_;obtain⟨i,rfl,q⟩:=q1;obtain⟨t,rfl⟩:=r1;exact⟨some i,H1,I1,.int i t,q⟩
def SlR(X:Cx)(r:V->Option Int->Option Int->Hp->VK->Prop):Prop:=
 ∀(pins:AC) (s:Shared) (σ:St) (H:Hp) (x:V) (v vl vu:Value) (lo hi:Option Int) (sl:Addr) (Q:VK),Inv X pins σ H s->RelV x v->s.heap.IsSliceOf sl vl vu .none->IsPart vl lo->IsPart vu hi->r x lo hi H Q->
  ∃T id,typeLookup (.type T) "__getitem__"=pure (some (.builtin id))/\s.TypeIs v T/\wpAny (mZ X.prog X.w) X.A (getItem v (.ref sl)) (EP X pins σ Q) X.xe s
def SlR.or(h:SlR X r)(h':SlR X r'):SlR X (λx lo hi H Q=>r x lo hi H Q\/r' x lo hi H Q):=by
 intro pins s σ H x v vl vu lo hi sl Q I rx hs pl pu q;rcases q with q|q
 ·exact h pins s σ H x v vl vu lo hi sl Q I rx hs pl pu q
 ·exact h' pins s σ H x v vl vu lo hi sl Q I rx hs pl pu q
def tSl(r:V->Option Int->Option Int->Hp->VK->Prop)(te:TE)(tl th:TO):TE:=λσ H Q=>te σ H λx H1=>tl σ H1 λl H2=>th σ H2 λu H3=>r x l u H3 Q
def Ywe(hr:SlR X r)(he:PE X e te)(hl:PO X lo tl)(hu:PO X hi th):PE X (.Subscript e (.Slice lo hi none p2) pos) (tSl r te tl th):=by
 intro pins s σ H Q I h;refine Subscript_ (thn (he pins s σ H _ I h) λv s1 hx_=>?_);obtain⟨x,H1,I1,r1,q1⟩:=hx_;refine wpAny_Slice (thn (hl pins s1 σ H1 _ I1 q1) λvl s2 hx_=>?_);obtain⟨l,H2,I2,pl,q2⟩:=hx_;refine thn (hu pins s2 σ H2 _ I2 q2) λvu s3 hx_=>?_;obtain⟨u,H3,I3,pu,q3⟩:=hx_;rw[evalPart_none];refine wb ?_;have I4:Inv X pins σ H3 { s3 with heap:=s3.heap.push { cls:=.type "slice",data:=.fields #[vl,vu,.none] } }:=I3.kept (t':=s3.toks) λb ob q=>qe _ q;obtain⟨T,id,hT,ht,hg⟩:=hr pins { s3 with heap:=s3.heap.push { cls:=.type "slice",data:=.fields #[vl,vu,.none] } } σ H3 x v vl vu l u s3.heap.objs.size Q I4 r1 (Heap.IsSliceOf.new ..) pl pu q3;show wpAny (mZ X.prog X.w) X.A (subscriptTail e (.Slice lo hi none p2) v (.ref s3.heap.objs.size)) (EP X pins σ Q) X.xe { s3 with heap:=s3.heap.push { cls:=.type "slice",data:=.fields #[vl,vu,.none] } };exact tail_any (ops:=[.ref s3.heap.objs.size,v]) ht hT hg (by with_unfolding_all rfl)
def cutV(xs:AQ)(lo hi:Option Int):AQ:=(xs.drop (HT.sIx xs.length 0 lo)).take (HT.sIx xs.length xs.length hi-HT.sIx xs.length 0 lo)
theorem Yls(xs:AQ)(lo hi:Option Int):(cutV xs lo hi).length<=xs.length:=by
 unfold cutV;rw[List.length_take,List.length_drop];lia
def rSlT(K:W7):V->Option Int->Option Int->Hp->VK->Prop:=λx lo hi H Q=>∃a xs,x=.ref a/\SqT K H a xs/\
 ¬(HT.sIx xs.length 0 lo=0/\HT.sIx xs.length xs.length hi=xs.length)/\∀p,H p=none->Q (.ref p) (upd H p (.tup (cutV xs lo hi)))
theorem Yacn:SlR X (rSlT X.K):=by
 intro pins s σ H x v vl vu lo hi sl Q I rx hs pl pu h;obtain⟨a,xs,rfl,hx,hw,q⟩:=h;cases rx;obtain⟨its,r,ht,hz⟩:=I.tuple hx
 have hlen:its.toArray.size=xs.length:=by rw[qk];exact r.length.symm
 refine⟨"tuple",_,PyProof.Rows.slot_tuple_getitem.lookup,ht.typeIs,?_⟩;refine HT.getItem_tuple_cut ht hs pl pu (by grind) ?_ (by grind);rw[hlen];refine⟨.ref (~~~s),_,I.laid (t':=s.toks) (o:=.tup (cutV xs lo hi)) (λb ob q=>qe _ q) (qu _) ?_,rfl,q _ (I.hok.fresh (qu _))⟩;exact⟨Qh (Yls xs lo hi) hz,_,(r.drop (HT.sIx xs.length 0 lo)).take (HT.sIx xs.length xs.length hi-HT.sIx xs.length 0 lo),IsTup.new _ _⟩
def Yaf4(K:W7):R2:=λx y H Q=>∃a b xs ys,x=.ref a/\y=.ref b/\SqT K H a xs/\SqT K H b ys/\xs≠[]/\xs.length+ys.length<=sizeLine/\
 (ys=[]->Q (.ref a) H)/\(ys≠[]->∀p,H p=none->Q (.ref p) (upd H p (.tup (xs++ys))))
def Vals.nil_iff(r:Vals xs us):us=[]↔xs=[]:=by
 cases r with
 | nil=>simp
 | cons _ _=>simp
theorem y8y:OpR X (binaryOp .Add) (Yaf4 X.K):=by
 intro pins s σ H x y v u Q I rx ry h;obtain⟨a,b,xs,ys,rfl,rfl,ha,hb,hx,hz,q1,q2⟩:=h;cases rx;cases ry;obtain⟨its,r1,p1,_⟩:=I.tuple ha;obtain⟨its2,r2,p2,_⟩:=I.tuple hb;refine HT.cat_tup p1 p2 (λz=>hx (r1.nil_iff.mp z)) (λz=>⟨.ref a,H,I,rfl,q1 (r2.nil_iff.mp z)⟩) (λz=>?_) (by rw[<-r1.length,<-r2.length];exact hz);refine⟨.ref (~~~s),_,I.laid (t':=s.toks) (o:=.tup (xs++ys)) (λb ob q=>qe _ q) (qu _) ?_,rfl,q2 (λw=>z (r2.nil_iff.mpr w)) _ (I.hok.fresh (qu _))⟩;exact⟨by grind,_,r1.append r2,IsTup.new _ _⟩
end
def ixN(n:Nat)(i:Int):AN:=if 0<=i then (if i<n then some i.toNat else none)else if -(n:Int)<=i then some (i+n).toNat else none
def atI{α:Type}(xs:List α)(i:Int):Option α:=(ixN xs.length i).bind λj=>xs[j]?
theorem y8z(h:ixN n i=some j):seqIndex? i n=some j/\j<n/\-(n:Int)<=i/\i<n:=by
 unfold ixN at h;by_cases h0:0<=i
 ·rw[if_pos h0]at h
  by_cases h1:i<n
  ·rw[if_pos h1]at h
   have e:i.toNat=j:=w6 h;exact⟨by rw[seqIndex_of h0 h1,e],by lia,by lia,h1⟩
  grind
 ·rw[if_neg h0]at h
  by_cases h1:-(n:Int)<=i
  ·rw[if_pos h1]at h
   have e:(i+n).toNat=j:=w6 h;exact⟨by rw[seqIndex_neg (by lia) h1,e],by lia,h1,by lia⟩
  grind
def Yuc(h:atI xs i=some v):∃j,seqIndex? i xs.length=some j/\xs[j]?=some v/\j<xs.length/\-(xs.length:Int)<=i/\i<xs.length:=by
 unfold atI at h
 cases e:ixN xs.length i with
 | none=>rw[e]at h;cases h
 | some j=>
   rw[e]at h;obtain⟨h1,h2,h3,h4⟩:=y8z e;exact⟨j,h1,h,h2,h3,h4⟩
theorem Yh1{j:Nat}(h:xs[j]?=some v):atI xs (j:Int)=some v:=by
 have hj:j<xs.length:=(qo h).1
 have e:ixN xs.length (j:Int)=some j:=by
  unfold ixN;grind
 unfold atI;grind
def Yez(b:Expr):Prop:=∀o i,subscripted b false o i=operate [o,i] (getItem o i)
def IxR(X:Cx)(r:R2):Prop:=
 ∀(value slice:Expr) (pins:AC) (s:Shared) (σ:St) (H:Hp) (x y:V) (v u:Value) (Q:VK),Inv X pins σ H s->RelV x v->RelV y u->r x y H Q->
  subscripted slice false v u=operate [v,u] (getItem v u)->wpAny (mZ X.prog X.w) X.A (subscriptTail value slice v u) (EP X pins σ Q) X.xe s
def MtR(X:Cx)(id:String)(r:V->AQ->Hp->VK->Prop):Prop:=
 ∀(pins:AC) (s:Shared) (σ:St) (H:Hp) (x:V) (xs:AQ) (v:Value) (us:AD) (Q:VK),Inv X pins σ H s->RelV x v->Vals xs us->r x xs H Q->
  wpAny (mZ X.prog X.w) X.A (call (.builtin id) (v::us)) (EP X pins σ Q) X.xe s
section
variable {X:Cx}{a b:Expr}{ta tb:TE}{pos:Pos}
def IxR.or(h:IxR X r)(h':IxR X r'):IxR X (λx y H Q=>r x y H Q\/r' x y H Q):=by
 intro value slice pins s σ H x y v u Q I rx ry q hs;rcases q with q|q
 ·exact h value slice pins s σ H x y v u Q I rx ry q hs
 ·exact h' value slice pins s σ H x y v u Q I rx ry q hs
def Yaf5(hr:IxR X r)(ha:PE X a ta)(hb:PE X b tb)(hs:Yez b):PE X (.Subscript a b pos) (tOp r ta tb):=by
 intro pins s σ H Q I h;exact Subscript_ (binT ha hb I h λv u s2 x y H2 I2 rx ry q=>hr a b pins s2 σ H2 x y v u Q I2 rx ry q (hs _ _))
def rIxL(K:W7):R2:=λx y H Q=>∃p xs i v,x=.ref p/\y=.int i/\SqL K H p xs/\atI xs i=some v/\Q v H
def rIxT(K:W7):R2:=λx y H Q=>∃p xs i v,x=.ref p/\y=.int i/\SqT K H p xs/\atI xs i=some v/\Q v H
def rIxS:R2:=λx y H Q=>∃z i c,x=.str z/\y=.int i/\z.length<=sizeLine/\atI z.cps.toList i=some c/\Q (.str ⟨#[c]⟩) H
theorem ix_list:IxR X (rIxL X.K):=by
 intro value slice pins s σ H x y v u Q I rx ry h hs;obtain⟨p,xs,i,z,rfl,rfl,hq,he,q⟩:=h;cases rx;obtain⟨t,rfl⟩:=ry;obtain⟨its,r,pl,hz⟩:=I.list hq;obtain⟨j,h1,h2,h3,h4,h5⟩:=Yuc he;obtain⟨w,ew,rw'⟩:=r.get h2;have hl:=r.length;have hn:=Yri
 have fin:EP X pins σ Q w s:=⟨z,H,I,rw',q⟩
 by_cases h0:0<=i
 ·have hj:i.toNat=j:=by
   rw[seqIndex_of h0 h5]at h1;grind
  exact item_listR pl.isList h0 (by lia) (by grind) fin hs
 ·have hj:(i+(its.toArray.size:Int)).toNat=j:=by
   rw[seqIndex_neg (by lia) h4]at h1;grind
  exact subscriptTail_builtinR (x:=w) pl.isList.typeIs slot_list_getitem.lookup
   (wpAny_getItem_list_neg (Q:=λr s'=>r=w/\EP X pins σ Q r s') pl.isList (by lia) (by grind) (by lia) (by grind) ⟨rfl,fin⟩) hs
theorem ix_tup:IxR X (rIxT X.K):=by
 intro value slice pins s σ H x y v u Q I rx ry h hs;obtain⟨p,xs,i,z,rfl,rfl,hq,he,q⟩:=h;cases rx;obtain⟨t,rfl⟩:=ry;obtain⟨its,r,pl,hz⟩:=I.tuple hq;obtain⟨j,h1,h2,h3,h4,h5⟩:=Yuc he;obtain⟨w,ew,rw'⟩:=r.get h2;have hl:=r.length;have hn:=Yri
 have fin:EP X pins σ Q w s:=⟨z,H,I,rw',q⟩
 exact subscriptTail_builtinR (x:=w) pl.typeIs slot_tuple_getitem.lookup
  (getItem_tuple (j:=j) (Q:=λr s'=>r=w/\EP X pins σ Q r s') pl (by lia) (by lia) (by grind) (by grind) ⟨rfl,fin⟩) hs
theorem Yaco:IxR X rIxS:=by
 intro value slice pins s σ H x y v u Q I rx ry h hs;obtain⟨z,i,c,rfl,rfl,hz,he,q⟩:=h;obtain⟨t,rfl⟩:=rx;obtain⟨t',rfl⟩:=ry;obtain⟨j,h1,h2,h3,h4,h5⟩:=Yuc he
 have hl:z.cps.toList.length=z.length:=by simp[Str.length]
 rw[hl]at h1 h4 h5;have hn:=Yri
 exact tail_any (typeIs_str s z t) slot_str_getitem.lookup (getItem_str (c:=c) (by
  grind) (by grind) ⟨.str ⟨#[c]⟩,H,I.tok _,⟨_,rfl⟩,q⟩) hs
def rIx(K:W7):R2:=λx y H Q=>rIxL K x y H Q\/rIxT K x y H Q\/rIxS x y H Q
def Yacp:IxR X (rIx X.K):=ix_list.or (ix_tup.or Yaco)
theorem Yrp(lo hi:Option Int)(n:Nat):(sliceBounds lo hi none n).1=((HT.sIx n 0 lo:Nat):Int)/\(sliceBounds lo hi none n).2.1=((HT.sIx n n hi:Nat):Int)/\(sliceBounds lo hi none n).2.2=1:=by
 refine⟨?_,?_,rfl⟩
 ·cases lo with
  | none=>simp[sliceBounds,HT.sIx]
  | some i=>
    simp only[sliceBounds,HT.sIx,Option.getD_none,show(1:Int) > 0 by decide,if_true];grind
 ·cases hi with
  | none=>simp[sliceBounds,HT.sIx]
  | some i=>
    simp only[sliceBounds,HT.sIx,Option.getD_none,show(1:Int) > 0 by decide,if_true];grind
def Ypg(its:AD)(lo hi:Option Int):slicePick its.toArray lo hi none=((its.drop (HT.sIx its.length 0 lo)).take (HT.sIx its.length its.length hi-HT.sIx its.length 0 lo)).toArray:=by
 obtain⟨h1,h2,h3⟩:=Yrp lo hi its.toArray.size;unfold slicePick;rw[h1,h2,h3];simp only[sliceRange_one,pick_run,qk]<;>rfl
def rSlL(K:W7):V->Option Int->Option Int->Hp->VK->Prop:=λx lo hi H Q=>∃a xs,x=.ref a/\SqL K H a xs/\∀p,H p=none->Q (.ref p) (upd H p (.lst (cutV xs lo hi)))
theorem y0a:SlR X (rSlL X.K):=by
 intro pins s σ H x v vl vu lo hi sl Q I rx hs pl pu h;obtain⟨a,xs,rfl,hx,q⟩:=h;cases rx;obtain⟨its,r,ht,hz⟩:=I.list hx;have hlen:=r.length;refine⟨"list",_,slot_list_getitem.lookup,ht.isList.typeIs,?_⟩;refine wpAny_getItem_list_slice ht.isList hs pl pu .none (by simp) ?_ (by grind);rw[Ypg,<-hlen];refine⟨.ref (~~~s),_,I.laid (t':=s.toks) (o:=.lst (cutV xs lo hi)) (λb ob q=>qe _ q) (qu _) ?_,rfl,q _ (I.hok.fresh (qu _))⟩;exact⟨Qh (Yls xs lo hi) hz,_,0,(r.drop (HT.sIx xs.length 0 lo)).take (HT.sIx xs.length xs.length hi-HT.sIx xs.length 0 lo),qp _ rfl⟩
theorem Ya4:Ydq X (.builtin "len") (λxs H Q=>∃p ys,xs=[.ref p]/\(SqL X.K H p ys\/SqT X.K H p ys)/\Q (.int ys.length) H):=by
 intro pins s σ H xs us Q I r h;obtain⟨p,ys,rfl,hq,q⟩:=h;obtain⟨u,rfl,rx⟩:=Yhj r;cases rx;have hn:=Yri;rcases hq with hq|hq
 ·obtain⟨its,r',pl,hz⟩:=I.list hq
  have hlen:=r'.length;exact Calls.call_len_list pl.isList (by grind) ⟨.int ys.length,H,I.tok _,⟨s.toks+1,by grind⟩,q⟩
 ·obtain⟨its,r',pl,hz⟩:=I.tuple hq
  have hlen:=r'.length;exact len_tuple pl (by grind) ⟨.int ys.length,H,I.tok _,⟨s.toks+1,by grind⟩,q⟩
theorem Ygf:Ydq X (.type "list") (λxs H Q=>∃p ys,xs=[.ref p]/\(SqL X.K H p ys\/SqT X.K H p ys)/\∀l,H l=none->Q (.ref l) (upd H l (.lst ys))):=by
 intro pins s σ H xs us Q I r h;obtain⟨p,ys,rfl,hq,q⟩:=h;obtain⟨u,rfl,rx⟩:=Yhj r;cases rx
 have fin:∀(its:AD),Vals ys its->ys.length<=sizeLine->∀(h':Heap) (c':Nat),(∀b o',s.heap.get? b=some o'->h'.get? b=some o')->
  h'.get? (~~~s)=some { cls:=.type "list",dict:=none,data:=.seq its.toArray c',slots:=#[] }->EP X pins σ Q (.ref (~~~s)) { s with heap:=h' }:=λits r' hz h' c' kp e=>
  ⟨.ref (~~~s),_,I.laid (t':=s.toks) kp (qu _) (show ObjOk X.prog X.w _ h' _ (.lst ys) from⟨hz,its,c',r',e⟩),rfl,q _ (I.hok.fresh (qu _))⟩
 rcases hq with hq|hq
 ·obtain⟨its,r',pl,hz⟩:=I.list hq
  have hlen:=r'.length;obtain⟨o,ho,hc,n,hd⟩:=pl.isList;exact call_list_seq p (.inl rfl) ho hc hd (λh' c' kp e=>fin its r' hz h' c' kp e) (by grind)
 ·obtain⟨its,r',pl,hz⟩:=I.tuple hq
  have hlen:=r'.length;obtain⟨o,ho,hc,n,hd⟩:=pl;exact call_list_seq p (.inr rfl) ho hc hd (λh' c' kp e=>fin its r' hz h' c' kp e) (by grind)
theorem Yy:Ydq X (.type "tuple") (λxs H Q=>∃p ys,xs=[.ref p]/\((SqL X.K H p ys/\∀l,H l=none->Q (.ref l) (upd H l (.tup ys)))\/(SqT X.K H p ys/\Q (.ref p) H))):=by
 intro pins s σ H xs us Q I r h;obtain⟨p,ys,rfl,h⟩:=h;obtain⟨u,rfl,rx⟩:=Yhj r;cases rx;rcases h with⟨hq,q⟩|⟨hq,q⟩
 ·obtain⟨its,r',pl,hz⟩:=I.list hq
  have hlen:=r'.length;refine call_tuple_list pl.isList (λh' kp=>?_) (by grind);have I1:Inv X pins σ H { s with heap:=h' }:=I.kept (t':=s.toks) kp
  have I2:Inv X pins σ (upd H h'.objs.size (.tup ys)) { s with heap:=h'.push { cls:=.type "tuple",data:=.seq its.toArray } }:=
   I1.laid (t':=s.toks) (λb o e=>qe _ e) (qu _) (show ObjOk X.prog X.w _ _ _ (.tup ys) from⟨hz,its,r',IsTup.new _ _⟩)
  exact⟨.ref h'.objs.size,_,I2,rfl,q _ (I1.hok.fresh (qu _))⟩
 ·obtain⟨its,r',pl,hz⟩:=I.tuple hq
  exact call_tuple_same pl ⟨.ref p,H,I,rfl,q⟩
def tyV(K:W7)(T:String)(x:V)(H:Hp):Prop:=match x with
 | .str _=>T="str"
 | .int _=>T="int"
 | .ref p=>(T="list"/\∃xs,SqL K H p xs)\/(T="tuple"/\∃o,K.lookup p=some o/\o.cls=.type "tuple"/\o.dict=none)\/
  (T="dict"/\((∃kvs,H p=some (.dK kvs))\/∃kvs,H p=some (.dT kvs)))\/(T="set"/\∃S n,H p=some (.set S n))
 | _=>False
theorem Yacq{σ:St}(I:Inv X pins σ H s)(r:RelV x v)(ty:tyV X.K T x H):
 s.TypeIs v T/\∀a,v=.ref a->∃ob,s.heap.get? a=some ob/\ob.dict=none:=by
 cases x with
 | str z=>
   obtain⟨t,rfl⟩:=r;cases (show T="str" from ty);exact⟨typeIs_str s z t,λ_ e=>nomatch e⟩
 | int i=>
   obtain⟨t,rfl⟩:=r;cases (show T="int" from ty);exact⟨typeIs_int s i t,λ_ e=>nomatch e⟩
 | ref p=>
   cases r;rcases ty with⟨rfl,xs,hq⟩|⟨rfl,o,hk,hc,hd⟩|⟨rfl,hk⟩|⟨rfl,S,n,hk⟩
   ·obtain⟨its,_,pl,_⟩:=I.list hq
    refine⟨pl.isList.typeIs,λa e=>?_⟩;cases e;obtain⟨o,n,e,c,hd,_⟩:=pl;grind
   ·refine⟨⟨o,I.kIn p o hk,hc⟩,λa e=>?_⟩
    cases e;exact⟨o,I.kIn _ o hk,hd⟩
   ·have z:∃o,s.heap.get? p=some o/\o.ExactDict:=by
     rcases hk with⟨kvs,hk⟩|⟨kvs,hk⟩
     ·obtain⟨_,_,_,_,o,_,_,e,ex,_⟩:=I.hok p _ hk
      grind
     ·obtain⟨_,_,_,_,o,_,_,e,ex,_⟩:=I.hok p _ hk
      grind
    obtain⟨o,e,ex⟩:=z;refine⟨⟨o,e,ex.1⟩,λa e2=>?_⟩;cases e2;exact⟨o,e,ex.2.1⟩
   ·obtain⟨o,_,_,_,e,ex,_⟩:=I.hok p _ hk
    refine⟨⟨o,e,ex.1⟩,λa e2=>?_⟩;cases e2;exact⟨o,e,ex.2.1⟩
 | _=>exact False.elim ty
def tBM(K:W7)(T:String)(r:V->AQ->Hp->VK->Prop)(to:TE)(t:TA):TE:=λσ H Q=>to σ H λx H1=>tyV K T x H1/\t σ H1 λxs H2=>r x xs H2 Q
variable {o e:Expr}{es:AM}{to:TE}{t:TA}{name:Str}{apos cpos:Pos}{T id:String}{r:V->AQ->Hp->VK->Prop}
theorem y4y(pa:PlainAttrs T)(slot:Slot T name id)(hty:typeOf (.builtin id)=pure (.type "method_descriptor"))(hm:MtR X id r)(ho:PE X o to)(ha:PA X (e::es) t)(hbase:attributeBase o name X.env (eval o X.env)=eval o X.env:=by rfl)(hfew:((backTo cpos (starEach (e::es) X.env)).all (λx=>!x.1)&&(backToKw cpos (keywordEach [] X.env)).all (λx=>x.1.isSome)
  &&decide ((e::es).length+([]:List Keyword).length+(if ([]:List Keyword).isEmpty then 0 else 1)<30))=true:=by rfl)(hline:(apos.endLine==cpos.line)=true:=by rfl)(hs:starEach (e::es) X.env=(false,eval e X.env)::starEach es X.env:=by rfl)(hplain:(backTo cpos (starEach es X.env)).any (·.1)=false:=by rfl):
 PE X (.Call (.Attribute o name apos) (e::es) [] cpos) (tBM X.K T r to t):=by
 intro pins s σ H Q I h;refine wpAny_Call_method_late hbase hfew hline rfl (thn (ho pins s σ H _ I h) λv s1 hx_=>?_);obtain⟨x,H1,I1,r1,ty,q1⟩:=hx_;obtain⟨h1,h2⟩:=Yacq I1 r1 ty;refine⟨T,id,pa,slot,hty,h1,h2,?_⟩;have hA:=ha cpos pins s1 σ H1 _ I1 q1;rw[hs]at hA ⊢;refine Calls.callWith_builtin (by grind) (Calls.evalArgs_plain ?_);refine thn hA λus s2 hx_=>?_;obtain⟨vs,H2,I2,r2,q2⟩:=hx_;exact hm pins s2 σ H2 x vs v us Q I2 r1 r2 q2
end
def MtM(X:Cx)(id:String)(r:V->AQ->Hp->VK->Prop):Prop:=
 ∀(pins:AC) (s:Shared) (σ:St) (H:Hp) (x:V) (xs:AQ) (v:Value) (us:AD) (Q:VK),Inv X pins σ H s->RelV x v->Vals xs us->r x xs H Q->
  wpAny (mZ X.prog X.w) X.A (call (.builtin id) (v::us)) (EP X pins σ Q) X.xe s
theorem Vals.one:∀{x:V}{us:AD},Vals [x] us->∃u,us=[u]/\RelV x u
 :=by
  intro x us h
  cases h with
  | cons r t=>
    cases t;grind
section
variable {X:Cx}{pins:AC}{σ:St}{H:Hp}{s:Shared}{l b:Addr}{xs ys zs:AQ}
def Inv.lset{its its':AD}(I:Inv X pins σ H s)(hH:H l=some (.lst xs))(e:s.heap.get? l=some { cls:=.type "list",data:=.seq its.toArray n })(hf:f its.toArray=its'.toArray)(hv:Vals ys its')(hz:ys.length<=sizeLine):
 Inv X pins σ (upd H l (.lst ys)) { s with heap:=s.heap.update l (Obj.mapSeq f),toks:=t' }:=by
 have q:=PySem.IsL.update e f;rw[hf]at q;refine I.write (x:=l) (e:=l) (by rw[hH];exact trivial) (.inl rfl) (λb' u hb hu=>(Heap.get?_update_other s.heap (Obj.mapSeq f) (Ne.symm hb)).trans hu) ⟨_,q⟩ ?_;exact⟨hz,its',_,hv,q⟩
def Inv.lnew(I:Inv X pins σ H s)(hv:Vals ys its)(hz:ys.length<=sizeLine):
 Inv X pins σ (upd H (~~~s) (.lst ys)) { s with heap:=s.heap.push { cls:=.type "list",data:=.seq its.toArray },toks:=t' }:=
 I.laid (λ_ _ q=>qe _ q) (qu _) ⟨hz,its,0,hv,qp _ rfl⟩
def Inv.fresh(I:Inv X pins σ H s):H (~~~s)=none:=I.hok.fresh (qu _)
def Inv.lstM(I:Inv X pins σ H s)(hH:H l=some (.lst xs)):xs.length<=sizeLine/\∃(its:AD) (n:Nat),Vals xs its/\xs.length=its.length/\s.heap.get? l=some { cls:=.type "list",data:=.seq its.toArray n }:=by
 obtain⟨z,its,n,r,e⟩:=I.hok l _ hH;exact⟨z,its,n,r,r.length,e⟩
theorem y4z(h:n<=sizeLine):Builtin.List.listTooLong n=false:=by
 unfold Builtin.List.listTooLong;grind
def y80:V->AQ->Hp->VK->Prop:=λx vs H Q=>∃l xs y,x=.ref l/\vs=[y]/\H l=some (.lst xs)/\xs.length<sizeLine/\Q .non (upd H l (.lst (xs++[y])))
theorem Yrq:MtM X "list.append" y80:=by
 intro pins s σ H x vs v us Q I rx rv h;obtain⟨l,xs,y,rfl,rfl,hH,hz,q⟩:=h;cases rx;obtain⟨u,rfl,ru⟩:=rv.one;obtain⟨z,its,n,r,hl,e⟩:=I.lstM hH;refine call_meets F.slot_list_append ⟨_,e,rfl⟩ F.entry_list_append (F.args_list_append_2 _ _) (PySem.list_append l its.toArray n u (by grind)) ⟨e,?_⟩;refine⟨.non,_,I.lset (its':=its++[u]) hH e (by simp) (r.append (.cons ru .nil)) ?_,rfl,q⟩;grind
end
end L2
namespace Att
open PySem PySem.W PySem.Calls PyProof.Rows
theorem Ylt:∀(ns:AH) (vs:AD),WellAll P h vs (ns.map WData.int)->IntsAre vs ns:=by
 intro ns
 induction ns with
 | nil=>
   intro vs w;rw[List.map_nil]at w;cases w;exact .nil
 | cons n ns ih=>
   intro vs w;rw[Qa]at w
   cases w with
   | cons a b=>
     cases a;exact .cons _ _ (ih _ b)
theorem y0b{l:OpenLaw}(hn:l.most=some n)(hpre:l.row.toRowW.claim.pre args=true)(hwl:WellAll P h vals args):
 ∃a vs ns,vals=[Value.ref a]/\args=[WData.list (ns.map WData.int)]/\h.get? a=some { cls:=.type "list",data:=.seq vs.toArray }/\IntsAre vs ns/\ns.length<=n:=by
 have hsh:WShape.hasAll [] args [.list .int]=true:=(pre_splitW hpre).1;have hc:l.pre.holds [] { args:=args }=true:=(pre_splitW hpre).2;obtain⟨d,r,rfl,h1,h2⟩:=hasAllW_cons hsh;obtain rfl:=hasAllW_nil h2;obtain⟨xs,rfl,h3⟩:=hasW_list h1;obtain⟨ns,rfl⟩:=items_int h3
 have hlen:ns.length<=n:=by
  unfold OpenLaw.pre at hc
  have h4:(WTm.not (.lt (.lit (.int (n:Int))) (.len (.arg 0)))).holds [] { args:=[.list (ns.map .int)] }=true:=by
   have h4:=(holds_andW hc).1;grind
  have h5:=condW_of h4 (w_not (w_lt w_lit (w_len_list (w_arg rfl))));grind
 cases hwl with
 | cons w1 w2=>
   cases w2
   cases w1 with
   | list ho hall=>exact⟨_,_,ns,rfl,rfl,ho,Ylt ns _ hall,hlen⟩
def y0c(l:OpenLaw)(args:List WData):l.row.toRowW.claim.post args (.bool true) args=true:=
 postW_of (r:=l.row.toRowW) (X:=(true==true))
  (show WShape.has [] (.bool true) .bool=true by first|rfl|decide|simp[WShape.has,WShape.arms,WShape.armsAll])
  (show(WTm.eq .res (.lit (.bool true))).value [] { args:=args,res:=some (.bool true),after:=args }=some (.bool (true==true)) from w_eq_bool (w_res rfl) w_lit) rfl
def attach_call{l:OpenLaw}(hn:l.most=some n)(hdf:d.params.defaults=[])(call:∀(w:World) (s₀ s₁:Shared) (mg mb:AE) (fa:Addr) (o:Obj) (pm cd doc:Value) (a:Addr) (vs:AD) (ns:AH),
  Ground q loose [] XP w s₀ mg mb s₁.heap->YP w s₁.heap->
  s₁.heap.get? fa=some o->o.data=.func (docDef d.name d.params d.body d.scope pm cd doc)->s₁.heap.CodeRec cd d.name->mg d.name=some (.ref fa)->
  s₁.heap.get? a=some { cls:=.type "list",data:=.seq vs.toArray }->IntsAre vs ns->ns.length<=n->s₁.gens=#[]->
  codeAny (mZ l.prog w) callerA (.call (.ref fa) ⟨[.ref a],[]⟩) (λr s'=>r=.ok (.ret (.bool true))/\OldK s₁.heap s'.heap/\s'.os=s₁.os/\AllBare s'.gens) s₁):
 WalkO q loose XP YP l.row.toRowW d [] (λf vs=>PySem.call f vs):=by
 intro w s₀ s₁ mg mb G Y fa o pm cd doc dV kV ho hd hcd hD hmg hg args vals as hpre hlay hrd hwl hlo;obtain rfl:dV=.none:=Dflts.none hD hdf;obtain rfl:kV=.none:=Dflts.noKw hD;obtain⟨a,vs,ns,rfl,rfl,hobj,hints,hlen⟩:=y0b hn hpre hwl;refine enter_call (codeAny_mono (call w s₀ s₁ mg mb fa o pm cd doc a vs ns G Y ho (fd_plain hd) hcd hmg hobj hints hlen hg) λr s' hq=>?_);obtain⟨rfl,h2,h3,h4⟩:=hq;exact⟨.inl ⟨.bool true,.bool true,[],rfl,λ_=>rfl,.bool true,y0c l _,λ_=>⟨List.Pairwise.nil,λ_ hm=>(nomatch hm)⟩⟩,h2,h3,h4⟩
end Att
namespace L2
open PySem PySem.Spec PyProof.Rows
theorem Ygg:∀{vs:AD}{ns:AH},IntsAre vs ns->Vals (ns.map V.int) vs
 | _,_,.nil=>.nil
 | _,_,.cons n t h=>.cons ⟨t,rfl⟩ (Ygg h)
def Only(H:Hp):Prop:=∀b,H b=none\/∃o xs,H b=some (.frz o (.lst xs))
theorem y40{K:W7}(KX:K.In s₁.heap)(hns:s₁.heap.Ns mainGlobals mg)(hb:s₁.heap.Ns builtinsNs mb)(hbb:∀x:Str,x≠"__name__"->mb x=bootBuiltins x)(hlim:s₁.heap.NoLimit)(hg:s₁.gens=#[])(ha:s₁.heap.get? a=some { cls:=.type "list",data:=.seq vs.toArray })(hi:IntsAre vs ns)(hl:ns.length<=sizeLine)(hr:Room k callerA)(F:∀base:Heap,K.In base->base.Ns mainGlobals mg->FnOk P w K mg base CX k fa fd [x] sp)(hbind:∀(s:Shared) (u:Value),BindsTo s fd ⟨[u],[]⟩ [(x,u)])(hsp:∀H:Hp,Only H->SqL K H a (ns.map V.int)->sp [.ref a] H (λv _=>v=.bl true) λ_ _ _=>False)(hCX:∀H e s',CX [] H s₁ (λ_ _ _=>False) e s'->False):
 codeAny (mZ P w) callerA (.call (.ref fa) ⟨[.ref a],[]⟩) (λr s'=>r=.ok (.ret (.bool true))/\OldK s₁.heap s'.heap/\s'.os=s₁.os/\AllBare s'.gens) s₁:=by
 have rv:=Ygg hi;have lenV:=hi.length
 have core:∀H:Hp,Only H->SqL K H a (ns.map V.int)->HOk P w H s₁.heap->(∀b,H b≠none->b=a)->(H a≠none->K.lookup a=none)->
  codeAny (mZ P w) callerA (.call (.ref fa) ⟨[.ref a],[]⟩) (λr s'=>r=.ok (.ret (.bool true))/\OldK s₁.heap s'.heap/\s'.os=s₁.os/\AllBare s'.gens) s₁:=by
  intro H hO hS hok hA hK;have base_of:∀{b:Addr}{o:Obj},s₁.heap.get? b=some o->H b=none->(hidT s₁.heap H).get? b=some o:=λe n=>y4l e n
  have noA:∀{b:Addr}{o:Obj}{es:Array DictEntry}{ep:Nat},s₁.heap.get? b=some o->o.data=.dict es ep->H b=none:=λ{b o es ep} e d=>by
   grind
  have nsK:∀{b:Addr}{m:AE},s₁.heap.Ns b m->(hidT s₁.heap H).Ns b m:=λ{b m} ⟨o,es,ep,e,d,r⟩=>⟨o,es,ep,base_of e (noA e d),d,r⟩
  have hKb:K.In (hidT s₁.heap H):=λb o e=>base_of (KX b o e) (by
   grind)
  have hM:Mod K mg (hidT s₁.heap H):=⟨hKb,nsK hns,⟨mb,nsK hb,hbb⟩,let ⟨mc,h1,h2⟩:=hlim;⟨mc,nsK h1,h2⟩⟩
  have e0:Env0 P w K mg (hidT s₁.heap H) callerA [] s₁ H:=⟨rfl,hM,λb o e=>y8i e,Nat.le_of_eq (Yzr _ _),trivial,λb hb=>absurd (show b∈([]:List Addr) from hb) (by simp),hok,.of_eq hg⟩
  refine codeAny_mono ((F _ hKb (nsK hns)).run callerA [] s₁ H ⟨[.ref a],[]⟩ [.ref a] [.ref a] _ _ hr e0 (hbind s₁ (.ref a)) (.cons rfl .nil) (hsp H hO hS)) λr s' h=>?_
  cases r with
  | error e=>exact(hCX H e s' h).elim
  | ok fl=>
    cases fl with
    | next=>exact False.elim h
    | brk=>exact False.elim h
    | cont=>exact False.elim h
    | ret u=>
      obtain⟨v,H',os,bare,un,hok',r',q⟩:=h;have q':v=.bl true:=q;subst q';obtain rfl:u=Value.bool true:=r';refine⟨rfl,OldK.of_keep λb o e=>?_,os,bare⟩
      cases q:H b with
      | none=>exact un.keep b o e q (by intro z;exact absurd (show b∈([]:List Addr) from z) (by simp)) (by simp)
      | some u=>
        rcases hO b with z|⟨ob,xs,z⟩
        ·grind
        ·have z2:=un.frzs b ob _ z
         obtain⟨e1,_⟩:=hok b _ z;obtain⟨e2,_⟩:=hok' b _ z2;grind
 cases hk:K.lookup a with
 | some o=>
   have e:=KX a o hk;rw[ha]at e;cases e;refine core (λ_=>none) (λ_=>.inl rfl) (.inr ⟨_,vs.toArray,_,hk,rfl,rfl,rfl,by grind,by grind⟩) (λb u z=>by grind) (λb z=>absurd rfl z) λz=>absurd rfl z
 | none=>
   refine core (λb=>if b=a then some (.frz { cls:=.type "list",data:=.seq vs.toArray } (.lst (ns.map V.int)))else none) (λb=>?_) (.inl (.inr ⟨{ cls:=.type "list",data:=.seq vs.toArray },if_pos rfl⟩)) (λb u z=>?_) (λb z=>?_) λ_=>hk
   ·grind
   ·by_cases hb:b=a
    ·have z':=(if_pos hb).symm.trans z
     cases z';subst hb;exact⟨ha,by grind,vs,_,rv,ha⟩
    grind
   grind
def walk_of{l:W.OpenLaw}{K:Params->W7}{CX:World->CXT}{sp:World->Sp}(hn:l.most=some n)(hn2:n<=sizeLine)(hdf:d.params.defaults=[])(hr:Room k callerA)(hY:∀(w:World) (h:Heap),YP w h->(K w.params).In h)(F:∀(w:World) (mg:AE) (fa:Addr) (h:Heap),(K w.params).In h->h.Ns mainGlobals mg->mg d.name=some (.ref fa)->
  ∃fd:FuncData,(∀(s:Shared) (u:Value),BindsTo s fd ⟨[u],[]⟩ [(x,u)])/\
   ∀base:Heap,(K w.params).In base->base.Ns mainGlobals mg->FnOk l.prog w (K w.params) mg base (CX w) k fa fd [x] (sp w))(hsp:∀(w:World) (H:Hp) (a:Addr) (ns:AH),ns.length<=n->Only H->SqL (K w.params) H a (ns.map V.int)->sp w [.ref a] H (λv _=>v=.bl true) λ_ _ _=>False)(hCX:∀(w:World) (H:Hp) (s:Shared) (e:Value) (s':Shared),CX w [] H s (λ_ _ _=>False) e s'->False):
 W.WalkO q loose XP YP l.row.toRowW d [] (λf vs=>PySem.call f vs):=by
 refine Att.attach_call hn hdf λw s₀ s₁ mg mb fa o pm cd doc a vs ns G Y ho hd hcd hmg hobj hints hlen hg=>?_;have KX:=hY w _ Y;obtain⟨fd,hb,hF⟩:=F w mg fa _ KX G.T.g hmg;exact y40 KX G.T.g G.T.b G.T.builtins G.T.nolimit hg hobj hints (Qh hlen hn2) hr hF hb (λH hO hS=>hsp w H a ns hlen hO hS) λH e s'=>hCX w H s₁ e s'
def aLc(s:Stmt):Arguments:=match s with
 | .FunctionDef _ a _ _ _ _ _ _ _ _=>a
 | _=>{ posonlyargs:=[],args:=[],vararg:=none,kwonlyargs:=[],kw_defaults:=[],kwarg:=none,defaults:=[] }
def aKc(s:Stmt):List Stmt:=match s with
 | .FunctionDef _ _ b _ _ _ _ _ _ _=>b
 | _=>[]
def aIc(s:Stmt):Scope:=match s with
 | .FunctionDef _ _ _ _ _ _ sc _ _ _=>sc
 | _=>{ kind:=.function,names:=[],isGenerator:=false,isCoroutine:=false }
abbrev CX0:CXT:=λ_ _ _ _ _ _=>False
abbrev E0:XK:=λ_ _ _=>False
def Yacr:Yz1 CX0 X E0:=λ_ _ _ _ _ _ _ h=>h.elim
structure Fun(K:W7)(x qual:Str)(st:Stmt)(f:Addr)(fd:FuncData):Prop where
 ex:∃(oc:Value) (od:Option Addr) (kV doc pm:Value) (an:Option Addr) (cdv ct:Value) (osl:Array (Option Value)),
  fd=W.fnOf x qual (aLc st) (aKc st) (aIc st) .none kV doc pm an cdv ct/\K.lookup f=some ⟨oc,od,.func fd,osl⟩/\W.codeIn K cdv qual=true
 kp:W.keepIn K (.ref f)=true
section
variable {P:P7}{w:World}{K:W7}{mg:AE}{base:Heap}
def Fun.ok{st:Stmt}(F:Fun K x qual st f fd)(S:aJc N ps (aIc st))(len:∀vs H Q E,sp vs H Q E->vs.length=ps.length)(hbody:∀(cdv:Value) (A:Around) (outer:List Env) (s:Shared) (H:Hp) (vs:AQ) (Q:VK) (E:XK),Room k (A.deeper (envOfC qual (aIc st) (~~~s) f cdv))->sp vs H Q E->
  ∃t,PSs (cxOf CX0 P w K mg base N qual (aIc st) f cdv A outer s H E).nox (aKc st) t/\t { nx:=λ_ H'=>Q .non H',rt:=Q } (start N vs) H):FnOk P w K mg base CX0 (k+1) f fd ps sp:=by
 obtain⟨oc,od,kV,doc,pm,an,cdv,ct,osl,rfl,lk,hcd⟩:=F.ex;refine Yacf lk hcd S len λA outer s H vs Q E hr hsp=>?_;obtain⟨t,h,q⟩:=hbody cdv A outer s H vs Q E hr hsp;exact⟨t,h.nox,q⟩
def Fun.binds{st:Stmt}(F:Fun K x qual st f fd)(h:∀(kV doc pm:Value) (an:Option Addr) (cdv ct:Value) (us:AD),us.length=ps.length->bindArgs (W.fnOf x qual (aLc st) (aKc st) (aIc st) .none kV doc pm an cdv ct) ⟨us,[]⟩=pure (ps.zip us)):Binds K fd ps []:=by
 obtain⟨oc,od,kV,doc,pm,an,cdv,ct,osl,rfl,lk,hcd⟩:=F.ex;exact .all (h kV doc pm an cdv ct)
def y7h{st:Stmt}{kV doc pm cdv ct:Value}(l:K.lookup f=some ⟨oc,od,.func (W.fnOf x qual (aLc st) (aKc st) (aIc st) .none kV doc pm an cdv ct),osl⟩)(c:W.codeIn K cdv qual=true)(k:W.keepIn K (.ref f)=true):Fun K x qual st f (W.fnOf x qual (aLc st) (aKc st) (aIc st) .none kV doc pm an cdv ct):=⟨⟨oc,od,kV,doc,pm,an,cdv,ct,osl,rfl,l,c⟩,k⟩
end
def Same(H H':Hp):Prop:=∀b o,H b=some o->H' b=some o
def Same.refl(H:Hp):Same H H:=λ_ _ h=>h
def Same.trans(a:Same H H1)(b:Same H1 H2):Same H H2:=λc o h=>b c o (a c o h)
def Same.free(e:Same H H')(h:H' l=Option.none):H l=Option.none:=by
 cases q:H l with
 | none=>rfl
 | some o=>
   rw[e l o q]at h;cases h
def Same.seq{K:W7}(e:Same H H')(h:SqL K H a xs):SqL K H' a xs:=by
 rcases h with(h|⟨o,h⟩)|h
 ·exact .inl (.inl (e _ _ h))
 ·exact .inl (.inr ⟨o,e _ _ h⟩)
 ·exact .inr h
def clOf(env:Env):List (Str×NameKind)->List (Str×Addr)->List (Str×Addr)
 | [],cs=>cs
 | (n,k)::r,cs=>if (k==NameKind.free)=true then (match env.cells.lookup n with|some c=>clOf env r ((n,c)::cs)|none=>clOf env r cs)else clOf env r cs
theorem Ygh(h:∀x∈scope.names,x.2=NameKind.free->∃c,env.cells.lookup x.1=some c):closureFor scope env=pure (clOf env scope.names []):=by
 have key:∀(l:List (Str×NameKind)) (cs:List (Str×Addr)),(∀x∈l,x.2=NameKind.free->∃c,env.cells.lookup x.1=some c)->
  (forIn l cs fun(x:Str×NameKind) (r:List (Str×Addr))=>if (x.2==NameKind.free)=true then (do let c <-cellOf env x.1;pure (ForInStep.yield ((x.1,c)::r)))else pure (ForInStep.yield r))=(pure (clOf env l cs):Sem (List (Str×Addr))):=by
  intro l
  induction l with
  | nil=>intro cs _;rfl
  | cons x l ih=>
    intro cs hl;obtain⟨n,k⟩:=x;have ht:=λy hy=>hl y (qg _ hy);rw[List.forIn_cons];by_cases hk:k=NameKind.free
    ·subst hk
     obtain⟨c,hc⟩:=hl (n,NameKind.free) qh rfl;have hc':env.cells.lookup n=some c:=hc
     have e1:cellOf env n=pure c:=by unfold cellOf;rw[hc']
     have hff:(NameKind.free==NameKind.free)=true:=rfl;show(if (NameKind.free==NameKind.free)=true then (do let c <-cellOf env n;pure (ForInStep.yield ((n,c)::cs)))else pure (ForInStep.yield cs))>>=_=_;rw[if_pos hff,e1,pure_bind,pure_bind];show forIn l ((n,c)::cs) _=_;rw[ih _ ht];show _=pure (if (NameKind.free==NameKind.free)=true then (match env.cells.lookup n with|some c=>clOf env l ((n,c)::cs)|none=>clOf env l cs)else clOf env l cs);grind
    ·have hb:(k==NameKind.free)=false:=by grind
     show(if (k==NameKind.free)=true then _ else pure (ForInStep.yield cs))>>=_=_;rw[if_neg (by grind),pure_bind];show forIn l cs _=_;rw[ih _ ht];show _=pure (if (k==NameKind.free)=true then (match env.cells.lookup n with|some c=>clOf env l ((n,c)::cs)|none=>clOf env l cs)else clOf env l cs);grind
 have:=key scope.names [] h;unfold closureFor;grind
theorem Yla:∀(l:List (Str×NameKind)) (cs:List (Str×Addr)),(∀x c,(x,c)∈cs->env.cells.lookup x=some c)->∀x c,(x,c)∈clOf env l cs->env.cells.lookup x=some c
 | [],cs,h,x,c,e=>h x c e
 | (n,k)::r,cs,h,x,c,e=>by
   unfold clOf at e
   split at e
   ·split at e
    ·rename_i d hd
     refine Yla r _ (λy b hy=>?_) x c e;grind
    ·exact Yla r cs h x c e
   ·exact Yla r cs h x c e
theorem Yg6:∀(l:List (Str×NameKind)) (cs:List (Str×Addr)) (p:Str×Addr),p∈cs->p∈clOf env l cs
 | [],_,_,h=>h
 | (n,k)::r,cs,p,h=>by
   unfold clOf
   split
   ·split
    ·exact Yg6 r _ p (qg _ h)
    ·exact Yg6 r _ p h
   ·exact Yg6 r _ p h
theorem Yin:∀(l:List (Str×NameKind)) (cs:List (Str×Addr)) (x:Str) (c:Addr),(x,NameKind.free)∈l->env.cells.lookup x=some c->(x,c)∈clOf env l cs
 | (n,k)::r,cs,x,c,h,hc=>by
   rcases qt h with q|q
   ·cases q
    unfold clOf;rw[if_pos (show(NameKind.free==NameKind.free)=true from rfl),hc];exact Yg6 r _ _ qh
   ·unfold clOf
    split
    ·split
     ·exact Yin r _ x c q hc
     ·exact Yin r _ x c q hc
    ·exact Yin r _ x c q hc
theorem Yio{cl:List (Str×Addr)}(h:(x,c)∈cl):∃d,cl.lookup x=some d:=by
 induction cl with
 | nil=>cases h
 | cons p r ih=>
   obtain⟨n,b⟩:=p;rw[List.lookup_cons]
   cases e:(x==n)with
   | true=>grind
   | false=>
     grind
structure aMc(XN:AL)(xsc:Scope)(N:AL)(src:List AN)(sc:Scope):Prop where
 kind:sc.kind=.function
 xkind:xsc.kind=.function
 cellU:∀y∈sc.names,y.2=NameKind.cell->sc.names.lookup y.1=some NameKind.cell
 names:∀y∈sc.names,y.2=NameKind.local->sc.names.lookup y.1=some NameKind.local
 len:src.length=N.length
 nd:N.Nodup
 cap:∀(i j:Nat) (x:Str),N[i]?=some x->src[i]?=some (some j)->XN[j]?=some x/\sc.names.lookup x=some NameKind.free
 fr:∀y∈sc.names,y.2=NameKind.free->xsc.names.lookup y.1=some NameKind.cell\/xsc.names.lookup y.1=some NameKind.free
def capB(XN:AL)(sc:Scope):AL->List AN->Bool
 | [],[]=>true
 | x::N,none::src=>capB XN sc N src
 | x::N,some j::src=>decide (XN[j]?=some x)&&decide (sc.names.lookup x=some NameKind.free)&&capB XN sc N src
 | _,_=>false
theorem Yph:∀{N:AL}{src:List AN},capB XN sc N src=true->src.length=N.length
 | [],[],_=>rfl
 | _::N,none::src,h=>by
   have:=Yph (N:=N) (src:=src) h;simp[this]
 | _::N,some j::src,h=>by
   replace h:(decide (XN[j]?=some _)&&decide (sc.names.lookup _=some NameKind.free)&&capB XN sc N src)=true:=h;simp only[Qb]at h;have:=Yph (N:=N) (src:=src) h.2;simp[this]
 | [],_::_,h=>Bool.noConfusion h
 | _::_,[],h=>Bool.noConfusion h
theorem Ypi:∀{N:AL}{src:List AN},capB XN sc N src=true->∀(i j:Nat) (x:Str),N[i]?=some x->src[i]?=some (some j)->XN[j]?=some x/\sc.names.lookup x=some NameKind.free
 | [],[],_,i,j,x,h,_=>by simp at h
 | _::N,none::src,h,i,j,x,h1,h2=>by
   cases i with
   | zero=>simp at h2
   | succ i=>exact Ypi (N:=N) (src:=src) h i j x (by simpa using h1) (by simpa using h2)
 | y::N,some k::src,h,i,j,x,h1,h2=>by
   replace h:(decide (XN[k]?=some y)&&decide (sc.names.lookup y=some NameKind.free)&&capB XN sc N src)=true:=h;simp only[Qb,wm]at h
   cases i with
   | zero=>
     simp at h1 h2;subst h1;subst h2;exact h.1
   | succ i=>exact Ypi (N:=N) (src:=src) h.2 i j x (by simpa using h1) (by simpa using h2)
 | [],_::_,h,_,_,_,_,_=>Bool.noConfusion h
 | _::_,[],h,_,_,_,_,_=>Bool.noConfusion h
def Yacs(XN:AL)(xsc:Scope)(N:AL)(src:List AN)(sc:Scope):Bool:=
 decide (sc.kind=.function)&&decide (xsc.kind=.function)&&sc.names.all (λy=>decide (y.2=NameKind.cell->sc.names.lookup y.1=some NameKind.cell))&&sc.names.all (λy=>decide (y.2=NameKind.local->sc.names.lookup y.1=some NameKind.local))&&
  decide N.Nodup&&capB XN sc N src&&sc.names.all (λy=>decide (y.2=NameKind.free->xsc.names.lookup y.1=some NameKind.cell\/xsc.names.lookup y.1=some NameKind.free))
def Yab(h:Yacs XN xsc N src sc=true):aMc XN xsc N src sc:=by
 unfold Yacs at h;simp only[Qb,wm,List.all_eq_true]at h;obtain⟨⟨⟨⟨⟨⟨h1,h2⟩,h3⟩,h4⟩,h5⟩,h6⟩,h7⟩:=h;exact⟨h1,h2,h3,h4,Yph h6,h5,Ypi h6,h7⟩
abbrev Ya3(X:Cx)(scope:Scope)(N:AL)(cl:List (Str×Addr))(C:Addr)(fp:List Addr)(s:Shared)(H:Hp):Cx where
 prog:=X.prog
 w:=X.w
 K:=X.K
 mg:=X.mg
 base:=X.base
 A:=X.A
 N:=N
 s₀:=s
 H₀:=H
 env:=compEnvC scope cl C X.env
 outer:=X.stack
 stack:=X.stack
 ex:=fp
 fn:=λx=>scope.names.lookup x==some NameKind.cell
 calm:=X.calm
 pn:=[]
 xe:=λ_ _=>False
def capσ(src:List AN)(σ:St):St:=src.map λo=>o.bind λj=>(σ[j]?).join
def PIfs(X:Cx)(ifs:AM)(t:TT):Prop:=
 ∀(pins:AC) (s:Shared) (σ:St) (H:Hp) (Q:Bool->Hp->Prop),Inv X pins σ H s->t σ H Q->
  wpAny (mZ X.prog X.w) X.A (forIn ifs true λc r=>if r=true then do let ok <-isTrue c X.env (eval c X.env);pure (ForInStep.yield ok)else pure (ForInStep.yield r)) (TP X pins σ Q) X.xe s
def tYes:TT:=λ_ H Q=>Q true H
def y81:PIfs X [] tYes:=λ_ _ _ H _ I h=>wpAny_tests_nil ⟨H,I,h⟩
def tLC(wi:TI)(src:List AN)(g:TG)(ti:TT)(te:TE):TE:=λσ H Q=>wi σ H λJ H1=>∀p,H1 p=none->
 ∃W:Nat->Nat->St->Hp->Prop,(∃m,W 0 m (capσ src σ) (upd H1 p (.lst [])))/\∀i m σ1 H2,W i m σ1 H2->
  (J.stop i H2/\Q (.ref p) H2)\/
  (J.go i H2/\∀x H3,J.yld i H2 x H3->g x σ1 H3 λσ4 H4=>ti σ4 H4 λb H5=>if b=true then te σ4 H5 λv H6=>∃xs,H6 p=some (.lst xs)/\xs.length<sizeLine/\∃m',m'<m/\W (i+1) m' σ4 (upd H6 p (.lst (xs++[v])))else ∃m',m'<m/\W (i+1) m' σ4 H5)
section
variable {prog:P7}{w:World}{A:Around}{R:Result->Shared->Prop}{s:Shared}{X:Cx}{elt tg iter:Expr}{ifs:AM}{scope:Scope}{pos:Pos}{wi:TI}{g:TG}{ti:TT}{te:TE}{N:AL}{src:List AN}
theorem Yhk(I:Nat->Shared->Prop)(turn:∀n s,I n s->wpAny (mZ prog w) A (pyNext it) (λr s₁=>match r with
  | none=>R (.ok .next) s₁
  | some v=>wpAny (mZ prog w) A (letOwnedTupleGo target it v) (λ_ s₁=>wpAny (mZ prog w) A (assign target env v) (λ_ s₂=>
   wpAny (mZ prog w) A (forIn ifs true λc r=>if r=true then do let ok <-isTrue c env (eval c env);pure (ForInStep.yield ok)else pure (ForInStep.yield r)) (λok s₃=>
    if ok=true then wpAny (mZ prog w) A (eval elt env) (λx s₄=>
     wpAny (mZ prog w) A (call (.builtin "list.append") [acc,x]) (λ_ s₅=>∃m,m<n/\I m s₅) (notedBy (mZ prog w) A env λe s'=>R (.error e) s') s₄) (notedBy (mZ prog w) A env λe s'=>R (.error e) s') s₃
    else ∃m,m<n/\I m s₃) (notedBy (mZ prog w) A env λe s'=>R (.error e) s') s₂) (notedBy (mZ prog w) A env λe s'=>R (.error e) s') s₁) (notedBy (mZ prog w) A env λe s'=>R (.error e) s') s₁) (notedBy (mZ prog w) A env λe s'=>R (.error e) s') s)(n:Nat)(h:I n s):
 codeAny (mZ prog w) A (.compLoop (.ListComp elt [⟨target,iter,ifs,0⟩] scope pos) 0 it acc env) R s:=by
 refine codeAny_loop rfl I (λn s hI=>?_) n h;show wpAny _ A ((compTurn (.ListComp elt [⟨target,iter,ifs,0⟩] scope pos) 0 it acc env).onRaise (λx=>do noteFrame x env;theTreesLotGoes x)) _ _ s;refine wpAny_noted ?_;rw[compTurn_list];refine wa (wpAny_standAt (wa (w5 (turn n s hI) (λr s₁ h₁=>?_) λ_ _ h'=>h')))
 cases r with
 | none=>exact wb h₁
 | some v=>
   refine wa (w5 h₁ (λ_ s₁ h₁=>?_) λ_ _ h'=>h');refine wa (w5 h₁ (λ_ s₂ h₂=>wa (w5 h₂ (λok s₃ h₃=>?_) λ_ _ h'=>h')) λ_ _ h'=>h')
   cases ok with
   | false=>exact wb ⟨rfl,h₃⟩
   | true=>
     exact wa (wa (w5 h₃ (λx s₄ h₄=>wa (w5 h₄ (λ_ s₅ h₅=>wb (wb ⟨rfl,h₅⟩)) λ_ _ h'=>h')) λ_ _ h'=>h'))
theorem Yh2(h:scope.names.lookup x=some NameKind.free)(hk:env.kindOf x=some NameKind.cell\/env.kindOf x=some NameKind.free):
 (relabel scope env).names.lookup x=some NameKind.cell\/(relabel scope env).names.lookup x=some NameKind.free:=by
 unfold relabel;show List.lookup x (scope.names.map _)=_\/List.lookup x (scope.names.map _)=_;generalize scope.names=l at h
 induction l with
 | nil=>cases h
 | cons p r ih=>
   grind
theorem Ylu(h:(relabel scope env).names.lookup x=some NameKind.cell\/(relabel scope env).names.lookup x=some NameKind.free):
 (x,NameKind.free)∈scope.names\/(x,NameKind.cell)∈scope.names:=by
 unfold relabel at h
 change List.lookup x (scope.names.map _)=_\/List.lookup x (scope.names.map _)=_ at h
 revert h
 generalize scope.names=l;intro h
 induction l with
 | nil=>grind
 | cons p r ih=>
   grind
theorem Yco:∀(names:List (Str×NameKind)) (n:Nat) (acc:List (Str×Addr)),cellsFrom n names acc=cellsFrom n names []++acc
 | [],_,_=>rfl
 | (x,k)::r,n,acc=>by
   unfold cellsFrom
   split
   ·rw[Yco r (n+1) ((x,n)::acc),Yco r (n+1) [(x,n)],jb];rfl
   ·exact Yco r n acc
theorem Yfk:∀(names:List (Str×NameKind)) (n:Nat) (x:Str) (c:Addr),(x,c)∈cellsFrom n names []->(x,NameKind.cell)∈names
 | [],_,_,_,h=>(nomatch h)
 | (y,k)::r,n,x,c,h=>by
   unfold cellsFrom at h
   split at h
   ·rename_i hk
    rw[Yco]at h;rcases qv h with h|h
    ·exact qg _ (Yfk r _ x c h)
    grind
   ·exact qg _ (Yfk r n x c h)
theorem Yoi{own cl:List (Str×Addr)}:(own++cl).lookup x=(own.lookup x).or (cl.lookup x):=by grind
theorem Ybg{own cl:List (Str×Addr)}(h:(own++cl).lookup x=some c):own.lookup x=some c\/(own.lookup x=none/\cl.lookup x=some c):=by
 rw[Yoi]at h
 simp_all
theorem Yud(h:Q (newEnv scope (~~~s) globals (cellsFrom (~~~s+1) scope.names []++cl) qual none .none (some outer) bt) { s with heap:=pushCells (s.heap.push { cls:=.type "dict",data:=.dict #[] }) scope.names }):
 wpAny M A (newFunctionEnv scope globals cl [] qual none .none (some outer) bt) Q E s:=by
 simp only[newFunctionEnv,Option.isSome_some,if_true];refine wa (wpAny_alloc ?_);refine wa (wpAny_layCells _ (λname kind cells=>by grind) _ _ _ _ ?_);rw[show({ s with heap:=s.heap.push { cls:=.type "dict",data:=.dict #[] } }:Shared).heap.objs.size= ~~~s+1 from ww ..,Yco];rw[List.forIn_nil];exact wa (wb (wb h))
theorem Yx4{σ:St}(S:aMc X.N X.env.scope N src scope)(I:Inv X pins σ H s)(hf:∀b∈fp,FpOk X pins H b)(ho:∀b∈fp,∃o,s.heap.get? b=some o)(hn:h₁.Ns (~~~s) λ_=>none)(hk:∀b o,s.heap.get? b=some o->h₁.get? b=some o)(hc:CellsOk h₁ (~~~s+1) own)(ow:∀x c,(x,c)∈own->(x,NameKind.cell)∈scope.names)(has:∀x,scope.names.lookup x=some NameKind.cell->∃c,own.lookup x=some c):
 Inv (Ya3 X scope N (own++clOf X.env scope.names []) (~~~s) fp s H) [] (capσ src σ) H { s with heap:=h₁,toks:=tk }:=by
 have sub:∀x c,(clOf X.env scope.names []).lookup x=some c->X.env.cells.lookup x=some c:=λx c e=>Yla scope.names [] (λ_ _ z=>nomatch z) x c (PySem.mem_of_lookup e)
 have clt:∀x c,(clOf X.env scope.names []).lookup x=some c->c< ~~~s:=λx c e=>by
  obtain⟨v,q⟩:=I.cell x c (sub x c e);exact q.lt
 have owl:∀x c,own.lookup x=some c->(~~~s)<c:=λx c e=>(hc.empty x c (PySem.mem_of_lookup e)).2
 have nofree:∀x,scope.names.lookup x=some NameKind.free->own.lookup x=none:=λx hx=>by
  cases e:own.lookup x with
  | none=>rfl
  | some c=>
    have:=S.cellU _ (ow x c (PySem.mem_of_lookup e)) rfl;grind
 have fpl:∀b∈fp,b< ~~~s:=λb hb=>by
  obtain⟨o,e⟩:=ho b hb;exact ql e
 have nfs:∀b∈fp,b∉frs X.stack:=λb hb z=>by
  rcases qt (I.stkSub b z)with e|e
  ·exact(hf b hb).2.1 e
  ·exact(hf b hb).2.2.1 e
 refine⟨⟨I.ok.mod,S.kind,I.ok.glob,I.ok.blt,qu _,λx y c h1 h2=>?_,λx hx=>?_,λx c z e=>?_,I.ok.hd,I.ok.frames,.inl rfl,λb hb=>⟨qm (fpl b hb),λx c e=>?_⟩,
  I.bs,Qh I.ok.bsz I.sz,λb o e hb=>?_,nfs,I.stack,I.stkFree⟩,rfl,I.bare,Un.kept hk,⟨_,hn,λi x v h1 h2 h3=>?_⟩,λx c e=>?_,I.fresh,λx c e=>?_,λp hp=>(nomatch hp),I.hok.kept hk,?_⟩
 ·rcases Ybg h1 with h1|⟨_,h1⟩
  ·rcases Ybg h2 with h2|⟨_,h2⟩
   ·exact name_of_addr hc.apart (PySem.mem_of_lookup h1) (PySem.mem_of_lookup h2)
   grind
  ·rcases Ybg h2 with h2|⟨_,h2⟩
   ·grind
   ·exact I.ok.inj x y c (sub x c h1) (sub y c h2)
 ·show ∃c,(own++clOf X.env scope.names []).lookup x=some c
  rw[Yoi]
  cases e:own.lookup x with
  | some c=>grind
  | none=>
    rcases Ylu hx with hm|hm
    ·obtain⟨c,hc⟩:=I.ok.has x (S.fr _ hm rfl)
     exact Yio (Yin scope.names [] x c hm hc)
    ·obtain⟨c,hc⟩:=has x (S.cellU _ hm rfl)
     grind
 ·have z':scope.names.lookup x=some NameKind.cell:=by simpa using z
  obtain⟨d,hd⟩:=has x z';rcases Ybg e with e|⟨e,_⟩
  ·grind
  grind
 ·rcases Ybg e with e|⟨_,e⟩
  ·grind
  ·exact(hf b hb).2.2.2.2.1 x c (sub x c e)
 ·rcases(hf b hb).2.2.2.1 with z|z
  ·exact I.ok.noex b o e z
  ·exact absurd (Qc (ql e) (Qh I.ok.bsz z)) (Nat.lt_irrefl _)
 ·have hi:i<src.length:=by
   have:=(qo h2).1;unfold capσ at this;grind
  have hs:src[i]?=some src[i]:=qq hi;unfold capσ at h2;rw[Qi,hs]at h2;have h2':(src[i].bind λj=>(σ[j]?).join)=some v:=w6 h2;cases q:src[i]with
  | none=>grind
  | some j=>
    rw[q]at h2' hs;have h2'':(σ[j]?).join=some v:=h2';obtain⟨hx,hfr⟩:=S.cap i j x h1 hs;obtain⟨m,_,hl⟩:=I.loc;have hk2:X.env.kindOf x=some NameKind.cell\/X.env.kindOf x=some NameKind.free:=S.fr (x,NameKind.free) (PySem.mem_of_lookup hfr) rfl
    have hσ:σ[j]?=some (some v):=by
     grind
    obtain⟨u,r,l⟩:=hl j x v hx hσ (.inr hk2);refine⟨u,r,.inr ⟨Yh2 hfr hk2,?_⟩⟩;rcases l with⟨z,_⟩|⟨_,c,hc,hcell⟩
    ·grind
    ·obtain⟨d,hd⟩:=Yio (Yin (env:=X.env) scope.names [] x c (PySem.mem_of_lookup hfr) hc)
     have e2:=sub x d hd;rw[hc]at e2;cases e2;refine⟨c,?_,hcell.keeps hk⟩;show(own++clOf X.env scope.names []).lookup x=some c;grind
 ·rcases Ybg e with e|⟨_,e⟩
  ·exact⟨_,(hc.empty x c (PySem.mem_of_lookup e)).1⟩
  ·obtain⟨v,q⟩:=I.cell x c (sub x c e)
   exact⟨v,q.keeps hk⟩
 ·rcases Ybg e with e|⟨_,e⟩
  ·exact I.hok.fresh (Nat.le_of_lt (owl x c e))
  ·exact I.freeC x c (sub x c e)
 ·unfold capσ
  rw[qf];exact S.len
def y41{σ σ1:St}(I:Inv X pins σ H s)(hf:∀b∈fp,FpOk X pins H b)(J:Inv (Ya3 X scope N cl C fp s H) pn σ1 H' s'):Inv X pins σ H' s':=
 I.call' J.os J.base J.hok J.bare λb hb=>⟨(hf b hb).2.2.2.1,(hf b hb).2.1,(hf b hb).2.2.2.2.1,(hf b hb).2.2.2.2.2⟩
def Yrr{σ:St}{Q:VK}{R:Value->Addr->Result->Shared->Prop}(S:aMc X.N X.env.scope N src scope)(hc:X.calm=true)(hg:∀cl C fp s H,PG (Ya3 X scope N cl C fp s H) tg g)(hi:∀cl C fp s H,PIfs (Ya3 X scope N cl C fp s H) ifs ti)(he:∀cl C fp s H,PE (Ya3 X scope N cl C fp s H) elt te)(I:Inv X pins σ H s)(T:Turn X.prog X.w X.K tg J fp it tn)(st:tn 0 s.heap)(hf:∀b∈fp,FpOk X pins H b)(h:∀p,H p=none->∃W:Nat->Nat->St->Hp->Prop,(∃m,W 0 m (capσ src σ) (upd H p (.lst [])))/\∀i m σ1 H2,W i m σ1 H2->
  (J.stop i H2/\Q (.ref p) H2)\/
  (J.go i H2/\∀x H3,J.yld i H2 x H3->g x σ1 H3 λσ4 H4=>ti σ4 H4 λb H5=>if b=true then te σ4 H5 λv H6=>∃xs,H6 p=some (.lst xs)/\xs.length<sizeLine/\∃m',m'<m/\W (i+1) m' σ4 (upd H6 p (.lst (xs++[v])))else ∃m',m'<m/\W (i+1) m' σ4 H5))(hR:∀(D C:Addr) (s':Shared) (H':Hp) (m:AE),Inv X pins σ H' s'->s'.heap.Ns C m->H' C=none->C≠X.env.locals->X.s₀.heap.objs.size<=C->(∀x c,X.env.cells.lookup x=some c->c≠C)->(∀p∈X.pn++pins,p.1≠C)->Q (.ref D) H'->R (.ref D) C (.ok .next) s'):
 wpAny (mZ X.prog X.w) X.A (newList []) (λacc s₃=>wpAny (mZ X.prog X.w) X.A (newFunctionEnv scope X.env.globals (clOf X.env scope.names []) [] X.env.qual none .none (some X.env)) (λcenv s₄=>
  codeAny (mZ X.prog X.w) X.A (.compStart (.ListComp elt [⟨tg,iter,ifs,0⟩] scope pos) 0 (.ref it) acc { cenv with scope:=relabel scope X.env }) (R acc cenv.locals) s₄) E s₃) E s:=by
 refine wg (Yud ?_);have hfree:H (~~~s)=none:=I.fresh;obtain⟨W,⟨m0,w0⟩,turn⟩:=h (~~~s) hfree;have I3:Inv X pins σ (upd H (~~~s) (.lst [])) { s with heap:=s.heap.push { cls:=.type "list",dict:=none,data:=.seq ([]:AD).toArray },toks:=s.toks }:=I.lnew (ys:=[]) (its:=[]) .nil (Qf _);generalize hD:(~~~s)=Dd at *;generalize hH3:upd H Dd (.lst [])=H3 at *;have kp0:∀b o,s.heap.get? b=some o->(s.heap.push { cls:=.type "list",dict:=none,data:=.seq ([]:AD).toArray }).get? b=some o:=λb o e=>qe _ e
 have lt0:∀b o,s.heap.get? b=some o->b≠Dd:=λb o e=>by rw[<-hD];exact qm (ql e)
 generalize hs3:s.heap.push { cls:=.type "list",dict:=none,data:=.seq ([]:AD).toArray }=hp3 at *
 have f3:∀b∈fp,FpOk X pins H3 b:=λb hb=>by
  obtain⟨o,e,_⟩:=T.obj _ _ st b hb;refine⟨?_,(hf b hb).2⟩;rw[<-hH3,Yaa (lt0 b o e)];exact(hf b hb).1
 have ob3:∀b∈fp,∃o,hp3.get? b=some o:=λb hb=>by
  obtain⟨o,e,_⟩:=T.obj _ _ st b hb;exact⟨o,kp0 b o e⟩
 dsimp only;have hns₁:(pushCells (hp3.push { cls:=.type "dict",data:=.dict #[] }) scope.names).Ns hp3.objs.size (λ_=>none):=(Heap.Ns.new hp3 (.type "dict")).keeps (pushCells_keeps _ _);have old:∀b o,hp3.get? b=some o->(pushCells (hp3.push { cls:=.type "dict",data:=.dict #[] }) scope.names).get? b=some o:=λb o e=>pushCells_keeps _ _ b o (qe _ e);have cok:=cellsFrom_ok scope.names (hp3.push { cls:=.type "dict",data:=.dict #[] }) (hp3.objs.size+1) [] ⟨λ_ _ hm=>(nomatch hm),List.Pairwise.nil⟩ (by rw[ww];exact qu _);rw[ww]at cok;have chas:∀x,scope.names.lookup x=some NameKind.cell->∃c,(cellsFrom (hp3.objs.size+1) scope.names []).lookup x=some c:=λx hx=>Option.isSome_iff_exists.mp (PySem.W.cellsFrom_some _ _ _ (.inl hx));have cmem:∀x c,(x,c)∈cellsFrom (hp3.objs.size+1) scope.names []->(x,NameKind.cell)∈scope.names:=λx c h=>Yfk _ _ x c h;generalize cellsFrom (hp3.objs.size+1) scope.names []=own,pushCells (hp3.push { cls:=.type "dict",data:=.dict #[] }) scope.names=h₁ at *
 have I4:Inv (Ya3 X scope N (own++clOf X.env scope.names []) hp3.objs.size fp { s with heap:=hp3,toks:=s.toks } H3) [] (capσ src σ) H3 { s with heap:=h₁,toks:=s.toks }:=
  Yx4 (s:={ s with heap:=hp3,toks:=s.toks }) (tk:=s.toks) S I3 f3 ob3 hns₁ old cok cmem chas
 have st4:tn 0 h₁:=T.keep _ _ _ st λb _ o e=>old b o (kp0 b o e);have hCl:hp3.objs.size≠X.env.locals:=Nat.ne_of_gt I3.lt
 have hCc:∀x c,X.env.cells.lookup x=some c->c≠hp3.objs.size:=λx c e=>by
  obtain⟨v,q⟩:=I3.cell x c e;exact qm q.lt
 have hCp:∀p∈X.pn++pins,p.1≠hp3.objs.size:=λp hp=>qm (ql (I3.pin p hp).1)
 have stat:∀{H':Hp},(∀b∈fp,H' b=none)->∀b∈fp,FpOk (Ya3 X scope N (own++clOf X.env scope.names []) hp3.objs.size fp { s with heap:=hp3,toks:=s.toks } H3) [] H' b:=λ{H'} hn b hb=>by
  obtain⟨e1,e2⟩:=I4.ok.exf b hb;exact⟨hn b hb,e1,I4.ok.exfs b hb,.inl hb,e2,λp hp=>nomatch hp⟩
 have loop:codeAny (mZ X.prog X.w) X.A (.compLoop (.ListComp elt [⟨tg,iter,ifs,0⟩] scope pos) 0 (.ref it) (.ref Dd) (compEnvC scope (own++clOf X.env scope.names []) hp3.objs.size X.env)) (R (.ref Dd) hp3.objs.size) { s with heap:=h₁,toks:=s.toks }:=by
  refine Yhk (λn s'=>∃i σ' H',Inv (Ya3 X scope N (own++clOf X.env scope.names []) hp3.objs.size fp { s with heap:=hp3,toks:=s.toks } H3) [] σ' H' s'/\tn i s'.heap/\(∀b∈fp,H' b=none)/\W i n σ' H') ?_ m0 ⟨0,_,H3,I4,st4,λb hb=>(f3 b hb).1,w0⟩;rintro n s3 ⟨i,σ3,H3',I3',st3,fr3,w3⟩;rcases turn i n σ3 H3' w3 with⟨stop,qn⟩|⟨go,step⟩
  ·refine thn (T.done (Ya3 X scope N (own++clOf X.env scope.names []) hp3.objs.size fp { s with heap:=hp3,toks:=s.toks } H3) rfl rfl rfl hc i [] s3 σ3 H3' _ I3' (stat fr3) st3 stop) λr s4 hx_=>?_
   obtain⟨hr,I5⟩:=hx_;subst hr;obtain⟨m,hm,_⟩:=I5.loc;exact hR Dd hp3.objs.size s4 H3' m (y41 I3 f3 I5) hm I5.free hCl (Qh I3.sz (qu _)) hCc hCp qn
  ·refine thn (T.item (Ya3 X scope N (own++clOf X.env scope.names []) hp3.objs.size fp { s with heap:=hp3,toks:=s.toks } H3) rfl rfl rfl hc i [] s3 σ3 H3' _ I3' (stat fr3) st3 go) λr s4 hx_=>?_
   obtain⟨u,hr,h4⟩:=hx_;subst hr;refine thn h4 λ_ s5 hx_=>?_;obtain⟨x,H5,I5,r5,y5,st5,fr5⟩:=hx_;have I5':=I5.pinned (stat fr5) (T.obj _ _ st5);have un:∀{α:Type}{t:Sem α}{Q':α->Shared->Prop}{E':AB}{s':Shared},wpAny (mZ X.prog X.w) X.A t Q' (λ_ _=>False) s'->wpAny (mZ X.prog X.w) X.A t Q' E' s':=λh=>w5 h (λ_ _ q=>q) λ_ _ f=>f.elim;refine un (thn (hg _ _ _ _ _ _ s5 σ3 H5 x u _ I5' r5 (step x H5 y5)) λ_ s6 hx_=>?_);obtain⟨σ6,H6,I6,q6⟩:=hx_;refine un (thn (hi _ _ _ _ _ _ s6 σ6 H6 _ I6 q6) λok s7 hx_=>?_);obtain⟨H7,I7,q7⟩:=hx_
   have again:∀{H8:Hp}{s8:Shared}{m':Nat},m'<n->Inv (Ya3 X scope N (own++clOf X.env scope.names []) hp3.objs.size fp { s with heap:=hp3,toks:=s.toks } H3) ([]++Yrh fp s5.heap) σ6 H8 s8->W (i+1) m' σ6 H8->
    ∃m,m<n/\∃i σ' H',Inv (Ya3 X scope N (own++clOf X.env scope.names []) hp3.objs.size fp { s with heap:=hp3,toks:=s.toks } H3) [] σ' H' s8/\tn i s8.heap/\(∀b∈fp,H' b=none)/\W i m σ' H':=λ{H8 s8 m'} hm I8 w8=>by
    refine⟨m',hm,i+1,σ6,H8,I8.unpinned,T.keep _ _ _ st5 λb hb o e=>(I8.pin (b,o) (Qk _ (Qk _ (Yg4 hb e)))).1,λb hb=>?_,w8⟩;obtain⟨o,e,d⟩:=T.obj _ _ st5 b hb;exact(I8.pin (b,o) (Qk _ (Qk _ (Yg4 hb e)))).2.1
   cases ok with
   | false=>
     rw[if_neg qi]at q7 ⊢;obtain⟨m',hm,w7⟩:=q7;exact again hm I7 w7
   | true=>
     rw[if_pos rfl]at q7 ⊢;refine un (thn (he _ _ _ _ _ _ s7 σ6 H7 _ I7 q7) λy s8 hx_=>?_);obtain⟨v,H8,I8,r8,q8⟩:=hx_;obtain⟨xs,e8,z8,m',hm,w8⟩:=q8;refine un (thn (Yrq _ s8 σ6 H8 (.ref Dd) [v] (.ref Dd) [y] (λ_ H9=>H9=upd H8 Dd (.lst (xs++[v]))) I8 rfl (.cons r8 .nil) ⟨Dd,xs,v,rfl,rfl,e8,z8,rfl⟩) λ_ s9 hx_=>?_);obtain⟨_,H9,I9,_,q9⟩:=hx_;subst q9;exact again hm I9 w8
 exact codeAny_compStart_list loop (T.self _ _ _ _ _ st4 loop)
def y83(S:aMc X.N X.env.scope N src scope)(hc:X.calm=true)(hit:PI X tg iter wi)(hg:∀cl C fp s H,PG (Ya3 X scope N cl C fp s H) tg g)(hi:∀cl C fp s H,PIfs (Ya3 X scope N cl C fp s H) ifs ti)(he:∀cl C fp s H,PE (Ya3 X scope N cl C fp s H) elt te)(hs:∀x,foldedSetIterable iter X.env x=pure x:=by intro _;rfl):PE X (.ListComp elt [⟨tg,iter,ifs,0⟩] scope pos) (tLC wi src g ti te):=by
 intro pins s σ H Q I h;rw[eval_ListComp];have hcl:closureFor scope X.env=pure (clOf X.env scope.names []):=Ygh λy hy hf=>I.ok.has y.1 (S.fr y hy hf);refine wpAny_comprehension_free (use:=none) rfl hs hcl S.kind S.names ?_;refine thn (hit pins s σ H _ I h) λv s1 h1=>thn h1 λitv s2 hx_=>?_;obtain⟨it,fp,tn,J,H2,e,I2,T,st2,f2,q⟩:=hx_;subst e;refine Yrr (Q:=Q) (R:=λacc C=>compPost (mZ X.prog X.w) X.A X.xe none (EP X pins σ Q) acc C) S hc hg hi he I2 T st2 f2 q λD C s' H' m I' hm hC hCl hCs hCc hCp hq=>?_;refine⟨m,hm,λh' sb=>?_⟩;exact⟨.ref D,H',I'.turned (t':=s'.toks) (λb o hb e=>(sb.2 b hb).trans e) hC hCl (.inr hCs) hCc hCp,rfl,hq⟩
theorem y84{py spos:Pos}(S:aMc X.N X.env.scope N src scope)(hc:X.calm=true)(hit:PI X tg iter wi)(hg:∀cl C fp s H,PG (Ya3 X scope N cl C fp s H) tg g)(hi:∀cl C fp s H,PIfs (Ya3 X scope N cl C fp s H) ifs ti)(he:∀cl C fp s H,PE (Ya3 X scope N cl C fp s H) elt te)(hN:X.N.Nodup)(hy:X.N[i]?=some y)(hx:Loc X.env.scope y)(hsw:swapsWith (.ListComp elt [⟨tg,iter,ifs,0⟩] scope pos) (some (.Name y py)) spos.line X.env=pure true)(hf:X.fn y=true\/X.env.scope.names.lookup y=some .local:=by trivial)(hs:∀x,foldedSetIterable iter X.env x=pure x:=by intro _;rfl):PS X (.Assign [.Name y py] (.ListComp elt [⟨tg,iter,ifs,0⟩] scope pos) spos) (tAsg (tLC wi src g ti te) (Yxx i)):=by
 intro pins s σ H D I h;rw[exec_Assign_Name_used _ _ _ _ hsw];refine wa (wpAny_standAt (wa ?_));show wpAny _ X.A (do let _ <-comprehension (.ListComp elt [⟨tg,iter,ifs,0⟩] scope pos) scope X.env _ (newList []) false (eval iter X.env) (some (assign (.Name y py) X.env))) _ _ s;have hcl:closureFor scope X.env=pure (clOf X.env scope.names []):=Ygh λy hy hf=>I.ok.has y.1 (S.fr y hy hf);refine wa (w5 (wpAny_comprehension_free (use:=some (assign (.Name y py) X.env)) (Q:=λ_ s'=>SP X pins D .next s') rfl hs hcl S.kind S.names ?_) (λ_ s' hq=>wb (wb hq)) λ_ _ e=>e);refine thn (hit pins s σ H _ I h) λv s1 h1=>thn h1 λitv s2 hx_=>?_;obtain⟨it,fp,tn,J,H2,e,I2,T,st2,f2,q⟩:=hx_;subst e;refine Yrr (Q:=λx H1=>Yxx i x σ H1 D.nx) (R:=λacc C=>compPost (mZ X.prog X.w) X.A X.xe (some (assign (.Name y py) X.env)) (λ_ s'=>SP X pins D .next s') acc C) S hc hg hi he I2 T st2 f2 q λDd C s' H' m I' hm hC hCl hCs hCc hCp hq=>?_;show wpAny _ X.A (assign (.Name y py) X.env (.ref Dd)) _ _ s';refine wpAny_assign_Name (Yrg I' hN hy hx (v:=.ref Dd) rfl (λs'' I'' hsb=>?_) hf);obtain⟨a,sb,ha⟩:=hsb
 have hCa:C≠a:=by
  grind
 refine⟨m,hm.sameBut sb hCa,λh' sb'=>?_⟩;exact⟨_,H',I''.turned (t':=s''.toks) (λb o hb e=>(sb'.2 b hb).trans e) hC hCl (.inr hCs) hCc hCp,hq⟩
end
end L2
namespace M
open PySem PySem.Spec PyProof.Rows L2
section
section
def Rise(xs:Array Nat):Prop:=xs.toList.Pairwise (·<·)
theorem Ypj(hr:Rise xs)(j:Nat):∀(fuel lo hi:Nat),lo<=hi->hi<=xs.size->hi-lo<=fuel->
 (∀(i:Nat) (h:i<xs.size),i<lo->xs[i]<j)->(∀(i:Nat) (h:i<xs.size),hi<=i->j<=xs[i])->
 SetTable.below.go xs j fuel lo hi<=xs.size/\(∀(i:Nat) (h:i<xs.size),i<SetTable.below.go xs j fuel lo hi->xs[i]<j)/\(∀(i:Nat) (h:i<xs.size),SetTable.below.go xs j fuel lo hi<=i->j<=xs[i])
 | 0,lo,hi,h1,h2,h3,h4,h5=>by
   have e:lo=hi:=by lia
   subst e;rw[SetTable.below.go];exact⟨h2,h4,h5⟩
 | fuel+1,lo,hi,h1,h2,h3,h4,h5=>by
   have mono:∀(i k:Nat) (hi:i<xs.size) (hk:k<xs.size),i<k->xs[i]<xs[k]:=λi k hi hk h=>by
    have:=List.pairwise_iff_getElem.mp hr i k (by simpa using hi) (by simpa using hk) h;simpa using this
   rw[SetTable.below.go];by_cases hl:lo<hi
   ·rw[if_pos hl]
    have hm:(lo+hi)/2<xs.size:=by lia
    have hg:xs.getD ((lo+hi)/2) j=xs[(lo+hi)/2]:=by simp[Array.getD,hm]
    dsimp only;rw[hg];by_cases hlt:xs[(lo+hi)/2]<j
    ·rw[if_pos hlt]
     refine Ypj hr j fuel _ _ (by lia) h2 (by lia) (λi hi' hh=>?_) h5;by_cases e:i=(lo+hi)/2
     ·subst e;exact hlt
     ·exact Nat.lt_trans (mono i _ hi' hm (by lia)) hlt
    ·rw[if_neg hlt]
     refine Ypj hr j fuel _ _ (by lia) (by lia) (by lia) h4 (λi hi' hh=>?_);by_cases e:i=(lo+hi)/2
     ·subst e;lia
     ·have:=mono _ i hm hi' (by lia)
      lia
   ·rw[if_neg hl]
    have e:lo=hi:=by lia
    subst e;exact⟨h2,h4,h5⟩
theorem Yoj(hr:Rise xs)(j:Nat):SetTable.below xs j<=xs.size/\(∀a∈xs.toList.take (SetTable.below xs j),a<j)/\(∀a∈xs.toList.drop (SetTable.below xs j),j<=a):=by
 obtain⟨h1,h2,h3⟩:=Ypj hr j xs.size 0 xs.size (Qf _) (qu _) (by lia) (λi _ h=>absurd h (Nat.not_lt_zero _)) (λi h h'=>absurd h (by lia));have e:SetTable.below xs j=SetTable.below.go xs j xs.size 0 xs.size:=rfl;rw[e];refine⟨h1,λa ha=>?_,λa ha=>?_⟩
 ·obtain⟨i,hi,rfl⟩:=List.mem_iff_getElem.mp ha
  grind
 ·obtain⟨i,hi,rfl⟩:=List.mem_iff_getElem.mp ha
  grind
def Yip(xs:Array α)(p:Nat)(x:α):(SetTable.insertAt xs p x).toList=xs.toList.take p++x::xs.toList.drop p:=by
 unfold SetTable.insertAt;simp[Array.toList_extract,List.extract_eq_drop_take];exact List.take_of_length_le (by simp)
theorem Yue(hr:Rise xs)(j:Nat)(hn:xs[SetTable.below xs j]?≠some j):Rise (SetTable.insertAt xs (SetTable.below xs j) j):=by
 obtain⟨h1,h2,h3⟩:=Yoj hr j;unfold Rise at hr ⊢;rw[Yip];generalize hp:SetTable.below xs j=p at h1 h2 h3 hn ⊢;rw[<-Array.getElem?_toList]at hn;generalize xs.toList=l at hr h2 h3 hn ⊢;have hr2:=hr;rw[<-List.take_append_drop p l,List.pairwise_append]at hr;obtain⟨r1,r2,r3⟩:=hr
 have hgt:∀a∈l.drop p,j<a:=by
  cases hd:l.drop p with
  | nil=>grind
  | cons b r=>
    rw[hd]at r2 h3
    have hb:l[p]?=some b:=by
     have:(l.drop p)[0]?=some b:=by rw[hd];rfl
     grind
    have hjb:j<b:=Nat.lt_of_le_of_ne (h3 b qh) (λz=>hn (by rw[hb,z]));intro a ha;rcases qt ha with rfl|ha
    ·exact hjb
    ·exact Nat.lt_trans hjb ((List.pairwise_cons.mp r2).1 a ha)
 rw[List.pairwise_append]
 simp_all
theorem y0d{t:SetTable}(h:∀i,t.slot j≠.live i):t.place[SetTable.below t.place j]?≠some j:=λz=>by
 refine h (SetTable.below t.place j) ?_;unfold SetTable.slot;grind
theorem Yjs:∀(fuel:Nat) (p:SetTable.Probe) {j:Nat}{d:AN},(∀x,p.dummy=some x->∀i,t.slot x≠.live i)->
 SetTable.probe.go t ha h fuel p=some (.empty j d)->∀i,t.slot (d.getD j)≠.live i
 | 0,p,j,d,_,e=>by rw[SetTable.probe.go]at e;cases e
 | fuel+1,p,j,d,hd,e=>by
   rw[SetTable.probe.go]at e
   split at e
   ·rename_i hs
    cases e;intro i
    cases hp:p.dummy with
    | none=>grind
    | some x=>grind
   ·rename_i hs
    refine Yjs fuel _ (λx hx i=>?_) e
    have hx':x=p.j:=by
     unfold SetTable.advance at hx;grind
    grind
   ·split at e
    ·cases e
    ·refine Yjs fuel _ (λx hx i=>hd x ?_ i) e
     unfold SetTable.advance at hx;grind
def Tab(bt:Bool)(t:SetTable):Prop:=(bt=false->t.led=true)/\(t.plain=true->Rise t.place)
def Tab.standIn(h:Tab bt t)(n:Nat):Tab bt (t.standIn n):=⟨h.1,λz=>nomatch z⟩
def Tab.off(h:Tab bt t):Tab bt { t with plain:=false }:=⟨h.1,λz=>nomatch z⟩
def Tab.fresh:Tab bt (.fresh 0 0 (!bt)):=⟨λh=>by subst h;rfl,λ_=>.nil⟩
def Tab.layNew(h:Tab bt t)(es:Array (Int×Value))(hh:Int)(x:Value):Tab bt (PySem.layNew t es hh x).2.1:=by
 unfold PySem.layNew
 split
 ·rename_i slot wd hf
  dsimp only;unfold SetTable.orStandIn
  split
  ·refine⟨h.1,λz=>?_⟩
   refine Yue (h.2 z) slot (y0d ?_);unfold SetTable.freeSlot at hf
   split at hf
   ·rename_i j dummy hp
    cases hf;exact Yjs _ _ (λx hx=>by simp[SetTable.probeStart]at hx) hp
   ·cases hf
  ·exact⟨h.1,λz=>nomatch z⟩
 ·exact h.standIn _
theorem Ylv{led plain:Bool}(h:SetTable.laid mask finger moves led plain hs=some (t,o)):Rise t.place/\t.led=led/\t.plain=plain:=by
 unfold SetTable.laid at h;obtain⟨owner,_,h⟩:=qa h;cases h;refine⟨?_,rfl,rfl⟩;unfold Rise;show(((List.range (mask+1)).filterMap λj=>(owner.getD j none).map (j,·)).map (·.1)).Pairwise (·<·);rw[List.map_filterMap];refine List.Pairwise.filterMap _ (λa b hab x hx y hy=>?_) List.pairwise_lt_range
 simp_all
def Tab.relayAll(h:Tab bt t)(es:Array (Int×Value))(n:Nat):Tab bt (PySem.relayAll t es n).2.1:=by
 unfold PySem.relayAll
 split
 ·rename_i t' order hr
  obtain⟨h1,h2,h3⟩:=Ylv hr;dsimp only
  split
  ·exact⟨λz=>by rw[h2];exact h.1 z,λ_=>h1⟩
  ·exact h.standIn _
 ·exact h.standIn _
end
end
section
section
variable {prog:P7}{w:World}{A:Around}{E:AB}{s:Shared}
def kOf(e:Int×Value):Int:=match e.2 with
 | .int n _=>n
 | _=>0
abbrev byT(w:World):Bool:=w.params.followText "set-order"
def SetI(prog:P7)(w:World)(h:Heap)(a:Addr)(ns:AH):Prop:=
 ∃o es ep t,h.get? a=some o/\o.ExactSet/\o.data=.set es ep t/\ElemsOf (intKind prog w) es.toList/\es.toList.map kOf=ns/\ns.Nodup/\es.size<scanBound/\t.fits es.size=true/\Tab (byT w) t
def y0e(h:(intKind prog w).is k e.2=true):kOf e=k:=by
 obtain⟨t,ht⟩:=Value.isInt_shape h;unfold kOf;rw[ht]
def Yg7(h:ElemsOf (intKind prog w) es)(he:e∈es):∃t,e=(hashInt (kOf e),.int (kOf e) t):=by
 obtain⟨⟨k,hk,hh⟩,_⟩:=h e he;have hk':=y0e hk;obtain⟨t,ht⟩:=Value.isInt_shape hk;refine⟨t,?_⟩;rw[hk'];exact Prod.ext hh ht
def SetI.at(x:SetI prog w h a ns)(e:∀o,h.get? a=some o->h'.get? a=some o):SetI prog w h' a ns:=
 let ⟨o,es,ep,t,ho,r⟩:=x
 ⟨o,es,ep,t,e o ho,r⟩
theorem SetI.len(x:SetI prog w h a ns):ns.length<scanBound:=by
 obtain⟨o,es,ep,t,ho,hex,hd,hel,hns,hnd,hb,_⟩:=x;grind
def Yh3{h:Heap}(ho:h.get? a=some o)(hd:o.data=.set es ep t)(es':Array (Int×Value))(t':SetTable):
 (h.update a (Obj.putSet es' t')).get? a=some { o with data:=.set es' (ep+1) t' }:=by
 have:=wy (Obj.putSet es' t') ho (by rw[putSet_of es' t' hd];rfl);rw[putSet_of es' t' hd]at this;exact this
def Ywf{g:Bool->Sem Unit}(hg:∀(b:Bool) (s₁:Shared) (Q':Unit->Shared->Prop),Q' () s₁->wpAny (mZ prog w) A (g b) Q' E s₁)(ho:s.heap.get? a=some o)(hex:o.ExactSet)(hd:o.data=.set es ep t)(hel1:ElemsOf (intKind prog w) es1.toList)(hms:(es1.toList.map kOf).Perm ms)(hnd:ms.Nodup)(hb1:es1.size<scanBound)(hf2:t2.fits es1.size=true)(ht2:Tab (byT w) t2)(h:∀h' ns',Heap.SameBut a s.heap h'->SetI prog w h' a ns'->ns'.Perm ms->R (some true) { s with heap:=h' }):
  wpAny (mZ prog w) A (do
   storeSet a es1 t2
   if (!wasDummy&&t2.tooFull)=true then do
       g (relayAll t2 es1 (SetTable.grown es1.size)).2.2
       storeSet a (relayAll t2 es1 (SetTable.grown es1.size)).1 (relayAll t2 es1 (SetTable.grown es1.size)).2.1
       pure (some true)
    else pure (some true)) R E s:=by
  refine wa (wpAny_storeSet_of ho hd ?_ (fits_of_scanBound hb1));have ho1:=Yh3 ho hd es1 t2;have hsb1:=wv s.heap a (Obj.putSet es1 t2)
  split
  ·have hp:=relayAll_perm t2 es1 (SetTable.grown es1.size)
   have hfr:=relayAll_fits t2 es1 (SetTable.grown es1.size);have htr:=ht2.relayAll es1 (SetTable.grown es1.size);generalize hRl:relayAll t2 es1 (SetTable.grown es1.size)=Rl at hp hfr htr ⊢;obtain⟨es2,t3,gave2⟩:=Rl;dsimp only at hp hfr htr ⊢;have hel2:ElemsOf (intKind prog w) es2.toList:=hel1.perm hp
   have hsz:es2.size=es1.size:=by rw[<-qj,hp.length_eq,qj]
   have hb2:es2.size<scanBound:=by rw[hsz];exact hb1
   have hp2:=(hp.map kOf).trans hms;refine wa (hg _ _ _ ?_);refine wa (wpAny_storeSet_of ho1 rfl ?_ (fits_of_scanBound hb2));have ho2:=Yh3 ho1 rfl es2 t3;exact wb (h _ _ (hsb1.trans (wv _ a _)) ⟨_,es2,_,t3,ho2,hex,rfl,hel2,rfl,hp2.nodup_iff.mpr hnd,hb2,hfr,htr⟩ hp2)
  ·exact wb (h _ _ hsb1 ⟨_,es1,_,t2,ho1,hex,rfl,hel1,rfl,hms.nodup_iff.mpr hnd,hb1,hf2,ht2⟩ hms)
theorem y0f(hS:SetI prog w s.heap a ns)(hroom:ns.length+1<scanBound)(h:∀h' ns',Heap.SameBut a s.heap h'->SetI prog w h' a ns'->ns'.Perm (if k∈ns then ns else ns++[k])->Q (!decide (k∈ns)) { s with heap:=h' }):
 wpAny (mZ prog w) A (setAddHashed a (.int k u) (hashInt k)) Q E s:=by
 have hS0:=hS;obtain⟨o,es,ep,t,ho,hex,hd,hel,hns,hnd,hb,hf,ht⟩:=hS;have hkey:(intKind prog w).is k (.int k u)=true:=intKind_is _ _ _ _;have hsc:(Value.int k u).scannable=true:=rfl
 have hsz:es.size=ns.length:=by grind
 unfold setAddHashed setAddHashedIn;refine wc (wa (wj ho hd hf ?_));dsimp only;rw[byScan_of hsc hb hel];simp only[↓reduceIte];unfold setAddByScan;refine wa ?_;refine wa (wpAny_rule ?_);refine wa (wpAny_setScan_of (knd:=intKind prog w) (k:=k) hkey ho hd hf hel ?_)
 cases hr:List.findIdx? (λe=>(intKind prog w).is k e.2) es.toList with
 | some j=>
   dsimp only;obtain⟨hj,hpj,_⟩:=List.findIdx?_eq_some_iff_getElem.mp hr
   have hk:k∈ns:=by
    rw[<-hns,<-y0e hpj];grind
   refine wb (wb ?_)
   have e:s={ s with heap:=s.heap }:=by cases s;rfl
   have:=h s.heap ns (Heap.SameBut.refl a s.heap) hS0 (by grind)
   simp_all
 | none=>
   dsimp only
   have hk:k∉ns:=λhk=>by
    rw[<-hns]at hk;obtain⟨e,he,hke⟩:=qw hk;have h1:=List.findIdx?_eq_none_iff.mp hr e he;obtain⟨t',ht'⟩:=Yg7 hel he;rw[ht',hke]at h1;have h2:(intKind prog w).is k (.int k t')=true:=intKind_is _ _ _ _;grind
   have hgw:∀(b:Bool) {s₁:Shared}{Q':Unit->Shared->Prop},Q' () s₁->wpAny (mZ prog w) A (match b with|true=>rule "set.scan.the-table-gave-way" | false=>pure ()) Q' E s₁:=
    λb s₁ Q' hq=>by cases b<;>first|exact wb hq|exact wpAny_rule hq
   have hperm:=layNew_perm t es (hashInt k) (.int k u);have hfits:=layNew_fits t es (hashInt k) (.int k u);have htab:=ht.layNew es (hashInt k) (.int k u)
   show wpAny (mZ prog w) A (do
    let (es,t,wasDummy,gave):=PySem.layNew t es (hashInt k) (.int k u)
    _) _ _ _
   generalize hL:layNew t es (hashInt k) (.int k u)=L at hperm hfits htab ⊢;obtain⟨es1,t1,wasDummy,gave⟩:=L;dsimp only at hperm hfits htab ⊢;rw[Array.toList_push]at hperm;have hel1:ElemsOf (intKind prog w) es1.toList:=(hel.push (knd:=intKind prog w) (k:=k) hkey hsc).perm hperm
   have hb1':es1.size<scanBound:=by rw[<-qj,hperm.length_eq,qx,qj];simp;lia
   have hms:(es1.toList.map kOf).Perm (ns++[k]):=by
    have:=hperm.map kOf;rw[wt,hns]at this;exact this
   have hnd1:(ns++[k]).Nodup:=by
    grind
   have hend:∀h' ns',Heap.SameBut a s.heap h'->SetI prog w h' a ns'->ns'.Perm (ns++[k])->Q true { s with heap:=h' }:=by
    grind
   refine wa (hgw _ ?_)
   split
   ·refine wa ?_
    rw[hashByValue_scannable 8 hsc];refine wb ?_;refine Ywf ?_ ho hex hd hel1 hms hnd1 hb1' ?_ ?_ ?_
    ·intro b s₁ Q' hq;cases b<;>first|exact wb hq|exact wpAny_rule hq
    ·split
     ·exact hfits
     ·exact SetTable.fits_plain_off hfits
    ·split
     ·exact htab
     ·exact htab.off
    ·intro h' ns' hsb hS' hp;dsimp only;exact wb (hend h' ns' hsb hS' hp)
   ·refine wa (wb ?_)
    simp only[↓reduceIte];refine Ywf ?_ ho hex hd hel1 hms hnd1 hb1' hfits htab ?_
    ·intro b s₁ Q' hq;cases b<;>first|exact wb hq|exact wpAny_rule hq
    ·intro h' ns' hsb hS' hp;dsimp only;exact wb (hend h' ns' hsb hS' hp)
end
def ddup:AH->AH->AH
 | acc,[]=>acc
 | acc,k::r=>ddup (if k∈acc then acc else acc++[k]) r
theorem Yrs:∀(r a b:AH),a.Perm b->(ddup a r).Perm (ddup b r)
 | [],_,_,h=>h
 | k::r,a,b,h=>by
   rw[ddup,ddup];refine Yrs r _ _ ?_;grind
section
variable {prog:P7}{w:World}{A:Around}{R:Result->Shared->Prop}{I:Addr}{fp wr:List Addr}{G:Array GenState->Array GenState->Prop}{n:Nat}{P:Nat->Value->Prop}{St:Nat->Shared->Prop}
theorem Ywg(W:WalksS prog w A.in1 I fp wr G n P St)(S:Addr)(hSf:S∉fp)(ms:AH)(hn:ms.length=n)(hval:∀i v,P i v->∃t,v=.int (ms.getD i 0) t)(hb:n+1<scanBound):
 ∀(k i:Nat) (s:Shared) (ns:AH),n-i=k->i<=n->St i s->ns.length<=i->SetI prog w s.heap S ns->
  (∀s' ns',Moved (S::wr) G s s'->SetI prog w s'.heap S ns'->ns'.Perm (ddup ns (ms.drop i))->R (.ok (.ret .none)) s')->
  codeAny (mZ prog w) A (.builtin "set.update.loop" ⟨[.ref S,.ref I],[]⟩) R s:=by
 have hSw:S∉wr:=λh=>hSf (W.sub _ h);have hsub:∀b∈wr,b∈S::wr:=λb hb=>qg _ hb;intro k
 induction k with
 | zero=>
   intro i s ns hk hi hst hl hS hR
   have hin:i=n:=by lia
   subst hin;refine wz F.entry_set_update_loop ?_;rw[je F.plain_set_update_loop _];show wpAny _ A.in1 (pyNext (.ref I)>>=_) _ _ s;refine wa (W.done s _ _ hst λs' hm=>?_);show wpAny _ A.in1 (ret Value.none) _ _ s';refine wb (hR s' ns (hm.mono hsub) (hS.at λo e=>hm.heap S _ hSw e) ?_);rw[List.drop_of_length_le (by lia),ddup]
 | succ k ih=>
   intro i s ns hk hi hst hl hS hR
   have hlt:i<n:=by lia
   refine wz F.entry_set_update_loop ?_;rw[je F.plain_set_update_loop _];show wpAny _ A.in1 (pyNext (.ref I)>>=_) _ _ s;refine wa (W.item i s _ _ hlt hst λv s' hP hst' hm=>?_);obtain⟨t,rfl⟩:=hval i v hP;have hS':SetI prog w s'.heap S ns:=hS.at λo e=>hm.heap S _ hSw e;generalize hx:ms.getD i 0=x
   have hdrop:ms.drop i=x::ms.drop (i+1):=by
    rw[List.drop_eq_getElem_cons (by lia),<-hx,List.getD_eq_getElem?_getD,qq (by lia)];rfl
   show wpAny _ A.in1 (holding [Value.int x t] (setAdd S (.int x t))>>=_) _ _ s';refine wa (wc ?_);unfold setAdd;refine wc ?_;refine wa ((intKind prog w).pyHash (k:=x) (intKind_is _ _ _ _) ?_);refine y0f (s:={ s' with toks:=s'.toks+1 }) hS' (by lia) λh' ns' hsb hS2 hp=>?_
   have hl2:ns'.length<=i+1:=by
    rw[hp.length_eq];grind
   refine wb ⟨jd F.plain_set_update_loop _,ih (i+1) _ ns' (by lia) hlt (W.frame _ s' _ _ hst' (Nat.le_succ _) λb hb o e=>?_) hl2 hS2 λs'' ns'' hm'' hS'' hp''=>?_⟩
   ·rw[hsb.2 b (λh:b=S=>hSf (by grind))];exact e
   ·refine hR s'' ns'' (Moved.trans W.gtrans ((hm.mono hsub).then_heap (Nat.le_succ _) λb o hb e=>?_) hm'') hS'' ?_
    ·rw[hsb.2 b (λh:b=S=>hb (by grind))];exact e
    ·rw[hdrop,ddup]
     exact hp''.trans (Yrs _ _ _ hp)
end
end
section
section
variable {prog:P7}{w:World}{A:Around}{E:AB}{s:Shared}
def Ypk:isSubtype (.type "tuple") (.type "set")=pure false:=by rw[isSubtype_type];kernel_rfl
def Yh4:isSubtype (.type "tuple") (.type "frozenset")=pure false:=by rw[isSubtype_type];kernel_rfl
theorem Yga(ft:TypeCalled T newId initId)(hct:checkTypeCall T ⟨args,[]⟩=pure ())(entryI:entryFor table initId=some Bi)(hnew:codeAny (mZ prog w) A.in1 (.call (.builtin newId) ⟨.type T::args,[]⟩) (wants Q₁ E) s)(hnext:∀obj s₁,Q₁ obj s₁->s₁.TypeIs obj T/\(∀(A':Around) (E':AB) (Q':Unit->Shared->Prop),Q' () s₁->wpAny (mZ prog w) A' (checkBuiltinCall initId ⟨obj::args,[]⟩) Q' E' s₁)/\
  wpAny (mZ prog w) A.in1.in1 (Bi ⟨obj::args,[]⟩)
   (λfin s'=>match fin with|.done f=>wants (λr s₂=>r=.none/\Q obj s₂) E (.ok f) s'|.again c'=>c'.quiet=true/\codeAny (mZ prog w) A.in1 c' (wants (λr s₂=>r=.none/\Q obj s₂) E) s')
   (λe s'=>wants (λr s₂=>r=.none/\Q obj s₂) E (.error e) s') s₁):
 wpAny (mZ prog w) A (call (.type T) args) Q E s:=by
 obtain⟨c,tl,hmro⟩:=ft.mro;have hmade:=ft.made;have hsub:=ft.sub;refine wpAny_call (codeAny_of_tree ?_);show wpAny _ _ (callAny (.type T) _) _ _ _;refine wb ⟨Code.quiet_builtin _ (by decide +kernel),wz F.entry_type_call ?_⟩;rw[Around.under_plain (weight_type_call_type T args []) rfl];have h1:=ft.notType;have h2:=ft.canCreate
 repeat (any_goals (first|assumption|wp_step))
 refine codeAny_mono hnew λr s₁ hr=>?_
 cases r with
 | error e=>exact hr
 | ok fl=>
   cases fl with
   | ret obj=>
     obtain⟨hT,hok,hsi⟩:=hnext _ _ hr;have hli:=ft.init.lookup;have hbi:=ft.init.bind obj
     repeat (any_goals (first|assumption|wp_step))
     refine codeAny_mono (codeAny_call_builtin ft.init.plain entryI (hok _ _ _ hsi)) λr₂ s₂ hr₂=>?_
     cases r₂ with
     | error e=>exact hr₂
     | ok fl₂=>
       cases fl₂ with
       | ret r=>
         obtain⟨rfl,hq⟩:=hr₂
         repeat (any_goals (first|assumption|wp_step))
       | _=>exact hr₂.elim
   | _=>exact hr.elim
abbrev emS(w:World):Obj:={ cls:=.type "set",dict:=none,data:=.set #[] 0 (.fresh 0 0 (!byT w)) }
def Yrt(a:Value)(h:Q₁ (.ref (~~~s)) { s with heap:=s.heap.push (emS w) }):
 codeAny (mZ prog w) A (.call (.builtin "set.__new__") ⟨[.type "set",a],[]⟩) (wants Q₁ E) s:=by
 refine codeAny_of_tree ?_;show wpAny _ A.in1 (do checkBuiltinCall "set.__new__" ⟨[.type "set",a],[]⟩;again (.builtin "set.__new__" ⟨[.type "set",a],[]⟩)) _ _ s;refine wa (wpAny_of_eq (F.newCall_set_1 a) (wb ⟨jd F.plain_set_new _,wz F.entry_set_new ?_⟩));rw[je F.plain_set_new _];unfold Builtin.«set.__new__» Builtin.Frozenset.newClass;have hsub:=sub_set_self;obtain⟨hp,g,d,tk,os⟩:=s;dsimp only
 wp_walk
 refine wpAny_askSetting (wb ?_);dsimp only;simp only[newObj];refine wa (wpAny_alloc (wb ?_));exact wb h
theorem Ypl{l:Addr}{items:Array Value}{ms:AH}{Q:AB}(hh:A.handled=none)(hl:s.heap.IsList l items)(hi:IntsAre items.toList ms)(hb:items.size+1<scanBound)(h:∀(h':Heap) (tk:Nat) ns,SetI prog w h' (~~~s) ns->ns.Perm (ddup [] ms)->
  (∀b o,b< ~~~s->s.heap.get? b=some o->h'.get? b=some o)->Q (.ref (~~~s)) { s with heap:=h',toks:=tk }):
 wpAny (mZ prog w) A (call (.type "set") [.ref l]) Q E s:=by
 refine Yga (Q₁:=λobj s₁=>obj=.ref (~~~s)/\s₁={ s with heap:=s.heap.push (emS w) }) F.called_set (F.typeCall_set_1 _) F.entry_set_init (Yrt _ ⟨rfl,rfl⟩) ?_;rintro obj s₁ ⟨rfl,rfl⟩;have hS:(s.heap.push (emS w)).get? (~~~s)=some (emS w):=qp _ rfl
 have hT:Shared.TypeIs { s with heap:=s.heap.push (emS w) } (.ref (~~~s)) "set":=⟨_,hS,rfl⟩
 refine⟨hT,λA' E' Q' hq=>check_set_init_1 hT hq,?_⟩;obtain⟨ol,hol,hcl,nl,hdl⟩:=hl;obtain⟨ocls,odict,odata,oslots⟩:=ol;simp only at hcl hdl;subst hcl;subst hdl;have hol':(s.heap.push (emS w)).get? l=some { cls:=.type "list",dict:=odict,data:=.seq items nl,slots:=oslots }:=qe _ hol;have hsls:=F.sub_list_set;have hslf:=F.sub_list_frozenset
 have hne:(Value.type "list"==Value.type "dict")=false:=by decide
 have hl1:(s.heap.push (emS w)).IsList l items:=⟨_,hol',rfl,nl,rfl⟩
 unfold Builtin.«set.__init__» noKeywords Builtin.Frozenset.updateFrom;generalize hPI:pyIter=PI
 wp_walk
 subst hPI;refine wpAny_pyIter_list hl1 ?_;refine wa (wpAny_runValue ?_);have hlS:l< ~~~s:=ql hol
 have hh3:A.in1.in1.in1.handled=none:=by simp[hh]
 have hneI:l≠(s.heap.push (emS w)).objs.size:=by
  rw[ww];grind
 have hSf:(~~~s)∉[(s.heap.push (emS w)).objs.size,l]:=by
  rw[ww];grind
 have hlen:ms.length=items.size:=by have:=IntsAre.length hi;grind
 have hval:∀(i:Nat) (v:Value),items[i]?=some v->∃t,v=.int (ms.getD i 0) t:=λi v hv=>
  IntsAre.int_at hi i v (by grind)
 refine Ywg ((Walks.list hh3 _ l hneI items).toS) (~~~s) hSf ms hlen hval hb (items.size-0) 0 _ [] (by lia) (Qf _)
  ⟨⟨_,qp _ rfl,rfl,rfl⟩,(hl1.push _)⟩ (qu _) ?hS0 ?hR
 case hS0=>
  have hget:((s.heap.push (emS w)).push { cls:=.type "list_iterator",data:=.fields #[.ref l,.int 0 0] }).get? (~~~s)=some (emS w):=qe _ hS;exact⟨emS w,#[],0,_,hget,⟨rfl,rfl,rfl⟩,rfl,λe he=>by simp at he,rfl,.nil,by decide,rfl,.fresh⟩
 case hR=>
  intro s' ns' hm hS' hp';obtain⟨h',g',d',tk',os'⟩:=s';have eg:g'=s.gens:=hm.gens;have ed:d'=s.drawn:=hm.drawn;have eo:os'=s.os:=hm.os;subst eg;subst ed;subst eo;show wpAny _ _ _ _ _ _;refine wb ?_;show wpAny _ _ (ret Value.none) _ _ _;refine wb ⟨rfl,h h' tk' ns' hS' hp' λb o hb e=>?_⟩;have hb1:b≠(~~~s):=qm hb
  have hb2:b≠(s.heap.push (emS w)).objs.size:=by
   rw[ww];grind
  exact hm.heap b o (by grind) (qe _ (qe _ e))
theorem Ynl{l:Addr}{items:Array Value}{ms:AH}{Q:AB}(hh:A.handled=none)(hl:s.heap.IsTuple l items)(hi:IntsAre items.toList ms)(hb:items.size+1<scanBound)(h:∀(h':Heap) (tk:Nat) ns,SetI prog w h' (~~~s) ns->ns.Perm (ddup [] ms)->
  (∀b o,b< ~~~s->s.heap.get? b=some o->h'.get? b=some o)->Q (.ref (~~~s)) { s with heap:=h',toks:=tk }):
 wpAny (mZ prog w) A (call (.type "set") [.ref l]) Q E s:=by
 refine Yga (Q₁:=λobj s₁=>obj=.ref (~~~s)/\s₁={ s with heap:=s.heap.push (emS w) }) F.called_set (F.typeCall_set_1 _) F.entry_set_init (Yrt _ ⟨rfl,rfl⟩) ?_;rintro obj s₁ ⟨rfl,rfl⟩;have hS:(s.heap.push (emS w)).get? (~~~s)=some (emS w):=qp _ rfl
 have hT:Shared.TypeIs { s with heap:=s.heap.push (emS w) } (.ref (~~~s)) "set":=⟨_,hS,rfl⟩
 refine⟨hT,λA' E' Q' hq=>check_set_init_1 hT hq,?_⟩;obtain⟨ol,hol,hcl,nl,hdl⟩:=hl;obtain⟨ocls,odict,odata,oslots⟩:=ol;simp only at hcl hdl;subst hcl;subst hdl;have hol':(s.heap.push (emS w)).get? l=some { cls:=.type "tuple",dict:=odict,data:=.seq items nl,slots:=oslots }:=qe _ hol;have hsls:=Ypk;have hslf:=Yh4
 have hne:(Value.type "tuple"==Value.type "dict")=false:=by decide
 have hl1:(s.heap.push (emS w)).IsTuple l items:=⟨_,hol',rfl,nl,rfl⟩
 unfold Builtin.«set.__init__» noKeywords Builtin.Frozenset.updateFrom;generalize hPI:pyIter=PI
 wp_walk
 subst hPI;refine wpAny_pyIter_tuple hl1 ?_;refine wa (wpAny_runValue ?_);have hlS:l< ~~~s:=ql hol
 have hh3:A.in1.in1.in1.handled=none:=by simp[hh]
 have hneI:l≠(s.heap.push (emS w)).objs.size:=by
  rw[ww];grind
 have hSf:(~~~s)∉[(s.heap.push (emS w)).objs.size,l]:=by
  rw[ww];grind
 have hlen:ms.length=items.size:=by have:=IntsAre.length hi;grind
 have hval:∀(i:Nat) (v:Value),items[i]?=some v->∃t,v=.int (ms.getD i 0) t:=λi v hv=>
  IntsAre.int_at hi i v (by grind)
 refine Ywg ((Walks.tuple hh3 _ l hneI items).toS) (~~~s) hSf ms hlen hval hb (items.size-0) 0 _ [] (by lia) (Qf _)
  ⟨⟨_,qp _ rfl,rfl,rfl⟩,(⟨_,qe _ hol',rfl,nl,rfl⟩)⟩ (qu _) ?hS0 ?hR
 case hS0=>
  have hget:((s.heap.push (emS w)).push { cls:=.type "tuple_iterator",data:=.fields #[.ref l,.int 0 0] }).get? (~~~s)=some (emS w):=qe _ hS;exact⟨emS w,#[],0,_,hget,⟨rfl,rfl,rfl⟩,rfl,λe he=>by simp at he,rfl,.nil,by decide,rfl,.fresh⟩
 case hR=>
  intro s' ns' hm hS' hp';obtain⟨h',g',d',tk',os'⟩:=s';have eg:g'=s.gens:=hm.gens;have ed:d'=s.drawn:=hm.drawn;have eo:os'=s.os:=hm.os;subst eg;subst ed;subst eo;show wpAny _ _ _ _ _ _;refine wb ?_;show wpAny _ _ (ret Value.none) _ _ _;refine wb ⟨rfl,h h' tk' ns' hS' hp' λb o hb e=>?_⟩;have hb1:b≠(~~~s):=qm hb
  have hb2:b≠(s.heap.push (emS w)).objs.size:=by
   rw[ww];grind
  exact hm.heap b o (by grind) (qe _ (qe _ e))
end
end
section
theorem Yjt{α:Type}{l:List α}(h:i<l.length):(l[i]::l.eraseIdx i).Perm l:=by
 rw[List.eraseIdx_eq_take_drop_succ]
 have e:l=l.take i++l[i]::l.drop (i+1):=by
  simp_all
 conv=>rhs;rw[e]
 exact List.perm_middle.symm
theorem y0g(next:Nat->Nat):∀(fuel k:Nat) (left:List α) (out:Array α),left.length=fuel->(pickOrder.go next fuel k left out).toList.Perm (out.toList++left)
 | 0,k,left,out,h=>by
   rw[pickOrder.go]
   simp_all
 | fuel+1,k,left,out,h=>by
   rw[pickOrder.go];have hlt:next k%left.length<left.length:=Nat.mod_lt _ (by lia);rw[qq hlt];dsimp only;refine(y0g next fuel (k+1) _ _ (by grind)).trans ?_;rw[Array.toList_push,jb];exact(Yjt hlt).append_left _
def Yru(next:Nat->Nat)(xs:Array α):(pickOrder next xs).toList.Perm xs.toList:=by
 have:=y0g next xs.size 0 xs.toList #[] (by simp);simpa [pickOrder]using this
section
variable {prog:P7}{w:World}{A:Around}{E:AB}
theorem Yx5(hn:0<n)(h:∀i d',i<n->Q i { s with drawn:=d' }):wpAny (mZ prog w) A (choose src n) Q E s:=by
 intro Γ p hΓ;unfold choose;rw[Sem.wp_choose];refine⟨by lia,?_⟩;rw[Sem.wp_pure];exact h _ _ (Nat.mod_lt _ hn)
theorem Yju:∀(n:Nat) (xs:List α) (s:Shared) (Q:List α->Shared->Prop),xs.length=n->(∀ys d',ys.Perm xs->Q ys { s with drawn:=d' })->wpAny (mZ prog w) A (drawOrder n xs) Q E s
 | 0,xs,s,Q,h,hQ=>by
   rw[List.length_eq_zero_iff.mp h]at hQ ⊢;show wpAny _ _ (pure _) _ _ _;exact wb (hQ [] s.drawn .nil)
 | n+1,[],s,Q,h,hQ=>by simp at h
 | n+1,x::xs,s,Q,h,hQ=>by
   show wpAny _ _ (_>>=_) _ _ _;refine wa (Yx5 (by simp) λi d' hi=>?_);rw[qq hi];dsimp only;refine wa (Yju n _ _ _ (by grind) λys d2 hp=>?_);refine wb (hQ _ d2 ((hp.cons _).trans ?_));exact Yjt hi
end
end
section
def Ywh:Manifest.owners.lookup (String.ofList ['r','o','t','a','r','e','t','i','_','t','e','s'].reverse)=some Manifest.sig_set_iterator:=by kernel_rfl
def slot_si_next:Slot "set_iterator" "__next__" "set_iterator.__next__":=
 .of (owner:="set_iterator") (n:="__next__") (by rw[typeLookup_type,builtinLookup_eq_fast];kernel_rfl) (by decide +kernel) (by decide +kernel) (by decide +kernel)
  (by first|exact .inl (by decide +kernel)|exact .inr (by decide +kernel)) (by rw[isSubtype_type];kernel_rfl)
def Ydx:entryFor table "set_iterator.__next__"=some Builtin.«set_iterator.__next__»:=entryFor_of_tree (by kernel_rfl)
def Yeo(a:Value):argsOk "set_iterator.__next__" ⟨[a],[]⟩:=by
 unfold argsOk;rw[signature?_of (id:="set_iterator.__next__") (n:=['_','_','t','x','e','n','_','_']) (o:=['r','o','t','a','r','e','t','i','_','t','e','s']) (by kernel_rfl) Ywh];kernel_rfl
def Ykj:Slot "set_iterator" "__iter__" "set_iterator.__iter__":=
 .of (owner:="set_iterator") (n:="__iter__") (by rw[typeLookup_type,builtinLookup_eq_fast];kernel_rfl) (by decide +kernel) (by decide +kernel) (by decide +kernel)
  (by first|exact .inl (by decide +kernel)|exact .inr (by decide +kernel)) (by rw[isSubtype_type];kernel_rfl)
def Yrv(a:Value):argsOk "set_iterator.__iter__" ⟨[a],[]⟩:=by
 unfold argsOk;rw[signature?_of (id:="set_iterator.__iter__") (n:=['_','_','r','e','t','i','_','_']) (o:=['r','o','t','a','r','e','t','i','_','t','e','s']) (by kernel_rfl) Ywh];kernel_rfl
theorem Ypm:entryFor table "set_iterator.__iter__"=some Builtin.«dict_keyiterator.__iter__»:=
 entryFor_alias (id':="dict_keyiterator.__iter__") (by kernel_rfl) (by first|rfl|decide +kernel|(unfold String.splitOn;simp +decide [String.splitOnAux])) (by decide +kernel) (by kernel_rfl)
theorem Ynm:entryFor table "set.__iter__"=some Builtin.«frozenset.__iter__»:=
 entryFor_alias (id':="frozenset.__iter__") (by kernel_rfl) (by first|rfl|decide +kernel|(unfold String.splitOn;simp +decide [String.splitOnAux])) (by decide +kernel) (by kernel_rfl)
def SIt(h:Heap)(I:Addr)(first:Value)(i:Nat)(a:Addr)(n ep:Nat):Prop:=∃o,h.get? I=some o/\o.cls=.type "set_iterator"/\o.data=.fields #[first,.int i 0,.ref a,.int n 0,.int ep 0]
def SAt(h:Heap)(a:Addr)(es:Array (Int×Value))(ep:Nat)(t:SetTable):Prop:=∃o,h.get? a=some o/\o.ExactSet/\o.data=.set es ep t/\t.fits es.size=true
def SIt.at(x:SIt h I f i a n ep)(e:∀o,h.get? I=some o->h'.get? I=some o):SIt h' I f i a n ep:=let ⟨o,ho,r⟩:=x;⟨o,e o ho,r⟩
def SAt.at(x:SAt h a es ep t)(e:∀o,h.get? a=some o->h'.get? a=some o):SAt h' a es ep t:=let ⟨o,ho,r⟩:=x;⟨o,e o ho,r⟩
def SIt.typeIs{s:Shared}(x:SIt s.heap I f i a n ep):s.TypeIs (.ref I) "set_iterator":=let ⟨o,ho,hc,_⟩:=x;⟨o,ho,hc⟩
section
variable {prog:P7}{w:World}{A:Around}{E:AB}{s:Shared}
def y0h(hit:SIt s.heap I f i a n ep)(h:Q (.ref I) s):wpAny (mZ prog w) A (pyIter (.ref I)) Q E s:=by
 refine wpAny_pyIter_slot hit.typeIs Ykj (we Ykj hit.typeIs Ypm ?_ (Yrv _));show wpAny _ _ (ret (.ref I)) _ _ s;exact wb ⟨_,rfl,"set_iterator",_,hit.typeIs,slot_si_next.lookup,h⟩
def y85{sl i ep nx:Nat}(hit:SIt s.heap I (.int sl 0) i a es.size ep)(ha:SAt s.heap a es ep t)(hn:∀(A':Around) (Q':Option (Value×Nat)->Shared->Prop) (E':AB),Q' (some (x,nx)) s->wpAny (mZ prog w) A' (setNext a sl i ep) Q' E' s)(hQ:∀h',SIt h' I (.int nx 0) (i+1) a es.size ep->Heap.SameBut I s.heap h'->Q (some x) { s with heap:=h' }):wpAny (mZ prog w) A (pyNext (.ref I)) Q E s:=by
 obtain⟨o,ho,hc,hd⟩:=id hit;obtain⟨oa,hoa,hexa,hda,hfa⟩:=ha;unfold pyNext;refine wa (jh (wpAny_callSpecial?_slot (name:=Str.ofString "__next__") hit.typeIs slot_si_next (we slot_si_next hit.typeIs Ydx ?_ (Yeo _))));show wpAny _ _ (fieldsOf (.ref I)>>=_) _ _ s;refine wa (wpAny_fieldsOf ho hd ?_);show wpAny _ _ (setEntries a>>=_) _ _ s;refine wa (wpAny_setEntries_of hoa hda hfa ?_);rw[if_neg (by simp)];show wpAny _ _ (setNext a sl i ep>>=_) _ _ s;refine wa (hn _ _ _ ?_);show wpAny _ _ (setField (.ref I) 0 (rawInt nx)>>=_) _ _ s;refine wa (wpAny_setField ho hd (by simp) ?_);have ho1:=wy (Obj.mapFields (·.setIfInBounds 0 (rawInt nx))) ho (Obj.isFreed_of_fields (jg hd _));have hd1:=jg hd (·.setIfInBounds 0 (rawInt nx));show wpAny _ _ (setField (.ref I) 1 (rawInt (i+1))>>=_) _ _ _;refine wa (wpAny_setField (s:={ s with heap:=s.heap.update I (Obj.mapFields (·.setIfInBounds 0 (rawInt nx))) }) ho1 hd1 (by simp) (wb ⟨x,rfl,wb (hQ _ ?_ ((wv ..).trans (wv ..)))⟩))
 exact⟨_,wy _ ho1 (Obj.isFreed_of_fields (jg hd1 _)),(Obj.cls_mapFields ..).trans ((Obj.cls_mapFields ..).trans hc),by
  rw[jg hd1];simp[rawInt]⟩
def y86{sl i ep:Nat}(hh:A.handled=none)(hit:SIt s.heap I (.int sl 0) i a es.size ep)(ha:SAt s.heap a es ep t)(hn:∀(A':Around) (Q':Option (Value×Nat)->Shared->Prop) (E':AB),Q' none s->wpAny (mZ prog w) A' (setNext a sl i ep) Q' E' s)(hQ:∀h',Heap.ExtBut I s.heap h'->Q none { s with heap:=h' }):wpAny (mZ prog w) A (pyNext (.ref I)) Q E s:=by
 obtain⟨o,ho,hc,hd⟩:=id hit;obtain⟨oa,hoa,hexa,hda,hfa⟩:=ha;unfold pyNext;refine wa (jh (wpAny_callSpecial?_slot (name:=Str.ofString "__next__") hit.typeIs slot_si_next (we slot_si_next hit.typeIs Ydx ?_ (Yeo _))));show wpAny _ _ (fieldsOf (.ref I)>>=_) _ _ s;refine wa (wpAny_fieldsOf ho hd ?_);show wpAny _ _ (setEntries a>>=_) _ _ s;refine wa (wpAny_setEntries_of hoa hda hfa ?_);rw[if_neg (by simp)];show wpAny _ _ (setNext a sl i ep>>=_) _ _ s;refine wa (hn _ _ _ ?_);show wpAny _ _ (setField (.ref I) 2 .none>>=_) _ _ s;refine wa (wpAny_setField ho hd (by simp) ?_);show wpAny _ _ (newExc (.type "StopIteration") []>>=_) _ _ _;refine wa ?_;simp only[newExc,newTuple];refine wa (wg ?_ (by size_fits));refine wa (m:=firstArgMember _ _) (wpAny_of_eq (a:=Value.none) (by first|rfl|(simp only[firstArgMember];rfl)) ?_);refine wg ?_ (by size_fits);simp only[raiseNew];refine wa (wpAny_handled ?_)
 first|rw[show A.in1.handled=none from hh]|rw[hh]
 refine wa (wb (wpAny_throw ?_));refine wa (wpAny_isInstance (T:="StopIteration") (b:=true) ⟨_,qp _ rfl,rfl⟩ isSubtype_stop ?_);exact wb (hQ _ (((wv ..).extBut.push _).push _))
def y42{i j ep:Nat}(hit:SIt s.heap I (.ref T) i a es.size ep)(ha:SAt s.heap a es ep t)(hT:s.heap.IsTuple T pl)(hp:pl[i]?=some (.int j tk))(he:es[j]?=some e)(hQ:∀h',SIt h' I (.ref T) (i+1) a es.size ep->Heap.SameBut I s.heap h'->Q (some e.2) { s with heap:=h' }):wpAny (mZ prog w) A (pyNext (.ref I)) Q E s:=by
 obtain⟨o,ho,hc,hd⟩:=id hit;obtain⟨oa,hoa,hexa,hda,hfa⟩:=ha;obtain⟨ot,hot,_,nt,hdt⟩:=hT;unfold pyNext;refine wa (jh (wpAny_callSpecial?_slot (name:=Str.ofString "__next__") hit.typeIs slot_si_next (we slot_si_next hit.typeIs Ydx ?_ (Yeo _))));show wpAny _ _ (fieldsOf (.ref I)>>=_) _ _ s;refine wa (wpAny_fieldsOf ho hd ?_);show wpAny _ _ (setEntries a>>=_) _ _ s;refine wa (wpAny_setEntries_of hoa hda hfa ?_);rw[if_neg (by simp)];show wpAny _ _ (seqItems? (.ref T)>>=_) _ _ s;refine wa (wpAny_seqItems hot hdt ?_);simp only[w9,hp];show wpAny _ _ (setNextDrawn a j ep>>=_) _ _ s;refine wa ?_;unfold setNextDrawn;refine wa (wj hoa hda hfa ?_);dsimp only;rw[if_neg (by simp)];show wpAny _ _ (match es[j]? with|some (_,x)=>pure x|_=>unsupported "internal:set_iterator") _ _ s;rw[he];refine wb ?_;show wpAny _ _ (setField (.ref I) 1 (rawInt (i+1))>>=_) _ _ _;refine wa (wpAny_setField ho hd (by simp) (wb ⟨e.2,rfl,wb (hQ _ ?_ (wv ..))⟩))
 exact⟨_,wy _ ho (Obj.isFreed_of_fields (jg hd _)),(Obj.cls_mapFields ..).trans hc,by
  rw[jg hd];simp[rawInt]⟩
def y43(hh:A.handled=none)(hit:SIt s.heap I (.ref T) i a es.size ep)(ha:SAt s.heap a es ep t)(hT:s.heap.IsTuple T pl)(hp:pl[i]?=none)(hQ:∀h',Heap.ExtBut I s.heap h'->Q none { s with heap:=h' }):wpAny (mZ prog w) A (pyNext (.ref I)) Q E s:=by
 obtain⟨o,ho,hc,hd⟩:=id hit;obtain⟨oa,hoa,hexa,hda,hfa⟩:=ha;obtain⟨ot,hot,_,nt,hdt⟩:=hT;unfold pyNext;refine wa (jh (wpAny_callSpecial?_slot (name:=Str.ofString "__next__") hit.typeIs slot_si_next (we slot_si_next hit.typeIs Ydx ?_ (Yeo _))));show wpAny _ _ (fieldsOf (.ref I)>>=_) _ _ s;refine wa (wpAny_fieldsOf ho hd ?_);show wpAny _ _ (setEntries a>>=_) _ _ s;refine wa (wpAny_setEntries_of hoa hda hfa ?_);rw[if_neg (by simp)];show wpAny _ _ (seqItems? (.ref T)>>=_) _ _ s;refine wa (wpAny_seqItems hot hdt ?_);simp only[w9,hp];show wpAny _ _ (setField (.ref I) 0 (rawInt 0)>>=_) _ _ s;refine wa (wpAny_setField ho hd (by simp) ?_);have ho1:=wy (Obj.mapFields (·.setIfInBounds 0 (rawInt 0))) ho (Obj.isFreed_of_fields (jg hd _));have hd1:=jg hd (·.setIfInBounds 0 (rawInt 0));show wpAny _ _ (setField (.ref I) 2 .none>>=_) _ _ _;refine wa (wpAny_setField (s:={ s with heap:=s.heap.update I (Obj.mapFields (·.setIfInBounds 0 (rawInt 0))) }) ho1 hd1 (by simp) ?_);show wpAny _ _ (newExc (.type "StopIteration") []>>=_) _ _ _;refine wa ?_;simp only[newExc,newTuple];refine wa (wg ?_ (by size_fits));refine wa (m:=firstArgMember _ _) (wpAny_of_eq (a:=Value.none) (by first|rfl|(simp only[firstArgMember];rfl)) ?_);refine wg ?_ (by size_fits);simp only[raiseNew];refine wa (wpAny_handled ?_)
 first|rw[show A.in1.handled=none from hh]|rw[hh]
 refine wa (wb (wpAny_throw ?_));refine wa (wpAny_isInstance (T:="StopIteration") (b:=true) ⟨_,qp _ rfl,rfl⟩ isSubtype_stop ?_);exact wb (hQ _ ((((wv ..).trans (wv ..)).extBut.push _).push _))
end
end
section
section
variable {prog:P7}{w:World}{A:Around}{E:AB}{s:Shared}
def Yea(h:Q (byT w) s):wpAny (mZ prog w) A setsByText Q E s:=by
 unfold setsByText;exact wa (wpAny_askSetting (wb h))
def Yrw(hb:byT w=true)(ha:SAt s.heap a es ep t)(h:Q (((pickOrder (w.params.setOrder a ep) es)[i]?).map λe=>(e.2,sl)) s):wpAny (mZ prog w) A (setNext a sl i ep) Q E s:=by
 obtain⟨oa,hoa,hexa,hda,hfa⟩:=ha;unfold setNext;refine wa (wj hoa hda hfa ?_);dsimp only;refine wa (Yea ?_);rw[if_pos hb,if_neg (by simp)];refine wa (m:=setWalk a) ?_;unfold setWalk;refine wa (wj hoa hda hfa ?_);dsimp only;refine wa (Yea ?_);rw[if_pos hb];refine wa (wpAny_askSetting (wb ?_));exact wb h
theorem Yrx(hb:byT w=false)(hd:(!t.plain&&decide (es.size > 1))=false)(hl:t.led=true)(ha:SAt s.heap a es ep t)(hp:SetTable.below t.place sl=i)(h:Q (match es[i]?,t.place[i]? with|some (_,x),some j=>some (x,j+1)|_,_=>none) s):wpAny (mZ prog w) A (setNext a sl g ep) Q E s:=by
 obtain⟨oa,hoa,hexa,hda,hfa⟩:=ha;unfold setNext;refine wa (wj hoa hda hfa ?_);dsimp only;refine wa (Yea ?_);rw[if_neg (by grind)];show wpAny _ _ (if (!t.plain&&decide (es.size > 1))=true then _ else _) _ _ _;rw[if_neg (show ¬((!t.plain&&decide (es.size > 1))=true) by grind)];show wpAny _ _ ((if (!t.led&&!es.isEmpty)=true then unsupported "set:maker-not-led" else pure ())>>=_) _ _ _;rw[if_neg (by rw[hl];simp)];refine wa (wb ?_);rw[hp];exact wb h
def Yhr(pl:Array Nat):Nat->Nat
 | 0=>0
 | i+1=>pl.getD i 0+1
theorem Ywi(hr:Rise pl)(hi:i<=pl.size):SetTable.below pl (Yhr pl i)=i:=by
 obtain⟨h1,h2,h3⟩:=Yoj hr (Yhr pl i);generalize hp:SetTable.below pl (Yhr pl i)=p at h1 h2 h3
 have mono:∀(i k:Nat) (hi:i<pl.size) (hk:k<pl.size),i<k->pl[i]<pl[k]:=λi k hi hk h=>by
  have:=List.pairwise_iff_getElem.mp hr i k (by grind) (by grind) h;grind
 have e1:∀k (hk:k<pl.size),k<p->pl[k]<Yhr pl i:=λk hk hkp=>h2 _ (by
  rw[List.mem_iff_getElem]
  grind)
 have e2:∀k (hk:k<pl.size),p<=k->Yhr pl i<=pl[k]:=λk hk hkp=>h3 _ (by
  rw[List.mem_iff_getElem]
  exact⟨k-p,by simp;lia,by
   simp_all⟩)
 rcases Nat.lt_trichotomy p i with h|h|h
 ·have hk:p<pl.size:=by lia
  have:=e2 p hk (qu _)
  cases i with
  | zero=>lia
  | succ j=>
    have hj:j<pl.size:=by lia
    simp only[Yhr,Array.getD,hj,dite_true]at this;by_cases e:p=j
    ·subst e;exact absurd this (by simp)
    ·have:=mono p j hk hj (by lia)
     simp at *;lia
 ·exact h
 ·have hk:i<pl.size:=by lia
  have:=e1 i hk h
  cases i with
  | zero=>simp[Yhr]at this
  | succ j=>
    have hj:j<pl.size:=by lia
    have h':=mono j (j+1) hj hk (by lia);simp only[Yhr,Array.getD,hj,dite_true]at this;simp at *;lia
def PInt(vals:AH)(i:Nat)(v:Value):Prop:=∃k t,vals[i]?=some k/\v=.int k t
theorem Ylw{es:Array (Int×Value)}(hel:ElemsOf (intKind prog w) es.toList)(he:e∈es.toList):∃t,e.2=.int (kOf e) t:=by
 obtain⟨t,ht⟩:=Yg7 hel he;grind
theorem y44(hS:SetI prog w s.heap a ns)(hQ:∀(h':Heap) (d':Drawn) (I:Addr) (fp:List Addr) (vals:AH) (St:Nat->Heap->Prop),(∀b o,s.heap.get? b=some o->h'.get? b=some o)->(~~~s)<=I->I∈fp->
  (∀b∈fp,b<h'.objs.size/\(b=a\/(~~~s)<=b))->vals.Perm ns->(∀A':Around,A'.handled=none->Walks prog w A' I fp [I] ns.length (PInt vals) St)->St 0 h'->
  (∀(i:Nat) (s':Shared),St i s'.heap->s'.TypeIs (.ref I) "set_iterator")->Q (.ref I) { s with heap:=h',drawn:=d' }):
 wpAny (mZ prog w) A (pyIter (.ref a)) Q E s:=by
 obtain⟨o,es,ep,t,ho,hex,hd,hel,hns,hnd,hb,hf,ht⟩:=hS
 have hT:s.TypeIs (.ref a) "set":=⟨o,ho,hex.1⟩
 have hlen:ns.length=es.size:=by grind
 have hlt:a< ~~~s:=ql ho
 have hsa:SAt s.heap a es ep t:=⟨o,ho,hex,hd,hf⟩
 have hps:t.place.size=es.size:=by
  simp only[SetTable.fits,Qb,beq_iff_eq]at hf;exact hf.1
 refine wpAny_pyIter_slot hT F.slot_set_iter (we F.slot_set_iter hT Ynm ?_ (F.args_set_iter_1 _));unfold Builtin.«frozenset.__iter__»;show wpAny _ _ (Builtin.Frozenset.sizeOf a>>=_) _ _ s;unfold Builtin.Frozenset.sizeOf;refine wa (wa (wpAny_setEntries_of ho hd hf (wb ?_)));refine wa ?_;unfold setDrawn;refine wa (wj ho hd hf ?_);dsimp only;refine wa (Yea (wb ?_))
 have plain:∀(vals:AH) (st:Nat->Nat) (xv:Nat->Value),vals.Perm ns->st 0=0->(∀i,i<es.size->PInt vals i (xv i))->
  (∀(s':Shared) (A':Around) (i:Nat) (E':AB),SAt s'.heap a es ep t->i<es.size->∀Q':Option (Value×Nat)->Shared->Prop,Q' (some (xv i,st (i+1))) s'->wpAny (mZ prog w) A' (setNext a (st i) i ep) Q' E' s')->
  (∀(s':Shared) (A':Around) (E':AB),SAt s'.heap a es ep t->∀Q':Option (Value×Nat)->Shared->Prop,Q' none s'->wpAny (mZ prog w) A' (setNext a (st es.size) es.size ep) Q' E' s')->
  wpAny (mZ prog w) A.in1 (do
   let x <-newFields "set_iterator" [rawInt 0,rawInt 0,.ref a,rawInt es.size,rawInt (<-setEpoch a)]
   ret x) (λfin s'=>∃v,fin=.done (.ret v)/\∃T' r,s'.TypeIs v T'/\typeLookup (.type T') "__next__"=pure (some r)/\Q v s') E s:=by
  intro vals st xv hp h0 hx hi hn;refine wa (wpAny_setEpoch_of ho hd hf ?_);refine wa (wg ?_);refine wb ⟨_,rfl,"set_iterator",_,⟨_,qp _ rfl,rfl⟩,slot_si_next.lookup,?_⟩
  have key:=hQ (s.heap.push { cls:=.type "set_iterator",data:=.fields #[rawInt 0,rawInt 0,.ref a,rawInt es.size,rawInt ep] }) s.drawn (~~~s) [~~~s,a] vals
   (λi h=>SIt h (~~~s) (.int (st i) 0) i a es.size ep/\SAt h a es ep t) (λb o e=>qe _ e) (qu _) (by simp) (λb hb=>by
    rw[ww]
    grind) hp (λA' hA'=>{
    sub:=λb hb=>by grind
    frame:=λi h h' st' hk=>⟨st'.1.at λo e=>hk _ (by simp) o e,st'.2.at λo e=>hk a (by simp) o e⟩
    item:=λi s' Q' E' hlt' st' hQ'=>by
     refine y85 st'.1 st'.2 (x:=xv i) (nx:=st (i+1)) (λA2 Q2 E2 hq=>hi s' A2 i E2 st'.2 (by lia) Q2 hq) λh' hit' hs'=>?_;exact hQ' _ h' s'.toks (hx i (by lia)) ⟨hit',st'.2.at λo e=>hs'.extBut a o (λz=>by grind) e⟩ λb o hb e=>hs'.extBut b o (λz=>hb (by simp[z])) e
    done:=λs' Q' E' st' hQ'=>by
     rw[hlen]at st';exact y86 hA' st'.1 st'.2 (λA2 Q2 E2 hq=>hn s' A2 E2 st'.2 Q2 hq) λh' he'=>hQ' h' s'.toks λb o hb e=>he' b o (λz=>hb (by simp[z])) e
    self:=λi s' Q' E' st' hQ'=>y0h st'.1 hQ' }) ⟨⟨_,qp _ rfl,rfl,by rw[h0];rfl⟩,hsa.at λo e=>qe _ e⟩ (λi s' st'=>st'.1.typeIs)
  exact key
 have hdr:∀b:Bool,(!t.plain&&decide (es.size > 1))=b->wpAny (mZ prog w) A.in1 (if (!byT w&&b)=true then do
  let first <-newTuple ((<-drawOrder es.size (List.range es.size)).map fun(i:Nat)=>rawInt i)
  let x <-newFields "set_iterator" [first,rawInt 0,.ref a,rawInt es.size,rawInt (<-setEpoch a)]
  ret x
  else do
   let x <-newFields "set_iterator" [rawInt 0,rawInt 0,.ref a,rawInt es.size,rawInt (<-setEpoch a)]
   ret x) (λfin s'=>∃v,fin=.done (.ret v)/\∃T' r,s'.TypeIs v T'/\typeLookup (.type T') "__next__"=pure (some r)/\Q v s') E s:=by
  intro b hbd
  cases hbt:byT w with
  | true=>
    rw[if_neg (by simp)];generalize hor:pickOrder (w.params.setOrder a ep) es=ord
    have hpm:ord.toList.Perm es.toList:=by rw[<-hor];exact Yru _ _
    have hos:ord.size=es.size:=by
     have:=hpm.length_eq;grind
    refine plain (ord.toList.map kOf) (λ_=>0) (λi=>(ord.getD i (0,.none)).2) (by grind) rfl (λi hi=>?_) (λs' A' i E' ha hi Q' hq=>?_) (λs' A' E' ha Q' hq=>?_)
    ·have hi':i<ord.size:=by lia
     obtain⟨u,hu⟩:=Ylw hel (hpm.mem_iff.mp (show ord[i]∈ord.toList by simp));refine⟨kOf ord[i],u,by simp[hi'],?_⟩
     simp_all
    ·have hi':i<ord.size:=by lia
     refine Yrw hbt ha ?_
     simp_all
    ·refine Yrw hbt ha ?_
     grind
  | false=>
    have hled:=ht.1 hbt
    cases b with
    | false=>
      rw[if_neg (by simp)]
      have hrise:Rise t.place:=by
       cases hpl:t.plain with
       | true=>exact ht.2 hpl
       | false=>
         rw[hpl]at hbd
         have h1:t.place.toList.length<=1:=by
          grind
         unfold Rise
         match t.place.toList,h1 with
         | [],_=>exact .nil
         | [x],_=>simp
      refine plain ns (Yhr t.place) (λi=>(es.getD i (0,.none)).2) .rfl rfl (λi hi=>?_) (λs' A' i E' ha hi Q' hq=>?_) (λs' A' E' ha Q' hq=>?_)
      ·obtain⟨u,hu⟩:=Ylw hel (show es[i]∈es.toList by simp)
       refine⟨kOf es[i],u,by grind,?_⟩
       simp_all
      ·refine Yrx hbt hbd hled ha (Ywi hrise (by lia)) ?_
       have hi2:i<t.place.size:=by lia
       rw[Array.getElem?_eq_getElem hi,Array.getElem?_eq_getElem hi2];simp only[Array.getD,hi,hi2,dite_true,Yhr]at hq;exact hq
      ·refine Yrx hbt hbd hled ha (Ywi hrise (by lia)) ?_
       grind
    | true=>
      rw[if_pos (by simp)];refine wa (Yju es.size (List.range es.size) s _ (by simp) λys d' hp=>?_);simp only[newTuple]
      have hyl:ys.length=es.size:=by rw[hp.length_eq];simp
      refine wa (wg ?_ (by show(ys.map fun(i:Nat)=>rawInt i).toArray.size<=sizeLine;rw[qk,qf,hyl];exact fits_of_scanBound hb));have ho1:((s.heap.push { cls:=.type "tuple",data:=.seq (ys.map fun(i:Nat)=>rawInt i).toArray })).get? a=some o:=qe _ ho;refine wa (wpAny_setEpoch_of (s:={ s with heap:=s.heap.push { cls:=.type "tuple",data:=.seq (ys.map fun(i:Nat)=>rawInt i).toArray },drawn:=d' }) ho1 hd hf ?_);refine wa (wg ?_);refine wb ⟨_,rfl,"set_iterator",_,⟨_,qp _ rfl,rfl⟩,slot_si_next.lookup,?_⟩
      have hmem:∀j∈ys,j<es.size:=λj hj=>by grind
      have hvp:(ys.map λj=>kOf (es.getD j (0,.none))).Perm ns:=by
       rw[<-hns];refine(hp.map _).trans ?_
       have:(List.range es.size).map (λj=>kOf (es.getD j (0,.none)))=es.toList.map kOf:=by
        refine List.ext_getElem (by simp) λi h1 h2=>?_
        have hi:i<es.size:=by grind
        simp[Array.getD,hi]
       rw[this]
      generalize hH:s.heap.push { cls:=.type "tuple",data:=.seq (ys.map fun(i:Nat)=>rawInt i).toArray }=H at ho1 ⊢
      have hHs:H.objs.size= ~~~s+1:=by rw[<-hH,ww]
      have hT0:H.IsTuple (~~~s) (ys.map fun(i:Nat)=>rawInt i).toArray:=⟨_,by rw[<-hH];exact qp _ rfl,rfl,_,rfl⟩
      have keepH:∀b o,s.heap.get? b=some o->H.get? b=some o:=λb o e=>by rw[<-hH];exact qe _ e
      have haI:a≠H.objs.size:=λz=>by grind
      have hTI:(~~~s)≠H.objs.size:=by grind
      exact hQ (H.push { cls:=.type "set_iterator",data:=.fields #[.ref (~~~s),rawInt 0,.ref a,rawInt es.size,rawInt ep] }) d' H.objs.size [H.objs.size,a,~~~s] (ys.map λj=>kOf (es.getD j (0,.none)))
       (λi h=>SIt h H.objs.size (.ref (~~~s)) i a es.size ep/\SAt h a es ep t/\h.IsTuple (~~~s) (ys.map fun(i:Nat)=>rawInt i).toArray) (λb o e=>qe _ (keepH b o e)) (by lia) (by simp) (λb hb=>by
        rw[ww]
        grind) hvp (λA' hA'=>{
        sub:=λb hb=>by grind
        frame:=λi h h' st' hk=>⟨st'.1.at λo e=>hk _ (by simp) o e,st'.2.1.at λo e=>hk a (by simp) o e,st'.2.2.at λo e=>hk _ (by simp) o e⟩
        item:=λi s' Q' E' hlt' st' hQ'=>by
         have hi:i<ys.length:=by lia
         have hj:=hmem ys[i] (List.getElem_mem hi);refine y42 st'.1 st'.2.1 st'.2.2 (j:=ys[i]) (tk:=0) (e:=es[ys[i]]) (by simp[hi,rawInt]) (Array.getElem?_eq_getElem hj) λh' hit' hs'=>?_;refine hQ' _ h' s'.toks ?_ ⟨hit',st'.2.1.at λo e=>hs'.extBut a o haI e,st'.2.2.at λo e=>hs'.extBut _ o hTI e⟩ λb o hb e=>hs'.extBut b o (λz=>hb (by simp[z])) e;obtain⟨u,hu⟩:=Ylw hel (show es[ys[i]]∈es.toList by simp);exact⟨kOf es[ys[i]],u,by simp[hi,Array.getD,hj],hu⟩
        done:=λs' Q' E' st' hQ'=>by
         rw[hlen]at st';exact y43 hA' st'.1 st'.2.1 st'.2.2 (by simp[hyl]) λh' he'=>hQ' h' s'.toks λb o hb e=>he' b o (λz=>hb (by simp[z])) e
        self:=λi s' Q' E' st' hQ'=>y0h st'.1 hQ' }) ⟨⟨_,qp _ rfl,rfl,rfl⟩,⟨o,qe _ ho1,hex,hd,hf⟩,hT0.push _⟩ (λi s' st'=>st'.1.typeIs)
 exact hdr _ rfl
end
end
section
inductive D where
 | non|bl (b:Bool)|int (i:Int)|str (x:Str)|tup (l:List D)|lst (l:List D)
 | scr (ns:AH)
 | dct (t:Bool) (ks vs:List D)
 | obj (c:Str) (ks:AL) (vs:List D)
 | adr (a:Addr)
abbrev AR:=List D
mutual
def toPy:D->PyData
 | .non=>.none
 | .bl b=>.bool b
 | .int i=>.int i
 | .str x=>.str x
 | .tup l=>.tuple (Yeb l)
 | .lst l=>.list (Yeb l)
 | .scr ns=>.list (ns.map PyData.int)
 | .dct _ _ _=>.none
 | .obj _ _ _=>.none
 | .adr _=>.none
def Yeb:AR->List PyData
 | []=>[]
 | d::l=>toPy d::Yeb l
end
def eqD(d e:D):Bool:=PyData.eqv (toPy d) (toPy e)
def eqL(l m:AR):Bool:=PyData.eqvAll (Yeb l) (Yeb m)
def numV:V->Option Int
 | .int i=>some i
 | .bl b=>some (if b then 1 else 0)
 | _=>none
def Yfl:AQ->Option AH
 | []=>some []
 | x::r=>(numV x).bind λi=>(Yfl r).map (i::·)
def Yact(ks:AH):Int:=reduceHash (Builtin.Tuple.tupleHashOf (ks.map hashInt))
def DtOk(a:Addr)(nks:List (List Int×Addr))(vxs:AQ)(ep:Nat)(h:Heap):Prop:=
 (a==sysModules)=false/\∃us o es,Vals vxs us/\h.get? a=some o/\o.ExactDict/\o.data=.dict es ep/\es.toList=(nks.zip us).map λp=>(⟨Yact p.1.1,.ref p.1.2,p.2⟩:DictEntry)
def dTo(a:Addr)(nks:List (List Int×Addr))(vxs:AQ)(ep:Nat):HO:=.ext (DtOk a nks vxs ep)
def Dc(t:Bool)(G H:Hp)(a:Addr)(kxs vxs:AQ):Prop:=
 (t=false/\∃kvs:List (Key×V),H a=some (.dK kvs)/\(kvs.map (·.1)).Nodup/\kxs=kvs.map (λp=>kV p.1)/\vxs=kvs.map (·.2))\/
 (t=true/\∃(nks:List (List Int×Addr)) (ep:Nat),H a=some (dTo a nks vxs ep)/\nks.length=vxs.length/\(nks.map (·.1)).Nodup/\kxs=nks.map (λp=>V.ref p.2)/\∀p∈nks,∃ys,G p.2=some (.tup ys)/\Yfl ys=some p.1)
mutual
def Rp(K:W7)(G:Hp):D->V->Prop
 | .non,v=>v=V.non
 | .bl b,v=>v=V.bl b
 | .int i,v=>v=V.int i
 | .str x,v=>v=V.str x/\PyData.strOk x=true
 | .tup l,v=>∃a xs,v=V.ref a/\G a=some (HO.tup xs)/\RpL K G l xs
 | .lst l,v=>∃a xs,v=V.ref a/\Rd G a (HO.lst xs)/\RpL K G l xs
 | .scr ns,v=>∃a,v=V.ref a/\SqL K G a (ns.map V.int)
 | .dct t ks vs,v=>∃a kxs vxs,v=V.ref a/\Dc t G G a kxs vxs/\RpL K G ks kxs/\RpL K G vs vxs
 | .obj c ks vs,v=>∃a C dx xs,v=V.ref a/\W.nsIn K mainGlobals c=some (some (.ref C))/\G a=some (HO.ins C dx (ks.zip xs))/\xs.length=ks.length/\RpL K G vs xs
 | .adr a,v=>v=V.ref a
def RpL(K:W7)(G:Hp):AR->AQ->Prop
 | [],xs=>xs=[]
 | d::l,xs=>∃x r,xs=x::r/\Rp K G d x/\RpL K G l r
end
variable {K:W7}
def Ybq(h:Same G G')(r:Rd G a u):Rd G' a u:=by
 rcases r with r|⟨o,r⟩
 ·exact .inl (h _ _ r)
 ·exact .inr ⟨o,h _ _ r⟩
def Dc.mono(g:Same G G')(h:∀o,H a=some o->H' a=some o)(d:Dc t G H a kxs vxs):Dc t G' H' a kxs vxs:=by
 rcases d with⟨e,kvs,h1,h2⟩|⟨e,nks,ep,h1,h2,h3,h4,h5⟩
 ·exact .inl ⟨e,kvs,h _ h1,h2⟩
 ·refine .inr ⟨e,nks,ep,h _ h1,h2,h3,h4,λp hp=>?_⟩
  obtain⟨ys,q1,q2⟩:=h5 p hp;exact⟨ys,g _ _ q1,q2⟩
theorem Dc.someT(d:Dc t G H a kxs vxs):∃o,H a=some o/\∀xs,o≠.tup xs:=by
 rcases d with⟨_,kvs,h1,_⟩|⟨_,nks,ep,h1,_⟩
 ·grind
 ·exact⟨_,h1,λxs z=>by cases z⟩
theorem Dc.some(d:Dc t G H a kxs vxs):∃o,H a=some o/\∀xs,o≠.lst xs:=by
 rcases d with⟨_,kvs,h1,_⟩|⟨_,nks,ep,h1,_⟩
 ·grind
 ·exact⟨_,h1,λxs z=>by cases z⟩
mutual
theorem Rp.mono{G G':Hp}(h:Same G G'):∀{d:D}{v:V},Rp K G d v->Rp K G' d v
 | .non,_,r=>by rw[Rp]at r ⊢;exact r
 | .bl _,_,r=>by rw[Rp]at r ⊢;exact r
 | .int _,_,r=>by rw[Rp]at r ⊢;exact r
 | .str _,_,r=>by rw[Rp]at r ⊢;exact r
 | .tup l,_,r=>by
   rw[Rp]at r ⊢;obtain⟨a,xs,e,g,q⟩:=r;exact⟨a,xs,e,h _ _ g,RpL.mono h q⟩
 | .lst l,_,r=>by
   rw[Rp]at r ⊢;obtain⟨a,xs,e,g,q⟩:=r;exact⟨a,xs,e,Ybq h g,RpL.mono h q⟩
 | .scr ns,_,r=>by
   rw[Rp]at r ⊢;obtain⟨a,e,g⟩:=r;exact⟨a,e,h.seq g⟩
 | .dct t ks vs,_,r=>by
   rw[Rp]at r ⊢;obtain⟨a,kxs,vxs,e,g,q1,q2⟩:=r;exact⟨a,kxs,vxs,e,g.mono h λo=>h _ o,RpL.mono h q1,RpL.mono h q2⟩
 | .obj c ks vs,_,r=>by
   rw[Rp]at r ⊢;obtain⟨a,C,dx,xs,e,n,g,l,q⟩:=r;exact⟨a,C,dx,xs,e,n,h _ _ g,l,RpL.mono h q⟩
 | .adr _,_,r=>by rw[Rp]at r ⊢;exact r
theorem RpL.mono{G G':Hp}(h:Same G G'):∀{l:AR}{xs:AQ},RpL K G l xs->RpL K G' l xs
 | [],_,r=>by rw[RpL]at r ⊢;exact r
 | d::l,_,r=>by
   rw[RpL]at r ⊢;obtain⟨x,xs,e,g,q⟩:=r;exact⟨x,xs,e,Rp.mono h g,RpL.mono h q⟩
end
section
variable {G:Hp}
theorem RpL.length:∀{l:AR}{xs:AQ},RpL K G l xs->xs.length=l.length
 | [],_,r=>by rw[RpL]at r;subst r;rfl
 | d::l,_,r=>by
   rw[RpL]at r;obtain⟨x,xs,rfl,_,q⟩:=r;simp[RpL.length q]
theorem RpL.get:∀{l:AR}{xs:AQ}{i:Nat}{d:D},RpL K G l xs->l[i]?=some d->∃x,xs[i]?=some x/\Rp K G d x
 | [],_,_,_,_,e=>by simp at e
 | d::l,_,0,_,r,e=>by
   rw[RpL]at r;obtain⟨x,xs,rfl,g,q⟩:=r;simp at e;subst e;exact⟨x,rfl,g⟩
 | d::l,_,i+1,_,r,e=>by
   rw[RpL]at r;obtain⟨x,xs,rfl,g,q⟩:=r;obtain⟨y,h1,h2⟩:=RpL.get (i:=i) q (by simpa using e);exact⟨y,by simpa using h1,h2⟩
def RpL.nil:RpL K G [] []:=by rw[RpL]
theorem RpL.cons(h:Rp K G d x)(q:RpL K G l xs):RpL K G (d::l) (x::xs):=by rw[RpL];grind
theorem RpL.append:∀{l m:AR}{xs ys:AQ},RpL K G l xs->RpL K G m ys->RpL K G (l++m) (xs++ys)
 | [],_,_,_,r,q=>by rw[RpL]at r;subst r;exact q
 | d::l,m,_,ys,r,q=>by
   rw[RpL]at r;obtain⟨x,xs,rfl,g,r⟩:=r;exact .cons g (RpL.append r q)
def RpL.one(h:Rp K G d x):RpL K G [d] [x]:=.cons h .nil
theorem RpL.take:∀{l:AR}{xs:AQ} (n:Nat),RpL K G l xs->RpL K G (l.take n) (xs.take n)
 | _,_,0,_=>by rw[List.take_zero,List.take_zero];exact .nil
 | [],_,_+1,r=>by rw[RpL]at r;subst r;exact .nil
 | d::l,_,n+1,r=>by
   rw[RpL]at r;obtain⟨x,xs,rfl,g,r⟩:=r;exact .cons g (RpL.take n r)
theorem RpL.drop:∀{l:AR}{xs:AQ} (n:Nat),RpL K G l xs->RpL K G (l.drop n) (xs.drop n)
 | _,_,0,r=>r
 | [],_,_+1,r=>by rw[RpL]at r;subst r;exact .nil
 | d::l,_,n+1,r=>by
   rw[RpL]at r;obtain⟨x,xs,rfl,g,r⟩:=r;exact RpL.drop n r
theorem RpL.reverse:∀{l:AR}{xs:AQ},RpL K G l xs->RpL K G l.reverse xs.reverse
 | [],_,r=>by rw[RpL]at r;subst r;exact .nil
 | d::l,_,r=>by
   rw[RpL]at r;obtain⟨x,xs,rfl,g,r⟩:=r;rw[List.reverse_cons,List.reverse_cons];exact r.reverse.append (.one g)
theorem RpL.ints:∀(ns:AH),RpL K G (ns.map D.int) (ns.map V.int)
 | []=>.nil
 | n::ns=>.cons (by rw[Rp]) (RpL.ints ns)
end
structure Gr(H G H' G':Hp):Prop where
 h:Same H H'
 g:Same G G'
 s:Same G' H'
 n:∀a,G a=none->G' a≠none->H a=none
def Gr.refl(s:Same G H):Gr H G H G:=⟨Same.refl _,Same.refl _,s,λ_ h h'=>absurd h h'⟩
def Gr.trans(a:Gr H G H1 G1)(b:Gr H1 G1 H2 G2):Gr H G H2 G2:=
 ⟨a.h.trans b.h,a.g.trans b.g,b.s,λx h h'=>by
  by_cases e:G1 x=none
  ·exact a.h.free (b.n x e h')
  ·exact a.n x h e⟩
theorem Gr.new(s:Same G H)(hp:H p=none)(o:HO):Gr H G (upd H p o) (upd G p o):=by
 have gp:G p=none:=s.free hp;refine⟨λb u e=>?_,λb u e=>?_,λb u e=>?_,λb h h'=>?_⟩
 ·rw[Yaa (Yz e hp)];exact e
 ·rw[Yaa (Yz e gp)];exact e
 ·by_cases q:b=p
  ·subst q;rw[Yu]at e ⊢;exact e
  ·rw[Yaa q]at e ⊢;exact s _ _ e
 ·by_cases q:b=p
  ·grind
  ·rw[Yaa q]at h';grind
def Gr.hid(s:Same G H)(hp:H p=none)(o:HO):Gr H G (upd H p o) G:=by
 have gp:G p=none:=s.free hp;refine⟨λb u e=>?_,Same.refl _,λb u e=>?_,λb h h'=>absurd h h'⟩
 ·rw[Yaa (Yz e hp)];exact e
 ·rw[Yaa (Yz e gp)];exact s _ _ e
theorem Gr.show(g:Gr H G H' G')(hp:H p=none)(gp:G' p=none)(e:H' p=some o):Gr H G H' (upd G' p o):=by
 refine⟨g.h,λb u q=>?_,λb u q=>?_,λb h h'=>?_⟩
 ·have:=g.g b u q
  rw[Yaa (Yz this gp)];exact this
 ·by_cases z:b=p
  ·subst z;rw[Yu]at q;grind
  ·rw[Yaa z]at q;exact g.s b u q
 ·by_cases z:b=p
  ·grind
  ·rw[Yaa z]at h';exact g.n b h h'
def Ct(K:W7)(G H:Hp):D->V->Prop
 | .non,v=>v=V.non
 | .bl b,v=>v=V.bl b
 | .int i,v=>v=V.int i
 | .str x,v=>v=V.str x/\PyData.strOk x=true
 | .tup l,v=>∃a xs,v=V.ref a/\(H a=some (HO.tup xs)/\G a=some (HO.tup xs))/\RpL K G l xs
 | .lst l,v=>∃a xs,v=V.ref a/\Rd H a (HO.lst xs)/\RpL K G l xs
 | .scr ns,v=>∃a,v=V.ref a/\SqL K H a (ns.map V.int)
 | .dct t ks vs,v=>∃a kxs vxs,v=V.ref a/\Dc t G H a kxs vxs/\RpL K G ks kxs/\RpL K G vs vxs
 | .obj c ks vs,v=>∃a C dx xs,v=V.ref a/\W.nsIn K mainGlobals c=some (some (.ref C))/\G a=some (HO.ins C dx (ks.zip xs))/\xs.length=ks.length/\RpL K G vs xs
 | .adr a,v=>v=V.ref a
def Ct.of(s:Same G H)(r:Rp K G d v):Ct K G H d v:=by
 cases d<;>rw[Rp]at r<;>rw[Ct]
 ·exact r
 ·exact r
 ·exact r
 ·exact r
 ·obtain⟨a,xs,e,g,q⟩:=r
  exact⟨a,xs,e,⟨s _ _ g,g⟩,q⟩
 ·obtain⟨a,xs,e,g,q⟩:=r
  exact⟨a,xs,e,Ybq s g,q⟩
 ·obtain⟨a,e,g⟩:=r
  exact⟨a,e,s.seq g⟩
 ·obtain⟨a,kxs,vxs,e,g,q1,q2⟩:=r
  exact⟨a,kxs,vxs,e,g.mono (Same.refl _) λo=>s _ o,q1,q2⟩
 ·exact r
 ·exact r
def Ct.rp(s:Same G H)(r:Ct K G H d v):Rp K H d v:=by
 cases d<;>rw[Ct]at r<;>rw[Rp]
 ·exact r
 ·exact r
 ·exact r
 ·exact r
 ·obtain⟨a,xs,e,g,q⟩:=r
  exact⟨a,xs,e,g.1,q.mono s⟩
 ·obtain⟨a,xs,e,g,q⟩:=r
  exact⟨a,xs,e,g,q.mono s⟩
 ·exact r
 ·obtain⟨a,kxs,vxs,e,g,q1,q2⟩:=r
  exact⟨a,kxs,vxs,e,g.mono s λ_ z=>z,q1.mono s,q2.mono s⟩
 ·obtain⟨a,C,dx,xs,e,n,g,l,q⟩:=r
  exact⟨a,C,dx,xs,e,n,s _ _ g,l,q.mono s⟩
 ·exact r
def Ct.grow(g:Gr H G H' G')(r:Ct K G H d v):Ct K G' H' d v:=by
 cases d<;>rw[Ct]at r<;>rw[Ct]
 ·exact r
 ·exact r
 ·exact r
 ·exact r
 ·obtain⟨a,xs,e,h,q⟩:=r
  exact⟨a,xs,e,⟨g.h _ _ h.1,g.g _ _ h.2⟩,q.mono g.g⟩
 ·obtain⟨a,xs,e,h,q⟩:=r
  exact⟨a,xs,e,Ybq g.h h,q.mono g.g⟩
 ·obtain⟨a,e,h⟩:=r
  exact⟨a,e,g.h.seq h⟩
 ·obtain⟨a,kxs,vxs,e,h,q1,q2⟩:=r
  exact⟨a,kxs,vxs,e,h.mono g.g λo=>g.h _ o,q1.mono g.g,q2.mono g.g⟩
 ·obtain⟨a,C,dx,xs,e,n,h,l,q⟩:=r
  exact⟨a,C,dx,xs,e,n,g.g _ _ h,l,q.mono g.g⟩
 ·exact r
def CtL(K:W7)(G H:Hp):AR->AQ->Prop
 | [],xs=>xs=[]
 | d::l,xs=>∃x r,xs=x::r/\Ct K G H d x/\CtL K G H l r
inductive B where
 | sh (d:D)|ow (l:AR)|od (t:Bool) (ks vs:AR)
abbrev AT:=Option B
abbrev Ro:=List AT
abbrev AY:=Ro->Option AR
abbrev AX:=Ro->Option D
abbrev AW:=Ro->Option Bool
abbrev AV:=D->Ro->Option Ro
structure SR(K:W7)(H0 G0:Hp)(σ:L2.St)(H G:Hp)(ρ:Ro):Prop where
 gr:Gr H0 G0 H G
 len:σ.length=ρ.length
 sh:∀(i:Nat) d,ρ[i]?=some (some (B.sh d))->∃v,σ[i]?=some (some v)/\Rp K G d v
 ow:∀(i:Nat) l,ρ[i]?=some (some (B.ow l))->∃a xs,σ[i]?=some (some (V.ref a))/\G a=none/\H0 a=none/\H a=some (.lst xs)/\RpL K G l xs
 ap:∀(i j:Nat) l l' a b,ρ[i]?=some (some (B.ow l))->ρ[j]?=some (some (B.ow l'))->i≠j->σ[i]?=some (some (V.ref a))->σ[j]?=some (some (V.ref b))->a≠b
 od:∀(i:Nat) t ks vs,ρ[i]?=some (some (B.od t ks vs))->∃a kxs vxs,σ[i]?=some (some (V.ref a))/\G a=none/\H0 a=none/\Dc t G H a kxs vxs/\RpL K G ks kxs/\RpL K G vs vxs
 apd:∀(i j:Nat) t ks vs t' ks' vs' a b,ρ[i]?=some (some (B.od t ks vs))->ρ[j]?=some (some (B.od t' ks' vs'))->i≠j->σ[i]?=some (some (V.ref a))->σ[j]?=some (some (V.ref b))->a≠b
section
variable {H0 G0 H G H' G':Hp}{σ:L2.St}{ρ:Ro}
def SR.mkSh(g:Gr H0 G0 H G)(len:σ.length=ρ.length)(sh:∀(i:Nat) d,ρ[i]?=some (some (B.sh d))->∃v,σ[i]?=some (some v)/\Rp K G d v)(no:∀(i:Nat) l,ρ[i]?≠some (some (B.ow l)))(no':∀(i:Nat) t ks vs,ρ[i]?≠some (some (B.od t ks vs))):SR K H0 G0 σ H G ρ:=
 ⟨g,len,sh,λi l h=>absurd h (no i l),λi j l l' a b h=>absurd h (no i l),λi t ks vs h=>absurd h (no' i t ks vs),λi j t ks vs t' ks' vs' a b h=>absurd h (no' i t ks vs)⟩
theorem Ylx(g:Gr H G H' G')(h:H a=some o)(n:G a=none):G' a=none:=by
 cases q:G' a with
 | none=>rfl
 | some o=>
   have:=g.n a n (by grind);grind
def SR.grow(s:SR K H0 G0 σ H G ρ)(g:Gr H G H' G'):SR K H0 G0 σ H' G' ρ:=by
 refine⟨s.gr.trans g,s.len,λi d e=>?_,λi l e=>?_,s.ap,λi t ks vs e=>?_,s.apd⟩
 ·obtain⟨v,h1,h2⟩:=s.sh i d e
  exact⟨v,h1,h2.mono g.g⟩
 ·obtain⟨a,xs,h1,h2,h3,h4,h5⟩:=s.ow i l e
  exact⟨a,xs,h1,Ylx g h4 h2,h3,g.h _ _ h4,h5.mono g.g⟩
 ·obtain⟨a,kxs,vxs,h1,h2,h3,h4,h5,h6⟩:=s.od i t ks vs e
  obtain⟨o,h7,_⟩:=h4.some;exact⟨a,kxs,vxs,h1,Ylx g h7 h2,h3,h4.mono g.g λo=>g.h _ o,h5.mono g.g,h6.mono g.g⟩
def SR.seen(s:SR K H0 G0 σ H G ρ):Same G H:=s.gr.s
theorem Yp{α:Type}{l:List α}{x y:α}(h:(l.set i x)[j]?=some y):(j=i/\y=x/\i<l.length)\/(j≠i/\l[j]?=some y):=by grind
def SR.set_sh(s:SR K H0 G0 σ H G ρ)(i:Nat)(r:Rp K G d v):SR K H0 G0 (σ.set i (some v)) H G (ρ.set i (↑d)):=by
 refine⟨s.gr,by simp[s.len],λj e h=>?_,λj l h=>?_,λj k l l' a b h1 h2 h3 h4 h5=>?_,λj t ks vs h=>?_,λj k t ks vs t' ks' vs' a b h1 h2 h3 h4 h5=>?_⟩
 ·rcases Yp h with⟨rfl,e1,hl⟩|⟨hj,h⟩
  ·cases e1
   exact⟨v,by rw[List.getElem?_set_self (by rw[s.len];exact hl)],r⟩
  ·obtain⟨w,q1,q2⟩:=s.sh j e h
   exact⟨w,by rw[Qg (Ne.symm hj)];exact q1,q2⟩
 ·rcases Yp h with⟨rfl,e1,hl⟩|⟨hj,h⟩
  ·cases e1
  ·obtain⟨a,xs,q1,q2⟩:=s.ow j l h
   exact⟨a,xs,by rw[Qg (Ne.symm hj)];exact q1,q2⟩
 ·rcases Yp h1 with⟨rfl,e1,_⟩|⟨hj,h1⟩
  ·cases e1
  ·rcases Yp h2 with⟨rfl,e1,_⟩|⟨hk,h2⟩
   ·cases e1
   ·rw[Qg (Ne.symm hj)]at h4
    rw[Qg (Ne.symm hk)]at h5;exact s.ap j k l l' a b h1 h2 h3 h4 h5
 ·rcases Yp h with⟨rfl,e1,hl⟩|⟨hj,h⟩
  ·cases e1
  ·obtain⟨a,kxs,vxs,q1,q2⟩:=s.od j t ks vs h
   exact⟨a,kxs,vxs,by rw[Qg (Ne.symm hj)];exact q1,q2⟩
 ·rcases Yp h1 with⟨rfl,e1,_⟩|⟨hj,h1⟩
  ·cases e1
  ·rcases Yp h2 with⟨rfl,e1,_⟩|⟨hk,h2⟩
   ·cases e1
   ·rw[Qg (Ne.symm hj)]at h4
    rw[Qg (Ne.symm hk)]at h5;exact s.apd j k t ks vs t' ks' vs' a b h1 h2 h3 h4 h5
def SR.set_ow(s:SR K H0 G0 σ H G ρ)(i:Nat)(g:Gr H G H' G')(hp:H p=none)(gp:G' p=none)(e:H' p=some (.lst xs))(r:RpL K G' l xs):SR K H0 G0 (σ.set i (some (.ref p))) H' G' (ρ.set i (some (.ow l))):=by
 have s':=s.grow g
 have np:∀(j:Nat) l a,ρ[j]?=some (some (B.ow l))->σ[j]?=some (some (V.ref a))->a≠p:=λj l a h1 h2 z=>by
  obtain⟨b,ys,q1,_,_,q4,_⟩:=s.ow j l h1;rw[h2]at q1;cases q1;rw[z,hp]at q4;cases q4
 refine⟨s'.gr,by simp[s.len],λj e h=>?_,λj l h=>?_,λj k l l' a b h1 h2 h3 h4 h5=>?_,λj t ks vs h=>?_,λj k t ks vs t' ks' vs' a b h1 h2 h3 h4 h5=>?_⟩
 ·rcases Yp h with⟨rfl,e1,hl⟩|⟨hj,h⟩
  ·cases e1
  ·obtain⟨w,q1,q2⟩:=s'.sh j e h
   exact⟨w,by rw[Qg (Ne.symm hj)];exact q1,q2⟩
 ·rcases Yp h with⟨rfl,e1,hl⟩|⟨hj,h⟩
  ·cases e1
   exact⟨p,xs,by rw[List.getElem?_set_self (by rw[s.len];exact hl)],gp,s.gr.h.free hp,e,r⟩
  ·obtain⟨a,xs,q1,q2⟩:=s'.ow j l h
   exact⟨a,xs,by rw[Qg (Ne.symm hj)];exact q1,q2⟩
 ·rcases Yp h1 with⟨rfl,e1,hl⟩|⟨hj,h1n⟩
  ·rcases Yp h2 with⟨rfl,e2,_⟩|⟨hk,h2⟩
   ·exact absurd rfl h3
   ·rw[List.getElem?_set_self (by rw[s.len];exact hl)]at h4
    cases h4;rw[Qg (Ne.symm hk)]at h5;exact Ne.symm (np k l' b h2 h5)
  ·rcases Yp h2 with⟨rfl,e2,hl⟩|⟨hk,h2⟩
   ·rw[List.getElem?_set_self (by rw[s.len];exact hl)]at h5
    cases h5;rw[Qg (Ne.symm hj)]at h4;exact np j l a h1n h4
   ·rw[Qg (Ne.symm hj)]at h4
    rw[Qg (Ne.symm hk)]at h5;exact s.ap j k l l' a b h1n h2 h3 h4 h5
 ·rcases Yp h with⟨rfl,e1,hl⟩|⟨hj,h⟩
  ·cases e1
  ·obtain⟨a,kxs,vxs,q1,q2⟩:=s'.od j t ks vs h
   exact⟨a,kxs,vxs,by rw[Qg (Ne.symm hj)];exact q1,q2⟩
 ·rcases Yp h1 with⟨rfl,e1,_⟩|⟨hj,h1⟩
  ·cases e1
  ·rcases Yp h2 with⟨rfl,e1,_⟩|⟨hk,h2⟩
   ·cases e1
   ·rw[Qg (Ne.symm hj)]at h4
    rw[Qg (Ne.symm hk)]at h5;exact s.apd j k t ks vs t' ks' vs' a b h1 h2 h3 h4 h5
theorem SR.set_od(s:SR K H0 G0 σ H G ρ)(i:Nat)(g:Gr H G H' G')(hp:H p=none)(gp:G' p=none)(e:Dc t G' H' p kxs vxs)(r1:RpL K G' ks kxs)(r2:RpL K G' vs vxs):SR K H0 G0 (σ.set i (some (.ref p))) H' G' (ρ.set i (some (.od t ks vs))):=by
 have s':=s.grow g
 have np:∀(j:Nat) t ks vs a,ρ[j]?=some (some (B.od t ks vs))->σ[j]?=some (some (V.ref a))->a≠p:=λj t ks vs a h1 h2 z=>by
  obtain⟨b,kxs,vxs,q1,_,_,q4,_⟩:=s.od j t ks vs h1;rw[h2]at q1;cases q1;obtain⟨o,q5,_⟩:=q4.some;grind
 refine⟨s'.gr,by simp[s.len],λj e h=>?_,λj l h=>?_,λj k l l' a b h1 h2 h3 h4 h5=>?_,λj t ks vs h=>?_,λj k t ks vs t' ks' vs' a b h1 h2 h3 h4 h5=>?_⟩
 ·rcases Yp h with⟨rfl,e1,hl⟩|⟨hj,h⟩
  ·cases e1
  ·obtain⟨w,q1,q2⟩:=s'.sh j e h
   grind
 ·rcases Yp h with⟨rfl,e1,hl⟩|⟨hj,h⟩
  ·cases e1
  ·obtain⟨a,xs,q1,q2⟩:=s'.ow j l h
   grind
 ·rcases Yp h1 with⟨rfl,e1,_⟩|⟨hj,h1⟩
  ·cases e1
  ·rcases Yp h2 with⟨rfl,e1,_⟩|⟨hk,h2⟩
   ·cases e1
   ·rw[Qg (Ne.symm hj)]at h4
    rw[Qg (Ne.symm hk)]at h5;exact s.ap j k l l' a b h1 h2 h3 h4 h5
 ·rcases Yp h with⟨rfl,e1,hl⟩|⟨hj,h⟩
  ·cases e1
   exact⟨p,kxs,vxs,by rw[List.getElem?_set_self (by rw[s.len];exact hl)],gp,s.gr.h.free hp,e,r1,r2⟩
  ·obtain⟨a,kxs,vxs,q1,q2⟩:=s'.od j t ks vs h
   grind
 ·rcases Yp h1 with⟨rfl,e1,hl⟩|⟨hj,h1n⟩
  ·grind
  ·rcases Yp h2 with⟨rfl,e2,hl⟩|⟨hk,h2⟩
   ·grind
   ·rw[Qg (Ne.symm hj)]at h4
    rw[Qg (Ne.symm hk)]at h5;exact s.apd j k t ks vs t' ks' vs' a b h1n h2 h3 h4 h5
theorem SR.mut(s:SR K H0 G0 σ H G ρ)(hi:ρ[i]?=some (some (B.ow l)))(ha:σ[i]?=some (some (V.ref a)))(r:RpL K G l' ys):SR K H0 G0 σ (upd H a (.lst ys)) G (ρ.set i (some (.ow l'))):=by
 obtain⟨a',xs,q1,q2,q3,q4,q5⟩:=s.ow i l hi;rw[ha]at q1;cases q1;have hl:i<ρ.length:=(qo hi).1;refine⟨⟨λb o e=>?_,s.gr.g,λb o e=>?_,s.gr.n⟩,by simp[s.len],λj e h=>?_,λj m h=>?_,λj k m m' b c h1 h2 h3 h4 h5=>?_,λj t ks vs h=>?_,λj k t ks vs t' ks' vs' b c h1 h2 h3 h4 h5=>?_⟩
 ·rw[Yaa (Yz e q3)];exact s.gr.h b o e
 ·rw[Yaa (Yz e q2)];exact s.gr.s b o e
 ·rcases Yp h with⟨rfl,e1,_⟩|⟨hj,h⟩
  ·cases e1
  ·exact s.sh j e h
 ·rcases Yp h with⟨rfl,e1,_⟩|⟨hj,h⟩
  ·cases e1
   exact⟨a,ys,ha,q2,q3,Yu,r⟩
  ·obtain⟨b,zs,p1,p2,p3,p4,p5⟩:=s.ow j m h
   exact⟨b,zs,p1,p2,p3,by rw[Yaa (s.ap j i m l b a h hi hj p1 ha)];exact p4,p5⟩
 ·have old:∀(j:Nat) m,(ρ.set i (some (.ow l')))[j]?=some (some (B.ow m))->∃m',ρ[j]?=some (some (B.ow m')):=λj m h=>by
   grind
  obtain⟨n1,e1⟩:=old j m h1;obtain⟨n2,e2⟩:=old k m' h2;exact s.ap j k n1 n2 b c e1 e2 h3 h4 h5
 ·rcases Yp h with⟨rfl,e1,_⟩|⟨hj,h⟩
  ·cases e1
  ·obtain⟨b,kxs,vxs,p1,p2,p3,p4,p5⟩:=s.od j t ks vs h
   refine⟨b,kxs,vxs,p1,p2,p3,p4.mono (Same.refl _) λo q=>?_,p5⟩;obtain⟨o',q',nl⟩:=p4.some;rw[q]at q';cases q';rw[Yaa (λz=>by grind)];exact q
 ·rcases Yp h1 with⟨rfl,e1,_⟩|⟨hj,h1⟩
  ·cases e1
  ·rcases Yp h2 with⟨rfl,e1,_⟩|⟨hk,h2⟩
   ·cases e1
   ·exact s.apd j k t ks vs t' ks' vs' b c h1 h2 h3 h4 h5
theorem SR.mutd(s:SR K H0 G0 σ H G ρ)(hi:ρ[i]?=some (some (B.od t ks vs)))(ha:σ[i]?=some (some (V.ref a)))(d:Dc t' G (upd H a o) a kxs vxs)(r1:RpL K G ks' kxs)(r2:RpL K G vs' vxs):SR K H0 G0 σ (upd H a o) G (ρ.set i (some (.od t' ks' vs'))):=by
 obtain⟨a',kxs0,vxs0,q1,q2,q3,q4,q5,q6⟩:=s.od i t ks vs hi;rw[ha]at q1;cases q1;obtain⟨o0,q7,nl⟩:=q4.some;have hl:i<ρ.length:=(qo hi).1;refine⟨⟨λb o e=>?_,s.gr.g,λb o e=>?_,s.gr.n⟩,by simp[s.len],λj e h=>?_,λj m h=>?_,λj k m m' b c h1 h2 h3 h4 h5=>?_,λj ta ka va h=>?_,λj k ta ka va tb kb vb b c h1 h2 h3 h4 h5=>?_⟩
 ·rw[Yaa (Yz e q3)];exact s.gr.h b o e
 ·rw[Yaa (Yz e q2)];exact s.gr.s b o e
 ·rcases Yp h with⟨rfl,e1,_⟩|⟨hj,h⟩
  ·cases e1
  ·exact s.sh j e h
 ·rcases Yp h with⟨rfl,e1,_⟩|⟨hj,h⟩
  ·cases e1
  ·obtain⟨b,zs,p1,p2,p3,p4,p5⟩:=s.ow j m h
   exact⟨b,zs,p1,p2,p3,by rw[Yaa (λz=>by grind)];exact p4,p5⟩
 ·rcases Yp h1 with⟨rfl,e1,_⟩|⟨hj,h1⟩
  ·cases e1
  ·rcases Yp h2 with⟨rfl,e1,_⟩|⟨hk,h2⟩
   ·cases e1
   ·exact s.ap j k m m' b c h1 h2 h3 h4 h5
 ·rcases Yp h with⟨rfl,e1,_⟩|⟨hj,h⟩
  ·grind
  ·obtain⟨b,kx,vx,p1,p2,p3,p4,p5⟩:=s.od j ta ka va h
   exact⟨b,kx,vx,p1,p2,p3,p4.mono (Same.refl _) λo q=>by rw[Yaa (s.apd j i _ _ _ _ _ _ b a h hi hj p1 ha)];exact q,p5⟩
 ·have old:∀(j:Nat) t2 k2 v2,(ρ.set i (some (.od t' ks' vs')))[j]?=some (some (B.od t2 k2 v2))->∃t3 k3 v3,ρ[j]?=some (some (B.od t3 k3 v3)):=λj t2 k2 v2 h=>by
   grind
  obtain⟨t1,k1,v1,e1⟩:=old j _ _ _ h1;obtain⟨t2,k2,v2,e2⟩:=old k _ _ _ h2;exact s.apd j k t1 k1 v1 t2 k2 v2 b c e1 e2 h3 h4 h5
theorem SR.freezeT(s:SR K H0 G0 σ H G ρ)(hi:ρ[i]?=some (some (B.ow l))):∃G',SR K H0 G0 σ H G' (ρ.set i (↑(.lst l)))/\∀b ys,G' b=some (.tup ys)->G b=some (.tup ys):=by
 obtain⟨a,xs,q1,q2,q3,q4,q5⟩:=s.ow i l hi;have hl:i<ρ.length:=(qo hi).1
 have sm:Same G (upd G a (.lst xs)):=λb o e=>by rw[Yaa (Yz e q2)];exact e
 refine⟨upd G a (.lst xs),?_,λb ys e=>by
  by_cases z:b=a
  ·subst z;rw[Yu]at e;cases e
  ·rw[Yaa z]at e;exact e⟩
 refine⟨⟨s.gr.h,s.gr.g.trans sm,λb o e=>?_,λb h h'=>?_⟩,by simp[s.len],λj e h=>?_,λj m h=>?_,λj k m m' b c h1 h2 h3 h4 h5=>?_,λj t ks vs h=>?_,λj k t ks vs t' ks' vs' b c h1 h2 h3 h4 h5=>?_⟩
 ·by_cases z:b=a
  ·subst z;rw[Yu]at e;grind
  ·rw[Yaa z]at e;exact s.gr.s b o e
 ·by_cases z:b=a
  ·grind
  ·rw[Yaa z]at h';exact s.gr.n b h h'
 ·rcases Yp h with⟨rfl,e1,_⟩|⟨hj,h⟩
  ·cases e1
   exact⟨_,q1,by rw[Rp];exact⟨a,xs,rfl,.inl Yu,q5.mono sm⟩⟩
  ·obtain⟨v,p1,p2⟩:=s.sh j e h
   exact⟨v,p1,p2.mono sm⟩
 ·rcases Yp h with⟨rfl,e1,_⟩|⟨hj,h⟩
  ·cases e1
  ·obtain⟨b,zs,p1,p2,p3,p4,p5⟩:=s.ow j m h
   exact⟨b,zs,p1,by rw[Yaa (s.ap j i m l b a h hi hj p1 q1)];exact p2,p3,p4,p5.mono sm⟩
 ·rcases Yp h1 with⟨rfl,e1,_⟩|⟨hj,h1⟩
  ·cases e1
  ·rcases Yp h2 with⟨rfl,e1,_⟩|⟨hk,h2⟩
   ·cases e1
   ·exact s.ap j k m m' b c h1 h2 h3 h4 h5
 ·rcases Yp h with⟨rfl,e1,_⟩|⟨hj,h⟩
  ·cases e1
  ·obtain⟨b,kxs,vxs,p1,p2,p3,p4,p5,p6⟩:=s.od j t ks vs h
   obtain⟨o',q',nl⟩:=p4.some;exact⟨b,kxs,vxs,p1,by rw[Yaa (λz=>by grind)];exact p2,p3,p4.mono sm λ_ z=>z,p5.mono sm,p6.mono sm⟩
 ·rcases Yp h1 with⟨rfl,e1,_⟩|⟨hj,h1⟩
  ·cases e1
  ·rcases Yp h2 with⟨rfl,e1,_⟩|⟨hk,h2⟩
   ·cases e1
   ·exact s.apd j k t ks vs t' ks' vs' b c h1 h2 h3 h4 h5
def SR.freeze(s:SR K H0 G0 σ H G ρ)(hi:ρ[i]?=some (some (B.ow l))):∃G',SR K H0 G0 σ H G' (ρ.set i (↑(.lst l))):=by
 obtain⟨G',h,_⟩:=s.freezeT hi;exact⟨G',h⟩
theorem SR.freezedT(s:SR K H0 G0 σ H G ρ)(hi:ρ[i]?=some (some (B.od t ks vs))):∃G',SR K H0 G0 σ H G' (ρ.set i (↑(.dct t ks vs)))/\∀b ys,G' b=some (.tup ys)->G b=some (.tup ys):=by
 obtain⟨a,kxs,vxs,q1,q2,q3,q4,q5,q6⟩:=s.od i t ks vs hi;obtain⟨o,q7,nl⟩:=q4.some;have hl:i<ρ.length:=(qo hi).1
 have sm:Same G (upd G a o):=λb o e=>by rw[Yaa (Yz e q2)];exact e
 obtain⟨oT,q8,nt⟩:=q4.someT;rw[q7]at q8;cases q8
 refine⟨upd G a o,?_,λb ys e=>by
  by_cases z:b=a
  ·subst z;rw[Yu]at e;grind
  ·rw[Yaa z]at e;exact e⟩
 refine⟨⟨s.gr.h,s.gr.g.trans sm,λb o' e=>?_,λb h h'=>?_⟩,by simp[s.len],λj e h=>?_,λj m h=>?_,λj k m m' b c h1 h2 h3 h4 h5=>?_,λj t ks vs h=>?_,λj k t ks vs t' ks' vs' b c h1 h2 h3 h4 h5=>?_⟩
 ·by_cases z:b=a
  ·subst z;rw[Yu]at e;grind
  ·rw[Yaa z]at e;exact s.gr.s b o' e
 ·by_cases z:b=a
  ·grind
  ·rw[Yaa z]at h';exact s.gr.n b h h'
 ·rcases Yp h with⟨rfl,e1,_⟩|⟨hj,h⟩
  ·cases e1
   refine⟨_,q1,?_⟩;rw[Rp];refine⟨a,kxs,vxs,rfl,q4.mono sm λo' z=>?_,q5.mono sm,q6.mono sm⟩;rw[q7]at z;rw[Yu];exact z
  ·obtain⟨v,p1,p2⟩:=s.sh j e h
   exact⟨v,p1,p2.mono sm⟩
 ·rcases Yp h with⟨rfl,e1,_⟩|⟨hj,h⟩
  ·cases e1
  ·obtain⟨b,zs,p1,p2,p3,p4,p5⟩:=s.ow j m h
   exact⟨b,zs,p1,by rw[Yaa (λz=>by grind)];exact p2,p3,p4,p5.mono sm⟩
 ·rcases Yp h1 with⟨rfl,e1,_⟩|⟨hj,h1⟩
  ·cases e1
  ·rcases Yp h2 with⟨rfl,e1,_⟩|⟨hk,h2⟩
   ·cases e1
   ·exact s.ap j k m m' b c h1 h2 h3 h4 h5
 ·rcases Yp h with⟨rfl,e1,_⟩|⟨hj,h⟩
  ·cases e1
  ·obtain⟨b,kx,vx,p1,p2,p3,p4,p5,p6⟩:=s.od j t ks vs h
   exact⟨b,kx,vx,p1,by rw[Yaa (s.apd j i _ _ _ _ _ _ b a h hi hj p1 q1)];exact p2,p3,p4.mono sm λ_ z=>z,p5.mono sm,p6.mono sm⟩
 ·rcases Yp h1 with⟨rfl,e1,_⟩|⟨hj,h1⟩
  ·cases e1
  ·rcases Yp h2 with⟨rfl,e1,_⟩|⟨hk,h2⟩
   ·cases e1
   ·exact s.apd j k t ks vs t' ks' vs' b c h1 h2 h3 h4 h5
def SR.freezed(s:SR K H0 G0 σ H G ρ)(hi:ρ[i]?=some (some (B.od t ks vs))):∃G',SR K H0 G0 σ H G' (ρ.set i (↑(.dct t ks vs))):=by
 obtain⟨G',h,_⟩:=s.freezedT hi;exact⟨G',h⟩
def Le(ρ ρ':Ro):Prop:=ρ.length=ρ'.length/\∀(i:Nat) b,ρ[i]?=some (some b)->ρ'[i]?=some (some b)
def SR.le(s:SR K H0 G0 σ H G ρ')(h:Le ρ ρ'):SR K H0 G0 σ H G ρ:=
 ⟨s.gr,s.len.trans h.1.symm,λi d e=>s.sh i d (h.2 i _ e),λi l e=>s.ow i l (h.2 i _ e),λi j l l' a b e1 e2=>s.ap i j l l' a b (h.2 i _ e1) (h.2 j _ e2),
  λi t ks vs e=>s.od i t ks vs (h.2 i _ e),λi j t ks vs t' ks' vs' a b e1 e2=>s.apd i j t ks vs t' ks' vs' a b (h.2 i _ e1) (h.2 j _ e2)⟩
theorem SR.rebase(s:SR K H0 G0 σ H G ρ):∃H1,SR K H1 G σ H G ρ/\∀σ' H' G' ρ',SR K H1 G σ' H' G' ρ'->SR K H0 G0 σ' H' G' ρ':=by
 classical
 let own:Addr->Prop:=λa=>∃(i:Nat),((∃l:AR,ρ[i]?=some (some (B.ow l)))\/(∃t ks vs,ρ[i]?=some (some (B.od t ks vs))))/\σ[i]?=some (some (V.ref a))
 have h0:∀a,own a->H0 a=none:=λa hx_=>by
  obtain⟨i,e1,e2⟩:=hx_;rcases e1 with⟨l,e1⟩|⟨t,ks,vs,e1⟩
  ·obtain⟨b,xs,q1,_,q3,_⟩:=s.ow i l e1
   grind
  ·obtain⟨b,kxs,vxs,q1,_,q3,_⟩:=s.od i t ks vs e1
   grind
 have back:∀a,(if own a then (none:Option HO)else H a)=none->H0 a=none:=λa h=>by
  by_cases o:own a
  ·exact h0 a o
  ·rw[if_neg o]at h;exact s.gr.h.free h
 refine⟨λa=>if own a then none else H a,⟨⟨λb o e=>?_,Same.refl _,s.gr.s,λ_ h h'=>absurd h h'⟩,s.len,s.sh,λi l e=>?_,s.ap,λi t ks vs e=>?_,s.apd⟩,λσ' H' G' ρ' t=>⟨⟨λb o e=>?_,s.gr.g.trans t.gr.g,t.gr.s,λb h h'=>?_⟩,t.len,t.sh,λi l e=>?_,t.ap,λi t1 ks vs e=>?_,t.apd⟩⟩
 ·simp_all
 ·obtain⟨a,xs,q1,q2,q3,q4,q5⟩:=s.ow i l e
  exact⟨a,xs,q1,q2,if_pos ⟨i,.inl ⟨l,e⟩,q1⟩,q4,q5⟩
 ·obtain⟨a,kxs,vxs,q1,q2,q3,q4⟩:=s.od i t ks vs e
  exact⟨a,kxs,vxs,q1,q2,if_pos ⟨i,.inr ⟨t,ks,vs,e⟩,q1⟩,q4⟩
 ·refine t.gr.h b o ?_
  have z:¬own b:=λz=>by grind
  show(if own b then none else H b)=some o;rw[if_neg z];exact s.gr.h b o e
 ·by_cases z:G b=none
  ·exact back b (t.gr.n b z h')
  ·exact s.gr.n b h z
 ·obtain⟨a,xs,q1,q2,q3,q4,q5⟩:=t.ow i l e
  grind
 ·obtain⟨a,kxs,vxs,q1,q2,q3,q4⟩:=t.od i t1 ks vs e
  grind
end
def tOf(K:W7)(f:AX):TE:=λσ H Q=>∃ρ d H0 G0 G,f ρ=some d/\SR K H0 G0 σ H G ρ/\∀v H' G',Gr H G H' G'->Rp K G' d v->Q v H'
def tCof(K:W7)(f:AX):TE:=λσ H Q=>∃ρ d H0 G0 G,f ρ=some d/\SR K H0 G0 σ H G ρ/\∀v H' G',Gr H G H' G'->Ct K G' H' d v->Q v H'
def tCAof(K:W7)(f:AY):TA:=λσ H Q=>∃ρ l H0 G0 G,f ρ=some l/\SR K H0 G0 σ H G ρ/\∀vs H' G',Gr H G H' G'->CtL K G' H' l vs->Q vs H'
def tFof(K:W7)(f:AY):TE:=λσ H Q=>∃ρ l H0 G0 G,f ρ=some l/\SR K H0 G0 σ H G ρ/\∀p xs H' G',Gr H G H' G'->H p=none->G' p=none->H' p=some (.lst xs)->RpL K G' l xs->Q (.ref p) H'
def tTof(K:W7)(f:AW):TT:=λσ H Q=>∃ρ b H0 G0 G,f ρ=some b/\SR K H0 G0 σ H G ρ/\∀H' G',Gr H G H' G'->Q b H'
def tAof(K:W7)(f:AY):TA:=λσ H Q=>∃ρ l H0 G0 G,f ρ=some l/\SR K H0 G0 σ H G ρ/\∀vs H' G',Gr H G H' G'->RpL K G' l vs->Q vs H'
def Wk(K:W7)(J:It)(G':Hp)(ds:AR):Prop:=ds.length<=sizeLine/\∀(i:Nat) H2 G2,Same G' G2->Same G2 H2->
 (∀d,ds[i]?=some d->J.go i H2/\∀y H3,J.yld i H2 y H3->∃G3,Gr H2 G2 H3 G3/\Rp K G3 d y)/\(ds.length<=i->J.stop i H2)
def tIof(K:W7)(f:AY):TI:=λσ H R=>∃ρ ds H0 G0 G,f ρ=some ds/\SR K H0 G0 σ H G ρ/\∀J H' G',Gr H G H' G'->Wk K J G' ds->R J H'
inductive Out where
 | nx (ρ:Ro)|rt (d:D)|bk (ρ:Ro)|ct (ρ:Ro)
abbrev AU:=Ro->Option Out
def Cont(K:W7)(H0 G0:Hp)(F:Ends):Out->Prop
 | .nx ρ'=>∀σ' H' G',SR K H0 G0 σ' H' G' ρ'->F.nx σ' H'
 | .rt d=>∀v H' G',Gr H0 G0 H' G'->Rp K G' d v->F.rt v H'
 | .bk ρ'=>∀σ' H' G',SR K H0 G0 σ' H' G' ρ'->F.bk σ' H'
 | .ct ρ'=>∀σ' H' G',SR K H0 G0 σ' H' G' ρ'->F.ct σ' H'
def sOf(K:W7)(f:AU):TS:=λF σ H=>∃ρ out H0 G0 G,f ρ=some out/\SR K H0 G0 σ H G ρ/\Cont K H0 G0 F out
def gOf(K:W7)(gt:AV):TG:=λv σ H Q=>∃d ρ ρ' H0 G0 G,gt d ρ=some ρ'/\SR K H0 G0 σ H G ρ/\Rp K G d v/\∀σ',SR K H0 G0 σ' H G ρ'->Q σ' H
abbrev ME(X:Cx)(e:Expr)(f:AX):Prop:=PE X e (tOf X.K f)
abbrev MC(X:Cx)(e:Expr)(f:AX):Prop:=PE X e (tCof X.K f)
abbrev MCA(X:Cx)(es:AM)(f:AY):Prop:=PA X es (tCAof X.K f)
abbrev MF(X:Cx)(e:Expr)(f:AY):Prop:=PE X e (tFof X.K f)
abbrev MT(X:Cx)(e:Expr)(f:AW):Prop:=PT X e (tTof X.K f)
abbrev MA(X:Cx)(es:AM)(f:AY):Prop:=PA X es (tAof X.K f)
abbrev MI(X:Cx)(tg iter:Expr)(f:AY):Prop:=PI X tg iter (tIof X.K f)
abbrev MS(X:Cx)(st:Stmt)(f:AU):Prop:=PS X st (sOf X.K f)
abbrev MB(X:Cx)(sts:List Stmt)(f:AU):Prop:=PSs X sts (sOf X.K f)
abbrev MG(X:Cx)(tg:Expr)(gt:AV):Prop:=PG X tg (gOf X.K gt)
section
variable {X:Cx}
def PE.imp(h:PE X e t)(i:∀σ H Q,t' σ H Q->t σ H Q):PE X e t':=λpins s σ H Q I hw=>h pins s σ H Q I (i σ H Q hw)
def PT.imp(h:PT X e t)(i:∀σ H Q,t' σ H Q->t σ H Q):PT X e t':=λpins s σ H Q I hw=>h pins s σ H Q I (i σ H Q hw)
def PA.imp(h:PA X es t)(i:∀σ H Q,t' σ H Q->t σ H Q):PA X es t':=λpos pins s σ H Q I hw=>h pos pins s σ H Q I (i σ H Q hw)
def PS.imp{st:Stmt}(h:PS X st t)(i:∀F σ H,t' F σ H->t F σ H):PS X st t':=λpins s σ H F I hw=>h pins s σ H F I (i F σ H hw)
def PSs.imp{st:List Stmt}(h:PSs X st t)(i:∀F σ H,t' F σ H->t F σ H):PSs X st t':=λpins s σ H F I hw=>h pins s σ H F I (i F σ H hw)
def PI.imp(h:PI X tg e t)(i:∀σ H R,t' σ H R->t σ H R):PI X tg e t':=λpins s σ H R I hw=>h pins s σ H R I (i σ H R hw)
def PG.imp(h:PG X e t)(i:∀v σ H Q,t' v σ H Q->t v σ H Q):PG X e t':=λpins s σ H v u Q I r hw=>h pins s σ H v u Q I r (i v σ H Q hw)
variable {H0 G0 H G:Hp}{σ:L2.St}{ρ:Ro}
def tOf.at(e:f ρ=some d)(s:SR K H0 G0 σ H G ρ)(h:∀v H' G',Gr H G H' G'->Rp K G' d v->SR K H0 G0 σ H' G' ρ->Q v H'):tOf K f σ H Q:=
 ⟨ρ,d,H0,G0,G,e,s,λv H' G' g r=>h v H' G' g r (s.grow g)⟩
def tCof.at(e:f ρ=some d)(s:SR K H0 G0 σ H G ρ)(h:∀v H' G',Gr H G H' G'->Ct K G' H' d v->SR K H0 G0 σ H' G' ρ->Q v H'):tCof K f σ H Q:=
 ⟨ρ,d,H0,G0,G,e,s,λv H' G' g r=>h v H' G' g r (s.grow g)⟩
def tCAof.at(e:f ρ=some l)(s:SR K H0 G0 σ H G ρ)(h:∀vs H' G',Gr H G H' G'->CtL K G' H' l vs->SR K H0 G0 σ H' G' ρ->Q vs H'):tCAof K f σ H Q:=
 ⟨ρ,l,H0,G0,G,e,s,λv H' G' g r=>h v H' G' g r (s.grow g)⟩
def ME.mc(h:ME X e f):MC X e f:=PE.imp h λσ H Q ⟨ρ,d,H0,G0,G,e,s,h⟩=>⟨ρ,d,H0,G0,G,e,s,λv H' G' g r=>h v H' G' g (.of g.s r)⟩
def tTof.at(e:f ρ=some b)(s:SR K H0 G0 σ H G ρ)(h:∀H' G',Gr H G H' G'->SR K H0 G0 σ H' G' ρ->Q b H'):tTof K f σ H Q:=
 ⟨ρ,b,H0,G0,G,e,s,λH' G' g=>h H' G' g (s.grow g)⟩
def tAof.at(e:f ρ=some l)(s:SR K H0 G0 σ H G ρ)(h:∀vs H' G',Gr H G H' G'->RpL K G' l vs->SR K H0 G0 σ H' G' ρ->Q vs H'):tAof K f σ H Q:=
 ⟨ρ,l,H0,G0,G,e,s,λv H' G' g r=>h v H' G' g r (s.grow g)⟩
end
end
section
variable {K:W7}
noncomputable def b2{α:Type}(fa fb:AX)(g:D->D->Option α):Ro->Option α:=λρ=>(fa ρ).bind λx=>(fb ρ).bind λy=>g x y
def b1{α:Type}(fa:AX)(g:D->Option α):Ro->Option α:=λρ=>(fa ρ).bind g
theorem Yly(h:b2 fa fb g ρ=some r):∃x y,fa ρ=some x/\fb ρ=some y/\g x y=some r:=by
 unfold b2 at h;obtain⟨x,h1,h⟩:=qa h;obtain⟨y,h2,h⟩:=qa h;grind
theorem Ycp(h:b1 fa g ρ=some r):∃x,fa ρ=some x/\g x=some r:=by
 unfold b1 at h;obtain⟨x,h1,h⟩:=qa h;grind
def Sem2(K:W7)(r:R2)(g:D->D->Option D):Prop:=∀(x y:V) (dx dy d:D) (H G:Hp) (Q:VK),g dx dy=some d->Same G H->Ct K G H dx x->Ct K G H dy y->(∀v H' G',Gr H G H' G'->Rp K G' d v->Q v H')->r x y H Q
def Yhl(K:W7)(r:R2)(g:D->D->Option Bool):Prop:=∀(x y:V) (dx dy:D) (b:Bool) (H G:Hp) (Q:VK),g dx dy=some b->Same G H->Ct K G H dx x->Ct K G H dy y->Q (.bl b) H->r x y H Q
def SemC(K:W7)(r:AQ->Hp->VK->Prop)(g:AR->Option D):Prop:=∀(vs:AQ) (ds:AR) (d:D) (H G:Hp) (Q:VK),g ds=some d->Same G H->CtL K G H ds vs->(∀v H' G',Gr H G H' G'->Rp K G' d v->Q v H')->r vs H Q
def SemF(K:W7)(r:AQ->Hp->VK->Prop)(g:AR->Option AR):Prop:=∀(vs:AQ) (ds l:AR) (H G:Hp) (Q:VK),g ds=some l->Same G H->CtL K G H ds vs->
 (∀p xs H' G',Gr H G H' G'->H p=none->G' p=none->H' p=some (.lst xs)->RpL K G' l xs->Q (.ref p) H')->r vs H Q
section
variable {X:Cx}{a b c e:Expr}{es:AM}{fa fb fc f:AX}{ga:AY}{pos:Pos}
noncomputable def getV(i:Nat):AX:=λρ=>match ρ[i]? with
 | some (some (B.sh d))=>some d
 | _=>none
def getO(i:Nat):AY:=λρ=>match ρ[i]? with
 | some (some (B.ow l))=>some l
 | _=>none
theorem Yry(h:getV i ρ=some d):ρ[i]?=some (some (B.sh d)):=by
 unfold getV at h;grind
theorem Ylz(h:getO i ρ=some l):ρ[i]?=some (some (B.ow l)):=by
 unfold getO at h;grind
noncomputable def getC(i:Nat):AX:=λρ=>match ρ[i]? with
 | some (some (B.sh d))=>some d
 | some (some (B.ow l))=>some (.lst l)
 | some (some (B.od t ks vs))=>some (.dct t ks vs)
 | _=>none
noncomputable def kD(d:D):AX:=λ_=>some d
def Ylb(h:PE X e t)(ht:∀σ H Q,Q v H->t σ H Q)(hr:∀G,Rp X.K G d v):ME X e (kD d):=
 PE.imp h λσ H Q hx_=>by
  obtain⟨ρ,d',H0,G0,G,e,s,h⟩:=hx_;cases e;exact ht σ H Q (h v H G (.refl s.seen) (hr G))
def y7i{j}:ME X (.Constant (.int i) j pos) (kD (.int i)):=Ylb (v:=.int i) Yabm (λ_ _ _ q=>q) λ_=>by rw[Rp]
def Yaf6{j}:ME X (.Constant (.bool k) j pos) (kD (.bl k)):=Ylb (v:=.bl k) Yafp (λ_ _ _ q=>q) λ_=>by rw[Rp]
def Yacw{j}:ME X (.Constant .none j pos) (kD .non):=Ylb (v:=.non) Yabn (λ_ _ _ q=>q) λ_=>by rw[Rp]
def y7j(hr:Sem2 K r g)(h:tOf K (b2 fa fb g) σ H Q):tOp r (tCof K fa) (tCof K fb) σ H Q:=by
 obtain⟨ρ,d,H0,G0,G,e,s,h⟩:=h;obtain⟨dx,dy,h1,h2,h3⟩:=Yly e;exact tCof.at h1 s λv H1 G1 g1 r1 s1=>tCof.at h2 s1 λu H2 G2 g2 r2 s2=>hr v u dx dy d H2 G2 Q h3 s2.seen (r1.grow g2) r2 λw H' G' g3 r3=>h w H' G' ((g1.trans g2).trans g3) r3
def y87(hr:Yhl K r g)(h:tTof K (b2 fa fb g) σ H Q):Yab9 (tOp r (tCof K fa) (tCof K fb)) σ H Q:=by
 obtain⟨ρ,d,H0,G0,G,e,s,h⟩:=h;obtain⟨dx,dy,h1,h2,h3⟩:=Yly e;exact tCof.at h1 s λv H1 G1 g1 r1 s1=>tCof.at h2 s1 λu H2 G2 g2 r2 s2=>hr v u dx dy d H2 G2 _ h3 s2.seen (r1.grow g2) r2 ⟨d,rfl,h H2 G2 (g1.trans g2)⟩
def mB(f:AW):AX:=λρ=>(f ρ).map D.bl
theorem Yuf{f:AW}(h:mB f ρ=some d):∃b,f ρ=some b/\d=.bl b:=by
 unfold mB at h;obtain⟨b,h1,h2⟩:=qc h;grind
def y45(hr:Yhl K r g)(h:tOf K (mB (b2 fa fb g)) σ H Q):tOp r (tCof K fa) (tCof K fb) σ H Q:=by
 obtain⟨ρ,d,H0,G0,G,e,s,h⟩:=h;obtain⟨b,eb,rfl⟩:=Yuf e;obtain⟨dx,dy,h1,h2,h3⟩:=Yly eb;exact tCof.at h1 s λv H1 G1 g1 r1 s1=>tCof.at h2 s1 λu H2 G2 g2 r2 s2=>hr v u dx dy b H2 G2 _ h3 s2.seen (r1.grow g2) r2 (h _ H2 G2 (g1.trans g2) (by rw[Rp]))
def Yok(ho:OpR X (binaryOp op) r)(hr:Sem2 X.K r g)(ha:MC X a fa)(hb:MC X b fb):ME X (.BinOp a op b pos) (b2 fa fb g):=PE.imp (y4q ho ha hb) λ_ _ _ h=>y7j hr h
def Yol(ho:OpR X (compareOp op) r)(hr:Yhl X.K r g)(ha:MC X a fa)(hb:MC X b fb)(hm:behindInMarks op b=false):ME X (.Compare a [op] [b] pos) (mB (b2 fa fb g)):=PE.imp (y8p ho ha hb hm) λ_ _ _ h=>y45 hr h
def Ygb(ho:OpR X (compareOp op) r)(hr:Yhl X.K r g)(ha:MC X a fa)(hb:MC X b fb)(hm:behindInMarks op b=false):MT X (.Compare a [op] [b] pos) (b2 fa fb g):=PT.imp (y8q ho ha hb hm) λ_ _ _ h=>y87 hr h
def y88(hi:IxR X r)(hr:Sem2 X.K r g)(ha:MC X a fa)(hb:MC X b fb)(hs:Yez b):ME X (.Subscript a b pos) (b2 fa fb g):=PE.imp (Yaf5 hi ha hb hs) λ_ _ _ h=>y7j hr h
def i2(C:Int->Int->Bool)(g:Int->Int->Int):D->D->Option D
 | .int i,.int j=>if C i j=true then some (.int (g i j))else none
 | _,_=>none
def i2b(g:Int->Int->Bool):D->D->Option Bool
 | .int i,.int j=>some (g i j)
 | _,_=>none
def Ywj(hC:∀i j,Cb i j=true->C i j):Sem2 K (rI C λi j=>.int (g i j)) (i2 Cb g):=by
 intro x y dx dy d H G Q h s rx ry q;unfold i2 at h
 split at h
 ·split at h
  ·rename_i i j hc
   cases h;rw[Ct]at rx ry;subst rx;subst ry;exact⟨i,j,rfl,rfl,hC i j hc,q _ H G (.refl s) (by rw[Rp])⟩
  ·cases h
 ·cases h
def y0i:Sem2 K (rI0 λi j=>.int (g i j)) (i2 (λ_ _=>true) g):=by
 intro x y dx dy d H G Q h s rx ry q;unfold i2 at h
 split at h
 ·split at h
  ·rename_i i j hc
   cases h;rw[Ct]at rx ry;subst rx;subst ry;exact⟨i,j,rfl,rfl,q _ H G (.refl s) (by rw[Rp])⟩
  ·cases h
 ·cases h
def Yug:Yhl K (rI0 λi j=>.bl (g i j)) (i2b g):=by
 intro x y dx dy d H G Q h s rx ry q;unfold i2b at h
 split at h
 ·rename_i i j
  cases h;rw[Ct]at rx ry;subst rx;subst ry;exact⟨i,j,rfl,rfl,q⟩
 ·cases h
def addI:D->D->Option D:=i2 (λ_ _=>true) λi j=>i+j
def subI:D->D->Option D:=i2 (λ_ _=>true) λi j=>i-j
def mulI:D->D->Option D:=i2 (λi j=>(decide (-(2^64)<i)&&decide (i<2^64))||(decide (-(2^64)<j)&&decide (j<2^64))) λi j=>i*j
def divI:D->D->Option D:=i2 (λ_ j=>decide (0<j)&&decide (j<1073741824)) λi j=>i/j
def modI:D->D->Option D:=i2 (λ_ j=>decide (0<j)) λi j=>i%j
def ltI:=i2b λi j=>decide (i<j)
def leI:=i2b λi j=>decide (i<=j)
mutual
def dep:D->Nat
 | .tup l=>depL l+1
 | .lst l=>depL l+1
 | .scr _=>1
 | .dct _ _ _=>1000
 | .obj _ _ _=>1000
 | .adr _=>1000
 | _=>0
def depL:AR->Nat
 | []=>0
 | d::l=>max (dep d) (depL l)
end
mutual
theorem Ye7:∀d:D,(toPy d).depth<=dep d
 | .non=>by simp[toPy,PyData.depth,dep]
 | .bl b=>by simp[toPy,PyData.depth,dep]
 | .int b=>by simp[toPy,PyData.depth,dep]
 | .str b=>by simp[toPy,PyData.depth,dep]
 | .tup l=>by have:=Yec l;simp[toPy,PyData.depth,dep];lia
 | .lst l=>by have:=Yec l;simp[toPy,PyData.depth,dep];lia
 | .scr ns=>by rw[toPy,PyData.depth,dep,W.ke_depthAll];grind
 | .dct _ _ _=>by simp[toPy,PyData.depth,dep]
 | .obj _ _ _=>by simp[toPy,PyData.depth,dep]
 | .adr _=>by simp[toPy,PyData.depth,dep]
theorem Yec:∀l:AR,PyData.depthAll (Yeb l)<=depL l
 | []=>by simp[Yeb,PyData.depthAll,depL]
 | d::l=>by have h1:=Ye7 d;have h2:=Yec l;simp[Yeb,PyData.depthAll,depL];lia
end
section
variable {pins:AC}{σ:L2.St}{H:Hp}{s:Shared}
mutual
theorem Ydy(I:Inv X pins σ H s):∀{d:D}{v:V}{u:Value},dep d<=100->Rp X.K H d v->RelV v u->∃as,Reads s.heap u (toPy d) as/\(toPy d).canLay0=true
 | .non,v,u,_,r,q=>by
   rw[Rp]at r;subst r;cases q;exact⟨_,by rw[toPy];exact .none,by simp[toPy,PyData.canLay0]⟩
 | .bl b,v,u,_,r,q=>by
   rw[Rp]at r;subst r;cases q;exact⟨_,by rw[toPy];exact .bool b,by simp[toPy,PyData.canLay0]⟩
 | .int i,v,u,_,r,q=>by
   rw[Rp]at r;subst r;obtain⟨t,rfl⟩:=q;exact⟨_,by rw[toPy];exact .int i t,by simp[toPy,PyData.canLay0]⟩
 | .str x,v,u,_,r,q=>by
   rw[Rp]at r;obtain⟨rfl,hx⟩:=r;obtain⟨t,rfl⟩:=q;exact⟨_,by rw[toPy];exact .str x t,by simp[toPy,PyData.canLay0,hx]⟩
 | .tup l,v,u,hd,r,q=>by
   rw[Rp]at r;obtain⟨a,xs,rfl,g,rl⟩:=r;cases q
   obtain⟨_,its,rv,ht⟩:=(show ObjOk X.prog X.w H s.heap a (.tup xs) from I.hok a _ g)
   obtain⟨o,h1,h2,n,h3⟩:=ht;obtain⟨as,q,hc⟩:=Yl0 I (by simp only[dep]at hd;lia) rl rv;exact⟨_,by rw[toPy];exact .tuple h1 h2 h3 (by simpa using q),by simpa [toPy,PyData.canLay0]using hc⟩
 | .lst l,v,u,hd,r,q=>by
   rw[Rp]at r;obtain⟨a,xs,rfl,g,rl⟩:=r;cases q;obtain⟨its,rv,pl,_⟩:=I.list (.inl g);obtain⟨o,h1,h2,n,h3⟩:=pl.isList;obtain⟨as,q,hc⟩:=Yl0 I (by simp only[dep]at hd;lia) rl rv;exact⟨_,by rw[toPy];exact .list h1 h2 h3 (by simpa using q),by simpa [toPy,PyData.canLay0]using hc⟩
 | .dct _ _ _,v,u,hd,r,q=>by simp[dep]at hd
 | .obj _ _ _,v,u,hd,r,q=>by simp[dep]at hd
 | .adr _,v,u,hd,r,q=>by simp[dep]at hd
 | .scr ns,v,u,_,r,q=>by
   rw[Rp]at r;obtain⟨a,rfl,g⟩:=r;cases q;obtain⟨its,rv,pl,_⟩:=I.list g;exact⟨_,by rw[toPy];exact W.reads_of_ints pl.isList (Yg5 rv),by rw[toPy];simp[PyData.canLay0,W.ke_canLayAll0]⟩
theorem Yl0(I:Inv X pins σ H s):∀{l:AR}{xs:AQ}{us:AD},depL l<=100->RpL X.K H l xs->Vals xs us->∃as,ReadsAll s.heap us (Yeb l) as/\PyData.canLayAll0 (Yeb l)=true
 | [],xs,us,_,r,q=>by
   rw[RpL]at r;subst r;cases q;exact⟨_,by rw[Yeb];exact .nil,by simp[Yeb,PyData.canLayAll0]⟩
 | d::l,xs,us,hd,r,q=>by
   rw[RpL]at r;obtain⟨x,xs,rfl,r1,r2⟩:=r;rw[depL]at hd
   cases q with
   | cons q1 q2=>
     obtain⟨as,h1,h2⟩:=Ydy I (by lia) r1 q1;obtain⟨bs,h3,h4⟩:=Yl0 I (by lia) r2 q2;exact⟨_,by rw[Yeb];exact .cons h1 h3,by simp[Yeb,PyData.canLayAll0,h2,h4]⟩
end
end
theorem Ye8(l:AR)(d:D):((Yeb l).any λy=>PyData.eqv y (toPy d))=l.any λy=>eqD y d:=by
 induction l with
 | nil=>simp[Yeb]
 | cons e l ih=>
   rw[Yeb,List.any_cons,List.any_cons,ih];rfl
def eqM(neg:Bool):D->D->Option Bool:=λd e=>if dep d<=60/\dep e<=60 then some (if neg then !eqD d e else eqD d e)else none
def rEqD(K:W7)(neg:Bool):R2:=λx y H Q=>∃d e,Rp K H d x/\Rp K H e y/\(dep d<=60/\dep e<=60)/\Q (.bl (if neg then !eqD d e else eqD d e)) H
theorem y7k(hu:X.A.units+64<cLine):OpR X (compareOp .Eq) (rEqD X.K false):=by
 intro pins s σ H x y v u Q I rx ry h;obtain⟨d,e,r1,r2,hd,q⟩:=h;obtain⟨as,h1,h2⟩:=Ydy I (by lia) r1 rx;obtain⟨bs,h3,h4⟩:=Ydy I (by lia) r2 ry;exact SeqAt.eqOverData X.prog X.w X.A X.xe s v u _ _ as bs _ h1 h3 h2 h4 (by have:=Ye7 d;grind) ⟨.bl _,H,I,rfl,by exact q⟩
theorem y7l(hu:X.A.units+64<cLine):OpR X (compareOp .NotEq) (rEqD X.K true):=by
 intro pins s σ H x y v u Q I rx ry h;obtain⟨d,e,r1,r2,hd,q⟩:=h;obtain⟨as,h1,h2⟩:=Ydy I (by lia) r1 rx;obtain⟨bs,h3,h4⟩:=Ydy I (by lia) r2 ry;exact SeqAt.neOverData X.prog X.w X.A X.xe s v u _ _ as bs _ h1 h3 h2 h4 (by have:=Ye7 d;grind) ⟨.bl _,H,I,rfl,by exact q⟩
theorem Ypn:Yhl K (rEqD K neg) (eqM neg):=by
 intro x y dx dy b H G Q h s rx ry q;unfold eqM at h
 split at h
 ·cases h
  exact⟨dx,dy,rx.rp s,ry.rp s,by assumption,q⟩
 ·cases h
def Yn:D->Option AR
 | .tup l=>some l
 | .lst l=>some l
 | .scr ns=>some (ns.map D.int)
 | _=>none
def inD(d:D)(l:AR):Bool:=l.any λy=>eqD y d
def inM(neg:Bool):D->D->Option Bool:=λd c=>(Yn c).bind λl=>if depL l<=60/\dep d<=60 then some (if neg then !inD d l else inD d l)else none
def rInD(K:W7)(neg:Bool):R2:=λx y H Q=>∃d c l,Rp K H d x/\Rp K H c y/\Yn c=some l/\(depL l<=60/\dep d<=60)/\Q (.bl (if neg then !inD d l else inD d l)) H
theorem Yaw{c:D}(h:Yn c=some l):c=.tup l\/c=.lst l\/∃ns,c=.scr ns/\l=ns.map D.int:=by
 cases c with
 | tup m=>cases h;grind
 | lst m=>cases h;grind
 | scr ns=>cases h;grind
 | non=>cases h
 | bl _=>cases h
 | int _=>cases h
 | str _=>cases h
 | dct _ _ _=>cases h
 | obj _ _ _=>cases h
 | adr _=>cases h
theorem Yjv:∀ns:AH,Yeb (ns.map D.int)=ns.map PyData.int
 | []=>by simp[Yeb]
 | n::ns=>by simp[Yeb,toPy,Yjv ns]
theorem y7m(hu:X.A.units+64<cLine):OpR X (compareOp .In) (rInD X.K false):=by
 intro pins s σ H x y v u Q I rx ry h;obtain⟨d,c,l,r1,r2,hc,hd,q⟩:=h;obtain⟨as,h1,h2⟩:=Ydy I (by lia) r1 rx
 have hdc:dep c<=61:=by
  rcases Yaw hc with rfl|rfl|⟨ns,rfl,rfl⟩
  ·rw[dep];lia
  ·rw[dep];lia
  ·rw[dep];lia
 obtain⟨bs,h3,h4⟩:=Ydy I (by lia) r2 ry;have hdd:=Ye7 d;have hdl:=Yec l;rcases Yaw hc with rfl|rfl|⟨ns,rfl,rfl⟩
 ·rw[toPy]at h3 h4
  exact SeqAt.in_tuple_reads h3 h1 (by simpa [PyData.canLay0]using h4) h2 (by lia) ⟨.bl _,H,I,rfl,by rw[Ye8];exact q⟩
 ·rw[toPy]at h3 h4
  exact SeqAt.in_list_reads h3 h1 (by simpa [PyData.canLay0]using h4) h2 (by lia) ⟨.bl _,H,I,rfl,by rw[Ye8];exact q⟩
 ·rw[toPy,<-Yjv]at h3 h4
  exact SeqAt.in_list_reads h3 h1 (by simpa [PyData.canLay0]using h4) h2 (by lia) ⟨.bl _,H,I,rfl,by rw[Ye8];exact q⟩
theorem y0j(hu:X.A.units+64<cLine):OpR X (compareOp .NotIn) (rInD X.K true):=by
 intro pins s σ H x y v u Q I rx ry h;obtain⟨d,c,l,r1,r2,hc,hd,q⟩:=h;obtain⟨as,h1,h2⟩:=Ydy I (by lia) r1 rx
 have hdc:dep c<=61:=by
  rcases Yaw hc with rfl|rfl|⟨ns,rfl,rfl⟩
  ·rw[dep];lia
  ·rw[dep];lia
  ·rw[dep];lia
 obtain⟨bs,h3,h4⟩:=Ydy I (by lia) r2 ry;have hdd:=Ye7 d;have hdl:=Yec l;rcases Yaw hc with rfl|rfl|⟨ns,rfl,rfl⟩
 ·rw[toPy]at h3 h4
  exact SeqAt.notIn_tuple_reads h3 h1 (by simpa [PyData.canLay0]using h4) h2 (by lia) ⟨.bl _,H,I,rfl,by rw[Ye8];exact q⟩
 ·rw[toPy]at h3 h4
  exact SeqAt.notIn_list_reads h3 h1 (by simpa [PyData.canLay0]using h4) h2 (by lia) ⟨.bl _,H,I,rfl,by rw[Ye8];exact q⟩
 ·rw[toPy,<-Yjv]at h3 h4
  exact SeqAt.notIn_list_reads h3 h1 (by simpa [PyData.canLay0]using h4) h2 (by lia) ⟨.bl _,H,I,rfl,by rw[Ye8];exact q⟩
theorem Yuh:Yhl K (rInD K neg) (inM neg):=by
 intro x y dx dy b H G Q h s rx ry q;unfold inM at h;obtain⟨l,h1,h⟩:=qa h
 split at h
 ·cases h
  exact⟨dx,dy,l,rx.rp s,ry.rp s,h1,by assumption,q⟩
 ·cases h
end
end
section
variable {K:W7}
section
variable {X:Cx}{a b c e:Expr}{es:AM}{fa fb f:AX}{fc fd:AW}{ga:AY}{pos:Pos}{rest:AM}
def truD:D->Option Bool
 | .non=>some false
 | .bl b=>some b
 | .int i=>some (i != 0)
 | .tup l=>some (!l.isEmpty)
 | .lst l=>some (!l.isEmpty)
 | .scr ns=>some (!ns.isEmpty)
 | .str _=>none
 | .dct _ _ _=>none
 | .obj _ _ _=>none
 | .adr _=>none
theorem y89(h:truD d=some k)(r:Ct X.K G H d v):TruV X.K v H k:=by
 cases d with
 | non=>rw[Ct]at r;subst r;cases h;rfl
 | bl b=>rw[Ct]at r;subst r;cases h;rfl
 | int i=>rw[Ct]at r;subst r;cases h;rfl
 | str x=>cases h
 | dct _ _ _=>cases h
 | obj _ _ _=>cases h
 | adr _=>cases h
 | tup l=>
   rw[Ct]at r;obtain⟨a,xs,rfl,g,rl⟩:=r;cases h;refine .inr (.inl ⟨xs,.inl (.inl g.1),?_⟩);have:=rl.length;grind
 | lst l=>
   rw[Ct]at r;obtain⟨a,xs,rfl,g,rl⟩:=r;cases h;refine .inl ⟨xs,.inl g,?_⟩;have:=rl.length;grind
 | scr ns=>
   rw[Ct]at r;obtain⟨a,rfl,g⟩:=r;cases h;refine .inl ⟨_,g,?_⟩;cases ns<;>simp
def andT(fc fd:AW):AW:=λρ=>(fc ρ).bind λk=>if k=true then fd ρ else some false
def orT(fc fd:AW):AW:=λρ=>(fc ρ).bind λk=>if k=true then some true else fd ρ
def notT(fc:AW):AW:=λρ=>(fc ρ).map (!·)
abbrev MW(X:Cx)(e:Expr)(f:AW):Prop:=PW X e (tTof X.K f)
def PW.imp(h:PW X e t)(i:∀σ H Q,t' σ H Q->t σ H Q):PW X e t':=λwhole pins s σ H Q I hw=>h whole pins s σ H Q I (i σ H Q hw)
theorem y9b(h:tTof K (andT fc fd) σ H Q):tAnd (tTof K fc) (tTof K fd) σ H Q:=by
 obtain⟨ρ,k,H0,G0,G,e,s,h⟩:=h;unfold andT at e;obtain⟨k1,h1,e⟩:=qa e;refine tTof.at h1 s λH1 G1 g1 s1=>?_
 cases k1 with
 | true=>
   rw[if_pos rfl]at e ⊢;exact tTof.at e s1 λH2 G2 g2 _=>h H2 G2 (g1.trans g2)
 | false=>
   grind
theorem Yac5(h:tTof K (orT fc fd) σ H Q):tOr (tTof K fc) (tTof K fd) σ H Q:=by
 obtain⟨ρ,k,H0,G0,G,e,s,h⟩:=h;unfold orT at e;obtain⟨k1,h1,e⟩:=qa e;refine tTof.at h1 s λH1 G1 g1 s1=>?_
 cases k1 with
 | false=>
   rw[if_neg qi]at e ⊢;exact tTof.at e s1 λH2 G2 g2 _=>h H2 G2 (g1.trans g2)
 | true=>
   grind
def blD:D->Option Bool
 | .bl b=>some b
 | _=>none
def Ywk(h:blD d=some k):d=.bl k:=by cases d<;>simp[blD]at h;subst h;rfl
def andV(fa fb:AX):AX:=λρ=>(b1 fa blD ρ).bind λk=>if k=true then fb ρ else some (.bl false)
def notV(fa:AX):AX:=λρ=>(b1 fa blD ρ).map λk=>.bl (!k)
def ifV(fc:AW)(fa fb:AX):AX:=λρ=>(fc ρ).bind λk=>if k=true then fa ρ else fb ρ
def Yui:D->Bool
 | .non=>true
 | _=>false
def Ywl(r:Ct K G H d v):decide (v=V.non)=Yui d:=by
 cases d with
 | non=>rw[Ct]at r;subst r;rfl
 | bl _=>rw[Ct]at r;subst r;rfl
 | int _=>rw[Ct]at r;subst r;rfl
 | str _=>rw[Ct]at r;obtain⟨rfl,_⟩:=r;rfl
 | tup _=>rw[Ct]at r;obtain⟨_,_,rfl,_⟩:=r;rfl
 | lst _=>rw[Ct]at r;obtain⟨_,_,rfl,_⟩:=r;rfl
 | scr _=>rw[Ct]at r;obtain⟨_,rfl,_⟩:=r;rfl
 | dct _ _ _=>rw[Ct]at r;obtain⟨_,_,_,rfl,_⟩:=r;rfl
 | obj _ _ _=>rw[Ct]at r;obtain⟨_,_,_,_,rfl,_⟩:=r;rfl
 | adr _=>rw[Ct]at r;subst r;rfl
def isN(neg:Bool):D->D->Option Bool:=λd e=>if Yui e then some (if neg then !Yui d else Yui d)else none
def y9d:Yhl K (λx y H Q=>y=.non/\Q (.bl (decide (x=.non))) H) (isN false):=by
 intro x y dx dy b H G Q h s rx ry q;unfold isN at h
 split at h
 ·rename_i hn
  cases h;cases dy<;>simp[Yui]at hn;rw[Ct]at ry;exact⟨ry,by rw[Ywl rx];exact q⟩
 ·cases h
def Ywm:Yhl K (λx y H Q=>y=.non/\Q (.bl (!decide (x=.non))) H) (isN true):=by
 intro x y dx dy b H G Q h s rx ry q;unfold isN at h
 split at h
 ·rename_i hn
  cases h;cases dy<;>simp[Yui]at hn;rw[Ct]at ry;exact⟨ry,by rw[Ywl rx];exact q⟩
 ·cases h
def ixD:D->D->Option D
 | c,.int i=>(Yn c).bind λl=>atI l i
 | _,_=>none
def y0k(r:RpL K G l xs)(h:atI l i=some d):∃x,atI xs i=some x/\Rp K G d x:=by
 unfold atI at h ⊢;rw[r.length];obtain⟨j,h1,h2⟩:=qa h;obtain⟨x,h3,h4⟩:=r.get h2;exact⟨x,by rw[h1];exact h3,h4⟩
def Yadb:Sem2 X.K (rIx X.K) ixD:=by
 intro x y dx dy d H G Q h s rx ry q;unfold ixD at h
 split at h
 ·rename_i c i
  obtain⟨l,h1,h2⟩:=qa h;rw[Ct]at ry;subst ry;rcases Yaw h1 with rfl|rfl|⟨ns,rfl,rfl⟩
  ·rw[Ct]at rx
   obtain⟨p,xs,rfl,g,rl⟩:=rx;obtain⟨v,h3,h4⟩:=y0k rl h2;exact .inr (.inl ⟨p,xs,i,v,rfl,rfl,.inl (.inl g.1),h3,q v H G (.refl s) h4⟩)
  ·rw[Ct]at rx
   obtain⟨p,xs,rfl,g,rl⟩:=rx;obtain⟨v,h3,h4⟩:=y0k rl h2;exact .inl ⟨p,xs,i,v,rfl,rfl,.inl g,h3,q v H G (.refl s) h4⟩
  ·rw[Ct]at rx
   obtain⟨p,rfl,g⟩:=rx;obtain⟨v,h3,h4⟩:=y0k (G:=G) (K:=X.K) (.ints ns) h2;exact .inl ⟨p,_,i,v,rfl,rfl,g,h3,q v H G (.refl s) h4⟩
 ·cases h
def y0l(ha:MC X a fa)(hb:MC X b fb)(hs:Yez b:=by intro _ _;rfl):ME X (.Subscript a b pos) (b2 fa fb ixD):=y88 Yacp Yadb ha hb hs
def intD:D->Option Int
 | .int i=>some i
 | _=>none
def optI(f:Option AX):Ro->Option (Option Int):=λρ=>match f with
 | none=>some none
 | some f=>(b1 f intD ρ).map some
def cutD(l:AR)(lo hi:Option Int):AR:=(l.drop (HT.sIx l.length 0 lo)).take (HT.sIx l.length l.length hi-HT.sIx l.length 0 lo)
def lstD:D->Option AR
 | .lst l=>some l
 | .scr ns=>some (ns.map D.int)
 | _=>none
def Yrz(h:lstD d=some l)(r:Ct K G H d v):∃p xs,v=.ref p/\SqL K H p xs/\RpL K G l xs:=by
 cases d with
 | lst m=>
   cases h;rw[Ct]at r;obtain⟨p,xs,e,g,q⟩:=r;exact⟨p,xs,e,.inl g,q⟩
 | scr ns=>
   cases h;rw[Ct]at r;obtain⟨p,e,g⟩:=r;exact⟨p,_,e,g,.ints ns⟩
 | non=>cases h
 | bl _=>cases h
 | int _=>cases h
 | str _=>cases h
 | tup _=>cases h
 | dct _ _ _=>cases h
 | obj _ _ _=>cases h
 | adr _=>cases h
def slF(fa:AX)(lo hi:Option AX):AY:=λρ=>(b1 fa lstD ρ).bind λl=>(optI lo ρ).bind λi=>(optI hi ρ).bind λj=>some (cutD l i j)
abbrev tO(K:W7)(f:Option AX):TO:=match f with
 | none=>Yz9
 | some f=>Yacm (tCof K f)
def y46{f:Option AX}(e:optI f ρ=some i)(s:SR K H0 G0 σ H G ρ)(h:∀H' G',Gr H G H' G'->SR K H0 G0 σ H' G' ρ->Q i H'):tO K f σ H Q:=by
 cases f with
 | none=>
   cases e;exact h H G (.refl s.seen) s
 | some f=>
   obtain⟨k,h1,rfl⟩:=qc e;obtain⟨d,h2,h3⟩:=Ycp h1
   refine tCof.at h2 s λv H1 G1 g1 r1 s1=>⟨k,?_,h H1 G1 g1 s1⟩
   cases d<;>simp[intD]at h3;subst h3;rw[Ct]at r1;exact r1
def Yagg:PO X none (tO X.K none):=y8w
def lF(f:AY):AX:=λρ=>(f ρ).map D.lst
def MF.me(h:MF X e g):ME X e (lF g):=PE.imp h λσ H Q hx_=>by
 obtain⟨ρ,d,H0,G0,G,e,s,h⟩:=hx_;obtain⟨l,h1,rfl⟩:=qc e
 exact⟨ρ,l,H0,G0,G,h1,s,λp xs H' G' g hp gp e' r=>h _ H' _ (g.show hp gp e') (by
  rw[Rp];refine⟨p,xs,rfl,.inl Yu,r.mono λb o q=>?_⟩
  rw[Yaa (Yz q gp)];exact q)⟩
def aNil:AY:=λ_=>some []
def Yg(f:AX)(g:AY):AY:=λρ=>(f ρ).bind λd=>(g ρ).map (d::·)
def y0m:MA X [] aNil:=PA.imp Yki λσ H Q hx_=>by
 obtain⟨ρ,l,H0,G0,G,e,s,h⟩:=hx_;cases e;exact h [] H G (.refl s.seen) .nil
def Yuj(ha:ME X e f)(hr:MA X es ga)(hs:starEach (e::es) X.env=(false,eval e X.env)::starEach es X.env:=by rfl):MA X (e::es) (Yg f ga):=PA.imp (Yfj ha hr hs) λσ H Q hx_=>by
 obtain⟨ρ,l,H0,G0,G,e,s,h⟩:=hx_;unfold Yg at e;obtain⟨d,h1,e⟩:=qa e;obtain⟨l',h2,rfl⟩:=qc e;exact tOf.at h1 s λv H1 G1 g1 r1 s1=>tAof.at h2 s1 λvs H2 G2 g2 r2 _=>h (v::vs) H2 G2 (g1.trans g2) (.cons (r1.mono g2.g) r2)
def Yh5:MCA X [] aNil:=PA.imp Yki λσ H Q hx_=>by
 obtain⟨ρ,l,H0,G0,G,e,s,h⟩:=hx_;cases e;exact h [] H G (.refl s.seen) rfl
def Yfm(ha:MC X e f)(hr:MCA X es ga)(hs:starEach (e::es) X.env=(false,eval e X.env)::starEach es X.env:=by rfl):MCA X (e::es) (Yg f ga):=PA.imp (Yfj ha hr hs) λσ H Q hx_=>by
 obtain⟨ρ,l,H0,G0,G,e,s,h⟩:=hx_;unfold Yg at e;obtain⟨d,h1,e⟩:=qa e;obtain⟨l',h2,rfl⟩:=qc e;exact tCof.at h1 s λv H1 G1 g1 r1 s1=>tCAof.at h2 s1 λvs H2 G2 g2 r2 _=>h (v::vs) H2 G2 (g1.trans g2) ⟨v,vs,rfl,r1.grow g2,r2⟩
def cap6:Nat:=1000000
def Ye0(h:n<=cap6):n<=sizeLine:=Qh h (by rw[ji];decide)
def dTup(ga:AY):AX:=λρ=>(ga ρ).bind λl=>if l.length<=cap6 then some (.tup l)else none
def dLst(ga:AY):AY:=λρ=>(ga ρ).bind λl=>if l.length<=cap6 then some l else none
theorem y7n(h:MA X es ga):MF X (.List es pos) (dLst ga):=PE.imp (Yacd h) λσ H Q hx_=>by
 obtain⟨ρ,d,H0,G0,G,e,s,h⟩:=hx_;unfold dLst at e;obtain⟨l,h1,e⟩:=qa e
 split at e
 ·cases e
  refine tAof.at h1 s λvs H1 G1 g1 r1 s1=>⟨by rw[r1.length];exact Ye0 (by assumption),λp hp=>?_⟩
  exact h p vs _ G1 (g1.trans (.hid s1.seen hp (.lst vs))) (g1.h.free hp) (s1.seen.free hp) Yu r1
 ·cases e
def cC(ga:AY)(g:AR->Option D):AX:=λρ=>(ga ρ).bind g
def cF(ga:AY)(g:AR->Option AR):AY:=λρ=>(ga ρ).bind g
def y7o(hr:SemC K r g)(h:tOf K (cC ga g) σ H Q):tCB r (tCAof K ga) σ H Q:=by
 obtain⟨ρ,d,H0,G0,G,e,s,h⟩:=h;unfold cC at e;obtain⟨l,h1,h2⟩:=qa e;exact tCAof.at h1 s λvs H1 G1 g1 r1 s1=>hr vs l d H1 G1 Q h2 s1.seen r1 λv H' G' g2 r2=>h v H' G' (g1.trans g2) r2
def y0n(hr:SemF K r g)(h:tFof K (cF ga g) σ H Q):tCB r (tCAof K ga) σ H Q:=by
 obtain⟨ρ,d,H0,G0,G,e,s,h⟩:=h;unfold cF at e;obtain⟨l,h1,h2⟩:=qa e;exact tCAof.at h1 s λvs H1 G1 g1 r1 s1=>hr vs l d H1 G1 Q h2 s1.seen r1 λp xs H' G' g2 hp gp e' r2=>h p xs H' G' (g1.trans g2) (g1.h.free hp) gp e' r2
section
variable {x:Str}{p:Pos}{id T:String}{r:AQ->Hp->VK->Prop}{g:AR->Option D}{gf:AR->Option AR}
end
def spOf(K:W7)(n:Nat)(fn:AR->Option D):Sp:=λvs H Q _=>vs.length=n/\∃ds d G,Same G H/\RpL K G ds vs/\fn ds=some d/\∀v H' G',Gr H G H' G'->Rp K G' d v->Q v H'
theorem y9g{p:Pos}(F:FnOk X.prog X.w X.K X.mg X.base CX0 k fa' fd' ps (spOf X.K n fn))(hr:Room k X.A)(hg:Gl X x)(hm:X.mg x=some (.ref fa'))(hk:W.keepIn X.K (.ref fa')=true)(hb:Binds X.K fd' ps [])(ha:MA X (e::es) ga)(hdb:Ndb x:=by decide)(he:starEach (e::es) X.env=(false,eval e X.env)::starEach es X.env:=by rfl)(hpl:(backTo pos (starEach es X.env)).any (·.1)=false:=by rfl)(hl:∀ρ l,ga ρ=some l->l.length=n):ME X (.Call (.Name x p) (e::es) [] pos) (cC ga fn):=
 PE.imp (Yz2 (E:=E0) F hr hg hm hk hb .nil Yacr ha hdb he hpl) λσ H Q hx_=>by
  obtain⟨ρ,d,H0,G0,G,e,s,h⟩:=hx_;unfold cC at e;obtain⟨l,h1,h2⟩:=qa e;refine tAof.at h1 s λvs H1 G1 g1 r1 s1=>?_;rw[ja];exact⟨by rw[r1.length];grind,l,d,G1,s1.seen,r1,h2,λv H' G' g2 r2=>h v H' G' (g1.trans g2) r2⟩
def y5a(h:aNil ρ=some l):l.length=0:=by cases h;rfl
theorem Yiq(hg:∀ρ l,g ρ=some l->l.length=n):∀ρ l,Yg f g ρ=some l->l.length=n+1:=λρ l h=>by
 unfold Yg at h;obtain⟨d,h1,e⟩:=qa h;obtain⟨l',h2,rfl⟩:=qc e;grind
def lenC:AR->Option D
 | [c]=>(Yn c).map λl=>.int l.length
 | _=>none
def Ywn{c:D}(h:Yn c=some l)(r:Ct K G H c v):∃p xs,v=.ref p/\(SqL K H p xs\/SqT K H p xs)/\RpL K G l xs:=by
 rcases Yaw h with rfl|rfl|⟨ns,rfl,rfl⟩
 ·rw[Ct]at r
  obtain⟨p,xs,rfl,g,rl⟩:=r;exact⟨p,xs,rfl,.inr (.inl (.inl g.1)),rl⟩
 ·rw[Ct]at r
  obtain⟨p,xs,rfl,g,rl⟩:=r;exact⟨p,xs,rfl,.inl (.inl g),rl⟩
 ·rw[Ct]at r
  obtain⟨p,rfl,g⟩:=r;exact⟨p,_,rfl,.inl g,.ints ns⟩
theorem Yjw(h:RpL K G [d] vs):∃v,vs=[v]/\Rp K G d v:=by
 rw[RpL]at h;obtain⟨x,r,rfl,h1,h2⟩:=h;rw[RpL]at h2;grind
theorem Yc5(h:CtL K G H [d] vs):∃v,vs=[v]/\Ct K G H d v:=by
 obtain⟨x,r,rfl,h1,h2⟩:=h;cases (show r=[] from h2);grind
def Yfn:SemC X.K (λxs H Q=>∃p ys,xs=[.ref p]/\(SqL X.K H p ys\/SqT X.K H p ys)/\Q (.int ys.length) H) lenC:=by
 intro vs ds d H G Q h s r q
 match ds,h,r with
 | [c],h,r=>
   obtain⟨l,h1,rfl⟩:=qc h;obtain⟨v,rfl,rv⟩:=Yc5 r;obtain⟨p,xs,rfl,h2,rl⟩:=Ywn (K:=X.K) h1 rv;exact⟨p,xs,rfl,h2,q _ H G (.refl s) (by rw[Rp,rl.length])⟩
def Yx6:AR->Option AR
 | [c]=>Yn c
 | _=>none
def Ypo:SemF X.K (λxs H Q=>∃p ys,xs=[.ref p]/\(SqL X.K H p ys\/SqT X.K H p ys)/\∀l,H l=none->Q (.ref l) (upd H l (.lst ys))) Yx6:=by
 intro vs ds l H G Q h s r q
 match ds,h,r with
 | [c],h,r=>
   obtain⟨v,rfl,rv⟩:=Yc5 r;obtain⟨p,xs,rfl,h2,rl⟩:=Ywn (K:=X.K) h rv;exact⟨p,xs,rfl,h2,λm hm=>q m xs _ G (.hid s hm _) hm (s.free hm) Yu rl⟩
def tupC:AR->Option D
 | [c]=>(Yn c).map D.tup
 | _=>none
theorem Ybr:SemC X.K (λxs H Q=>∃p ys,xs=[.ref p]/\((SqL X.K H p ys/\∀l,H l=none->Q (.ref l) (upd H l (.tup ys)))\/(SqT X.K H p ys/\Q (.ref p) H))) tupC:=by
 intro vs ds d H G Q h s r q
 match ds,h,r with
 | [c],h,r=>
   obtain⟨l,h1,rfl⟩:=qc h;obtain⟨v,rfl,rv⟩:=Yc5 r;rcases Yaw h1 with rfl|rfl|⟨ns,rfl,rfl⟩
   ·rw[Ct]at rv
    obtain⟨p,xs,rfl,g,rl⟩:=rv;exact⟨p,xs,rfl,.inr ⟨.inl (.inl g.1),q _ H G (.refl s) (by rw[Rp];grind)⟩⟩
   ·rw[Ct]at rv
    obtain⟨p,xs,rfl,g,rl⟩:=rv;refine⟨p,xs,rfl,.inl ⟨.inl g,λm hm=>q _ _ _ (.new s hm (.tup xs)) ?_⟩⟩;rw[Rp];exact⟨m,xs,rfl,Yu,rl.mono (Gr.new s hm (.tup xs)).g⟩
   ·rw[Ct]at rv
    obtain⟨p,rfl,g⟩:=rv;refine⟨p,_,rfl,.inl ⟨g,λm hm=>q _ _ _ (.new s hm (.tup _)) ?_⟩⟩;rw[Rp];exact⟨m,_,rfl,Yu,.ints ns⟩
end
end
section
variable {K:W7}
section
variable {X:Cx}{e:Expr}{f:AX}{gl:AY}{pos pos':Pos}{st:Stmt}{sts:List Stmt}{fs gs:AU}
def sNil:AU:=λρ=>some (.nx ρ)
noncomputable def sSeq(f g:AU):AU:=λρ=>(f ρ).bind fun
 | .nx ρ'=>g ρ'
 | o=>some o
def Yadd:MB X [] sNil:=PSs.imp y8l λF σ H hx_=>by
 obtain⟨ρ,out,H0,G0,G,e,s,h⟩:=hx_;cases e;exact h σ H G s
def frz1(i:Nat)(ρ:Ro):Ro:=match ρ[i]? with
 | some (some (B.ow l))=>ρ.set i (↑(.lst l))
 | some (some (B.od t ks vs))=>ρ.set i (↑(.dct t ks vs))
 | _=>ρ
theorem SR.frz1(s:SR K H0 G0 σ H G ρ)(i:Nat):∃G',SR K H0 G0 σ H G' (M.frz1 i ρ):=by
 unfold M.frz1
 split
 ·rename_i l hl
  exact s.freeze hl
 ·rename_i t ks vs hl
  exact s.freezed hl
 grind
def frz(is:AG)(ρ:Ro):Ro:=is.foldl (λr i=>frz1 i r) ρ
theorem SR.frz:∀(is:AG) {G:Hp}{ρ:Ro},SR K H0 G0 σ H G ρ->∃G',SR K H0 G0 σ H G' (M.frz is ρ)
 | [],G,_,s=>⟨G,s⟩
 | i::is,_,ρ,s=>by
   obtain⟨G',s'⟩:=s.frz1 i;exact SR.frz is s'
theorem SR.frz1T(s:SR K H0 G0 σ H G ρ)(i:Nat):∃G',SR K H0 G0 σ H G' (M.frz1 i ρ)/\∀b ys,G' b=some (.tup ys)->G b=some (.tup ys):=by
 unfold M.frz1
 split
 ·rename_i l hl
  exact s.freezeT hl
 ·rename_i t ks vs hl
  exact s.freezedT hl
 grind
theorem SR.frzT:∀(is:AG) {G:Hp}{ρ:Ro},SR K H0 G0 σ H G ρ->∃G',SR K H0 G0 σ H G' (M.frz is ρ)/\∀b ys,G' b=some (.tup ys)->G b=some (.tup ys)
 | [],G,_,s=>⟨G,s,λ_ _ h=>h⟩
 | i::is,_,ρ,s=>by
   obtain⟨G',s',h1⟩:=s.frz1T i;obtain⟨G2,s2,h2⟩:=SR.frzT is s';exact⟨G2,s2,λb ys e=>h1 b ys (h2 b ys e)⟩
def wF(is:AG)(f:AU):AU:=λρ=>f (frz is ρ)
def sSet(i:Nat)(f:AX):AU:=λρ=>(f ρ).map λd=>.nx (ρ.set i (↑d))
def sOwn(i:Nat)(f:AY):AU:=λρ=>(f ρ).map λl=>.nx (ρ.set i (some (.ow l)))
def Yadg(h:sOf K (sSet i f) F σ H):tAsg (tOf K f) (Yxx i) F σ H:=by
 obtain⟨ρ,out,H0,G0,G,e,s,h⟩:=h;obtain⟨d,h1,rfl⟩:=qc e;exact tOf.at h1 s λv H1 G1 g1 r1 s1=>h _ H1 G1 (s1.set_sh i r1)
def Yadh(h:sOf K (sOwn i gl) F σ H):tAsg (tFof K gl) (Yxx i) F σ H:=by
 obtain⟨ρ,out,H0,G0,G,e,s,h⟩:=h;obtain⟨l,h1,rfl⟩:=qc e;exact⟨ρ,l,H0,G0,G,h1,s,λp xs H' G' g hp gp e' r=>h _ H' G' (s.set_ow i g hp gp e' r)⟩
def y7p(i:Nat)(hN:X.N.Nodup)(he:ME X e f)(hi:X.N[i]?=some x:=by rfl)(hx:Loc X.env.scope x:=by trivial)(hs:swapsWith e (some (.Name x pos')) pos.line X.env=pure false:=by rfl)(hf:X.fn x=true\/X.env.scope.names.lookup x=some .local:=by trivial):MS X (.Assign [.Name x pos'] e pos) (sSet i f):=PS.imp (Yoe hN hi hx he hs hf) λ_ _ _ h=>Yadg h
noncomputable def sRet(f:AX):AU:=λρ=>(f ρ).map .rt
def sIf(c:AW)(f g:AU):AU:=λρ=>(c ρ).bind λk=>if k=true then f ρ else g ρ
def sInc(i:Nat)(f:AX):AU:=λρ=>(getV i ρ).bind λx=>(f ρ).bind λy=>(i2 (λ_ _=>true) (λa b=>a+b) x y).map λz=>.nx (ρ.set i (↑z))
def sMut(i:Nat)(f:AX)(g:AR->D->Option AR):AU:=λρ=>(getO i ρ).bind λl=>(f ρ).bind λd=>(g l d).map λl'=>.nx (ρ.set i (some (.ow l')))
theorem y7q(s:SR K H0 G0 σ H G ρ)(h:getO i ρ=some l):∃a xs,σ[i]?=some (some (V.ref a))/\H a=some (.lst xs)/\RpL K G l xs/\G a=none:=by
 obtain⟨a,xs,h1,h2,h3,h4,h5⟩:=s.ow i l (Ylz h);grind
def appD(l:AR)(d:D):Option AR:=if l.length<cap6 then some (l++[d])else none
def y0r(hz:ds.length<=sizeLine)(h:∀(i:Nat) H2 G2,Same G' G2->Same G2 H2->(∀d,ds[i]?=some d->J.go i H2/\∀y H3,J.yld i H2 y H3->H3=H2/\Rp K G2 d y)/\(ds.length<=i->J.stop i H2)):Wk K J G' ds:=
 ⟨hz,λi H2 G2 s1 s2=>⟨λd hd=>⟨((h i H2 G2 s1 s2).1 d hd).1,λy H3 q=>by
  obtain⟨rfl,r⟩:=((h i H2 G2 s1 s2).1 d hd).2 y H3 q
  exact⟨G2,.refl s2,r⟩⟩,(h i H2 G2 s1 s2).2⟩⟩
variable {tg:Expr}
def iSeq(K:W7)(tl:TE):TI:=λσ H R=>tl σ H λx H1=>∃a xs,x=.ref a/\((SqL K H1 a xs/\(xs.length<=sizeLine->R (Itl K a) H1))\/(SqT K H1 a xs/\(xs.length<=sizeLine->R (Itt K a) H1)))
theorem Yadl(hl:PE X l tl):PI X tg l (iSeq X.K tl):=by
 intro pins s σ H R I h;refine thn (hl pins s σ H _ I h) λv s1 hx_=>?_;obtain⟨x,H1,I1,r1,q1⟩:=hx_;obtain⟨a,xs,e,q1⟩:=q1;subst e;cases r1;rcases q1 with⟨hq,q⟩|⟨hq,q⟩
 ·obtain⟨its,rv,p,hz⟩:=I1.list hq
  refine wpAny_pyIter_list p.isList ?_;refine⟨~~~s1,[~~~s1],_,_,H1,rfl,I1.kept (t':=s1.toks) λb o e=>qe _ e,Yzt a _,⟨_,qp _ rfl,rfl,rfl⟩,λb hb=>?_,q hz⟩
  have e:b= ~~~s1:=by grind
  subst e;exact I1.fpOk (qu _) (I1.hok.fresh (qu _))
 ·obtain⟨its,rv,p,hz⟩:=I1.tuple hq
  refine wpAny_pyIter_tuple (show s1.heap.IsTuple a its.toArray from p) ?_;refine⟨~~~s1,[~~~s1],_,_,H1,rfl,I1.kept (t':=s1.toks) λb o e=>qe _ e,Yxy a _,⟨_,qp _ rfl,rfl,rfl⟩,λb hb=>?_,q hz⟩
  have e:b= ~~~s1:=by grind
  subst e;exact I1.fpOk (qu _) (I1.hok.fresh (qu _))
def rngD(a n:Int):AR:=(List.range (n-a).toNat).map λi=>.int (a+(i:Nat))
def Yl1(a n:Int):(rngD a n).length=(n-a).toNat:=by simp[rngD]
theorem y7r(hz:(n-a).toNat<=sizeLine):Wk K (Itr a (n-a).toNat) G' (rngD a n):=
 y0r (by rw[Yl1];exact hz) λi H2 G2 _ _=>⟨λd hd=>by
  unfold rngD at hd;rw[Qi]at hd;obtain⟨j,h1,rfl⟩:=qc hd
  have hj:i<(n-a).toNat:=by
   grind
  rw[List.getElem?_range hj]at h1;cases h1
  exact⟨hj,λy H3 q=>⟨q.1,by rw[Rp];exact q.2⟩⟩,λhi=>by rw[Yl1]at hi;exact hi⟩
def rng1:AR->Option AR
 | [.int n]=>if decide (-(cap6:Int)<=n)&&decide (n<=cap6)then some (rngD 0 n)else none
 | _=>none
def rng2:AR->Option AR
 | [.int a,.int n]=>if decide (-(cap6:Int)<=a)&&decide (a<=cap6)&&decide (-(cap6:Int)<=n)&&decide (n<=cap6)then some (rngD a n)else none
 | _=>none
theorem y0s(h:rng1 l=some ds):∃n:Int,l=[.int n]/\-1000000<=n/\n<=1000000/\ds=rngD 0 n:=by
 unfold rng1 at h
 split at h
 ·rename_i n
  split at h
  ·rename_i hc
   cases h;simp only[Qb,wm]at hc
   have hcap:(cap6:Int)=1000000:=by decide
   grind
  ·cases h
 ·cases h
theorem y0t(h:rng2 l=some ds):∃a n:Int,l=[.int a,.int n]/\-1000000<=a/\a<=1000000/\-1000000<=n/\n<=1000000/\ds=rngD a n:=by
 unfold rng2 at h
 split at h
 ·rename_i a n
  split at h
  ·rename_i hc
   cases h;simp only[Qb,wm]at hc
   have hcap:(cap6:Int)=1000000:=by decide
   grind
  ·cases h
 ·cases h
def gSet(i:Nat):AV:=λd ρ=>some (ρ.set i (↑d))
def Ypp(i j:Nat):AV:=λd ρ=>match d with
 | .tup [a,b]=>some ((ρ.set i (↑a)).set j (↑b))
 | _=>none
def forM(gt:AV)(fb:AU):AR->AU
 | [],ρ=>some (.nx ρ)
 | d::ds,ρ=>(gt d ρ).bind λρ1=>(fb ρ1).bind fun
   | .nx ρ2=>forM gt fb ds ρ2
   | .ct ρ2=>forM gt fb ds ρ2
   | .bk ρ2=>some (.nx ρ2)
   | .rt d=>some (.rt d)
def sFor(gl:AY)(gt:AV)(fb:AU):AU:=λρ=>(gl ρ).bind λds=>forM gt fb ds ρ
theorem Yh6:∀(ds:AR) (ρ:Ro) (out:Out),forM gt fb ds ρ=some out->(∃ρ',out=.nx ρ')\/∃d,out=.rt d
 | [],ρ,out,h=>by cases h;grind
 | d::ds,ρ,out,h=>by
   rw[forM]at h;obtain⟨ρ1,h1,h⟩:=qa h;obtain⟨o,h2,h⟩:=qa h
   cases o with
   | nx ρ2=>exact Yh6 ds ρ2 out h
   | ct ρ2=>exact Yh6 ds ρ2 out h
   | bk ρ2=>grind
   | rt d=>grind
def Ybt(fc:AW)(fb:AU):Nat->AU
 | 0,_=>none
 | n+1,ρ=>(fc ρ).bind λk=>if k=true then (fb ρ).bind fun
  | .nx ρ2=>Ybt fc fb n ρ2
  | .ct ρ2=>Ybt fc fb n ρ2
  | .bk ρ2=>some (.nx ρ2)
  | .rt d=>some (.rt d)
  else some (.nx ρ)
def capR(src:List AN)(ρ:Ro):Ro:=src.map λo=>o.bind λj=>match ρ[j]? with
 | some (some (B.sh d))=>some (.sh d)
 | _=>none
def SR.cap(s:SR K H0 G0 σ H G ρ)(src:List AN):SR K H G (capσ src σ) H G (capR src ρ):=by
 have noow:∀(i:Nat) l,(capR src ρ)[i]?≠some (some (B.ow l)):=λi l h=>by
  unfold capR at h;rw[Qi]at h;obtain⟨o,h1,h2⟩:=qc h;obtain⟨j,rfl,h3⟩:=qa h2
  split at h3<;>cases h3
 have nood:∀(i:Nat) t ks vs,(capR src ρ)[i]?≠some (some (B.od t ks vs)):=λi t ks vs h=>by
  unfold capR at h;rw[Qi]at h;obtain⟨o,h1,h2⟩:=qc h;obtain⟨j,rfl,h3⟩:=qa h2
  split at h3<;>cases h3
 refine SR.mkSh (.refl s.seen) (by simp[capσ,capR]) (λi d h=>?_) noow nood;unfold capR at h;rw[Qi]at h;obtain⟨o,h1,h2⟩:=qc h;obtain⟨j,rfl,h3⟩:=qa h2
 split at h3
 ·rename_i d' hd
  cases h3;obtain⟨v,q1,q2⟩:=s.sh j _ hd;refine⟨v,?_,q2⟩;unfold capσ;rw[Qi,h1];show some ((σ[j]?).join)=some (some v);rw[q1];rfl
 ·cases h3
def Ydr(gt:AV)(fc:AW)(fe:AX)(ρ:Ro):AR->Option AR
 | []=>some []
 | d::ds=>(gt d ρ).bind λρ1=>(fc ρ1).bind λk=>if k=true then (fe ρ1).bind λv=>(Ydr gt fc fe ρ ds).map (v::·)else Ydr gt fc fe ρ ds
def Ybb(gl:AY)(src:List AN)(gt:AV)(fc:AW)(fe:AX):AY:=λρ=>(gl ρ).bind λds=>Ydr gt fc fe (capR src ρ) ds
def tY:AW:=λ_=>some true
def y9k(h:tTof K tY σ H Q):tYes σ H Q:=by
 obtain⟨ρ,k,H0,G0,G,e,s,h⟩:=h;cases e;exact h H G (.refl s.seen)
def Yado:PIfs X [] (tTof X.K tY):=λpins s σ H Q I h=>y81 pins s σ H Q I (y9k h)
def Yan(h:src[i]?=some none):∀ρ d ρ1,gSet i d (capR src ρ)=some ρ1->Le (capR src ρ) ρ1:=λρ d ρ1 e=>by
 cases e;refine⟨by simp,λj b hb=>?_⟩;by_cases hj:j=i
 ·subst hj
  unfold capR at hb;rw[Qi,h]at hb;cases hb
 ·rw[Qg (Ne.symm hj)];exact hb
theorem y0w(hle:∀ρ d ρ1,gt d (capR src ρ)=some ρ1->Le (capR src ρ) ρ1)(h:tFof K (Ybb gl src gt fc fe) σ H Q):tLC (tIof K gl) src (gOf K gt) (tTof K fc) (tOf K fe) σ H Q:=by
 obtain⟨ρ,l,H0,G0,G,e,s,h⟩:=h;unfold Ybb at e;obtain⟨ds,h1,h2⟩:=qa e;refine⟨ρ,ds,H0,G0,G,h1,s,λJ H1 G1 g1 wk p hp=>?_⟩;have s1:=s.grow g1;have sc:=s1.cap src;have gp:G1 p=none:=s1.seen.free hp
 refine⟨λi m σ' H'=>m=ds.length-i/\i<=ds.length/\∃G' done xs rest,SR K H1 G1 σ' H' G' (capR src ρ)/\H' p=some (.lst xs)/\G' p=none/\RpL K G' done xs/\xs.length<=i/\Ydr gt fc fe (capR src ρ) (ds.drop i)=some rest/\done++rest=l,
  ⟨_,rfl,Qf _,G1,[],[],l,sc.grow (Gr.hid s1.seen hp _),Yu,gp,.nil,Qf _,h2,rfl⟩,?_⟩
 rintro i m σ' H' ⟨rfl,hi,G',done,xs,rest,s',hx,gx,rx,hl,e',hd⟩;have W:=wk.2 i H' G' s'.gr.g s'.seen;by_cases hlt:i<ds.length
 ·have hdi:ds[i]?=some ds[i]:=qq hlt
  obtain⟨go,yl⟩:=W.1 _ hdi;rw[List.drop_eq_getElem_cons hlt,Ydr]at e';obtain⟨ρ1,e1,e'⟩:=qa e';obtain⟨k,e2,e'⟩:=qa e';refine .inr ⟨go,λx H2 y=>?_⟩;obtain⟨G2,g2,r2⟩:=yl x H2 y
  have keep:∀{Ha Ga Hb Gb:Hp},Gr Ha Ga Hb Gb->Ha p=some (.lst xs)->Ga p=none->Hb p=some (.lst xs)/\Gb p=none:=λ{Ha Ga Hb Gb} g e1 e2=>by
   refine⟨g.h _ _ e1,?_⟩
   cases q:Gb p with
   | none=>rfl
   | some o=>
     have:=g.n p e2 (by rw[q];exact λz=>nomatch z);rw[e1]at this;cases this
  obtain⟨hx2,gx2⟩:=keep g2 hx gx;refine⟨_,capR src ρ,ρ1,H1,G1,G2,e1,s'.grow g2,r2,λσ3 s3=>?_⟩;refine tTof.at e2 s3 λH4 G4 g4 s4=>?_;obtain⟨hx4,gx4⟩:=keep g4 hx2 gx2;have le:=hle ρ _ ρ1 e1
  cases k with
  | false=>
    rw[if_neg qi]at e' ⊢;exact⟨ds.length-(i+1),by lia,rfl,hlt,G4,done,xs,rest,s4.le le,hx4,gx4,(rx.mono g2.g).mono g4.g,by lia,e',hd⟩
  | true=>
    rw[if_pos rfl]at e' ⊢;obtain⟨v,e3,e'⟩:=qa e';obtain⟨rest',e4,rfl⟩:=qc e';refine tOf.at e3 s4 λw H5 G5 g5 r5 s5=>?_;obtain⟨hx5,gx5⟩:=keep g5 hx4 gx4;have hz:=wk.1;refine⟨xs,hx5,by lia,ds.length-(i+1),by lia,rfl,hlt,G5,done++[v],xs++[w],rest',?_,Yu,gx5,(((rx.mono g2.g).mono g4.g).mono g5.g).append (.one r5),by simp;lia,e4,by simpa using hd⟩;have s6:=s5.le le
    have noow:∀(i:Nat) l,(capR src ρ)[i]?≠some (some (B.ow l)):=λi l h=>by
     unfold capR at h;rw[Qi]at h;obtain⟨o,h1,h2⟩:=qc h;obtain⟨j,rfl,h3⟩:=qa h2
     split at h3<;>cases h3
    have nood:∀(i:Nat) t ks vs,(capR src ρ)[i]?≠some (some (B.od t ks vs)):=λi t ks vs h=>by
     unfold capR at h;rw[Qi]at h;obtain⟨o,h1,h2⟩:=qc h;obtain⟨j,rfl,h3⟩:=qa h2
     split at h3<;>cases h3
    refine SR.mkSh ⟨λb o q=>?_,s6.gr.g,λb o q=>?_,s6.gr.n⟩ s6.len s6.sh noow nood
    ·rw[Yaa (Yz q hp)];exact s6.gr.h b o q
    ·rw[Yaa (Yz q gx5)];exact s6.gr.s b o q
 ·have ei:i=ds.length:=by lia
  subst ei;rw[List.drop_length,Ydr]at e';cases e';rw[ja]at hd;subst hd;exact .inl ⟨W.2 (qu _),h p xs H' G' (g1.trans s'.gr) (g1.h.free hp) gx hx rx⟩
section
variable {elt iter:Expr}{ifs:AM}{scope:Scope}{N:AL}{src:List AN}{gt:AV}{fc:AW}{fe:AX}
def y9l(S:aMc X.N X.env.scope N src scope)(hc:X.calm=true)(hit:MI X tg iter gl)(hg:∀cl C fp s H,MG (Ya3 X scope N cl C fp s H) tg gt)(hi:∀cl C fp s H,PIfs (Ya3 X scope N cl C fp s H) ifs (tTof X.K fc))(he:∀cl C fp s H,ME (Ya3 X scope N cl C fp s H) elt fe)(hle:∀ρ d ρ1,gt d (capR src ρ)=some ρ1->Le (capR src ρ) ρ1)(hs:∀x,foldedSetIterable iter X.env x=pure x:=by intro _;rfl):MF X (.ListComp elt [⟨tg,iter,ifs,0⟩] scope pos) (Ybb gl src gt fc fe):=
 PE.imp (y83 S hc hit hg hi he hs) λ_ _ _ h=>y0w hle h
def y9m(i:Nat){py spos:Pos}(hN:X.N.Nodup)(S:aMc X.N X.env.scope N src scope)(hc:X.calm=true)(hit:MI X tg iter gl)(hg:∀cl C fp s H,MG (Ya3 X scope N cl C fp s H) tg gt)(hi:∀cl C fp s H,PIfs (Ya3 X scope N cl C fp s H) ifs (tTof X.K fc))(he:∀cl C fp s H,ME (Ya3 X scope N cl C fp s H) elt fe)(hle:∀ρ d ρ1,gt d (capR src ρ)=some ρ1->Le (capR src ρ) ρ1)(hsw:swapsWith (.ListComp elt [⟨tg,iter,ifs,0⟩] scope pos) (some (.Name y py)) spos.line X.env=pure true:=by rfl)(hy:X.N[i]?=some y:=by rfl)(hx:Loc X.env.scope y:=by trivial)(hf:X.fn y=true\/X.env.scope.names.lookup y=some .local:=by trivial)(hs:∀x,foldedSetIterable iter X.env x=pure x:=by intro _;rfl):MS X (.Assign [.Name y py] (.ListComp elt [⟨tg,iter,ifs,0⟩] scope pos) spos) (sOwn i (Ybb gl src gt fc fe)):=
 PS.imp (y84 S hc hit hg hi he hN hy hx hsw hf hs) λF σ H h=>by
  obtain⟨ρ,out,H0,G0,G,e,s,h⟩:=h;obtain⟨l,h1,rfl⟩:=qc e;exact y0w hle ⟨ρ,l,H0,G0,G,h1,s,λp xs H' G' g hp gp e' r=>h _ H' G' (s.set_ow i g hp gp e' r)⟩
end
def Yr(n:Nat)(ds:AR):Ro:=ds.map (λd=>some (.sh d))++List.replicate (n-ds.length) none
noncomputable def runB(k n:Nat)(fb:AU)(ds:AR):Option D:=if ds.length=k then (fb (Yr n ds)).bind fun
 | .rt d=>some d
 | .nx _=>some .non
 | _=>none
 else none
theorem SR.start(s:Same G H)(r:RpL K G ds vs):SR K H G (start N vs) H G (Yr N.length ds):=by
 have hl:=r.length
 have noow:∀(i:Nat) l,(Yr N.length ds)[i]?≠some (some (B.ow l)):=λi l h=>by
  unfold Yr at h;grind
 have nood:∀(i:Nat) t ks vs,(Yr N.length ds)[i]?≠some (some (B.od t ks vs)):=λi t ks vs h=>by
  unfold Yr at h;grind
 refine SR.mkSh (.refl s) (by simp[L2.start,Yr,hl]) (λi d h=>?_) noow nood;unfold Yr at h;rw[List.getElem?_append]at h
 split at h
 ·rename_i hi
  rw[Qi]at h;obtain⟨d',h1,h2⟩:=qc h;cases h2;obtain⟨v,h3,h4⟩:=r.get h1;refine⟨v,?_,h4⟩;unfold L2.start;grind
 grind
section
variable {P:P7}{w:World}{mg:AE}{base:Heap}
def y0x{f:Addr}(F:Fun K x qual st f fd)(S:aJc N ps (aIc st))(hn:N.length=n)(hm:ps.length=m)(hb:∀(cdv:Value) (A:Around) (outer:List Env) (s:Shared) (H:Hp) (E:XK),Room k (A.deeper (envOfC qual (aIc st) (~~~s) f cdv))->MB (cxOf CX0 P w K mg base N qual (aIc st) f cdv A outer s H E).nox (aKc st) fb):
 FnOk P w K mg base CX0 (k+1) f fd ps (spOf K m (runB m n fb)):=by
 refine F.ok S (λvs H Q E h=>by rw[h.1,hm]) λcdv A outer s H vs Q E hr h=>?_;obtain⟨hl,ds,d,G,sm,r,e,q⟩:=h;refine⟨_,hb cdv A outer s H E hr,?_⟩;unfold runB at e
 split at e
 ·rename_i hds
  obtain⟨o,h1,h2⟩:=qa e;refine⟨Yr n ds,o,H,G,G,h1,by rw[<-hn];exact SR.start sm r,?_⟩
  cases o with
  | rt d'=>cases h2;exact λv H' G' g r'=>q v H' G' g r'
  | nx ρ=>cases h2;exact λσ' H' G' s'=>q .non H' G' s'.gr (by rw[Rp])
  | bk ρ=>cases h2
  | ct ρ=>cases h2
 ·cases e
end
end
end
section
variable {K:W7}
def Okf(P:P7)(w:World)(K:W7)(mg:AE)(base:Heap)(k n:Nat)(x:Str)(ps:AL)(fn:AR->Option D):Prop:=
 ∃a fd,FnOk P w K mg base CX0 k a fd ps (spOf K n fn)/\Binds K fd ps []/\W.keepIn K (.ref a)=true/\mg x=some (.ref a)
def Yadp{st:Stmt}(F:Fun K x q st a fd)(b:Binds K fd ps [])(hm:mg x=some (.ref a))(h:FnOk P w K mg base CX0 k a fd ps (spOf K n fn)):Okf P w K mg base k n x ps fn:=⟨a,fd,h,b,F.kp,hm⟩
section
variable {X:Cx}{a b e:Expr}{es:AM}{fa fb:AX}{ga:AY}{pos:Pos}
def negI:D->Option D
 | .int i=>some (.int (-i))
 | _=>none
def catD:D->D->Option AR
 | .lst a,.lst b=>if a.length+b.length<=cap6 then some (a++b)else none
 | _,_=>none
def Yagj:R2:=λx y H Q=>∃l b xs zs,x=.ref l/\y=.ref b/\Rd H l (.lst xs)/\Rd H b (.lst zs)/\xs.length+zs.length<=sizeLine/\∀p,H p=none->Q (.ref p) (upd H p (.lst (xs++zs)))
theorem y9n:OpR X (binaryOp .Add) Yagj:=by
 intro pins s σ H x y v u Q I rx ry h;obtain⟨l,b,xs,zs,rfl,rfl,hH,hB,hz,q⟩:=h;cases rx;cases ry;obtain⟨z,its,n,r,e⟩:=hH.ok I.hok;obtain⟨z2,its2,n2,r2,e2⟩:=hB.ok I.hok;have hl:=r.length;have hl2:=r2.length;refine PySem.P.add_list e e2 ?_ (by grind)
 have ea:its.toArray++its2.toArray=(its++its2).toArray:=by simp
 rw[ea];exact⟨.ref _,_,I.lnew (t':=s.toks) (r.append r2) (by grind),rfl,q _ I.fresh⟩
def Yir:D->String
 | .non=>"NoneType"
 | .bl _=>"bool"
 | .int _=>"int"
 | .str _=>"str"
 | .tup _=>"tuple"
 | .lst _=>"list"
 | .scr _=>"list"
 | .dct _ _ _=>"dict"
 | .obj _ _ _=>"dict"
 | .adr _=>"dict"
def y5d:D->Bool
 | .scr _=>false
 | .dct t _ _=>!t
 | .obj _ _ _=>false
 | .adr _=>false
 | _=>true
def isiD(T:String)(d:D):Option Bool:=if y5d d=true then some (Yir d==T||(T=="int"&&Yir d=="bool"))else none
def y9o(hn:y5d d=true)(r:Ct K G H d v):TyOf K H v (.type (Yir d)):=by
 cases d<;>rw[Ct]at r
 ·subst r;exact .non
 ·subst r;exact .bl _
 ·subst r;exact .int _
 ·obtain⟨rfl,_⟩:=r;exact .str _
 ·obtain⟨a,xs,rfl,g,_⟩:=r;exact .tup g.1
 ·obtain⟨a,xs,rfl,g,_⟩:=r
  rcases g with g|⟨o,g⟩
  ·exact .lst g
  ·exact .frz g
 ·cases hn
 ·rename_i t _ _
  cases t with
  | true=>cases hn
  | false=>
    obtain⟨a,_,_,rfl,g,_⟩:=r;rcases g with⟨_,_,g,_⟩|⟨g,_⟩
    ·exact .dK g
    ·cases g
 ·cases hn
 ·cases hn
def Kit(T:String):Prop:=∀(K:W7) (d:D),W.kitOne K (.type (Yir d)) (.type T)=some (Yir d==T||(T=="int"&&Yir d=="bool"))
def y0y:Kit "tuple":=λK d=>by cases d<;>rfl
def y5e(hk:Kit T):Ydq X (.builtin "isinstance") (λxs H Q=>∃x d G,xs=[x,.ty T]/\y5d d=true/\Ct X.K G H d x/\Q (.bl (Yir d==T||(T=="int"&&Yir d=="bool"))) H):=by
 intro pins s σ H xs us Q I r h;obtain⟨x,d,G,rfl,hn,rx,q⟩:=h;obtain⟨u,w',rfl,r1,r2⟩:=Yx1 r;cases (show w'=Value.type T from r2)
 exact Yz0 I r1 (y9o hn rx) (hk X.K d) λtk=>⟨.bl _,H,I.tok tk,rfl,q⟩
end
end
section
variable {K:W7}
def insI(a:Int):AH->AH
 | []=>[a]
 | b::l=>if a<=b then a::b::l else b::insI a l
def Yc6:AH->AH
 | []=>[]
 | a::l=>insI a (Yc6 l)
theorem Yl2(a:Int):∀l:AH,(insI a l).Perm (a::l)
 | []=>.refl _
 | b::l=>by
   rw[insI]
   split
   ·exact .refl _
   ·exact((Yl2 a l).cons b).trans (.swap a b l)
theorem Yay:∀l:AH,(Yc6 l).Perm l
 | []=>.refl _
 | a::l=>(Yl2 a _).trans ((Yay l).cons a)
theorem Yl3(a:Int):∀l:AH,l.Pairwise (·<=·)->(insI a l).Pairwise (·<=·)
 | [],_=>by simp[insI]
 | b::l,h=>by
   rw[insI]
   split
   ·rename_i hab
    refine List.pairwise_cons.mpr ⟨λx hx=>?_,h⟩;rcases qt hx with rfl|hx
    ·exact hab
    ·exact Int.le_trans hab ((List.pairwise_cons.mp h).1 x hx)
   ·rename_i hab
    refine List.pairwise_cons.mpr ⟨λx hx=>?_,Yl3 a l (List.pairwise_cons.mp h).2⟩;rcases qt ((Yl2 a l).mem_iff.mp hx)with rfl|hx
    ·lia
    simp_all
theorem Ya5:∀l:AH,(Yc6 l).Pairwise (·<=·)
 | []=>.nil
 | a::l=>Yl3 a _ (Ya5 l)
section
variable {prog:P7}{w:World}{A:Around}{E:AB}{s:Shared}
theorem Yx7(hl:s.heap.IsList l vs.toArray)(h2:vs.length<2)(h:Q (.ref (~~~s+1)) { s with heap:=sortedAll s.heap vs vs.toArray }):wpAny (mZ prog w) A (call (.builtin "sorted") [.ref l]) Q E s:=by
 refine Calls.call_function_entry kind_sorted plain_sorted entry_sorted (args_sorted1 _) ?_;unfold Builtin.«sorted»;refine wa (m:=checkCount "sorted" 1 1 _) (wb ?_);refine wa (collect_list hl ?_ (by rw[ji];lia));refine wa (wpAny_newList ?_ (by rw[ji];lia))
 have hsz:((s.heap.push (seqObj "list" #[] 0)).update (~~~s) (Obj.mapSeq (·++vs.toArray))).objs.size= ~~~s+1:=by
  simp_all
 have hoL:(((s.heap.push (seqObj "list" #[] 0)).update (~~~s) (Obj.mapSeq (·++vs.toArray))).push (seqObj "list" vs.toArray 0)).get? (~~~s+1)=some (seqObj "list" vs.toArray 0):=by
  rw[<-hsz];exact qp _ rfl
 show wpAny _ _ _ _ _ { s with heap:=((s.heap.push (seqObj "list" #[] 0)).update (~~~s) (Obj.mapSeq (·++vs.toArray))).push (seqObj "list" vs.toArray 0) };rw[hsz];refine wa (wc (we slot_list_sort ⟨_,hoL,rfl⟩ entry_list_sort ?body (args_list_sort _)))
 case body=>
  rw[list_sort_plain];generalize hS:({ s with heap:=((s.heap.push (seqObj "list" #[] 0)).update (~~~s) (Obj.mapSeq (·++vs.toArray))).push (seqObj "list" vs.toArray 0) }:Shared)=S at *
  have hoS:S.heap.get? (~~~s+1)=some (seqObj "list" vs.toArray 0):=by grind
  have ha:(~~~s)+1<S.heap.objs.size:=ql hoS;refine wa (listItems_at hoS rfl ?_);refine wa (listUpdate_at hoS rfl ?_ (by rw[qk,ji];lia) (Qf _))
  obtain⟨e1,ho1⟩:∃e1,(S.heap.update (~~~s+1) (Obj.mapSeq λ_=>#[])).get? (~~~s+1)=some (seqObj "list" #[] e1):=⟨_,get?_update_seq hoS (λ_=>#[])⟩
  refine wa (seqEpoch_at ho1 rfl ?_);refine wa (wpAny_newTuple ?_ (by show vs.length<=_;rw[ji];lia));refine wa (wpAny_newList ?_ (Qf _));refine wc ?_
  have ho6:(((S.heap.update (~~~s+1) (Obj.mapSeq λ_=>#[])).push (seqObj "tuple" vs.toArray 0)).push (seqObj "list" #[] 0)).get? (~~~s+1)=some (seqObj "list" #[] e1):=by
   rw[Heap.get?_push_ne _ _ _ (by rw[size_push',Heap.size_update];grind),Heap.get?_push_ne _ _ _ (by rw[Heap.size_update];grind)];exact ho1
  show wpAny (mZ prog w) _ _ _ _ { S with heap:=((S.heap.update (~~~s+1) (Obj.mapSeq λ_=>#[])).push (seqObj "tuple" vs.toArray 0)).push (seqObj "list" #[] 0) };dsimp only
  have hlt:vs.toArray.size<2:=by grind
  rw[if_pos hlt,if_pos hlt];refine wa (wb ?_);rw[StateT.run_pure];refine wa (wb ?_);dsimp only;refine wa (seqEpoch_at ho6 rfl ?_);refine wa (listUpdate_at ho6 rfl ?_ (hsz2:=by grind));simp only[bne_self_eq_false,Bool.false_eq_true,if_false]
  have hout:(arrOf (SortSt.mk' general' (vs.toArray.zip vs.toArray) #[] 7 none)).map (·.2)=vs.toArray:=by
   grind
  refine wb ⟨_,rfl,wb ⟨_,rfl,?_⟩⟩;have hh:=h;unfold sortedAll sortedHeap at hh;rw[<-hS,hout];exact hh
def plt(j:Int)(q:Bool)(i:Int)(p:Bool):Bool:=if j=i then (!q&&p)else decide (j<i)
theorem y9p(hb:IsTup s.heap b #[.int i t,.bool p])(hc:IsTup s.heap c #[.int j u,.bool q])(h:R (plt j q i p) s):
 wpAny (mZ prog w) A (keyLt' (tuples' true) (.ref c) (.ref b)) R E s:=by
 obtain⟨ob,h1,_,n1,d1⟩:=hb;obtain⟨oc,h2,_,n2,d2⟩:=hc;refine W.kat_lt h2 d2 h1 d1 ?_;show W.KatLex prog w A true false R [(.int j u,.int i t),(.bool q,.bool p)] 0 s;unfold plt at h;refine W.kat_cons (SeqAt.EqAt.int_int j u i t prog w _ _ (W.kat_go (λe=>W.kat_yes (W.kat_cons (SeqAt.EqAt.bool_bool q p prog w _ _ (W.kat_go (λe2=>W.kat_yes (W.kat_nil ?_)) λe2=>W.kat_no (W.kat_one _ _ (lt_bool ?_)))))) λe=>W.kat_no ?_))
 ·simp_all
 ·have e':j=i:=by simpa using e
  rw[if_pos e']at h;show R _ s
  cases p<;>cases q<;>first|exact h|simp at e2
 ·have e':¬j=i:=by simpa using e
  rw[if_neg e']at h;exact oneLt_int h
theorem Yx8(h:cmp 1 0 (λk s'=>if k=true then G #[1,0] s' else G #[0,1] s') S):(W.kas_sort 2).kasWp cmp G S:=by
 show cmp 1 0 (λk s'=>W.KasT.kasWp cmp _ G s') S
 have e:∀(k:Bool) (s':Shared),(if k=true then G #[1,0] s' else G #[0,1] s')=W.KasT.kasWp cmp (W.KasT.bind (W.KasT.bind (if k=true then W.KasT.ret 1 else W.kas_asc (List.toArray (List.range 2)) 0 2)
  λn=>if (n==2)=true then W.KasT.ret (n,List.toArray (List.range 2))else if n > 1 then .ask ((List.toArray (List.range 2)).getD 0 0) ((List.toArray (List.range 2)).getD (n-1) 0) λc=>if c=true then .ret (n,List.toArray (List.range 2))else W.kas_descPart n 2 (W.kas_rev (List.toArray (List.range 2)) 0 n)
   else W.kas_descPart n 2 (List.toArray (List.range 2))) λr=>if r.1<2 then W.kas_bin (2-max r.1 1) r.2 (max r.1 1)else .ret r.2) G s':=λk s'=>by cases k<;>rfl
 simp_all
theorem Yx9(hl:s.heap.IsList l #[.ref b,.ref c])(hb:IsTup s.heap b #[.int i t,.bool p])(hc:IsTup s.heap c #[.int j u,.bool q])(h:Q (.ref (~~~s+1)) { s with heap:=sortedAll s.heap [.ref b,.ref c] (if plt j q i p=true then #[.ref c,.ref b]else #[.ref b,.ref c]) }):wpAny (mZ prog w) A (call (.builtin "sorted") [.ref l]) Q E s:=by
 generalize hvs:[Value.ref b,Value.ref c]=vs at *;have hl':s.heap.IsList l vs.toArray:=hl
 have hlen:vs.length=2:=by grind
 refine Calls.call_function_entry kind_sorted plain_sorted entry_sorted (args_sorted1 _) ?_;unfold Builtin.«sorted»;refine wa (m:=checkCount "sorted" 1 1 _) (wb ?_);refine wa (collect_list hl' ?_ (by rw[ji];lia));refine wa (wpAny_newList ?_ (by rw[ji];lia))
 have hsz:((s.heap.push (seqObj "list" #[] 0)).update (~~~s) (Obj.mapSeq (·++vs.toArray))).objs.size= ~~~s+1:=by
  simp_all
 have hoL:(((s.heap.push (seqObj "list" #[] 0)).update (~~~s) (Obj.mapSeq (·++vs.toArray))).push (seqObj "list" vs.toArray 0)).get? (~~~s+1)=some (seqObj "list" vs.toArray 0):=by
  rw[<-hsz];exact qp _ rfl
 have keep0:∀b o,s.heap.get? b=some o->(((s.heap.push (seqObj "list" #[] 0)).update (~~~s) (Obj.mapSeq (·++vs.toArray))).push (seqObj "list" vs.toArray 0)).get? b=some o:=λb o q=>by
  have hlt:b< ~~~s:=ql q;rw[Heap.get?_push_ne _ _ _ (by grind),Heap.get?_update_ne _ _ _ _ (qm hlt),Heap.get?_push_ne _ _ _ (qm hlt)];exact q
 show wpAny _ _ _ _ _ { s with heap:=((s.heap.push (seqObj "list" #[] 0)).update (~~~s) (Obj.mapSeq (·++vs.toArray))).push (seqObj "list" vs.toArray 0) };rw[hsz];refine wa (wc (we slot_list_sort ⟨_,hoL,rfl⟩ entry_list_sort ?body (args_list_sort _)))
 case body=>
  rw[list_sort_plain];generalize hS:({ s with heap:=((s.heap.push (seqObj "list" #[] 0)).update (~~~s) (Obj.mapSeq (·++vs.toArray))).push (seqObj "list" vs.toArray 0) }:Shared)=S at *
  have hoS:S.heap.get? (~~~s+1)=some (seqObj "list" vs.toArray 0):=by grind
  have keepS:∀b o,s.heap.get? b=some o->S.heap.get? b=some o:=by grind
  have ha:(~~~s)+1<S.heap.objs.size:=ql hoS;refine wa (listItems_at hoS rfl ?_);refine wa (listUpdate_at hoS rfl ?_ (by rw[qk,ji];lia) (Qf _))
  obtain⟨e1,ho1⟩:∃e1,(S.heap.update (~~~s+1) (Obj.mapSeq λ_=>#[])).get? (~~~s+1)=some (seqObj "list" #[] e1):=⟨_,get?_update_seq hoS (λ_=>#[])⟩
  refine wa (seqEpoch_at ho1 rfl ?_);refine wa (wpAny_newTuple ?_ (by show vs.length<=_;rw[ji];lia));refine wa (wpAny_newList ?_ (Qf _));refine wc ?_
  have ho6:(((S.heap.update (~~~s+1) (Obj.mapSeq λ_=>#[])).push (seqObj "tuple" vs.toArray 0)).push (seqObj "list" #[] 0)).get? (~~~s+1)=some (seqObj "list" #[] e1):=by
   rw[Heap.get?_push_ne _ _ _ (by rw[size_push',Heap.size_update];grind),Heap.get?_push_ne _ _ _ (by rw[Heap.size_update];grind)];exact ho1
  have keep6:∀b o,s.heap.get? b=some o->(((S.heap.update (~~~s+1) (Obj.mapSeq λ_=>#[])).push (seqObj "tuple" vs.toArray 0)).push (seqObj "list" #[] 0)).get? b=some o:=λb o q=>by
   have hlt:b< ~~~s:=ql q;refine qe _ (qe _ ?_);rw[Heap.get?_update_ne _ _ _ _ (qm (Nat.lt_succ_of_lt hlt))];grind
  generalize hS6:({ S with heap:=((S.heap.update (~~~s+1) (Obj.mapSeq λ_=>#[])).push (seqObj "tuple" vs.toArray 0)).push (seqObj "list" #[] 0) }:Shared)=S6
  have ho7:S6.heap.get? (~~~s+1)=some (seqObj "list" #[] e1):=by grind
  have tb:IsTup S6.heap b #[.int i t,.bool p]:=by
   obtain⟨o,a1,a2⟩:=hb;exact⟨o,by grind,a2⟩
  have tc:IsTup S6.heap c #[.int j u,.bool q]:=by
   obtain⟨o,a1,a2⟩:=hc;exact⟨o,by grind,a2⟩
  dsimp only
  have hn2:¬vs.toArray.size<2:=by grind
  rw[if_neg hn2,if_neg hn2]
  have kt:W.KatTups S6.heap vs [.int i t,.int j u]:=by
   obtain⟨ob,b1,b2,n1,b3⟩:=tb;obtain⟨oc,c1,c2,n2,c3⟩:=tc;rw[<-hvs];exact .cons b1 b2 b3 rfl (.cons c1 c2 c3 rfl .nil)
  refine wa (W.kat_kind (T:=.type "int") kt (Nat.lt_succ_of_lt (Nat.lt_succ_self 0)) (λv hv=>?_) (by decide) ?_)
  ·rcases qt hv with rfl|hv
   ·exact .of_pure rfl
   ·rcases qt hv with rfl|hv
    ·exact .of_pure rfl
    ·cases hv
  have hcmp:wpAny (mZ prog w) A.in1.in1 (keyLt' (tuples' true) (vs.getD 1 Value.none) (vs.getD 0 Value.none)) (λk s'=>k=plt j q i p/\s'=S6) (λ_ _=>False) S6:=by
   rw[<-hvs];exact y9p tb tc ⟨rfl,rfl⟩
  refine wa (w5 (W.kat_run (ks:=vs) (vs:=vs) (κ:=tuples' true) (G:=λpm s'=>s'=S6/\pm=if plt j q i p=true then #[1,0]else #[0,1])
   (Q:=λst' s'=>s'=S6/\failedOf st'=none/\(arrOf st').map (·.2)=if plt j q i p=true then #[.ref c,.ref b]else #[.ref b,.ref c]) rfl (by lia) (by lia) (λpm st' s' a1 a2 a3 a4=>?_) ?_) ?_ λ_ _ e=>e)
  ·obtain⟨rfl,rfl⟩:=a4
   refine⟨rfl,a3,?_⟩;rw[W.kat_snds rfl a2,<-hvs];grind
  ·rw[hlen]
   refine Yx8 ?_;refine w5 hcmp (λk s' hk=>?_) λ_ _ x=>x;grind
  rintro⟨⟨⟩,st'⟩ s' ⟨rfl,hf,hout⟩;dsimp only;refine wa (seqEpoch_at ho7 rfl ?_);refine wa (listUpdate_at ho7 rfl ?_ (Qf _) (by rw[hout,ji];grind));rw[hf];simp only[bne_self_eq_false,Bool.false_eq_true,if_false];refine wb ⟨_,rfl,wb ⟨_,rfl,?_⟩⟩;have hh:=h;unfold sortedAll sortedHeap at hh;grind
end
def intsD:AR->Option AH
 | []=>some []
 | .int i::l=>(intsD l).map (i::·)
 | _=>none
def prI:D->Option (Int×Bool)
 | .tup [.int j,.bl q]=>some (j,q)
 | _=>none
def y7s(e d:D):Option Bool:=(prI e).bind λx=>(prI d).map λy=>plt x.1 x.2 y.1 y.2
def Yjx{α:Type}{x:α}{P:Prop}(h:none=some x):P:=by cases h
def Ywo(h:prI d=some x):d=.tup [.int x.1,.bl x.2]:=by
 cases d with
 | tup l=>cases l with
   | nil=>exact Yjx h
   | cons a l=>cases a with
     | int j=>cases l with
       | nil=>exact Yjx h
       | cons b l=>cases b with
         | bl q=>cases l with
           | nil=>exact w6 h ▸ rfl
           | cons _ _=>exact Yjx h
         | _=>exact Yjx h
     | _=>exact Yjx h
 | _=>exact Yjx h
def Yya(l:AR):Option AR:=match intsD l with
 | some ns=>if ns.length<64 then some ((Yc6 ns).map D.int)else none
 | none=>match l with
   | [d]=>some [d]
   | [d,e]=>(y7s e d).map λk=>if k=true then [e,d]else [d,e]
   | _=>none
def Yh7:AR->Option AR
 | [.lst l]=>Yya l
 | _=>none
theorem Yd4:∀{l:AR}{ns:AH},intsD l=some ns->l=ns.map D.int
 | [],ns,h=>by cases h;rfl
 | .int i::l,ns,h=>by
   rw[intsD]at h;obtain⟨m,h1,rfl⟩:=qc h;rw[Yd4 h1];rfl
 | .non::l,ns,h=>by simp[intsD]at h
 | .bl _::l,ns,h=>by simp[intsD]at h
 | .str _::l,ns,h=>by simp[intsD]at h
 | .tup _::l,ns,h=>by simp[intsD]at h
 | .lst _::l,ns,h=>by simp[intsD]at h
 | .scr _::l,ns,h=>by simp[intsD]at h
 | .dct _ _ _::l,ns,h=>by simp[intsD]at h
 | .obj _ _ _::l,ns,h=>by simp[intsD]at h
 | .adr _::l,ns,h=>by simp[intsD]at h
theorem Yg8:∀{ns:AH}{xs:AQ},RpL K G (ns.map D.int) xs->xs=ns.map V.int
 | [],xs,h=>by rw[List.map_nil,RpL]at h;exact h
 | n::ns,xs,h=>by
   rw[Qa,RpL]at h;obtain⟨x,r,rfl,h1,h2⟩:=h;rw[Rp]at h1;rw[h1,Yg8 h2];rfl
def y0z(H:Hp)(x:V)(i:Int)(p:Bool):Prop:=∃a,x=.ref a/\H a=some (.tup [.int i,.bl p])
def Yadu:AQ->Hp->VK->Prop:=λvs H Q=>∃a xs,vs=[.ref a]/\Rd H a (.lst xs)/\
 ((∃ns:AH,xs=ns.map V.int/\ns.length<64/\∀p,H p=none->Q (.ref p) (upd H p (.lst ((Yc6 ns).map V.int))))\/
  (xs.length<2/\∀p,H p=none->Q (.ref p) (upd H p (.lst xs)))\/
  (∃x y i p j q,xs=[x,y]/\y0z H x i p/\y0z H y j q/\∀r,H r=none->Q (.ref r) (upd H r (.lst (if plt j q i p=true then [y,x]else [x,y])))))
theorem Ybw:Ydq X (.builtin "sorted") Yadu:=by
 intro pins s σ H xs us Q I r h;obtain⟨a,ys,rfl,hr,h⟩:=h;obtain⟨u,rfl,ru⟩:=Yhj r;cases ru;obtain⟨its,rv,pl,hz⟩:=I.list (.inl hr)
 have fin:∀(out:Array Value) (zs:AQ),Vals zs out.toList->zs.length<=sizeLine->Q (.ref (~~~s+1)) (upd H (~~~s+1) (.lst zs))->EP X pins σ Q (.ref (~~~s+1)) { s with heap:=sortedAll s.heap its out }:=λout zs hv hz' hq=>by
  obtain⟨e,he⟩:=sortedAll_at s.heap its out;exact⟨.ref (~~~s+1),_,I.laid (t':=s.toks) (λb o q=>sortedAll_old q) (Nat.le_succ _) (show ObjOk X.prog X.w _ _ _ (.lst zs) from⟨hz',out.toList,e,hv,by simp_all⟩),rfl,hq⟩
 have fr:H (~~~s+1)=none:=I.hok.fresh (Nat.le_succ _);have hl:=rv.length;rcases h with⟨ns,rfl,h64,q⟩|⟨h2,q⟩|⟨x,y,i,p,j,k,rfl,px,py,q⟩
 ·have hI:=Yg5 rv
  refine sorted_ints pl.isList hI (by grind) λout ns' h1 h2 h3=>?_;have e:ns'=Yc6 ns:=W.ksm_same (h2.trans (Yay ns).symm) h3 (Ya5 ns);subst e;have hn:(Yc6 ns).length=ns.length:=(Yay ns).length_eq;exact fin out _ (Ygg h1) (by grind) (q _ fr)
 ·refine Yx7 pl.isList (by lia) ?_
  grind
 ·obtain⟨b,rfl,hb⟩:=px
  obtain⟨c,rfl,hc⟩:=py;obtain⟨u1,u2,rfl,r1,r2⟩:=Yx1 rv;cases r1;cases r2
  obtain⟨_,ib,vb,tb⟩:=(show ObjOk X.prog X.w H s.heap b (.tup [.int i,.bl p]) from I.hok b _ hb)
  obtain⟨_,ic,vc,tc⟩:=(show ObjOk X.prog X.w H s.heap c (.tup [.int j,.bl k]) from I.hok c _ hc)
  obtain⟨w1,w2,rfl,⟨t,rfl⟩,w2e⟩:=Yx1 vb;cases w2e;obtain⟨w3,w4,rfl,⟨t',rfl⟩,w4e⟩:=Yx1 vc;cases w4e;refine Yx9 (by simpa using pl.isList) (by simpa using tb) (by simpa using tc) ?_;refine fin _ (if plt j k i p=true then [.ref c,.ref b]else [.ref b,.ref c]) ?_ (by grind) (q _ fr);cases plt j k i p
  ·grind
  ·exact .cons rfl (.cons rfl .nil)
def Yr0(s:Same G H)(e:d=.tup [.int i,.bl p])(r:Rp K G d v):y0z H v i p:=by
 subst e;rw[Rp]at r;obtain⟨a,xs,rfl,g,rl⟩:=r;rw[RpL]at rl;obtain⟨x,r',rfl,h1,h2⟩:=rl;obtain⟨y,rfl,h3⟩:=Yjw h2;rw[Rp]at h1;rw[Rp]at h3;subst h1;subst h3;exact⟨a,rfl,s _ _ g⟩
def Yuk(h:y7s e d=some k):∃j q i p,e=.tup [.int j,.bl q]/\d=.tup [.int i,.bl p]/\k=plt j q i p:=by
 obtain⟨x,h1,h2⟩:=qa h;obtain⟨y,h3,h4⟩:=qc h2;exact⟨x.1,x.2,y.1,y.2,Ywo h1,Ywo h3,h4.symm⟩
theorem Yce:SemF K Yadu Yh7:=by
 intro vs ds l H G Q h s r q;unfold Yh7 at h
 split at h
 ·rename_i m
  obtain⟨v,rfl,rv⟩:=Yc5 r;rw[Ct]at rv;obtain⟨a,xs,rfl,g,rl⟩:=rv;refine⟨a,xs,rfl,g,?_⟩;unfold Yya at h
  split at h
  ·rename_i ns hns
   split at h
   ·rename_i h64
    cases h;cases Yd4 hns;refine .inl ⟨ns,Yg8 rl,h64,λp hp=>?_⟩;exact q p _ _ G (.hid s hp _) hp (s.free hp) Yu (.ints _)
   ·cases h
  ·split at h
   ·cases h
    refine .inr (.inl ⟨by rw[rl.length];grind,λp hp=>?_⟩);exact q p _ _ G (.hid s hp _) hp (s.free hp) Yu rl
   ·rename_i d e
    obtain⟨k,h1,rfl⟩:=qc h;obtain⟨j,y,i,x,rfl,rfl,rfl⟩:=Yuk h1;rw[RpL]at rl;obtain⟨v1,r1,rfl,p1,rl⟩:=rl;obtain⟨v2,rfl,p2⟩:=Yjw rl;refine .inr (.inr ⟨v1,v2,i,x,j,y,rfl,Yr0 s rfl p1,Yr0 s rfl p2,λp hp=>?_⟩);refine q p _ _ G (.hid s hp _) hp (s.free hp) Yu ?_;cases plt j y i x
    ·exact .cons p1 (.one p2)
    ·exact .cons p2 (.one p1)
   ·cases h
 ·cases h
end
section
variable {K:W7}
section
variable {X:Cx}{e:Expr}{f fb:AX}{pos pos':Pos}
def blsD:AR->Option AJ
 | []=>some []
 | .bl b::l=>(blsD l).map (b::·)
 | _=>none
theorem Yr1:∀{l:AR}{bs:AJ},blsD l=some bs->l=bs.map D.bl
 | [],bs,h=>by cases h;rfl
 | .bl i::l,bs,h=>by
   rw[blsD]at h;obtain⟨m,h1,rfl⟩:=qc h;rw[Yr1 h1];rfl
 | .non::l,ns,h=>by simp[blsD]at h
 | .int _::l,ns,h=>by simp[blsD]at h
 | .str _::l,ns,h=>by simp[blsD]at h
 | .tup _::l,ns,h=>by simp[blsD]at h
 | .lst _::l,ns,h=>by simp[blsD]at h
 | .scr _::l,ns,h=>by simp[blsD]at h
 | .dct _ _ _::l,ns,h=>by simp[blsD]at h
 | .obj _ _ _::l,ns,h=>by simp[blsD]at h
 | .adr _::l,ns,h=>by simp[blsD]at h
theorem y00:∀{bs:AJ}{xs:AQ},RpL K G (bs.map D.bl) xs->xs=bs.map V.bl
 | [],xs,h=>by rw[List.map_nil,RpL]at h;exact h
 | n::ns,xs,h=>by
   rw[Qa,RpL]at h;obtain⟨x,r,rfl,h1,h2⟩:=h;rw[Rp]at h1;rw[h1,y00 h2];rfl
theorem Ypq:∀{bs:AJ}{us:AD},Vals (bs.map V.bl) us->us=bs.map Value.bool
 | [],us,h=>by cases h;rfl
 | b::bs,us,h=>by
   cases h with
   | cons r t=>
     cases (show _=Value.bool b from r);rw[Ypq t];rfl
theorem y01(bs:AJ):((List.range bs.length).any λi=>bs.getD i false)=bs.any id:=by
 induction bs with
 | nil=>rfl
 | cons b bs ih=>
   rw[qr,List.range_succ_eq_map,List.any_cons,List.any_map,List.any_cons];grind
theorem y02(bs:AJ):((List.range bs.length).all λi=>bs.getD i false)=bs.all id:=by
 induction bs with
 | nil=>rfl
 | cons b bs ih=>
   rw[qr,List.range_succ_eq_map,List.all_cons,List.all_map,List.all_cons];grind
def rBls(g:AJ->V):AQ->Hp->VK->Prop:=λvs H Q=>∃(a:Addr) (bs:AJ),vs=[.ref a]/\Rd H a (.lst (bs.map V.bl))/\Q (g bs) H
def Yr2(A:Around)(prog:P7)(w:World)(bs:AJ):TruthOf prog w A (λi v=>((bs.map Value.bool).toArray)[i]?=some v) (λi=>bs.getD i false):=λi v s Q E hP hQ=>by
 have hP':(bs.map Value.bool)[i]?=some v:=by simpa using hP
 rw[Qi]at hP';obtain⟨b,h1,rfl⟩:=qc hP';refine wpAny_truthy_bool ?_
 have:bs.getD i false=b:=by simp[h1]
 rw[<-this];exact hQ
def Yr3{pins:AC}{σ:L2.St}{H:Hp}{its:AD}(hh:A.handled=none)(hl:s.heap.IsList a its.toArray)(h:∀s₂,s₂={ s with heap:=s.heap.push { cls:=.type "list_iterator",data:=.fields #[.ref a,.int 0 0] } }->Walks X.prog X.w A (~~~s) [~~~s,a] [~~~s] its.toArray.size (λi v=>its.toArray[i]?=some v) (λi h=>h.IsListIter (~~~s) a i/\h.IsList a its.toArray)->
  (s₂.heap.IsListIter (~~~s) a 0/\s₂.heap.IsList a its.toArray)->Q (.ref (~~~s)) s₂):wpAny (mZ X.prog X.w) A (pyIter (.ref a)) Q E s:=by
 have hne:a≠(~~~s):=by
  obtain⟨o,ho,_⟩:=hl;exact qm (ql ho)
 refine wpAny_pyIter_list hl (h _ rfl (Walks.list hh _ a hne _) ⟨⟨_,qp _ rfl,rfl,rfl⟩,?_⟩);obtain⟨o,ho,r⟩:=hl;exact⟨o,qe _ ho,r⟩
theorem Ykk{σ:L2.St}(I:Inv X pins σ H s)(k:∀b u,b∉[~~~s]->(s.heap.push o).get? b=some u->h'.get? b=some u):Inv X pins σ H { s with heap:=h',toks:=tk }:=
 I.kept λb u q=>k b u (by
  intro z
  have e:b= ~~~s:=by simpa using z
  exact absurd (ql q) (by grind)) (qe _ q)
def Yl4(hc:X.calm=true):Ydq X (.builtin "any") (rBls λbs=>.bl (bs.any id)):=by
 intro pins s σ H xs us Q I r h;obtain⟨a,bs,rfl,hr,q⟩:=h;obtain⟨u,rfl,ru⟩:=Yhj r;cases ru;obtain⟨its,rv,pl,hz⟩:=I.list (.inl hr);cases Ypq rv;refine call_any_walk (Yr3 (X:=X) (pins:=pins) (σ:=σ) (H:=H) (show X.A.in1.handled=none from I.ok.hd hc) pl.isList λs₂ e W st=>?_);subst e;refine⟨_,_,_,_,_,_,λi=>bs.getD i false,rfl,W,st,Yr2 _ _ _ bs,λh' tk k=>⟨.bl _,H,(show Inv X pins σ H { s with heap:=h',toks:=tk } from Ykk I k),?_,q⟩⟩;show Value.bool _=Value.bool _;rw[qk,qf,y01]
def y03(hc:X.calm=true):Ydq X (.builtin "all") (rBls λbs=>.bl (bs.all id)):=by
 intro pins s σ H xs us Q I r h;obtain⟨a,bs,rfl,hr,q⟩:=h;obtain⟨u,rfl,ru⟩:=Yhj r;cases ru;obtain⟨its,rv,pl,hz⟩:=I.list (.inl hr);cases Ypq rv;refine call_all_walk (Yr3 (X:=X) (pins:=pins) (σ:=σ) (H:=H) (show X.A.in1.handled=none from I.ok.hd hc) pl.isList λs₂ e W st=>?_);subst e;refine⟨_,_,_,_,_,_,λi=>bs.getD i false,rfl,W,st,Yr2 _ _ _ bs,λh' tk k=>⟨.bl _,H,(show Inv X pins σ H { s with heap:=h',toks:=tk } from Ykk I k),?_,q⟩⟩;show Value.bool _=Value.bool _;rw[qk,qf,y02]
def anyC:AR->Option D
 | [.lst l]=>(blsD l).map λbs=>.bl (bs.any id)
 | _=>none
def allC:AR->Option D
 | [.lst l]=>(blsD l).map λbs=>.bl (bs.all id)
 | _=>none
def y04{gd:AJ->D}(hm:∀ds d,m ds=some d->∃l bs,ds=[.lst l]/\blsD l=some bs/\d=gd bs)(hg:∀G bs,Rp K G (gd bs) (g bs)):SemC K (rBls g) m:=by
 intro vs ds d H G Q h s r q;obtain⟨l,bs,rfl,h1,rfl⟩:=hm ds d h;obtain⟨v,rfl,rv⟩:=Yc5 r;rw[Ct]at rv;obtain⟨a,xs,rfl,g',rl⟩:=rv;cases Yr1 h1;cases y00 rl;exact⟨a,bs,rfl,g',q _ H G (.refl s) (hg G bs)⟩
theorem Yul:SemC K (rBls λbs=>.bl (bs.any id)) anyC:=y04 (gd:=λbs=>.bl (bs.any id)) (λds d h=>by
 unfold anyC at h
 split at h
 ·obtain⟨bs,h1,rfl⟩:=qc h
  grind
 ·cases h) λG bs=>by rw[Rp]
theorem y9q:SemC K (rBls λbs=>.bl (bs.all id)) allC:=y04 (gd:=λbs=>.bl (bs.all id)) (λds d h=>by
 unfold allC at h
 split at h
 ·obtain⟨bs,h1,rfl⟩:=qc h
  grind
 ·cases h) λG bs=>by rw[Rp]
end
end
section
variable {K:W7}
section
variable {prog:P7}{w:World}{A:Around}{E:AB}{s:Shared}
def Yjy(hit:s.heap.IsTupleIter it t i)(ht:s.heap.IsTuple t items)(hx:items[i]?=some x)(hQ:∀h',h'.IsTupleIter it t (i+1)->Heap.SameBut it s.heap h'->Q x { s with heap:=h' }):
 wpAny (mZ prog w) A (Builtin.SmallTypes.nextOf (.ref it)) Q E s:=by
 obtain⟨o,ho,hc,hd⟩:=id hit;obtain⟨ol,hol,_,nl,hdl⟩:=ht;unfold Builtin.SmallTypes.nextOf
 refine wa (wpAny_callSpecial?_slot (name:=Str.ofString "__next__") hit.typeIs F.slot_tuple_iterator_next
  (we F.slot_tuple_iterator_next hit.typeIs F.entry_tuple_iterator_next ?_ (F.args_tuple_iterator_next_1 _)))
 show wpAny _ _ (field (.ref it) 0>>=_) _ _ s;refine wa (wpAny_field ho hd (x:=.ref t) rfl ?_);show wpAny _ _ (if (Value.ref t==Value.none)=true then _ else _) _ _ s;rw[if_neg (show ¬((Value.ref t==Value.none)=true) from qi)];show wpAny _ _ (field (.ref it) 1>>=_) _ _ s;refine wa (wpAny_field ho hd (x:=.int i 0) rfl ?_);show wpAny _ _ (seqItems? (.ref t)>>=_) _ _ s;refine wa (wpAny_seqItems hol hdl ?_);simp only[w9,hx];refine wa (wpAny_setField ho hd (by simp) (wb ⟨x,rfl,wb (hQ _ ?_ (wv ..))⟩))
 exact⟨_,wy _ ho (Obj.isFreed_of_fields (jg hd _)),(Obj.cls_mapFields ..).trans hc,by
  rw[jg hd];simp[rawInt]⟩
def Ykr(hh:A.handled=none)(hit:s.heap.IsTupleIter it l i)(hl:s.heap.IsTuple l items)(hx:items[i]?=none)(hE:∀h' e,Heap.ExtBut it s.heap h'->(∃o,h'.get? e=some o/\o.cls=.type "StopIteration")->E (.ref e) { s with heap:=h' }):
 wpAny (mZ prog w) A (Builtin.SmallTypes.nextOf (.ref it)) Q E s:=by
 obtain⟨o,ho,hc,hd⟩:=id hit;obtain⟨ol,hol,_,nl,hdl⟩:=hl;unfold Builtin.SmallTypes.nextOf
 refine wa (wpAny_callSpecial?_slot (name:=Str.ofString "__next__") hit.typeIs F.slot_tuple_iterator_next
  (we F.slot_tuple_iterator_next hit.typeIs F.entry_tuple_iterator_next ?_ (F.args_tuple_iterator_next_1 _)))
 show wpAny _ _ (field (.ref it) 0>>=_) _ _ s;refine wa (wpAny_field ho hd (x:=.ref l) rfl ?_);show wpAny _ _ (if (Value.ref l==Value.none)=true then _ else _) _ _ s;rw[if_neg (show ¬((Value.ref l==Value.none)=true) from qi)];show wpAny _ _ (field (.ref it) 1>>=_) _ _ s;refine wa (wpAny_field ho hd (x:=.int i 0) rfl ?_);show wpAny _ _ (seqItems? (.ref l)>>=_) _ _ s;refine wa (wpAny_seqItems hol hdl ?_);simp only[w9,hx];refine wa (wpAny_rule (wa (wpAny_setField ho hd (by simp) ?_)));show wpAny _ _ (newExc (.type "StopIteration") []>>=_) _ _ _;refine wa ?_;simp only[newExc,newTuple];refine wa (wg ?_ (by size_fits));refine wa (m:=firstArgMember _ _) (wpAny_of_eq (a:=Value.none) (by first|rfl|(simp only[firstArgMember];rfl)) ?_);refine wg ?_ (by size_fits);simp only[raiseNew];refine wa (wpAny_handled ?_)
 first|rw[show A.in1.handled=none from hh]|rw[hh]
 refine wa (wb (wpAny_throw ?_));exact hE _ _ (((wv ..).extBut.push _).push _) ⟨_,qp _ rfl,rfl⟩
def Yl5{i:Nat}{Q:AB}(he:IsEnum s.heap e it i old)(hit:s.heap.IsTupleIter it l i)(hl:s.heap.IsTuple l items)(hx:items[i]?=some x)(hne:e≠it)(hQ:∀h',IsEnumOut h' e it ((i:Int)+1) x (~~~s)->h'.IsTupleIter it l (i+1)->
  h'.get? (~~~s)=some { cls:=.type "tuple",data:=.seq #[.int i s.toks,x] }->h'.objs.size= ~~~s+1->
  (∀b o,b≠e->b≠it->s.heap.get? b=some o->h'.get? b=some o)->Q (.ref (~~~s)) { s with heap:=h',toks:=s.toks+1 }):
 wpAny (mZ prog w) A (Builtin.«enumerate.__next__» ⟨[.ref e],[]⟩) (λfin s'=>∃v,fin=.done (.ret v)/\Q v s') E s:=by
 obtain⟨hp,g,d,tk,os⟩:=s;show wpAny _ _ (field (.ref e) 2>>=_) _ _ _;refine wa (wpAny_field he rfl (x:=.ref it) rfl ?_);refine wa (Yjy hit hl hx λh₁ hit₁ hs₁=>?_);replace hs₁:Heap.SameBut it hp h₁:=hs₁;have he₁:IsEnum h₁ e it i old:=(hs₁.2 e hne).trans he;show wpAny _ _ (field (.ref e) 3>>=_) _ _ ⟨h₁,g,d,tk,os⟩;refine wa (wpAny_field he₁ rfl (x:=rawInt i) rfl ?_);show wpAny _ _ (field (.ref e) 4>>=_) _ _ ⟨h₁,g,d,tk,os⟩;refine wa (wpAny_field he₁ rfl (x:=.none) rfl ?_);show wpAny _ _ (mkInt i>>=_) _ _ ⟨h₁,g,d,tk,os⟩;refine wa (wpAny_mkInt ?_);show wpAny _ _ (setField (.ref e) 3 (rawInt ((i:Int)+1))>>=_) _ _ ⟨h₁,g,d,tk+1,os⟩;refine wa (wpAny_setField_rec he₁ (by simp) λh₂ he₂ hs₂=>?_);replace hs₂:Heap.SameBut e h₁ h₂:=hs₂;replace he₂:IsEnum h₂ e it ((i:Int)+1) old:=he₂;show wpAny _ _ (setField (.ref e) 4 .none>>=_) _ _ ⟨h₂,g,d,tk+1,os⟩;refine wa (wpAny_setField_rec he₂ (by simp) λh₃ he₃ hs₃=>?_);replace hs₃:Heap.SameBut e h₂ h₃:=hs₃;replace he₃:IsEnum h₃ e it ((i:Int)+1) old:=he₃;show wpAny _ _ (newTuple [.int i tk,x]>>=_) _ _ ⟨h₃,g,d,tk+1,os⟩;refine wa (wpAny_newTuple ?_);have he₄:IsEnum (h₃.push { cls:=.type "tuple",data:=.seq #[.int i tk,x] }) e it ((i:Int)+1) old:=qe _ he₃;generalize hh₄:h₃.push { cls:=.type "tuple",data:=.seq #[.int i tk,x] }=h₄ at he₄
 have hsz:h₃.objs.size=hp.objs.size:=by rw[hs₃.1,hs₂.1,hs₁.1]
 have hel:e<hp.objs.size:=ql he
 have ht₄:h₄.get? hp.objs.size=some { cls:=.type "tuple",data:=.seq #[.int i tk,x] }:=by rw[<-hh₄,<-hsz];exact qp _ rfl
 have hz₄:h₄.objs.size=hp.objs.size+1:=by rw[<-hh₄,ww,hsz]
 have hk₄:∀b o,b≠e->b≠it->hp.get? b=some o->h₄.get? b=some o:=λb o hbe hbi hb=>by
  rw[<-hh₄];exact qe _ (hs₃.extBut b o hbe (hs₂.extBut b o hbe (hs₁.extBut b o hbi hb)))
 have hit₄:h₄.IsTupleIter it l (i+1):=by
  rw[<-hh₄];obtain⟨o,ho,r⟩:=(hit₁.at λo q=>hs₃.extBut it o (Ne.symm hne) (hs₂.extBut it o (Ne.symm hne) q));exact⟨o,qe _ ho,r⟩
 show wpAny _ _ (Builtin.SmallTypes.ownedTupleIsFree (.ref e)>>=_) _ _ ⟨h₄,g,d,tk+1,os⟩;rw[hsz];clear hh₄ he₃ hs₃ he₂ hs₂ he₁ hs₁ hit₁ hsz h₃ h₂ h₁;refine wa ?_
 ·unfold Builtin.SmallTypes.ownedTupleIsFree
  refine wa (wpAny_field he₄ rfl (x:=.none) rfl (wb ?_));simp only[if_true];refine wa (wpAny_rule ?_);refine wa (wpAny_field he₄ rfl (x:=old) rfl ?_);refine wa (wpAny_setField_rec he₄ (by simp) λh₅ he₅ hs₅=>?_);replace hs₅:Heap.SameBut e h₄ h₅:=hs₅;replace he₅:IsEnum h₅ e it ((i:Int)+1) x:=he₅;show wpAny _ _ (Builtin.SmallTypes.ownedTupleHandOut (.ref e) (.ref hp.objs.size)>>=_) _ _ ⟨h₅,g,d,tk+1,os⟩;refine wa ?_
  ·unfold Builtin.SmallTypes.ownedTupleHandOut
   refine wa (wpAny_setField_rec he₅ (by simp) λh₆ he₆ hs₆=>?_);replace hs₆:Heap.SameBut e h₅ h₆:=hs₆;replace he₆:IsEnumOut h₆ e it ((i:Int)+1) x hp.objs.size:=he₆;refine wpAny_setField_rec he₆ (by simp) λh₇ he₇ hs₇=>?_;replace hs₇:Heap.SameBut e h₆ h₇:=hs₇;replace he₇:IsEnumOut h₇ e it ((i:Int)+1) x hp.objs.size:=he₇;refine wa (wpAny_letGo (wb ⟨_,rfl,hQ h₇ he₇ ?_ ?_ ?_ ?_⟩))
   ·exact hit₄.at λo q=>hs₇.extBut it o (Ne.symm hne) (hs₆.extBut it o (Ne.symm hne) (hs₅.extBut it o (Ne.symm hne) q))
   ·exact hs₇.extBut _ _ (Nat.ne_of_gt hel) (hs₆.extBut _ _ (Nat.ne_of_gt hel) (hs₅.extBut _ _ (Nat.ne_of_gt hel) ht₄))
   ·rw[hs₇.1,hs₆.1,hs₅.1,hz₄]
   ·exact λb o hbe hbi hb=>hs₇.extBut b o hbe (hs₆.extBut b o hbe (hs₅.extBut b o hbe (hk₄ b o hbe hbi hb)))
def Yjz{i:Nat}(he:IsEnum s.heap e it i old)(hit:s.heap.IsTupleIter it l i)(hl:s.heap.IsTuple l items)(hx:items[i]?=some x)(hne:e≠it)(hQ:∀h',IsEnumOut h' e it ((i:Int)+1) x (~~~s)->h'.IsTupleIter it l (i+1)->
  h'.get? (~~~s)=some { cls:=.type "tuple",data:=.seq #[.int i s.toks,x] }->h'.objs.size= ~~~s+1->
  (∀b o,b≠e->b≠it->s.heap.get? b=some o->h'.get? b=some o)->Q (some (.ref (~~~s))) { s with heap:=h',toks:=s.toks+1 }):
 wpAny (mZ prog w) A (pyNext (.ref e)) Q E s:=by
 have hT:s.TypeIs (.ref e) "enumerate":=⟨_,he,rfl⟩
 unfold pyNext
 exact wa (jh (wpAny_callSpecial?_slot (name:=Str.ofString "__next__") hT F.slot_enumerate_next
  (we F.slot_enumerate_next hT F.entry_enumerate_next
   (Yl5 he hit hl hx hne λh' a b c d k=>wb (hQ h' a b c d k)) (F.args_enumerate_next_1 _))))
def Yks{i:Nat}(hh:A.handled=none)(he:IsEnum s.heap e it i old)(hit:s.heap.IsTupleIter it l i)(hl:s.heap.IsTuple l items)(hx:items[i]?=none)(hQ:∀h',Heap.ExtBut it s.heap h'->Q none { s with heap:=h' }):wpAny (mZ prog w) A (pyNext (.ref e)) Q E s:=by
 have hT:s.TypeIs (.ref e) "enumerate":=⟨_,he,rfl⟩
 unfold pyNext
 refine wa (jh (wpAny_callSpecial?_slot (name:=Str.ofString "__next__") hT F.slot_enumerate_next
  (we F.slot_enumerate_next hT F.entry_enumerate_next ?_ (F.args_enumerate_next_1 _))))
 show wpAny _ _ (field (.ref e) 2>>=_) _ _ _;refine wa (wpAny_field he rfl (x:=.ref it) rfl ?_);refine wa (Ykr hh hit hl hx λh' x he' hx'=>?_);obtain⟨o,ho,hc⟩:=hx';refine wa (wpAny_isInstance (T:="StopIteration") (b:=true) ⟨o,ho,hc⟩ isSubtype_stop ?_);exact wb (hQ _ he')
def Yl6(l:Addr)(items:Array Value)(n:Nat)(dct:Option Addr)(sl:Array (Option Value)):
 Meets (Builtin.«enumerate.__new__» ⟨[.type "enumerate",.ref l],[]⟩) (λ_ R s=>s.heap.get? l=some { cls:=.type "tuple",dict:=dct,data:=.seq items n,slots:=sl }/\
  R (.ok (.ret (.ref (s.heap.push { cls:=.type "tuple_iterator",data:=.fields #[.ref l,.int 0 0] }).objs.size)))
   { s with heap:=(s.heap.push { cls:=.type "tuple_iterator",data:=.fields #[.ref l,.int 0 0] }).push { cls:=.type "enumerate",data:=.fields #[.none,.bool false,.ref (~~~s),rawInt 0,.none,.none] } }):=
 .of_wp λprog w A R s h=>by
  obtain⟨hp,g,d,tk,os⟩:=s;obtain⟨hl,h⟩:=h;have hsub:=sub_enumerate
  have hL:Heap.IsTuple (Shared.heap ⟨hp,g,d,tk,os⟩) l items:=⟨_,hl,rfl,n,rfl⟩
  wp_walk using PySem.AutoSeq1.wpAny_loadPart' hl
  refine wpAny_stack_any λst=>wb ?_
  split
  ·rename_i c _ _ _ _ _
   cases (c==Value.type "enumerate")
   ·wp_walk using PySem.AutoSeq1.wpAny_loadPart' hl,wpAny_pyIter_tuple hL
    exact⟨_,rfl,h⟩
   ·wp_walk using PySem.AutoSeq1.wpAny_loadPart' hl,wpAny_pyIter_tuple hL
    exact⟨_,rfl,h⟩
  ·wp_walk using PySem.AutoSeq1.wpAny_loadPart' hl,wpAny_pyIter_tuple hL
   exact⟨_,rfl,h⟩
theorem Yhm(hL:s.heap.IsTuple l items)(h:∀h',IsEnum h' (~~~s+1) (~~~s) 0 .none->h'.IsTupleIter (~~~s) l 0->h'.objs.size= ~~~s+2->
  (∀b o,s.heap.get? b=some o->h'.get? b=some o)->Q (.ref (~~~s+1)) { s with heap:=h' }):
 wpAny (mZ prog w) A (call (.type "enumerate") [.ref l]) Q E s:=by
 obtain⟨⟨c,dct,dt,sl⟩,hl,hc,n,hd⟩:=hL;replace hc:c=.type "tuple":=hc;replace hd:dt=.seq items n:=hd;subst hc hd
 refine callType_new F.called_enumerate (by decide) (F.typeCall_enumerate_1 _) (F.newCall_enumerate_1 _) (λobj=>F.args_object_init_2 obj _) F.entry_enumerate_new
  (Yl6 l items n dct sl) ⟨hl,?_⟩
 have hz:(s.heap.push { cls:=.type "tuple_iterator",data:=.fields #[.ref l,.int 0 0] }).objs.size= ~~~s+1:=ww ..;show _/\_;rw[hz]
 have he:IsEnum ((s.heap.push { cls:=.type "tuple_iterator",data:=.fields #[.ref l,.int 0 0] }).push
  { cls:=.type "enumerate",data:=.fields #[.none,.bool false,.ref (~~~s),rawInt 0,.none,.none] }) (~~~s+1) (~~~s) 0 .none:=by
  have:=qp (s.heap.push { cls:=.type "tuple_iterator",data:=.fields #[.ref l,.int 0 0] })
   (o:={ cls:=.type "enumerate",data:=.fields #[.none,.bool false,.ref (~~~s),rawInt 0,.none,.none] }) rfl
  grind
 refine⟨⟨_,he,rfl⟩,h _ he ⟨_,qe _ (qp _ rfl),rfl,rfl⟩ (by simp_all) λb o x=>qe _ (qe _ x)⟩
end
theorem Yis{σ:L2.St}{ch:List Addr}{T:Addr}(I:Inv X pins σ H s)(hf:∀b∈ch,FpOk X pins H b)(k:∀b u,b∉ch->s.heap.get? b=some u->h'.get? b=some u)(hT:(~~~s)<=T)(new:ObjOk X.prog X.w (upd H T o) h' T o):Inv X pins σ (upd H T o) { s with heap:=h',toks:=t' }:=by
 have fr:H T=none:=I.hok.fresh hT
 have nch:∀b u,H b=some u->b∉ch:=λb u e z=>by rw[(hf b z).1]at e;cases e
 refine I.step (g':=s.gens) (d':=s.drawn) (ch:=ch) (λb hb=>?_) (λb u _ _ hc e _=>k b u hc e) (λb u _ _ hc e _=>⟨u.slots,k b u hc e⟩) (λb u _ e n=>?_)
  (λb u hc e=>⟨u,k b u hc e⟩) (λb xs e=>?_) (λb u xs e=>?_) (λb ps e=>⟨#[],?_⟩) (λm hm=>?_) (λb u e=>?_) I.bare
 ·obtain⟨_,f1,_,f3,f4,f5⟩:=hf b hb
  grind
 ·rw[Yaa (qm (Qc (ql e) hT))];exact n
 ·rw[Yaa (Yz e fr)];exact e
 ·rw[Yaa (Yz e fr)];exact e
 ·rw[Yaa (Yz e fr),e];simp
 ·obtain⟨ob,es,ep,ho,r⟩:=hm
  exact⟨ob,es,ep,k _ ob (λz=>(hf _ z).2.1 rfl) ho,r⟩
 ·by_cases hb:b=T
  ·subst hb;rw[Yu]at e;grind
  ·rw[Yaa hb]at e
   refine(I.hok b u e).stay (λc v hc q=>k c v ?_ q) (λc q=>by rw[Yaa (Yz q fr)];exact q) λc xs q=>by rw[Yaa (Yz q fr)];exact q
   grind
def IteL(K:W7)(a:Addr):It:=
 ⟨λi H=>∃xs x,SqL K H a xs/\xs[i]?=some x,λi H x H'=>∃y p,(∀xs,SqL K H a xs->xs[i]?=some y)/\H p=none/\x=.ref p/\H'=upd H p (.tup [.int i,y]),λi H=>∃xs,SqL K H a xs/\xs.length<=i⟩
def IteT(K:W7)(a:Addr):It:=
 ⟨λi H=>∃xs x,SqT K H a xs/\xs[i]?=some x,λi H x H'=>∃y p,(∀xs,SqT K H a xs->xs[i]?=some y)/\H p=none/\x=.ref p/\H'=upd H p (.tup [.int i,y]),λi H=>∃xs,SqT K H a xs/\xs.length<=i⟩
section
variable {elts:AM}{x1:Nat}{pt:Pos}
theorem Yyb(a it e:Addr)(hei:e≠it):Turn P w K (.Tuple elts x1 pt) (IteL K a) [e,it] e (λi h=>(∃old,IsEnum h e it i old)/\h.IsListIter it a i) where
 mem:=by simp
 obj:=λi h st b hb=>by
  obtain⟨⟨old,he⟩,hit⟩:=st;rcases qt hb with rfl|hb
  ·grind
  ·have z:b=it:=by grind
   subst z;obtain⟨o,q,c,d⟩:=hit;grind
 keep:=λi h h' st k=>by
  obtain⟨⟨old,he⟩,hit⟩:=st;exact⟨⟨old,k e (by simp) _ he⟩,hit.at λo q=>k it (by simp) o q⟩
 item:=by
  intro X hP hw hK hc i pins s σ H E I hf st hg;subst hP hw hK;obtain⟨xs,x,hq,hx⟩:=hg;obtain⟨its,rv,p,hz⟩:=I.list hq;obtain⟨u,hu,ru⟩:=rv.get hx;obtain⟨⟨old,he⟩,hit⟩:=st;refine wpAny_pyNext_enum_item he hit p.isList (x:=u) (by grind) hei λh' ho hit' hT hsz hk=>?_;refine⟨_,rfl,wpAny_letOwnedTupleGo_enum ho λh2 he2 hs2=>?_⟩;have fr:H (~~~s)=none:=I.fresh
  have hne:∀b∈[e,it],b≠(~~~s):=λb hb z=>by
   rcases qt hb with rfl|hb
   ·grind
   ·have z2:b=it:=by grind
    subst z2;obtain⟨o,q,_⟩:=hit;exact absurd (ql q) (by grind)
  have kk:∀b o,b∉[e,it]->s.heap.get? b=some o->h2.get? b=some o:=λb o hb q=>by
   have h1:b≠e:=λz=>hb (by simp[z]);have h3:b≠it:=λz=>hb (by simp[z]);exact(hs2.2 b h1).trans (hk b o h1 h3 q)
  have tT:h2.get? (~~~s)=some { cls:=.type "tuple",data:=.seq #[.int i s.toks,u] }:=(hs2.2 _ (Ne.symm (hne e (by simp)))).trans hT;refine⟨.ref (~~~s),upd H (~~~s) (.tup [.int i,x]),(show Inv X pins σ _ { s with heap:=h2,toks:=s.toks+1 } from Yis (s:=s) (t':=s.toks+1) I hf kk (qu _) ?_),rfl,⟨x,~~~s,λys hy=>by rw[I.list_inj hy hq];exact hx,fr,rfl,rfl⟩,⟨⟨_,by simpa using he2⟩,hit'.at λo q=>(hs2.2 it (Ne.symm hei)).trans q⟩,λb hb=>?_⟩
  ·exact⟨by rw[ji];grind,[.int i s.toks,u],.cons ⟨_,rfl⟩ (.cons ru .nil),_,tT,rfl,0,rfl⟩
  ·rw[Yaa (hne b hb)];exact(hf b hb).1
 done:=by
  intro X hP hw hK hc i pins s σ H E I hf st hg;subst hP hw hK;obtain⟨xs,hq,hx⟩:=hg;obtain⟨its,rv,p,hz⟩:=I.list hq;obtain⟨⟨old,he⟩,hit⟩:=st;obtain⟨f0,f1,f2,f3,f4,f5⟩:=hf it (by simp);have hl:=rv.length
  exact wpAny_pyNext_enum_end (I.ok.hd hc) he hit p.isList (by simp;lia) λh' eb=>⟨rfl,I.turned (t':=s.toks) (λb o hb e=>eb b o hb e) f0 f1 f3 f4 f5⟩
 self:=λ_ _ _ _ _ st h=>let ⟨⟨_,he⟩,_⟩:=st;wpAny_pyIter_enum he h
theorem Yyc(a it e:Addr)(hei:e≠it):Turn P w K (.Tuple elts x1 pt) (IteT K a) [e,it] e (λi h=>(∃old,IsEnum h e it i old)/\h.IsTupleIter it a i) where
 mem:=by simp
 obj:=λi h st b hb=>by
  obtain⟨⟨old,he⟩,hit⟩:=st;rcases qt hb with rfl|hb
  ·grind
  ·have z:b=it:=by grind
   subst z;obtain⟨o,q,c,d⟩:=hit;grind
 keep:=λi h h' st k=>by
  obtain⟨⟨old,he⟩,hit⟩:=st;exact⟨⟨old,k e (by simp) _ he⟩,hit.at λo q=>k it (by simp) o q⟩
 item:=by
  intro X hP hw hK hc i pins s σ H E I hf st hg;subst hP hw hK;obtain⟨xs,x,hq,hx⟩:=hg;obtain⟨its,rv,p,hz⟩:=I.tuple hq;obtain⟨u,hu,ru⟩:=rv.get hx;obtain⟨⟨old,he⟩,hit⟩:=st;refine Yjz he hit (show s.heap.IsTuple a its.toArray from p) (x:=u) (by grind) hei λh' ho hit' hT hsz hk=>?_;refine⟨_,rfl,wpAny_letOwnedTupleGo_enum ho λh2 he2 hs2=>?_⟩;have fr:H (~~~s)=none:=I.fresh
  have hne:∀b∈[e,it],b≠(~~~s):=λb hb z=>by
   rcases qt hb with rfl|hb
   ·grind
   ·have z2:b=it:=by grind
    subst z2;obtain⟨o,q,_⟩:=hit;exact absurd (ql q) (by grind)
  have kk:∀b o,b∉[e,it]->s.heap.get? b=some o->h2.get? b=some o:=λb o hb q=>by
   have h1:b≠e:=λz=>hb (by simp[z]);have h3:b≠it:=λz=>hb (by simp[z]);exact(hs2.2 b h1).trans (hk b o h1 h3 q)
  have tT:h2.get? (~~~s)=some { cls:=.type "tuple",data:=.seq #[.int i s.toks,u] }:=(hs2.2 _ (Ne.symm (hne e (by simp)))).trans hT;refine⟨.ref (~~~s),upd H (~~~s) (.tup [.int i,x]),(show Inv X pins σ _ { s with heap:=h2,toks:=s.toks+1 } from Yis (s:=s) (t':=s.toks+1) I hf kk (qu _) ?_),rfl,⟨x,~~~s,λys hy=>by rw[I.tuple_inj hy hq];exact hx,fr,rfl,rfl⟩,⟨⟨_,by simpa using he2⟩,hit'.at λo q=>(hs2.2 it (Ne.symm hei)).trans q⟩,λb hb=>?_⟩
  ·exact⟨by rw[ji];grind,[.int i s.toks,u],.cons ⟨_,rfl⟩ (.cons ru .nil),_,tT,rfl,0,rfl⟩
  ·rw[Yaa (hne b hb)];exact(hf b hb).1
 done:=by
  intro X hP hw hK hc i pins s σ H E I hf st hg;subst hP hw hK;obtain⟨xs,hq,hx⟩:=hg;obtain⟨its,rv,p,hz⟩:=I.tuple hq;obtain⟨⟨old,he⟩,hit⟩:=st;obtain⟨f0,f1,f2,f3,f4,f5⟩:=hf it (by simp);have hl:=rv.length
  exact Yks (I.ok.hd hc) he hit (show s.heap.IsTuple a its.toArray from p) (by simp;lia) λh' eb=>⟨rfl,I.turned (t':=s.toks) (λb o hb e=>eb b o hb e) f0 f1 f3 f4 f5⟩
 self:=λ_ _ _ _ _ st h=>let ⟨⟨_,he⟩,_⟩:=st;wpAny_pyIter_enum he h
variable {X:Cx}{pos:Pos}
def Yagk(K:W7)(ta:TA):TI:=λσ H R=>ta σ H λvs H1=>∃a xs,vs=[.ref a]/\((SqL K H1 a xs/\(xs.length<=sizeLine->R (IteL K a) H1))\/(SqT K H1 a xs/\(xs.length<=sizeLine->R (IteT K a) H1)))
theorem y9r(hg:Gl X "enumerate")(hm:X.mg "enumerate"=none)(ha:PA X [l] ta)(hs:starEach [l] X.env=[(false,eval l X.env)]:=by rfl):PI X (.Tuple elts x1 pt) (.Call (.Name "enumerate" p) [l] [] pos) (Yagk X.K ta):=by
 intro pins s σ H R I h;refine Call_ (Ykg I hg hm boot_enumerate (PyProof.Rows.callWith_type1 (thn (ha pos pins s σ H _ I h) λus s1 hx_=>?_) hs rfl));obtain⟨vs,H1,I1,r1,q1⟩:=hx_;obtain⟨a,xs,rfl,q⟩:=q1;obtain⟨u,rfl,ru⟩:=Yhj r1;cases ru
 have fin:∀(h':Heap),h'.objs.size= ~~~s1+2->(∀b o,s1.heap.get? b=some o->h'.get? b=some o)->∀b∈[~~~s1+1,~~~s1],FpOk X pins H1 b:=λh' hz hk b hb=>by
  have hb':(~~~s1)<=b:=by
   grind
  exact I1.fpOk hb' (I1.hok.fresh hb')
 rcases q with⟨hq,q⟩|⟨hq,q⟩
 ·obtain⟨its,rv,pl,hz⟩:=I1.list hq
  refine call_enumerate_list pl.isList λh' he hit hsz hk=>wpAny_pyIter_enum (s:={ s1 with heap:=h' }) he ?_;exact⟨_,[~~~s1+1,~~~s1],_,_,H1,rfl,I1.kept (t':=s1.toks) hk,Yyb a (~~~s1) _ (Nat.succ_ne_self _),⟨⟨_,he⟩,hit⟩,fin h' hsz hk,q hz⟩
 ·obtain⟨its,rv,pl,hz⟩:=I1.tuple hq
  refine Yhm (show s1.heap.IsTuple a its.toArray from pl) λh' he hit hsz hk=>wpAny_pyIter_enum (s:={ s1 with heap:=h' }) he ?_;exact⟨_,[~~~s1+1,~~~s1],_,_,H1,rfl,I1.kept (t':=s1.toks) hk,Yyc a (~~~s1) _ (Nat.succ_ne_self _),⟨⟨_,he⟩,hit⟩,fin h' hsz hk,q hz⟩
def Yl7(l:AR):AR:=(List.range l.length).map λi:Nat=>.tup [.int (i:Int),l.getD i .non]
def Yl8(c:D):Option AR:=(Yn c).map Yl7
theorem Yl9{i:Nat}(h:(Yl7 l)[i]?=some d):∃e,l[i]?=some e/\d=.tup [.int i,e]:=by
 unfold Yl7 at h;grind
def Yci(l:AR):(Yl7 l).length=l.length:=by simp[Yl7]
def Gr.newTup(s:Same G H)(hp:H p=none)(i:Nat)(r:Rp K G d x):∃G3,Gr H G (upd H p (.tup [.int i,x])) G3/\Rp K G3 (.tup [.int i,d]) (.ref p):=by
 refine⟨_,Gr.new s hp (.tup [.int i,x]),?_⟩;rw[Rp];exact⟨p,_,rfl,Yu,.cons (by rw[Rp]) (.one (r.mono (Gr.new s hp _).g))⟩
end
end
section
variable {K:W7}
def Ynn(k:Int):Value->Bool
 | .int i _=>i==k
 | .bool b=>(if b then 1 else 0)==k
 | _=>false
theorem Yc7(h:Ynn k v=true):(∃t,v=.int k t)\/∃b:Bool,v=.bool b/\k=if b then 1 else 0:=by
 cases v with
 | int i t=>
   have e:i=k:=by simpa [Ynn]using h
   grind
 | bool b=>
   have e:(if b then (1:Int)else 0)=k:=by simpa [Ynn]using h
   grind
 | _=>simp[Ynn]at h
theorem Yum(h:Q (hashInt (if b then 1 else 0)) { s with toks:=s.toks+1 }):
 wpAny (mZ prog w) A (pyHash (.bool b)) Q E s:=by
 have hr:=rawHash_range (if b then 1 else 0);have hT:s.TypeIs (.bool b) "bool":=rfl;unfold pyHash
 first|unfold pyHashByItsType|skip
 have hv:[Value.bool b].any Value.onHeap=false:=rfl;refine wa ?_;rw[cRoomFor,if_neg (by grind)];refine wb ?_;refine wa (wpAny_specialOf hT F.slot_bool_hash.lookup ?_);show wpAny _ _ (if (some (Value.builtin "int.__hash__")==some Value.none)=true then _ else _) Q E s;rw[if_neg (by grind)];refine wa (wpAny_specialOf hT F.slot_bool_hash.lookup ?_);show wpAny _ _ (callSpecialIfBoundUnlessNone? (.bool b) "__hash__" _>>=_) Q E s
 refine wa (wpAny_callSpecialIfBoundUnlessNone?_slot hT F.slot_bool_hash
  (we F.slot_bool_hash hT entry_int_hash
   (show wpAny _ _ (do ret (<-mkInt (rawHash (if b then 1 else 0)))) _ _ s from wpAny_ret_mkInt ?_) (args_int_hash _)))
 show wpAny _ _ (if (decide (-(2:Int)^63<=rawHash (if b then 1 else 0))&&decide (rawHash (if b then 1 else 0)<2^63))=true then _ else _) Q E _;rw[if_pos (by grind)];exact wb h
def Yax(prog:P7)(w:World):KeyKind prog w Int where
 is:=Ynn
 hash:=hashInt
 inj:=λv a b ha hb=>by
  rcases Yc7 ha with⟨t,rfl⟩|⟨c,rfl,rfl⟩
  ·have e:a=b:=by simpa [Ynn]using hb
   exact e
  ·have e:(if c then (1:Int)else 0)=b:=by simpa [Ynn]using hb
   exact e
 byValue:=λk v h=>by
  rcases Yc7 h with⟨t,rfl⟩|⟨c,rfl,rfl⟩<;>rfl
 pyHash:=λhv h=>by
  rcases Yc7 hv with⟨t,rfl⟩|⟨c,rfl,rfl⟩
  ·exact wpAny_pyHash_int h
  ·exact Yum h
 eqBool:=λ{A E s a b u v Q} hu hv h=>by
  rcases Yc7 hu with⟨t,rfl⟩|⟨c,rfl,rfl⟩
  ·rcases Yc7 hv with⟨t',rfl⟩|⟨c',rfl,rfl⟩
   ·exact wpAny_eqBool_int (by grind)
   ·exact SeqAt.EqAt.int_bool a t c' _ _ _ _ (by grind)
  ·rcases Yc7 hv with⟨t',rfl⟩|⟨c',rfl,rfl⟩
   ·exact SeqAt.EqAt.bool_int c b t' _ _ _ _ (by grind)
   ·refine SeqAt.EqAt.bool_bool c c' _ _ _ _ ?_
    have e:(c==c')=decide ((if c=true then (1:Int)else 0)=if c'=true then 1 else 0):=by grind
    grind
 «strs»:=λk x t v h=>by simp[Ynn]at h
def Yadv(h:numV x=some i)(r:RelV x u):(Yax P w).is i u=true:=by
 cases x<;>simp[numV]at h
 ·subst h
  cases (show u=Value.bool _ from r);simp[Yax,Ynn]
 ·subst h
  obtain⟨t,rfl⟩:=(show ∃t,u=Value.int _ t from r)
  simp[Yax,Ynn]
theorem Ywp:∀{xs:AQ}{ks:AH}{us:AD},Yfl xs=some ks->Vals xs us->ItemsAre (Yax P w) ks us
 | [],ks,us,h,r=>by
   cases h;cases r;exact .nil
 | x::xs,ks,us,h,r=>by
   rw[Yfl]at h;obtain⟨i,h1,h⟩:=qa h;obtain⟨l,h2,rfl⟩:=qc h
   cases r with
   | cons r1 r2=>exact .cons (Yadv h1 r1) (Ywp h2 r2)
def Yh8(ok:HOk P w H h)(e:H b=some (.tup ys))(n:Yfl ys=some ks):(tupleKind (Yax P w)).is h ks b:=by
 obtain⟨_,its,r,o,h1,h2,k,h3⟩:=(show ObjOk P w H h b (.tup ys) from ok b _ e)
 exact⟨o,its.toArray,k,h1,h2,h3,by simpa using Ywp n r⟩
abbrev zipX(nks:List (List Int×Addr))(us:AD):List (List Int×Addr×Value):=(nks.zip us).map λp=>(p.1.1,p.1.2,p.2)
theorem y05(h:us.length=nks.length):(zipX nks us).map (·.1)=nks.map (·.1):=by
 unfold zipX;rw[Qd];have e:((λx:List Int×Addr×Value=>x.1) ∘ λp:(List Int×Addr)×Value=>(p.1.1,p.1.2,p.2))=λp=>p.1.1:=rfl;rw[e]
 have:nks=(nks.zip us).map (·.1):=by rw[List.map_fst_zip (by lia)]
 conv=>rhs;rw[this]
 simp
def Yadw(ok:HOk P w H h)(sm:Same G H)(e:H a=some (dTo a nks vxs ep))(hl:nks.length=vxs.length)(hn:(nks.map (·.1)).Nodup)(hk:∀p∈nks,∃ys,G p.2=some (.tup ys)/\Yfl ys=some p.1):(a==sysModules)=false/\∃us,Vals vxs us/\us.length=nks.length/\h.DictOfH (tupleKind (Yax P w)) a (zipX nks us):=by
 obtain⟨⟨hs,us,o,es,r,h1,h2,h3,h4⟩,_⟩:=(show ObjOk P w H h a (dTo a nks vxs ep) from ok a _ e)
 have hu:us.length=nks.length:=by rw[hl,r.length]
 refine⟨hs,us,r,hu,o,es,ep,h1,h2,h3,?_,λx hx=>?_,by rw[y05 hu];exact hn⟩
 ·rw[h4]
  unfold zipX;rw[Qd];rfl
 ·obtain⟨p,hp,rfl⟩:=qw hx
  obtain⟨ys,q1,q2⟩:=hk p.1 (List.of_mem_zip hp).1;exact Yh8 ok (sm _ _ q1) q2
def Yad{α β:Type}[DecidableEq α]:List α->List β->α->Option β
 | k::ks,v::vs,x=>if k=x then some v else Yad ks vs x
 | _,_,_=>none
theorem Yma(k:AH):∀(nks:List (List Int×Addr)) (us:AD),(atKey (zipX nks us) k).map (·.2)=Yad (nks.map (·.1)) us k
 | [],us=>by cases us<;>simp[zipX,atKey,Yad]
 | p::nks,[]=>by simp[zipX,atKey,Yad]
 | p::nks,u::us=>by
   have ih:=Yma k nks us;by_cases e:p.1=k
   ·simp[zipX,atKey,Yad,List.find?_cons,e]
   ·simp only[zipX,List.zip_cons_cons,Qa,atKey,List.find?_cons,e,decide_false,Yad,if_false]
    exact ih
theorem Yr5[DecidableEq α](x:α):∀{ks:List α}{vxs:AQ}{us:AD},Vals vxs us->RelO (Yad ks vxs x) (Yad ks us x)
 | [],_,_,_=>True.intro
 | k::ks,_,_,.nil=>True.intro
 | k::ks,_,_,.cons r t=>by
   by_cases e:k=x
   ·simp only[Yad,if_pos e];exact r
   ·simp only[Yad,if_neg e];exact Yr5 x t
theorem Ymb[DecidableEq α](x:α):∀{ks:List α}{vs:AR}{vxs:AQ},RpL K G vs vxs->(∀d,Yad ks vs x=some d->∃v,Yad ks vxs x=some v/\Rp K G d v)/\(Yad ks vs x=none->Yad ks vxs x=none)
 | [],_,_,_=>⟨λd h=>by simp[Yad]at h,λ_=>by simp[Yad]⟩
 | k::ks,[],_,r=>by
   rw[RpL]at r;subst r;exact⟨λd h=>by simp[Yad]at h,λ_=>by simp[Yad]⟩
 | k::ks,d::vs,_,r=>by
   rw[RpL]at r;obtain⟨y,r',rfl,r1,r2⟩:=r;by_cases e:k=x
   ·simp only[Yad,if_pos e]
    grind
   ·simp only[Yad,if_neg e]
    exact Ymb x r2
def setK{α β:Type}[DecidableEq α]:List α->List β->α->β->List β
 | k::ks,v::vs,x,y=>if k=x then y::vs else v::setK ks vs x y
 | _,vs,_,_=>vs
theorem Yed[DecidableEq α](x:α)(y:β):∀(ks:List α) (vs:List β),(setK ks vs x y).length=vs.length
 | [],vs=>by cases vs<;>simp[setK]
 | k::ks,[]=>by simp[setK]
 | k::ks,v::vs=>by
   simp only[setK]
   split
   ·simp
   ·simp[Yed x y ks vs]
theorem Yr6[DecidableEq α](x:α)(ry:RelV y u):∀{ks:List α}{vxs:AQ}{us:AD},Vals vxs us->Vals (setK ks vxs x y) (setK ks us x u)
 | [],_,_,.nil=>by simp[setK];exact .nil
 | [],_,_,.cons r t=>by simp[setK];exact .cons r t
 | k::ks,_,_,.nil=>by simp[setK];exact .nil
 | k::ks,_,_,.cons r t=>by
   simp only[setK]
   split
   ·exact .cons ry t
   ·exact .cons r (Yr6 x ry t)
theorem Ypr[DecidableEq α](x:α)(ry:Rp K G d y):∀{ks:List α}{vs:AR}{vxs:AQ},RpL K G vs vxs->RpL K G (setK ks vs x d) (setK ks vxs x y)
 | [],[],_,r=>by simpa [setK]using r
 | [],_::_,_,r=>by
   rw[RpL]at r;obtain⟨z,r',rfl,r1,r2⟩:=r;simp only[setK];exact .cons r1 r2
 | k::ks,[],_,r=>by
   rw[RpL]at r;subst r;simp[setK];exact .nil
 | k::ks,e::vs,_,r=>by
   rw[RpL]at r;obtain⟨z,r',rfl,r1,r2⟩:=r;simp only[setK]
   split
   ·exact .cons ry r2
   ·exact .cons r1 (Ypr x ry r2)
theorem Ymc{b:Addr}:∀{nks:List (List Int×Addr)}{us:AD},us.length=nks.length->(nks.map (·.1)).Nodup->k∈nks.map (·.1)->(zipX nks us).map (putAt k u)=zipX nks (setK (nks.map (·.1)) us k u)
 | [],us,_,_,h=>by simp at h
 | p::nks,[],hl,_,_=>by simp at hl
 | p::nks,v::us,hl,hn,hm=>by
   rw[Qa,List.nodup_cons]at hn;by_cases e:p.1=k
   ·have hnot:k∉nks.map (·.1):=by grind
    simp only[zipX,List.zip_cons_cons,Qa,setK,e,if_true]
    congr 1
    ·simp[putAt,e]
    ·refine(Qj λx hx=>?_).trans (List.map_id _)
     obtain⟨q,hq,rfl⟩:=qw hx;have:¬q.1.1=k:=λz=>hnot (List.mem_map.mpr ⟨q.1,(List.of_mem_zip hq).1,z⟩);simp[putAt,this]
   ·have hm':k∈nks.map (·.1):=by
     grind
    have ih:=Ymc (k:=k) (b:=b) (u:=u) (nks:=nks) (us:=us) (by grind) hn.2 hm';simp only[zipX,List.zip_cons_cons,Qa,setK,e,if_false]
    congr 1
    ·simp[putAt,e]
theorem Yc8[DecidableEq α]:∀{ks:List α}{vs:List β},vs.length=ks.length->(Yad ks vs x=none↔x∉ks)
 | [],_,_=>by simp[Yad]
 | k::ks,[],h=>by simp at h
 | k::ks,v::vs,h=>by
   by_cases e:k=x
   ·simp[Yad,e]
   ·have e':¬x=k:=λz=>e z.symm
    simp only[Yad,e,if_false,List.mem_cons,e',false_or];exact Yc8 (by simpa using h)
end
section
open Sem (wp)
variable {K:W7}
def y06:typeLookup (.type "list_reverseiterator") "__len__"=pure none:=by rw[typeLookup_type,builtinLookup_eq_fast];kernel_rfl
def y5f:typeLookup (.type "list_reverseiterator") "__length_hint__"=pure (some (.builtin "list_reverseiterator.__length_hint__")):=by rw[typeLookup_type,builtinLookup_eq_fast];kernel_rfl
def Yyd{prog:P7}{w:World}{A:Around}{s:Shared}{R:Result->Shared->Prop}{I:Addr}{fp wr:List Addr}{G:Array GenState->Array GenState->Prop}{n:Nat}{P:Nat->Value->Prop}{St:Nat->Shared->Prop}(W:WalksS prog w A.in1 I fp wr G n P St)(hT:∀i s,St i s->s.TypeIs (.ref I) "list_reverseiterator")(S:Addr)(res:Value)(c₀:Nat)(hst:St 0 s)(hSf:S∉fp)(hI:I∈fp)(hS:s.heap.get? S=some { cls:=.type "list",data:=.seq #[] c₀ })(hR:∀s' acc' c',Moved (S::wr) G s s'->s'.heap.get? S=some { cls:=.type "list",dict:=none,data:=.seq acc' c',slots:=#[] }->ItemsOf P acc' n->R (.ok (.ret res)) s')(hn:n<=sizeLine):
 wpAny (mZ prog w) A.in1 (Builtin.List.listExtendWith (.ref S) (.ref I) res)
  (λfin s'=>match fin with|.done f=>R (.ok f) s'|.again c'=>c'.quiet=true/\codeAny (mZ prog w) A c' R s') (λe s'=>R (.error e) s') s:=by
 have hSI:S≠I:=λe=>hSf (e ▸ hI)
 have h1:Builtin.List.listSameRef (.ref S) (.ref I)=false:=by simp[Builtin.List.listSameRef,hSI]
 unfold Builtin.List.listExtendWith;refine wa (wpAny_typeOf (hT 0 _ hst) ?_);rw[if_neg (by rw[h1];decide)];refine wa (W.self 0 _ _ _ hst ?_);refine wa (wc ?_);unfold Builtin.List.listLengthHint;refine wa (wpAny_specialOf (hT 0 _ hst) y06 ?_);show wpAny _ A.in1 (specialOf (Value.ref I) (Str.ofString "__length_hint__")>>=_) _ _ _;refine wa (wpAny_specialOf (hT 0 _ hst) y5f ?_)
 (generalize hid:("list_reverseiterator.__length_hint__":String)=id0;(fail_if_success (clear hid id0));wp_delta;rw[show splitId id0=some ("list_reverseiterator","__length_hint__") from by subst hid;decide +kernel];subst hid)
 refine wa (wpAny_isInstance (b:=true) (hT 0 _ hst) (by rw[isSubtype_type];kernel_rfl) ?_);refine wb ?_;rw[if_neg (by decide)];exact wb ⟨jd F.plain_extend_loop _,codeAny_extend_loopS W hn _ hSf _ n 0 _ _ _ rfl (Qf _) hst hS (ItemsOf.nil P) hR⟩
section
variable {prog:P7}{w:World}{A:Around}{E:AB}{s:Shared}{I:Addr}{fp wr:List Addr}{G:Array GenState->Array GenState->Prop}{n:Nat}{P:Nat->Value->Prop}{St:Nat->Shared->Prop}
theorem Yun(W:WalksS prog w A.in1 I fp wr G n P St)(hT:∀i s,St i s->s.TypeIs (.ref I) "list_reverseiterator")(hst:St 0 s)(hfp:∀b∈fp,b< ~~~s)(hI:I∈fp)(hQ:∀s' acc,Moved wr G s s'->ItemsOf P acc n->Q acc.toList s')(hn:n<=sizeLine):wpAny (mZ prog w) A (collect (.ref I)) Q E s:=by
 have hSf:(~~~s)∉fp:=λhm=>Nat.lt_irrefl _ (hfp _ hm);unfold collect;refine wa (wpAny_runValue (wz F.entry_proto_collect ?_));rw[je F.plain_proto_collect _];show wpAny _ A.in1 (newList []>>=λl=>again (.builtin "list.__iadd__" ⟨[l,.ref I],[]⟩)) _ _ s;refine wa (wg ?_);refine wb ⟨jd F.plain_list_iadd _,wz F.entry_list_iadd ?_⟩;rw[je F.plain_list_iadd _];have hst₁:=W.frame 0 s (s.heap.push { cls:=.type "list",data:=.seq ([]:AD).toArray }) s.toks hst (qu _) λb _ o e=>qe _ e;have hS₁:(s.heap.push { cls:=.type "list",data:=.seq ([]:AD).toArray }).get? (~~~s)=some { cls:=.type "list",data:=.seq ([]:AD).toArray }:=qp _ rfl;show wpAny _ A.in1 (Builtin.List.listExtendWith (.ref (~~~s)) (.ref I) (.ref (~~~s))) _ _ _
 refine w5 (Yyd (A:=A) (R:=λr s'=>r=.ok (.ret (.ref (~~~s)))/\∃acc' c',Moved (~~~s::wr) G { s with heap:=s.heap.push { cls:=.type "list",data:=.seq ([]:AD).toArray } } s'/\s'.heap.get? (~~~s)=some { cls:=.type "list",dict:=none,data:=.seq acc' c',slots:=#[] }/\ItemsOf P acc' n)
  W hT _ _ 0 hst₁ hSf hI hS₁ (λs' acc' c' a b c=>⟨rfl,acc',c',a,b,c⟩) hn) (λfin s' h=>?_) (λe s' h=>?_)
 ·have fin':∀s' acc' c',Moved (~~~s::wr) G { s with heap:=s.heap.push { cls:=.type "list",data:=.seq ([]:AD).toArray } } s'->s'.heap.get? (~~~s)=some { cls:=.type "list",dict:=none,data:=.seq acc' c',slots:=#[] }->ItemsOf P acc' n->
   wpAny (mZ prog w) A (match Value.ref (~~~s) with
    | Value.ref a=>do
      match (<-load a).data with
       | Data.seq xs _=>pure xs.toList
       | _=>unsupported "internal:collect"
    | _=>unsupported "internal:collect") Q E s':=λs' acc' c' hm hS' hacc=>by
   show wpAny _ A (load (~~~s)>>=_) _ _ s';refine wa (wpAny_load hS' ?_);exact wb (hQ s' acc' (Moved.drop_new (o:={ cls:=.type "list",data:=.seq ([]:AD).toArray }) (tk:=s.toks) hm (qu _)) hacc)
  cases fin with
  | done f=>
    grind
  | again c'=>exact⟨h.1,codeAny_mono h.2 λr s'' hr=>by grind⟩
 grind
theorem Yit{Q₁:AB}(W:WalksS prog w A.in1.in1 I fp wr G n P St)(hT:∀i s,St i s->s.TypeIs (.ref I) "list_reverseiterator")(hst:St 0 s)(hfp:∀b∈fp,b< ~~~s)(hI:I∈fp)(h:∀s' acc,Moved wr G s s'->ItemsOf P acc n->Q₁ (.ref s'.heap.objs.size) { s' with heap:=s'.heap.push { cls:=.type "tuple",data:=.seq acc } })(hsz:n<=sizeLine):
 codeAny (mZ prog w) A (.call (.builtin "tuple.__new__") ⟨[.type "tuple",.ref I],[]⟩) (wants Q₁ E) s:=by
 refine codeAny_of_tree ?_;show wpAny _ A.in1 (do checkBuiltinCall "tuple.__new__" ⟨[.type "tuple",.ref I],[]⟩;again (.builtin "tuple.__new__" ⟨[.type "tuple",.ref I],[]⟩)) _ _ s;refine wa (wpAny_of_eq (F.newCall_tuple_1 _) (wb ⟨jd F.plain_tuple_new _,wz F.entry_tuple_new ?_⟩));rw[je F.plain_tuple_new _];have hsub:=sub_tuple_self;have hinit:=init_tuple_lookup;have hmh:=madeHere_tuple;have hTI:=hT 0 s hst
 wp_walk using wpAny_typeOf hTI,Yun (hn:=hsz) W hT hst hfp hI
 intro s' acc hm hacc;show wpAny _ _ (Builtin.Tuple.tupleExact acc.toList.toArray>>=λv=>ret v) _ _ _;unfold Builtin.Tuple.tupleExact;refine wa (wg ?_ (by show acc.toList.toArray.size<=sizeLine;simp only[Array.toArray_toList];rw[hacc.1];exact hsz));refine wb ?_
 simp_all
def Ykt(W:WalksS prog w A.in1.in1.in1 I fp wr G n P St)(hT:∀i s,St i s->s.TypeIs (.ref I) "list_reverseiterator")(hst:St 0 s)(hfp:∀b∈fp,b< ~~~s)(hI:I∈fp)(hQ:∀s' acc,Moved wr G s s'->ItemsOf P acc n->Q (.ref s'.heap.objs.size) { s' with heap:=s'.heap.push { cls:=.type "tuple",data:=.seq acc } })(hsz:n<=sizeLine):
 wpAny (mZ prog w) A (call (.type "tuple") [.ref I]) Q E s:=by
 refine callType_codes (Q₁:=λobj s₁=>s₁.TypeIs obj "tuple"/\Q obj s₁) F.called_tuple (F.typeCall_tuple_1 _) F.entry_object_init
  (Yit (hsz:=hsz) W hT hst hfp hI λs' acc hm hacc=>⟨⟨_,qp _ rfl,rfl⟩,hQ s' acc hm hacc⟩) λobj s₁ h₁=>?_
 exact⟨h₁.1,F.args_object_init_2 obj _,object_init_meets F.called_tuple.init.lookup F.called_tuple.made (by decide) prog w A.in1 _ s₁ ⟨h₁.1,rfl,h₁.2⟩⟩
end
theorem y07{items acc:Array Value}(h:ItemsOf (λi v=>items[items.size-1-i]?=some v) acc items.size):acc.toList=items.toList.reverse:=by
 obtain⟨h1,h2⟩:=h;apply List.ext_getElem?;grind
theorem Ykl:∀{xs:AQ}{us:AD},Vals xs us->Vals xs.reverse us.reverse
 | _,_,.nil=>.nil
 | _,_,.cons r t=>by
   rw[List.reverse_cons,List.reverse_cons];exact(Ykl t).append (.cons r .nil)
section
variable {X:Cx}{e:Expr}{ta:TA}{p p2 pos pos2:Pos}
def y5g{σ:L2.St}(I:Inv X pins σ H s)(hg2:Gl X "reversed")(hm2:X.mg "reversed"=none)(ha:PA X [e] ta)(h:ta σ H q)(hs:starEach [e] X.env=[(false,eval e X.env)])(k:∀vs H1 s1,Inv X pins σ H1 s1->q vs H1->∃a xs its,vs=[.ref a]/\SqL X.K H1 a xs/\Vals xs its/\s1.heap.IsList a its.toArray/\Q (.ref (~~~s1)) { s1 with heap:=s1.heap.push (revObj a ((its.toArray.size:Int)-1)) }):
 wpAny (mZ X.prog X.w) X.A (eval (.Call (.Name "reversed" p2) [e] [] pos2) X.env) Q X.xe s:=by
 refine Call_ (Ykg I hg2 hm2 boot_reversed (PyProof.Rows.callWith_type1 (thn (ha pos2 pins s σ H _ I h) λus s1 hx_=>?_) hs rfl));obtain⟨vs,H1,I1,r1,q1⟩:=hx_;obtain⟨a,xs,its,rfl,hq,rv,pl,z⟩:=k vs H1 s1 I1 q1;obtain⟨u,rfl,ru⟩:=Yhj r1;cases ru;exact call_reversed_list pl z
def Yagl(K:W7)(ta:TA):TE:=λσ H Q=>ta σ H λvs H1=>∃a xs,vs=[.ref a]/\SqL K H1 a xs/\∀l,H1 l=none->Q (.ref l) (upd H1 l (.tup xs.reverse))
theorem y08(hc:X.calm=true)(hg:Gl X "tuple")(hm:X.mg "tuple"=none)(hg2:Gl X "reversed")(hm2:X.mg "reversed"=none)(ha:PA X [e] ta)(hs:starEach [e] X.env=[(false,eval e X.env)]:=by rfl)(he:starEach [.Call (.Name "reversed" p2) [e] [] pos2] X.env=[(false,eval (.Call (.Name "reversed" p2) [e] [] pos2) X.env)]:=by rfl):
 PE X (.Call (.Name "tuple" p) [.Call (.Name "reversed" p2) [e] [] pos2] [] pos) (Yagl X.K ta):=by
 intro pins s σ H Q I h;refine wpAny_Call_Name_kw (Ykg I hg hm boot_tuple ?_ (by decide) (by decide));refine PyProof.Rows.callWith_type1 ?_ he rfl;rw[he];refine Calls.spliced_cons (y5g I hg2 hm2 ha h hs λvs H1 s1 I1 q1=>?_);obtain⟨a,xs,rfl,hq,q⟩:=q1;obtain⟨its,rv,pl,hz⟩:=I1.list hq;refine⟨a,xs,its,rfl,hq,rv,pl.isList,Calls.spliced_nil ?_⟩
 have hne:a≠(~~~s1):=by
  obtain⟨o,ho,_⟩:=pl.isList;exact qm (ql ho)
 have hlt:a< ~~~s1:=by
  obtain⟨o,ho,_⟩:=pl.isList;exact ql ho
 have hl:=rv.length;refine Ykt (Walks.listRev (show X.A.in1.in1.in1.handled=none from I1.ok.hd hc) (~~~s1) a hne its.toArray).toS (λi s st=>st.2.1.typeIs) ⟨Qf _,⟨_,qp _ rfl,rfl,by simp[revObj]⟩,pl.isList.push _⟩ (λb hb=>?_) (by simp) (λs' acc' hm' hacc=>?_) (by grind)
 ·show b<(s1.heap.push _).objs.size
  rw[ww];grind
 ·have hsz:(s1.heap.push (revObj a ((its.toArray.size:Int)-1))).objs.size= ~~~s1+1:=ww ..
  have kp:∀b u,s1.heap.get? b=some u->s'.heap.get? b=some u:=λb u qb=>by
   have hb:b< ~~~s1:=ql qb;refine hm'.heap b u (λz=>?_) (qe _ qb);grind
  have ev:acc'.toList=its.reverse:=by simpa using y07 hacc
  have I2:Inv X pins σ H1 s':=by
   have e:=Moved.eq_with hm';rw[e];exact I1.kept (t':=s'.toks) kp
  refine⟨.ref s'.heap.objs.size,upd H1 s'.heap.objs.size (.tup xs.reverse),?_,rfl,q _ (I2.hok.fresh (qu _))⟩
  have ea:acc'=acc'.toList.toArray:=by simp
  exact I2.laid (t':=s'.toks) (λb o e=>qe _ e) (qu _) (show ObjOk X.prog X.w _ _ _ (.tup xs.reverse) from⟨by grind,acc'.toList,by rw[ev];exact Ykl rv,by rw[<-ea];exact IsTup.new _ _⟩)
def revF(f:AX):AY:=λρ=>(b1 f lstD ρ).map List.reverse
variable {f:AX}
end
end
section
variable {K:W7}
section
variable {X:Cx}{e ie:Expr}{f fb:AX}{pos:Pos}
def rExt:V->AQ->Hp->VK->Prop:=λx vs H Q=>∃l b xs zs,x=.ref l/\vs=[.ref b]/\H l=some (.lst xs)/\Rd H b (.lst zs)/\xs.length+zs.length<=sizeLine/\Q .non (upd H l (.lst (xs++zs)))
theorem Yadx:MtM X "list.extend" rExt:=by
 intro pins s σ H x vs v us Q I rx rv h;obtain⟨l,b,xs,zs,rfl,rfl,hH,hB,hz,q⟩:=h;cases rx;obtain⟨u,rfl,ru⟩:=rv.one;cases ru;obtain⟨z,its,n,r,hl,e⟩:=I.lstM hH;obtain⟨z2,its2,n2,r2,e2⟩:=hB.ok I.hok;have hl2:=r2.length
 have hsz:its.toArray.size+its2.toArray.size<=sizeLine:=by grind
 have hlong:¬(!its.toArray.isEmpty&&Builtin.List.listTooLong (its.toArray.size+its2.toArray.size))=true:=by
  rw[y4z hsz,Bool.and_false];grind
 refine call_meets F.slot_list_extend ⟨_,e,rfl⟩ F.entry_list_extend (F.args_list_extend_2 _ _)
  (AutoSeq1.list_extend_list_list_0 l its.toArray n b its2.toArray n2 hlong (by grind) (by lia)) ⟨e,e2,?_⟩
 refine⟨.non,_,I.lset (its':=its++its2) hH e (by simp) (r.append r2) ?_,rfl,q⟩;grind
def extD(l:AR)(d:D):Option AR:=match d with
 | .lst m=>if l.length+m.length<=cap6 then some (l++m)else none
 | _=>none
end
end
section
variable {K:W7}
def SE(w:World):List DictEntry->List (Str×Str)->Prop:=Paired λe p=>e.hash=PyData.keyHash w.params p.1/\(∃t,e.key=.str p.1 t)/\(∃t,e.val=.str p.2 t)/\PyData.strOk p.2=true
def GD(K:W7)(w:World)(mg:AE)(x:Str)(kvs:List (Str×Str)):Prop:=∃p o es ep,mg x=some (.ref p)/\K.lookup p=some o/\o.ExactDict/\o.data=.dict es ep/\SE w es.toList kvs
theorem y1b:∀{l:List DictEntry}{kvs:List (Str×Str)},SE w l kvs->kvs.lookup k=some v->∃e t,l.find? (λe=>(PySem.strKind P w).is k e.key)=some e/\e.val=.str v t
 | _,_,.nil,h=>by simp at h
 | _,_,.cons (a:=e) (b:=p) r t,h=>by
   obtain⟨_,⟨t1,h1⟩,⟨t2,h2⟩,_⟩:=r;obtain⟨a,b⟩:=p;by_cases q:a=k
   ·subst q
    simp at h;subst h;exact⟨e,t2,by simp[List.find?_cons,h1,PySem.strKind,Value.isStrOf],h2⟩
   ·have q':¬k=a:=λz=>q z.symm
    simp[List.lookup_cons,q']at h
    have hn:(k==a)=false:=by grind
    obtain⟨e',t',h3,h4⟩:=y1b (P:=P) t (by simpa [List.lookup_cons,hn]using h);refine⟨e',t',?_,h4⟩;rw[List.find?_cons]
    have:(PySem.strKind P w).is k e.key=false:=by
     rw[h1];show(a==k)=false;simpa using q
    grind
theorem y1c:∀{l:List DictEntry}{kvs:List (Str×Str)},SE w l kvs->∀e∈l,∃k,(PySem.strKind P w).is k e.key=true/\e.hash=(PySem.strKind P w).hash k
 | _,_,.nil,e,h=>by cases h
 | _,_,.cons (b:=p) r t,e,h=>by
   rcases qt h with rfl|h
   ·obtain⟨h0,⟨t1,h1⟩,_⟩:=r
    exact⟨p.1,by rw[h1];simp[PySem.strKind,Value.isStrOf],h0⟩
   ·exact y1c t e h
theorem Yady:∀{l:List DictEntry}{kvs:List (Str×Str)},SE w l kvs->kvs.lookup k=some v->PyData.strOk v=true
 | _,_,.nil,h=>by simp at h
 | _,_,.cons (b:=p) r t,h=>by
   obtain⟨_,_,_,h1⟩:=r;obtain⟨a,b⟩:=p;by_cases q:k=a
   ·grind
   ·have hn:(k==a)=false:=by simpa using q
    exact Yady t (by simpa [List.lookup_cons,hn]using h)
section
variable {X:Cx}{ke:Expr}{fk:AX}{pos px:Pos}{x:Str}
def y1d(kvs:List (Str×Str)):D->Option D
 | .str k=>(kvs.lookup k).map D.str
 | _=>none
end
def Gr.updHid(g:Gr H G H2 G2)(hp:H p=none)(gp:G2 p=none)(o:HO):Gr H G (upd H2 p o) G2:=
 ⟨λb u e=>by rw[Yaa (Yz e hp)];exact g.h b u e,g.g,λb u e=>by rw[Yaa (Yz e gp)];exact g.s b u e,g.n⟩
def tK(x:Str):TE:=λ_ H Q=>Q (.str x) H
structure MP(X:Cx)(pos:Pos)(keys:List (Option Expr))(values:AM)(ks:AL)(fs:List AX):Prop where
 len:ks.length=fs.length
 pps:PPs X pos keys values ((ks.zip fs).map λp=>(tK p.1,tOf X.K p.2))
 all:keys.all (·.isSome)=true
 kv:keys.length=values.length
 kk:keys.length=ks.length
end
section
variable {K:W7}
def numD:D->Option Int
 | .int i=>some i
 | .bl b=>some (if b then 1 else 0)
 | _=>none
def y5i:AR->Option AH
 | []=>some []
 | d::l=>(numD d).bind λi=>(y5i l).map (i::·)
def nKey:D->Option AH
 | .tup l=>y5i l
 | _=>none
def Yhn:AR->Option (List AH)
 | []=>some []
 | d::l=>(nKey d).bind λk=>(Yhn l).map (k::·)
def Yadz(h:numD d=some i)(r:Rp K G d v):numV v=some i:=by
 cases d<;>simp[numD]at h
 ·subst h
  rw[Rp]at r;subst r;rfl
 ·subst h
  rw[Rp]at r;subst r;rfl
theorem Yuo:∀{l:AR}{xs:AQ}{k:AH},y5i l=some k->RpL K G l xs->Yfl xs=some k
 | [],xs,k,h,r=>by
   cases h;rw[RpL]at r;subst r;rfl
 | d::l,xs,k,h,r=>by
   rw[y5i]at h;obtain⟨i,h1,h⟩:=qa h;obtain⟨m,h2,rfl⟩:=qc h;rw[RpL]at r;obtain⟨x,q,rfl,r1,r2⟩:=r;rw[Yfl,Yadz h1 r1,Yuo h2 r2];rfl
def Yr7(h:nKey d=some k)(r:Ct K G H d v):∃b ys,v=.ref b/\H b=some (.tup ys)/\G b=some (.tup ys)/\Yfl ys=some k:=by
 cases d with
 | tup l=>
   rw[Ct]at r;obtain⟨b,ys,rfl,⟨g1,g2⟩,rl⟩:=r;exact⟨b,ys,rfl,g1,g2,Yuo h rl⟩
 | _=>cases h
theorem Yps:∀{ks:AR}{kn:List AH}{nks:List (List Int×Addr)},Yhn ks=some kn->RpL K G ks (nks.map λp=>V.ref p.2)->(∀p∈nks,∃ys,G p.2=some (.tup ys)/\Yfl ys=some p.1)->nks.map (·.1)=kn
 | [],kn,nks,h,r,_=>by
   cases h;rw[RpL]at r;simpa using r
 | d::ks,kn,nks,h,r,hk=>by
   rw[Yhn]at h;obtain⟨k,h1,h⟩:=qa h;obtain⟨m,h2,rfl⟩:=qc h;rw[RpL]at r;obtain⟨x,q,e,r1,r2⟩:=r
   cases nks with
   | nil=>cases e
   | cons p nks=>
     rw[Qa]at e;injection e with e1 e2;subst e1 e2;have ih:=Yps h2 r2 λp hp=>hk p (qg _ hp);obtain⟨ys,g,n⟩:=hk p qh
     cases d with
     | tup l=>
       rw[Rp]at r1;obtain⟨a,xs,e3,g',rl⟩:=r1;injection e3 with e3;subst e3;rw[g]at g';cases g';rw[Yuo h1 rl]at n;grind
     | _=>cases h1
structure DtH(H:Hp)(a:Addr)(nks:List (List Int×Addr))(vxs:AQ):Prop where
 at':∃ep,H a=some (dTo a nks vxs ep)
 len:nks.length=vxs.length
 nd:(nks.map (·.1)).Nodup
 keys:∀p∈nks,∃ys,H p.2=some (.tup ys)/\Yfl ys=some p.1
section
variable {X:Cx}
def Ywq{σ:L2.St}(I:Inv X pins σ H s)(d:DtH H a nks vxs):
 (a==sysModules)=false/\∃us,Vals vxs us/\us.length=nks.length/\s.heap.DictOfH (tupleKind (Yax X.prog X.w)) a (zipX nks us):=by
 obtain⟨ep,e⟩:=d.at';exact Yadw I.hok (Same.refl H) e d.len d.nd d.keys
def Yad0:R2:=λx y H Q=>∃a b nks vxs ys k v,x=.ref a/\y=.ref b/\DtH H a nks vxs/\H b=some (.tup ys)/\Yfl ys=some k/\Yad (nks.map (·.1)) vxs k=some v/\Q v H
def y9s(r:Vals vxs us)(hf:Yad (nks.map (·.1)) vxs k=some z):∃p,atKey (zipX nks us) k=some p/\RelV z p.2:=by
 have h1:=Yr5 k (ks:=nks.map (·.1)) r;rw[hf,<-Yma k nks us]at h1
 cases h:atKey (zipX nks us) k with
 | none=>rw[h]at h1;exact h1.elim
 | some p=>rw[h]at h1;exact⟨p,rfl,h1⟩
theorem Yagm(hu:X.A.units+64<cLine):IxR X Yad0:=by
 intro value slice pins s σ H x y v u Q I rx ry h hs;obtain⟨a,b,nks,vxs,ys,k,z,rfl,rfl,dt,eb,nk,hf,q⟩:=h;cases rx;cases ry;obtain⟨hsm,us,r,hl,dd⟩:=Ywq I dt;have key:=Yh8 (P:=X.prog) (w:=X.w) I.hok eb nk;obtain⟨p,hp,rz⟩:=y9s r hf;exact tail_any dd.typeIs PySem.F.slot_dict_getitem.lookup (wpAny_getItem_heap (knd:=tupleKind (Yax X.prog X.w)) (by show X.A.in1.units<cLine;grind) key dd hp ⟨z,H,I.tok _,rz,q⟩) hs
def y9t(neg:Bool):R2:=λx y H Q=>∃a b nks vxs ys k,x=.ref b/\y=.ref a/\DtH H a nks vxs/\H b=some (.tup ys)/\Yfl ys=some k/\Q (.bl (decide (k∈nks.map (·.1))!=neg)) H
theorem Yup(hl:us.length=nks.length):(atKey (zipX nks us) k).isSome=decide (k∈nks.map (·.1)):=by
 have h1:=Yma k nks us;have h2:=Yc8 (x:=k) (ks:=nks.map (·.1)) (vs:=us) (by grind)
 cases h:atKey (zipX nks us) k with
 | none=>
   grind
 | some p=>
   grind
theorem y7t(hu:X.A.units+64<cLine):OpR X (compareOp .In) (y9t false):=by
 intro pins s σ H x y v u Q I rx ry h;obtain⟨a,b,nks,vxs,ys,k,rfl,rfl,dt,eb,nk,q⟩:=h;cases rx;cases ry;obtain⟨hsm,us,r,hl,dd⟩:=Ywq I dt;have key:=Yh8 (P:=X.prog) (w:=X.w) I.hok eb nk;refine wpAny_in_heap (knd:=tupleKind (Yax X.prog X.w)) (by show X.A.in1.units<cLine;grind) key hsm dd ⟨.bl (decide (k∈nks.map (·.1))!=false),H,I.tok _,?_,q⟩;rw[Yup hl,Bool.bne_false];rfl
theorem y1e(hu:X.A.units+64<cLine):OpR X (compareOp .NotIn) (y9t true):=by
 intro pins s σ H x y v u Q I rx ry h;obtain⟨a,b,nks,vxs,ys,k,rfl,rfl,dt,eb,nk,q⟩:=h;cases rx;cases ry;obtain⟨hsm,us,r,hl,dd⟩:=Ywq I dt;have key:=Yh8 (P:=X.prog) (w:=X.w) I.hok eb nk;refine wpAny_notIn_heap (knd:=tupleKind (Yax X.prog X.w)) (by show X.A.in1.units<cLine;grind) key hsm dd ⟨.bl (decide (k∈nks.map (·.1))!=true),H,I.tok _,?_,q⟩;rw[Yup hl,Bool.bne_true];rfl
def Yr8(hd:(a==sysModules)=false)(r:Vals vxs us)(dd:h'.DictOfH (tupleKind (Yax P w)) a (zipX nks us)):
 ∃ep,∀H',ObjOk P w H' h' a (dTo a nks vxs ep):=by
 obtain⟨o,es,ep,h1,h2,h3,h4,_⟩:=dd;refine⟨ep,λH'=>⟨⟨hd,us,o,es,r,h1,h2,h3,?_⟩,⟨o,h1⟩,λh1 h2 f k=>?_⟩⟩
 ·rw[h4]
  unfold zipX;rw[Qd];rfl
 ·obtain⟨hd,us,o,es,r,e1,e2⟩:=f
  exact⟨hd,us,o,es,r,k o e1,e2⟩
def putT(nks:List (List Int×Addr))(vxs:AQ)(k:AH)(b:Addr)(v:V):List (List Int×Addr)×AQ:=
 if k∈nks.map (·.1)then (nks,setK (nks.map (·.1)) vxs k v)else (nks++[(k,b)],vxs++[v])
def Yagn:V->V->V->Hp->(Hp->Prop)->Prop:=λo i v H Q=>∃a b nks vxs ys k,o=.ref a/\i=.ref b/\DtH H a nks vxs/\H b=some (.tup ys)/\Yfl ys=some k/\vxs.length<cap6/\∀ep,Q (upd H a (dTo a (putT nks vxs k b v).1 (putT nks vxs k b v).2 ep))
theorem y1f(r:Vals xs us)(q:RelV v u):Vals (xs++[v]) (us++[u]):=by
 induction r with
 | nil=>exact .cons q .nil
 | cons a _ ih=>exact .cons a ih
theorem Yad1(hu:X.A.units+64<cLine):PSet X Yagn:=by
 intro pins s σ H o i v ov iv u Q I ro ri rv h;obtain⟨a,b,nks,vxs,ys,k,rfl,rfl,dt,eb,nk,hl,q⟩:=h;cases ro;cases ri;obtain⟨hsm,us,r,hl',dd⟩:=Ywq I dt;have key:=Yh8 (P:=X.prog) (w:=X.w) I.hok eb nk
 have hz:(zipX nks us).length<=sizeLine:=by
  have:(zipX nks us).length<=nks.length:=by grind
  have h6:=Ye0 (n:=nks.length) (by rw[dt.len];lia);lia
 refine wpAny_setItem_heap (knd:=tupleKind (Yax X.prog X.w)) (hsz:=hz) (by show X.A.in1.units<cLine;grind) key dd λh' dd' same=>?_;have hs:=Yup (k:=k) hl';obtain⟨ep0,e0⟩:=dt.at'
 have new:∃ep,∀H',ObjOk X.prog X.w H' h' a (dTo a (putT nks vxs k b v).1 (putT nks vxs k b v).2 ep):=by
  unfold putT;by_cases hm:k∈nks.map (·.1)
  ·rw[if_pos hm]
   rw[wn hm]at hs
   have e:storedH (zipX nks us) k b u=zipX nks (setK (nks.map (·.1)) us k u):=by
    unfold storedH;rw[if_pos hs];exact Ymc (b:=b) hl' dt.nd hm
   rw[e]at dd';exact Yr8 hsm (Yr6 k rv r) dd'
  ·rw[if_neg hm]
   rw[wo hm]at hs
   have e:storedH (zipX nks us) k b u=zipX (nks++[(k,b)]) (us++[u]):=by
    unfold storedH;rw[if_neg (by grind)];unfold zipX;rw[List.zip_append hl'.symm,wt];rfl
   rw[e]at dd';exact Yr8 hsm (y1f r rv) dd'
 obtain⟨ep,new⟩:=new;exact⟨_,Ylr I (by rw[e0];exact True.intro) same (let ⟨q,_,_,hq,_⟩:=dd';⟨q,hq⟩) (new _),q ep⟩
end
def y9u(sm:Same G H)(d:Dc true G H a kxs vxs):∃nks,DtH H a nks vxs/\kxs=nks.map (λp=>V.ref p.2)/\∀p∈nks,∃ys,G p.2=some (.tup ys)/\Yfl ys=some p.1:=by
 rcases d with⟨h,_⟩|⟨_,nks,ep,h1,h2,h3,h4,h5⟩
 ·cases h
 ·exact⟨nks,⟨⟨ep,h1⟩,h2,h3,λp hp=>let ⟨ys,q1,q2⟩:=h5 p hp;⟨ys,sm _ _ q1,q2⟩⟩,h4,h5⟩
def getT:D->D->Option D
 | .dct true ks vs,k=>(Yhn ks).bind λkn=>(nKey k).bind λx=>Yad kn vs x
 | _,_=>none
def y5j:Sem2 K Yad0 getT:=by
 intro x y dx dy d H G Q h s rx ry q;unfold getT at h
 split at h
 ·rename_i ks vs k
  obtain⟨kn,h1,h⟩:=qa h;obtain⟨z,h2,h3⟩:=qa h;rw[Ct]at rx;obtain⟨a,kxs,vxs,rfl,dc,r1,r2⟩:=rx;obtain⟨nks,dt,rfl,hk⟩:=y9u s dc;obtain⟨b,ys,rfl,g1,g2,n⟩:=Yr7 h2 ry;have e:=Yps h1 r1 hk;subst e;obtain⟨v,f1,f2⟩:=(Ymb z r2).1 d h3;exact⟨a,b,nks,vxs,ys,z,v,rfl,rfl,dt,g1,n,f1,q v H G (.refl s) f2⟩
 ·cases h
def hasT(neg:Bool):D->D->Option Bool
 | k,.dct true ks _=>(Yhn ks).bind λkn=>(nKey k).map λx=>decide (x∈kn)!=neg
 | _,_=>none
def Ypt:Yhl K (y9t neg) (hasT neg):=by
 intro x y dx dy b H G Q h s rx ry q;unfold hasT at h
 split at h
 ·rename_i k ks vs
  obtain⟨kn,h1,h⟩:=qa h;obtain⟨z,h2,rfl⟩:=qc h;rw[Ct]at ry;obtain⟨a,kxs,vxs,rfl,dc,r1,r2⟩:=ry;obtain⟨nks,dt,rfl,hk⟩:=y9u s dc;obtain⟨b,ys,rfl,g1,g2,n⟩:=Yr7 h2 rx;have e:=Yps h1 r1 hk;subst e;exact⟨a,b,nks,vxs,ys,z,rfl,rfl,dt,g1,n,q⟩
 ·cases h
section
variable {X:Cx}{a b e:Expr}{fa fb f:AX}{pos:Pos}
def putD(ks vs:AR)(k d:D):Option (List D×AR):=(Yhn ks).bind λkn=>(nKey k).bind λx=>if vs.length<cap6 then some (if x∈kn then (ks,setK kn vs x d)else (ks++[k],vs++[d]))else none
def y5k(i:Nat):Ro->Option (List D×AR):=λρ=>match ρ[i]? with
 | some (some (B.od true ks vs))=>some (ks,vs)
 | _=>none
theorem Yye(h:y5k i ρ=some l):ρ[i]?=some (some (B.od true l.1 l.2)):=by
 unfold y5k at h;grind
def sPut(i:Nat)(fi f:AX):AU:=λρ=>(f ρ).bind λd=>(y5k i ρ).bind λl=>(fi ρ).bind λk=>(putD l.1 l.2 k d).map λl'=>.nx (ρ.set i (some (.od true l'.1 l'.2)))
theorem RpL.snoc(r:Rp K G d y):∀{l:AR}{xs:AQ},RpL K G l xs->RpL K G (l++[d]) (xs++[y])
 | [],_,h=>by
   rw[RpL]at h;subst h;exact .cons r .nil
 | e::l,_,h=>by
   rw[RpL]at h;obtain⟨x,q,rfl,r1,r2⟩:=h;exact .cons r1 (RpL.snoc r r2)
theorem y5l(hu:A.units+64<cLine)(h:wpAny (mZ prog w) A (evalPairs (pairTrees [some ke] [ve] env pos)) (λvs s1=>∃(b:Addr) (n:AH) (u:Value),vs=[(.ref b,u)]/\(tupleKind (Yax prog w)).is s1.heap n b/\s1.heap.DictOfH (tupleKind (Yax prog w)) (~~~s) []/\
  ∀h' t,h'.DictOfH (tupleKind (Yax prog w)) (~~~s) [(n,b,u)]->Heap.SameBut (~~~s) s1.heap h'->Q (.ref (~~~s)) { s1 with heap:=h',toks:=t }) E
  { s with heap:=s.heap.push { cls:=.type "dict",data:=.dict #[] } }):
 wpAny (mZ prog w) A (eval (.Dict [some ke] [ve] pos) env) Q E s:=by
 have hsh:=zip_pairTrees [some ke] [ve] env pos rfl rfl;rw[arm_eval_Dict,hsh,dictDisplay_pairs (pairTrees [some ke] [ve] env pos) (λz=>by cases z) (by show 1<17;lia)];refine wa (wpAny_standAt (wa ?_));unfold subDict;refine wa (wpAny_alloc ?_);refine wa (wc ?_);rw[if_pos (by show 1<=15;lia)];refine wa (w5 h (λvs s1 h1=>?_) λ_ _ e=>e);obtain⟨b,n,u,rfl,key,dd,q⟩:=h1;refine wc ?_;rw[List.forIn_cons];refine wa (wa (wa (wpAny_dictSet_heap (knd:=tupleKind (Yax prog w)) (hsz:=by grind) (by show A.units<cLine;lia) key dd λh' dd' same=>wb ?_)));show wpAny _ _ (forIn ([]:List (Value×Value)) PUnit.unit _) _ _ _;rw[List.forIn_nil];refine wb (wb (wb (wb ?_)));exact q h' _ dd' same
theorem Yad4(r:VV [(x,y)] ws):∃kv u,ws=[(kv,u)]/\RelV x kv/\RelV y u:=by
 cases r with
 | cons r t=>
   cases t;grind
def Yad5(trs:List (TE×TE)):TE:=λσ H Q=>∀p ep,H p=none->Yz7 trs σ (upd H p (dTo p [] [] ep)) λps H2=>H2 p=some (dTo p [] [] ep)/\∃b ys n v,ps=[(V.ref b,v)]/\H2 b=some (.tup ys)/\Yfl ys=some n/\∀ep',Q (.ref p) (upd H2 p (dTo p [(n,b)] [v] ep'))
def y5m(hu:X.A.units+64<cLine)(h:PPs X pos [some ke] [ve] trs):PE X (.Dict [some ke] [ve] pos) (Yad5 trs):=by
 intro pins s σ H Q I q;have hn:=I.hok.fresh (qu (~~~s));have hd:(~~~s==sysModules)=false:=beq_eq_false_iff_ne.mpr (Ne.symm (qm I.big));obtain⟨ep0,new0⟩:=Yr8 (P:=X.prog) (w:=X.w) (h':=s.heap.push { cls:=.type "dict",data:=.dict #[] }) (nks:=[]) (vxs:=[]) (us:=[]) hd .nil (Heap.DictOfH.new s.heap);have I1:=I.laid (a:= ~~~s) (o:=dTo (~~~s) [] [] ep0) (h':=s.heap.push { cls:=.type "dict",data:=.dict #[] }) (t':=s.toks) (λ_ _ q=>qe _ q) (qu _) (new0 _);refine y5l hu (thn (h pins _ σ _ _ I1 (q _ _ hn)) λws s2 hx_=>?_);obtain⟨ps,H2,I2,rel,e,b,ys,n,v,ep,eb,nk,q2⟩:=hx_;subst ep;obtain⟨kv,u,rfl,r1,r2⟩:∃kv u,ws=[(kv,u)]/\RelV (.ref b) kv/\RelV v u:=Yad4 rel;obtain rfl:kv=Value.ref b:=r1;have key:=Yh8 (P:=X.prog) (w:=X.w) I2.hok eb nk;obtain⟨_,us,r0,_,dd⟩:=Yadw (P:=X.prog) (w:=X.w) (nks:=[]) (vxs:=[]) I2.hok (Same.refl H2) e rfl List.nodup_nil (λp hp=>by cases hp);refine⟨b,n,u,rfl,key,by simpa [zipX]using dd,λh' t dd' same=>?_⟩;obtain⟨ep1,new1⟩:=Yr8 (nks:=[(n,b)]) (vxs:=[v]) hd (us:=[u]) (.cons r2 .nil) dd';exact⟨.ref (~~~s),_,Ylr I2 (by rw[e];exact True.intro) same (let ⟨q,_,_,hq,_⟩:=dd';⟨q,hq⟩) (new1 _),rfl,q2 ep1⟩
def y1g(i:Nat)(fk fv:AX):AU:=λρ=>(fk ρ).bind λk=>(fv ρ).bind λv=>(nKey k).map λ_=>.nx (ρ.set i (some (.od true [k] [v])))
end
end
section
def Yyf:AM->Option AH
 | []=>some []
 | .Constant (.int i) _ _::es=>(Yyf es).map (i::·)
 | _=>none
def Yr9(ns:AH):AY:=λ_=>if ns.length<=cap6 then some (ns.map D.int)else none
def y1h:AH->AY
 | []=>aNil
 | n::ns=>Yg (kD (.int n)) (y1h ns)
theorem Ywr(ρ:Ro):∀ns:AH,y1h ns ρ=some (ns.map D.int)
 | []=>rfl
 | n::ns=>by rw[y1h,Yg,Ywr ρ ns];rfl
theorem y1i:∀{es:AM}{ns:AH},Yyf es=some ns->MA X es (y1h ns)
 | [],ns,h=>by
   cases h;exact y0m
 | e::es,ns,h=>by
   unfold Yyf at h
   split at h
   ·grind
   ·rename_i i j p es' e1
    cases e1;obtain⟨m,h1,rfl⟩:=qc h;exact Yuj y7i (y1i h1)
   ·cases h
theorem y9z(ns:AH)(h:Yyf es=some ns:=by decide +kernel):MF X (.List es pos) (Yr9 ns):=by
 have:=y7n (pos:=pos) (y1i (X:=X) h)
 have e:dLst (y1h ns)=Yr9 ns:=by
  funext ρ
  unfold dLst Yr9;rw[Ywr];simp
 grind
end
section
section
variable {X:Cx}{a b c e:Expr}{fa fb fc:AX}{pos:Pos}{st:Stmt}
def ch3(fa fb fc:AX)(g g':D->D->Option Bool):AW:=λρ=>
 (fa ρ).bind λx=>(fb ρ).bind λy=>(g x y).bind λk=>if k=true then (fc ρ).bind λz=>g' y z else some false
theorem y5n(h:ch3 fa fb fc g g' ρ=some k):
 ∃x y,fa ρ=some x/\fb ρ=some y/\((g x y=some false/\k=false)\/(g x y=some true/\∃z,fc ρ=some z/\g' y z=some k)):=by
 unfold ch3 at h;obtain⟨x,h1,h⟩:=qa h;obtain⟨y,h2,h⟩:=qa h;obtain⟨q,h3,h⟩:=qa h;refine⟨x,y,h1,h2,?_⟩
 cases q with
 | false=>
   grind
 | true=>
   rw[if_pos rfl]at h;obtain⟨z,h4,h⟩:=qa h;grind
end
end
section
section
variable {X:Cx}{e:Expr}{f:AX}{fc:AW}{gl:AY}{K:W7}
def Yad6:D->Bool
 | .non|.bl _|.int _|.str _=>true
 | _=>false
def scal(d:D):Option D:=if Yad6 d=true then some d else none
def Rp.scal(h:Yad6 d=true)(r:Rp K G d v):Rp K G' d v:=by
 cases d<;>first|(rw[Rp]at r ⊢;exact r)|cases h
def Gr.back(s:Same G H)(g:Gr H G1 H' G'):Gr H G H' G:=⟨g.h,Same.refl _,s.trans g.h,λ_ h h'=>absurd h h'⟩
def Yyg(is:AG)(f:AX):AX:=λρ=>(f (frz is ρ)).bind scal
mutual
def plB:D->Bool
 | .non=>true
 | .bl _=>true
 | .int _=>true
 | .str _=>true
 | .tup l=>plBL l
 | .lst _=>false
 | .scr _=>false
 | .dct _ _ _=>false
 | .obj _ _ _=>false
 | .adr _=>false
def plBL:AR->Bool
 | []=>true
 | d::l=>plB d&&plBL l
end
mutual
theorem Rp.plain{G G':Hp}(hG:∀b ys,G b=some (HO.tup ys)->G' b=some (HO.tup ys)):∀{d:D}{v:V},plB d=true->Rp K G d v->Rp K G' d v
 | .non,_,_,r=>by rw[Rp]at r ⊢;exact r
 | .bl _,_,_,r=>by rw[Rp]at r ⊢;exact r
 | .int _,_,_,r=>by rw[Rp]at r ⊢;exact r
 | .str _,_,_,r=>by rw[Rp]at r ⊢;exact r
 | .tup l,_,h,r=>by
   rw[Rp]at r ⊢;rw[plB]at h;obtain⟨a,xs,e,g,q⟩:=r;exact⟨a,xs,e,hG _ _ g,RpL.plain hG h q⟩
 | .lst _,_,h,_=>by rw[plB]at h;cases h
 | .scr _,_,h,_=>by rw[plB]at h;cases h
 | .dct _ _ _,_,h,_=>by rw[plB]at h;cases h
 | .obj _ _ _,_,h,_=>by rw[plB]at h;cases h
 | .adr _,_,h,_=>by rw[plB]at h;cases h
theorem RpL.plain{G G':Hp}(hG:∀b ys,G b=some (HO.tup ys)->G' b=some (HO.tup ys)):∀{l:AR}{xs:AQ},plBL l=true->RpL K G l xs->RpL K G' l xs
 | [],_,_,r=>by rw[RpL]at r ⊢;exact r
 | d::l,_,h,r=>by
   rw[RpL]at r ⊢;rw[plBL,Qb]at h;obtain⟨x,xs,e,g,q⟩:=r;exact⟨x,xs,e,Rp.plain hG h.1 g,RpL.plain hG h.2 q⟩
end
def Yno(is:AG)(f:AX):AX:=λρ=>(f (frz is ρ)).bind λd=>if plB d=true then some d else none
end
end
section
def zK(ns:AH)(vxs:AQ):List (Key×V):=(ns.zip vxs).map λp=>(Sum.inl p.1,p.2)
def Ygi(n:Int)(v:V)(ns:AH)(vxs:AQ):zK (n::ns) (v::vxs)=(Sum.inl n,v)::zK ns vxs:=rfl
theorem Yad7:∀{kvs:List (Key×V)}{ns:AH},kvs.map (λp=>kV p.1)=ns.map V.int->kvs=zK ns (kvs.map (·.2))
 | [],ns,h=>by
   cases ns with
   | nil=>rfl
   | cons n ns=>cases h
 | (k,v)::kvs,[],h=>by cases h
 | (k,v)::kvs,n::ns,h=>by
   rw[Qa,Qa]at h;injection h with h1 h2
   cases k with
   | inl i=>
     have:i=n:=by simp[kV]at h1;exact h1
     subst this;rw[Qa,Ygi,<-Yad7 h2]
   | inr x=>cases h1
theorem Yws(i:Int):∀(ns:AH) (vxs:AQ),valV (zK ns vxs) (Sum.inl i)=Yad ns vxs i
 | [],vxs=>by simp[zK,Yad,valV]
 | n::ns,[]=>by simp[zK,Yad,valV]
 | n::ns,v::vxs=>by
   rw[Ygi,Yad];by_cases h:n=i
   ·rw[if_pos h,Yk8 (by simp[h])]
   ·rw[if_neg h,Yk9 (by simpa using h)]
    exact Yws i ns vxs
theorem Ygj:∀(ns:AH) (vxs:AQ),ns.length=vxs.length->(zK ns vxs).map (·.1)=ns.map Sum.inl
 | [],vxs,_=>rfl
 | n::ns,[],h=>by simp at h
 | n::ns,v::vxs,h=>by
   rw[Ygi,Qa,Qa,Ygj ns vxs (by simpa using h)]
theorem y1j(ns:AH)(vxs:AQ)(h:ns.length=vxs.length):(zK ns vxs).length=ns.length:=by
 have:=congrArg List.length (Ygj ns vxs h);grind
theorem y7u(i:Int):∀(ns:AH) (vxs:AQ),ns.length=vxs.length->((zK ns vxs).any λkv=>decide (kv.1=Sum.inl i))=decide (i∈ns)
 | [],vxs,_=>by simp[zK]
 | n::ns,[],h=>by simp at h
 | n::ns,v::vxs,h=>by
   rw[Ygi,List.any_cons,y7u i ns vxs (by simpa using h)];grind
theorem y7v(i:Int)(y:V):∀(ns:AH) (vxs:AQ),ns.length=vxs.length->ns.Nodup->(zK ns vxs).map (λkv=>if kv.1=Sum.inl i then (kv.1,y)else kv)=zK ns (setK ns vxs i y)
 | [],vxs,_,_=>by simp[zK]
 | n::ns,[],h,_=>by simp at h
 | n::ns,v::vxs,h,hn=>by
   obtain⟨h1,h2⟩:=List.nodup_cons.mp hn
   have hl:ns.length=vxs.length:=by simpa using h
   rw[Ygi,Qa,setK];by_cases e:n=i
   ·subst e
    rw[if_pos rfl,if_pos rfl,Ygi]
    have:(zK ns vxs).map (λkv=>if kv.1=Sum.inl n then (kv.1,y)else kv)=zK ns vxs:=by
     refine(Qj λkv hkv=>?_).trans (List.map_id _);rw[if_neg]
     ·rfl
     ·intro z
      have:kv.1∈(zK ns vxs).map (·.1):=List.mem_map_of_mem hkv;rw[Ygj ns vxs hl,z]at this;grind
    rw[this]
   ·rw[if_neg (by simpa using e),if_neg e,Ygi,y7v i y ns vxs hl h2]
def y92(i:Int)(y:V):∀(ns:AH) (vxs:AQ),ns.length=vxs.length->zK (ns++[i]) (vxs++[y])=zK ns vxs++[(Sum.inl i,y)]:=λns vxs h=>by
 unfold zK;rw[List.zip_append h,wt];rfl
def putI(ns:AH)(vxs:AQ)(i:Int)(y:V):List Int×AQ:=if i∈ns then (ns,setK ns vxs i y)else (ns++[i],vxs++[y])
def y7w(h:ns.length=vxs.length)(hn:ns.Nodup)(i:Int)(y:V):putK (zK ns vxs) (Sum.inl i) y=zK (putI ns vxs i y).1 (putI ns vxs i y).2:=by
 unfold putK putI;rw[y7u i ns vxs h];by_cases e:i∈ns
 ·rw[if_pos (wn e),if_pos e]
  exact y7v i y ns vxs h hn
 ·rw[if_neg (by simpa using e),if_neg e,y92 i y ns vxs h]
variable {K:W7}
theorem Ynp(hn:intsD ks=some ns)(d:Dc false G H a kxs vxs)(r:RpL K G ks kxs):H a=some (.dK (zK ns vxs))/\ns.Nodup/\ns.length=vxs.length/\kxs=ns.map V.int:=by
 cases Yd4 hn;have e:=Yg8 r;rcases d with⟨_,kvs,h1,h2,h3,h4⟩|⟨h,_⟩
 ·rw[e]at h3
  have hz:=Yad7 h3.symm;rw[<-h4]at hz
  have hl:ns.length=vxs.length:=by
   have:=congrArg List.length h3;grind
  refine⟨by grind,?_,hl,e⟩;rw[hz,Ygj ns vxs hl]at h2;grind
 ·cases h
theorem y1k(h:H a=some (.dK (zK ns vxs)))(hn:ns.Nodup)(hl:ns.length=vxs.length):Dc false G H a (ns.map V.int) vxs:=by
 refine .inl ⟨rfl,zK ns vxs,h,by rw[Ygj ns vxs hl];grind,?_,?_⟩
 ·have:=congrArg (List.map kV) (Ygj ns vxs hl)
  rw[Qd,Qd]at this;exact(this.trans (Qj λ_ _=>rfl)).symm
 ·unfold zK
  rw[Qd];have:(λp:Int×V=>((Sum.inl p.1,p.2):Key×V).2)=λp=>p.2:=rfl;show vxs=(ns.zip vxs).map λp:Int×V=>p.2;clear h hn this
  induction ns generalizing vxs with
  | nil=>cases vxs with
    | nil=>rfl
    | cons=>simp at hl
  | cons n ns ih=>cases vxs with
    | nil=>simp at hl
    | cons v vxs=>simp;grind
def getI:D->D->Option D
 | .dct false ks vs,.int i=>(intsD ks).bind λns=>Yad ns vs i
 | _,_=>none
def hasI(neg:Bool):D->D->Option Bool
 | .int i,.dct false ks _=>(intsD ks).map λns=>decide (i∈ns)!=neg
 | _,_=>none
def rIxI:R2:=λx y H Q=>∃a z,x=.ref a/\DGet H a y (some z)/\Q z H
def rInI(neg:Bool):R2:=λx y H Q=>∃a o,y=.ref a/\DGet H a x o/\Q (.bl (o.isSome != neg)) H
def y5q:Sem2 K rIxI getI:=by
 intro x y dx dy d H G Q h s rx ry q;unfold getI at h
 split at h
 ·rename_i ks vs i
  obtain⟨ns,h1,h⟩:=qa h;rw[Ct]at rx;rw[Ct]at ry;subst ry;obtain⟨a,kxs,vxs,rfl,dc,r1,r2⟩:=rx;obtain⟨e1,e2,e3,e4⟩:=Ynp h1 dc r1;obtain⟨v,f1,f2⟩:=(Ymb i r2).1 d h;refine⟨a,v,rfl,?_,q v H G (.refl s) f2⟩;have:=DGet.k (k:=Sum.inl i) e1;rw[Yws,f1]at this;exact this
 ·cases h
def Yyh{vxs:AQ}{i:Int}(hl:ns.length=vxs.length):(Yad ns vxs i).isSome=decide (i∈ns):=by
 cases h:Yad ns vxs i with
 | none=>
   have:=(Yc8 (x:=i) (ks:=ns) (vs:=vxs) hl.symm).mp h;simp[this]
 | some v=>
   have:i∈ns:=Classical.byContradiction λz=>by
    rw[(Yc8 (x:=i) (ks:=ns) (vs:=vxs) hl.symm).mpr z]at h;cases h
   simp[this]
def Ypu:Yhl K (rInI neg) (hasI neg):=by
 intro x y dx dy b H G Q h s rx ry q;unfold hasI at h
 split at h
 ·rename_i i ks vs
  obtain⟨ns,h1,rfl⟩:=qc h;rw[Ct]at rx;rw[Ct]at ry;subst rx;obtain⟨a,kxs,vxs,rfl,dc,r1,r2⟩:=ry;obtain⟨e1,e2,e3,e4⟩:=Ynp h1 dc r1;refine⟨a,Yad ns vxs i,rfl,?_,?_⟩
  ·have:=DGet.k (k:=Sum.inl i) e1
   rw[Yws]at this;exact this
  ·rw[Yyh e3]
   exact q
 ·cases h
section
variable {X:Cx}
theorem Yago(hu:X.A.units+64<cLine):IxR X rIxI:=by
 intro value slice pins s σ H x y v u Q I rx ry h hs;obtain⟨a,z,rfl,g,q⟩:=h;cases rx;exact tail_any (Yub I g) PySem.F.slot_dict_getitem.lookup (Yz4 (by lia) I g ry λw' s3 I3 rw'=>⟨z,H,I3,rw',q⟩) hs
theorem y7x(hu:X.A.units+64<cLine):OpR X (compareOp .In) (rInI false):=by
 intro pins s σ H x y v u Q I rx ry h;obtain⟨a,o,rfl,g,q⟩:=h;cases ry
 exact d_in (by lia) I g rx λs3 I3=>⟨.bl (o.isSome != false),H,I3,by simp;rfl,q⟩
theorem Ysa(hu:X.A.units+64<cLine):OpR X (compareOp .NotIn) (rInI true):=by
 intro pins s σ H x y v u Q I rx ry h;obtain⟨a,o,rfl,g,q⟩:=h;cases ry
 exact y8t (by lia) I g rx λs3 I3=>⟨.bl (o.isSome != true),H,I3,by simp;rfl,q⟩
def Yad8:V->V->V->Hp->(Hp->Prop)->Prop:=λo i v H Q=>∃a H',o=.ref a/\DPut H a i v H'/\Q H'
theorem Yad9(hu:X.A.units+64<cLine):PSet X Yad8:=by
 intro pins s σ H o i v ov iv u Q I ro ri rv h;obtain⟨a,H',rfl,g,q⟩:=h;cases ro
 exact Yz6 (by lia) I g ri rv λs4 I4=>⟨_,I4,q⟩
variable {a b e f':Expr}{fa fb f fz:AX}{pos:Pos}
def Yuq(i:Nat):AU:=λρ=>some (.nx (ρ.set i (some (.od false [] []))))
def Yku(i:Nat):Ro->Option (List D×AR):=λρ=>match ρ[i]? with
 | some (some (B.od false ks vs))=>some (ks,vs)
 | _=>none
theorem Yom(h:Yku i ρ=some l):ρ[i]?=some (some (B.od false l.1 l.2)):=by
 unfold Yku at h;grind
def Yur(ks vs:AR)(k d:D):Option (List D×AR):=(intsD ks).bind λns=>match k with
 | .int i=>if vs.length<cap6 then some (if i∈ns then (ks,setK ns vs i d)else (ks++[k],vs++[d]))else none
 | _=>none
def Yus(i:Nat)(fi f:AX):AU:=λρ=>(f ρ).bind λd=>(Yku i ρ).bind λl=>(fi ρ).bind λk=>(Yur l.1 l.2 k d).map λl'=>.nx (ρ.set i (some (.od false l'.1 l'.2)))
def Ypv:D->D->D->Option D
 | .dct false ks vs,.int i,z=>(intsD ks).map λns=>(Yad ns vs i).getD z
 | _,_,_=>none
def b3{α:Type}(fa fb fc:AX)(g:D->D->D->Option α):Ro->Option α:=λρ=>(fa ρ).bind λx=>(fb ρ).bind λy=>(fc ρ).bind λz=>g x y z
theorem Yyi(h:Ypv x y z=some d):∃ks vs i ns,x=.dct false ks vs/\y=.int i/\intsD ks=some ns/\d=(Yad ns vs i).getD z:=by
 unfold Ypv at h
 split at h
 ·obtain⟨ns,h1,h2⟩:=qc h
  grind
 ·cases h
end
section
variable {prog:P7}{w:World}{A:Around}{E:AB}{s:Shared}{X:Cx}{e:Expr}{f:AX}{p pos:Pos}
def Ypw:isSubtype (.type "dict") (.type "dict")=pure true:=by rw[isSubtype_type];kernel_rfl
def PIn(vals:AH)(i:Nat)(v:Value):Prop:=∃k t,vals[i]?=some k/\v=.int k t
theorem y97:∀{acc:AD},acc.length=vals.length->(∀(j:Nat) v,acc[j]?=some v->PIn vals j v)->IntsAre acc vals:=by
 induction vals with
 | nil=>
   intro acc h _;rw[List.length_eq_zero_iff.mp h];exact .nil
 | cons k r ih=>
   intro acc h hp
   match acc,h with
   | v::acc,h=>
     obtain⟨k',t,e1,e2⟩:=hp 0 v rfl;simp at e1;subst e1;subst e2;refine .cons _ t (ih (by simpa using h) λj v hj=>?_);obtain⟨k',t,e1,e2⟩:=hp (j+1) v (by simpa using hj);exact⟨k',t,by simpa using e1,e2⟩
theorem Ysb{ns:AH}(hh:A.handled=none)(hd:(a==sysModules)=false)(hS:s.heap.DictOf (Yaj prog w) a kvs)(hk:kvs.map (·.1)=ns.map Sum.inl)(hl:ns.length<=1000)(hQ:∀(h':Heap) (tk:Nat) (acc:AD),~~~s<=h'.objs.size->(∀b o,s.heap.get? b=some o->h'.get? b=some o)->IntsAre acc ns->Q acc { s with heap:=h',toks:=tk }):
 wpAny (mZ prog w) A (collect (.ref a)) Q E s:=by
 obtain⟨o,es,ep,ho,hex,hdat,hrest⟩:=id hS;have hlt:a< ~~~s:=ql ho
 have hlen:kvs.length=ns.length:=by have:=congrArg List.length hk;grind
 unfold collect;refine wa (wpAny_runValue (wz F.entry_proto_collect ?_));rw[je F.plain_proto_collect _];show wpAny _ A.in1 (newList []>>=λl=>again (.builtin "list.__iadd__" ⟨[l,.ref a],[]⟩)) _ _ s;refine wa (wg ?_);refine wb ⟨jd F.plain_list_iadd _,wz F.entry_list_iadd ?_⟩;rw[je F.plain_list_iadd _];generalize hH:s.heap.push { cls:=.type "list",data:=.seq ([]:AD).toArray }=H
 have hHs:H.objs.size= ~~~s+1:=by rw[<-hH,ww]
 have keepH:∀b o,s.heap.get? b=some o->H.get? b=some o:=λb o e=>by rw[<-hH];exact qe _ e
 have hL:H.get? (~~~s)=some { cls:=.type "list",data:=.seq ([]:AD).toArray }:=by rw[<-hH];exact qp _ rfl
 have hoH:=keepH a o ho
 have hT:Shared.TypeIs { s with heap:=H } (.ref a) "dict":=⟨o,hoH,hex.1⟩
 have hSI:(~~~s)≠a:=λz=>by grind
 have h1:Builtin.List.listSameRef (.ref (~~~s)) (.ref a)=false:=by simp[Builtin.List.listSameRef,hSI]
 show wpAny _ A.in1 (Builtin.List.listExtendWith (.ref (~~~s)) (.ref a) (.ref (~~~s))) _ _ _;unfold Builtin.List.listExtendWith;refine wa (wpAny_typeOf hT ?_)
 have h2:(Value.type "dict"==Value.type "list")=false:=by decide
 have h3:(Value.type "dict"==Value.type "tuple")=false:=by decide
 simp only[h1,h2,h3,Bool.or_false,Bool.false_eq_true,if_false]
 have hat:H.DictAt (Yaj prog w) a kvs ep:=⟨o,es,hoH,hex,hdat,hrest⟩
 refine wa (wpAny_pyIter_dict (s:={ s with heap:=H }) hd hat ?_);generalize hO:({ cls:=.type "dict_keyiterator",data:=.fields #[.ref a,.int 0 0,.int kvs.length 0,.int ep 0] }:Obj)=itO;have hoI:(H.push itO).get? a=some o:=qe _ hoH
 have hT':Shared.TypeIs { s with heap:=H.push itO } (.ref a) "dict":=⟨o,hoI,hex.1⟩
 refine wa (wc ?_);unfold Builtin.List.listLengthHint;refine wa (wpAny_specialOf hT' F.slot_dict_len.lookup ?_)
 (generalize hid:("dict.__len__":String)=id0;(fail_if_success (clear hid id0));wp_delta;rw[show splitId id0=some ("dict","__len__") from by subst hid;decide +kernel];subst hid)
 refine wa (wpAny_isInstance (b:=true) hT' Ypw ?_);show wpAny _ A.in1 (typeOf (Value.ref a)>>=_) _ _ _;refine wa (wpAny_typeOf hT' ?_);refine wb ?_;rw[if_pos (by decide)];refine wa (wpAny_rule ?_)
 have haI:a≠H.objs.size:=λz=>by grind
 have hSf:(~~~s)∉[H.objs.size,a]:=λhm=>by
  grind
 have hS₁:(H.push itO).get? (~~~s)=some { cls:=.type "list",data:=.seq ([]:AD).toArray }:=qe _ hL;refine wa ?_;show wpAny _ A.in1 (updateSeq (~~~s) (·.push .none)>>=λ_=>updateSeq (~~~s) (·.pop)) _ _ _;refine wa (wpAny_updateSeq hS₁ rfl ?_);have hS₂:=wy (Obj.mapSeq (·.push Value.none)) hS₁ rfl;refine wpAny_updateSeq hS₂ rfl ?_;have hS₃:=wy (Obj.mapSeq (·.pop)) hS₂ rfl
 have oth:∀b o,b≠(~~~s)->(H.push itO).get? b=some o->
  (((H.push itO).update (~~~s) (Obj.mapSeq (·.push Value.none))).update (~~~s) (Obj.mapSeq (·.pop))).get? b=some o:=
  λb o hb e=>(Heap.get?_update_other _ _ (Ne.symm hb)).trans ((Heap.get?_update_other _ _ (Ne.symm hb)).trans e)
 have W:=(Walks.dictKeys (prog:=prog) (w:=w) (knd:=Yaj prog w) (A:=A.in1) hh H.objs.size a haI kvs ep).toS
 have hst:(H.push itO).IsKeyIter H.objs.size a 0 kvs.length ep/\(H.push itO).DictAt (Yaj prog w) a kvs ep:=⟨⟨_,qp _ (by rw[<-hO];rfl),by rw[<-hO],by grind⟩,hat.at' λo e=>qe _ e⟩
 refine wb ⟨jd F.plain_extend_loop _,codeAny_extend_loopS W (by rw[ji,hlen];lia) _ hSf _ kvs.length 0 _ _ _ rfl (Qf _)
  (W.frame 0 ({ s with heap:=H.push itO }:Shared) _ s.toks hst (qu _) λb hb o e=>oth b o (λh=>hSf (h ▸ hb)) e) hS₃ (ItemsOf.nil _) λs' acc' c' hm hS' hacc=>?_⟩
 show wpAny _ A (load (~~~s)>>=_) _ _ s';refine wa (wpAny_load hS' ?_);have eg:s'.gens=s.gens:=hm.gens;have ed:s'.drawn=s.drawn:=hm.drawn;have eo:s'.os=s.os:=hm.os
 have es':s'={ s with heap:=s'.heap,toks:=s'.toks }:=by
  obtain⟨a1,a2,a3,a4,a5⟩:=s';grind
 rw[es'];refine wb (hQ s'.heap s'.toks acc'.toList (Nat.le_of_lt (ql hS')) (λb ob e=>?_) (y97 (by rw[qj,hacc.1,hlen]) λj v hj=>?_))
 ·have hb:b< ~~~s:=ql e
  refine hm.heap b ob (λhm'=>?_) (oth b ob (qm hb) (qe _ (keepH b ob e)));grind
 ·obtain⟨k,x,e1,e2⟩:=hacc.2 j v (by grind)
  have hkj:(kvs.map (·.1))[j]?=some k:=by grind
  rw[hk,Qi]at hkj;obtain⟨n,hn,rfl⟩:=qc hkj;have e2':Yt4 (Sum.inl n) v=true:=e2;rcases Ya7 e2' with⟨i,t,h1,h2⟩|⟨x,t,h1,h2⟩
  ·injection h1 with h1
   exact⟨n,t,hn,by rw[h2,h1]⟩
  ·cases h1
theorem Yut{ns:AH}(hh:A.handled=none)(hd:(a==sysModules)=false)(hS:s.heap.DictOf (Yaj prog w) a kvs)(hk:kvs.map (·.1)=ns.map Sum.inl)(h64:ns.length<64)(hQ:∀(h':Heap) (tk e:Nat) (p:Addr) (out:Array Value) (ns':AH),(∀b o,s.heap.get? b=some o->h'.get? b=some o)->(~~~s)<=p->h'.get? p=some (seqObj "list" out e)->IntsAre out.toList ns'->ns'.Perm ns->ns'.Pairwise (·<=·)->
  Q (.ref p) { s with heap:=h',toks:=tk }):wpAny (mZ prog w) A (call (.builtin "sorted") [.ref a]) Q E s:=by
 refine Calls.call_function_entry kind_sorted plain_sorted entry_sorted (args_sorted1 _) ?_;unfold Builtin.«sorted»;refine wa (m:=checkCount "sorted" 1 1 _) (wb ?_);refine wa (Ysb (A:=A.in1) hh hd hS hk (by lia) λh' tk acc hle keep hI=>?_);have hl:acc.length=ns.length:=IntsAre.length hI
 have h64':acc.length<64:=by grind
 refine wa (wpAny_newList ?_ (by rw[ji];lia));have hoL:(h'.push (seqObj "list" acc.toArray 0)).get? h'.objs.size=some (seqObj "list" acc.toArray 0):=qp _ rfl;show wpAny _ _ _ _ _ { s with heap:=h'.push (seqObj "list" acc.toArray 0),toks:=tk };refine wa (wc (we slot_list_sort ⟨_,hoL,rfl⟩ entry_list_sort (list_sort_tree (s:={ s with heap:=h'.push (seqObj "list" acc.toArray 0),toks:=tk }) hoL hI h64' λout ns' a1 a2 a3=>⟨_,rfl,?_⟩) (args_list_sort _)));obtain⟨e,he⟩:=sortedHeap_at (n:=0) (out:=out) hoL;refine wb ⟨_,rfl,hQ _ tk e h'.objs.size out ns' (λb o eb=>?_) hle he a1 a2 a3⟩;have hb:=ql (keep b o eb);rw[sortedHeap_old (qm hb) (by rw[size_push'];grind)];exact qe _ (keep b o eb)
def y1l:AQ->Hp->VK->Prop:=λxs H Q=>∃a kvs ns,xs=[.ref a]/\Rd H a (.dK kvs)/\kvs.map (·.1)=ns.map Sum.inl/\ns.length<64/\∀p,H p=none->Q (.ref p) (upd H p (.lst ((Yc6 ns).map V.int)))
theorem Ymd(hc:X.calm=true):Ydq X (.builtin "sorted") y1l:=by
 intro pins s σ H xs us Q I r h;obtain⟨a,kvs,ns,rfl,hq,hk,hl,q⟩:=h;obtain⟨u,rfl,rx⟩:=Yhj r;cases rx;have hh:X.A.handled=none:=I.ok.hd hc;obtain⟨z,hd,vs,rel,dd⟩:=Yro I.hok hq
 have hkv:vs.map (·.1)=ns.map Sum.inl:=by
  rw[<-hk];clear hk dd z hq
  induction rel with
  | nil=>rfl
  | cons r _ ih=>grind
 refine Yut hh hd dd hkv hl λh' tk e p out ns' keep hp he hI hpm hs=>?_;have en:ns'=Yc6 ns:=W.ksm_same (hpm.trans (Yay ns).symm) hs (Ya5 ns);subst en;have hn:(Yc6 ns).length=ns.length:=(Yay ns).length_eq;exact⟨.ref p,_,Inv.laid (t':=tk) I keep hp (show ObjOk X.prog X.w _ _ _ (.lst ((Yc6 ns).map V.int)) from⟨by rw[qf,hn,ji];lia,out.toList,e,Ygg hI,by simp_all⟩),rfl,q _ (I.hok.fresh hp)⟩
def Yh9:AR->Option AR
 | [.dct false ks _]=>(intsD ks).bind λns=>if ns.length<64 then some ((Yc6 ns).map D.int)else none
 | _=>none
def Yon:SemF K y1l Yh9:=by
 intro vs ds l H G Q h s r q;unfold Yh9 at h
 split at h
 ·rename_i ks ws
  obtain⟨v,rfl,rv⟩:=Yc5 r;obtain⟨ns,h1,h⟩:=qa h
  split at h
  ·rename_i h64
   cases h;rw[Ct]at rv;obtain⟨a,kxs,vxs,rfl,dc,rk,rv⟩:=rv;obtain⟨e1,e2,e3,e4⟩:=Ynp h1 dc rk;exact⟨a,_,ns,rfl,.inl e1,Ygj ns vxs e3,h64,λp hp=>q p _ _ G (.hid s hp _) hp (s.free hp) Yu (.ints _)⟩
  ·cases h
 ·cases h
def nr1{α:Sort _}{a b:α}(h:a=b):a=b:=h
@[simp] theorem ap_b3(fa fb fc:AX)(g:D->D->D->Option α):b3 fa fb fc g ρ=(fa ρ).bind λx=>(fb ρ).bind λy=>(fc ρ).bind λz=>g x y z:=nr1 rfl
@[simp] theorem ap_sNewD(i:Nat):Yuq i ρ=some (.nx (ρ.set i (some (.od false [] [])))):=nr1 rfl
@[simp] theorem ap_sPutI(i:Nat)(fi f:AX):Yus i fi f ρ=(f ρ).bind λd=>(Yku i ρ).bind λl=>(fi ρ).bind λk=>(Yur l.1 l.2 k d).map λl'=>.nx (ρ.set i (some (.od false l'.1 l'.2))):=nr1 rfl
@[simp] theorem Yfo(ks vs:AR)(i:Int):getI (.dct false ks vs) (.int i)=(intsD ks).bind λns=>Yad ns vs i:=nr1 rfl
@[simp] theorem Ypx(neg:Bool)(ks vs:AR)(i:Int):hasI neg (.int i) (.dct false ks vs)=(intsD ks).map λns=>decide (i∈ns)!=neg:=nr1 rfl
@[simp] theorem Yme(ks vs:AR)(i:Int)(z:D):Ypv (.dct false ks vs) (.int i) z=(intsD ks).map λns=>(Yad ns vs i).getD z:=nr1 rfl
@[simp] theorem Ye9(ks vs:AR)(i:Int)(d:D):Yur ks vs (.int i) d=(intsD ks).bind λns=>if vs.length<cap6 then some (if i∈ns then (ks,setK ns vs i d)else (ks++[.int i],vs++[d]))else none:=nr1 rfl
@[simp] theorem Ymf(ks vs:AR):Yh9 [.dct false ks vs]=(intsD ks).bind λns=>if ns.length<64 then some ((Yc6 ns).map D.int)else none:=nr1 rfl
@[simp] theorem gOI0(ks vs:AR)(r:Ro):Yku 0 (some (.od false ks vs)::r)=some (ks,vs):=nr1 rfl
@[simp] theorem gOIs(n:Nat)(b:AT)(r:Ro):Yku (n+1) (b::r)=Yku n r:=by simp[Yku]
@[simp] theorem gC0d(t:Bool)(ks vs:AR)(r:Ro):getC 0 (some (.od t ks vs)::r)=some (.dct t ks vs):=nr1 rfl
end
end
section
section
variable {X:Cx}{a b e:Expr}{fa fb f:AX}{pos:Pos}{K:W7}
def shrI:D->D->Option D:=i2 (λ_ j=>decide (0<=j)) λi j=>i/2^j.toNat
def minC:AR->Option D
 | [.int i,.int j]=>some (.int (if j<i then j else i))
 | _=>none
def maxC:AR->Option D
 | [.int i,.int j]=>some (.int (if j > i then j else i))
 | _=>none
def Ysc(r:CtL K G H [.int i,.int j] vs):vs=[.int i,.int j]:=by
 obtain⟨x,r,rfl,h1,h2⟩:=r;obtain⟨y,r,rfl,h3,h4⟩:=h2;cases (show r=[] from h4);rw[Ct]at h1;rw[Ct]at h3;rw[h1,h3]
def Yuu:SemC K (λxs H Q=>∃i j,xs=[.int i,.int j]/\Q (.int (if j<i then j else i)) H) minC:=by
 intro vs ds d H G Q h s r q;unfold minC at h
 split at h
 ·rename_i i j
  cases h;exact⟨i,j,Ysc r,q _ H G (.refl s) (by rw[Rp])⟩
 ·cases h
def y98:SemC K (λxs H Q=>∃i j,xs=[.int i,.int j]/\Q (.int (if j > i then j else i)) H) maxC:=by
 intro vs ds d H G Q h s r q;unfold maxC at h
 split at h
 ·rename_i i j
  cases h;exact⟨i,j,Ysc r,q _ H G (.refl s) (by rw[Rp])⟩
 ·cases h
def nr2{α:Sort _}{a b:α}(h:a=b):a=b:=h
@[simp] theorem minC_ints(i j:Int):minC [.int i,.int j]=some (.int (if j<i then j else i)):=nr2 rfl
@[simp] theorem maxC_ints(i j:Int):maxC [.int i,.int j]=some (.int (if j > i then j else i)):=nr2 rfl
def y1m(i:Int)(j:Nat):shrI (.int i) (.int (j:Int))=some (.int (i/2^j)):=by
 simp[shrI,i2]
end
end
section
section
variable {prog:P7}{w:World}{A:Around}{E:AB}{s:Shared}
def y1n:typeLookup (.type "list") "keys"=pure none:=by rw[typeLookup_type,builtinLookup_eq_fast];kernel_rfl
theorem y1o(ho:s.heap.get? a=some o)(h1:o.cls=.type "list")(h2:o.dict=none)(h3:o.data=.seq its n)(hh:A.handled=none)(hQ:∀h' tk,(∀b ob,s.heap.get? b=some ob->h'.get? b=some ob)->Q none { s with heap:=h',toks:=tk }):
 wpAny (mZ prog w) A (getAttr? (.ref a) "keys") Q E s:=by
 obtain⟨c,dc,dat,sl⟩:=o;simp only at h1 h2 h3;subst h1 h2 h3;obtain⟨hp,g,d,tk,os⟩:=s
 have hT:∀tk',(⟨hp,g,d,tk',os⟩:Shared).TypeIs (.ref a) "list":=λ_=>⟨_,ho,rfl⟩
 have q1:=sub_AttributeError;have q2:=F.slot_list_getattribute.lookup;have q3:=F.slot_list_getattribute.bind (.ref a);have q4:=am_list_getattr_none;have q5:∀t,Meets (Builtin.«object.__getattribute__» ⟨[.ref a,.str "keys" t],[]⟩) _:=λt=>meets_getattribute_miss_list a its n sl "keys" t y1n (by decide);unfold getAttr? getAttrBy? getAttrBy
 repeat (any_goals (first
  | assumption
  | exact hT _
  | ((with_reducible show wpAny _ _ (call (.builtin "list.__getattribute__") _ _) _ _ _)
     refine call_meets F.slot_list_getattribute (hT _) am_entry_list_getattribute (F.args_list_getattribute_2 _ _) (q5 _) ⟨ho,hh,λh' tk' e new=>?_⟩)
  | wp_step))
 obtain⟨t',u',he⟩:=new.there;show wpAny _ _ (getattributeRaised _ _ _ _ _ _ _) _ _ _;unfold getattributeRaised
 repeat (any_goals (first
  | assumption
  | wp_step))
 exact hQ _ _ new.keeps
def PrAt(h:Heap)(u:Value)(p:Int×Value):Prop:=∃t tk o n,u=.ref t/\h.get? t=some o/\o.cls=.type "tuple"/\o.data=.seq #[.int p.1 tk,p.2] n
def y5s(h:Heap):AD->List (Int×Value)->Prop
 | [],[]=>True
 | u::us,p::ps=>PrAt h u p/\y5s h us ps
 | _,_=>False
def Yiu(kvs:List (Key×Value)):List (Int×Value)->List (Key×Value)
 | []=>kvs
 | p::ps=>Yiu (stored kvs (Sum.inl p.1) p.2) ps
theorem Yyj(kvs:List (Key×Value))(k:Key)(v:Value):(stored kvs k v).length<=kvs.length+1:=by
 unfold stored;grind
def Yiv:entryFor table "dict.update.loop"=some Builtin.«dict.update.loop»:=entryFor_of_tree (by kernel_rfl)
def Ydk:plainId "dict.update.loop"=true:=by decide +kernel
def OldH(h0 h:Heap):Prop:=∀b o,h0.get? b=some o->h.get? b=some o
theorem OldH.but(hd:h0.get? d=none)(o:OldH h0 h)(e:Heap.SameBut d h h'):OldH h0 h':=λb ob q=>by
 rw[e.2 b λz=>by grind];exact o b ob q
def IsListIter.but(x:h.IsListIter it L i)(e:Heap.SameBut d h h')(hd:it≠d):h'.IsListIter it L i:=by
 obtain⟨o,ho,r⟩:=x;exact⟨o,by rw[e.2 it hd];exact ho,r⟩
theorem dul{items:AD}(hh:A.handled=none)(hd0:h0.get? d=none)(hi0:h0.get? it=none)(hdi:d≠it)(hL:h0.IsList L items.toArray):
 ∀(ps:List (Int×Value)) (i:Nat) (c:Int) (kvs:List (Key×Value)) (s:Shared),y5s h0 (items.drop i) ps->kvs.length+ps.length<=sizeLine->s.heap.IsListIter it L i->OldH h0 s.heap->s.heap.DictOf (Yaj prog w) d kvs->
 (∀h' tk,OldH h0 h'->h'.DictOf (Yaj prog w) d (Yiu kvs ps)->R (.ok (.ret .none)) { s with heap:=h',toks:=tk })->
 codeAny (mZ prog w) A (.builtin "dict.update.loop" ⟨[.ref d,.ref it,.int c 0,.none],[]⟩) R s:=by
 intro ps
 induction ps with
 | nil=>
   intro i c kvs s hp hz hit ho hd hR;have hL':s.heap.IsList L items.toArray:=let ⟨o,e,r⟩:=hL;⟨o,ho _ _ e,r⟩
   have hx:items.toArray[i]?=none:=by
    cases hdr:items.drop i with
    | nil=>simpa using hdr
    | cons u us=>rw[hdr]at hp;exact hp.elim
   refine wz Yiv ?_;rw[je Ydk _];show wpAny _ A.in1 (pyNext (.ref it)>>=_) _ _ s;refine wa (wpAny_pyNext_list_end (A:=A.in1) hh hit hL' hx λh' hs=>?_);show wpAny _ A.in1 (Builtin.Dict.addKeywords d []>>=_) _ _ _;refine wa (wb (wb (hR h' s.toks (λb ob q=>hs b ob (λz=>by grind) (ho b ob q)) (hd.extBut hs hdi))))
 | cons p ps ih=>
   intro i c kvs s hp hz hit ho hd hR;have hL':s.heap.IsList L items.toArray:=let ⟨o,e,r⟩:=hL;⟨o,ho _ _ e,r⟩
   cases hdr:items.drop i with
   | nil=>rw[hdr]at hp;exact hp.elim
   | cons u us=>
     rw[hdr]at hp;obtain⟨⟨t,tk,ob,n,rfl,ht,hc,hdat⟩,hp⟩:=hp
     have hx:items.toArray[i]?=some (.ref t):=by
      have:=congrArg List.head? hdr;simpa [List.head?_drop]using this
     have hus:us=items.drop (i+1):=by
      have:=congrArg List.tail hdr;simpa using this.symm
     refine wz Yiv ?_;rw[je Ydk _];show wpAny _ A.in1 (pyNext (.ref it)>>=_) _ _ s;refine wa (wpAny_pyNext_list_item hit hL' hx λh1 hi1 hs1=>?_);have ho1:=OldH.but hi0 ho hs1;have hd1:=hd.sameBut hs1 hdi;have ht1:=ho1 _ _ ht
     have hT:(Shared.TypeIs { s with heap:=h1 } (.ref t) "tuple"):=⟨ob,ht1,hc⟩
     show wpAny _ A.in1 (holding [Value.ref t] _>>=_) _ _ _;refine wa (wc (wa (wpAny_tryCatch ?_)));unfold Builtin.Dict.pairItems;refine wa (wpAny_typeOf hT ?_);rw[if_pos (by decide)];refine wa (wpAny_seqItems ht1 hdat (wb ?_));show wpAny _ A.in1 (holding [Value.int p.1 tk,p.2] (dictSet d (.int p.1 tk) p.2)) _ _ _;refine wc (wpAny_dictSet_pairs (s:={ s with heap:=h1 }) (knd:=Yaj prog w) (k:=Sum.inl p.1) (Yt9 (k:=.inl p.1) (u:=.int p.1 tk) ⟨tk,rfl⟩) hd1 (λh2 hd2 hs2=>?_) (by grind));refine wb ⟨jd Ydk _,?_⟩;refine ih (i+1) (c+1) _ _ (by grind) ?_ (IsListIter.but hi1 hs2 (Ne.symm hdi)) (OldH.but hd0 ho1 hs2) hd2 λh' tk' o' d'=>hR h' tk' o' d';have:=Yyj kvs (Sum.inl p.1) p.2;grind
theorem Ymg(hh:A.handled=none)(hL:PlainL s.heap L its.toArray)(hp:y5s s.heap its ps)(hz:ps.length<=sizeLine)(hQ:∀h' tk,OldH s.heap h'->h'.DictOf (Yaj prog w) (~~~s) (Yiu [] ps)->Q (.ref (~~~s)) { s with heap:=h',toks:=tk }):
 wpAny (mZ prog w) A (call (.type "dict") [.ref L]) Q E s:=by
 generalize hO:({ cls:=.type "dict",data:=.dict #[] }:Obj)=dO;refine callType_codes (Q₁:=λobj s₁=>obj=.ref (~~~s)/\s₁={ s with heap:=s.heap.push dO }) F.kt_called_dict (F.kt_typeCall_dict_1 _) F.entry_dict_init (kt_code_dict_new _ ⟨rfl,by rw[hO]⟩) ?_;rintro obj s₁ ⟨rfl,rfl⟩
 have hnew:(s.heap.push dO).DictOf (Yaj prog w) (~~~s) []:=by rw[<-hO];exact Heap.DictOf.new s.heap
 refine⟨hnew.typeIs,F.args_dict_init_2 _ _,?_⟩;unfold Builtin.«dict.__init__»;refine wa ?_;unfold Builtin.Dict.selfAndRest;refine wa (wpAny_notOrdered_dict hnew.typeIs ?_);show wpAny _ _ (pure (~~~s,[Value.ref L])) _ _ _;refine wb ?_;show wpAny _ _ (Builtin.Dict.updateFrom "dict.__init__" (~~~s) (.ref L) [] .none) _ _ _;unfold Builtin.Dict.updateFrom;obtain⟨o,n,e,h1,h2,h3⟩:=hL;have e':(s.heap.push dO).get? L=some o:=qe _ e
 have hT:Shared.TypeIs { s with heap:=s.heap.push dO } (.ref L) "list":=⟨o,e',h1⟩
 refine wa (wpAny_typeOf hT ?_);rw[if_pos (by decide)];refine wa (y1o (A:=A.in1.in1) (s:={ s with heap:=s.heap.push dO }) e' h1 h2 h3 (by simp[hh]) λh' tk keep=>?_);rw[if_pos (by rfl)];refine wa (wpAny_rule (wa ?_))
 have hL':h'.IsList L its.toArray:=⟨o,keep _ _ e',h1,n,h3⟩
 refine wpAny_pyIter_list (s:={ s with heap:=h',toks:=tk }) hL' ?_;have old1:OldH s.heap h':=λb ob q=>keep _ _ (qe _ q);obtain⟨od,es,ep,hod,hrest⟩:=id hnew;have hd':=keep _ _ hod;have hlt:(~~~s)<h'.objs.size:=ql hd';generalize hI:({ cls:=.type "list_iterator",data:=.fields #[.ref L,.int 0 0] }:Obj)=iO;refine wb ⟨jd Ydk _,?_⟩;refine dul (h0:=s.heap) (by simp[hh]) (Heap.get?_none_of_le (qu _)) (Heap.get?_none_of_le (Nat.le_of_lt hlt)) (qm hlt) ⟨o,e,h1,n,h3⟩ ps 0 0 [] _ (by grind) (by grind) ?_ (λb ob q=>qe _ (old1 b ob q)) ⟨od,es,ep,qe _ hd',hrest⟩ λh2 tk2 o2 d2=>?_
 ·exact⟨iO,qp _ (by rw[<-hI];rfl),by rw[<-hI],by grind⟩
 grind
end
def Ywt(H:Hp):AQ->List (Int×V)->Prop
 | [],[]=>True
 | x::xs,q::qs=>(∃b,x=.ref b/\H b=some (.tup [.int q.1,q.2]))/\Ywt H xs qs
 | _,_=>False
def Yfa(kvs:List (Key×V)):List (Int×V)->List (Key×V)
 | []=>kvs
 | q::qs=>Yfa (putK kvs (Sum.inl q.1) q.2) qs
def QP:List (Int×V)->List (Int×Value)->Prop
 | [],[]=>True
 | q::qs,p::ps=>(q.1=p.1/\RelV q.2 p.2)/\QP qs ps
 | _,_=>False
theorem QP.length:∀{qs:List (Int×V)}{ps:List (Int×Value)},QP qs ps->ps.length=qs.length
 | [],[],_=>rfl
 | q::qs,p::ps,h=>by rw[qr,qr,QP.length h.2]
 | [],_::_,h=>h.elim
 | _::_,[],h=>h.elim
theorem Ywu:∀{qs:List (Int×V)}{ps:List (Int×Value)}{kvs:List (Key×V)}{vs:List (Key×Value)},QP qs ps->KV kvs vs->KV (Yfa kvs qs) (Yiu vs ps)
 | [],[],_,_,_,r=>r
 | q::qs,p::ps,kvs,vs,h,r=>by
   obtain⟨⟨h1,h2⟩,h⟩:=h;rw[Yfa,Yiu,<-h1];exact Ywu h (r.put (Sum.inl q.1) h2)
 | [],_::_,_,_,h,_=>h.elim
 | _::_,[],_,_,h,_=>h.elim
theorem Yj0:∀(qs:List (Int×V)) (kvs:List (Key×V)),(Yfa kvs qs).length<=kvs.length+qs.length
 | [],kvs=>by rw[Yfa];simp
 | q::qs,kvs=>by
   rw[Yfa,qr];have h1:=Yj0 qs (putK kvs (Sum.inl q.1) q.2);have h2:=Yh0 kvs (Sum.inl q.1) q.2;lia
section
variable {X:Cx}
theorem Ysd{σ:L2.St}(I:Inv X pins σ H s):∀{ys:AQ}{its:AD}{qs:List (Int×V)},Ywt H ys qs->Vals ys its->∃ps,y5s s.heap its ps/\QP qs ps
 | [],its,[],_,r=>by
   cases r;exact⟨[],trivial,trivial⟩
 | y::ys,its,q::qs,h,r=>by
   obtain⟨⟨b,rfl,hb⟩,h⟩:=h
   cases r with
   | cons r1 r2=>
     cases r1;obtain⟨ps,h1,h2⟩:=Ysd I h r2;obtain⟨its2,rv,⟨o,e,hc,n,hd⟩,_⟩:=I.tuple (xs:=[.int q.1,q.2]) (.of hb)
     cases rv with
     | cons ra rb=>
       cases rb with
       | cons rc rd=>
         cases rd;obtain⟨t,rfl⟩:=ra;exact⟨(q.1,_)::ps,⟨⟨b,t,o,n,rfl,e,hc,hd⟩,h1⟩,⟨⟨rfl,rc⟩,h2⟩⟩
 | [],_,_::_,h,_=>h.elim
 | _::_,_,[],h,_=>h.elim
def Yaec(K:W7):AQ->Hp->VK->Prop:=λxs H Q=>∃a ys qs,xs=[.ref a]/\SqL K H a ys/\Ywt H ys qs/\qs.length<cap6/\∀p,H p=none->Q (.ref p) (upd H p (.dK (Yfa [] qs)))
theorem Yoo(hc:X.calm=true):Ydq X (.type "dict") (Yaec X.K):=by
 intro pins s σ H xs us Q I r h;obtain⟨a,ys,qs,rfl,hq,hv,hl,q⟩:=h;obtain⟨u,rfl,rx⟩:=Yhj r;cases rx;have hh:X.A.handled=none:=I.ok.hd hc;obtain⟨its,rv,pl,hz⟩:=I.list hq;obtain⟨ps,h1,h2⟩:=Ysd I hv rv;have hcap:cap6=1000000:=rfl
 have hps:ps.length<=sizeLine:=by rw[h2.length,ji];lia
 refine Ymg hh pl h1 hps λh' tk old dd=>?_;refine⟨.ref (~~~s),_,I.laid (t':=tk) (λb o e=>old b o e) (qu _) (Yz5 ?_ (beq_eq_false_iff_ne.mpr (Ne.symm (qm I.big))) (Ywu h2 .nil) dd),rfl,q _ (I.hok.fresh (qu _))⟩;have:=Yj0 qs [];rw[ji];grind
end
def Ydw:AR->Option (List (Int×D))
 | []=>some []
 | .tup [.int i,v]::l=>(Ydw l).map ((i,v)::·)
 | _=>none
def pairsOf:D->Option (List (Int×D))
 | .lst l=>Ydw l
 | _=>none
def putG{α:Type}(ns:AH)(vs:List α)(i:Int)(y:α):List Int×List α:=if i∈ns then (ns,setK ns vs i y)else (ns++[i],vs++[y])
def dctG{α:Type}(ns:AH)(vs:List α):List (Int×α)->List Int×List α
 | []=>(ns,vs)
 | p::ps=>dctG (putG ns vs p.1 p.2).1 (putG ns vs p.1 p.2).2 ps
theorem Yop(h:ns.Nodup):(putG ns vs i y).1.Nodup:=by
 unfold putG;grind
def Ypy(h:ns.length=vs.length):(putG ns vs i y).1.length=(putG ns vs i y).2.length:=by
 unfold putG
 split
 ·rw[Yed];exact h
 ·simp[h]
variable {K:W7}
def DQ(K:W7)(G:Hp):List (Int×D)->List (Int×V)->Prop
 | [],[]=>True
 | d::ds,q::qs=>(d.1=q.1/\Rp K G d.2 q.2)/\DQ K G ds qs
 | _,_=>False
theorem DQ.length:∀{ds:List (Int×D)}{qs:List (Int×V)},DQ K G ds qs->qs.length=ds.length
 | [],[],_=>rfl
 | q::qs,p::ps,h=>by rw[qr,qr,DQ.length h.2]
 | [],_::_,h=>h.elim
 | _::_,[],h=>h.elim
theorem Ymh(s:Same G H):∀{l:AR}{ps:List (Int×D)}{xs:AQ},Ydw l=some ps->RpL K G l xs->∃qs,Ywt H xs qs/\DQ K G ps qs
 | [],ps,xs,e,r=>by
   rw[Ydw]at e;cases e;rw[RpL]at r;subst r;exact⟨[],trivial,trivial⟩
 | d::l,ps,xs,e,r=>by
   unfold Ydw at e
   split at e
   case h_1 he=>cases he
   case h_2 i v l' he=>
    injection he with he1 he2;subst he1 he2;obtain⟨ps',h1,rfl⟩:=qc e;rw[RpL]at r;obtain⟨x,xr,rfl,rx,rr⟩:=r;obtain⟨qs,h2,h3⟩:=Ymh s h1 rr;rw[Rp]at rx;obtain⟨b,ys,rfl,hb,ry⟩:=rx;rw[RpL]at ry;obtain⟨y1,yr,rfl,r1,ry⟩:=ry;rw[RpL]at ry;obtain⟨y2,yr,rfl,r2,ry⟩:=ry;rw[RpL]at ry;subst ry;rw[Rp]at r1;subst r1;exact⟨(i,y2)::qs,⟨⟨b,rfl,s _ _ hb⟩,h2⟩,⟨⟨rfl,r2⟩,h3⟩⟩
   grind
def Yiw:∀{ps:List (Int×D)}{qs:List (Int×V)}{ns:AH}{ds:AR}{vxs:AQ},DQ K G ps qs->ns.Nodup->ns.length=vxs.length->RpL K G ds vxs->
 ∃vx',Yfa (zK ns vxs) qs=zK (dctG ns ds ps).1 vx'/\(dctG ns ds ps).1.Nodup/\(dctG ns ds ps).1.length=vx'.length/\RpL K G (dctG ns ds ps).2 vx'
 | [],[],ns,ds,vxs,_,h1,h2,h3=>⟨vxs,rfl,h1,h2,h3⟩
 | d::ps,q::qs,ns,ds,vxs,h,h1,h2,h3=>by
   obtain⟨⟨e,r⟩,h⟩:=h;rw[Yfa,y7w h2 h1,dctG]
   have e1:(putI ns vxs q.1 q.2).1=(putG ns ds d.1 d.2).1:=by
    unfold putI putG;rw[e]
    split<;>rfl
   rw[e1];refine Yiw h (Yop h1) ?_ ?_
   ·rw[<-e1]
    exact Ypy (vs:=vxs) h2
   ·unfold putI putG
    rw[e]
    split
    ·exact Ypr q.1 r h3
    ·exact RpL.snoc r h3
 | [],_::_,_,_,_,h,_,_,_=>h.elim
 | _::_,[],_,_,_,h,_,_,_=>h.elim
section
variable {X:Cx}{e:Expr}{f:AX}{pos:Pos}{prog:P7}{w:World}{A:Around}{E:AB}{s:Shared}
def sDct(i:Nat)(f:AX):AU:=λρ=>((f ρ).bind pairsOf).bind λps=>if ps.length<cap6 then some (.nx (ρ.set i (some (.od false ((dctG [] [] ps).1.map D.int) (dctG [] [] ps).2))))else none
@[simp] theorem y99(i:Nat):sDct i f ρ=((f ρ).bind pairsOf).bind λps=>if ps.length<cap6 then some (.nx (ρ.set i (some (.od false ((dctG [] [] ps).1.map D.int) (dctG [] [] ps).2))))else none:=nr1 rfl
@[simp] theorem pairsOf_lst(l:AR):pairsOf (.lst l)=Ydw l:=nr1 rfl
def Yse:Int:=4238894112
theorem y1p(h:Q Yse { s with toks:=s.toks+1 }):wpAny (mZ prog w) A (pyHash .none) Q E s:=by
 have hT:s.TypeIs .none "NoneType":=rfl;unfold pyHash pyHashByItsType;have hv:[Value.none].any Value.onHeap=false:=rfl;refine wa ?_;rw[cRoomFor,if_neg (by grind)];refine wb (wa (wpAny_specialOf hT F.slot_NoneType_hash.lookup ?_));show wpAny _ _ (if (some (Value.builtin "NoneType.__hash__")==some Value.none)=true then _ else _) Q E s;rw[if_neg (by decide)];refine wa (wpAny_specialOf hT F.slot_NoneType_hash.lookup ?_);show wpAny _ _ (callSpecialIfBoundUnlessNone? .none "__hash__" _>>=_) Q E s
 refine wa (wpAny_callSpecialIfBoundUnlessNone?_slot hT F.slot_NoneType_hash
  (we F.slot_NoneType_hash hT F.entry_NoneType_hash
   (show wpAny _ _ (do ret (<-mkInt Yse)) _ _ s from wpAny_ret_mkInt ?_) (F.args_NoneType_hash_1 _)))
 show wpAny _ _ (if (decide (-(2:Int)^63<=Yse)&&decide (Yse<2^63))=true then _ else _) Q E _;rw[if_pos (by decide)];exact wb h
theorem y5t(ho:s.heap.get? d=some o)(hd:o.data=.dict es ep)(hn:∀e∈es,e.hash≠Yse)(h:Q none { s with toks:=s.toks+1 }):
 wpAny (mZ prog w) A (dictGet d .none) Q E s:=by
 have hpl:placesWithHash es.size (λi=>es[i]?.map (·.hash)) Yse=[]:=by
  unfold placesWithHash
  simp_all
 unfold dictGet;refine wc (wa (y1p (wa ?_)));unfold dictFind;refine wc (wa (wpAny_dictEntries (s:={ s with toks:=s.toks+1 }) ho hd ?_));dsimp only;rw[hpl];show wpAny _ _ (if ([Value.none].all carriedByValue)=true then _ else _) _ _ _;rw[if_pos (by rfl)];exact wb (wb h)
def Yoq(ns:AH):Bool:=ns.all λn=>decide (-1000000000<n/\n<1000000000)
theorem y1q:∀{es:List DictEntry},Pairs (Yaj prog w) es kvs->∀e∈es,∃kv∈kvs,(Yaj prog w).is kv.1 e.key=true:=by
 intro es h
 induction h with
 | nil=>grind
 | cons h1 _ _ ih=>
   grind
theorem Yaaa{ns:AH}(hm:s.heap.DictOf (Yaj prog w) d kvs)(hk:kvs.map (·.1)=ns.map Sum.inl)(hs:Yoq ns=true)(h:Q none { s with toks:=s.toks+1 }):
 wpAny (mZ prog w) A (dictGet d .none) Q E s:=by
 obtain⟨o,es,ep,ho,_,hd,hk1,hp,_⟩:=hm;refine y5t ho hd (λe he=>?_) h;obtain⟨k,k1,k2⟩:=hk1 e he;obtain⟨kv,k3,k4⟩:=y1q hp e (by grind);have ek:k=kv.1:=(Yaj prog w).inj _ _ _ k1 k4;have hmem:kv.1∈kvs.map (·.1):=List.mem_map_of_mem k3;rw[hk]at hmem;obtain⟨n,hn,en⟩:=qw hmem;have hsm:=List.all_eq_true.mp hs n hn;simp only[wm]at hsm;rw[k2,ek,<-en];show hashInt n≠Yse;intro z
 have:hashInt n=n\/hashInt n=-2:=by
  have e0:((2^61-1:Nat):Int)=2305843009213693951:=by decide
  have e:(n.natAbs:Int)%((2^61-1:Nat):Int)=(n.natAbs:Int):=Int.emod_eq_of_lt (by lia) (by rw[e0];lia)
  have e2:(if n<0 then -(n.natAbs:Int)else (n.natAbs:Int))=n:=by split<;>lia
  have e3:rawHash n=if (n==-1)=true then -2 else n:=by
   unfold rawHash;grind
  unfold hashInt;grind
 unfold Yse at z;lia
def Ywv{ns:AH}(hd:(d==sysModules)=false)(hm:s.heap.DictOf (Yaj prog w) d kvs)(hk:kvs.map (·.1)=ns.map Sum.inl)(hs:Yoq ns=true)(h:Q false { s with toks:=s.toks+1 }):wpAny (mZ prog w) A (contains (.ref d) .none) Q E s:=by
 have hT:=hm.typeIs;unfold contains;refine wc (wa (wpAny_specialOf hT slot_dict_contains.lookup ?_));show wpAny _ _ (if (some (Value.builtin "dict.__contains__")==some Value.none)=true then _ else _) _ _ _;rw[if_neg (by decide)];refine wa (wpAny_callSpecialUnlessNone?_slot (name:=Str.ofString "__contains__") hT slot_dict_contains (we slot_dict_contains hT entry_dict_contains ?_ (args_dict_contains _ _)));show wpAny _ _ (dictGet d .none>>=_) _ _ s;refine wa (Yaaa hm hk hs ?_);show wpAny _ _ (Builtin.Dict.pendingKey? d .none>>=_) _ _ _;exact wa (wpAny_pendingKey_other hd (wb ⟨_,rfl,wpAny_truthy_bool h⟩))
end
def hasN(neg:Bool):D->D->Option Bool
 | .int i,.dct false ks vs=>hasI neg (.int i) (.dct false ks vs)
 | .non,.dct false ks _=>(intsD ks).bind λns=>if Yoq ns=true then some (false != neg)else none
 | _,_=>none
def rInN(neg:Bool):R2:=λx y H Q=>rInI neg x y H Q\/(x=.non/\∃a kvs ns,y=.ref a/\H a=some (.dK kvs)/\kvs.map (·.1)=ns.map Sum.inl/\Yoq ns=true/\Q (.bl (false != neg)) H)
def Yww:Yhl K (rInN neg) (hasN neg):=by
 intro x y dx dy b H G Q h s rx ry q;unfold hasN at h
 split at h
 ·exact .inl (Ypu x y _ _ b H G Q h s rx ry q)
 ·rename_i ks vs
  obtain⟨ns,h1,h⟩:=qa h
  split at h
  case isFalse=>cases h
  rename_i hsm;injection h with h;subst h;rw[Ct]at rx;rw[Ct]at ry;subst rx;obtain⟨a,kxs,vxs,rfl,dc,r1,r2⟩:=ry;obtain⟨e1,e2,e3,e4⟩:=Ynp h1 dc r1;exact .inr ⟨rfl,a,_,ns,rfl,e1,Ygj ns vxs e3,hsm,q⟩
 ·cases h
section
variable {X:Cx}
theorem y1r{vs:List (Key×Value)}(rel:KV kvs vs):vs.map (·.1)=kvs.map (·.1):=by
 induction rel with
 | nil=>rfl
 | cons r _ ih=>grind
def Yaee(hu:X.A.units+64<cLine):OpR X (compareOp .In) (rInN false):=by
 intro pins s σ H x y v u Q I rx ry h;rcases h with h|⟨rfl,a,kvs,ns,rfl,ha,hk,hs,q⟩
 ·exact y7x hu pins s σ H x y v u Q I rx ry h
 ·cases rx
  cases ry;obtain⟨z,hd,vs,rel,dd⟩:=y8s I.hok ha;show wpAny _ _ (do return Value.bool (<-contains (.ref a) .none)) _ _ s;refine wa (Ywv hd dd ((y1r rel).trans hk) hs (wb ?_));exact⟨.bl (false != false),H,I.tok _,rfl,q⟩
def Yaab(hu:X.A.units+64<cLine):OpR X (compareOp .NotIn) (rInN true):=by
 intro pins s σ H x y v u Q I rx ry h;rcases h with h|⟨rfl,a,kvs,ns,rfl,ha,hk,hs,q⟩
 ·exact Ysa hu pins s σ H x y v u Q I rx ry h
 ·cases rx
  cases ry;obtain⟨z,hd,vs,rel,dd⟩:=y8s I.hok ha;show wpAny _ _ (do return Value.bool (!(<-contains (.ref a) .none))) _ _ s;refine wa (Ywv hd dd ((y1r rel).trans hk) hs (wb ?_));exact⟨.bl (false != true),H,I.tok _,rfl,q⟩
variable {a b e f':Expr}{fa fb f fz:AX}{pos:Pos}
@[simp] theorem Ylc(neg:Bool)(ks vs:AR)(i:Int):hasN neg (.int i) (.dct false ks vs)=(intsD ks).map λns=>decide (i∈ns)!=neg:=nr1 rfl
@[simp] theorem y5u(neg:Bool)(ks vs:AR):hasN neg .non (.dct false ks vs)=(intsD ks).bind λns=>if Yoq ns=true then some (false != neg)else none:=nr1 rfl
end
end
section
end
section
section
variable {prog:P7}{w:World}{A:Around}{E:AB}{s:Shared}
def Yuv{lo hi:Option Int}(ht:IsTup s.heap t items)(hs:s.heap.IsSliceOf sl vl vu .none)(pl:IsPart vl lo)(pu:IsPart vu hi)(h0:HT.sIx items.size 0 lo=0)(h1:HT.sIx items.size items.size hi=items.size)(h:Q (.ref t) s):wpAny (mZ prog w) A (getItem (.ref t) (.ref sl)) Q E s:=by
 obtain⟨os,hos,hcs,hds⟩:=id hs
 have hTs:s.TypeIs (.ref sl) "slice":=⟨os,hos,hcs⟩
 unfold getItem
 try with_reducible refine wc ?_
 first|refine wa (wb ?_)|skip
 refine wa (wpAny_sequenceKey ht.typeIs (by decide) ?_);refine wa (wpAny_callSpecial?_slot (name:=Str.ofString "__getitem__") ht.typeIs PyProof.Rows.slot_tuple_getitem (we PyProof.Rows.slot_tuple_getitem ht.typeIs entry_tuple_getitem ?_ (args_tuple_getitem _ _)));show wpAny _ _ (Builtin.Tuple.tupleItemsOf (.ref t)>>=_) _ _ s;refine wa (tupleItemsOf_ ht ?_);refine wa (wpAny_typeOf hTs ?_);rw[if_pos (by decide)];refine wa (HT.sliceApplied_gen hs pl pu ?_);show wpAny _ _ (if (((HT.sIx items.size 0 lo:Nat):Int)==0&&(1:Int)==1&&(HT.sIx items.size items.size hi-HT.sIx items.size 0 lo)==items.size)=true then _ else _) _ _ s;rw[if_pos (by rw[h0,h1];simp)];refine wa ?_;unfold Builtin.Tuple.tupleIsExact;refine wa (wpAny_typeOf ht.typeIs (wb ?_));rw[if_pos (by decide)];exact wa (wpAny_rule (wb ⟨_,rfl,wb h⟩))
end
section
variable {X:Cx}
def rSlW(K:W7):V->Option Int->Option Int->Hp->VK->Prop:=λx lo hi H Q=>∃a xs,x=.ref a/\SqT K H a xs/\HT.sIx xs.length 0 lo=0/\HT.sIx xs.length xs.length hi=xs.length/\Q (.ref a) H
theorem y5v:SlR X (rSlW X.K):=by
 intro pins s σ H x v vl vu lo hi sl Q I rx hs pl pu h;obtain⟨a,xs,rfl,hx,h0,h1,q⟩:=h;cases rx;obtain⟨its,r,ht,hz⟩:=I.tuple hx
 have hlen:its.toArray.size=xs.length:=by rw[qk];exact r.length.symm
 refine⟨"tuple",_,PyProof.Rows.slot_tuple_getitem.lookup,ht.typeIs,Yuv ht hs pl pu (by grind) (by grind) ?_⟩;exact⟨.ref a,H,I,rfl,q⟩
def cutC(i j:Option Int):D->Option D
 | .lst l=>some (.lst (cutD l i j))
 | .tup l=>some (.tup (cutD l i j))
 | _=>none
def slD(fa:AX)(lo hi:Option AX):AX:=λρ=>(fa ρ).bind λd=>(optI lo ρ).bind λi=>(optI hi ρ).bind λj=>cutC i j d
variable {a e:Expr}{fa f:AX}{pos:Pos}
@[simp] theorem ap_slD(lo hi:Option AX):slD fa lo hi ρ=(fa ρ).bind λd=>(optI lo ρ).bind λi=>(optI hi ρ).bind λj=>cutC i j d:=nr1 rfl
@[simp] theorem cutC_tup(i j:Option Int)(l:AR):cutC i j (.tup l)=some (.tup (cutD l i j)):=nr1 rfl
end
end
section
section
variable {prog:P7}{w:World}{A:Around}{E:AB}{s:Shared}
def Yia:isSubtype (.type "set") (.type "set")=pure true:=by rw[isSubtype_type];kernel_rfl
theorem Yaad:∀{acc:AD},acc.length=vals.length->(∀(j:Nat) v,acc[j]?=some v->PInt vals j v)->IntsAre acc vals:=by
 induction vals with
 | nil=>
   intro acc h _;rw[List.length_eq_zero_iff.mp h];exact .nil
 | cons k r ih=>
   intro acc h hp
   match acc,h with
   | v::acc,h=>
     obtain⟨k',t,e1,e2⟩:=hp 0 v rfl;simp at e1;subst e1;subst e2;refine .cons _ t (ih (by simpa using h) λj v hj=>?_);obtain⟨k',t,e1,e2⟩:=hp (j+1) v (by grind);exact⟨k',t,by grind,e2⟩
theorem Yuw(hh:A.handled=none)(hS:SetI prog w s.heap a ns)(hQ:∀(h':Heap) (d':Drawn) (tk:Nat) (acc:AD) (vals:AH),~~~s<=h'.objs.size->(∀b o,s.heap.get? b=some o->h'.get? b=some o)->IntsAre acc vals->vals.Perm ns->Q acc { s with heap:=h',drawn:=d',toks:=tk }):
 wpAny (mZ prog w) A (collect (.ref a)) Q E s:=by
 obtain⟨o,es,ep,t,ho,hex,hd,_⟩:=id hS;have hlt:a< ~~~s:=ql ho;have hlen:=hS.len;unfold collect;refine wa (wpAny_runValue (wz F.entry_proto_collect ?_));rw[je F.plain_proto_collect _];show wpAny _ A.in1 (newList []>>=λl=>again (.builtin "list.__iadd__" ⟨[l,.ref a],[]⟩)) _ _ s;refine wa (wg ?_);refine wb ⟨jd F.plain_list_iadd _,wz F.entry_list_iadd ?_⟩;rw[je F.plain_list_iadd _];generalize hH:s.heap.push { cls:=.type "list",data:=.seq ([]:AD).toArray }=H
 have hHs:H.objs.size= ~~~s+1:=by rw[<-hH,ww]
 have keepH:∀b o,s.heap.get? b=some o->H.get? b=some o:=λb o e=>by rw[<-hH];exact qe _ e
 have hL:H.get? (~~~s)=some { cls:=.type "list",data:=.seq ([]:AD).toArray }:=by rw[<-hH];exact qp _ rfl
 have hoH:=keepH a o ho
 have hT:Shared.TypeIs { s with heap:=H } (.ref a) "set":=⟨o,hoH,hex.1⟩
 have hSI:(~~~s)≠a:=λz=>by grind
 have h1:Builtin.List.listSameRef (.ref (~~~s)) (.ref a)=false:=by simp[Builtin.List.listSameRef,hSI]
 show wpAny _ A.in1 (Builtin.List.listExtendWith (.ref (~~~s)) (.ref a) (.ref (~~~s))) _ _ _;unfold Builtin.List.listExtendWith;refine wa (wpAny_typeOf hT ?_)
 have h2:(Value.type "set"==Value.type "list")=false:=by decide
 have h3:(Value.type "set"==Value.type "tuple")=false:=by decide
 simp only[h1,h2,h3,Bool.or_false,Bool.false_eq_true,if_false];refine wa (y44 (s:={ s with heap:=H }) (hS.at λo e=>keepH a o e) λh' d' I fp vals St keep hI hIf hfp hp hW hst hty=>?_);have ho':=keep a o hoH
 have hT':Shared.TypeIs { s with heap:=h',drawn:=d' } (.ref a) "set":=⟨o,ho',hex.1⟩
 refine wa (wc ?_);unfold Builtin.List.listLengthHint;refine wa (wpAny_specialOf hT' F.slot_set_len.lookup ?_)
 (generalize hid:("set.__len__":String)=id0;(fail_if_success (clear hid id0));wp_delta;rw[show splitId id0=some ("set","__len__") from by subst hid;decide +kernel];subst hid)
 refine wa (wpAny_isInstance (b:=true) hT' Yia ?_);show wpAny _ A.in1 (typeOf (Value.ref a)>>=_) _ _ _;refine wa (wpAny_typeOf hT' ?_);refine wb ?_;rw[if_pos (by decide)];refine wa (wpAny_rule ?_)
 have hSf:(~~~s)∉fp:=λhm=>by
  grind
 have hS₁:h'.get? (~~~s)=some { cls:=.type "list",data:=.seq ([]:AD).toArray }:=keep _ _ hL;refine wa ?_;show wpAny _ A.in1 (updateSeq (~~~s) (·.push .none)>>=λ_=>updateSeq (~~~s) (·.pop)) _ _ _;refine wa (wpAny_updateSeq hS₁ rfl ?_);have hS₂:=wy (Obj.mapSeq (·.push Value.none)) hS₁ rfl;refine wpAny_updateSeq hS₂ rfl ?_;have hS₃:=wy (Obj.mapSeq (·.pop)) hS₂ rfl
 have oth:∀b o,b≠(~~~s)->h'.get? b=some o->
  ((h'.update (~~~s) (Obj.mapSeq (·.push Value.none))).update (~~~s) (Obj.mapSeq (·.pop))).get? b=some o:=
  λb o hb e=>(Heap.get?_update_other _ _ (Ne.symm hb)).trans ((Heap.get?_update_other _ _ (Ne.symm hb)).trans e)
 have W:=(hW A.in1 hh).toS
 refine wb ⟨jd F.plain_extend_loop _,codeAny_extend_loopS W (fits_of_scanBound hlen) _ hSf _ ns.length 0 _ _ _ rfl (Qf _)
  (W.frame 0 ({ s with heap:=h',drawn:=d' }:Shared) _ s.toks hst (qu _) λb hb o e=>oth b o (λh=>hSf (h ▸ hb)) e) hS₃ (ItemsOf.nil _) λs' acc' c' hm hS' hacc=>?_⟩
 show wpAny _ A (load (~~~s)>>=_) _ _ s';refine wa (wpAny_load hS' ?_);have eg:s'.gens=s.gens:=hm.gens;have ed:s'.drawn=d':=hm.drawn;have eo:s'.os=s.os:=hm.os
 have es':s'={ s with heap:=s'.heap,drawn:=d',toks:=s'.toks }:=by
  obtain⟨a1,a2,a3,a4,a5⟩:=s';grind
 rw[es'];refine wb (hQ s'.heap d' s'.toks acc'.toList vals (Nat.le_of_lt (ql hS')) (λb ob e=>?_) (Yaad (by rw[qj,hacc.1,hp.length_eq]) λj v hj=>hacc.2 j v (by grind)) hp);have hb:b< ~~~s:=ql e;refine hm.heap b ob (λhm'=>?_) (oth b ob (qm hb) (keep b ob (keepH b ob e)));grind
theorem Yyk(hh:A.handled=none)(hS:SetI prog w s.heap a ns)(h64:ns.length<64)(hQ:∀(h':Heap) (d':Drawn) (tk e:Nat) (p:Addr) (out:Array Value) (ns':AH),(∀b o,s.heap.get? b=some o->h'.get? b=some o)->(~~~s)<=p->h'.get? p=some (seqObj "list" out e)->IntsAre out.toList ns'->ns'.Perm ns->ns'.Pairwise (·<=·)->
  Q (.ref p) { s with heap:=h',drawn:=d',toks:=tk }):wpAny (mZ prog w) A (call (.builtin "sorted") [.ref a]) Q E s:=by
 refine Calls.call_function_entry kind_sorted plain_sorted entry_sorted (args_sorted1 _) ?_;unfold Builtin.«sorted»;refine wa (m:=checkCount "sorted" 1 1 _) (wb ?_);refine wa (Yuw (A:=A.in1) hh hS λh' d' tk acc vals hle keep hI hp=>?_);have hl:acc.length=vals.length:=IntsAre.length hI
 have h64':acc.length<64:=by rw[hl,hp.length_eq];exact h64
 refine wa (wpAny_newList ?_ (by rw[ji];lia));have hoL:(h'.push (seqObj "list" acc.toArray 0)).get? h'.objs.size=some (seqObj "list" acc.toArray 0):=qp _ rfl;show wpAny _ _ _ _ _ { s with heap:=h'.push (seqObj "list" acc.toArray 0),drawn:=d',toks:=tk };refine wa (wc (we slot_list_sort ⟨_,hoL,rfl⟩ entry_list_sort (list_sort_tree (s:={ s with heap:=h'.push (seqObj "list" acc.toArray 0),drawn:=d',toks:=tk }) hoL hI h64' λout ns' a1 a2 a3=>⟨_,rfl,?_⟩) (args_list_sort _)));obtain⟨e,he⟩:=sortedHeap_at (n:=0) (out:=out) hoL;refine wb ⟨_,rfl,hQ _ d' tk e h'.objs.size out ns' (λb o eb=>?_) hle he a1 (a2.trans hp) a3⟩;have hb:=ql (keep b o eb);rw[sortedHeap_old (qm hb) (by rw[size_push'];grind)];exact qe _ (keep b o eb)
end
def setO(P:P7)(w:World)(p:Addr)(ms:AH):HO:=.ext λh=>SetI P w h p ms
theorem Yux(x:SetI P w h p ms):ObjOk P w H h p (setO P w p ms):=by
 refine⟨x,?_,λh1 h2 e k=>e.at k⟩;obtain⟨o,_,_,_,ho,_⟩:=x;grind
section
variable {X:Cx}{pins:AC}{σ:L2.St}{H:Hp}{s:Shared}{e:Expr}{f:AX}{p p2 pos pos2:Pos}
def _root_.L2.Inv.dr(I:Inv X pins σ H s)(d':Drawn):Inv X pins σ H { s with drawn:=d' }:=⟨I.ok,I.os,I.bare,I.base,I.loc,I.cell,I.free,I.freeC,I.pin,I.hok,I.len⟩
def Ysf(r:Vals (ns.map V.int) us):IntsAre us ns:=Yg5 r
def Yagp(K:W7)(P:P7)(w:World):AQ->Hp->VK->Prop:=λxs H Q=>∃a ns,xs=[.ref a]/\(SqL K H a (ns.map V.int)\/SqT K H a (ns.map V.int))/\ns.length<4000/\∀p ms,H p=none->ms.Perm (ddup [] ns)->Q (.ref p) (upd H p (setO P w p ms))
theorem Ysg(hc:X.calm=true):Ydq X (.type "set") (Yagp X.K X.prog X.w):=by
 intro pins s σ H xs us Q I r h;obtain⟨a,ns,rfl,hq,hl,q⟩:=h;obtain⟨u,rfl,rx⟩:=Yhj r;cases rx;have hh:X.A.handled=none:=I.ok.hd hc;have hsb:scanBound=4096:=rfl;rcases hq with hq|hq
 ·obtain⟨its,rv,pl,hz⟩:=I.list hq
  have hlen:=rv.length;rw[qf]at hlen;refine Ypl hh pl.isList (by simpa using Ysf rv) (by grind) λh' tk ms hS hp hk=>?_;exact⟨.ref (~~~s),_,I.laid (t':=tk) (λb o e=>hk b o (ql e) e) (qu _) (Yux hS),rfl,q _ ms (I.hok.fresh (qu _)) hp⟩
 ·obtain⟨its,rv,pl,hz⟩:=I.tuple hq
  have hlen:=rv.length;rw[qf]at hlen;refine Ynl hh pl (by simpa using Ysf rv) (by grind) λh' tk ms hS hp hk=>?_;exact⟨.ref (~~~s),_,I.laid (t':=tk) (λb o e=>hk b o (ql e) e) (qu _) (Yux hS),rfl,q _ ms (I.hok.fresh (qu _)) hp⟩
def Yaeg(P:P7)(w:World):AQ->Hp->VK->Prop:=λxs H Q=>∃a ms,xs=[.ref a]/\H a=some (setO P w a ms)/\ms.length<64/\∀p,H p=none->Q (.ref p) (upd H p (.lst ((Yc6 ms).map V.int)))
theorem Yyl(hc:X.calm=true):Ydq X (.builtin "sorted") (Yaeg X.prog X.w):=by
 intro pins s σ H xs us Q I r h;obtain⟨a,ms,rfl,hq,hl,q⟩:=h;obtain⟨u,rfl,rx⟩:=Yhj r;cases rx;have hh:X.A.handled=none:=I.ok.hd hc;have hS:SetI X.prog X.w s.heap a ms:=(show ObjOk X.prog X.w H s.heap a (setO X.prog X.w a ms) from I.hok a _ hq).1;refine Yyk hh hS hl λh' d' tk e p out ns' keep hp he hI hpm hs=>?_;have en:ns'=Yc6 ms:=W.ksm_same (hpm.trans (Yay ms).symm) hs (Ya5 ms);subst en;have hn:(Yc6 ms).length=ms.length:=(Yay ms).length_eq;refine⟨.ref p,_,Inv.laid (t':=tk) (I.dr d') keep hp (show ObjOk X.prog X.w _ _ _ (.lst ((Yc6 ms).map V.int)) from⟨by rw[qf,hn,ji];lia,out.toList,e,Ygg hI,by simp_all⟩),rfl,q _ (I.hok.fresh hp)⟩
def Ypz(h:a.Perm b):Yc6 a=Yc6 b:=W.ksm_same (((Yay a).trans h).trans (Yay b).symm) (Ya5 a) (Ya5 b)
def nr0{α:Sort _}{a b:α}(h:a=b):a=b:=h
end
end
section
def lcgN(m:Nat):Nat->Nat->Nat
 | 0,i=>i
 | k+1,i=>lcgN m k ((i*5+1)%m)
theorem Yld(m:Nat):∀(a b i:Nat),lcgN m (a+b) i=lcgN m b (lcgN m a i)
 | 0,b,i=>by rw[Nat.zero_add];rfl
 | a+1,b,i=>by rw[Nat.succ_add];exact Yld m a b _
def Yaae(m:Nat):Nat->Nat->AG
 | 0,_=>[]
 | k+1,i=>i::Yaae m k ((i*5+1)%m)
theorem Ysh:∀{k i:Nat},j∈Yaae m k i->∃a,a<k/\lcgN m a i=j
 | 0,_,h=>(nomatch h)
 | k+1,i,h=>by
   rcases qt h with rfl|h
   ·exact⟨0,by lia,rfl⟩
   ·obtain⟨a,ha,e⟩:=Ysh h
    exact⟨a+1,by lia,e⟩
def cycB(m:Nat):Bool:=(List.range m).all (λj=>(Yaae m m 0).contains j)&&lcgN m m 0==0
def sizes:AG:=[8,16,32,64,128]
def Yaaf:sizes.all cycB=true:=by decide +kernel
theorem Yaeh(hm:m∈sizes)(hi:i<m)(hj:j<m):∃k,k<m/\lcgN m k i=j:=by
 have h:=List.all_eq_true.mp Yaaf m hm;unfold cycB at h;rw[Qb]at h;obtain⟨h1,h2⟩:=h
 have h2':lcgN m m 0=0:=by grind
 have at0:∀x,x<m->∃a,a<m/\lcgN m a 0=x:=λx hx=>by
  have:=List.all_eq_true.mp h1 x (List.mem_range.mpr hx);exact Ysh (by grind)
 obtain⟨a,ha,rfl⟩:=at0 i hi;obtain⟨b,hb,rfl⟩:=at0 j hj;by_cases hab:a<=b
 ·refine⟨b-a,by lia,?_⟩
  rw[<-Yld,Nat.add_sub_cancel' hab]
 ·refine⟨m-a+b,by lia,?_⟩
  rw[<-Yld,show a+(m-a+b)=m+b by lia,Yld,h2']
section
variable {mask:Nat}{owner:Array AN}
theorem Ymi(fuel i p:Nat):(∃j,SetTable.layClean.free mask owner (fuel+1) i p=some j/\owner.getD j (some 0)=none)\/
 (owner.getD i (some 0)≠none/\SetTable.layClean.free mask owner (fuel+1) i p=SetTable.layClean.free mask owner fuel ((i*5+1+p/32)%(mask+1)) (p/32)):=by
 rw[SetTable.layClean.free]
 cases e:(List.range (SetTable.runEnd mask i+1-i)).find? (λk=>(owner.getD (i+k) (some 0)).isNone)with
 | some k=>
   simp_all
 | none=>
   right;refine⟨λz=>?_,rfl⟩;have:=List.find?_eq_none.mp e 0 (List.mem_range.mpr (by unfold SetTable.runEnd;split<;>lia));grind
theorem Ysi:∀(k fuel i:Nat),k<fuel->owner.getD (lcgN (mask+1) k i) (some 0)=none->∃j,SetTable.layClean.free mask owner fuel i 0=some j/\owner.getD j (some 0)=none
 | k,0,_,h,_=>absurd h (Nat.not_lt_zero _)
 | k,fuel+1,i,h,hf=>by
   rcases Ymi (mask:=mask) (owner:=owner) fuel i 0 with h1|⟨h1,h2⟩
   ·exact h1
   ·cases k with
    | zero=>exact absurd hf h1
    | succ k=>
      rw[h2];exact Ysi k fuel _ (by lia) hf
theorem y1s(hm:mask+1∈sizes)(hi:i<mask+1)(hp:p<1024)(hf:∃j,j<mask+1/\owner.getD j (some 0)=none):∃j,SetTable.layClean.free mask owner (SetTable.turns mask) i p=some j/\owner.getD j (some 0)=none:=by
 obtain⟨j,hj,ho⟩:=hf;have e:SetTable.turns mask=mask+13+1+1:=rfl;rw[e];rcases Ymi (mask:=mask) (owner:=owner) (mask+13+1) i p with h1|⟨_,h2⟩
 ·exact h1
 ·rw[h2]
  generalize (i*5+1+p/32)%(mask+1)=i1;rcases Ymi (mask:=mask) (owner:=owner) (mask+13) i1 (p/32)with h1|⟨_,h3⟩
  ·exact h1
  ·rw[h3,show p/32/32=0 by lia]
   obtain⟨k,hk,e2⟩:=Yaeh hm (i:=(i1*5+1+0)%(mask+1)) (Nat.mod_lt _ (by lia)) hj;exact Ysi k _ _ (by lia) (by rw[e2];exact ho)
end
theorem Yle{α β:Type}{f g:α->Option β}:∀{l:List α},(∀x∈l,f x=g x)->l.filterMap f=l.filterMap g
 | [],_=>rfl
 | x::l,h=>by
   have ih:=Yle (l:=l) λy hy=>h y (qg _ hy);grind
theorem y7y{f g:Nat->AN}(hf:f j=none)(hg:g j=some k):∀{l:AG},l.Nodup->j∈l->(∀x∈l,x≠j->g x=f x)->(l.filterMap g).Perm (k::l.filterMap f)
 | [],_,hj,_=>(nomatch hj)
 | x::l,hn,hj,he=>by
   obtain⟨hx,hn⟩:=List.nodup_cons.mp hn;by_cases e:x=j
   ·subst e
    have:l.filterMap g=l.filterMap f:=Yle λy hy=>he y (qg _ hy) λz=>hx (z ▸ hy);grind
   ·have hj':j∈l:=by
     grind
    have ih:=y7y hf hg hn hj' λy hy=>he y (qg _ hy);grind
theorem Ywx(hm:mask+1∈sizes):∀(hs:AH) (owner:Array AN) (k:Nat),owner.size=mask+1->((List.range (mask+1)).filterMap λj=>owner.getD j none).Perm (List.range k)->k+hs.length<=mask->(∀h∈hs,0<=h/\h<1024)->
 ∃owner',(hs.foldl (init:=some (owner,k)) λacc h=>do
  let (owner,k) <-acc
  let j <-SetTable.layClean.free mask owner (SetTable.turns mask) (SetTable.bits h%(mask+1)) (SetTable.bits h)
  pure (owner.setIfInBounds j (some k),k+1))=some (owner',k+hs.length)/\owner'.size=mask+1/\((List.range (mask+1)).filterMap λj=>owner'.getD j none).Perm (List.range (k+hs.length))
 | [],owner,k,h1,h2,_,_=>⟨owner,rfl,h1,h2⟩
 | h::hs,owner,k,h1,h2,h3,h4=>by
   have hb:SetTable.bits h<1024:=by
    obtain⟨a,b⟩:=h4 h qh;unfold SetTable.bits;lia
   have hfree:∃j,j<mask+1/\owner.getD j (some 0)=none:=Classical.byContradiction λhno=>by
    have hl:=h2.length_eq;rw[List.length_range]at hl
    have all:∀j∈List.range (mask+1),(owner.getD j none).isSome=true:=λj hj=>by
     have hj':=qy hj;have:owner.getD j (some 0)≠none:=λz=>hno ⟨j,hj',z⟩
     have hj2:j<owner.size:=by lia
     simp only[Array.getD,hj2,dif_pos]at this ⊢;exact Option.isSome_iff_ne_none.mpr this
    have:((List.range (mask+1)).filterMap λj=>owner.getD j none).length=(List.range (mask+1)).length:=by
     generalize List.range (mask+1)=l at all
     simp_all
    grind
   obtain⟨j,hj,ho⟩:=y1s hm (owner:=owner) (i:=SetTable.bits h%(mask+1)) (p:=SetTable.bits h) (Nat.mod_lt _ (by lia)) hb hfree
   have hjs:j<owner.size:=Classical.byContradiction λz=>by
    grind
   have honone:owner.getD j none=none:=by
    grind
   have hp:=y7y (f:=λx=>owner.getD x none) (g:=λx=>(owner.setIfInBounds j (some k)).getD x none) (j:=j) (k:=k) honone (by simp_all) (l:=List.range (mask+1)) List.nodup_range (List.mem_range.mpr (by lia)) λx hx hne=>by
    have hx':=qy hx
    have hx2:x<owner.size:=by lia
    simp[Array.getD,hx2,Array.getElem_setIfInBounds,Ne.symm hne]
   have hp2:((List.range (mask+1)).filterMap λx=>(owner.setIfInBounds j (some k)).getD x none).Perm (List.range (k+1)):=by
    grind
   obtain⟨owner',e1,e2,e3⟩:=Ywx hm hs (owner.setIfInBounds j (some k)) (k+1) (by grind) hp2 (by grind) λx hx=>h4 x (qg _ hx);refine⟨owner',?_,e2,?_⟩
   ·grind
   grind
theorem Ysj{led plain:Bool}(hm:mask+1∈sizes)(hs:Array Int)(hn:hs.size<=mask)(h64:∀h∈hs.toList,0<=h/\h<1024):∃t o,SetTable.laid mask finger moves led plain hs=some (t,o)/\o.toList.Perm (List.range hs.size)/\t.place.size=hs.size/\t.dummies=#[]/\t.mask=mask/\t.plain=plain:=by
 have hinit:((List.range (mask+1)).filterMap λj=>(Array.replicate (mask+1) (none:AN)).getD j none)=[]:=by
  simp_all
 obtain⟨owner,e1,e2,e3⟩:=Ywx hm hs.toList (Array.replicate (mask+1) none) 0 (by simp) (by grind) (by grind) h64
 have hlc:SetTable.layClean mask hs=some owner:=by
  unfold SetTable.layClean;grind
 have h2:((List.range (mask+1)).filterMap λj=>(owner.getD j none).map (j,·)).map (·.2)=(List.range (mask+1)).filterMap λj=>owner.getD j none:=by
  rw[List.map_filterMap];refine Yle λj _=>?_;cases owner.getD j none<;>rfl
 refine⟨_,_,by unfold SetTable.laid;rw[hlc];rfl,?_,?_,rfl,rfl,rfl⟩
 ·grind
 ·have:=e3.length_eq
  grind
def Yep(xs:Array α)(p:Nat):(SetTable.eraseAt xs p).toList=xs.toList.eraseIdx p:=by
 unfold SetTable.eraseAt;rw[Array.toList_append,List.eraseIdx_eq_take_drop_succ];simp[Array.toList_extract,List.extract_eq_take_drop];exact List.take_of_length_le (by simp)
theorem Yym(h:Rise xs)(p:Nat):Rise (SetTable.eraseAt xs p):=by
 unfold Rise at h ⊢;rw[Yep];grind
def Ygk(h:p<xs.size):(SetTable.eraseAt xs p).size=xs.size-1:=by
 rw[<-qj,Yep,List.length_eraseIdx_of_lt (by simpa using h)];simp
theorem Yp0(xs:Array α)(p:Nat)(x:α):(SetTable.insertAt xs p x).size=xs.size+1:=by
 rw[<-qj,Yip,qx,qr,List.length_take,List.length_drop];simp;lia
section
variable {prog:P7}{w:World}{A:Around}{E:AB}{s:Shared}
theorem Yuy(hS:SetI prog w s.heap a ns)(h:∀h' ns',Heap.SameBut a s.heap h'->SetI prog w h' a ns'->ns'.Perm (ns.erase k)->Q (decide (k∈ns)) { s with heap:=h' }):
 wpAny (mZ prog w) A (setDiscardHashed a (.int k u) (hashInt k)) Q E s:=by
 have hS0:=hS;obtain⟨o,es,ep,t,ho,hex,hd,hel,hns,hnd,hb,hf,ht⟩:=hS;have hkey:(intKind prog w).is k (.int k u)=true:=intKind_is _ _ _ _;have hsc:(Value.int k u).scannable=true:=rfl;unfold setDiscardHashed setFind setFindIn;refine wa ?_;refine wa (wj ho hd hf ?_);dsimp only;rw[byScan_of hsc hb hel];simp only[↓reduceIte];refine wa (wpAny_rule ?_);refine wa (wpAny_setScan_of (knd:=intKind prog w) (k:=k) hkey ho hd hf hel ?_)
 cases hr:List.findIdx? (λe=>(intKind prog w).is k e.2) es.toList with
 | none=>
   dsimp only
   have hk:k∉ns:=λhk=>by
    rw[<-hns]at hk;obtain⟨e,he,hke⟩:=qw hk;have h1:=List.findIdx?_eq_none_iff.mp hr e he;obtain⟨t',ht'⟩:=Yg7 hel he;rw[ht',hke]at h1;have h2:(intKind prog w).is k (.int k t')=true:=intKind_is _ _ _ _;grind
   refine wb (wb ?_)
   have e:s={ s with heap:=s.heap }:=by cases s;rfl
   have:=h s.heap ns (Heap.SameBut.refl a s.heap) hS0 (by grind)
   simp_all
 | some j=>
   dsimp only;obtain⟨hj,hpj,_⟩:=List.findIdx?_eq_some_iff_getElem.mp hr
   have hjs:j<es.size:=by grind
   have hkj:kOf es.toList[j]=k:=y0e hpj
   have hk:k∈ns:=by
    grind
   refine wb ?_;dsimp only;refine wa (wj ho hd hf ?_);dsimp only;rw[Nat.zero_add]
   have hb':(SetTable.eraseAt es j).size<scanBound:=by rw[Ygk hjs];lia
   refine wa (wpAny_storeSet_of ho hd ?_ (fits_of_scanBound hb'));have ho1:=Yh3 ho hd (SetTable.eraseAt es j) (t.drop j);have hsb1:=wv s.heap a (Obj.putSet (SetTable.eraseAt es j) (t.drop j));refine wa (wpAny_point (wb ?_));have hf':=hf;unfold SetTable.fits at hf';simp only[Qb,beq_iff_eq,wm]at hf'
   have hpl:j<t.place.size:=by lia
   have hdrop:t.drop j={ t with place:=SetTable.eraseAt t.place j,dummies:=SetTable.insertAt t.dummies (SetTable.below t.dummies t.place[j]) t.place[j] }:=by
    unfold SetTable.drop;grind
   have hlen:j<ns.length:=by grind
   have hnj:ns[j]=k:=by
    grind
   have hperm:(ns.eraseIdx j).Perm (ns.erase k):=by
    have p1:=Yjt hlen;grind
   have hnew:SetI prog w (s.heap.update a (Obj.putSet (SetTable.eraseAt es j) (t.drop j))) a (ns.eraseIdx j):=by
    refine⟨_,SetTable.eraseAt es j,_,t.drop j,ho1,hex,rfl,λe he=>?_,?_,hnd.sublist (List.eraseIdx_sublist _ _),hb',?_,?_⟩
    ·rw[Yep]at he
     exact hel e (List.mem_of_mem_eraseIdx he)
    ·rw[Yep,<-hns,List.eraseIdx_eq_take_drop_succ,List.eraseIdx_eq_take_drop_succ,wt,List.map_take,List.map_drop]
    ·rw[hdrop]
     unfold SetTable.fits;unfold SetTable.fill at hf' ⊢;simp only[Qb,beq_iff_eq,wm,Ygk hpl,Ygk hjs,Yp0]at hf' ⊢;lia
    ·rw[hdrop]
     exact⟨ht.1,λz=>Yym (ht.2 z) j⟩
   grind
theorem y5x(ho:s.heap.get? a=some o)(hd:o.data=.set es ep t)(hf:t.fits es.size=true)(ht:Tab (byT w) t)(h:∀(r:Array (Int×Value)) (d':Drawn),r.toList.Perm es.toList->Q r { s with drawn:=d' }):wpAny (mZ prog w) A (setWalk a) Q E s:=by
 unfold setWalk;refine wa (wj ho hd hf ?_);dsimp only;refine wa (Yea ?_);by_cases hb:byT w=true
 ·rw[if_pos hb]
  refine wa (wpAny_askSetting (wb ?_));exact h _ s.drawn (Yru _ _)
 ·rw[if_neg hb]
  have hb':byT w=false:=by grind
  show wpAny _ _ (if (!t.plain&&decide (es.size > 1))=true then _ else _) _ _ _;by_cases hdr:(!t.plain&&decide (es.size > 1))=true
  ·rw[if_pos hdr]
   refine wa (Yju _ _ _ _ (by simp) λys d' hp=>wb ?_);grind
  ·rw[if_neg hdr]
   show wpAny _ _ ((if (!t.led&&decide (es.size > 1))=true then unsupported "set:maker-not-led" else pure ())>>=_) _ _ _;rw[if_neg (by rw[ht.1 hb'];simp)];exact wa (wb (wb (h es s.drawn (.refl _))))
def Yyn(h:∀a∈as,∃ns,SetI prog w s.heap a ns)(hq:Q true s):wpAny (mZ prog w) A (setsQuiet as) Q E s:=by
 unfold setsQuiet;refine wa (wpAny_forIn_list _ (λrest b s'=>b.1=none/\s'=s/\∀a∈rest,∃ns,SetI prog w s.heap a ns) _ ?_ ?_ as _ ⟨rfl,rfl,h⟩)
 ·rintro a rest b s' ⟨hb,rfl,hr⟩
  obtain⟨ns,o,es,ep,t,ho,hex,hd,hel,_,_,_,hf,_⟩:=hr a qh;refine wa (m:=setEntries a) ?_;unfold setEntries;refine wa (wj ho hd hf (wb ?_));refine wa (MeetsSeq2.wpAny_forIn_array _ (λrest b s''=>b.1=none/\s''=s'/\∀e∈rest,e∈es.toList) _ ?_ ?_ es _ ⟨rfl,rfl,λe he=>he⟩)
  ·rintro⟨hh,x⟩ rest2 b2 s2 ⟨hb2,rfl,hr2⟩
   obtain⟨t',ht'⟩:=Yg7 hel (hr2 _ qh);have hx:=congrArg Prod.snd ht';dsimp only at hx;rw[hx];exact wb ⟨rfl,rfl,λe he=>hr2 e (qg _ he)⟩
  ·rintro b2 s2 ⟨hb2,rfl,_⟩
   obtain⟨b2a,b2b⟩:=b2;subst hb2;exact wb ⟨rfl,rfl,λa ha=>hr a (qg _ ha)⟩
 ·rintro b s' ⟨hb,rfl,_⟩
  obtain⟨ba,bb⟩:=b;subst hb;exact wb hq
theorem Yuz(hO:SetI prog w s.heap o ns)(hF:SetI prog w s.heap f ms)(h:∀(r:Array (Int×Value)) (h':Heap) (d':Drawn),Heap.SameBut f s.heap h'->SetI prog w h' f ms->ElemsOf (intKind prog w) r.toList->(r.toList.map kOf).Perm ns->Q r { s with heap:=h',drawn:=d' }):
 wpAny (mZ prog w) A (setWalkUnseen o [f] (some f)) Q E s:=by
 have hO0:=hO;obtain⟨oo,es,ep,t,ho,hex,hd,hel,hns,hnd,hb,hf,ht⟩:=hO
 have hwalk:wpAny (mZ prog w) A (setWalk o) Q E s:=y5x ho hd hf ht λr d' hp=>by
  have e:s={ s with heap:=s.heap }:=by cases s;rfl
  exact h r s.heap d' (Heap.SameBut.refl f s.heap) hF (hel.perm hp) (by grind)
 unfold setWalkUnseen;refine wa (wj ho hd hf ?_);dsimp only;refine wa (Yea ?_)
 split
 ·exact hwalk
 ·refine wa (Yyn (λa ha=>?_) ?_)
  ·grind
  ·rw[if_neg (by simp)]
   refine wa (wpAny_rule ?_);have hF0:=hF;obtain⟨of,ef,epf,tf,hof,hexf,hdf,helf,hnsf,hndf,hbf,hff,htf⟩:=hF;refine wa (wj hof hdf hff ?_);dsimp only
   split
   ·have hff':({ tf with led:=tf.led&&t.led,plain:=tf.plain&&t.plain }:SetTable).fits ef.size=true:=by
     unfold SetTable.fits SetTable.fill at hff ⊢;exact hff
    refine wa (wpAny_storeSet_of hof hdf ?_ (fits_of_scanBound hbf));have ho1:=Yh3 hof hdf ef { tf with led:=tf.led&&t.led,plain:=tf.plain&&t.plain };refine wb (h es _ s.drawn (wv s.heap f _) ⟨_,ef,_,_,ho1,hexf,rfl,helf,hnsf,hndf,hbf,hff',⟨λz=>?_,λz=>?_⟩⟩ hel (by rw[hns]))
    ·show(tf.led&&t.led)=true
     rw[htf.1 z,ht.1 z];rfl
    ·have z':(tf.plain&&t.plain)=true:=z
     rw[Qb]at z';exact htf.2 z'.1
   ·refine wb ?_
    exact h es s.heap s.drawn (Heap.SameBut.refl f s.heap) hF0 hel (by rw[hns])
def SetI.nodup(x:SetI prog w h a ns):ns.Nodup:=by
 obtain⟨_,_,_,_,_,_,_,_,_,hnd,_⟩:=x;exact hnd
def SetI.type(x:SetI prog w s.heap a ns):s.TypeIs (.ref a) "set":=by
 obtain⟨o,_,_,_,ho,hex,_⟩:=x;exact⟨o,ho,hex.1⟩
def SetI.but(x:SetI prog w h a ns)(hne:a≠f)(sb:Heap.SameBut f h h'):SetI prog w h' a ns:=x.at λo e=>(sb.2 a hne).trans e
theorem y5y(hF:SetI prog w s.heap f ms)(hroom:ms.length+1<scanBound)(h:∀h' ms',Heap.SameBut f s.heap h'->SetI prog w h' f ms'->(∀x,x∈ms'↔¬(x∈ms↔x=k))->ms'.length<=ms.length+1->Q () { s with heap:=h' }):
 wpAny (mZ prog w) A (holding [.int k u] (do
  if !(<-setDiscardHashed f (.int k u) (hashInt k))then
   let _ <-setAddHashed f (.int k u) (hashInt k))) Q E s:=by
 have hnd:=hF.nodup;refine wc (wa (Yuy hF λh1 ms1 sb1 hF1 hp1=>?_));by_cases hk:k∈ms
 ·rw[wn hk]
  refine wb (h h1 ms1 sb1 hF1 (λx=>?_) ?_)
  ·grind
  ·rw[hp1.length_eq]
   grind
 ·rw[wo hk]
  rw[List.erase_of_not_mem hk]at hp1;have hk1:k∉ms1:=λz=>hk (hp1.mem_iff.mp z);refine wa (y0f (s:={ s with heap:=h1 }) hF1 (by rw[hp1.length_eq];exact hroom) λh2 ms2 sb2 hF2 hp2=>?_);rw[if_neg hk1]at hp2;refine wb (h h2 ms2 (sb1.trans sb2) hF2 (λx=>?_) ?_)
  ·grind
  ·rw[hp2.length_eq,qx,hp1.length_eq]
   grind
def Yp1(hO:SetI prog w s.heap o ns)(h:Q true s):wpAny (mZ prog w) A (Builtin.Frozenset.isAnySet (.ref o)) Q E s:=by
 unfold Builtin.Frozenset.isAnySet;exact wa (wpAny_isInstance (b:=true) hO.type Yia (wb h))
theorem Yaag{id:String}(hne:o≠f)(hO:SetI prog w s.heap o ns)(hF:SetI prog w s.heap f ms)(hroom:ms.length+ns.length+1<scanBound)(h:∀h' d' ms',Heap.SameBut f s.heap h'->SetI prog w h' f ms'->(∀x,x∈ms'↔¬(x∈ms↔x∈ns))->Q () { s with heap:=h',drawn:=d' }):
 wpAny (mZ prog w) A (Builtin.Frozenset.symmetricDifferenceUpdate id f (.ref o)) Q E s:=by
 unfold Builtin.Frozenset.symmetricDifferenceUpdate
 have h1:(Value.ref o==Value.ref f)=false:=by simp[hne]
 rw[if_neg (by grind)];refine wa (wpAny_typeOf hO.type ?_)
 have h2:(Value.type "set"==Value.type "dict")=false:=by decide
 rw[if_neg (by grind)];refine wa (Yp1 hO ?_);rw[if_pos rfl];refine wa (wb ?_);refine wa (m:=Builtin.Frozenset.addrOf (.ref o)) (wb ?_);have hO0:=hO;obtain⟨oo,es,ep,t,ho,hex,hd,hel,hns,hnd,hb,hf,ht⟩:=hO0;refine wa (m:=setEpoch o) ?_;unfold setEpoch;refine wa (wj ho hd hf (wb ?_));dsimp only;refine wc ?_;refine wa (Yuz hO hF λr h' d' sb hF' helr hpr=>?_);have hndr:(r.toList.map kOf).Nodup:=hpr.nodup_iff.mpr hO.nodup
 refine wa (w5 (MeetsSeq2.wpAny_forIn_array _ (λrest _ s'=>∃done h2 ms2,s'={ s with heap:=h2,drawn:=d' }/\Heap.SameBut f s.heap h2/\SetI prog w h2 f ms2/\(∀x,x∈ms2↔¬(x∈ms↔x∈done))/\r.toList.map kOf=done++rest.map kOf/\ms2.length<=ms.length+done.length/\∀e∈rest,e∈r.toList)
  (λ_ s'=>∃h2 ms2,s'={ s with heap:=h2,drawn:=d' }/\Heap.SameBut f s.heap h2/\SetI prog w h2 f ms2/\(∀x,x∈ms2↔¬(x∈ms↔x∈ns))) ?_ ?_ r _ ⟨[],h',ms,rfl,sb,hF',by simp,by simp,by simp,λe he=>he⟩) (λ_ s' hs=>?_) λ_ _ e=>e)
 ·rintro x rest _ s' ⟨done,h2,ms2,rfl,sb2,hF2,hm2,hd2,hl2,hr2⟩
  have hx:=hr2 x qh;obtain⟨tk,hxe⟩:=Yg7 helr hx
  have hlen:ms2.length+1<scanBound:=by
   have e1:=congrArg List.length hd2;have e2:=hpr.length_eq;grind
  have hkd:kOf x∉done:=λz=>by
   grind
  rw[hxe];dsimp only;have hkx:kOf (hashInt (kOf x),Value.int (kOf x) tk)=kOf x:=rfl;refine wa (y5y (s:={ s with heap:=h2,drawn:=d' }) hF2 hlen λh3 ms3 sb3 hF3 hm3 hl3=>?_);have hO3:=(hO.but hne sb2).but hne sb3;have hoo:h3.get? o=some oo:=((sb2.trans sb3).2 o hne).trans ho;refine wa (m:=Builtin.Frozenset.unchanged id o ep) ?_;unfold Builtin.Frozenset.unchanged setEpoch;refine wa (wa (wj (s:={ s with heap:=h3,drawn:=d' }) hoo hd hf (wb ?_)));rw[if_neg (by simp)];refine wb (wb ⟨done++[kOf x],h3,ms3,rfl,sb2.trans sb3,hF3,λy=>?_,?_,?_,λe he=>hr2 e (qg _ he)⟩)
  ·grind
  ·grind
  grind
 ·grind
 ·obtain⟨h2,ms2,rfl,sb2,hF2,hm2⟩:=hs
  exact wb (h h2 d' ms2 sb2 hF2 hm2)
theorem Yyo(h:0<=k/\k<1024):0<=hashInt k/\hashInt k<1024:=by
 have e:rawHash k=k:=by
  unfold rawHash;grind
 unfold hashInt;grind
def Yaah:(List.range 64).all (λn=>decide (SetTable.sizeAbove (n*2)∈sizes)&&decide (n<SetTable.sizeAbove (n*2))&&decide (SetTable.sizeAbove (n*2)<=128))=true:=by decide +kernel
theorem y5z{es:Array (Int×Value)}{o:Array Nat}(hp:o.toList.Perm (List.range es.size)):(o.filterMap (es[·]?)).toList.Perm es.toList:=by
 have h1:(o.filterMap (es[·]?)).toList=o.toList.filterMap (es.toList[·]?):=by simp
 rw[h1]
 have h2:(List.range es.size).filterMap (es.toList[·]?)=es.toList:=by
  have:∀l:List (Int×Value),(List.range l.length).filterMap (l[·]?)=l:=λl=>by
   rw[Yle (g:=λi=>some (l.getD i (0,.none))) λi hi=>?_]
   ·show List.filterMap (some ∘ λi=>l.getD i (0,.none)) _=_
    rw[List.filterMap_eq_map];refine List.ext_getElem (by simp) λi h1 h2=>?_;simp[h2]
   grind
  grind
 grind
abbrev obS(ep:Nat)(t:SetTable):Obj:={ cls:=.type "set",dict:=none,data:=.set #[] ep t }
theorem y50(hf:s.heap.get? f=some (obS ep (.fresh 0 0 led)))(hn:n<64)(h:∀h' ep' t',Heap.SameBut f s.heap h'->h'.get? f=some (obS ep' t')->t'.mask+1∈sizes->n<=t'.mask->t'.place=#[]->t'.dummies=#[]->t'.led=led->t'.plain=true->Q () { s with heap:=h' }):wpAny (mZ prog w) A (setRoomFor f n) Q E s:=by
 have hfit:(SetTable.fresh 0 0 led).fits (#[]:Array (Int×Value)).size=true:=rfl;unfold setRoomFor;refine wa (wj hf rfl hfit ?_);dsimp only;by_cases hr:21<=n*5
 ·have e:(SetTable.fresh 0 0 led).roomFor n=some (n*2):=by
   unfold SetTable.roomFor SetTable.fresh SetTable.fill;grind
  rw[e];dsimp only;have hok:=List.all_eq_true.mp Yaah n (List.mem_range.mpr hn);simp only[Qb,wm]at hok;obtain⟨⟨k1,k2⟩,k3⟩:=hok;unfold setRelay;refine wa (wj hf rfl hfit ?_);dsimp only;rw[if_neg (by rw[ji];lia)]
  have hm:SetTable.sizeAbove (n*2)-1+1=SetTable.sizeAbove (n*2):=by lia
  obtain⟨t',o',e1,e2,e3,e4,e5,e6⟩:=Ysj (mask:=SetTable.sizeAbove (n*2)-1) (finger:=0) (moves:=(SetTable.fresh 0 0 led).movedTo (SetTable.sizeAbove (n*2)-1)) (led:=led) (plain:=true) (by grind) #[] (Qf _) (λh hh=>by simp at hh)
  have hre:(SetTable.fresh 0 0 led).relaid ((#[]:Array (Int×Value)).map (·.1)) (n*2)=some (t',o'):=by
   unfold SetTable.relaid;rw[show(#[]:Array (Int×Value)).map (·.1)=#[] by simp];exact e1
  rw[hre]
  have ho':o'=#[]:=by
   simp_all
  subst ho';have hl:=Ylv e1;refine wa (wb ?_);refine wpAny_storeSet_of hf rfl ?_ (by simp);have h1:=Yh3 hf rfl (#[]:Array (Int×Value)) t';exact h _ _ t' (wv s.heap f _) h1 (by grind) (by rw[e5];lia) (by grind) e4 hl.2.1 e6
 ·have e:(SetTable.fresh 0 0 led).roomFor n=none:=by
   unfold SetTable.roomFor SetTable.fresh SetTable.fill;grind
  rw[e];refine wb ?_
  have e:s={ s with heap:=s.heap }:=by cases s;rfl
  rw[e];exact h s.heap ep _ (Heap.SameBut.refl f s.heap) hf (show 8∈sizes by decide) (show n<=7 by lia) rfl rfl rfl rfl
theorem Yaei{id:String}(hO:SetI prog w s.heap o ns)(hk:∀k∈ns,0<=k/\k<1024)(hl:ns.length<64)(h:∀h' ms,(∀b x,s.heap.get? b=some x->h'.get? b=some x)->SetI prog w h' (~~~s) ms->ms.Perm ns->Q (.ref (~~~s)) { s with heap:=h' }):
 wpAny (mZ prog w) A (Builtin.Frozenset.newFrom id (.type "set") (.ref o)) Q E s:=by
 unfold Builtin.Frozenset.newFrom newSet;refine wa (wa (Yea ?_));dsimp only;simp only[newObj];refine wa (wpAny_alloc (wb ?_))
 have hlt:o< ~~~s:=by
  obtain⟨oo,_,_,_,ho,_⟩:=hO;exact ql ho
 generalize hH:s.heap.push _=H
 have keep:∀b x,s.heap.get? b=some x->H.get? b=some x:=λb x e=>by rw[<-hH];exact qe _ e
 have hf0:H.get? (~~~s)=some { cls:=.type "set",dict:=none,data:=.set #[] 0 (.fresh 0 0 (!byT w)) }:=by rw[<-hH];exact qp _ rfl
 generalize hf:(~~~s)=f at *;have hne:o≠f:=qm hlt;have hO1:SetI prog w H o ns:=hO.at λx e=>keep o x e;refine wa (m:=Builtin.Frozenset.addrOf (.ref f)) (wb ?_);refine wa (wc ?_);unfold Builtin.Frozenset.updateFrom;refine wa (Yp1 (s:={ s with heap:=H }) hO1 ?_);rw[if_pos rfl];refine wa (m:=Builtin.Frozenset.addrOf (.ref o)) (wb ?_);unfold Builtin.Frozenset.merge;have hO2:=hO1;obtain⟨oo,es,ep,t,ho,hex,hd,hel,hns,hnd,hb,hft,ht⟩:=hO2
 have hsz:es.size=ns.length:=by grind
 refine wa (m:=setEpoch o) ?_;unfold setEpoch;refine wa (wj (s:={ s with heap:=H }) ho hd hft (wb ?_));dsimp only;unfold setMerge
 have h1:(f==o)=false:=by grind
 rw[if_neg (by grind)];refine wa (wj (s:={ s with heap:=H }) ho hd hft ?_);dsimp only;by_cases hemp:es.isEmpty=true
 ·rw[if_pos hemp]
  refine wb (wb (h H [] keep ⟨_,#[],_,_,hf0,⟨rfl,rfl,rfl⟩,rfl,λe he=>by simp at he,rfl,.nil,by decide,rfl,.fresh⟩ ?_));grind
 ·rw[if_neg hemp]
  refine wa (y50 (s:={ s with heap:=H }) hf0 (by lia) λh' ep' t' sb hf' m1 m2 p1 p2 l1 l2=>?_)
  have hfit':t'.fits (#[]:Array (Int×Value)).size=true:=by
   unfold SetTable.fits SetTable.fill;grind
  refine wa (wj (s:={ s with heap:=h' }) hf' rfl hfit' ?_);dsimp only
  have keep':∀b x,s.heap.get? b=some x->h'.get? b=some x:=λb x e=>by
   have hb:b≠f:=λz=>by
    have:=ql e;grind
   exact(sb.2 b hb).trans (keep b x e)
  have keep2:∀(es':Array (Int×Value)) (t2:SetTable) b x,s.heap.get? b=some x->(h'.update f (Obj.putSet es' t2)).get? b=some x:=λes' t2 b x e=>by
   have hb:b≠f:=λz=>by
    have:=ql e;grind
   exact((wv h' f _).2 b hb).trans (keep' b x e)
  have hfill:t'.fill=0:=by
   unfold SetTable.fill;grind
  unfold SetTable.road;rw[hfill,if_neg (by simp)]
  have hled:byT w=false->(t'.led&&t.led)=true:=λz=>by
   rw[l1,ht.1 z,z];rfl
  by_cases hm:(t'.mask==t.mask&&t.dummies.isEmpty)=true
  ·rw[if_pos hm]
   dsimp only;refine wpAny_storeSet_of (s:={ s with heap:=h' }) hf' rfl ?_ (fits_of_scanBound hb);have hg:=Yh3 hf' rfl es { t with finger:=t'.finger,led:=t'.led&&t.led,moves:=t'.moves,plain:=t'.plain&&t.plain };refine wb (h _ ns (keep2 _ _) ⟨_,es,_,_,hg,⟨rfl,rfl,rfl⟩,rfl,hel,hns,hnd,hb,hft,hled,λz=>?_⟩ (.refl _));have z':(t'.plain&&t.plain)=true:=z;rw[Qb]at z';exact ht.2 z'.2
  ·rw[if_neg hm]
   dsimp only
   obtain⟨t2,o2,e1,e2,e3,e4,e5,e6⟩:=Ysj (mask:=t'.mask) (finger:=t'.finger) (moves:=t'.moves) (led:=t'.led&&t.led) (plain:=t'.plain&&t.plain) m1 (es.map (·.1)) (by grind) (λx hx=>by
    rw[Array.toList_map]at hx;obtain⟨e,he,rfl⟩:=qw hx;obtain⟨tk,het⟩:=Yg7 hel he
    have hke:kOf e∈ns:=by grind
    have:=Yyo (hk _ hke)
    grind)
   rw[e1];have hlr:=Ylv e1
   have e2':o2.toList.Perm (List.range es.size):=by grind
   have hp:=y5z e2'
   have hsz2:(o2.filterMap (es[·]?)).size=es.size:=by rw[<-qj,hp.length_eq,qj]
   have hbe:((o2.filterMap (es[·]?)).size != es.size)=false:=by grind
   refine wa ?_;show wpAny _ _ (if ((o2.filterMap (es[·]?)).size != es.size)=true then _ else _) _ _ _;rw[if_neg (by grind)];refine wb ?_;dsimp only
   have hb2:(o2.filterMap (es[·]?)).size<scanBound:=by grind
   refine wpAny_storeSet_of (s:={ s with heap:=h' }) hf' rfl ?_ (fits_of_scanBound hb2);have hg:=Yh3 hf' rfl (o2.filterMap (es[·]?)) t2
   have hpk:((o2.filterMap (es[·]?)).toList.map kOf).Perm ns:=by grind
   refine wb (h _ _ (keep2 _ _) ⟨_,_,_,t2,hg,⟨rfl,rfl,rfl⟩,rfl,hel.perm hp,rfl,hpk.nodup_iff.mpr hnd,hb2,?_,⟨λz=>by grind,λ_=>hlr.1⟩⟩ hpk);unfold SetTable.fits SetTable.fill;grind
theorem Yyp:entryFor table "set.__xor__"=some Builtin.«frozenset.__xor__»:=
 entryFor_alias (id':="frozenset.__xor__") (by kernel_rfl) (by first|rfl|decide +kernel|(unfold String.splitOn;simp +decide [String.splitOnAux])) (by decide +kernel) (by kernel_rfl)
theorem y51(hA:SetI prog w s.heap a ns)(hB:SetI prog w s.heap b ms)(hk:∀k∈ms,0<=k/\k<1024)(hl:ms.length<64)(hl2:ns.length<64)(h:∀h' d' rs,(∀c x,s.heap.get? c=some x->h'.get? c=some x)->SetI prog w h' (~~~s) rs->(∀x,x∈rs↔¬(x∈ms↔x∈ns))->Q (.ref (~~~s)) { s with heap:=h',drawn:=d' }):
 wpAny (mZ prog w) A (binaryOp .BitXor (.ref a) (.ref b)) Q E s:=by
 refine wpAny_binaryOp_same (op:=.BitXor) (T:="set") hA.type hB.type F.fills_set_xor F.slot_set_xor (we F.slot_set_xor hA.type Yyp ?_ (F.args_set_xor_2 _ _));refine wa (m:=Builtin.Frozenset.slot1 "__xor__" ⟨[.ref a,.ref b],[]⟩) (wpAny_of_eq (a:=(Value.ref a,Value.ref b)) rfl ?_);dsimp only;refine wa (wa (Yp1 hA ?_));refine Yp1 hB ?_;rw[if_neg (by decide)];rw[if_neg qi];refine wa (m:=Builtin.Frozenset.addrOf (.ref a)) (wb ?_);generalize (toString "frozenset."++toString "__xor__":String)=id;refine wa ?_;refine wa (m:=Builtin.Frozenset.baseOf a) ?_;unfold Builtin.Frozenset.baseOf;refine wa (wpAny_isInstance (b:=true) hA.type Yia (wb ?_));refine wa (m:=Builtin.Frozenset.newFrom id (.type "set") (.ref b)) ?_;refine Yaei hB hk hl λh1 rs k1 hR hp=>?_
 have hlt:a< ~~~s:=by
  obtain⟨oo,_,_,_,ho,_⟩:=hA;exact ql ho
 have hsb:scanBound=4096:=rfl;refine wa (m:=Builtin.Frozenset.addrOf (.ref (~~~s))) (wb ?_);refine wa (wc (Yaag (s:={ s with heap:=h1 }) (qm hlt) (hA.at λx e=>k1 a x e) hR (by rw[hp.length_eq,hsb];lia) λh2 d' rs2 sb hR2 hm=>?_));refine wb (wb ⟨_,rfl,(λz=>nomatch z),h h2 d' rs2 (λc x e=>?_) hR2 λx=>?_⟩)
 ·have hc:c≠(~~~s):=qm (ql e)
  exact(sb.2 c hc).trans (k1 c x e)
 ·rw[hm,hp.mem_iff]
end
end
section
section
variable {X:Cx}{pins:AC}{σ:L2.St}{H:Hp}{s:Shared}
def rXor(P:P7)(w:World):V->V->Hp->VK->Prop:=λx y H Q=>∃a b ns ms,x=.ref a/\y=.ref b/\H a=some (setO P w a ns)/\H b=some (setO P w b ms)/\(∀k∈ms,0<=k/\k<1024)/\ms.length<64/\ns.length<64/\
 ∀p rs,H p=none->rs.Nodup->(∀x,x∈rs↔¬(x∈ms↔x∈ns))->Q (.ref p) (upd H p (setO P w p rs))
def op_xor:OpR X (binaryOp .BitXor) (rXor X.prog X.w):=by
 intro pins s σ H x y v u Q I rx ry h;obtain⟨a,b,ns,ms,rfl,rfl,hA,hB,hk,hl,hl2,q⟩:=h;cases rx;cases ry;have hSA:SetI X.prog X.w s.heap a ns:=(show ObjOk X.prog X.w H s.heap a (setO X.prog X.w a ns) from I.hok a _ hA).1;have hSB:SetI X.prog X.w s.heap b ms:=(show ObjOk X.prog X.w H s.heap b (setO X.prog X.w b ms) from I.hok b _ hB).1;refine y51 hSA hSB hk hl hl2 λh' d' rs keep hR hm=>?_;exact⟨.ref (~~~s),_,Inv.laid (t':=s.toks) (I.dr d') keep (qu _) (Yux hR),rfl,q _ rs (I.hok.fresh (qu _)) hR.nodup hm⟩
end
theorem memD:∀(l acc:AH) (x:Int),x∈ddup acc l↔x∈acc\/x∈l
 | [],acc,x=>by simp[ddup]
 | k::l,acc,x=>by
   rw[ddup,memD];grind
theorem nodD:∀(l acc:AH),acc.Nodup->(ddup acc l).Nodup
 | [],_,h=>h
 | k::l,acc,h=>by
   rw[ddup];refine nodD l _ ?_;grind
def xorI(a b:AH):AH:=(ddup [] b).filter (λx=>!(a.contains x))++(ddup [] a).filter (λx=>!(b.contains x))
theorem Ywy:x∈xorI a b↔¬(x∈b↔x∈a):=by
 unfold xorI;rw[List.mem_append,List.mem_filter,List.mem_filter,memD,memD];grind
theorem Yp2(a b:AH):(xorI a b).Nodup:=by
 unfold xorI;rw[List.nodup_append];refine⟨(nodD b [] .nil).filter _,(nodD a [] .nil).filter _,λx hx y hy z=>?_⟩;subst z
 have h1:=(qz hx)
 have h2:=(qz hy)
 rw[memD]at h2;grind
def y1t(l m:AR):Option AR:=(intsD l).bind λa=>(intsD m).bind λb=>
 if a.length<4000/\b.length<4000/\(ddup [] a).length<64/\(ddup [] b).length<64/\(b.all λk=>decide (0<=k/\k<1024))=true/\(xorI a b).length<64 then some ((Yc6 (xorI a b)).map D.int)else none
section
variable {X:Cx}{e e2:Expr}{f f2:AX}{p p2 p3 pos pos2 pos3 pos4:Pos}
def Yj1(f f2:AX):AY:=λρ=>(b1 f Yn ρ).bind λl=>(b1 f2 Yn ρ).bind λm=>y1t l m
@[simp] theorem ap_xorsetF:Yj1 f f2 ρ=((f ρ).bind Yn).bind λl=>((f2 ρ).bind Yn).bind λm=>y1t l m:=nr0 rfl
end
end
section
end
section
section
variable {prog:P7}{w:World}{A:Around}{E:AB}{s:Shared}
structure SetQ(w:World)(h:Heap)(a:Addr)(us:List (Int×Addr)):Prop where
 ex:∃o es ep t,h.get? a=some o/\o.ExactSet/\o.data=.set es ep t/\es.toList=us.map (λu=>(u.1,Value.ref u.2))/\t.fits es.size=true/\t.mask=7/\t.dummies=#[]/\t.place.toList=us.map (λu=>SetTable.bits u.1%8)/\Tab (byT w) t
end
end
section
end
section
end
section
def advM(mask:Nat)(p:SetTable.Probe):SetTable.Probe:=SetTable.advance { mask:=mask,place:=#[],dummies:=#[],finger:=0,led:=false,moves:=0,plain:=false } p
def itP(mask:Nat):Nat->SetTable.Probe->SetTable.Probe
 | 0,p=>p
 | k+1,p=>itP mask k (advM mask p)
def stP(mask i perturb:Nat):SetTable.Probe:={ j:=i,more:=SetTable.runEnd mask i-i,i,perturb,dummy:=none }
def Way(mask:Nat)(occ:Nat->Prop)(p:SetTable.Probe)(j:Nat):Prop:=∃k,(itP mask k p).j=j/\∀m,m<k->occ (itP mask m p).j
abbrev hSt(mask:Nat)(h:Int):SetTable.Probe:=stP mask (SetTable.bits h%(mask+1)) (SetTable.bits h)
section
variable {t:SetTable}{hA:Nat->Int}{h:Int}
structure Clean(t:SetTable)(n:Nat):Prop where
 hs:t.mask+1∈sizes
 dm:t.dummies=#[]
 rise:Rise t.place
 le:∀j∈t.place.toList,j<=t.mask
 sz:t.place.size=n
 room:n<=t.mask
end
end
section
def bI(b:Bool):Int:=if b then 1 else 0
def bH(bs:AJ):Int:=Yact (bs.map bI)
def TupB(h:Heap)(u:Addr)(bs:AJ):Prop:=bs.length<=4/\∃o n,h.get? u=some o/\o.cls=.type "tuple"/\o.data=.seq (bs.map Value.bool).toArray n
structure SetB(w:World)(h:Heap)(S:Addr)(us:List (Addr×AJ)):Prop where
 ex:∃o es ep t,h.get? S=some o/\o.ExactSet/\o.data=.set es ep t/\es.toList.Perm (us.map λu=>(bH u.2,Value.ref u.1))/\t.fits es.size=true/\Clean t es.size/\Tab (byT w) t/\es.size*5<t.mask*3/\∀q∈es.toList.zip t.place.toList,Way t.mask (·∈t.place.toList) (hSt t.mask q.1.1) q.2
 keys:(us.map (·.2)).Nodup
 tups:∀u∈us,TupB h u.1 u.2
 few:us.length<=24
end
section
section
variable {n:Nat}{key:Nat->Nat}{cmp:Nat->Nat->(Bool->Shared->Prop)->Shared->Prop}{s:Shared}
variable (hinj:∀i j,i<n->j<n->key i=key j->i=j) (hc:∀i j (C:Bool->Shared->Prop),i<n->j<n->C (decide (key i<key j)) s->cmp i j C s)
include hinj hc
omit hinj hc in
omit hinj hc in
omit hinj hc in
end
end
section
section
variable {X:Cx}{e:Expr}{f:AX}{p p2 pos pos2:Pos}
def Ykv:D->D->Option D
 | .tup a,.tup b=>if a.length+b.length<=cap6 then some (.tup (a++b))else none
 | _,_=>none
def Yagq(K:W7):R2:=λx y H Q=>∃a b xs ys,x=.ref a/\y=.ref b/\SqT K H a xs/\SqT K H b ys/\xs.length+ys.length<=sizeLine/\
 (xs=[]->Q (.ref b) H)/\(xs≠[]->ys=[]->Q (.ref a) H)/\(xs≠[]->ys≠[]->∀p,H p=none->Q (.ref p) (upd H p (.tup (xs++ys))))
def Yaai:OpR X (binaryOp .Add) (Yagq X.K):=by
 intro pins s σ H x y v u Q I rx ry h;obtain⟨a,b,xs,ys,rfl,rfl,ha,hb,hz,q0,q1,q2⟩:=h;by_cases hx:xs=[]
 ·cases rx
  cases ry;obtain⟨its,r1,p1,_⟩:=I.tuple ha;obtain⟨its2,r2,p2,_⟩:=I.tuple hb;have he:its=[]:=r1.nil_iff.mpr hx;obtain⟨⟨cls,dd,data,sl⟩,ho,hc,n,hd⟩:=p1;obtain⟨⟨cls2,dd2,data2,sl2⟩,ho2,hc2,n2,hd2⟩:=p2;simp only at hc hd hc2 hd2;subst hc hd hc2 hd2
  exact concat_meets ⟨_,ho,rfl⟩ ⟨_,ho2,rfl⟩ noFill_tuple_add seq_tuple_add PySem.F.slot_tuple_add PySem.F.entry_tuple_add (PySem.F.args_tuple_add_2 _ _)
   (tuple_addW0 a b its.toArray its2.toArray n n2 dd dd2 sl sl2 (by simp[he])) ⟨ho,ho2,⟨.ref b,H,I,rfl,q0 hx⟩⟩
 ·exact y8y pins s σ H _ _ _ _ Q I rx ry ⟨a,b,xs,ys,rfl,rfl,ha,hb,hx,hz,q1 hx,q2 hx⟩
@[simp] theorem tcatD_tup(a b:AR):Ykv (.tup a) (.tup b)=if a.length+b.length<=cap6 then some (.tup (a++b))else none:=nr0 rfl
end
end
section
end
section
structure ZE(X:Cx)(e:Expr)(f:AX):Prop where
 un:ME X e f
structure ZC(X:Cx)(e:Expr)(f:AX):Prop where
 un:MC X e f
structure ZCA(X:Cx)(es:AM)(f:AY):Prop where
 un:MCA X es f
structure ZF(X:Cx)(e:Expr)(f:AY):Prop where
 un:MF X e f
structure ZT(X:Cx)(e:Expr)(f:AW):Prop where
 un:MT X e f
structure ZW(X:Cx)(e:Expr)(f:AW):Prop where
 un:MW X e f
structure ZA(X:Cx)(es:AM)(f:AY):Prop where
 un:MA X es f
structure ZI(X:Cx)(tg iter:Expr)(f:AY):Prop where
 un:MI X tg iter f
structure ZS(X:Cx)(st:Stmt)(f:AU):Prop where
 un:MS X st f
structure ZB(X:Cx)(sts:List Stmt)(f:AU):Prop where
 un:MB X sts f
structure ZG(X:Cx)(tg:Expr)(gt:AV):Prop where
 un:MG X tg gt
structure ZIfs(X:Cx)(K:W7)(ifs:AM)(f:AW):Prop where
 un:PIfs X ifs (tTof K f)
structure ZO(X:Cx)(e:Option Expr)(f:Option AX):Prop where
 un:PO X e (tO X.K f)
structure ZP(X:Cx)(pos:Pos)(keys:List (Option Expr))(values:AM)(ks:AL)(fs:List AX):Prop where
 un:MP X pos keys values ks fs
section
variable {K:W7}{X:Cx}{H0 G0 H G:Hp}{σ:L2.St}{ρ:Ro}{a b c e:Expr}{es:AM}{fa fb fc f:AX}{ga:AY}{pos:Pos}
def Yd(h:ZE X e f):ZC X e f:=⟨ME.mc h.un⟩
def Ye(i:Nat)(hN:X.N[i]?=some x:=by rfl)(hv:Vis X.env.scope x:=by trivial)(hd:Ndb x:=by decide)(hcd:Ncd x:=by decide):ZE X (.Name x pos) (getV i):=⟨
 PE.imp (Ylp hN hv hd hcd) λσ H Q hx_=>by
  obtain⟨ρ,d,H0,G0,G,e,s,h⟩:=hx_;obtain⟨v,h1,h2⟩:=s.sh i d (Yry e)
  exact⟨v,h1,h v H G (.refl s.seen) h2⟩⟩
def Yc(i:Nat)(hN:X.N[i]?=some x:=by rfl)(hv:Vis X.env.scope x:=by trivial)(hd:Ndb x:=by decide)(hcd:Ncd x:=by decide):ZC X (.Name x pos) (getC i):=⟨
 PE.imp (Ylp hN hv hd hcd) λσ H Q hx_=>by
  obtain⟨ρ,d,H0,G0,G,e,s,h⟩:=hx_;unfold getC at e
  split at e
  ·rename_i d' hd'
   cases e;obtain⟨v,h1,h2⟩:=s.sh i _ hd';exact⟨v,h1,h v H G (.refl s.seen) (.of s.seen h2)⟩
  ·rename_i l hl
   cases e;obtain⟨a,xs,h1,h2,h3,h4,h5⟩:=s.ow i l hl;exact⟨_,h1,h _ H G (.refl s.seen) (by rw[Ct];exact⟨a,xs,rfl,.inl h4,h5⟩)⟩
  ·rename_i t ks vs hl
   cases e;obtain⟨a,kxs,vxs,h1,h2,h3,h4,h5⟩:=s.od i t ks vs hl;exact⟨_,h1,h _ H G (.refl s.seen) (by rw[Ct];exact⟨a,kxs,vxs,rfl,h4,h5⟩)⟩
  ·cases e⟩
def Yj{j}:ZE X (.Constant (.int i) j pos) (kD (.int i)):=⟨y7i ⟩
def Yee{j}:ZE X (.Constant (.bool k) j pos) (kD (.bl k)):=⟨Yaf6 ⟩
def Yar{j}:ZE X (.Constant .none j pos) (kD .non):=⟨Yacw ⟩
theorem Yx{j}(hx:PyData.strOk x=true:=by decide +kernel):ZE X (.Constant (.str x) j pos) (kD (.str x)):=⟨Ylb (v:=.str x) Yabo (λ_ _ _ q=>q) λ_=>by rw[Rp];grind⟩
def Yj2(ha:ZC X a fa)(hb:ZC X b fb):ZE X (.BinOp a .Sub b pos) (b2 fa fb subI):=⟨have ha:=ha.un;have hb:=hb.un;Yok Yab2 y0i ha hb⟩
def y1v(ha:ZC X a fa)(hb:ZC X b fb):ZE X (.BinOp a .Mult b pos) (b2 fa fb mulI):=⟨have ha:=ha.un;have hb:=hb.un;Yok Yab3 (Ywj λi j h=>by
 simp only[Bool.or_eq_true,Qb,wm]at h
 exact h) ha hb⟩
def Ygl(ha:ZC X a fa)(hb:ZC X b fb):ZE X (.BinOp a .FloorDiv b pos) (b2 fa fb divI):=⟨have ha:=ha.un;have hb:=hb.un;Yok y8o (Ywj λi j h=>by
 simp only[Qb,wm]at h
 exact h) ha hb⟩
def Ybc(ha:ZC X a fa)(hb:ZC X b fb):ZE X (.BinOp a .Mod b pos) (b2 fa fb modI):=⟨have ha:=ha.un;have hb:=hb.un;Yok Yab4 (Ywj λi j h=>wq h) ha hb⟩
def Ywz(ha:ZC X a fa)(hb:ZC X b fb):ZT X (.Compare a [.Lt] [b] pos) (b2 fa fb ltI):=⟨have ha:=ha.un;have hb:=hb.un;Ygb Yab7 Yug ha hb (Ykh _)⟩
def Yix(hu:X.A.units+64<cLine)(ha:ZC X a fa)(hb:ZC X b fb):ZE X (.Compare a [.Eq] [b] pos) (mB (b2 fa fb (eqM false))):=⟨have ha:=ha.un;have hb:=hb.un;Yol (y7k hu) Ypn ha hb (Ykh _)⟩
def Yw0(hu:X.A.units+64<cLine)(ha:ZC X a fa)(hb:ZC X b fb):ZE X (.Compare a [.NotEq] [b] pos) (mB (b2 fa fb (eqM true))):=⟨have ha:=ha.un;have hb:=hb.un;Yol (y7l hu) Ypn ha hb (Ykh _)⟩
def Ybx(hu:X.A.units+64<cLine)(ha:ZC X a fa)(hb:ZC X b fb):ZT X (.Compare a [.Eq] [b] pos) (b2 fa fb (eqM false)):=⟨have ha:=ha.un;have hb:=hb.un;Ygb (y7k hu) Ypn ha hb (Ykh _)⟩
def Yor(hu:X.A.units+64<cLine)(ha:ZC X a fa)(hb:ZC X b fb):ZT X (.Compare a [.NotEq] [b] pos) (b2 fa fb (eqM true)):=⟨have ha:=ha.un;have hb:=hb.un;Ygb (y7l hu) Ypn ha hb (Ykh _)⟩
def Yaej(hu:X.A.units+64<cLine)(ha:ZC X a fa)(hb:ZC X b fb)(hm:behindInMarks .In b=false:=by with_unfolding_all rfl):ZE X (.Compare a [.In] [b] pos) (mB (b2 fa fb (inM false))):=⟨have ha:=ha.un;have hb:=hb.un;Yol (y7m hu) Yuh ha hb hm⟩
def y1w(hu:X.A.units+64<cLine)(ha:ZC X a fa)(hb:ZC X b fb)(hm:behindInMarks .In b=false:=by with_unfolding_all rfl):ZT X (.Compare a [.In] [b] pos) (b2 fa fb (inM false)):=⟨have ha:=ha.un;have hb:=hb.un;Ygb (y7m hu) Yuh ha hb hm⟩
def y1x(hu:X.A.units+64<cLine)(ha:ZC X a fa)(hb:ZC X b fb)(hm:behindInMarks .NotIn b=false:=by with_unfolding_all rfl):ZT X (.Compare a [.NotIn] [b] pos) (b2 fa fb (inM true)):=⟨have ha:=ha.un;have hb:=hb.un;Ygb (y0j hu) Yuh ha hb hm⟩
end
section
variable {K:W7}{X:Cx}{a b c e tg elt iter ie ke:Expr}{es rest ifs elts:AM}{fa fb f fe fk:AX}{fc fd:AW}{ga gl:AY}{pos p pos' pt p2 pos2 px:Pos}{x:Str}{id T:String}{r:AQ->Hp->VK->Prop}{g:AR->Option D}{gf:AR->Option AR}{st:Stmt}{sts:List Stmt}{fs gs:AU}{scope:Scope}{N:AL}{src:List AN}{gt:AV}{P:P7}{w:World}{mg:AE}{base:Heap}{x1:Nat}{ta:TA}
def Yb4(ha:ZC X a fa)(he:∀whole,isTrue a X.env whole=(do let v <-whole;standAt a.pos;holding [v] (truthy v)):=by intro _;rfl):ZT X a (b1 fa truD):=⟨have ha:=ha.un;
 PT.imp (y4s ha he) λσ H Q hx_=>by
  obtain⟨ρ,k,H0,G0,G,e,s,h⟩:=hx_;obtain⟨d,h1,h2⟩:=Ycp e
  exact tCof.at h1 s λv H1 G1 g1 r1 s1=>⟨k,y89 h2 r1,h H1 G1 g1⟩⟩
def Yfp(ha:ZT X a fc):ZW X (.BoolOp .And [a] pos) fc:=⟨have ha:=ha.un;y8k ha⟩
def Yp3(ha:ZT X a fc):ZW X (.BoolOp .Or [a] pos) fc:=⟨have ha:=ha.un;Yabp ha⟩
def Yib(ha:ZT X a fc)(hb:ZW X (.BoolOp .And (b::rest) pos) fd):ZW X (.BoolOp .And (a::b::rest) pos) (andT fc fd):=⟨have ha:=ha.un;have hb:=hb.un;PW.imp (Yabq ha hb) λ_ _ _ h=>y9b h⟩
def Ysk(ha:ZT X a fc)(hb:ZW X (.BoolOp .Or (b::rest) pos) fd):ZW X (.BoolOp .Or (a::b::rest) pos) (orT fc fd):=⟨have ha:=ha.un;have hb:=hb.un;PW.imp (Yafq ha hb) λ_ _ _ h=>Yac5 h⟩
def y1y(ha:ZT X a fc):ZT X (.UnaryOp .Not a pos) (notT fc):=⟨have ha:=ha.un;PT.imp (Yabr ha) λσ H Q hx_=>by
 obtain⟨ρ,k,H0,G0,G,e,s,h⟩:=hx_;obtain⟨k1,h1,rfl⟩:=qc e
 exact tTof.at h1 s λH1 G1 g1 _=>h H1 G1 g1⟩
def Ylf(ha:ZE X a fa):ZE X (.BoolOp .And [a] pos) fa:=⟨have ha:=ha.un;Yabs ha⟩
def Yp4(ha:ZE X a fa)(hb:ZE X (.BoolOp .And (b::rest) pos) fb):ZE X (.BoolOp .And (a::b::rest) pos) (andV fa fb):=⟨have ha:=ha.un;have hb:=hb.un;PE.imp (Yabt ha hb) λσ H Q hx_=>by
 obtain⟨ρ,d,H0,G0,G,e,s,h⟩:=hx_;unfold andV at e;obtain⟨k,h1,e⟩:=qa e;obtain⟨d1,h2,h3⟩:=Ycp h1;cases Ywk h3
 refine tOf.at h2 s λv H1 G1 g1 r1 s1=>⟨k,by rw[Rp]at r1;exact r1,?_⟩
 cases k with
 | true=>
   rw[if_pos rfl]at e ⊢;exact tOf.at e s1 λw H2 G2 g2 r2 _=>h w H2 G2 (g1.trans g2) r2
 | false=>
   rw[if_neg qi]at e ⊢;cases e
   exact h _ H1 G1 g1 (by rw[Rp])⟩
def y1z(ha:ZE X a fa):ZE X (.UnaryOp .Not a pos) (notV fa):=⟨have ha:=ha.un;PE.imp (Yabu ha) λσ H Q hx_=>by
 obtain⟨ρ,d,H0,G0,G,e,s,h⟩:=hx_;obtain⟨k,h1,rfl⟩:=qc e;obtain⟨d1,h2,h3⟩:=Ycp h1;cases Ywk h3
 exact tOf.at h2 s λv H1 G1 g1 r1 s1=>⟨k,by rw[Rp]at r1;exact r1,h _ H1 G1 g1 (by rw[Rp])⟩⟩
def Yw1(hc:ZT X c fc)(ha:ZE X a fa)(hb:ZE X b fb):ZE X (.IfExp c a b pos) (ifV fc fa fb):=⟨have hc:=hc.un;have ha:=ha.un;have hb:=hb.un;PE.imp (y4m hc ha hb) λσ H Q hx_=>by
 obtain⟨ρ,d,H0,G0,G,e,s,h⟩:=hx_;unfold ifV at e;obtain⟨k,h1,e⟩:=qa e;refine tTof.at h1 s λH1 G1 g1 s1=>?_
 cases k with
 | true=>
   rw[if_pos rfl]at e ⊢;exact tOf.at e s1 λw H2 G2 g2 r2 _=>h w H2 G2 (g1.trans g2) r2
 | false=>
   rw[if_neg qi]at e ⊢
   exact tOf.at e s1 λw H2 G2 g2 r2 _=>h w H2 G2 (g1.trans g2) r2⟩
def Yw2(ha:ZC X a fa)(hb:ZC X b fb):ZE X (.Compare a [.IsNot] [b] pos) (mB (b2 fa fb (isN true))):=⟨have ha:=ha.un;have hb:=hb.un;Yol Yzx Ywm ha hb (Ykh _)⟩
def Yp5(ha:ZC X a fa)(hb:ZC X b fb):ZT X (.Compare a [.Is] [b] pos) (b2 fa fb (isN false)):=⟨have ha:=ha.un;have hb:=hb.un;Ygb Yab8 y9d ha hb (Ykh _)⟩
def Yeq(ha:ZC X a fa)(hb:ZC X b fb):ZT X (.Compare a [.IsNot] [b] pos) (b2 fa fb (isN true)):=⟨have ha:=ha.un;have hb:=hb.un;Ygb Yzx Ywm ha hb (Ykh _)⟩
def Yk(ha:ZC X a fa)(hb:ZC X b fb)(hs:Yez b:=by intro _ _;rfl):ZE X (.Subscript a b pos) (b2 fa fb ixD):=⟨y0l ha.un hb.un hs⟩
def y15{lo hi:Option Expr}(ha:ZC X a fa)(hl:ZO X lo fl)(hh:ZO X hi fh):ZF X (.Subscript a (.Slice lo hi none p2) pos) (slF fa fl fh):=⟨have ha:=ha.un;have hl:=hl.un;have hh:=hh.un;
 PE.imp (Ywe y0a ha hl hh) λσ H Q hx_=>by
  obtain⟨ρ,l,H0,G0,G,e,s,h⟩:=hx_;unfold slF at e;obtain⟨l0,h1,e⟩:=qa e;obtain⟨i,h2,e⟩:=qa e;obtain⟨j,h3,e⟩:=qa e;cases e;obtain⟨d,h4,h5⟩:=Ycp h1;refine tCof.at h4 s λv H1 G1 g1 r1 s1=>y46 h2 s1 λH2 G2 g2 s2=>y46 h3 s2 λH3 G3 g3 s3=>?_;have r3:=(r1.grow g2).grow g3;obtain⟨p,xs,rfl,g,rl⟩:=Yrz h5 r3;refine⟨p,xs,rfl,g,λq hq=>?_⟩;have hq0:H q=none:=g1.h.free (g2.h.free (g3.h.free hq));have gg:=((g1.trans g2).trans g3).trans (Gr.hid (p:=q) s3.seen hq (.lst (cutV xs i j)));refine h q _ _ G3 gg hq0 (s3.seen.free hq) Yu ?_;unfold cutD cutV;rw[rl.length]
  exact(rl.drop _).take _⟩
def Ymj :ZO X none none:=⟨Yagg ⟩
def Ymk(h:ZC X e f):ZO X (some e) (some f):=⟨have h:=h.un;y8x h⟩
def Yaf{g:AY}(h:ZF X e g):ZE X e (lF g):=⟨MF.me h.un⟩
def Yh :ZA X [] aNil:=⟨y0m ⟩
def Yb(ha:ZE X e f)(hr:ZA X es ga)(hs:starEach (e::es) X.env=(false,eval e X.env)::starEach es X.env:=by rfl):ZA X (e::es) (Yg f ga):=⟨Yuj ha.un hr.un hs⟩
def Ys :ZCA X [] aNil:=⟨Yh5 ⟩
def Yq(ha:ZC X e f)(hr:ZCA X es ga)(hs:starEach (e::es) X.env=(false,eval e X.env)::starEach es X.env:=by rfl):ZCA X (e::es) (Yg f ga):=⟨Yfm ha.un hr.un hs⟩
theorem Yt{x1}(h:ZA X es ga):ZE X (.Tuple es x1 pos) (dTup ga):=⟨have h:=h.un;PE.imp (Yacc h) λσ H Q hx_=>by
 obtain⟨ρ,d,H0,G0,G,e,s,h⟩:=hx_;unfold dTup at e;obtain⟨l,h1,e⟩:=qa e
 split at e
 ·cases e
  refine tAof.at h1 s λvs H1 G1 g1 r1 s1=>⟨by rw[r1.length];exact Ye0 (by assumption),λp hp=>?_⟩
  refine h _ _ _ (g1.trans (.new s1.seen hp (.tup vs))) ?_;rw[Rp];exact⟨p,vs,rfl,Yu,r1.mono (Gr.new s1.seen hp (.tup vs)).g⟩
 ·cases e⟩
def Ycq(h:ZA X es ga):ZF X (.List es pos) (dLst ga):=⟨y7n h.un⟩
def Yau(hc:Ydq X (.builtin id) r)(hr:SemC X.K r g)(hg:Gl X x)(hm:X.mg x=none)(hv:bootBuiltins x=some (.builtin id))(ha:ZCA X (e::es) ga)(hn:x≠"__name__":=by decide)(hdb:Ndb x:=by decide)(he:starEach (e::es) X.env=(false,eval e X.env)::starEach es X.env:=by rfl)(hpl:(backTo pos (starEach es X.env)).any (·.1)=false:=by rfl):ZE X (.Call (.Name x p) (e::es) [] pos) (cC ga g):=⟨have ha:=ha.un;
 PE.imp (Yk7 hc hg hm hv ha hn hdb he hpl) λ_ _ _ h=>y7o hr h⟩
def Ycr(hc:Ydq X (.builtin id) r)(hr:SemF X.K r gf)(hg:Gl X x)(hm:X.mg x=none)(hv:bootBuiltins x=some (.builtin id))(ha:ZCA X (e::es) ga)(hn:x≠"__name__":=by decide)(hdb:Ndb x:=by decide)(he:starEach (e::es) X.env=(false,eval e X.env)::starEach es X.env:=by rfl)(hpl:(backTo pos (starEach es X.env)).any (·.1)=false:=by rfl):ZF X (.Call (.Name x p) (e::es) [] pos) (cF ga gf):=⟨have ha:=ha.un;
 PE.imp (Yk7 hc hg hm hv ha hn hdb he hpl) λ_ _ _ h=>y0n hr h⟩
def Yai(hc:Ydq X (.type T) r)(hr:SemC X.K r g)(hg:Gl X x)(hm:X.mg x=none)(hv:bootBuiltins x=some (.type T))(ha:ZCA X (e::es) ga)(hn:x≠"__name__":=by decide)(hdb:Ndb x:=by decide)(he:starEach (e::es) X.env=(false,eval e X.env)::starEach es X.env:=by rfl)(hpl:(backTo pos (starEach es X.env)).any (·.1)=false:=by rfl):ZE X (.Call (.Name x p) (e::es) [] pos) (cC ga g):=⟨have ha:=ha.un;
 PE.imp (Yd9 hc hg hm hv ha hn hdb he hpl) λ_ _ _ h=>y7o hr h⟩
def Yfb(hc:Ydq X (.type T) r)(hr:SemF X.K r gf)(hg:Gl X x)(hm:X.mg x=none)(hv:bootBuiltins x=some (.type T))(ha:ZCA X (e::es) ga)(hn:x≠"__name__":=by decide)(hdb:Ndb x:=by decide)(he:starEach (e::es) X.env=(false,eval e X.env)::starEach es X.env:=by rfl)(hpl:(backTo pos (starEach es X.env)).any (·.1)=false:=by rfl):ZF X (.Call (.Name x p) (e::es) [] pos) (cF ga gf):=⟨have ha:=ha.un;
 PE.imp (Yd9 hc hg hm hv ha hn hdb he hpl) λ_ _ _ h=>y0n hr h⟩
def Yac :ZB X [] sNil:=⟨Yadd ⟩
def Yi(h1:ZS X st fs)(h2:ZB X sts gs):ZB X (st::sts) (sSeq fs gs):=⟨have h1:=h1.un;have h2:=h2.un;PSs.imp (y4n h1 h2) λF σ H hx_=>by
 obtain⟨ρ,out,H0,G0,G,e,s,h⟩:=hx_;unfold sSeq at e;obtain⟨o,h3,e⟩:=qa e
 cases o with
 | nx ρ'=>exact⟨ρ,.nx ρ',H0,G0,G,h3,s,λσ' H' G' s'=>⟨ρ',out,H0,G0,G',e,s',h⟩⟩
 | rt d=>cases e;exact⟨ρ,.rt d,H0,G0,G,h3,s,h⟩
 | bk ρ'=>cases e;exact⟨ρ,.bk ρ',H0,G0,G,h3,s,h⟩
 | ct ρ'=>cases e;exact⟨ρ,.ct ρ',H0,G0,G,h3,s,h⟩⟩
def Ym(h1:ZS X st fs):ZB X [st] fs:=⟨have h1:=h1.un;y8m h1⟩
def Ycf(is:AG)(h:ZS X st fs):ZS X st (wF is fs):=⟨have h:=h.un;PS.imp h λF σ H hx_=>by
 obtain⟨ρ,out,H0,G0,G,e,s,h⟩:=hx_;obtain⟨G',s'⟩:=SR.frz is s
 exact⟨frz is ρ,out,H0,G0,G',e,s',h⟩⟩
def Yv(i:Nat)(hN:X.N.Nodup)(he:ZE X e f)(hi:X.N[i]?=some x:=by rfl)(hx:Loc X.env.scope x:=by trivial)(hs:swapsWith e (some (.Name x pos')) pos.line X.env=pure false:=by rfl)(hf:X.fn x=true\/X.env.scope.names.lookup x=some .local:=by trivial):ZS X (.Assign [.Name x pos'] e pos) (sSet i f):=⟨y7p i hN he.un hi hx hs hf⟩
def Yfq(i:Nat)(hN:X.N.Nodup)(he:ZF X e gl)(hi:X.N[i]?=some x:=by rfl)(hx:Loc X.env.scope x:=by trivial)(hs:swapsWith e (some (.Name x pos')) pos.line X.env=pure false:=by rfl)(hf:X.fn x=true\/X.env.scope.names.lookup x=some .local:=by trivial):ZS X (.Assign [.Name x pos'] e pos) (sOwn i gl):=⟨have he:=he.un;PS.imp (Yoe hN hi hx he hs hf) λ_ _ _ h=>Yadh h⟩
def Yo(he:ZE X e f):ZS X (.Return (some e) pos) (sRet f):=⟨have he:=he.un;PS.imp (Yabv he) λF σ H hx_=>by
 obtain⟨ρ,out,H0,G0,G,e,s,h⟩:=hx_;obtain⟨d,h1,rfl⟩:=qc e
 exact tOf.at h1 s λv H1 G1 g1 r1 s1=>h v H1 G1 s1.gr r1⟩
def Yah{a b:List Stmt}(hc:ZT X c fc)(ha:ZB X a fs)(hb:ZB X b gs):ZS X (.If c a b pos) (sIf fc fs gs):=⟨have hc:=hc.un;have ha:=ha.un;have hb:=hb.un;PS.imp (Yafv hc ha hb) λF σ H hx_=>by
 obtain⟨ρ,out,H0,G0,G,e,s,h⟩:=hx_;unfold sIf at e;obtain⟨k,h1,e⟩:=qa e;refine tTof.at h1 s λH1 G1 g1 s1=>?_
 cases k with
 | true=>
   rw[if_pos rfl]at e ⊢;exact⟨ρ,out,H0,G0,G1,e,s1,h⟩
 | false=>
   rw[if_neg qi]at e ⊢
   exact⟨ρ,out,H0,G0,G1,e,s1,h⟩⟩
theorem Yaak(i:Nat)(hN:X.N.Nodup)(he:ZC X e f)(hi:X.N[i]?=some x:=by rfl)(hx:Loc X.env.scope x:=by trivial)(hf:X.fn x=true\/X.env.scope.names.lookup x=some .local:=by trivial):ZS X (.AugAssign (.Name x pos') .Add e pos) (sInc i f):=⟨have he:=he.un;PS.imp (Yabx hN hi hx he Yaby) λF σ H hx_=>by
 obtain⟨ρ,out,H0,G0,G,e,s,h⟩:=hx_;unfold sInc at e;obtain⟨dx,h1,e⟩:=qa e;obtain⟨dy,h2,e⟩:=qa e;obtain⟨dz,h3,rfl⟩:=qc e;obtain⟨v,hv,rv⟩:=s.sh i dx (Yry h1);refine⟨v,hv,tCof.at h2 s λu H1 G1 g1 r1 s1=>?_⟩
 have h4:∃p q,dx=.int p/\dy=.int q/\dz=.int (p+q):=by
  unfold i2 at h3;grind
 obtain⟨p,q,rfl,rfl,rfl⟩:=h4;rw[Rp]at rv;rw[Ct]at r1
 exact⟨p,q,rv,r1,h _ H1 G1 (s1.set_sh i (by rw[Rp]))⟩⟩
abbrev Few(X:Cx)(c:Pos)(l:AM):Prop:=((backTo c (starEach l X.env)).all (λx=>!x.1)&&(backToKw c (keywordEach [] X.env)).all (λx=>x.1.isSome)&&decide (l.length+([]:List Keyword).length+(if ([]:List Keyword).isEmpty then 0 else 1)<30))=true
def Yd5(i:Nat){p2 apos cpos:Pos}(he:ZE X e f)(hN:X.N[i]?=some x:=by rfl)(hv:Vis X.env.scope x:=by trivial)(hd:Ndb x:=by decide)(hcd:Ncd x:=by decide)(hse:swapsWith (.Call (.Attribute (.Name x p2) "append" apos) [e] [] cpos) none pos.line X.env=pure false:=by rfl)(hs:starEach [e] X.env=[(false,eval e X.env)]:=by rfl)(hfew:Few X cpos [e]:=by rfl)(hline:(apos.endLine==cpos.line)=true:=by rfl)(hbase:attributeBase (.Name x p2) "append" X.env (eval (.Name x p2) X.env)=eval (.Name x p2) X.env:=by rfl):ZS X (.Expr (.Call (.Attribute (.Name x p2) "append" apos) [e] [] cpos) pos) (sMut i f appD):=⟨have he:=he.un;
 PS.imp (Yt7 (y4y PySem.F.plainAttrs_list PySem.F.slot_list_append PySem.F.type_list_append Yrq (Ylp hN hv hd hcd) (Yfj he Yki hs) hbase hfew hline hs rfl) hse) λF σ H hx_=>by
  obtain⟨ρ,out,H0,G0,G,e,s,h⟩:=hx_;unfold sMut at e;obtain⟨l,h1,e⟩:=qa e;obtain⟨d,h2,e⟩:=qa e;obtain⟨l',h3,rfl⟩:=qc e;unfold appD at h3
  split at h3
  ·rename_i hl
   cases h3;obtain⟨a,xs,ha,hH,hr,hG⟩:=y7q s h1;refine⟨_,ha,.inl ⟨rfl,xs,SqL.of hH⟩,tOf.at h2 s λv H1 G1 g1 r1 s1=>?_⟩;refine⟨a,xs,v,rfl,rfl,g1.h _ _ hH,?_,h σ _ G1 (s1.mut (Ylz h1) ha ((hr.mono g1.g).append (.one r1)))⟩;rw[hr.length];exact Qc hl (Ye0 (qu _))
  ·cases h3⟩
theorem Yae(hl:ZE X l f):ZI X tg l (b1 f Yn):=⟨have hl:=hl.un;PI.imp (Yadl hl) λσ H R hx_=>by
 obtain⟨ρ,ds,H0,G0,G,e,s,h⟩:=hx_;obtain⟨c,h1,h2⟩:=Ycp e;refine tOf.at h1 s λv H1 G1 g1 r1 s1=>?_;rcases Yaw h2 with rfl|rfl|⟨ns,rfl,rfl⟩
 ·rw[Rp]at r1
  obtain⟨p,xs,rfl,g,rl⟩:=r1;refine⟨p,xs,rfl,.inr ⟨.inl (.inl (s1.seen _ _ g)),λhz=>h _ H1 G1 g1 (y0r (by rw[<-rl.length];exact hz) λi H2 G2 e1 e2=>⟨λd hd=>?_,λhi=>⟨xs,.inl (.inl (e2 _ _ (e1 _ _ g))),by rw[rl.length];exact hi⟩⟩)⟩⟩;obtain⟨x,hx,rx⟩:=rl.get hd;refine⟨⟨xs,x,.inl (.inl (e2 _ _ (e1 _ _ g))),hx⟩,λy H3 q=>⟨q.1,?_⟩⟩;have:=q.2 xs (.inl (.inl (e2 _ _ (e1 _ _ g))));rw[hx]at this;cases this;exact rx.mono e1
 ·rw[Rp]at r1
  obtain⟨p,xs,rfl,g,rl⟩:=r1;refine⟨p,xs,rfl,.inl ⟨.inl (Ybq s1.seen g),λhz=>h _ H1 G1 g1 (y0r (by rw[<-rl.length];exact hz) λi H2 G2 e1 e2=>⟨λd hd=>?_,λhi=>⟨xs,.inl (Ybq e2 (Ybq e1 g)),by rw[rl.length];exact hi⟩⟩)⟩⟩;obtain⟨x,hx,rx⟩:=rl.get hd;refine⟨⟨xs,x,.inl (Ybq e2 (Ybq e1 g)),hx⟩,λy H3 q=>⟨q.1,?_⟩⟩;have:=q.2 xs (.inl (Ybq e2 (Ybq e1 g)));rw[hx]at this;cases this;exact rx.mono e1
 ·rw[Rp]at r1
  obtain⟨p,rfl,g⟩:=r1;have rl:RpL X.K G1 (ns.map D.int) (ns.map V.int):=.ints ns;refine⟨p,_,rfl,.inl ⟨s1.seen.seq g,λhz=>h _ H1 G1 g1 (y0r (by grind) λi H2 G2 e1 e2=>⟨λd hd=>?_,λhi=>⟨_,e2.seq (e1.seq g),by grind⟩⟩)⟩⟩;obtain⟨x,hx,rx⟩:=rl.get hd;refine⟨⟨_,x,e2.seq (e1.seq g),hx⟩,λy H3 q=>⟨q.1,?_⟩⟩;have:=q.2 _ (e2.seq (e1.seq g));rw[hx]at this;cases this
  exact rx.mono e1⟩
theorem Yfc(hg:Gl X "range")(hm:X.mg "range"=none)(ha:ZA X [a] ga)(hs:starEach [a] X.env=[(false,eval a X.env)]:=by rfl):ZI X tg (.Call (.Name "range" p) [a] [] pos) (cF ga rng1):=⟨have ha:=ha.un;
 PI.imp (Yzu hg hm ha hs) λσ H R hx_=>by
  obtain⟨ρ,ds,H0,G0,G,e,s,h⟩:=hx_;unfold cF at e;obtain⟨l,h1,h2⟩:=qa e;refine tAof.at h1 s λvs H1 G1 g1 r1 s1=>?_;obtain⟨n,rfl,c1,c2,rfl⟩:=y0s h2;obtain⟨v,rfl,rv⟩:=Yjw r1;rw[Rp]at rv;subst rv;refine⟨n,rfl,by lia,by lia,?_⟩;have:=h (Itr 0 (n-0).toNat) H1 G1 g1 (y7r (Ye0 (by unfold cap6;lia)))
  grind⟩
theorem Yyq(hg:Gl X "range")(hm:X.mg "range"=none)(ha:ZA X [a,b] ga)(hs:starEach [a,b] X.env=[(false,eval a X.env),(false,eval b X.env)]:=by rfl)(hs2:starEach [b] X.env=[(false,eval b X.env)]:=by rfl):ZI X tg (.Call (.Name "range" p) [a,b] [] pos) (cF ga rng2):=⟨have ha:=ha.un;
 PI.imp (Yzv hg hm ha hs hs2) λσ H R hx_=>by
  obtain⟨ρ,ds,H0,G0,G,e,s,h⟩:=hx_;unfold cF at e;obtain⟨l,h1,h2⟩:=qa e;refine tAof.at h1 s λvs H1 G1 g1 r1 s1=>?_;obtain⟨a,n,rfl,c1,c2,c3,c4,rfl⟩:=y0t h2;rw[RpL]at r1;obtain⟨x,r,rfl,rx,r1⟩:=r1;obtain⟨y,rfl,ry⟩:=Yjw r1;rw[Rp]at rx ry;subst rx;subst ry
  exact⟨a,n,rfl,⟨by lia,by lia,by lia,by lia⟩,h _ H1 G1 g1 (y7r (Qh (by lia:(n-a).toNat<=2000000) (by rw[ji];decide)))⟩⟩
def Yw(i:Nat)(hN:X.N.Nodup)(hi:X.N[i]?=some x:=by rfl)(hx:Loc X.env.scope x:=by trivial)(hf:X.fn x=true\/X.env.scope.names.lookup x=some .local:=by trivial):ZG X (.Name x pos) (gSet i):=⟨
 PG.imp (Yt8 hN hi hx hf) λv σ H Q hx_=>by
  obtain⟨d,ρ,ρ',H0,G0,G,e,s,r,h⟩:=hx_;cases e
  exact h _ (s.set_sh i r)⟩
def Yp6(i j:Nat){x y:Str}{px py:Pos}{k:Nat}(hc:X.calm=true)(hN:X.N.Nodup)(hi:X.N[i]?=some x:=by rfl)(hj:X.N[j]?=some y:=by rfl)(hx:Loc X.env.scope x:=by trivial)(hy:Loc X.env.scope y:=by trivial)(hf:X.fn x=true\/X.env.scope.names.lookup x=some .local:=by trivial)(hf2:X.fn y=true\/X.env.scope.names.lookup y=some .local:=by trivial):ZG X (.Tuple [.Name x px,.Name y py] k pos) (Ypp i j):=⟨
 PG.imp (Yabw (n:=2) hc (Ywa (Yt8 hN hi hx hf) (Ywa (Yt8 hN hj hy hf2) y8n))) λv σ H Q hx_=>by
  obtain⟨d,ρ,ρ',H0,G0,G,e,s,r,h⟩:=hx_
  match d,e,r with
  | .tup [a,b],e,r=>
    cases e;rw[Rp]at r;obtain⟨p,xs,rfl,g,rl⟩:=r;rw[RpL]at rl;obtain⟨u,us,rfl,ru,rl⟩:=rl;obtain⟨w,rfl,rw'⟩:=Yjw rl
    exact⟨p,[u,w],rfl,.inl (.inl (s.seen _ _ g)),rfl,u,[w],rfl,w,[],rfl,rfl,h _ ((s.set_sh i ru).set_sh j rw')⟩⟩
theorem Ybh(hp:PassesOwn (mZ X.prog X.w) X.A X.env X.xe)(hc:X.calm=true)(hi:ZI X tg iter gl)(hg:ZG X tg gt)(hb:ZB X body fs)(hs:∀x,foldedSetIterable iter X.env x=pure x:=by intro _;rfl):ZS X (.For tg iter body [] pos) (sFor gl gt fs):=⟨have hi:=hi.un;have hg:=hg.un;have hb:=hb.un;
 PS.imp (Yab0 hp hc hi hg hb hs) λF σ H hx_=>by
  obtain⟨ρ,out,H0,G0,G,e,s,h⟩:=hx_;unfold sFor at e;obtain⟨ds,h1,h2⟩:=qa e;refine⟨ρ,ds,H0,G0,G,h1,s,λJ H1 G1 g1 wk=>?_⟩;obtain⟨Hb,sb,back⟩:=(s.grow g1).rebase;have hout:=Yh6 ds ρ out h2;refine⟨λi m σ' H'=>m=ds.length-i/\i<=ds.length/\∃ρ' G',SR X.K Hb G1 σ' H' G' ρ'/\forM gt fs (ds.drop i) ρ'=some out,⟨_,rfl,Qf _,ρ,G1,sb,h2⟩,?_⟩;rintro i m σ' H' ⟨rfl,hi,ρ',G',s',e'⟩;have W:=wk.2 i H' G' s'.gr.g s'.seen;by_cases hlt:i<ds.length
  ·have hd:ds[i]?=some ds[i]:=qq hlt
   obtain⟨go,yl⟩:=W.1 _ hd;rw[List.drop_eq_getElem_cons hlt,forM]at e';obtain⟨ρ1,e1,e'⟩:=qa e';obtain⟨o,e2,e'⟩:=qa e';refine .inr ⟨go,λσ' H'=>i+1<=ds.length/\∃ρ' G',SR X.K Hb G1 σ' H' G' ρ'/\forM gt fs (ds.drop (i+1)) ρ'=some out,λσ2 H2 q=>⟨ds.length-(i+1),by lia,rfl,q.1,q.2⟩,λx H2 y=>?_⟩;obtain⟨G2,g2,r2⟩:=yl x H2 y;refine⟨_,ρ',ρ1,Hb,G1,G2,e1,s'.grow g2,r2,λσ3 s3=>?_⟩;refine⟨ρ1,o,Hb,G1,G2,e2,s3,?_⟩
   cases o with
   | nx ρ2=>exact λσ4 H4 G4 s4=>⟨hlt,ρ2,G4,s4,e'⟩
   | ct ρ2=>exact λσ4 H4 G4 s4=>⟨hlt,ρ2,G4,s4,e'⟩
   | bk ρ2=>
     cases e';exact λσ4 H4 G4 s4=>h σ4 H4 G4 (back _ _ _ _ s4)
   | rt d=>
     cases e';refine λv H4 G4 g4 r4=>h v H4 G4 ?_ r4;have:=(back [] H4 G4 [] (SR.mkSh g4 rfl (λi d e=>(by simp at e)) (λi l e=>(by simp at e)) (λi t ks vs e=>(by simp at e)))).gr;exact this
  ·have ei:i=ds.length:=by lia
   subst ei;rw[List.drop_length,forM]at e';cases e'
   exact .inl ⟨W.2 (qu _),h σ' H' G' (back _ _ _ _ s')⟩⟩
def Yiy(n:Nat)(hp:PassesOwn (mZ X.prog X.w) X.A X.env X.xe)(hc:ZT X c fc)(hb:ZB X body fs):ZS X (.While c body [] pos) (Ybt fc fs n):=⟨have hc:=hc.un;have hb:=hb.un;
 PS.imp (y4o hp hc hb) λF σ H hx_=>by
  obtain⟨ρ,out,H0,G0,G,e,s,h⟩:=hx_;refine⟨λm σ' H'=>∃ρ' G',SR X.K H0 G0 σ' H' G' ρ'/\Ybt fc fs m ρ'=some out,⟨n,ρ,G,s,e⟩,?_⟩;rintro m σ' H' ⟨ρ',G',s',e'⟩
  cases m with
  | zero=>cases e'
  | succ m=>
    rw[Ybt]at e';obtain⟨k,e1,e'⟩:=qa e';refine tTof.at e1 s' λH1 G1 g1 s1=>?_
    cases k with
    | false=>
      rw[if_neg qi]at e';cases e';exact h σ' H1 G1 s1
    | true=>
      rw[if_pos rfl]at e';obtain⟨o,e2,e'⟩:=qa e';refine⟨λσ' H'=>∃ρ' G',SR X.K H0 G0 σ' H' G' ρ'/\Ybt fc fs m ρ'=some out,λσ2 H2 q=>⟨m,Nat.lt_succ_self m,q⟩,?_⟩;refine⟨ρ',o,H0,G0,G1,e2,s1,?_⟩
      cases o with
      | nx ρ2=>exact λσ4 H4 G4 s4=>⟨ρ2,G4,s4,e'⟩
      | ct ρ2=>exact λσ4 H4 G4 s4=>⟨ρ2,G4,s4,e'⟩
      | bk ρ2=>cases e';exact h
      | rt d=>cases e';exact h⟩
def Ya8 :ZIfs X X.K [] tY:=⟨Yado ⟩
def Yaq(S:aMc X.N X.env.scope N src scope)(hc:X.calm=true)(hit:ZI X tg iter gl)(hg:∀cl C fp s H,ZG (Ya3 X scope N cl C fp s H) tg gt)(hi:∀cl C fp s H,ZIfs (Ya3 X scope N cl C fp s H) X.K ifs fc)(he:∀cl C fp s H,ZE (Ya3 X scope N cl C fp s H) elt fe)(hle:∀ρ d ρ1,gt d (capR src ρ)=some ρ1->Le (capR src ρ) ρ1)(hs:∀x,foldedSetIterable iter X.env x=pure x:=by intro _;rfl):ZF X (.ListComp elt [⟨tg,iter,ifs,0⟩] scope pos) (Ybb gl src gt fc fe):=⟨y9l S hc hit.un (λcl C fp s H=>(hg cl C fp s H).un) (λcl C fp s H=>(hi cl C fp s H).un) (λcl C fp s H=>(he cl C fp s H).un) hle hs⟩
def Yfr(i:Nat){py spos:Pos}(hN:X.N.Nodup)(S:aMc X.N X.env.scope N src scope)(hc:X.calm=true)(hit:ZI X tg iter gl)(hg:∀cl C fp s H,ZG (Ya3 X scope N cl C fp s H) tg gt)(hi:∀cl C fp s H,ZIfs (Ya3 X scope N cl C fp s H) X.K ifs fc)(he:∀cl C fp s H,ZE (Ya3 X scope N cl C fp s H) elt fe)(hle:∀ρ d ρ1,gt d (capR src ρ)=some ρ1->Le (capR src ρ) ρ1)(hsw:swapsWith (.ListComp elt [⟨tg,iter,ifs,0⟩] scope pos) (some (.Name y py)) spos.line X.env=pure true:=by rfl)(hy:X.N[i]?=some y:=by rfl)(hx:Loc X.env.scope y:=by trivial)(hf:X.fn y=true\/X.env.scope.names.lookup y=some .local:=by trivial)(hs:∀x,foldedSetIterable iter X.env x=pure x:=by intro _;rfl):ZS X (.Assign [.Name y py] (.ListComp elt [⟨tg,iter,ifs,0⟩] scope pos) spos) (sOwn i (Ybb gl src gt fc fe)):=⟨y9m i hN S hc hit.un (λcl C fp s H=>(hg cl C fp s H).un) (λcl C fp s H=>(hi cl C fp s H).un) (λcl C fp s H=>(he cl C fp s H).un) hle hsw hy hx hf hs⟩
def Yos{f:Addr}{fd:FuncData}{fb:AU}(F:Fun K x qual st f fd)(S:aJc N ps (aIc st))(hn:N.length=n)(hm:ps.length=m)(hb:∀(cdv:Value) (A:Around) (outer:List Env) (s:Shared) (H:Hp) (E:XK),Room k (A.deeper (envOfC qual (aIc st) (~~~s) f cdv))->ZB (cxOf CX0 P w K mg base N qual (aIc st) f cdv A outer s H E).nox (aKc st) fb):FnOk P w K mg base CX0 (k+1) f fd ps (spOf K m (runB m n fb)):=y0x F S hn hm (λcdv A outer s H E hr=>(hb cdv A outer s H E hr).un)
theorem Yl(c:Okf X.prog X.w X.K X.mg X.base j n x ps fn)(hr:Room k X.A)(hg:Gl X x)(ha:ZA X (e::es) ga)(hl:∀ρ l,ga ρ=some l->l.length=n)(hj:j<=k:=by first|exact qu _|lia)(hdb:Ndb x:=by decide)(he:starEach (e::es) X.env=(false,eval e X.env)::starEach es X.env:=by rfl)(hpl:(backTo pos (starEach es X.env)).any (·.1)=false:=by rfl):ZE X (.Call (.Name x p) (e::es) [] pos) (cC ga fn):=⟨have ha:=ha.un;by
 obtain⟨a,fd,F,hb,hk,hm⟩:=c
 exact y9g F (hr.mono hj) hg hm hk hb ha hdb he hpl hl⟩
def Yc9(ha:ZC X a fa)(hb:ZC X b fb):ZE X (.BinOp a .Add b pos) (b2 fa fb addI):=⟨have ha:=ha.un;have hb:=hb.un;Yok Yab1 y0i ha hb⟩
def Yml(ha:ZC X a fa):ZE X (.UnaryOp .USub a pos) (b1 fa negI):=⟨have ha:=ha.un;PE.imp (Yafz Yab6 ha) λσ H Q hx_=>by
 obtain⟨ρ,d,H0,G0,G,e,s,h⟩:=hx_;obtain⟨x,h1,h2⟩:=Ycp e;refine tCof.at h1 s λv H1 G1 g1 r1 s1=>?_;cases x<;>simp[negI]at h2;subst h2;rw[Ct]at r1
 exact⟨_,r1,h _ H1 G1 g1 (by rw[Rp])⟩⟩
def Yu0(ha:ZC X a fa)(hb:ZC X b fb):ZF X (.BinOp a .Add b pos) (b2 fa fb catD):=⟨have ha:=ha.un;have hb:=hb.un;PE.imp (y4q y9n ha hb) λσ H Q hx_=>by
 obtain⟨ρ,l,H0,G0,G,e,s,h⟩:=hx_;obtain⟨dx,dy,h1,h2,h3⟩:=Yly e;refine tCof.at h1 s λv H1 G1 g1 r1 s1=>tCof.at h2 s1 λu H2 G2 g2 r2 s2=>?_;unfold catD at h3
 split at h3
 ·rename_i l1 l2
  split at h3
  ·rename_i hz
   cases h3;have r1':=r1.grow g2;rw[Ct]at r1' r2;obtain⟨p,xs,rfl,gp,rl⟩:=r1';obtain⟨q,zs,rfl,gq,rm⟩:=r2;refine⟨p,q,xs,zs,rfl,rfl,gp,gq,by rw[rl.length,rm.length];exact Ye0 hz,λm hm=>?_⟩;exact h m _ _ G2 ((g1.trans g2).trans (.hid s2.seen hm _)) (g1.h.free (g2.h.free hm)) (s2.seen.free hm) Yu (rl.append rm)
  ·cases h3
 ·cases h3⟩
theorem Yaal(ha:ZC X a fa)(hg:Gl X "isinstance")(hg2:Gl X tn)(hm:X.mg "isinstance"=none)(hm2:X.mg tn=none)(hv2:bootBuiltins tn=some (.type T))(hk:Kit T)(hv:bootBuiltins "isinstance"=some (.builtin "isinstance"):=by decide +kernel)(hn2:tn≠"__name__":=by decide)(hd2:(tn==("__debug__":Str))=false:=by decide)(hs:starEach [a,.Name tn p2] X.env=(false,eval a X.env)::starEach [.Name tn p2] X.env:=by rfl)(hs2:starEach [.Name tn p2] X.env=(false,eval (.Name tn p2) X.env)::starEach [] X.env:=by rfl)(hpl:(backTo pos (starEach [.Name tn p2] X.env)).any (·.1)=false:=by rfl):ZE X (.Call (.Name "isinstance" p) [a,.Name tn p2] [] pos) (mB (b1 fa (isiD T))):=⟨have ha:=ha.un;
 PE.imp (Yk7 (y5e hk) hg hm hv (Yfj ha (Yfj (y8j hg2 hm2 hv2 (v:=.ty T) rfl hn2 hd2) Yki hs2) hs) (by decide) (by decide) hs hpl) λσ H Q hx_=>by
  obtain⟨ρ,d,H0,G0,G,e,s,h⟩:=hx_;obtain⟨k,ek,rfl⟩:=Yuf e;obtain⟨x,h1,h2⟩:=Ycp ek;unfold isiD at h2
  split at h2
  ·cases h2
   exact tCof.at h1 s λv H1 G1 g1 r1 s1=>⟨v,x,G1,rfl,by assumption,r1,h _ H1 G1 g1 (by rw[Rp])⟩
  ·cases h2⟩
def Yfs(hg:Gl X "enumerate")(hm:X.mg "enumerate"=none)(hl:ZE X l f)(hs:starEach [l] X.env=[(false,eval l X.env)]:=by rfl):ZI X (.Tuple elts x1 pt) (.Call (.Name "enumerate" p) [l] [] pos) (b1 f Yl8):=⟨have hl:=hl.un;
 PI.imp (y9r hg hm (Yuj hl y0m hs) hs) λσ H R hx_=>by
  obtain⟨ρ,ds,H0,G0,G,e,s,h⟩:=hx_;obtain⟨c,h1,h2⟩:=Ycp e;obtain⟨l,h3,rfl⟩:=qc h2;refine tAof.at (show Yg f aNil ρ=some [c] by simp[Yg,aNil,h1]) s λvs H1 G1 g1 r1 s1=>?_;obtain⟨v,rfl,rv⟩:=Yjw r1;rcases Yaw h3 with rfl|rfl|⟨ns,rfl,rfl⟩
  ·rw[Rp]at rv
   obtain⟨p,xs,rfl,g,rl⟩:=rv;refine⟨p,xs,rfl,.inr ⟨.inl (.inl (s1.seen _ _ g)),λhz=>h _ H1 G1 g1 ⟨by rw[Yci,<-rl.length];exact hz,λi H2 G2 e1 e2=>⟨λd hd=>?_,λhi=>⟨xs,.inl (.inl (e2 _ _ (e1 _ _ g))),by rw[rl.length,<-Yci l];exact hi⟩⟩⟩⟩⟩;obtain⟨d',hd',rfl⟩:=Yl9 hd;obtain⟨x,hx,rx⟩:=rl.get hd';refine⟨⟨xs,x,.inl (.inl (e2 _ _ (e1 _ _ g))),hx⟩,λy H3 q=>?_⟩;obtain⟨y',q',a1,a2,rfl,rfl⟩:=q;have:=a1 xs (.inl (.inl (e2 _ _ (e1 _ _ g))));rw[hx]at this;cases this;exact Gr.newTup e2 a2 i (rx.mono e1)
  ·rw[Rp]at rv
   obtain⟨p,xs,rfl,g,rl⟩:=rv;refine⟨p,xs,rfl,.inl ⟨.inl (Ybq s1.seen g),λhz=>h _ H1 G1 g1 ⟨by rw[Yci,<-rl.length];exact hz,λi H2 G2 e1 e2=>⟨λd hd=>?_,λhi=>⟨xs,.inl (Ybq e2 (Ybq e1 g)),by rw[rl.length,<-Yci l];exact hi⟩⟩⟩⟩⟩;obtain⟨d',hd',rfl⟩:=Yl9 hd;obtain⟨x,hx,rx⟩:=rl.get hd';refine⟨⟨xs,x,.inl (Ybq e2 (Ybq e1 g)),hx⟩,λy H3 q=>?_⟩;obtain⟨y',q',a1,a2,rfl,rfl⟩:=q;have:=a1 xs (.inl (Ybq e2 (Ybq e1 g)));rw[hx]at this;cases this;exact Gr.newTup e2 a2 i (rx.mono e1)
  ·rw[Rp]at rv
   obtain⟨p,rfl,g⟩:=rv;have rl:RpL X.K G1 (ns.map D.int) (ns.map V.int):=.ints ns;refine⟨p,_,rfl,.inl ⟨s1.seen.seq g,λhz=>h _ H1 G1 g1 ⟨by rw[Yci,<-rl.length];exact hz,λi H2 G2 e1 e2=>⟨λd hd=>?_,λhi=>⟨_,e2.seq (e1.seq g),by rw[rl.length,<-Yci];exact hi⟩⟩⟩⟩⟩;obtain⟨d',hd',rfl⟩:=Yl9 hd;obtain⟨x,hx,rx⟩:=rl.get hd';refine⟨⟨_,x,e2.seq (e1.seq g),hx⟩,λy H3 q=>?_⟩;obtain⟨y',q',a1,a2,rfl,rfl⟩:=q;have:=a1 _ (e2.seq (e1.seq g));rw[hx]at this;cases this
   exact Gr.newTup e2 a2 i (rx.mono e1)⟩
def Yyr(hc:X.calm=true)(hg:Gl X "tuple")(hm:X.mg "tuple"=none)(hg2:Gl X "reversed")(hm2:X.mg "reversed"=none)(ha:ZC X e f)(hs:starEach [e] X.env=[(false,eval e X.env)]:=by rfl)(he:starEach [.Call (.Name "reversed" p2) [e] [] pos2] X.env=[(false,eval (.Call (.Name "reversed" p2) [e] [] pos2) X.env)]:=by rfl):ZE X (.Call (.Name "tuple" p) [.Call (.Name "reversed" p2) [e] [] pos2] [] pos) (λρ=>(revF f ρ).map D.tup):=⟨have ha:=ha.un;
 PE.imp (y08 hc hg hm hg2 hm2 (Yfm ha Yh5 hs) hs he) λσ H Q hx_=>by
  obtain⟨ρ,d0,H0,G0,G,e,s,h⟩:=hx_;obtain⟨l1,h0,rfl⟩:=qc e;obtain⟨l0,h1,rfl⟩:=qc h0;obtain⟨d,h2,h3⟩:=Ycp h1;refine tCAof.at (show Yg f aNil ρ=some [d] by simp[Yg,aNil,h2]) s λvs H1 G1 g1 r1 s1=>?_;obtain⟨v,rfl,rv⟩:=Yc5 r1;obtain⟨q,xs,rfl,g,rl⟩:=Yrz h3 rv;refine⟨q,xs,rfl,g,λm hm'=>h _ _ _ (g1.trans (.new s1.seen hm' (.tup xs.reverse))) ?_⟩;rw[Rp]
  exact⟨m,_,rfl,Yu,rl.reverse.mono (Gr.new s1.seen hm' _).g⟩⟩
def Yys(i:Nat){p2 apos cpos:Pos}(he:ZE X e f)(hN:X.N[i]?=some x:=by rfl)(hv:Vis X.env.scope x:=by trivial)(hd:Ndb x:=by decide)(hcd:Ncd x:=by decide)(hse:swapsWith (.Call (.Attribute (.Name x p2) "extend" apos) [e] [] cpos) none pos.line X.env=pure false:=by rfl)(hs:starEach [e] X.env=[(false,eval e X.env)]:=by rfl)(hfew:Few X cpos [e]:=by rfl)(hline:(apos.endLine==cpos.line)=true:=by rfl)(hbase:attributeBase (.Name x p2) "extend" X.env (eval (.Name x p2) X.env)=eval (.Name x p2) X.env:=by rfl):ZS X (.Expr (.Call (.Attribute (.Name x p2) "extend" apos) [e] [] cpos) pos) (sMut i f extD):=⟨have he:=he.un;
 PS.imp (Yt7 (y4y PySem.F.plainAttrs_list PySem.F.slot_list_extend PySem.F.type_list_extend Yadx (Ylp hN hv hd hcd) (Yfj he Yki hs) hbase hfew hline hs rfl) hse) λF σ H hx_=>by
  obtain⟨ρ,out,H0,G0,G,e,s,h⟩:=hx_;unfold sMut at e;obtain⟨l,h1,e⟩:=qa e;obtain⟨d,h2,e⟩:=qa e;obtain⟨l',h3,rfl⟩:=qc e;unfold extD at h3
  split at h3
  ·rename_i m
   split at h3
   ·rename_i hl
    cases h3;obtain⟨a,xs,ha,hH,hr,hG⟩:=y7q s h1;refine⟨_,ha,.inl ⟨rfl,xs,SqL.of hH⟩,tOf.at h2 s λv H1 G1 g1 r1 s1=>?_⟩;rw[Rp]at r1;obtain⟨b,zs,rfl,gb,rz⟩:=r1;refine⟨a,b,xs,zs,rfl,rfl,g1.h _ _ hH,Ybq s1.seen gb,?_,h σ _ G1 (s1.mut (Ylz h1) ha ((hr.mono g1.g).append rz))⟩;rw[hr.length,rz.length];exact Ye0 hl
   ·cases h3
  ·cases h3⟩
theorem y16(g:GD X.K X.w X.mg x kvs)(hg:Gl X x)(hk:ZC X ke fk)(hs:NoSl ke:=by intro _ _;rfl)(hd:Ndb x:=by decide):ZE X (.Subscript (.Name x px) ke pos) (b1 fk (y1d kvs)):=⟨have hk:=hk.un;by
 obtain⟨p,o,es,ep,hm,hl,hx,hdt,hse⟩:=g;intro pins s σ H Q I ⟨ρ,d,H0,G0,G,e,sr,h⟩;obtain⟨dk,h1,h2⟩:=Ycp e;refine y8u PySem.F.slot_dict_getitem.lookup hs (Yzs I hg hm ?_ hd);refine thn (hk pins s σ H (fun(v':V) (H':Hp)=>∃k r,v'=.str k/\kvs.lookup k=some r/\Q (.str r) H') I (tCof.at h1 sr λv H1 G1 g1 r1 s1=>?_)) λiv s2 q0=>?_
 ·unfold y1d at h2
  split at h2
  ·rename_i k
   obtain⟨r,h3,rfl⟩:=qc h2;rw[Ct]at r1;exact⟨k,r,r1.1,h3,h _ H1 G1 g1 (by rw[Rp];exact⟨rfl,Yady hse h3⟩)⟩
  ·cases h2
 ·obtain⟨y,H2,I2,ry,k,r,rfl,h3,q⟩:=q0
  obtain⟨t,rfl⟩:=ry;have ho:s2.heap.get? p=some o:=I2.kIn p o hl;obtain⟨e',t',f1,f2⟩:=y1b (P:=X.prog) hse h3;refine⟨⟨o,ho,hx.1⟩,wpAny_getItem_of (knd:=PySem.strKind X.prog X.w) (k:=k) (f:=λk=>findBy (PySem.strKind X.prog X.w).is es k) (v:=.str r t') (by simp[PySem.strKind,Value.isStrOf]) ⟨o,es,ep,ho,hx,hdt,?_,λ_=>rfl⟩ ?_ ⟨.str r,H2,I2.tok _,⟨t',rfl⟩,q⟩⟩
  ·intro e'' he
   exact y1c hse e'' (by grind)
  ·show(es.find? λe=>(PySem.strKind X.prog X.w).is k e.key).map (·.val)=_
   grind⟩
def Yb7(hu:X.A.units+64<cLine)(ha:ZC X a fa)(hb:ZC X b fb)(hs:Yez b:=by intro _ _;rfl):ZE X (.Subscript a b pos) (b2 fa fb getT):=⟨have ha:=ha.un;have hb:=hb.un;y88 (Yagm hu) y5j ha hb hs⟩
def y17(hu:X.A.units+64<cLine)(ha:ZC X a fa)(hb:ZC X b fb)(hm:behindInMarks .In b=false:=by with_unfolding_all rfl):ZE X (.Compare a [.In] [b] pos) (mB (b2 fa fb (hasT false))):=⟨have ha:=ha.un;have hb:=hb.un;Yol (y7t hu) Ypt ha hb hm⟩
def y18(hu:X.A.units+64<cLine)(ha:ZC X a fa)(hb:ZC X b fb)(hm:behindInMarks .In b=false:=by with_unfolding_all rfl):ZT X (.Compare a [.In] [b] pos) (b2 fa fb (hasT false)):=⟨have ha:=ha.un;have hb:=hb.un;Ygb (y7t hu) Ypt ha hb hm⟩
def y52(hu:X.A.units+64<cLine)(ha:ZC X a fa)(hb:ZC X b fb)(hm:behindInMarks .NotIn b=false:=by with_unfolding_all rfl):ZT X (.Compare a [.NotIn] [b] pos) (b2 fa fb (hasT true)):=⟨have ha:=ha.un;have hb:=hb.un;Ygb (y1e hu) Ypt ha hb hm⟩
theorem y53(hu:X.A.units+64<cLine)(i:Nat){p2 p3:Pos}(hb:ZC X ie fb)(he:ZE X e f)(hN:X.N[i]?=some x:=by rfl)(hv:Vis X.env.scope x:=by trivial)(hd:Ndb x:=by decide)(hcd:Ncd x:=by decide)(ha:∀v,assign (.Subscript (.Name x p2) ie p3) X.env v=(do
 let ov <-holding [v] (eval (.Name x p2) X.env)
 let iv <-holding [v,ov] (eval ie X.env)
 standAt p3
 holding [v,ov,iv] (setItem ov iv v)
 release [v,ov,iv] []):=by intro _;rfl)(hs:swapsWithSole [.Subscript (.Name x p2) ie p3] e pos.line X.env=pure false:=by rfl)(hw:swappedStores [.Subscript (.Name x p2) ie p3] e X.env=pure none:=by rfl)(h1:(assignEach [.Subscript (.Name x p2) ie p3] X.env).map (·.2)=[assign (.Subscript (.Name x p2) ie p3) X.env]:=by rfl):ZS X (.Assign [.Subscript (.Name x p2) ie p3] e pos) (sPut i fb f):=⟨have hb:=hb.un;have he:=he.un;
 PS.imp (y7f he (y7e (Ylp hN hv hd hcd) hb (Yad1 hu) ha) hs hw h1) λF σ H hx_=>by
  obtain⟨ρ,out,H0,G0,G,e,s,h⟩:=hx_;unfold sPut at e;obtain⟨d,h1,e⟩:=qa e;obtain⟨l,h2,e⟩:=qa e;obtain⟨k,h3,e⟩:=qa e;obtain⟨l',h4,rfl⟩:=qc e;obtain⟨ks,vs⟩:=l;unfold putD at h4;obtain⟨kn,h5,h4⟩:=qa h4;obtain⟨z,h6,h4⟩:=qa h4
  split at h4
  case isFalse=>cases h4
  rename_i hcap;have hod:=Yye h2;refine tOf.at h1 s λv H1 G1 g1 r1 s1=>?_;obtain⟨a0,_,_,ha0,_⟩:=s1.od i _ _ _ hod;refine⟨_,ha0,tCof.at h3 s1 λu H2 G2 g2 r2 s2=>?_⟩;obtain⟨a,kxs,vxs,ha,hG,hH0,dc,rk,rv⟩:=s2.od i _ _ _ hod;rw[ha0]at ha;cases ha;obtain⟨nks,dt,rfl,hk⟩:=y9u s2.seen dc;obtain⟨b,ys,rfl,b1,b2',n⟩:=Yr7 h6 r2;have e:=Yps h5 rk hk
  have hvl:vxs.length<cap6:=by rw[rv.length];exact hcap
  refine⟨a0,b,nks,vxs,ys,z,rfl,rfl,dt,b1,n,hvl,λep=>?_⟩
  have hne:a0≠b:=λz=>by grind
  have r1':=r1.mono g2.g;injection h4 with h4;subst e;refine h _ _ G2 (s2.mutd hod ha0 (kxs:=(putT nks vxs z b v).1.map (λp=>V.ref p.2)) (vxs:=(putT nks vxs z b v).2) ?_ ?_ ?_)
  ·refine .inr ⟨rfl,(putT nks vxs z b v).1,ep,Yu,?_,?_,rfl,?_⟩
   ·unfold putT
    split
    ·rw[Yed];exact dt.len
    ·simp[dt.len]
   ·unfold putT
    split
    ·exact dt.nd
    ·rename_i hm
     rw[wt,List.nodup_append];refine⟨dt.nd,by simp,λx hx y hy z'=>?_⟩;grind
   ·unfold putT
    grind
  ·rw[<-h4]
   unfold putT
   split
   ·exact rk
   ·rw[wt]
    refine RpL.snoc ?_ rk
    cases k with
    | tup l=>
      rw[Ct]at r2;obtain⟨b',ys',e,⟨g1,g2⟩,rl⟩:=r2;rw[Rp];grind
    | _=>cases h6
  ·rw[<-h4]
   unfold putT
   split
   ·exact Ypr z r1' rv
   ·exact RpL.snoc r1' rv⟩
theorem y54(hu:X.A.units+64<cLine)(i:Nat){pos' dpos:Pos}(hN:X.N.Nodup)(hk:ZE X ke fk)(hv:ZE X ve fv)(hi:X.N[i]?=some x:=by rfl)(hx:Loc X.env.scope x:=by trivial)(hs:swapsWith (.Dict [some ke] [ve] dpos) (some (.Name x pos')) pos.line X.env=pure false:=by rfl)(hf:X.fn x=true\/X.env.scope.names.lookup x=some .local:=by trivial):ZS X (.Assign [.Name x pos'] (.Dict [some ke] [ve] dpos) pos) (y1g i fk fv):=⟨have hk:=hk.un;have hv:=hv.un;
 PS.imp (Yoe hN hi hx (y5m hu (y4v hk hv y8v)) hs hf) λF σ H hx_=>by
  obtain⟨ρ,out,H0,G0,G,e,s,h⟩:=hx_;unfold y1g at e;obtain⟨k,h1,e⟩:=qa e;obtain⟨v,h2,e⟩:=qa e;obtain⟨n,h3,rfl⟩:=qc e;intro p ep hp;have g0:Gr H G (upd H p (dTo p [] [] ep)) G:=Gr.hid s.seen hp _;refine tOf.at h1 (s.grow g0) λkv H1 G1 g1 r1 s1=>tOf.at h2 s1 λvv H2 G2 g2 r2 s2=>?_;have gp:G2 p=none:=Ylx (g1.trans g2) Yu (s.seen.free hp);have r1':=r1.mono g2.g;obtain⟨b,ys,rfl,b1,b2',nk⟩:=Yr7 h3 (Ct.of g2.s r1');refine⟨(g1.trans g2).h _ _ Yu,b,ys,n,vv,rfl,b1,nk,λep'=>?_⟩;have g3:Gr H G (upd H2 p (dTo p [(n,b)] [vv] ep')) G2:=(g0.trans (g1.trans g2)).updHid hp gp _;refine h _ _ G2 (s.set_od i g3 hp gp (kxs:=[.ref b]) (vxs:=[vv]) (.inr ⟨rfl,[(n,b)],ep',Yu,rfl,by simp,rfl,λq hq=>?_⟩) (.cons r1' .nil) (.cons r2 .nil))
  grind⟩
def y55(X:Cx)(pos' pos p1 p2:Pos)(x:Str)(i:Nat)(es:AM)(b:Expr)(fb:AX)(ns:AH)(hN:X.N.Nodup)(h:Yyf es=some ns)(hi:X.N[i]?=some x)(hx:Loc X.env.scope x)(hf:X.fn x=true\/X.env.scope.names.lookup x=some .local)(hs:Yez b)(hb:ZC X b fb):ZS X (.Assign [.Name x pos'] (.Subscript (.List es p1) b p2) pos) (sSet i (b2 (lF (Yr9 ns)) fb ixD)):=⟨have hb:=hb.un;
 y7p i hN (y0l (ME.mc (MF.me (y9z ns h))) hb hs) hi hx rfl hf⟩
end
section
variable {X:Cx}{a b c e:Expr}{fa fb fc:AX}{pos:Pos}{st:Stmt}
def y19(ho:OpR X (compareOp op) r)(hr:Yhl X.K r g)(ho':OpR X (compareOp op') r')(hr':Yhl X.K r' g')(ha:ZC X a fa)(hb:ZC X b fb)(hc:ZC X c fc)(hm:lastMarks [op,op'] [b,c]=false:=by with_unfolding_all rfl):ZE X (.Compare a [op,op'] [b,c] pos) (mB (ch3 fa fb fc g g')):=⟨have ha:=ha.un;have hb:=hb.un;have hc:=hc.un;
 PE.imp (y4r ho ho' ha hb hc hm) λσ H Q h=>by
  obtain⟨ρ,d,H0,G0,G,e,s,h⟩:=h;obtain⟨k,ek,rfl⟩:=Yuf e;obtain⟨x,y,h1,h2,h3⟩:=y5n ek;refine tCof.at h1 s λv H1 G1 g1 r1 s1=>tCof.at h2 s1 λu H2 G2 g2 r2 s2=>?_;rcases h3 with⟨h3,rfl⟩|⟨h3,z,h4,h5⟩
  ·exact hr v u x y false H2 G2 _ h3 s2.seen (r1.grow g2) r2 ⟨false,rfl,by rw[if_neg (by simp)];exact h _ H2 G2 (g1.trans g2) (by rw[Rp])⟩
  ·refine hr v u x y true H2 G2 _ h3 s2.seen (r1.grow g2) r2 ⟨true,rfl,?_⟩
   rw[if_pos rfl]
   exact tCof.at h4 s2 λw H3 G3 g3 r3 s3=>hr' u w y z k H3 G3 _ h5 s3.seen (r2.grow g3) r3 (h _ H3 G3 ((g1.trans g2).trans g3) (by rw[Rp]))⟩
end
section
variable {X:Cx}{e a b f':Expr}{f fa fb fz:AX}{fc:AW}{gl:AY}{K:W7}{pos:Pos}
def Yw3(is:AG)(h:ZE X e f):ZE X e (Yyg is f):=⟨have h:=h.un;PE.imp h λσ H Q hx_=>by
 obtain⟨ρ,d,H0,G0,G,e,s,h⟩:=hx_;unfold Yyg at e;obtain⟨d',h1,e⟩:=qa e;unfold M.scal at e
 split at e
 ·rename_i hs
  cases e;obtain⟨G',s'⟩:=SR.frz is s;exact⟨frz is ρ,_,H0,G0,G',h1,s',λv H1 G1 g r=>h v H1 G (.back s.seen g) (r.scal hs)⟩
 ·cases e⟩
theorem Ysl(is:AG)(h:ZE X e f):ZE X e (Yno is f):=⟨have h:=h.un;PE.imp h λσ H Q hq=>by
 obtain⟨ρ,d,H0,G0,G,e,s,h⟩:=hq;unfold Yno at e;obtain⟨d',h1,e⟩:=qa e
 split at e
 case isFalse=>cases e
 rename_i hs;cases e;obtain⟨G',s',ht⟩:=SR.frzT is s;refine⟨frz is ρ,_,H0,G0,G',h1,s',λv H1 G1 g r=>?_⟩;refine h v H1 (λa=>if H a=none then G1 a else G a) ⟨g.h,λa o e=>?_,λa o e=>?_,λa h h'=>?_⟩ (r.plain (λb ys e=>?_) hs)
 ·have hH:H a≠none:=λz=>by rw[s.seen _ _ e]at z;cases z
  grind
 ·by_cases z:H a=none
  ·rw[if_pos z]at e;exact g.s _ _ e
  ·rw[if_neg z]at e;exact g.h _ _ (s.seen _ _ e)
 ·grind
 ·show(if H b=none then G1 b else G b)=some (HO.tup ys)
  by_cases z:H b=none
  ·grind
  ·rw[if_neg z]
   refine ht b ys ?_
   cases q:G' b with
   | none=>exact absurd (g.n b q (by grind)) z
   | some o=>
     have:=g.g _ _ q
     grind⟩
def Ylg(hu:X.A.units+64<cLine)(ha:ZC X a fa)(hb:ZC X b fb)(hs:Yez b:=by intro _ _;rfl):ZE X (.Subscript a b pos) (b2 fa fb getI):=⟨have ha:=ha.un;have hb:=hb.un;y88 (Yago hu) y5q ha hb hs⟩
def Yaam(hu:X.A.units+64<cLine)(ha:ZC X a fa)(hb:ZC X b fb)(hm:behindInMarks .In b=false:=by with_unfolding_all rfl):ZE X (.Compare a [.In] [b] pos) (mB (b2 fa fb (hasI false))):=⟨have ha:=ha.un;have hb:=hb.un;Yol (y7x hu) Ypu ha hb hm⟩
def y56(hu:X.A.units+64<cLine)(ha:ZC X a fa)(hb:ZC X b fb)(hm:behindInMarks .NotIn b=false:=by with_unfolding_all rfl):ZT X (.Compare a [.NotIn] [b] pos) (b2 fa fb (hasI true)):=⟨have ha:=ha.un;have hb:=hb.un;Ygb (Ysa hu) Ypu ha hb hm⟩
def Yp7(i:Nat){pos' dpos:Pos}(hN:X.N.Nodup)(hi:X.N[i]?=some x:=by rfl)(hx:Loc X.env.scope x:=by trivial)(hs:swapsWith (.Dict [] [] dpos) (some (.Name x pos')) pos.line X.env=pure false:=by rfl)(hf:X.fn x=true\/X.env.scope.names.lookup x=some .local:=by trivial):ZS X (.Assign [.Name x pos'] (.Dict [] [] dpos) pos) (Yuq i):=⟨
 PS.imp (Yoe hN hi hx y4u hs hf) λF σ H hx_=>by
  obtain⟨ρ,out,H0,G0,G,e,s,h⟩:=hx_;cases e;intro p hp
  exact h _ _ G (s.set_od i (.hid s.seen hp _) hp (s.seen.free hp) (kxs:=[]) (vxs:=[]) (y1k (ns:=[]) (vxs:=[]) Yu .nil rfl) .nil .nil)⟩
theorem Yp8(hu:X.A.units+64<cLine)(i:Nat){p2 p3:Pos}(hb:ZC X ie fb)(he:ZE X e f)(hN:X.N[i]?=some x:=by rfl)(hv:Vis X.env.scope x:=by trivial)(hd:Ndb x:=by decide)(hcd:Ncd x:=by decide)(ha:∀v,assign (.Subscript (.Name x p2) ie p3) X.env v=(do
 let ov <-holding [v] (eval (.Name x p2) X.env)
 let iv <-holding [v,ov] (eval ie X.env)
 standAt p3
 holding [v,ov,iv] (setItem ov iv v)
 release [v,ov,iv] []):=by intro _;rfl)(hs:swapsWithSole [.Subscript (.Name x p2) ie p3] e pos.line X.env=pure false:=by rfl)(hw:swappedStores [.Subscript (.Name x p2) ie p3] e X.env=pure none:=by rfl)(h1:(assignEach [.Subscript (.Name x p2) ie p3] X.env).map (·.2)=[assign (.Subscript (.Name x p2) ie p3) X.env]:=by rfl):ZS X (.Assign [.Subscript (.Name x p2) ie p3] e pos) (Yus i fb f):=⟨have hb:=hb.un;have he:=he.un;
 PS.imp (y7f he (y7e (Ylp hN hv hd hcd) hb (Yad9 hu) ha) hs hw h1) λF σ H hx_=>by
  obtain⟨ρ,out,H0,G0,G,e,s,h⟩:=hx_;unfold Yus at e;obtain⟨d,h1,e⟩:=qa e;obtain⟨l,h2,e⟩:=qa e;obtain⟨k,h3,e⟩:=qa e;obtain⟨l',h4,rfl⟩:=qc e;obtain⟨ks,vs⟩:=l;unfold Yur at h4;obtain⟨ns,h5,h4⟩:=qa h4
  obtain⟨j,rfl⟩:∃j,k=.int j:=by
   grind
  dsimp only at h4
  split at h4
  case isFalse=>cases h4
  rename_i hcap;have hod:=Yom h2;refine tOf.at h1 s λv H1 G1 g1 r1 s1=>?_;obtain⟨a0,_,_,ha0,_⟩:=s1.od i _ _ _ hod;refine⟨_,ha0,tCof.at h3 s1 λu H2 G2 g2 r2 s2=>?_⟩;obtain⟨a,kxs,vxs,ha,hG,hH0,dc,rk,rv⟩:=s2.od i _ _ _ hod;rw[ha0]at ha;cases ha;obtain⟨e1,e2,e3,e4⟩:=Ynp h5 dc rk;rw[Ct]at r2;subst r2
  have hvl:vxs.length<cap6:=by rw[rv.length];exact hcap
  have hsl:(zK ns vxs).length<sizeLine:=by
   rw[y1j _ _ e3,e3,ji];have:cap6=1000000:=rfl;lia
  refine⟨a0,_,rfl,DPut.k (k:=Sum.inl j) (v:=v) e1 hsl,?_⟩;have r1':=r1.mono g2.g;injection h4 with h4;rw[y7w e3 e2];refine h _ _ G2 (s2.mutd hod ha0 (kxs:=(putI ns vxs j v).1.map V.int) (vxs:=(putI ns vxs j v).2) (y1k Yu ?_ ?_) ?_ ?_)
  ·unfold putI
   grind
  ·unfold putI
   split
   ·rw[Yed];exact e3
   ·simp[e3]
  ·rw[<-h4]
   unfold putI;rw[e4]at rk
   split
   ·exact rk
   ·rw[wt]
    exact RpL.snoc (by rw[Rp]) rk
  ·rw[<-h4]
   unfold putI
   split
   ·exact Ypr j r1' rv
   ·exact RpL.snoc r1' rv⟩
theorem Ysm(hu:X.A.units+64<cLine)(ho:ZC X o fa)(he:ZC X e1 fb)(hf:ZE X e2 fz)(m:M2 X o "get" apos e1 e2 cpos):ZE X (.Call (.Attribute o "get" apos) [e1,e2] [] cpos) (b3 fa fb fz Ypv):=⟨have ho:=ho.un;have he:=he.un;have hf:=hf.un;
 PE.imp (y4w (by lia) ho he hf m) λσ H Q hx_=>by
  obtain⟨ρ,d,H0,G0,G,e,s,h⟩:=hx_;unfold b3 at e;obtain⟨x,h1,e⟩:=qa e;obtain⟨y,h2,e⟩:=qa e;obtain⟨z,h3,e⟩:=qa e;obtain⟨ks,vs,i,ns,rfl,rfl,h5,rfl⟩:=Yyi e;refine tCof.at h1 s λv H1 G1 g1 r1 s1=>?_;have r1c:=r1;rw[Ct]at r1c;obtain⟨a,kxs,vxs,rfl,dc,rk,rv⟩:=r1c;refine⟨a,rfl,.inl ⟨_,.inl (Ynp h5 dc rk).1⟩,tCof.at h2 s1 λu H2 G2 g2 r2 s2=>tOf.at h3 s2 λw H3 G3 g3 r3 s3=>?_⟩;have r1g:=r1.grow (g2.trans g3);rw[Ct]at r1g;rw[Ct]at r2;subst r2;obtain⟨a',kxs',vxs',ea,dc',rk',rv'⟩:=r1g;cases ea;obtain⟨e1,e2,e3,e4⟩:=Ynp h5 dc' rk';refine⟨Yad ns vxs' i,?_,h _ H3 G3 ((g1.trans g2).trans g3) ?_⟩
  ·have:=DGet.k (k:=Sum.inl i) e1
   rw[Yws]at this;exact this
  ·cases hf:Yad ns vs i with
   | none=>
     rw[(Ymb i rv').2 hf];exact r3
   | some d=>
     obtain⟨v,f1,f2⟩:=(Ymb i rv').1 d hf
     grind⟩
def y2a(ha:ZC X a fa)(hb:ZC X b fb):ZE X (.BinOp a .RShift b pos) (b2 fa fb shrI):=⟨have ha:=ha.un;have hb:=hb.un;Yok Yab5 (Ywj (λ_ _ h=>wq h)) ha hb⟩
def y2b(hc:X.calm=true)(i:Nat){pos' p2 cpos:Pos}(hN:X.N.Nodup)(hg:Gl X "dict")(hm:X.mg "dict"=none)(ha:ZC X e f)(hi:X.N[i]?=some x:=by rfl)(hx:Loc X.env.scope x:=by trivial)(hst:starEach [e] X.env=[(false,eval e X.env)]:=by rfl)(hpl:(backTo cpos (starEach [] X.env)).any (·.1)=false:=by rfl)(hs:swapsWith (.Call (.Name "dict" p2) [e] [] cpos) (some (.Name x pos')) pos.line X.env=pure false:=by rfl)(hf:X.fn x=true\/X.env.scope.names.lookup x=some .local:=by trivial):ZS X (.Assign [.Name x pos'] (.Call (.Name "dict" p2) [e] [] cpos) pos) (sDct i f):=⟨have ha:=ha.un;
 PS.imp (Yoe hN hi hx (Yd9 (Yoo hc) hg hm (by decide +kernel) (Yfm ha Yh5 hst) (by decide) (by decide) hst hpl) hs hf) λF σ H hx_=>by
  obtain⟨ρ,out,H0,G0,G,e,s,h⟩:=hx_;unfold sDct at e;obtain⟨ps,h1,e⟩:=qa e;obtain⟨d,h2,h3⟩:=qa h1
  split at e
  case isFalse=>cases e
  rename_i hcap;cases e;refine tCAof.at (show Yg f aNil ρ=some [d] by simp[Yg,aNil,h2]) s λvs H1 G1 g1 r1 s1=>?_;obtain⟨v,rfl,rv⟩:=Yc5 r1
  cases d with
  | lst l=>
    rw[Ct]at rv;obtain⟨a,xs,rfl,hq,rl⟩:=rv;obtain⟨qs,h4,h5⟩:=Ymh s1.seen (show Ydw l=some ps from h3) rl;refine⟨a,xs,qs,rfl,.inl hq,h4,by rw[h5.length];exact hcap,λp hp=>?_⟩;obtain⟨vx',k1,k2,k3,k4⟩:=Yiw (ns:=[]) (ds:=[]) (vxs:=[]) h5 List.nodup_nil rfl .nil;exact h _ _ G1 (s1.set_od i (.hid s1.seen hp _) hp (s1.seen.free hp) (kxs:=(dctG [] [] ps).1.map V.int) (vxs:=vx') (y1k (by rw[<-k1];exact Yu) k2 k3) (.ints _) k4)
  | _=>cases h3⟩
def Yaan(hu:X.A.units+64<cLine)(ha:ZC X a fa)(hb:ZC X b fb)(hm:behindInMarks .In b=false:=by with_unfolding_all rfl):ZT X (.Compare a [.In] [b] pos) (b2 fa fb (hasN false)):=⟨have ha:=ha.un;have hb:=hb.un;Ygb (Yaee hu) Yww ha hb hm⟩
def y57(hu:X.A.units+64<cLine)(ha:ZC X a fa)(hb:ZC X b fb)(hm:behindInMarks .NotIn b=false:=by with_unfolding_all rfl):ZT X (.Compare a [.NotIn] [b] pos) (b2 fa fb (hasN true)):=⟨have ha:=ha.un;have hb:=hb.un;Ygb (Yaab hu) Yww ha hb hm⟩
def Yfd{lo hi:Option Expr}(ha:ZC X a fa)(hl:ZO X lo fl)(hh:ZO X hi fh):ZE X (.Subscript a (.Slice lo hi none p2) pos) (slD fa fl fh):=⟨have ha:=ha.un;have hl:=hl.un;have hh:=hh.un;
 PE.imp (Ywe (SlR.or y0a (SlR.or Yacn y5v)) ha hl hh) λσ H Q hx_=>by
  obtain⟨ρ,d,H0,G0,G,e,s,h⟩:=hx_;unfold slD at e;obtain⟨d0,h1,e⟩:=qa e;obtain⟨i,h2,e⟩:=qa e;obtain⟨j,h3,e⟩:=qa e;refine tCof.at h1 s λv H1 G1 g1 r1 s1=>y46 h2 s1 λH2 G2 g2 s2=>y46 h3 s2 λH3 G3 g3 s3=>?_;have r3:=(r1.grow g2).grow g3;have gg:=(g1.trans g2).trans g3;unfold cutC at e
  split at e
  ·rename_i l
   cases e;rw[Ct]at r3;obtain⟨p,xs,rfl,g,rl⟩:=r3;refine .inl ⟨p,xs,rfl,.inl g,λq hq=>?_⟩;refine h _ _ _ (gg.trans (Gr.new (p:=q) s3.seen hq (.lst (cutV xs i j)))) ?_;rw[Rp];refine⟨q,_,rfl,.inl Yu,?_⟩;unfold cutD cutV;rw[rl.length];exact((rl.drop _).take _).mono (Gr.new (p:=q) s3.seen hq _).g
  ·cases e
   rw[Ct]at r3;obtain⟨p,xs,rfl,⟨g,gG⟩,rl⟩:=r3;by_cases hw:HT.sIx xs.length 0 i=0/\HT.sIx xs.length xs.length j=xs.length
   ·refine .inr (.inr ⟨p,xs,rfl,.of g,hw.1,hw.2,h _ H3 G3 gg ?_⟩)
    rw[Rp];refine⟨p,xs,rfl,gG,?_⟩;unfold cutD;rw[<-rl.length,hw.1,hw.2,List.drop_zero,Nat.sub_zero,rl.length,List.take_length];exact rl
   ·refine .inr (.inl ⟨p,xs,rfl,.of g,hw,λq hq=>?_⟩)
    refine h _ _ _ (gg.trans (Gr.new (p:=q) s3.seen hq (.tup (cutV xs i j)))) ?_;rw[Rp];refine⟨q,_,rfl,Yu,?_⟩;unfold cutD cutV;rw[rl.length];exact((rl.drop _).take _).mono (Gr.new (p:=q) s3.seen hq _).g
  ·cases e⟩
end
def Yer(h:ZT X c f):ZIfs X X.K [c] f:=⟨have h:=h.un;λpins s σ H Q I hq=>wpAny_tests_one (h pins s σ H Q I hq)⟩
def Ygm(h:ZW X e f):ZT X e f:=⟨PW.pt h.un⟩
end
section
section
variable {X:Cx}{e e2:Expr}{f f2:AX}{p p2 p3 pos pos2 pos3 pos4:Pos}
theorem Yot(hc:X.calm=true)(hg:Gl X "sorted")(hm:X.mg "sorted"=none)(hg2:Gl X "set")(hm2:X.mg "set"=none)(ha:ZC X e f)(ha2:ZC X e2 f2)(hs:starEach [e] X.env=[(false,eval e X.env)]:=by rfl)(hs2:starEach [e2] X.env=[(false,eval e2 X.env)]:=by rfl)(he:starEach [.BinOp (.Call (.Name "set" p2) [e] [] pos2) .BitXor (.Call (.Name "set" p3) [e2] [] pos3) pos4] X.env=[(false,eval (.BinOp (.Call (.Name "set" p2) [e] [] pos2) .BitXor (.Call (.Name "set" p3) [e2] [] pos3) pos4) X.env)]:=by rfl)(hpl:(backTo pos2 (starEach [] X.env)).any (·.1)=false:=by rfl)(hpl3:(backTo pos3 (starEach [] X.env)).any (·.1)=false:=by rfl)(hpl2:(backTo pos (starEach [] X.env)).any (·.1)=false:=by rfl):ZF X (.Call (.Name "sorted" p) [.BinOp (.Call (.Name "set" p2) [e] [] pos2) .BitXor (.Call (.Name "set" p3) [e2] [] pos3) pos4] [] pos) (Yj1 f f2):=⟨have ha:=ha.un;have ha2:=ha2.un;
 PE.imp (Yk7 (Yyl hc) hg hm boot_sorted (Yfj (y4q op_xor (Yd9 (Ysg hc) hg2 hm2 boot_set (Yfm ha Yh5 hs) (by decide) (by decide) hs hpl) (Yd9 (Ysg hc) hg2 hm2 boot_set (Yfm ha2 Yh5 hs2) (by decide) (by decide) hs2 hpl3)) Yki he) (by decide) (by decide) he hpl2) λσ H Q hq=>by
  obtain⟨ρ,l,H0,G0,G,e,s,h⟩:=hq;unfold Yj1 at e;obtain⟨l1,h1,e⟩:=qa e;obtain⟨l2,h2,e⟩:=qa e;obtain⟨d1,i1,j1⟩:=Ycp h1;obtain⟨d2,i2,j2⟩:=Ycp h2;unfold y1t at e;obtain⟨a,ea,e⟩:=qa e;obtain⟨b,eb,e⟩:=qa e
  split at e
  case isFalse=>cases e
  rename_i hl;obtain⟨b1',b2',b3,b4,b5,b6⟩:=hl;cases e;cases Yd4 ea;cases Yd4 eb;refine tCAof.at (show Yg f aNil ρ=some [d1] by simp[Yg,aNil,i1]) s λvs H1 G1 g1 r1 s1=>?_;obtain⟨v,rfl,rv⟩:=Yc5 r1;obtain⟨q,xs,rfl,hq,rl⟩:=Ywn (K:=X.K) j1 rv;cases Yg8 rl;refine⟨q,a,rfl,hq,b1',λm ns hm' hp=>?_⟩;have g2:=Gr.hid s1.seen hm' (setO X.prog X.w m ns);have s2:=s1.grow g2;refine tCAof.at (show Yg f2 aNil ρ=some [d2] by simp[Yg,aNil,i2]) s2 λvs2 H3 G3 g3 r3 s3=>?_;obtain⟨v2,rfl,rv2⟩:=Yc5 r3;obtain⟨q2,xs2,rfl,hq2,rl2⟩:=Ywn (K:=X.K) j2 rv2;cases Yg8 rl2;refine⟨q2,b,rfl,hq2,b2',λm2 ms hm2' hp2=>?_⟩;have g4:=Gr.hid s3.seen hm2' (setO X.prog X.w m2 ms);have s4:=s3.grow g4;have hmA:upd H3 m2 (setO X.prog X.w m2 ms) m=some (setO X.prog X.w m ns):=g4.h _ _ (g3.h _ _ Yu);refine⟨m,m2,ns,ms,rfl,rfl,hmA,Yu,λk hk=>?_,by rw[hp2.length_eq];exact b4,by rw[hp.length_eq];exact b3,λr rs hr hnd hmem=>?_⟩
  ·have hk':k∈b:=by
    have:=hp2.mem_iff.mp hk;rw[memD]at this;grind
   grind
  have g5:=Gr.hid s4.seen hr (setO X.prog X.w r rs);have s5:=s4.grow g5
  have hperm:rs.Perm (xorI a b):=(List.perm_ext_iff_of_nodup hnd (Yp2 a b)).mpr λx=>by
   rw[hmem,Ywy,hp.mem_iff,hp2.mem_iff,memD,memD];simp
  refine⟨r,rs,rfl,Yu,by rw[hperm.length_eq];exact b6,λz hz=>?_⟩;rw[Ypz hperm]
  exact h z _ _ G3 (((((g1.trans g2).trans g3).trans g4).trans g5).trans (.hid s5.seen hz _)) (((((g1.trans g2).trans g3).trans g4).trans g5).h.free hz) (s5.seen.free hz) Yu (.ints _)⟩
theorem Yiz(ha:ZC X a fa)(hb:ZC X b fb):ZE X (.BinOp a .Add b pos) (b2 fa fb Ykv):=⟨have ha:=ha.un;have hb:=hb.un;PE.imp (y4q Yaai ha hb) λσ H Q hx_=>by
 obtain⟨ρ,l,H0,G0,G,e,s,h⟩:=hx_;obtain⟨dx,dy,h1,h2,h3⟩:=Yly e;refine tCof.at h1 s λv H1 G1 g1 r1 s1=>tCof.at h2 s1 λu H2 G2 g2 r2 s2=>?_;unfold Ykv at h3
 split at h3
 ·rename_i l1 l2
  split at h3
  ·rename_i hz
   cases h3;have r1':=r1.grow g2;rw[Ct]at r1';rw[Ct]at r2;obtain⟨p,xs,rfl,gp,rl⟩:=r1';obtain⟨q,zs,rfl,gq,rm⟩:=r2;refine⟨p,q,xs,zs,rfl,rfl,.of gp.1,.of gq.1,by rw[rl.length,rm.length];exact Ye0 hz,λhx=>?_,λ_ hy=>?_,λ_ _ m hm=>h _ _ _ ((g1.trans g2).trans (.new s2.seen hm (.tup (xs++zs)))) ?_⟩
   ·subst hx
    have:l1=[]:=List.eq_nil_of_length_eq_zero (by rw[<-rl.length];rfl);subst this;refine h _ _ G2 (g1.trans g2) ?_;rw[Qe,Rp];grind
   ·subst hy
    have:l2=[]:=List.eq_nil_of_length_eq_zero (by rw[<-rm.length];rfl);subst this;refine h _ _ G2 (g1.trans g2) ?_;rw[ja,Rp];grind
   ·rw[Rp]
    exact⟨m,_,rfl,Yu,(rl.append rm).mono (Gr.new s2.seen hm _).g⟩
  ·cases h3
 ·cases h3⟩
end
end
section
variable {K:W7}
def Yagr(K:W7)(j:Nat)(x:Option (Option V))(H0 G0:Hp)(F:Ends):Out->Prop
 | .nx ρ'=>∀σ' H' G',SR K H0 G0 σ' H' G' ρ'->σ'[j]?=x->F.nx σ' H'
 | .rt _=>False
 | .bk ρ'=>∀σ' H' G',SR K H0 G0 σ' H' G' ρ'->σ'[j]?=x->F.bk σ' H'
 | .ct ρ'=>∀σ' H' G',SR K H0 G0 σ' H' G' ρ'->σ'[j]?=x->F.ct σ' H'
def sOfK(K:W7)(j:Nat)(f:AU):TS:=λF σ H=>∃ρ out H0 G0 G,f ρ=some out/\SR K H0 G0 σ H G ρ/\Yagr K j σ[j]? H0 G0 F out
structure KS(j:Nat)(X:Cx)(st:Stmt)(f:AU):Prop where
 un:PS X st (sOfK X.K j f)
structure KB(j:Nat)(X:Cx)(sts:List Stmt)(f:AU):Prop where
 un:PSs X sts (sOfK X.K j f)
def sOfR(K:W7)(j r:Nat)(fb:AU):TS:=λF σ H=>∃ρ ρ' l d H0 G0 G,fb ρ=some (.nx ρ')/\getO j ρ'=some l/\getV r (frz [r] ρ')=some d/\SR K H0 G0 σ H G ρ/\
 ∀v σ' H' G',SR K H0 G0 σ' H' G' (frz [r] ρ')->σ'[j]?=σ[j]?->Rp K G' d v->F.rt v H'
structure KR(j r:Nat)(X:Cx)(sts:List Stmt)(f:AU):Prop where
 un:PSs X sts (sOfR X.K j r f)
def sOfL(K:W7)(gl:AY)(fb:AU):TS:=λF σ H=>∃ρ ρ' l H0 G0 G,fb ρ=some (.nx ρ')/\gl ρ'=some l/\SR K H0 G0 σ H G ρ/\
 ∀p xs H' G',Gr H0 G0 H' G'->H0 p=none->G' p=none->H' p=some (.lst xs)->RpL K G' l xs->F.rt (.ref p) H'
structure KL(gl:AY)(X:Cx)(sts:List Stmt)(f:AU):Prop where
 un:PSs X sts (sOfL X.K gl f)
def len1{us:AD}(h:us.length=1):∃a0,us=[a0]:=List.length_eq_one_iff.mp h
theorem len2{us:AD}(h:us.length=2):∃a0 a1,us=[a0,a1]:=by
 cases us with
 | nil=>cases h
 | cons a us=>
   obtain⟨b0,rfl⟩:=len1 (Nat.succ.inj h);grind
theorem len3{us:AD}(h:us.length=3):∃a0 a1 a2,us=[a0,a1,a2]:=by
 cases us with
 | nil=>cases h
 | cons a us=>
   obtain⟨b0,b1,rfl⟩:=len2 (Nat.succ.inj h);grind
theorem len4{us:AD}(h:us.length=4):∃a0 a1 a2 a3,us=[a0,a1,a2,a3]:=by
 cases us with
 | nil=>cases h
 | cons a us=>
   obtain⟨b0,b1,b2,rfl⟩:=len3 (Nat.succ.inj h);grind
theorem len5{us:AD}(h:us.length=5):∃a0 a1 a2 a3 a4,us=[a0,a1,a2,a3,a4]:=by
 cases us with
 | nil=>cases h
 | cons a us=>
   obtain⟨b0,b1,b2,b3,rfl⟩:=len4 (Nat.succ.inj h);grind
theorem len6{us:AD}(h:us.length=6):∃a0 a1 a2 a3 a4 a5,us=[a0,a1,a2,a3,a4,a5]:=by
 cases us with
 | nil=>cases h
 | cons a us=>
   obtain⟨b0,b1,b2,b3,b4,rfl⟩:=len5 (Nat.succ.inj h);grind
theorem len7{us:AD}(h:us.length=7):∃a0 a1 a2 a3 a4 a5 a6,us=[a0,a1,a2,a3,a4,a5,a6]:=by
 cases us with
 | nil=>cases h
 | cons a us=>
   obtain⟨b0,b1,b2,b3,b4,b5,rfl⟩:=len6 (Nat.succ.inj h);grind
end
end M
namespace M
open PySem L2
def nr{α:Sort _}{a b:α}(h:a=b):a=b:=h
section
variable {ρ:Ro}
@[simp] theorem Yaao(fa fb:AX)(g:D->D->Option α):b2 fa fb g ρ=(fa ρ).bind λx=>(fb ρ).bind λy=>g x y:=nr rfl
@[simp] theorem Yaek(fa:AX)(g:D->Option α):b1 fa g ρ=(fa ρ).bind g:=nr rfl
@[simp] theorem ap_kD(d:D):kD d ρ=some d:=nr rfl
@[simp] theorem ap_mB(f:AW):mB f ρ=(f ρ).map D.bl:=nr rfl
@[simp] theorem ap_andT(f g:AW):andT f g ρ=(f ρ).bind λk=>if k=true then g ρ else some false:=nr rfl
@[simp] theorem ap_orT(f g:AW):orT f g ρ=(f ρ).bind λk=>if k=true then some true else g ρ:=nr rfl
@[simp] theorem ap_notT(f:AW):notT f ρ=(f ρ).map (!·):=nr rfl
@[simp] theorem ap_andV(f g:AX):andV f g ρ=((f ρ).bind blD).bind λk=>if k=true then g ρ else some (.bl false):=nr rfl
@[simp] theorem ap_notV(f:AX):notV f ρ=((f ρ).bind blD).map λk=>.bl (!k):=nr rfl
@[simp] theorem ap_ifV(c:AW)(f g:AX):ifV c f g ρ=(c ρ).bind λk=>if k=true then f ρ else g ρ:=nr rfl
@[simp] theorem ap_lF(f:AY):lF f ρ=(f ρ).map D.lst:=nr rfl
@[simp] theorem ap_aNil:aNil ρ=some []:=nr rfl
@[simp] theorem ap_aCons(f:AX)(g:AY):Yg f g ρ=(f ρ).bind λd=>(g ρ).map (d::·):=nr rfl
@[simp] theorem ap_dTup(f:AY):dTup f ρ=(f ρ).bind λl=>if l.length<=cap6 then some (.tup l)else none:=nr rfl
@[simp] theorem ap_dLst(f:AY):dLst f ρ=(f ρ).bind λl=>if l.length<=cap6 then some l else none:=nr rfl
@[simp] theorem ap_cC(f:AY)(g:AR->Option D):cC f g ρ=(f ρ).bind g:=nr rfl
@[simp] theorem ap_cF(f:AY)(g:AR->Option AR):cF f g ρ=(f ρ).bind g:=nr rfl
@[simp] theorem ap_slF(f:AX)(lo hi:Option AX):slF f lo hi ρ=((f ρ).bind lstD).bind λl=>(optI lo ρ).bind λi=>(optI hi ρ).bind λj=>some (cutD l i j):=nr rfl
@[simp] theorem ap_optN:optI none ρ=some none:=nr rfl
@[simp] theorem ap_optS(f:AX):optI (some f) ρ=((f ρ).bind intD).map some:=nr rfl
@[simp] theorem ap_sNil:sNil ρ=some (.nx ρ):=nr rfl
@[simp] theorem y2c(i:Nat)(f:AX):sSet i f ρ=(f ρ).map λd=>.nx (ρ.set i (↑d)):=nr rfl
@[simp] theorem ap_sOwn(i:Nat)(f:AY):sOwn i f ρ=(f ρ).map λl=>.nx (ρ.set i (some (.ow l))):=nr rfl
@[simp] theorem ap_sRet(f:AX):sRet f ρ=(f ρ).map .rt:=nr rfl
@[simp] theorem ap_sIf(c:AW)(f g:AU):sIf c f g ρ=(c ρ).bind λk=>if k=true then f ρ else g ρ:=nr rfl
@[simp] theorem Yaap(i:Nat)(f:AX)(g:AR->D->Option AR):sMut i f g ρ=(getO i ρ).bind λl=>(f ρ).bind λd=>(g l d).map λl'=>.nx (ρ.set i (some (.ow l'))):=nr rfl
@[simp] theorem y2d(gl:AY)(gt:AV)(fb:AU):sFor gl gt fb ρ=(gl ρ).bind λds=>forM gt fb ds ρ:=nr rfl
@[simp] theorem ap_fComp(gl:AY)(src:List AN)(gt:AV)(fc:AW)(fe:AX):Ybb gl src gt fc fe ρ=(gl ρ).bind λds=>Ydr gt fc fe (capR src ρ) ds:=nr rfl
@[simp] theorem Yael(is:AG)(f:AU):wF is f ρ=f (frz is ρ):=nr rfl
@[simp] theorem ap_tY:tY ρ=some true:=nr rfl
@[simp] theorem ap_gSet(i:Nat)(d:D):gSet i d ρ=some (ρ.set i (↑d)):=nr rfl
def Yaaq(g:AU):Out->Option Out
 | .nx ρ'=>g ρ'
 | o=>some o
@[simp] theorem Yg9(g:AU)(ρ':Ro):Yaaq g (.nx ρ')=g ρ':=nr rfl
@[simp] theorem thenS_rt(g:AU)(d:D):Yaaq g (.rt d)=some (.rt d):=nr rfl
@[simp] theorem Ybd(f g:AU):sSeq f g ρ=(f ρ).bind (Yaaq g):=nr rfl
def endB:Out->Option D
 | .rt d=>some d
 | .nx _=>some .non
 | _=>none
@[simp] theorem endB_rt(d:D):endB (.rt d)=some d:=nr rfl
def y0(h:ds.length=k):runB k n fb ds=(fb (Yr n ds)).bind endB:=by
 unfold runB;rw[if_pos h];rfl
@[simp] theorem ap_lendE(is:AG)(f:AX):Yyg is f ρ=(f (frz is ρ)).bind scal:=nr rfl
@[simp] theorem ap_ch3(fa fb fc:AX)(g g':D->D->Option Bool):ch3 fa fb fc g g' ρ=(fa ρ).bind λx=>(fb ρ).bind λy=>(g x y).bind λk=>if k=true then (fc ρ).bind λz=>g' y z else some false:=nr rfl
@[simp] theorem scal_int(i:Int):scal (.int i)=some (.int i):=nr rfl
@[simp] theorem scal_non:scal .non=some .non:=nr rfl
@[simp] theorem frz_nil:frz [] ρ=ρ:=nr rfl
@[simp] theorem frz_cons(i:Nat)(is:AG):frz (i::is) ρ=frz is (frz1 i ρ):=nr rfl
end
@[simp] theorem i2_int(C:Int->Int->Bool)(g:Int->Int->Int)(i j:Int):i2 C g (.int i) (.int j)=if C i j=true then some (.int (g i j))else none:=nr rfl
@[simp] theorem add_int'(i j:Int):addI (.int i) (.int j)=some (.int (i+j)):=nr rfl
@[simp] theorem sub_int'(i j:Int):subI (.int i) (.int j)=some (.int (i-j)):=nr rfl
def Yw4(h:-(2^64)<i/\i<2^64):mulI (.int i) (.int j)=some (.int (i*j)):=by
 simp only[mulI,i2];rw[if_pos];simp only[Bool.or_eq_true,Qb,wm];exact .inl h
@[simp] theorem y58(h:0<j)(h':j<1073741824):divI (.int i) (.int j)=some (.int (i/j)):=by
 simp only[divI,i2];rw[if_pos];simp only[Qb,wm];exact⟨h,h'⟩
@[simp] theorem y2e(h:0<j):modI (.int i) (.int j)=some (.int (i%j)):=by
 simp only[modI,i2];rw[if_pos];simp only[wm];exact h
@[simp] theorem lt_int'(i j:Int):ltI (.int i) (.int j)=some (decide (i<j)):=nr rfl
@[simp] theorem le_int'(i j:Int):leI (.int i) (.int j)=some (decide (i<=j)):=nr rfl
@[simp] theorem blD_bl(b:Bool):blD (.bl b)=some b:=nr rfl
@[simp] theorem truD_bl(b:Bool):truD (.bl b)=some b:=nr rfl
@[simp] theorem truD_lst(l:AR):truD (.lst l)=some (!l.isEmpty):=nr rfl
@[simp] theorem truD_tup(l:AR):truD (.tup l)=some (!l.isEmpty):=nr rfl
@[simp] theorem itemsOf_tup(l:AR):Yn (.tup l)=some l:=nr rfl
@[simp] theorem itemsOf_lst(l:AR):Yn (.lst l)=some l:=nr rfl
@[simp] theorem itemsOf_scr(ns:AH):Yn (.scr ns)=some (ns.map D.int):=nr rfl
@[simp] theorem lenC_one(c:D):lenC [c]=(Yn c).map λl=>.int l.length:=nr rfl
@[simp] theorem tupC_one(c:D):tupC [c]=(Yn c).map D.tup:=nr rfl
@[simp] theorem listF_one(c:D):Yx6 [c]=Yn c:=nr rfl
@[simp] theorem Yaar(c:D)(i:Int):ixD c (.int i)=(Yn c).bind λl=>atI l i:=nr rfl
@[simp] theorem lstD_lst(l:AR):lstD (.lst l)=some l:=nr rfl
@[simp] theorem intD_int(i:Int):intD (.int i)=some i:=nr rfl
@[simp] theorem negI_int(i:Int):negI (.int i)=some (.int (-i)):=nr rfl
@[simp] theorem y2f(i j:Int):eqD (.int i) (.int j)=(i==j):=by simp[eqD,toPy,PyData.eqv]
@[simp] theorem y7z(i j:Bool):eqD (.bl i) (.bl j)=(i==j):=by simp[eqD,toPy,PyData.eqv]
@[simp] theorem Yaas(i j:Str):eqD (.str i) (.str j)=(i==j):=by simp[eqD,toPy,PyData.eqv]
@[simp] theorem y2g(l m:AR):eqD (.tup l) (.tup m)=eqL l m:=by simp[eqD,eqL,toPy,PyData.eqv]
@[simp] theorem Yaat:eqL [] []=true:=by simp[eqL,Yeb,PyData.eqvAll]
@[simp] theorem y59(a b:D)(l m:AR):eqL (a::l) (b::m)=(eqD a b&&eqL l m):=by simp[eqL,eqD,Yeb,PyData.eqvAll]
@[simp] theorem eqL_cn(b:D)(m:AR):eqL (b::m) []=false:=by simp[eqL,Yeb,PyData.eqvAll]
@[simp] theorem dep_int(i:Int):dep (.int i)=0:=by simp[dep]
@[simp] theorem dep_bl(i:Bool):dep (.bl i)=0:=by simp[dep]
@[simp] theorem dep_str(i:Str):dep (.str i)=0:=by simp[dep]
@[simp] theorem dep_non:dep .non=0:=by simp[dep]
@[simp] theorem dep_tup(l:AR):dep (.tup l)=depL l+1:=by simp[dep]
@[simp] theorem depL_nil:depL []=0:=by simp[depL]
@[simp] theorem y2h(d:D)(l:AR):depL (d::l)=max (dep d) (depL l):=by simp[depL]
theorem You(h:dep d<=60)(h':dep e<=60):eqM neg d e=some (if neg then !eqD d e else eqD d e):=by
 unfold eqM;grind
theorem y70(hc:Yn c=some l)(h:dep d<=60)(h':depL l<=60):inM neg d c=some (if neg then !inD d l else inD d l):=by
 unfold inM;grind
theorem Ymm{α:Type}(enc:α->D)(p:α->Bool)(f:α->D):∀(l:List α),(∀a∈l,∃ρ1,gt (enc a) ρ=some ρ1/\fc ρ1=some (p a)/\(p a=true->fe ρ1=some (f a)))->
 Ydr gt fc fe ρ (l.map enc)=some ((l.filter p).map f)
 | [],_=>rfl
 | a::l,h=>by
   obtain⟨ρ1,h1,h2,h3⟩:=h a qh;have ih:=Ymm enc p f l λb hb=>h b (qg _ hb);rw[Qa,Ydr,h1,qd,h2,qd];grind
@[simp] theorem atI_zero(a:α)(l:List α):atI (a::l) 0=some a:=by
 have:=Yh1 (xs:=a::l) (j:=0) (v:=a) rfl;simpa using this
@[simp] theorem atI_one(a b:α)(l:List α):atI (a::b::l) 1=some b:=by
 have:=Yh1 (xs:=a::b::l) (j:=1) (v:=b) rfl;simpa using this
def y71{j:Nat}(hi:i=(j:Int))(h:l[j]?=some v):atI l i=some v:=by
 subst hi;exact Yh1 h
theorem Ydg{α:Type}(enc:α->D)(I:List α->Ro->Prop):∀(l pre:List α) (ρ:Ro),I pre ρ->
 (∀q a r ρ,pre++l=q++a::r->I q ρ->∃ρ1 ρ2,gt (enc a) ρ=some ρ1/\fb ρ1=some (.nx ρ2)/\I (q++[a]) ρ2)->∃ρ',M.forM gt fb (l.map enc) ρ=some (.nx ρ')/\I (pre++l) ρ'
 | [],pre,ρ,h0,_=>⟨ρ,rfl,by grind⟩
 | a::l,pre,ρ,h0,hs=>by
   obtain⟨ρ1,ρ2,e1,e2,h2⟩:=hs pre a l ρ rfl h0;obtain⟨ρ',e3,h3⟩:=Ydg enc I l (pre++[a]) ρ2 h2 λq b r ρ e hI=>hs q b r ρ (by grind) hI;refine⟨ρ',?_,by grind⟩;rw[Qa,M.forM,e1,qd,e2,qd];exact e3
def Yic(a n:Int):rngD a n=(List.range (n-a).toNat).map λi=>D.int (a+(i:Nat)):=rfl
theorem Yj3(h:-1000000<=n)(h':n<=1000000):rng1 [.int n]=some (rngD 0 n):=by
 have hcap:(cap6:Int)=1000000:=by decide
 simp only[rng1];rw[if_pos];simp only[Qb,wm];lia
theorem Yaau(h:-1000000<=n)(h':n<=1000000)(h2:-1000000<=a)(h3:a<=1000000):rng2 [.int a,.int n]=some (rngD a n):=by
 have hcap:(cap6:Int)=1000000:=by decide
 simp only[rng2];grind
theorem Yaav(h0:0<=i)(h:i<(l.length:Int)):∃v,v∈l/\atI l i=some v:=by
 have hk:i.toNat<l.length:=by lia
 exact⟨l[i.toNat],List.getElem_mem hk,y71 (j:=i.toNat) (by lia) (qq hk)⟩
def Ylh{i:Nat}(h:i<l.length):atI l (i:Int)=some l[i]:=Yh1 (qq h)
theorem Yft(f:α->β)(l:List α)(i:Int):atI (l.map f) i=(atI l i).map f:=by
 unfold atI;rw[qf]
 cases ixN l.length i with
 | none=>rfl
 | some j=>
   grind
@[simp] theorem nat_eq_iff(x b:Nat):((x:Int)=(b:Int))↔x=b:=by lia
@[simp] theorem eqM_int(neg:Bool)(i j:Int):eqM neg (.int i) (.int j)=some (if neg then !decide (i=j)else decide (i=j)):=by
 rw[You (by simp) (by simp),y2f];rfl
@[simp] theorem eqM_bl(neg:Bool)(i j:Bool):eqM neg (.bl i) (.bl j)=some (if neg then !(i==j)else i==j):=by
 rw[You (by simp) (by simp),y7z]
@[simp] theorem isN_non(neg:Bool):isN neg .non .non=some (if neg then false else true):=by cases neg<;>rfl
@[simp] theorem isN_int(neg:Bool)(i:Int):isN neg (.int i) .non=some (if neg then true else false):=by cases neg<;>rfl
@[simp] theorem isN_tup(neg:Bool)(l:AR):isN neg (.tup l) .non=some (if neg then true else false):=by cases neg<;>rfl
@[simp] theorem isN_bl(neg:Bool)(l:Bool):isN neg (.bl l) .non=some (if neg then true else false):=by cases neg<;>rfl
@[simp] theorem y6a{α:Type}(f:α->Bool):∀l:List α,blsD (l.map λa=>.bl (f a))=some (l.map f)
 | []=>rfl
 | a::l=>by rw[Qa,blsD,y6a f l];rfl
@[simp] theorem Yi0{α:Type}(f:α->Int):∀l:List α,intsD (l.map λa=>.int (f a))=some (l.map f)
 | []=>rfl
 | a::l=>by rw[Qa,intsD,Yi0 f l];rfl
@[simp] theorem Ygn(l:AH):intsD (l.map D.int)=some l:=by simpa using Yi0 id l
@[simp] theorem anyC_lst(l:AR):anyC [.lst l]=(blsD l).map λbs=>.bl (bs.any id):=nr rfl
@[simp] theorem allC_lst(l:AR):allC [.lst l]=(blsD l).map λbs=>.bl (bs.all id):=nr rfl
@[simp] theorem ap_sInc(i:Nat)(f:AX):sInc i f ρ=(getV i ρ).bind λx=>(f ρ).bind λy=>(i2 (λ_ _=>true) (λa b=>a+b) x y).map λz=>.nx (ρ.set i (↑z)):=nr rfl
@[simp] theorem enumD_of(c:D):Yl8 c=(Yn c).map Yl7:=nr rfl
@[simp] theorem cap6_eq:cap6=1000000:=nr rfl
@[simp] theorem gV0(d:D)(r:Ro):getV 0 (some (.sh d)::r)=some d:=nr rfl
@[simp] theorem gC0(d:D)(r:Ro):getC 0 (some (.sh d)::r)=some d:=nr rfl
@[simp] theorem gC0o(l:AR)(r:Ro):getC 0 (some (.ow l)::r)=some (.lst l):=nr rfl
@[simp] theorem gO0(l:AR)(r:Ro):getO 0 (some (.ow l)::r)=some l:=nr rfl
@[simp] theorem gVs(n:Nat)(b:AT)(r:Ro):getV (n+1) (b::r)=getV n r:=by simp[getV]
@[simp] theorem gCs(n:Nat)(b:AT)(r:Ro):getC (n+1) (b::r)=getC n r:=by simp[getC]
@[simp] theorem gOs(n:Nat)(b:AT)(r:Ro):getO (n+1) (b::r)=getO n r:=by simp[getO]
@[simp] theorem frz0o(l:AR)(r:Ro):frz1 0 (some (.ow l)::r)=some (.sh (.lst l))::r:=nr rfl
@[simp] theorem frz0s(d:D)(r:Ro):frz1 0 (some (.sh d)::r)=some (.sh d)::r:=nr rfl
@[simp] theorem frz_s(n:Nat)(b:AT)(r:Ro):frz1 (n+1) (b::r)=b::frz1 n r:=by
 unfold frz1;rw[List.getElem?_cons_succ]
 cases h:r[n]? with
 | none=>rfl
 | some o=>
   cases o with
   | none=>rfl
   | some b=>cases b<;>rfl
def y2i(h:a.length+b.length<=1000000):catD (.lst a) (.lst b)=some (a++b):=if_pos h
def Yp9(h:l.length<1000000):appD l d=some (l++[d]):=if_pos h
def Yfu{r:Ro}{α:Type}{enc:α->D}(f:α->D){l:List α}(h:∀a∈l,fe (some (.sh (enc a))::r)=some (f a)):Ydr (gSet 0) tY fe (none::r) (l.map enc)=some (l.map f):=by
 have:=Ymm (gt:=gSet 0) (fc:=tY) (fe:=fe) (ρ:=none::r) enc (λ_=>true) f l λa ha=>⟨_,rfl,rfl,λ_=>h a ha⟩
 rw[List.filter_eq_self.mpr (λ_ _=>rfl)]at this;exact this
def Ymn{r:Ro}{α:Type}{enc:α->D}(p:α->Bool)(f:α->D){l:List α}(h1:∀a∈l,fc (some (.sh (enc a))::r)=some (p a))(h2:∀a∈l,p a=true->fe (some (.sh (enc a))::r)=some (f a)):
 Ydr (gSet 0) fc fe (none::r) (l.map enc)=some ((l.filter p).map f):=
 Ymm (gt:=gSet 0) enc p f l λa ha=>⟨_,rfl,h1 a ha,h2 a ha⟩
def y2j{α:Type}(enc:α->D)(d:α)(l:List α):Yl7 (l.map enc)=(List.range l.length).map λi=>.tup [.int i,enc (l.getD i d)]:=by
 unfold Yl7;rw[qf];refine Qj λi hi=>?_;have h:=qy hi;simp[h]
end M
namespace Bk
open PySem L2 M
abbrev Say:=Nat×Bool
abbrev BA:=List Say
abbrev AZ:=List BA
inductive Kd where
 | e|s|i|n
 deriving DecidableEq
inductive Rl where
 | ei (l:BA)
 | su (b:AG) (o:Bool)
 | im (b:AG) (h:AN)
 deriving DecidableEq
def kS:Kd->Str
 | .e=>Str.ofString "eithers"
 | .s=>Str.ofString "sums"
 | .i=>Str.ofString "ifs"
 | .n=>Str.ofString "nots"
def kdD(k:Kd):D:=.str (kS k)
abbrev nD(n:Nat):D:=.int n
def sayD(s:Say):D:=.tup [.int s.1,.bl s.2]
def optD:AN->D
 | none=>.non
 | some n=>.int n
def rlD:Rl->D
 | .ei l=>.tup (l.map sayD)
 | .su b o=>.tup [.tup (b.map nD),.bl o]
 | .im b h=>.tup [.tup (b.map nD),optD h]
def Yds(k:Kd)(R:List Rl):D:=.tup [kdD k,.tup (R.map rlD)]
@[simp] theorem dep_kd(k:Kd):dep (kdD k)=0:=by simp[kdD]
@[simp] theorem dep_say(s:Say):dep (sayD s)=1:=by simp[sayD]
@[simp] theorem dep_opt(h:AN):dep (optD h)=0:=by cases h<;>simp[optD]
def Yaem:∀{k j:Kd},kS k=kS j->k=j:=by
 intro k j
 cases k<;>cases j<;>first|(intro _;rfl)|(intro h;exact absurd h (by decide +kernel))
@[simp] theorem Yaen(k j:Kd):eqD (kdD k) (kdD j)=decide (k=j):=by
 rw[kdD,kdD,Yaas];by_cases h:k=j
 ·simp[h]
 ·have h':¬kS k=kS j:=λe=>h (Yaem e)
  simp[h,h']
def Yw5(neg:Bool)(k j:Kd):eqM neg (kdD k) (kdD j)=some (if neg then !decide (k=j)else decide (k=j)):=by
 rw[You (by simp) (by simp),Yaen]
@[simp] theorem eqM_e(neg:Bool)(k:Kd):eqM neg (kdD k) (.str (Str.ofString "eithers"))=some (if neg then !decide (k=.e)else decide (k=.e)):=Yw5 neg k .e
@[simp] theorem eqM_s(neg:Bool)(k:Kd):eqM neg (kdD k) (.str (Str.ofString "sums"))=some (if neg then !decide (k=.s)else decide (k=.s)):=Yw5 neg k .s
@[simp] theorem eqM_i(neg:Bool)(k:Kd):eqM neg (kdD k) (.str (Str.ofString "ifs"))=some (if neg then !decide (k=.i)else decide (k=.i)):=Yw5 neg k .i
@[simp] theorem eqM_n(neg:Bool)(k:Kd):eqM neg (kdD k) (.str (Str.ofString "nots"))=some (if neg then !decide (k=.n)else decide (k=.n)):=Yw5 neg k .n
@[simp] theorem Yaeo(a b:Nat):eqD (nD a) (nD b)=decide (a=b):=by
 rw[nD,nD,y2f];grind
@[simp] theorem y2k(s t:Say):eqD (sayD s) (sayD t)=decide (s=t):=by
 obtain⟨a,p⟩:=s;obtain⟨b,q⟩:=t;have:=Yaeo a b;simp only[nD]at this;simp only[sayD,y2g,y59,this,y7z,Yaat,Bool.and_true];by_cases h1:a=b<;>by_cases h2:p=q<;>simp[h1,h2]
theorem Yu1{α:Type}[DecidableEq α]{enc:α->D}(he:∀a b,eqD (enc a) (enc b)=decide (a=b))(s:α):∀l:List α,inD (enc s) (l.map enc)=decide (s∈l)
 | []=>by simp[inD]
 | t::l=>by
   have ih:=Yu1 he s l;unfold inD at ih ⊢;grind
theorem Yu2:∀{l:AR},(∀d∈l,dep d<=n)->depL l<=n
 | [],_=>by simp
 | d::l,h=>by
   rw[y2h];exact Nat.max_le.mpr ⟨h d qh,Yu2 λe he=>h e (qg _ he)⟩
theorem Yaep(s:Say)(l:BA)(neg:Bool)(hc:Yn c=some (l.map sayD)):inM neg (sayD s) c=some (if neg then !decide (s∈l)else decide (s∈l)):=by
 rw[y70 hc (by simp) (Yu2 λd hd=>by obtain⟨x,_,rfl⟩:=qw hd;simp),Yu1 y2k];grind
def in_n(s:Nat)(l:AG)(neg:Bool)(hc:Yn c=some (l.map nD)):inM neg (nD s) c=some (if neg then !decide (s∈l)else decide (s∈l)):=by
 rw[y70 hc (by simp) (Yu2 λd hd=>by obtain⟨x,_,rfl⟩:=qw hd;simp),Yu1 Yaeo]
@[simp] theorem ix_say0(s:Say):(Yn (sayD s)).bind (λl=>atI l 0)=some (.int s.1):=by simp[sayD]
@[simp] theorem ix_say1(s:Say):(Yn (sayD s)).bind (λl=>atI l 1)=some (.bl s.2):=by simp[sayD]
@[simp] theorem items_ei(l:BA):Yn (rlD (.ei l))=some (l.map sayD):=nr rfl
@[simp] theorem items_su(b:AG)(o:Bool):Yn (rlD (.su b o))=some [.tup (b.map nD),.bl o]:=nr rfl
@[simp] theorem items_im(b:AG)(h:AN):Yn (rlD (.im b h))=some [.tup (b.map nD),optD h]:=nr rfl
@[simp] theorem items_book(k:Kd)(R:List Rl):Yn (Yds k R)=some [kdD k,.tup (R.map rlD)]:=nr rfl
def at'(ev:AJ)(n:Nat):Bool:=ev.getD n false
def y6b{ev:AJ}(h:n<ev.length):atI (ev.map D.bl) (n:Int)=some (.bl (at' ev n)):=by
 rw[Yft,Ylh h];simp[at',h]
def In(k:Kd)(n:Nat):Rl->Prop
 | .ei l=>k=.e/\∀s∈l,s.1<n
 | .su b _=>k=.s/\∀x∈b,x<n
 | .im b h=>(k=.i\/k=.n)/\(∀x∈b,x<n)/\∀x,h=some x->x<n
def slt(s t:Say):Prop:=s.1<t.1\/(s.1=t.1/\s.2=false/\t.2=true)
def Srt:Rl->Prop
 | .ei l=>l.length<=2/\l.Pairwise slt
 | .su b _=>b.Pairwise (·<·)
 | .im b _=>b.Pairwise (·<·)
def hd(ev:AJ)(w:Bool):AN->Bool
 | none=>false
 | some x=>at' ev x==w
def nth(R:List Rl)(i:Nat):Rl:=R.getD i (.ei [])
def so(k:Kd)(ev:AJ):Rl->Bool
 | .ei l=>l.any λs=>at' ev s.1==s.2
 | .su b o=>decide ((b.filter (at' ev)).length%2=1)==o
 | .im b h=>(b.any λx=>at' ev x != decide (k=.i))||hd ev (decide (k=.i)) h
end Bk
namespace Bk
def brk(k:Kd)(ev:AJ)(R:List Rl):AG:=(List.range R.length).filter λi=>!so k ev (nth R i)
end Bk
namespace Bk
open PySem L2 M
def y2l(l:BA):D.tup (l.map sayD)=rlD (.ei l):=rfl
def sz:Rl->Nat
 | .ei l=>l.length
 | .su b _=>b.length
 | .im b _=>b.length
end Bk
namespace Bk
def bcs:Rl->AG
 | .ei l=>l.map (·.1)
 | .su b _=>b
 | .im b none=>b
 | .im b (some x)=>b++[x]
end Bk
namespace Bk
open PySem L2 M
def vd:Kd->Rl
 | .e=>.ei []
 | .s=>.su [] true
 | _=>.im [] none
end Bk
namespace M
open PySem PySem.Spec PyProof.Rows L2
section
variable {K:W7}
end
section
end
section
variable {K:W7}
section
variable {prog:P7}{w:World}{A:Around}{E:AB}{s:Shared}{X:Cx}{a e:Expr}{fa f:AX}{pos:Pos}
theorem Yyt(hl:s.heap.IsList l vs.toArray)(hi:IntsAre vs ns)(hb:ns.length<=2^24)(hk:k∈ns)(h:Q (.int (ns.idxOf k:Nat) s.toks) { s with toks:=s.toks+1 }):
 wpAny (mZ prog w) A (call (.builtin "list.index") [.ref l,.int k t]) Q E s:=by
 obtain⟨⟨cls,dd,data,sl⟩,ho,hc,n,hd⟩:=id hl;simp only at hc hd;subst hc hd;have hlen:=hi.length;have hj:ns.idxOf k<ns.length:=List.idxOf_lt_length_iff.mpr hk
 refine call_meets PySem.F.slot_list_index ⟨_,ho,rfl⟩ PySem.F.entry_list_index (PySem.F.args_list_index_2 _ _)
  (PySem.SeqAt.list_indexAt l vs.toArray n dd sl (.int k t) (isInt k) (ns.idxOf k) (by grind) (by lia) ?_ ?_) ⟨ho,λy hy=>(eq_isInt k t hi y (by grind)).at _ _,h⟩
 ·show isInt k vs[ns.idxOf k]=true
  rw[isInt_at k hi _ (by lia) hj];grind
 ·intro j hjs hlt
  show isInt k vs[j]=false;rw[isInt_at k hi j (by grind) (by lia)];exact ne_of_lt_idxOf hlt _
def rIdx(K:W7):V->AQ->Hp->VK->Prop:=λx vs H Q=>∃(l:Addr) (ns:AH) (k:Int),x=.ref l/\vs=[.int k]/\SqL K H l (ns.map V.int)/\k∈ns/\Q (.int (ns.idxOf k:Nat)) H
def y6c:MtM X "list.index" (rIdx X.K):=by
 intro pins s σ H x vs v us Q I rx rv h;obtain⟨l,ns,k,rfl,rfl,hH,hk,q⟩:=h;cases rx;obtain⟨u,rfl,⟨t,rfl⟩⟩:=Yhj rv;obtain⟨its,r,pl,hz⟩:=I.list hH;exact Yyt pl.isList (Yg5 r) (by rw[qf]at hz;exact hz) hk ⟨.int (ns.idxOf k:Nat),H,I.tok _,⟨_,rfl⟩,q⟩
def idxD:D->D->Option D
 | .lst l,.int k=>(intsD l).bind λns=>if k∈ns then some (.int (ns.idxOf k:Nat))else none
 | _,_=>none
theorem y2m{apos cpos:Pos}(ha:ZC X a fa)(he:ZE X e f)(hs:starEach [e] X.env=[(false,eval e X.env)]:=by rfl)(hfew:Few X cpos [e]:=by rfl)(hline:(apos.endLine==cpos.line)=true:=by rfl)(hbase:attributeBase a "index" X.env (eval a X.env)=eval a X.env:=by rfl):
 ZE X (.Call (.Attribute a "index" apos) [e] [] cpos) (b2 fa f idxD):=⟨have ha:=ha.un;have he:=he.un;
 PE.imp (y4y PySem.F.plainAttrs_list PySem.F.slot_list_index PySem.F.type_list_index y6c ha (Yfj he Yki hs) hbase hfew hline hs rfl) λσ H Q hx_=>by
  obtain⟨ρ,d,H0,G0,G,e,s,h⟩:=hx_;obtain⟨dx,h1,e⟩:=qa e;obtain⟨dy,h2,h3⟩:=qa e
  cases dx<;>try cases h3
  rename_i l
  cases dy<;>try cases h3
  rename_i k;obtain⟨ns,h4,h5⟩:=qa h3;by_cases hk:k∈ns
  ·rw[if_pos hk]at h5
   cases h5;have:=Yd4 h4;subst this;refine tCof.at h1 s λv H1 G1 g1 r1 s1=>?_;rw[Ct]at r1;obtain⟨p,xs,rfl,g,rl⟩:=r1;have:=Yg8 rl;subst this;refine⟨.inl ⟨rfl,_,.inl g⟩,tOf.at h2 s1 λu H2 G2 g2 r2 s2=>?_⟩;rw[Rp]at r2;subst r2;refine⟨p,ns,k,rfl,rfl,.inl (g.imp (g2.h _ _) λq=>q.imp λo q=>g2.h _ _ q),hk,?_⟩;exact h _ H2 G2 (g1.trans g2) (by rw[Rp])
  grind⟩
def orD(f g:AX):AX:=λρ=>(f ρ).or (g ρ)
def Yaaw(h1:ZE X e f)(h2:ZE X e g):ZE X e (orD f g):=⟨have h1:=h1.un;have h2:=h2.un;λpins s σ H Q I h=>by
 obtain⟨ρ,d,H0,G0,G,e0,s0,q⟩:=h;unfold orD at e0
 cases hf:f ρ with
 | some d'=>
   rw[hf]at e0;cases e0;exact h1 pins s σ H Q I ⟨ρ,_,H0,G0,G,hf,s0,q⟩
 | none=>
   rw[hf]at e0
   exact h2 pins s σ H Q I ⟨ρ,d,H0,G0,G,e0,s0,q⟩⟩
@[simp] theorem ap_orD(f g:AX):orD f g ρ=(f ρ).or (g ρ):=nr1 rfl
@[simp] theorem y6e(l:AH)(k:Int):idxD (.lst (l.map D.int)) (.int k)=if k∈l then some (.int (l.idxOf k:Nat))else none:=by
 show(intsD (l.map D.int)).bind _=_;rw[Ygn];rfl
end
end
section
section
variable {prog:P7}{w:World}{A:Around}{E:AB}{s:Shared}
abbrev KvT:=List Int×Addr×Value
def Yags(h:Heap)(u:Value)(p:KvT):Prop:=∃t o n,u=.ref t/\h.get? t=some o/\o.cls=.type "tuple"/\o.data=.seq #[.ref p.2.1,p.2.2] n
def Yw6(h:Heap):AD->List KvT->Prop
 | [],[]=>True
 | u::us,p::ps=>Yags h u p/\Yw6 h us ps
 | _,_=>False
theorem y2n{xs:List KvT}(h:k∉xs.map (·.1)):atKey xs k=none:=by
 refine atKey_none_of_get λj p e=>h ?_;grind
theorem dulT{items:AD}(hu:A.units+8<cLine)(hh:A.handled=none)(hd0:h0.get? d=none)(hi0:h0.get? it=none)(hdi:d≠it)(hL:h0.IsList L items.toArray):
 ∀(ps:List KvT) (i:Nat) (c:Int) (kvs:List KvT) (s:Shared),Yw6 h0 (items.drop i) ps->kvs.length+ps.length<=sizeLine->((kvs++ps).map (·.1)).Nodup->(∀h',OldH h0 h'->∀x∈kvs++ps,(tupleKind (Yax prog w)).is h' x.1 x.2.1)->
 s.heap.IsListIter it L i->OldH h0 s.heap->s.heap.DictOfH (tupleKind (Yax prog w)) d kvs->
 (∀h' tk,OldH h0 h'->h'.DictOfH (tupleKind (Yax prog w)) d (kvs++ps)->R (.ok (.ret .none)) { s with heap:=h',toks:=tk })->
 codeAny (mZ prog w) A (.builtin "dict.update.loop" ⟨[.ref d,.ref it,.int c 0,.none],[]⟩) R s:=by
 intro ps
 induction ps with
 | nil=>
   intro i c kvs s hp hz hnd hks hit ho hd hR;have hL':s.heap.IsList L items.toArray:=let ⟨o,e,r⟩:=hL;⟨o,ho _ _ e,r⟩
   have hx:items.toArray[i]?=none:=by
    cases hdr:items.drop i with
    | nil=>simpa using hdr
    | cons u us=>rw[hdr]at hp;exact hp.elim
   refine wz Yiv ?_;rw[je Ydk _];show wpAny _ A.in1 (pyNext (.ref it)>>=_) _ _ s;refine wa (wpAny_pyNext_list_end (A:=A.in1) hh hit hL' hx λh' hs=>?_);show wpAny _ A.in1 (Builtin.Dict.addKeywords d []>>=_) _ _ _;have old':OldH h0 h':=λb ob q=>hs b ob (λz=>by grind) (ho b ob q);obtain⟨o,es,ep,g1,g2,g3,g4,g5,g6⟩:=hd;rw[ja]at hR hks;refine wa (wb (wb (hR h' s.toks old' ⟨o,es,ep,hs _ _ hdi g1,g2,g3,g4,λx hx=>hks h' old' x hx,g6⟩)))
 | cons p ps ih=>
   intro i c kvs s hp hz hnd hks hit ho hd hR;have hL':s.heap.IsList L items.toArray:=let ⟨o,e,r⟩:=hL;⟨o,ho _ _ e,r⟩
   cases hdr:items.drop i with
   | nil=>rw[hdr]at hp;exact hp.elim
   | cons u us=>
     rw[hdr]at hp;obtain⟨⟨t,ob,n,rfl,ht,hc,hdat⟩,hp⟩:=hp
     have hx:items.toArray[i]?=some (.ref t):=by
      have:=congrArg List.head? hdr;simpa [List.head?_drop]using this
     have hus:us=items.drop (i+1):=by
      have:=congrArg List.tail hdr;simpa using this.symm
     refine wz Yiv ?_;rw[je Ydk _];show wpAny _ A.in1 (pyNext (.ref it)>>=_) _ _ s;refine wa (wpAny_pyNext_list_item hit hL' hx λh1 hi1 hs1=>?_);have ho1:=OldH.but hi0 ho hs1;obtain⟨o,es,ep,g1,g2,g3,g4,g5,g6⟩:=hd
     have hd1:h1.DictOfH (tupleKind (Yax prog w)) d kvs:=⟨o,es,ep,by rw[hs1.2 d hdi];exact g1,g2,g3,g4,λx hx=>hks h1 ho1 x (List.mem_append.mpr (.inl hx)),g6⟩
     have ht1:=ho1 _ _ ht
     have hT:(Shared.TypeIs { s with heap:=h1 } (.ref t) "tuple"):=⟨ob,ht1,hc⟩
     show wpAny _ A.in1 (holding [Value.ref t] _>>=_) _ _ _;refine wa (wc (wa (wpAny_tryCatch ?_)));unfold Builtin.Dict.pairItems;refine wa (wpAny_typeOf hT ?_);rw[if_pos (by decide)];refine wa (wpAny_seqItems ht1 hdat (wb ?_));show wpAny _ A.in1 (holding [Value.ref p.2.1,p.2.2] (dictSet d (.ref p.2.1) p.2.2)) _ _ _;have hlen:=qr (a:=p) (as:=ps)
     have hnew:p.1∉kvs.map (·.1):=λz=>by
      grind
     refine wc (wpAny_dictSet_heap (s:={ s with heap:=h1 }) (knd:=tupleKind (Yax prog w)) (k:=p.1) (a:=p.2.1) (xs:=kvs) (hsz:=by lia) (by show A.in1.units<cLine;grind) (hks h1 ho1 p (by simp)) hd1 λh2 hd2 hs2=>?_);rw[storedH_new (y2n hnew)]at hd2
     have e:kvs++p::ps=(kvs++[(p.1,p.2.1,p.2.2)])++ps:=by simp
     refine wb ⟨jd Ydk _,?_⟩;refine ih (i+1) (c+1) _ _ (by grind) (by grind) (by grind) (λh' o'=>by grind) (IsListIter.but hi1 hs2 (Ne.symm hdi)) (OldH.but hd0 ho1 hs2) hd2 λh' tk' o' d'=>hR h' tk' o' (by grind)
theorem Ykw(hu:A.units+64<cLine)(hh:A.handled=none)(hL:PlainL s.heap L its.toArray)(hp:Yw6 s.heap its ps)(hz:ps.length<=sizeLine)(hnd:(ps.map (·.1)).Nodup)(hks:∀h',OldH s.heap h'->∀x∈ps,(tupleKind (Yax prog w)).is h' x.1 x.2.1)(hQ:∀h' tk,OldH s.heap h'->h'.DictOfH (tupleKind (Yax prog w)) (~~~s) ps->Q (.ref (~~~s)) { s with heap:=h',toks:=tk }):
 wpAny (mZ prog w) A (call (.type "dict") [.ref L]) Q E s:=by
 generalize hO:({ cls:=.type "dict",data:=.dict #[] }:Obj)=dO;refine callType_codes (Q₁:=λobj s₁=>obj=.ref (~~~s)/\s₁={ s with heap:=s.heap.push dO }) F.kt_called_dict (F.kt_typeCall_dict_1 _) F.entry_dict_init (kt_code_dict_new _ ⟨rfl,by rw[hO]⟩) ?_;rintro obj s₁ ⟨rfl,rfl⟩
 have hnew:(s.heap.push dO).DictOfH (tupleKind (Yax prog w)) (~~~s) []:=by rw[<-hO];exact Heap.DictOfH.new s.heap
 refine⟨hnew.typeIs,F.args_dict_init_2 _ _,?_⟩;unfold Builtin.«dict.__init__»;refine wa ?_;unfold Builtin.Dict.selfAndRest;refine wa (wpAny_notOrdered_dict hnew.typeIs ?_);show wpAny _ _ (pure (~~~s,[Value.ref L])) _ _ _;refine wb ?_;show wpAny _ _ (Builtin.Dict.updateFrom "dict.__init__" (~~~s) (.ref L) [] .none) _ _ _;unfold Builtin.Dict.updateFrom;obtain⟨o,n,e,h1,h2,h3⟩:=hL;have e':(s.heap.push dO).get? L=some o:=qe _ e
 have hT:Shared.TypeIs { s with heap:=s.heap.push dO } (.ref L) "list":=⟨o,e',h1⟩
 refine wa (wpAny_typeOf hT ?_);rw[if_pos (by decide)];refine wa (y1o (A:=A.in1.in1) (s:={ s with heap:=s.heap.push dO }) e' h1 h2 h3 (by simp[hh]) λh' tk keep=>?_);rw[if_pos (by rfl)];refine wa (wpAny_rule (wa ?_))
 have hL':h'.IsList L its.toArray:=⟨o,keep _ _ e',h1,n,h3⟩
 refine wpAny_pyIter_list (s:={ s with heap:=h',toks:=tk }) hL' ?_;have old1:OldH s.heap h':=λb ob q=>keep _ _ (qe _ q);obtain⟨od,es,ep,hod,hrest⟩:=id hnew;have hd':=keep _ _ hod;have hlt:(~~~s)<h'.objs.size:=ql hd';generalize hI:({ cls:=.type "list_iterator",data:=.fields #[.ref L,.int 0 0] }:Obj)=iO;refine wb ⟨jd Ydk _,?_⟩;refine dulT (h0:=s.heap) ?_ (by simp[hh]) (Heap.get?_none_of_le (qu _)) (Heap.get?_none_of_le (Nat.le_of_lt hlt)) (qm hlt) ⟨o,e,h1,n,h3⟩ ps 0 0 [] _ (by grind) (by grind) (by grind) (by grind) ?_ (λb ob q=>qe _ (old1 b ob q)) ?_ λh2 tk2 o2 d2=>?_
 ·grind
 ·exact⟨iO,qp _ (by rw[<-hI];rfl),by rw[<-hI],by grind⟩
 ·obtain⟨r1,r2,r3,_,r5⟩:=hrest
  exact⟨od,es,ep,qe _ hd',r1,r2,r3,λx hx=>(nomatch hx),r5⟩
 grind
end
abbrev QvT:=(List Int×Addr)×V
def Yqa(H:Hp):AQ->List QvT->Prop
 | [],[]=>True
 | x::xs,q::qs=>(∃b ys,x=.ref b/\H b=some (.tup [.ref q.1.2,q.2])/\H q.1.2=some (.tup ys)/\Yfl ys=some q.1.1)/\Yqa H xs qs
 | _,_=>False
theorem y2o:∀{qs:List QvT}{ps:List KvT},ps.map (λp=>(p.1,p.2.1))=qs.map (·.1)->zipX (qs.map (·.1)) (ps.map (·.2.2))=ps
 | [],[],_=>rfl
 | q::qs,p::ps,h=>by
   rw[Qa,Qa]at h;injection h with h1 h2;have ih:=y2o h2;unfold zipX at ih ⊢;rw[Qa,Qa,List.zip_cons_cons,Qa,ih,<-h1]
 | [],_::_,h=>by cases h
 | _::_,[],h=>by cases h
section
variable {X:Cx}
theorem Yov{σ:L2.St}(I:Inv X pins σ H s):∀{ys:AQ}{its:AD}{qs:List QvT},Yqa H ys qs->Vals ys its->∃ps:List KvT,Yw6 s.heap its ps/\ps.map (λp=>(p.1,p.2.1))=qs.map (·.1)/\Vals (qs.map (·.2)) (ps.map (·.2.2))/\∀p∈ps,∃zs,H p.2.1=some (.tup zs)/\Yfl zs=some p.1
 | [],its,[],_,r=>by
   cases r;exact⟨[],trivial,rfl,.nil,λp hp=>(nomatch hp)⟩
 | y::ys,its,q::qs,h,r=>by
   obtain⟨⟨b,zs,rfl,hb,hk,hn⟩,h⟩:=h
   cases r with
   | cons r1 r2=>
     cases r1;obtain⟨ps,h1,h2,h3,h4⟩:=Yov I h r2;obtain⟨its2,rv,⟨o,e,hc,n,hd⟩,_⟩:=I.tuple (xs:=[.ref q.1.2,q.2]) (.of hb)
     cases rv with
     | cons ra rb=>
       cases rb with
       | cons rc rd=>
         cases rd;cases ra;refine⟨(q.1.1,q.1.2,_)::ps,⟨⟨b,o,n,rfl,e,hc,hd⟩,h1⟩,by grind,.cons rc h3,λp hp=>?_⟩;grind
 | [],_,_::_,h,_=>h.elim
 | _::_,_,[],h,_=>h.elim
def Yaer(K:W7):AQ->Hp->VK->Prop:=λxs H Q=>∃a ys qs,xs=[.ref a]/\SqL K H a ys/\Yqa H ys qs/\qs.length<cap6/\(qs.map (·.1.1)).Nodup/\∀p ep,H p=none->Q (.ref p) (upd H p (dTo p (qs.map (·.1)) (qs.map (·.2)) ep))
theorem Yyu(hu:X.A.units+64<cLine)(hc:X.calm=true):Ydq X (.type "dict") (Yaer X.K):=by
 intro pins s σ H xs us Q I r h;obtain⟨a,ys,qs,rfl,hq,hv,hl,hnd,q⟩:=h;obtain⟨u,rfl,rx⟩:=Yhj r;cases rx;have hh:X.A.handled=none:=I.ok.hd hc;obtain⟨its,rv,pl,hz⟩:=I.list hq;obtain⟨ps,h1,h2,h3,h4⟩:=Yov I hv rv;have hcap:cap6=1000000:=rfl
 have hlen:ps.length=qs.length:=by
  have:=congrArg List.length h2;grind
 have hps:ps.length<=sizeLine:=by rw[hlen,ji];lia
 have hk:ps.map (·.1)=qs.map (·.1.1):=by
  have:=congrArg (List.map Prod.fst) h2;rw[Qd,Qd]at this;exact this
 have hd:(~~~s==sysModules)=false:=beq_eq_false_iff_ne.mpr (Ne.symm (qm I.big));refine Ykw hu hh pl h1 hps (by grind) (λh' old x hx=>?_) λh' tk old dd=>?_
 ·obtain⟨zs,e1,e2⟩:=h4 x hx
  exact Yh8 (P:=X.prog) (w:=X.w) (I.kept (t':=s.toks) (h':=h') λb o e=>old b o e).hok e1 e2
 ·rw[<-y2o h2]at dd
  obtain⟨ep,new⟩:=Yr8 hd h3 dd;exact⟨.ref (~~~s),_,I.laid (t':=tk) (λb o e=>old b o e) (qu _) (new _),rfl,q _ ep (I.hok.fresh (qu _))⟩
end
def Ykm:AR->Option (List (D×D))
 | []=>some []
 | .tup [k,v]::l=>(Ykm l).map ((k,v)::·)
 | _=>none
def Yqb:D->Option (List (D×D))
 | .lst l=>Ykm l
 | _=>none
variable {K:W7}
theorem Yow(s:Same G H):∀{l:AR}{ps:List (D×D)}{kn:List AH}{xs:AQ},Ykm l=some ps->Yhn (ps.map (·.1))=some kn->RpL K G l xs->
 ∃qs:List QvT,Yqa H xs qs/\qs.map (·.1.1)=kn/\RpL K G (ps.map (·.1)) (qs.map λq=>V.ref q.1.2)/\RpL K G (ps.map (·.2)) (qs.map (·.2))/\qs.length=ps.length/\∀q∈qs,∃ys,G q.1.2=some (.tup ys)/\Yfl ys=some q.1.1
 | [],ps,kn,xs,e,ek,r=>by
   rw[Ykm]at e;cases e;rw[List.map_nil,Yhn]at ek;cases ek;rw[RpL]at r;subst r;exact⟨[],trivial,rfl,.nil,.nil,rfl,λq hq=>(nomatch hq)⟩
 | d::l,ps,kn,xs,e,ek,r=>by
   unfold Ykm at e
   split at e
   case h_1 he=>cases he
   case h_2 k v l' he=>
    injection he with he1 he2;subst he1 he2;obtain⟨ps',h1,rfl⟩:=qc e;rw[RpL]at r;obtain⟨x,xr,rfl,rx,rr⟩:=r;rw[Qa,Yhn]at ek;obtain⟨n,hn,ek⟩:=qa ek;obtain⟨kn',ek',rfl⟩:=qc ek;obtain⟨qs,h2,h3,h4,h5,h6,h7⟩:=Yow s h1 ek' rr;rw[Rp]at rx;obtain⟨b,ys,rfl,hb,ry⟩:=rx;rw[RpL]at ry;obtain⟨y1,yr,rfl,r1,ry⟩:=ry;rw[RpL]at ry;obtain⟨y2,yr,rfl,r2,ry⟩:=ry;rw[RpL]at ry;subst ry;obtain⟨kb,zs,rfl,k1,k2,k3⟩:=Yr7 (H:=H) hn (Ct.of s r1);refine⟨((n,kb),y2)::qs,⟨⟨b,zs,rfl,s _ _ hb,k1,k3⟩,h2⟩,by grind,.cons r1 h4,.cons r2 h5,by grind,λq hq=>?_⟩;grind
   grind
section
variable {X:Cx}{e:Expr}{f:AX}{pos:Pos}
def Yyv(i:Nat)(f:AX):AU:=λρ=>((f ρ).bind Yqb).bind λps=>(Yhn (ps.map (·.1))).bind λkn=>if ps.length<cap6/\kn.Nodup then some (.nx (ρ.set i (some (.od true (ps.map (·.1)) (ps.map (·.2))))))else none
@[simp] theorem Yw7(i:Nat):Yyv i f ρ=((f ρ).bind Yqb).bind λps=>(Yhn (ps.map (·.1))).bind λkn=>if ps.length<cap6/\kn.Nodup then some (.nx (ρ.set i (some (.od true (ps.map (·.1)) (ps.map (·.2))))))else none:=nr1 rfl
theorem y6f(hu:X.A.units+64<cLine)(hc:X.calm=true)(i:Nat){pos' p2 cpos:Pos}(hN:X.N.Nodup)(hg:Gl X "dict")(hm:X.mg "dict"=none)(ha:ZC X e f)(hi:X.N[i]?=some x:=by rfl)(hx:Loc X.env.scope x:=by trivial)(hst:starEach [e] X.env=[(false,eval e X.env)]:=by rfl)(hpl:(backTo cpos (starEach [] X.env)).any (·.1)=false:=by rfl)(hs:swapsWith (.Call (.Name "dict" p2) [e] [] cpos) (some (.Name x pos')) pos.line X.env=pure false:=by rfl)(hf:X.fn x=true\/X.env.scope.names.lookup x=some .local:=by trivial):ZS X (.Assign [.Name x pos'] (.Call (.Name "dict" p2) [e] [] cpos) pos) (Yyv i f):=⟨have ha:=ha.un;
 PS.imp (Yoe hN hi hx (Yd9 (Yyu hu hc) hg hm (by decide +kernel) (Yfm ha Yh5 hst) (by decide) (by decide) hst hpl) hs hf) λF σ H hx_=>by
  obtain⟨ρ,out,H0,G0,G,e,s,h⟩:=hx_;unfold Yyv at e;obtain⟨ps,h1,e⟩:=qa e;obtain⟨kn,hkn,e⟩:=qa e;obtain⟨d,h2,h3⟩:=qa h1
  split at e
  case isFalse=>cases e
  rename_i hcap;cases e;refine tCAof.at (show Yg f aNil ρ=some [d] by simp_all) s λvs H1 G1 g1 r1 s1=>?_;obtain⟨v,rfl,rv⟩:=Yc5 r1
  cases d with
  | lst l=>
    rw[Ct]at rv;obtain⟨a,xs,rfl,hq,rl⟩:=rv;obtain⟨qs,k1,k2,k3,k4,k5,k6⟩:=Yow s1.seen (show Ykm l=some ps from h3) hkn rl;refine⟨a,xs,qs,rfl,.inl hq,k1,by grind,by grind,λp ep hp=>?_⟩;refine h _ _ G1 (s1.set_od i (.hid s1.seen hp _) hp (s1.seen.free hp) (kxs:=qs.map λq=>V.ref q.1.2) (vxs:=qs.map (·.2)) (.inr ⟨rfl,qs.map (·.1),ep,Yu,by simp,by grind,by simp_all,λq hq=>?_⟩) k3 k4);grind
  | _=>cases h3⟩
end
end
section
section
variable {prog:P7}{w:World}{A:Around}{E:AB}{s:Shared}
def DRaw(h:Heap)(d:Addr)(es:Array DictEntry)(ep:Nat):Prop:=∃o,h.get? d=some o/\o.ExactDict/\o.data=.dict es ep
def DRaw.typeIs(hm:DRaw s.heap d es ep):s.TypeIs (.ref d) "dict":=by
 obtain⟨o,ho,hc,_⟩:=hm;exact⟨o,ho,hc.1⟩
theorem Ysn(hd:(d==sysModules)=false)(hm:DRaw s.heap d es ep)(hQ:Q (.ref (~~~s)) { s with heap:=s.heap.push { cls:=.type "dict_keyiterator",data:=.fields #[.ref d,.int 0 0,.int es.size 0,.int ep 0] } }):wpAny (mZ prog w) A (pyIter (.ref d)) Q E s:=by
 have hT:=hm.typeIs;obtain⟨o,ho,hc,hdat⟩:=hm;refine wpAny_pyIter_slot hT F.slot_dict_iter (we F.slot_dict_iter hT F.entry_dict_iter ?_ (F.args_dict_iter_1 _));unfold Builtin.«dict.__iter__»;refine wa ?_;unfold Builtin.Dict.dictSlotNone;refine wa (wpAny_notOrdered_dict hT ?_);show wpAny _ _ (pure (Value.ref d)) _ _ s;refine wb ?_;show wpAny _ _ (Builtin.Dict.showsAll d>>=_) _ _ s;unfold Builtin.Dict.showsAll;rw[if_neg (by grind)];refine wa (wb ?_);refine wa (wpAny_dictEntries ho hdat ?_);refine wa (wpAny_dictEpoch ho hdat ?_);refine wa (wg (wb ⟨_,rfl,"dict_keyiterator",_,⟨_,qp _ rfl,rfl⟩,F.slot_dict_keyiterator_next.lookup,?_⟩));simpa [rawInt]using hQ
theorem Yhs(hit:s.heap.IsKeyIter it d i es.size ep)(hm:DRaw s.heap d es ep)(hx:i<es.size)(hQ:∀h':Heap,h'.IsKeyIter it d (i+1) es.size ep->Heap.SameBut it s.heap h'->Q (some es[i].key) { s with heap:=h' }):wpAny (mZ prog w) A (pyNext (.ref it)) Q E s:=by
 obtain⟨o,ho,hc,hd⟩:=id hit;obtain⟨od,hod,hcd,hdd⟩:=hm;unfold pyNext
 refine wa (jh (wpAny_callSpecial?_slot (name:=Str.ofString "__next__") hit.typeIs F.slot_dict_keyiterator_next
  (we F.slot_dict_keyiterator_next hit.typeIs F.entry_dict_keyiterator_next ?_ (F.args_dict_keyiterator_next_1 _))))
 refine wa (wb ?_);refine wa ?_;refine wa ?_
 first|refine wa (wpAny_typeNameOfWhole_keyiter hit.typeIs (wb ?_))|refine wa (wpAny_typeNameOf_keyiter hit.typeIs (wb ?_))
 refine wa (wpAny_fieldsOf ho hd ?_)
 have hown:Builtin.Dict_items.ownsTuple "dict_keyiterator"=false:=by decide
 simp only[hown,Bool.false_eq_true,if_false];show wpAny _ _ (if (Value.ref d==Value.none)=true then _ else _) _ _ s;rw[if_neg (show ¬((Value.ref d==Value.none)=true) from qi)];refine wa (wb ?_);refine wa (wpAny_dictEntries hod hdd ?_);rw[if_neg (by simp)];refine wa (wb ?_);refine wa (wpAny_dictEpoch hod hdd ?_);rw[if_neg (by simp)];refine wb ?_;simp only[show ¬((i:Int)<0) from by lia,if_false,w9,Array.getElem?_eq_getElem hx];refine wa ?_
 first|refine wa (wpAny_typeNameOfWhole_keyiter hit.typeIs (wb ?_))|refine wa (wpAny_typeNameOf_keyiter hit.typeIs (wb ?_))
 refine wa (wpAny_isOneOf_keyiter hit.typeIs ?_);show wpAny _ _ (setField (.ref it) 1 (rawInt ((i:Int)+1))>>=_) _ _ s;refine wa (wpAny_setField ho hd (by simp) ?_)
 have hit':(s.heap.update it (Obj.mapFields (·.setIfInBounds 1 (rawInt ((i:Int)+1))))).IsKeyIter it d (i+1) es.size ep:=
  ⟨_,wy _ ho (Obj.isFreed_of_fields (jg hd _)),(Obj.cls_mapFields ..).trans hc,by rw[jg hd];simp[rawInt]⟩
 refine wa (wc ?_);refine wa (wpAny_isOneOf_keyiter (s:={ s with heap:=s.heap.update it (Obj.mapFields (·.setIfInBounds 1 (rawInt ((i:Int)+1)))) }) hit'.typeIs ?_);show wpAny _ _ (pure es[i].key) _ _ _;exact wb (wb ⟨_,rfl,wb (hQ _ hit' (wv ..))⟩)
theorem Yi1(hh:A.handled=none)(hit:s.heap.IsKeyIter it d i es.size ep)(hm:DRaw s.heap d es ep)(hge:es.size<=i)(hQ:∀h',Heap.ExtBut it s.heap h'->Q none { s with heap:=h' }):wpAny (mZ prog w) A (pyNext (.ref it)) Q E s:=by
 obtain⟨o,ho,hc,hd⟩:=id hit;obtain⟨od,hod,hcd,hdd⟩:=hm;unfold pyNext
 refine wa (jh (wpAny_callSpecial?_slot (name:=Str.ofString "__next__") hit.typeIs F.slot_dict_keyiterator_next
  (we F.slot_dict_keyiterator_next hit.typeIs F.entry_dict_keyiterator_next ?_ (F.args_dict_keyiterator_next_1 _))))
 refine wa (wb ?_);refine wa ?_;refine wa ?_
 first|refine wa (wpAny_typeNameOfWhole_keyiter hit.typeIs (wb ?_))|refine wa (wpAny_typeNameOf_keyiter hit.typeIs (wb ?_))
 refine wa (wpAny_fieldsOf ho hd ?_)
 have hown:Builtin.Dict_items.ownsTuple "dict_keyiterator"=false:=by decide
 simp only[hown,Bool.false_eq_true,if_false];show wpAny _ _ (if (Value.ref d==Value.none)=true then _ else _) _ _ s;rw[if_neg (show ¬((Value.ref d==Value.none)=true) from qi)];refine wa (wb ?_);refine wa (wpAny_dictEntries hod hdd ?_);rw[if_neg (by simp)];refine wa (wb ?_);refine wa (wpAny_dictEpoch hod hdd ?_);rw[if_neg (by simp)];refine wb ?_;simp only[show ¬((i:Int)<0) from by lia,if_false,w9,Array.getElem?_eq_none hge];refine wa ?_
 first|refine wa (wpAny_typeNameOfWhole_keyiter hit.typeIs (wb ?_))|refine wa (wpAny_typeNameOf_keyiter hit.typeIs (wb ?_))
 show wpAny _ _ (setField (.ref it) 0 .none>>=_) _ _ s;refine wa (wpAny_setField ho hd (by simp) ?_);show wpAny _ _ (newExc (.type "StopIteration") []>>=_) _ _ _;refine wa ?_;simp only[newExc,newTuple];refine wa (wg ?_ (by size_fits));refine wa (m:=firstArgMember _ _) (wpAny_of_eq (a:=Value.none) (by first|rfl|(simp only[firstArgMember];rfl)) ?_);refine wg ?_ (by size_fits);simp only[raiseNew];refine wa (wpAny_handled ?_);rw[show A.in1.handled=none from hh];refine wa (wb (wpAny_throw ?_));refine wa (wpAny_isInstance (T:="StopIteration") (b:=true) ⟨_,qp _ rfl,rfl⟩ isSubtype_stop ?_);exact wb (hQ _ (((wv ..).extBut.push _).push _))
end
def Itk(a:Addr)(nks:List (List Int×Addr))(vxs:AQ)(ep:Nat):It:=
 ⟨λi H=>H a=some (dTo a nks vxs ep)/\i<nks.length,λi H x H'=>H'=H/\∃p,nks[i]?=some p/\x=.ref p.2,λi H=>H a=some (dTo a nks vxs ep)/\nks.length<=i⟩
theorem Yqc(ok:HOk P w H h)(e:H a=some (dTo a nks vxs ep))(hl:nks.length=vxs.length):
 (a==sysModules)=false/\∃es:Array DictEntry,DRaw h a es ep/\es.size=nks.length/\∀(i:Nat) (hi:i<es.size) p,nks[i]?=some p->es[i].key=.ref p.2:=by
 obtain⟨⟨hs,us,o,es,r,h1,h2,h3,h4⟩,_⟩:=(show ObjOk P w H h a (dTo a nks vxs ep) from ok a _ e)
 have hu:us.length=nks.length:=by rw[hl,r.length]
 have hsz:es.size=nks.length:=by
  have:=congrArg List.length h4;grind
 refine⟨hs,es,⟨o,h1,h2,h3⟩,hsz,λi hi p hp=>?_⟩
 have hz:es.toList[i]?=some es[i]:=by simp[hi]
 grind
theorem y2p{K:W7}(hl:nks.length=vxs.length)(a it:Addr):Turn P w K tg (Itk a nks vxs ep) [it] it (λi h=>h.IsKeyIter it a i nks.length ep) where
 mem:=by simp
 obj:=λi h st b hb=>by
  have e:b=it:=by grind
  subst e;obtain⟨o,e,c,d⟩:=st;grind
 keep:=λi h h' st k=>by
  obtain⟨o,e,r⟩:=st;exact⟨o,k it (by simp) o e,r⟩
 item:=by
  intro X hP hw hK hc i pins s σ H E I hf st hg;subst hP hw hK;obtain⟨hq,hx⟩:=hg;obtain⟨hsm,es,dr,hsz,hkey⟩:=Yqc I.hok hq hl;obtain⟨f0,f1,f2,f3,f4,f5⟩:=hf it (by simp);have hp:nks[i]?=some nks[i]:=qq hx;rw[<-hsz]at st;refine Yhs st dr (by lia) λh' st' sb=>?_;have I1:Inv X pins σ H { s with heap:=h' }:=I.turned (t':=s.toks) (λb o hb e=>(sb.2 b hb).trans e) f0 f1 f3 f4 f5;obtain⟨o,e,c,d⟩:=id st';rw[hkey i (by lia) _ hp];rw[hsz]at st';exact⟨.ref nks[i].2,rfl,y4p (s:={ s with heap:=h' }) e c d (by decide) ⟨.ref nks[i].2,H,I1,rfl,⟨rfl,_,hp,rfl⟩,st',λb hb=>(hf b hb).1⟩⟩
 done:=by
  intro X hP hw hK hc i pins s σ H E I hf st hg;subst hP hw hK;obtain⟨hq,hx⟩:=hg;obtain⟨hsm,es,dr,hsz,hkey⟩:=Yqc I.hok hq hl;obtain⟨f0,f1,f2,f3,f4,f5⟩:=hf it (by simp);rw[<-hsz]at st
  exact Yi1 (I.ok.hd hc) st dr (by lia) λh' eb=>⟨rfl,I.turned (t':=s.toks) (λb o hb e=>eb b o hb e) f0 f1 f3 f4 f5⟩
 self:=λ_ _ _ _ _ st h=>wpAny_pyIter_keyiter st h
section
variable {X:Cx}{tg:Expr}
def Yaes(tl:TE):TI:=λσ H R=>tl σ H λx H1=>∃a nks vxs ep,x=.ref a/\H1 a=some (dTo a nks vxs ep)/\nks.length=vxs.length/\R (Itk a nks vxs ep) H1
theorem y6g(hl:PE X l tl):PI X tg l (Yaes tl):=by
 intro pins s σ H R I h;refine thn (hl pins s σ H _ I h) λv s1 hx_=>?_;obtain⟨x,H1,I1,r1,q1⟩:=hx_;obtain⟨a,nks,vxs,ep,e,hq,hlen,q⟩:=q1;subst e;cases r1;obtain⟨hsm,es,dr,hsz,hkey⟩:=Yqc I1.hok hq hlen;refine Ysn hsm dr ?_;rw[hsz];refine⟨~~~s1,[~~~s1],_,_,H1,rfl,I1.kept (t':=s1.toks) λb o e=>qe _ e,y2p hlen a _,⟨_,qp _ rfl,rfl,rfl⟩,λb hb=>?_,q⟩
 have e:b= ~~~s1:=by grind
 subst e;exact I1.fpOk (qu _) (I1.hok.fresh (qu _))
end
def Yj4:D->Option AR
 | .dct true ks _=>if ks.length<=cap6 then some ks else none
 | _=>none
section
variable {X:Cx}{tg:Expr}{f:AX}
theorem y2q(hl:ZE X l f):ZI X tg l (b1 f Yj4):=⟨have hl:=hl.un;PI.imp (y6g hl) λσ H R hx_=>by
 obtain⟨ρ,ds,H0,G0,G,e,s,h⟩:=hx_;obtain⟨c,h1,h2⟩:=Ycp e;refine tOf.at h1 s λv H1 G1 g1 r1 s1=>?_;unfold Yj4 at h2
 split at h2
 case h_2=>cases h2
 rename_i ks vs
 split at h2
 case isFalse=>cases h2
 rename_i hcap;cases h2;rw[Rp]at r1;obtain⟨a,kxs,vxs,rfl,dc,rk,rv⟩:=r1;rcases dc with⟨z,_⟩|⟨_,nks,ep,d1,d2,d3,rfl,d5⟩
 ·cases z
 refine⟨a,nks,vxs,ep,rfl,s1.seen _ _ d1,d2,h _ H1 G1 g1 (y0r (Ye0 hcap) λi H2 G2 e1 e2=>⟨λd hd=>?_,λhi=>⟨e2 _ _ (e1 _ _ d1),?_⟩⟩)⟩
 ·obtain⟨x,hx,rx⟩:=rk.get hd
  have hlt:i<nks.length:=by
   grind
  refine⟨⟨e2 _ _ (e1 _ _ d1),hlt⟩,λy H3 q=>⟨q.1,?_⟩⟩;obtain⟨p,hp,rfl⟩:=q.2;rw[Qi,hp]at hx;cases hx;exact rx.mono e1
 ·have:=rk.length
  grind⟩
@[simp] theorem Yu3(ks vs:AR):Yj4 (.dct true ks vs)=if ks.length<=cap6 then some ks else none:=nr1 rfl
end
end
section
section
variable {prog:P7}{w:World}{A:Around}{E:AB}{s:Shared}{X:Cx}
def DRaw.keep(hm:DRaw h d es ep)(k:∀o,h.get? d=some o->h'.get? d=some o):DRaw h' d es ep:=by
 obtain⟨o,ho,r⟩:=hm;exact⟨o,k o ho,r⟩
def Yso{h h':Heap}(hm:h.IsKeyIter it d i n ep)(k:∀o,h.get? it=some o->h'.get? it=some o):h'.IsKeyIter it d i n ep:=by
 obtain⟨o,ho,r⟩:=hm;exact⟨o,k o ho,r⟩
theorem Yyw(hh:A.handled=none)(I d:Addr)(hne:d≠I)(es:Array DictEntry)(ep:Nat):
 Walks prog w A I [I,d] [I] es.size (λi v=>∃hi:i<es.size,v=es[i].key) (λi h=>h.IsKeyIter I d i es.size ep/\DRaw h d es ep) where
 sub:=λb hb=>by grind
 frame:=λ_ _ _ st hk=>⟨Yso st.1 λo e=>hk I (by simp) o e,st.2.keep λo e=>hk d (by simp) o e⟩
 item:=λi s Q E hi st hQ=>Yhs st.1 st.2 hi λh' st' sb=>hQ _ h' s.toks ⟨hi,rfl⟩ ⟨st',st.2.keep λo e=>(sb.2 d hne).trans e⟩ λb o hb e=>(sb.2 b (by grind)).trans e
 done:=λs Q E st hQ=>Yi1 hh st.1 st.2 (qu _) λh' eb=>hQ h' s.toks λb o hb e=>eb b o (by grind) e
 self:=λi s Q E st h=>wpAny_pyIter_keyiter st.1 h
def y6i(lo:(d==sysModules)=false):W.KdlSrc prog w "dict" d d es.size (λi v=>∃hi:i<es.size,v=es[i].key) (λh=>DRaw h d es ep) where
 type:=λ_ hm=>hm.typeIs
 there:=λ_ hm=>⟨let ⟨_,ho,_⟩:=hm;ql ho,let ⟨_,ho,_⟩:=hm;ql ho⟩
 keep:=λ_ _ hm hk=>hm.keep λo e=>hk d (.inl rfl) o e
 notList:=by decide
 notTuple:=by decide
 hint:=λ_ _ _ _ hm hq=>W.kdl_hint_dict hm.typeIs hq
 iter:=λ_ s hh hm=>⟨_,_,(λ_ _ hq=>Ysn lo hm hq),Yyw hh _ d (by obtain⟨_,ho,_⟩:=hm;exact qm (ql ho)) es ep,⟨⟨_,qp _ rfl,rfl,rfl⟩,hm.keep λo e=>qe _ e⟩⟩
def y72:AQ->Hp->VK->Prop:=λxs H Q=>∃a nks vxs ep,xs=[.ref a]/\H a=some (dTo a nks vxs ep)/\nks.length=vxs.length/\nks.length<=sizeLine/\∀l,H l=none->Q (.ref l) (upd H l (.lst (nks.map λp=>V.ref p.2)))
theorem Yox(hc:X.calm=true):Ydq X (.type "list") y72:=by
 intro pins s σ H xs us Q I r h;obtain⟨a,nks,vxs,ep,rfl,hq,hl,hz,q⟩:=h;obtain⟨u,rfl,rx⟩:=Yhj r;cases rx;have hh:X.A.handled=none:=I.ok.hd hc;obtain⟨hsm,es,dr,hsz,hkey⟩:=Yqc I.hok hq hl;refine W.kdl_call (y6i hsm) hh dr (by lia) λh' tk acc c kp e hit=>?_
 have hv:Vals (nks.map λp=>V.ref p.2) acc.toList:=by
  have hacc:acc.toList=nks.map λp=>Value.ref p.2:=by
   refine List.ext_getElem? λi=>?_;by_cases hi:i<es.size
   ·have hia:i<acc.size:=by rw[hit.1];exact hi
    have h1:acc[i]?=some acc[i]:=Array.getElem?_eq_getElem hia;obtain⟨_,e2⟩:=hit.2 i _ h1;grind
   ·rw[List.getElem?_eq_none (by rw[qj,hit.1];lia),List.getElem?_eq_none (by grind)]
  rw[hacc];clear hacc hkey hq hl hz hsz q
  induction nks with
  | nil=>exact .nil
  | cons p nks ih=>exact .cons rfl ih
 exact⟨.ref (~~~s),_,I.laid (t':=tk) kp (qu _) (show ObjOk X.prog X.w _ h' _ (.lst _) from⟨by grind,acc.toList,c,hv,by simpa using e⟩),rfl,q _ (I.hok.fresh (qu _))⟩
def Yi2:AR->Option AR
 | [.dct true ks _]=>if ks.length<=cap6 then some ks else none
 | _=>none
def Ysp:SemF X.K y72 Yi2:=by
 intro vs ds l H G Q h s r q;unfold Yi2 at h
 split at h
 case h_2=>cases h
 rename_i ks vs0
 split at h
 case isFalse=>cases h
 rename_i hcap;cases h;obtain⟨v,rfl,rv⟩:=Yc5 r;rw[Ct]at rv;obtain⟨a,kxs,vxs,rfl,dc,rk,rv⟩:=rv;rcases dc with⟨z,_⟩|⟨_,nks,ep,d1,d2,d3,rfl,d5⟩
 ·cases z
 have hlen:=rk.length;simp at hlen;exact⟨a,nks,vxs,ep,rfl,d1,d2,by rw[hlen];exact Ye0 hcap,λm hm=>q m _ _ G (.hid s hm _) hm (s.free hm) Yu rk⟩
@[simp] theorem Yyx(ks vs:AR):Yi2 [.dct true ks vs]=if ks.length<=cap6 then some ks else none:=nr1 rfl
end
end
section
theorem Ysq:∀{ms:AH}{wx:AQ}{mv:List (Key×Value)}{kvs:List (Key×V)}{vs:List (Key×Value)},ms.length=wx.length->KV (zK ms wx) mv->KV kvs vs->KV (Yfa kvs (ms.zip wx)) (merged vs mv)
 | [],[],mv,kvs,vs,_,h,r=>by
   cases h;exact r
 | m::ms,x::wx,mv,kvs,vs,hl,h,r=>by
   rw[Ygi]at h
   cases h with
   | cons h1 h2=>
     rename_i q mv;obtain⟨e1,e2⟩:=h1;have e1':q.1=Sum.inl m:=e1.symm;show KV (Yfa (putK kvs (Sum.inl m) x) (ms.zip wx)) (merged (stored vs q.1 q.2) mv);rw[e1'];exact Ysq (by simpa using hl) h2 (r.put (Sum.inl m) e2)
 | [],_::_,_,_,_,h,_,_=>by simp at h
 | _::_,[],_,_,_,h,_,_=>by simp at h
section
variable {X:Cx}
def rUpd:V->AQ->Hp->VK->Prop:=λx vs H Q=>∃(d o:Addr) (kvs:List (Key×V)) (ms:AH) (wx:AQ),x=.ref d/\vs=[.ref o]/\d≠o/\H d=some (.dK kvs)/\H o=some (.dK (zK ms wx))/\ms.length=wx.length/\kvs.length+wx.length<cap6/\Q .non (upd H d (.dK (Yfa kvs (ms.zip wx))))
theorem y2r:MtM X "dict.update" rUpd:=by
 intro pins s σ H x vs v us Q I rx rv h;obtain⟨d,o,kvs,ms,wx,rfl,rfl,hne,hd,ho,hl,hz,q⟩:=h;cases rx;obtain⟨u,rfl,ru⟩:=Yhj rv;cases ru
 obtain⟨z1,lo1,dv,r1,dd⟩:=(show ObjOk X.prog X.w H s.heap d (.dK kvs) from I.hok d _ hd)
 obtain⟨z2,lo2,ov,r2,od⟩:=(show ObjOk X.prog X.w H s.heap o (.dK (zK ms wx)) from I.hok o _ ho)
 have l1:dv.length=kvs.length:=r1.length.symm
 have l2:ov.length=wx.length:=by
  have:=r2.length;rw[y1j _ _ hl]at this;lia
 have hcap:cap6=1000000:=rfl
 have hzl:(ms.zip wx).length=wx.length:=by grind
 refine call_meetsIn PySem.F.slot_dict_update dd.typeIs PySem.F.entry_dict_update (PySem.F.args_dict_update_2 _ _) (meets_dict_update (Yaj X.prog X.w) d o hne lo2) ⟨dv,ov,dd,od,by rw[l1,l2,ji];lia,λh' dd' _ same=>?_⟩;have hn:=Yj0 (ms.zip wx) kvs;refine⟨.non,_,Ylr (t':=s.toks) I (by rw[hd];exact True.intro) same (let ⟨q,_,_,hq,_⟩:=dd';⟨q,hq⟩) (Yz5 (by rw[ji];lia) lo1 (Ysq hl r2 r1) dd'),rfl,q⟩
end
variable {K:W7}
theorem y73:∀{ms:AH}{ds:AR}{wx:AQ},ms.length=wx.length->RpL K G ds wx->DQ K G (ms.zip ds) (ms.zip wx)
 | [],ds,wx,hl,r=>by
   have:wx=[]:=List.eq_nil_of_length_eq_zero (by grind);subst this;exact trivial
 | m::ms,ds,wx,hl,r=>by
   cases wx with
   | nil=>simp at hl
   | cons x wx=>
     cases ds with
     | nil=>
       rw[RpL]at r;cases r
     | cons d ds=>
       rw[RpL]at r;obtain⟨y,q,e,r1,r2⟩:=r;injection e with e1 e2;subst e1 e2;exact⟨⟨rfl,r1⟩,y73 (by grind) r2⟩
section
variable {X:Cx}{e:Expr}{f:AX}{pos:Pos}
def updD(l:List D×AR):D->Option (List D×AR)
 | .dct false ks vs=>(intsD l.1).bind λns=>(intsD ks).bind λms=>if l.2.length+vs.length<cap6 then some ((dctG ns l.2 (ms.zip vs)).1.map D.int,(dctG ns l.2 (ms.zip vs)).2)else none
 | _=>none
def sUpd(i:Nat)(f:AX):AU:=λρ=>(Yku i ρ).bind λl=>(f ρ).bind λd=>(updD l d).map λl'=>.nx (ρ.set i (some (.od false l'.1 l'.2)))
theorem Yoy(i:Nat){p2 apos cpos:Pos}(he:ZE X e f)(hN:X.N[i]?=some x:=by rfl)(hv:Vis X.env.scope x:=by trivial)(hd:Ndb x:=by decide)(hcd:Ncd x:=by decide)(hse:swapsWith (.Call (.Attribute (.Name x p2) "update" apos) [e] [] cpos) none pos.line X.env=pure false:=by rfl)(hs:starEach [e] X.env=[(false,eval e X.env)]:=by rfl)(hfew:Few X cpos [e]:=by rfl)(hline:(apos.endLine==cpos.line)=true:=by rfl)(hbase:attributeBase (.Name x p2) "update" X.env (eval (.Name x p2) X.env)=eval (.Name x p2) X.env:=by rfl):
 ZS X (.Expr (.Call (.Attribute (.Name x p2) "update" apos) [e] [] cpos) pos) (sUpd i f):=⟨have he:=he.un;
 PS.imp (Yt7 (y4y PySem.F.plainAttrs_dict PySem.F.slot_dict_update PySem.F.type_dict_update y2r (Ylp hN hv hd hcd) (Yfj he Yki hs) hbase hfew hline hs rfl) hse) λF σ H hx_=>by
  obtain⟨ρ,out,H0,G0,G,e,s,h⟩:=hx_;unfold sUpd at e;obtain⟨l,h1,e⟩:=qa e;obtain⟨d,h2,e⟩:=qa e;obtain⟨l',h3,rfl⟩:=qc e;unfold updD at h3
  split at h3
  case h_2=>cases h3
  rename_i ks vs;obtain⟨ns,h4,h3⟩:=qa h3;obtain⟨ms,h5,h3⟩:=qa h3
  split at h3
  case isFalse=>cases h3
  rename_i hcap;cases h3;have hod:=Yom h1;obtain⟨a0,kx0,vx0,ha0,_,_,dc0,rk0,_⟩:=s.od i _ _ _ hod;obtain⟨q1,_,_,_⟩:=Ynp h4 dc0 rk0;refine⟨_,ha0,.inr (.inr (.inl ⟨rfl,.inl ⟨_,q1⟩⟩)),tOf.at h2 s λv H1 G1 g1 r1 s1=>?_⟩;obtain⟨a,kxs,vxs,ha,hG,hH0,dc,rk,rv⟩:=s1.od i _ _ _ hod;rw[ha0]at ha;cases ha;obtain⟨e1,e2,e3,e4⟩:=Ynp h4 dc rk;rw[Rp]at r1;obtain⟨b,kx2,vx2,rfl,dc2,rk2,rv2⟩:=r1;obtain⟨f1,f2,f3,f4⟩:=Ynp h5 dc2 rk2
  have hne:a0≠b:=λz=>by grind
  have hl1:=rv.length;have hl2:=rv2.length;obtain⟨vx',k1,k2,k3,k4⟩:=Yiw (y73 f3 rv2) e2 e3 rv;refine⟨a0,b,zK ns vxs,ms,vx2,rfl,rfl,hne,e1,s1.seen _ _ f1,f3,by rw[y1j _ _ e3];lia,?_⟩
  exact h σ _ G1 (s1.mutd hod ha0 (kxs:=(dctG ns l.2 (ms.zip vs)).1.map V.int) (vxs:=vx') (y1k (by rw[<-k1];exact Yu) k2 k3) (.ints _) k4)⟩
@[simp] theorem y2t(i:Nat):sUpd i f ρ=(Yku i ρ).bind λl=>(f ρ).bind λd=>(updD l d).map λl'=>.nx (ρ.set i (some (.od false l'.1 l'.2))):=nr1 rfl
end
end
section
open Sem (wp)
variable {K:W7}
end
section
structure FunE(K:W7)(x:Str)(st:Stmt)(f:Addr)(fd:FuncData)(T:Addr)(t:Tok):Prop where
 ex:∃(oc:Value) (od:Option Addr) (kV doc pm:Value) (an:Option Addr) (cdv ct:Value) (osl:Array (Option Value)),
  fd=W.fnOf x x (aLc st) (aKc st) (aIc st) (.ref T) kV doc pm an cdv ct/\K.lookup f=some ⟨oc,od,.func fd,osl⟩/\W.codeIn K cdv x=true
 kp:W.keepIn K (.ref f)=true
 df:∃(oc:Value) (od:Option Addr) (n:Nat) (osl:Array (Option Value)),K.lookup T=some ⟨oc,od,.seq #[.int 0 t] n,osl⟩
def Okd(P:P7)(w:World)(K:W7)(mg:AE)(base:Heap)(k n:Nat)(x:Str)(ps:AL)(fn:AR->Option D):Prop:=
 ∃a fd t,FnOk P w K mg base CX0 k a fd ps (spOf K (n+1) fn)/\Binds K fd ps [.int 0 t]/\W.keepIn K (.ref a)=true/\mg x=some (.ref a)
section
variable {P:P7}{w:World}{K:W7}{mg:AE}{base:Heap}
theorem okdE{x:Str}{st:Stmt}{f:Addr}{fd:FuncData}{T:Addr}{t:Tok}{N ps:AL}{k n m:Nat}{fb:AU}(F:FunE K x st f fd T t)(hg:mg x=some (.ref f))(S:aJc N ps (aIc st))(hn:N.length=n)(hm:ps.length=m+1)(hbd:∀(kV doc pm:Value) (an:Option Addr) (cdv ct:Value) (us:AD),us.length=m->∃c:Option (Array Value)->Sem (List (Str×Value)),bindArgs (W.fnOf x x (aLc st) (aKc st) (aIc st) (.ref T) kV doc pm an cdv ct) ⟨us,[]⟩=seqItems? (.ref T)>>=c/\c (some #[.int 0 t])=pure (ps.zip (us++[.int 0 t])))(hb:∀(cdv:Value) (A:Around) (outer:List Env) (s:Shared) (H:Hp) (E:XK),Room k (A.deeper (envOfC x (aIc st) (~~~s) f cdv))->ZB (cxOf CX0 P w K mg base N x (aIc st) f cdv A outer s H E).nox (aKc st) fb):Okd P w K mg base (k+1) m x ps (runB (m+1) n fb):=by
 obtain⟨oc,od,kV,doc,pm,an,cdv,ct,osl,rfl,lk,hcd⟩:=F.ex;refine⟨f,_,t,Yacf lk hcd S (λvs H Q E h=>by rw[h.1,hm]) λA outer s H vs Q E hr h=>?_,λs us hK hl=>?_,F.kp,hg⟩
 ·obtain⟨hl,ds,d,G,sm,r,e,q⟩:=h
  refine⟨_,((hb cdv A outer s H E hr).un).nox,?_⟩;unfold runB at e
  split at e
  ·rename_i hds
   obtain⟨o,h1,h2⟩:=qa e;refine⟨Yr n ds,o,H,G,G,h1,by rw[<-hn];exact SR.start sm r,?_⟩
   cases o with
   | rt d'=>cases h2;exact λv H' G' g r'=>q v H' G' g r'
   | nx ρ=>cases h2;exact λσ' H' G' s'=>q .non H' G' s'.gr (by rw[Rp])
   | bk ρ=>cases h2
   | ct ρ=>cases h2
  ·cases e
 ·rw[hm,qx,jc]at hl
  obtain⟨_,_,_,_,ho⟩:=F.df;obtain⟨c,h1,h2⟩:=hbd kV doc pm an cdv ct us (by lia);exact BindsTo.of_defaults (T:=T) rfl (hK _ _ ho) rfl h1 h2
end
def gD(ga:AY):AY:=λρ=>(ga ρ).map (·++[.int 0])
@[simp] theorem ap_gD(ga:AY)(ρ:Ro):gD ga ρ=(ga ρ).map (·++[.int 0]):=nr1 rfl
section
variable {X:Cx}{e:Expr}{es:AM}{ga:AY}{pos:Pos}
theorem y2u{j k n:Nat}{x:Str}{p:Pos}{ps:AL}{fn:AR->Option D}(c:Okd X.prog X.w X.K X.mg X.base j n x ps fn)(hr:Room k X.A)(hg:Gl X x)(ha:ZA X (e::es) ga)(hl:∀ρ l,ga ρ=some l->l.length=n)(hj:j<=k:=by first|exact qu _|lia)(hdb:Ndb x:=by decide)(he:starEach (e::es) X.env=(false,eval e X.env)::starEach es X.env:=by rfl)(hpl:(backTo pos (starEach es X.env)).any (·.1)=false:=by rfl):ZE X (.Call (.Name x p) (e::es) [] pos) (cC (gD ga) fn):=by
 obtain⟨a,fd,t,F,hb,hk,hm⟩:=c;refine⟨PE.imp (Yz2 (E:=E0) F (hr.mono hj) hg hm hk hb (.cons ⟨t,rfl⟩ .nil:Vals [V.int 0] _) Yacr ha.un hdb he hpl) λσ H Q hx_=>?_⟩;obtain⟨ρ,d,H0,G0,G,e,s,h⟩:=hx_;unfold cC gD at e;obtain⟨l',h1,h2⟩:=qa e;obtain⟨l,h0,rfl⟩:=qc h1;refine tAof.at h0 s λvs H1 G1 g1 r1 s1=>?_;exact⟨by rw[qx,r1.length,hl ρ l h0];rfl,l++[.int 0],d,G1,s1.seen,r1.append (.cons (by rw[Rp]) .nil),h2,λv H' G' g2 r2=>h v H' G' (g1.trans g2) r2⟩
end
end
section
end
section
variable {K:W7}
section
variable {X:Cx}{e:Expr}{f:AX}{pos:Pos}
def dctF(f:AX):AX:=λρ=>((f ρ).bind pairsOf).bind λps=>if ps.length<cap6 then some (.dct false ((dctG [] [] ps).1.map D.int) (dctG [] [] ps).2)else none
@[simp] theorem ap_dctF:dctF f ρ=((f ρ).bind pairsOf).bind λps=>if ps.length<cap6 then some (.dct false ((dctG [] [] ps).1.map D.int) (dctG [] [] ps).2)else none:=nr1 rfl
end
end
section
section
variable {X:Cx}{e:Expr}{f:AX}{pos:Pos}
theorem y2v(hc:X.calm=true){p2 cpos:Pos}(hg:Gl X "dict")(hm:X.mg "dict"=none)(ha:ZC X e f)(hst:starEach [e] X.env=[(false,eval e X.env)]:=by rfl)(hpl:(backTo cpos (starEach [] X.env)).any (·.1)=false:=by rfl):
 ZE X (.Call (.Name "dict" p2) [e] [] cpos) (dctF f):=⟨have ha:=ha.un;
 PE.imp (Yd9 (Yoo hc) hg hm (by decide +kernel) (Yfm ha Yh5 hst) (by decide) (by decide) hst hpl) λσ H Q hx_=>by
  obtain⟨ρ,out,H0,G0,G,e,s,h⟩:=hx_;unfold dctF at e;obtain⟨ps,h1,e⟩:=qa e;obtain⟨d,h2,h3⟩:=qa h1
  split at e
  case isFalse=>cases e
  rename_i hcap;cases e;refine tCAof.at (show Yg f aNil ρ=some [d] by simp_all) s λvs H1 G1 g1 r1 s1=>?_;obtain⟨v,rfl,rv⟩:=Yc5 r1
  cases d with
  | lst l=>
    rw[Ct]at rv;obtain⟨a,xs,rfl,hq,rl⟩:=rv;obtain⟨qs,h4,h5⟩:=Ymh s1.seen (show Ydw l=some ps from h3) rl;refine⟨a,xs,qs,rfl,.inl hq,h4,by rw[h5.length];exact hcap,λp hp=>?_⟩;obtain⟨vx',k1,k2,k3,k4⟩:=Yiw (ns:=[]) (ds:=[]) (vxs:=[]) h5 List.nodup_nil rfl .nil;have gn:=Gr.new (p:=p) s1.seen hp (.dK (Yfa [] qs));refine h _ _ _ (g1.trans gn) ?_;rw[Rp];exact⟨p,(dctG [] [] ps).1.map V.int,vx',rfl,y1k (by rw[<-k1];exact Yu) k2 k3,.ints _,k4.mono gn.g⟩
  | _=>cases h3⟩
end
end
section
variable {K:W7}
end
section
end
end M
namespace Lw
open PySem PySem.Spec PyProof.Rows L2 M
def top(i:Nat):Stmt:=PySem.Challenge.pw_duskbook_k66_whole_places_changed.main.body.getD i (.Pass ⟨0,0,0,0⟩)
def gt_EXCHANGED_KINDS:List (Str×Str):=[((Str.ofString "eithers"),(Str.ofString "eithers")),((Str.ofString "sums"),(Str.ofString "sums")),((Str.ofString "ifs"),(Str.ofString "nots")),((Str.ofString "nots"),(Str.ofString "ifs"))]
set_option maxHeartbeats 4000000
def Fq(K:W7)(mg:AE)(x:Str)(i:Nat):Prop:=∃a fd,Fun K x x (top i) a fd/\mg x=some (.ref a)
def Fk(K:W7)(x:Str)(i:Nat):Prop:=∃a fd,W.nsIn K mainGlobals x=some (some (.ref a))/\Fun K x x (top i) a fd
def Fk.on{K:W7}(F:Fk K x i)(X:K.In h)(G:h.Ns mainGlobals mg):Fq K mg x i:=by
 obtain⟨a,fd,n,f⟩:=F;exact⟨a,fd,f,W.mg_of X G n⟩
def fk_mk{K:W7}{kV doc pm cdv ct:Value}(a:W.nsIn K mainGlobals x=some (some (.ref f)))(l:K.lookup f=some ⟨oc,od,.func (W.fnOf x x (aLc (top i)) (aKc (top i)) (aIc (top i)) .none kV doc pm an cdv ct),osl⟩)(c:W.codeIn K cdv x=true)(k:W.keepIn K (.ref f)=true):Fk K x i:=⟨_,_,a,y7h l c k⟩
def FqD(K:W7)(mg:AE)(x:Str)(i:Nat):Prop:=∃a fd T t,FunE K x (top i) a fd T t/\mg x=some (.ref a)
def FkD(K:W7)(x:Str)(i:Nat):Prop:=∃a fd T t,W.nsIn K mainGlobals x=some (some (.ref a))/\FunE K x (top i) a fd T t
def FkD.on{K:W7}(F:FkD K x i)(X:K.In h)(G:h.Ns mainGlobals mg):FqD K mg x i:=by
 obtain⟨a,fd,T,t,n,f⟩:=F;exact⟨a,fd,T,t,f,W.mg_of X G n⟩
def fkd_mk{K:W7}{x:Str}{i:Nat}{f T:Addr}{oc oc':Value}{od od' an:Option Addr}{osl osl':Array (Option Value)}{kV doc pm cdv ct:Value}{t:Tok}{n:Nat}(a:W.nsIn K mainGlobals x=some (some (.ref f)))(l:K.lookup f=some ⟨oc,od,.func (W.fnOf x x (aLc (top i)) (aKc (top i)) (aIc (top i)) (.ref T) kV doc pm an cdv ct),osl⟩)(c:W.codeIn K cdv x=true)(k:W.keepIn K (.ref f)=true)(t:K.lookup T=some ⟨oc',od',.seq #[.int 0 t] n,osl'⟩):FkD K x i:=⟨_,_,_,_,a,⟨_,_,_,_,_,_,_,_,_,rfl,l,c⟩,k,_,_,_,_,t⟩
def fns{N ps:AL}{sc:Scope}(a:sc.kind=.function:=by rfl)(b:sc.isCoroutine=false:=by rfl)(c:sc.isGenerator=false:=by rfl)(d:N.Nodup:=by decide +kernel)(e:N.take ps.length=ps:=by rfl)(f:∀x∈ps,sc.names.lookup x=some .local\/sc.names.lookup x=some .cell:=by decide +kernel)(g:∀y∈sc.names,y.2≠.free:=by decide +kernel):aJc N ps sc:=⟨a,b,c,d,e,f,g⟩
def Bnd(x:Str)(i:Nat)(ps:AL):Prop:=∀(kV doc pm:Value) (an:Option Addr) (cdv ct:Value) (us:AD),us.length=ps.length->bindArgs (W.fnOf x x (aLc (top i)) (aKc (top i)) (aIc (top i)) .none kV doc pm an cdv ct) ⟨us,[]⟩=pure (ps.zip us)
def okfn{K:W7}{i k n m:Nat}(F:Fq K mg x i)(S:aJc N ps (aIc (top i)))(hb:∀{f:Addr}{cdv:Value}{A:Around}{outer:List Env}{s:Shared}{H:Hp}{E:XK},Room k (A.deeper (envOfC x (aIc (top i)) (~~~s) f cdv))->ZB (cxOf CX0 P w K mg base N x (aIc (top i)) f cdv A outer s H E).nox (aKc (top i)) fb)(hn:N.length=n:=by rfl)(hm:ps.length=m:=by rfl)(B:Bnd x i ps:=by(intro _ _ _ _ _ _ us hl;first|(obtain⟨_,rfl⟩:=len1 hl;rfl)|(obtain⟨_,_,rfl⟩:=len2 hl;rfl)|(obtain⟨_,_,_,rfl⟩:=len3 hl;rfl)|(obtain⟨_,_,_,_,rfl⟩:=len4 hl;rfl)|(obtain⟨_,_,_,_,_,rfl⟩:=len5 hl;rfl)|(obtain⟨_,_,_,_,_,_,rfl⟩:=len6 hl;rfl)|(obtain⟨_,_,_,_,_,_,_,rfl⟩:=len7 hl;rfl))):Okf P w K mg base (k+1) m x ps (runB m n fb):=by
 obtain⟨a,fd,f,h⟩:=F;exact Yadp f (f.binds B) h (Yos (k:=k) f S hn hm λ_ _ _ _ _ _ hr=>hb hr)
def Yagt{K:W7}(F:FqD K mg "outcome" i)(S:aJc N ["book","hands","start"] (aIc (top i)))(hb:∀{f:Addr}{cdv:Value}{A:Around}{outer:List Env}{s:Shared}{H:Hp}{E:XK},Room k (A.deeper (envOfC "outcome" (aIc (top i)) (~~~s) f cdv))->ZB (cxOf CX0 P w K mg base N "outcome" (aIc (top i)) f cdv A outer s H E).nox (aKc (top i)) fb)(hn:N.length=n:=by rfl)(hB:i=58:=by rfl):Okd P w K mg base (k+1) 2 "outcome" ["book","hands","start"] (runB 3 n fb):=by
 subst hB;obtain⟨a,fd,T,t,f,h⟩:=F;refine okdE f h S hn rfl (λ_ _ _ _ _ _ us hl=>?_) λ_ _ _ _ _ _ hr=>hb hr;obtain⟨_,_,rfl⟩:=len2 hl;exact⟨_,rfl,rfl⟩
def aL1:∀ρ l,Yg f0 aNil ρ=some l->l.length=1:=Yiq λ_ _ h=>y5a h
def aL2:∀ρ l,Yg f0 (Yg f1 aNil) ρ=some l->l.length=2:=Yiq aL1
def aL3:∀ρ l,Yg f0 (Yg f1 (Yg f2 aNil)) ρ=some l->l.length=3:=Yiq aL2
def aL4:∀ρ l,Yg f0 (Yg f1 (Yg f2 (Yg f3 aNil))) ρ=some l->l.length=4:=Yiq aL3
structure Bl(K:W7)(w:World)(mg:AE):Prop where
 Len:mg "len"=none
 Range:mg "range"=none
 List:mg "list"=none
 Tuple:mg "tuple"=none
 Sorted:mg "sorted"=none
 Any:mg "any"=none
 All:mg "all"=none
 Isinstance:mg "isinstance"=none
 Enumerate:mg "enumerate"=none
 Reversed:mg "reversed"=none
 Set:mg "set"=none
 Max:mg "max"=none
 Min:mg "min"=none
 Dict:mg "dict"=none
 g_EXCHANGED_KINDS:GD K w mg "EXCHANGED_KINDS" gt_EXCHANGED_KINDS
 f1:Fq K mg "contrary" 1
 f2:Fq K mg "led_to" 2
 f3:Fq K mg "traced" 3
 f4:Fq K mg "ways_from" 4
 f7:Fq K mg "exchanged_rule" 7
 f8:Fq K mg "exchanged" 8
 f10:Fq K mg "beacons_with" 10
 f12:Fq K mg "both_added" 12
 f13:Fq K mg "pairs_added" 13
 f14:Fq K mg "cleared" 14
 f15:Fq K mg "reduced" 15
 f17:Fq K mg "either_holds" 17
 f18:Fq K mg "sum_holds" 18
 f19:Fq K mg "if_holds" 19
 f20:Fq K mg "rule_holds" 20
 f21:Fq K mg "beacons_in" 21
 f22:Fq K mg "is_void" 22
 f23:Fq K mg "without" 23
 f25:Fq K mg "is_place" 25
 f26:Fq K mg "body_is_known" 26
 f27:Fq K mg "is_step" 27
 f28:Fq K mg "step_to_more" 28
 f29:Fq K mg "derived_in_full" 29
 f31:Fq K mg "is_broken" 31
 f33:Fq K mg "sayings_of" 33
 f34:Fq K mg "lead_to_one_another" 34
 f35:Fq K mg "clash_found" 35
 f36:Fq K mg "cross_found" 36
 f37:Fq K mg "late_found" 37
 f38:Fq K mg "storms_paper" 38
 f39:Fq K mg "free_saying" 39
 f40:Fq K mg "truths_made" 40
 f41:Fq K mg "plan_row" 41
 f42:Fq K mg "either_outcome" 42
 f44:Fq K mg "replaced" 44
 f45:Fq K mg "ahead_of" 45
 f47:Fq K mg "places_to_none" 47
 f48:Fq K mg "places_to_beacon" 48
 f49:Fq K mg "some_of" 49
 f50:Fq K mg "facts_beside" 50
 f51:Fq K mg "if_outcome" 51
 f53:Fq K mg "last_beacon" 53
 f54:Fq K mg "storms_places" 54
 f55:Fq K mg "sum_rows" 55
 f56:Fq K mg "sum_outcome" 56
 f58:FqD K mg "outcome" 58
 f60:Fq K mg "_law_cell" 60
 f61:Fq K mg "_law_mixed" 61
 f62:Fq K mg "_law_hands" 62
 f64:Fq K mg "_law_rule" 64
 f65:Fq K mg "_law_moved" 65
 f66:Fq K mg "_law_changed" 66
 f67:Fq K mg "_law_hand" 67
section
variable {P:P7}{w:World}{K:W7}{mg:AE}{base:Heap}
def Yu4:aJc ["saying"] ["saying"] (aIc (top 1)):=fns
def Yoz:AU:=(sRet (dTup (Yg (b2 (getC 0) (kD (.int 0)) ixD) (Yg (notV (b2 (getC 0) (kD (.int 1)) ixD)) aNil))))
def Ycj:AR->Option D:=runB 1 1 Yoz
def Yef(bl:Bl K w mg):Okf P w K mg base 1 1 "contrary" ["saying"] Ycj:=by
 refine okfn bl.f1 Yu4 λhr=>?_;exact(Ym (Yo (Yt (Yb (Yk (Yc 0) (Yd Yj)) (Yb (y1z (Yk (Yc 0) (Yd Yj))) Yh)))))
def aSb:aJc ["book","saying","against","led","rule","others"] ["book","saying"] (aIc (top 2)):=fns
def aTa:aMc ["book","saying","against","led","rule","others"] (aIc (top 2)) ["other","against"] [none,some 2] (fsc [(".0",.local),("other",.local),("against",.free)]):=Yab (by decide +kernel)
def Yid:AW:=(b2 (getC 0) (getC 1) (eqM true))
def Yie:AX:=(getV 0)
def Yeg:AU:=(sIf (b2 (getC 2) (getC 4) (inM false)) (sSeq (sOwn 5 (Ybb (b1 (getV 4) Yn) [none,some 2] (gSet 0) (Yid) (Yie))) (sMut 3 (ifV (b1 (getC 5) truD) (b2 (getC 5) (kD (.int 0)) ixD) (getV 2)) appD)) sNil)
@[simp] def Yyy:AU:=(wF [3] (sRet (getV 3)))
@[simp] def Yyz:AU:=(sSeq (sFor (b1 (b2 (getC 0) (kD (.int 1)) ixD) Yn) (gSet 4) Yeg) Yyy)
@[simp] def Yy0:AU:=(sSeq (sOwn 3 (dLst aNil)) Yyz)
def Yw8:AU:=(sSeq (sSet 2 (cC (Yg (getV 1) aNil) Ycj)) Yy0)
def Yli:AR->Option D:=runB 2 6 Yw8
def y2w(bl:Bl K w mg):Okf P w K mg base 2 2 "led_to" ["book","saying"] Yli:=by
 refine okfn bl.f2 aSb λhr=>?_;exact(Yi (Yv 2 aSb.nd (Yl (Yef bl) hr rfl (Yb (Ye 1) Yh) aL1)) (Yi (Yfq 3 aSb.nd (Ycq Yh)) (Yi (Ybh jf rfl (Yae (Yk (Yc 0) (Yd Yj))) (Yw 4 aSb.nd) (Ym (Yah (y1w hr.units (Yc 2) (Yc 4)) (Yi (Yfr 5 aSb.nd aTa rfl (Yae (Ye 4)) (λ_ _ _ _ _=>(Yw 0 aTa.nd)) (λ_ _ _ _ _=>(Yer (Yor hr.units (Yc 0) (Yc 1)))) (λ_ _ _ _ _=>(Ye 0)) (Yan (i:=0) rfl)) (Ym (Yd5 3 (Yw1 (Yb4 (Yc 5)) (Yk (Yc 5) (Yd Yj)) (Ye 2))))) Yac))) (Ym (Ycf [3] (Yo (Ye 3)))))))
def aFc:aJc ["ahead","last","road","saying"] ["ahead","last"] (aIc (top 3)):=fns
def Yfv:AU:=(sSeq (sMut 2 (getV 3) appD) (sSet 3 (b2 (getC 0) (getC 3) getT)))
@[simp] def Yy1:AU:=(sRet (λρ=>(revF (getC 2) ρ).map D.tup))
@[simp] def Yy2:AU:=(sSeq (Ybt (b2 (getC 3) (kD .non) (isN true)) Yfv 4000) Yy1)
@[simp] def Yy3:AU:=(sSeq (sSet 3 (getV 1)) Yy2)
def Yw9:AU:=(sSeq (sOwn 2 (dLst aNil)) Yy3)
def Yes:AR->Option D:=runB 2 4 Yw9
def Ygo(bl:Bl K w mg):Okf P w K mg base 1 2 "traced" ["ahead","last"] Yes:=by
 refine okfn bl.f3 aFc λhr=>?_;exact(Yi (Yfq 2 aFc.nd (Ycq Yh)) (Yi (Yv 3 aFc.nd (Ye 1)) (Yi (Yiy 4000 jf (Yeq (Yc 3) (Yd Yar)) (Yi (Yd5 2 (Ye 3)) (Ym (Yv 3 aFc.nd (Yb7 hr.units (Yc 0) (Yc 3)))))) (Ym (Yo (Yyr rfl rfl bl.Tuple rfl bl.Reversed (Yc 2)))))))
def aHc:aJc ["book","saying","ahead","reached","place","led"] ["book","saying"] (aIc (top 4)):=fns
def Ybn:AU:=(sIf (b2 (getC 5) (getC 2) (hasT true)) (sSeq (sPut 2 (getC 5) (b2 (getC 3) (getC 4) ixD)) (sMut 3 (getV 5) appD)) sNil)
def Yb5:AU:=(sSeq (sFor (b1 (cC (Yg (getV 0) (Yg (b2 (getC 3) (getC 4) ixD) aNil)) Yli) Yn) (gSet 5) Ybn) (sInc 4 (kD (.int 1))))
@[simp] def Yi3:AU:=(wF [2] (sRet (getV 2)))
@[simp] def Yqd:AU:=(sSeq (Ybt (b2 (getC 4) (cC (Yg (getC 3) aNil) lenC) ltI) Yb5 4000) Yi3)
@[simp] def Yqe:AU:=(sSeq (sSet 4 (kD (.int 0))) Yqd)
@[simp] def Yqf:AU:=(sSeq (sOwn 3 (dLst (Yg (getV 1) aNil))) Yqe)
def Ymo:AU:=(sSeq (y1g 2 (getV 1) (kD .non)) Yqf)
def Yda:AR->Option D:=runB 2 6 Ymo
def Ysr(bl:Bl K w mg):Okf P w K mg base 3 2 "ways_from" ["book","saying"] Yda:=by
 refine okfn bl.f4 aHc λhr=>?_;exact(Yi (y54 hr.units 2 aHc.nd (Ye 1) Yar) (Yi (Yfq 3 aHc.nd (Ycq (Yb (Ye 1) Yh))) (Yi (Yv 4 aHc.nd Yj) (Yi (Yiy 4000 jf (Ywz (Yc 4) (Yd (Yau Ya4 Yfn rfl bl.Len PySem.boot_len (Yq (Yc 3) Ys)))) (Yi (Ybh jf rfl (Yae (Yl (y2w bl) hr rfl (Yb (Ye 0) (Yb (Yk (Yc 3) (Yc 4)) Yh)) aL2)) (Yw 5 aHc.nd) (Ym (Yah (y52 hr.units (Yc 5) (Yc 2)) (Yi (y53 hr.units 2 (Yc 5) (Yk (Yc 3) (Yc 4))) (Ym (Yd5 3 (Ye 5)))) Yac))) (Ym (Yaak 4 aHc.nd (Yd Yj))))) (Ym (Ycf [2] (Yo (Ye 2))))))))
def Yj5:aJc ["kind","rule"] ["kind","rule"] (aIc (top 7)):=fns
def aJa:aMc ["kind","rule"] (aIc (top 7)) ["saying"] [none] (fsc [(".0",.local),("saying",.local),("contrary",.globalImplicit)]):=Yab (by decide +kernel)
def Ycg:AX:=(cC (Yg (getV 0) aNil) Ycj)
@[simp] def Yi4:AU:=(sRet (getV 1))
@[simp] def Yi5:AU:=(sSeq (sIf (b2 (getC 0) (kD (.str "sums")) (eqM false)) (sRet (dTup (Yg (b2 (getC 1) (kD (.int 0)) ixD) (Yg (mB (b2 (b2 (getC 1) (kD (.int 1)) ixD) (mB (b2 (b2 (cC (Yg (b2 (getC 1) (kD (.int 0)) ixD) aNil) lenC) (kD (.int 2)) modI) (kD (.int 1)) (eqM false))) (eqM true))) aNil)))) sNil) Yi4)
def Yb8:AU:=(sSeq (sIf (b2 (getC 0) (kD (.str "eithers")) (eqM false)) (sRet (cC (Yg (lF (cF (Yg (lF (Ybb (b1 (getV 1) Yn) [none] (gSet 0) tY (Ycg))) aNil) Yh7)) aNil) tupC)) sNil) Yi5)
def Yb9:AR->Option D:=runB 2 2 Yb8
def Yj6(bl:Bl K w mg):Okf P w K mg base 2 2 "exchanged_rule" ["kind","rule"] Yb9:=by
 refine okfn bl.f7 Yj5 λhr=>?_;exact(Yi (Yah (Ybx hr.units (Yc 0) (Yd Yx)) (Ym (Yo (Yai Yy Ybr rfl bl.Tuple boot_tuple (Yq (Yd (Yaf (Ycr Ybw Yce rfl bl.Sorted boot_sorted (Yq (Yd (Yaf (Yaq aJa rfl (Yae (Ye 1)) (λ_ _ _ _ _=>(Yw 0 aJa.nd)) (λ_ _ _ _ _=>Ya8) (λ_ _ _ _ _=>(Yl (Yef bl) hr rfl (Yb (Ye 0) Yh) aL1)) (Yan (i:=0) rfl)))) Ys)))) Ys)))) Yac) (Yi (Yah (Ybx hr.units (Yc 0) (Yd Yx)) (Ym (Yo (Yt (Yb (Yk (Yc 1) (Yd Yj)) (Yb (Yw0 hr.units (Yd (Yk (Yc 1) (Yd Yj))) (Yd (Yix hr.units (Yd (Ybc (Yd (Yau Ya4 Yfn rfl bl.Len PySem.boot_len (Yq (Yd (Yk (Yc 1) (Yd Yj))) Ys))) (Yd Yj))) (Yd Yj)))) Yh))))) Yac) (Ym (Yo (Ye 1)))))
def aIb:aJc ["book","kind"] ["book"] (aIc (top 8)):=fns
def aIa:aMc ["book","kind"] (aIc (top 8)) ["rule","kind"] [none,some 1] (fsc [(".0",.local),("rule",.local),("exchanged_rule",.globalImplicit),("kind",.free)]):=Yab (by decide +kernel)
def Ye1:AX:=(cC (Yg (getV 1) (Yg (getV 0) aNil)) Yb9)
def Ymp:AU:=(sSeq (sSet 1 (b2 (getC 0) (kD (.int 0)) ixD)) (sRet (dTup (Yg (b1 (getC 1) (y1d gt_EXCHANGED_KINDS)) (Yg (cC (Yg (lF (Ybb (b1 (b2 (getC 0) (kD (.int 1)) ixD) Yn) [none,some 1] (gSet 0) tY (Ye1))) aNil) tupC) aNil)))))
def Yeh:AR->Option D:=runB 1 2 Ymp
def Yss(bl:Bl K w mg):Okf P w K mg base 3 1 "exchanged" ["book"] Yeh:=by
 refine okfn bl.f8 aIb λhr=>?_;exact(Yi (Yv 1 aIb.nd (Yk (Yc 0) (Yd Yj))) (Ym (Yo (Yt (Yb (y16 bl.g_EXCHANGED_KINDS rfl (Yc 1)) (Yb (Yai Yy Ybr rfl bl.Tuple boot_tuple (Yq (Yd (Yaf (Yaq aIa rfl (Yae (Yk (Yc 0) (Yd Yj))) (λ_ _ _ _ _=>(Yw 0 aIa.nd)) (λ_ _ _ _ _=>Ya8) (λ_ _ _ _ _=>(Yl (Yj6 bl) hr rfl (Yb (Ye 1) (Yb (Ye 0) Yh)) aL2)) (Yan (i:=0) rfl)))) Ys)) Yh))))))
def Ymq:aJc ["hands","start","hand"] ["hands","start","hand"] (aIc (top 10)):=fns
def aCa:aMc ["hands","start","hand"] (aIc (top 10)) ["beacon","hands","hand"] [none,some 0,some 2] (fsc [(".0",.local),("beacon",.local),("hand",.free),("hands",.free)]):=Yab (by decide +kernel)
def Ydb:AW:=(b2 (b2 (getC 1) (getC 0) ixD) (getC 2) (eqM false))
def Ydc:AX:=(getV 0)
def Yht:AU:=(sRet (lF (Ybb (cF (Yg (getV 1) (Yg (cC (Yg (getC 0) aNil) lenC) aNil)) rng2) [none,some 0,some 2] (gSet 0) (Ydb) (Ydc))))
def Yat:AR->Option D:=runB 3 3 Yht
def Ybe(bl:Bl K w mg):Okf P w K mg base 1 3 "beacons_with" ["hands","start","hand"] Yat:=by
 refine okfn bl.f10 Ymq λhr=>?_;exact(Ym (Yo (Yaf (Yaq aCa rfl (Yyq rfl bl.Range (Yb (Ye 1) (Yb (Yau Ya4 Yfn rfl bl.Len PySem.boot_len (Yq (Yc 0) Ys)) Yh))) (λ_ _ _ _ _=>(Yw 0 aCa.nd)) (λ_ _ _ _ _=>(Yer (Ybx hr.units (Yd (Yk (Yc 1) (Yc 0))) (Yc 2)))) (λ_ _ _ _ _=>(Ye 0)) (Yan (i:=0) rfl)))))
def Yqg:aJc ["rule","other"] ["rule","other"] (aIc (top 12)):=fns
def Ykn:AU:=(sRet (dTup (Yg (cC (Yg (lF (Yj1 (b2 (getC 0) (kD (.int 0)) ixD) (b2 (getC 1) (kD (.int 0)) ixD))) aNil) tupC) (Yg (mB (b2 (b2 (getC 0) (kD (.int 1)) ixD) (b2 (getC 1) (kD (.int 1)) ixD) (eqM true))) aNil))))
def Yby:AR->Option D:=runB 2 2 Ykn
def Yi6(bl:Bl K w mg):Okf P w K mg base 1 2 "both_added" ["rule","other"] Yby:=by
 refine okfn bl.f12 Yqg λhr=>?_;exact(Ym (Yo (Yt (Yb (Yai Yy Ybr rfl bl.Tuple boot_tuple (Yq (Yd (Yaf (Yot rfl rfl bl.Sorted rfl bl.Set (Yd (Yk (Yc 0) (Yd Yj))) (Yd (Yk (Yc 1) (Yd Yj)))))) Ys)) (Yb (Yw0 hr.units (Yd (Yk (Yc 0) (Yd Yj))) (Yd (Yk (Yc 1) (Yd Yj)))) Yh)))))
def Ynq:aJc ["pair","other"] ["pair","other"] (aIc (top 13)):=fns
def Yi7:AU:=(sRet (dTup (Yg (cC (Yg (lF (Yj1 (b2 (getC 0) (kD (.int 0)) ixD) (b2 (getC 1) (kD (.int 0)) ixD))) aNil) tupC) (Yg (cC (Yg (b2 (getC 0) (kD (.int 1)) ixD) (Yg (b2 (getC 1) (kD (.int 1)) ixD) aNil)) Yby) aNil))))
def Ydz:AR->Option D:=runB 2 2 Yi7
def Ynr(bl:Bl K w mg):Okf P w K mg base 2 2 "pairs_added" ["pair","other"] Ydz:=by
 refine okfn bl.f13 Ynq λhr=>?_;exact(Ym (Yo (Yt (Yb (Yai Yy Ybr rfl bl.Tuple boot_tuple (Yq (Yd (Yaf (Yot rfl rfl bl.Sorted rfl bl.Set (Yd (Yk (Yc 0) (Yd Yj))) (Yd (Yk (Yc 1) (Yd Yj)))))) Ys)) (Yb (Yl (Yi6 bl) hr rfl (Yb (Yk (Yc 0) (Yd Yj)) (Yb (Yk (Yc 1) (Yd Yj)) Yh)) aL2) Yh)))))
def aEb:aJc ["pair","by_last","left"] ["pair","by_last"] (aIc (top 14)):=fns
def Ygp:AU:=(sSet 2 (cC (Yg (getV 2) (Yg (b2 (getC 1) (b2 (b2 (b2 (getC 2) (kD (.int 1)) ixD) (kD (.int 0)) ixD) (b1 (kD (.int 1)) negI) ixD) getI) aNil)) Ydz))
@[simp] def Yu5:AU:=(sRet (getV 2))
@[simp] def Yu6:AU:=(sSeq (Ybt (andT (b1 (b2 (b2 (getC 2) (kD (.int 1)) ixD) (kD (.int 0)) ixD) truD) (b2 (b2 (b2 (b2 (getC 2) (kD (.int 1)) ixD) (kD (.int 0)) ixD) (b1 (kD (.int 1)) negI) ixD) (getC 1) (hasN false))) Ygp 4000) Yu5)
def Yst:AU:=(sSeq (sSet 2 (getV 0)) Yu6)
def Yfe:AR->Option D:=runB 2 3 Yst
def Yy4(bl:Bl K w mg):Okf P w K mg base 3 2 "cleared" ["pair","by_last"] Yfe:=by
 refine okfn bl.f14 aEb λhr=>?_;exact(Yi (Yv 2 aEb.nd (Ye 0)) (Yi (Yiy 4000 jf (Ygm (Yib (Yb4 (Yd (Yk (Yd (Yk (Yc 2) (Yd Yj))) (Yd Yj)))) (Yfp (Yaan hr.units (Yd (Yk (Yd (Yk (Yd (Yk (Yc 2) (Yd Yj))) (Yd Yj))) (Yd (Yml (Yd Yj))))) (Yc 1))))) (Ym (Yv 2 aEb.nd (Yl (Ynr bl) hr rfl (Yb (Ye 2) (Yb (Ylg hr.units (Yc 1) (Yd (Yk (Yd (Yk (Yd (Yk (Yc 2) (Yd Yj))) (Yd Yj))) (Yd (Yml (Yd Yj)))))) Yh)) aL2)))) (Ym (Yo (Ye 2)))))
def aWb:aJc ["book","by_last","void","place","rule","pair","beacons"] ["book"] (aIc (top 15)):=fns
def aVa:aMc ["book","by_last","void","place","rule","pair","beacons"] (aIc (top 15)) ["last","by_last"] [none,some 1] (fsc [(".0",.local),("last",.local),("by_last",.free)]):=Yab (by decide +kernel)
def Ydl:AU:=(sSeq (sSet 5 (Yno [1] (cC (Yg (dTup (Yg (dTup (Yg (getV 3) aNil)) (Yg (getV 4) aNil))) (Yg (getV 1) aNil)) Yfe))) (sSeq (sSet 6 (b2 (b2 (getC 5) (kD (.int 1)) ixD) (kD (.int 0)) ixD)) (sIf (b1 (getC 6) truD) (Yus 1 (b2 (getC 6) (b1 (kD (.int 1)) negI) ixD) (getV 5)) (sIf (andT (b1 (b2 (b2 (getC 5) (kD (.int 1)) ixD) (kD (.int 1)) ixD) truD) (b2 (getC 2) (kD .non) (isN false))) (sSet 2 (b2 (getC 5) (kD (.int 0)) ixD)) sNil))))
def Ygq:AX:=(b2 (getC 1) (getC 0) getI)
@[simp] def Ymr:AU:=(wF [1] (sRet (dTup (Yg (lF (Ybb (b1 (lF (cF (Yg (getC 1) aNil) Yh9)) Yn) [none,some 1] (gSet 0) tY (Ygq))) (Yg (getV 2) aNil)))))
@[simp] def Yms:AU:=(sSeq (sFor (b1 (b2 (getC 0) (kD (.int 1)) ixD) Yl8) (Ypp 3 4) Ydl) Ymr)
@[simp] def Ymt:AU:=(sSeq (sSet 2 (kD .non)) Yms)
def Ysu:AU:=(sSeq (Yuq 1) Ymt)
def Ygr:AR->Option D:=runB 1 7 Ysu
def Yy5(bl:Bl K w mg):Okf P w K mg base 4 1 "reduced" ["book"] Ygr:=by
 refine okfn bl.f15 aWb λhr=>?_;exact(Yi (Yp7 1 aWb.nd) (Yi (Yv 2 aWb.nd Yar) (Yi (Ybh jf rfl (Yfs rfl bl.Enumerate (Yk (Yc 0) (Yd Yj))) (Yp6 3 4 rfl aWb.nd) (Yi (Yv 5 aWb.nd (Ysl [1] (Yl (Yy4 bl) hr rfl (Yb (Yt (Yb (Yt (Yb (Ye 3) Yh)) (Yb (Ye 4) Yh))) (Yb (Ye 1) Yh)) aL2))) (Yi (Yv 6 aWb.nd (Yk (Yd (Yk (Yc 5) (Yd Yj))) (Yd Yj))) (Ym (Yah (Yb4 (Yc 6)) (Ym (Yp8 hr.units 1 (Yd (Yk (Yc 6) (Yd (Yml (Yd Yj))))) (Ye 5))) (Ym (Yah (Ygm (Yib (Yb4 (Yd (Yk (Yd (Yk (Yc 5) (Yd Yj))) (Yd Yj)))) (Yfp (Yp5 (Yc 2) (Yd Yar))))) (Ym (Yv 2 aWb.nd (Yk (Yc 5) (Yd Yj)))) Yac))))))) (Ym (Ycf [1] (Yo (Yt (Yb (Yaf (Yaq aVa rfl (Yae (Yaf (Ycr (Ymd rfl) Yon rfl bl.Sorted boot_sorted (Yq (Yc 1) Ys)))) (λ_ _ _ _ _=>(Yw 0 aVa.nd)) (λ_ _ _ _ _=>Ya8) (λ_ _ _ _ _=>(Ylg hr.units (Yc 1) (Yc 0))) (Yan (i:=0) rfl))) (Yb (Ye 2) Yh)))))))))
def Ymu:aJc ["rule","evening"] ["rule","evening"] (aIc (top 17)):=fns
def aFa:aMc ["rule","evening"] (aIc (top 17)) ["saying","evening"] [none,some 1] (fsc [(".0",.local),("saying",.local),("evening",.free)]):=Yab (by decide +kernel)
def Ydd:AX:=(mB (b2 (b2 (getC 1) (b2 (getC 0) (kD (.int 0)) ixD) ixD) (b2 (getC 0) (kD (.int 1)) ixD) (eqM false)))
def Yhu:AU:=(sRet (cC (Yg (lF (Ybb (b1 (getV 0) Yn) [none,some 1] (gSet 0) tY (Ydd))) aNil) anyC))
def Ydh:AR->Option D:=runB 2 2 Yhu
def Ymv(bl:Bl K w mg):Okf P w K mg base 1 2 "either_holds" ["rule","evening"] Ydh:=by
 refine okfn bl.f17 Ymu λhr=>?_;exact(Ym (Yo (Yau (Yl4 rfl) Yul rfl bl.Any boot_any (Yq (Yd (Yaf (Yaq aFa rfl (Yae (Ye 0)) (λ_ _ _ _ _=>(Yw 0 aFa.nd)) (λ_ _ _ _ _=>Ya8) (λ_ _ _ _ _=>(Yix hr.units (Yd (Yk (Yc 1) (Yd (Yk (Yc 0) (Yd Yj))))) (Yd (Yk (Yc 0) (Yd Yj))))) (Yan (i:=0) rfl)))) Ys))))
def aCc:aJc ["rule","evening","lit_ones"] ["rule","evening"] (aIc (top 18)):=fns
def aZa:aMc ["rule","evening","lit_ones"] (aIc (top 18)) ["beacon","evening"] [none,some 1] (fsc [(".0",.local),("beacon",.local),("evening",.free)]):=Yab (by decide +kernel)
def Ye2:AW:=(b1 (b2 (getC 1) (getC 0) ixD) truD)
def Ye3:AX:=(getV 0)
def Ymw:AU:=(sSeq (sOwn 2 (Ybb (b1 (b2 (getC 0) (kD (.int 0)) ixD) Yn) [none,some 1] (gSet 0) (Ye2) (Ye3))) (sRet (mB (b2 (mB (b2 (b2 (cC (Yg (getC 2) aNil) lenC) (kD (.int 2)) modI) (kD (.int 1)) (eqM false))) (b2 (getC 0) (kD (.int 1)) ixD) (eqM false)))))
def Yfw:AR->Option D:=runB 2 3 Ymw
def Ysv(bl:Bl K w mg):Okf P w K mg base 1 2 "sum_holds" ["rule","evening"] Yfw:=by
 refine okfn bl.f18 aCc λhr=>?_;exact(Yi (Yfr 2 aCc.nd aZa rfl (Yae (Yk (Yc 0) (Yd Yj))) (λ_ _ _ _ _=>(Yw 0 aZa.nd)) (λ_ _ _ _ _=>(Yer (Yb4 (Yd (Yk (Yc 1) (Yc 0)))))) (λ_ _ _ _ _=>(Ye 0)) (Yan (i:=0) rfl)) (Ym (Yo (Yix hr.units (Yd (Yix hr.units (Yd (Ybc (Yd (Yau Ya4 Yfn rfl bl.Len PySem.boot_len (Yq (Yc 2) Ys))) (Yd Yj))) (Yd Yj))) (Yd (Yk (Yc 0) (Yd Yj)))))))
def Yu7:aJc ["rule","evening","lit"] ["rule","evening","lit"] (aIc (top 19)):=fns
def aKa:aMc ["rule","evening","lit"] (aIc (top 19)) ["beacon","evening","lit"] [none,some 1,some 2] (fsc [(".0",.local),("beacon",.local),("evening",.free),("lit",.free)]):=Yab (by decide +kernel)
def Yfx:AX:=(mB (b2 (b2 (getC 1) (getC 0) ixD) (getC 2) (eqM true)))
def Yha:AU:=(sSeq (sIf (b1 (cC (Yg (lF (Ybb (b1 (b2 (getC 0) (kD (.int 0)) ixD) Yn) [none,some 1,some 2] (gSet 0) tY (Yfx))) aNil) anyC) truD) (sRet (kD (.bl true))) sNil) (sRet (andV (mB (b2 (b2 (getC 0) (kD (.int 1)) ixD) (kD .non) (isN true))) (mB (b2 (b2 (getC 1) (b2 (getC 0) (kD (.int 1)) ixD) ixD) (getC 2) (eqM false))))))
def Yhb:AR->Option D:=runB 3 3 Yha
def Yu8(bl:Bl K w mg):Okf P w K mg base 1 3 "if_holds" ["rule","evening","lit"] Yhb:=by
 refine okfn bl.f19 Yu7 λhr=>?_;exact(Yi (Yah (Yb4 (Yd (Yau (Yl4 rfl) Yul rfl bl.Any boot_any (Yq (Yd (Yaf (Yaq aKa rfl (Yae (Yk (Yc 0) (Yd Yj))) (λ_ _ _ _ _=>(Yw 0 aKa.nd)) (λ_ _ _ _ _=>Ya8) (λ_ _ _ _ _=>(Yw0 hr.units (Yd (Yk (Yc 1) (Yc 0))) (Yc 2))) (Yan (i:=0) rfl)))) Ys)))) (Ym (Yo Yee)) Yac) (Ym (Yo (Yp4 (Yw2 (Yd (Yk (Yc 0) (Yd Yj))) (Yd Yar)) (Ylf (Yix hr.units (Yd (Yk (Yc 1) (Yd (Yk (Yc 0) (Yd Yj))))) (Yc 2)))))))
def Yqh:aJc ["kind","rule","evening"] ["kind","rule","evening"] (aIc (top 20)):=fns
@[simp] def Yns:AU:=(sRet (cC (Yg (getV 1) (Yg (getV 2) (Yg (mB (b2 (getC 0) (kD (.str "ifs")) (eqM false))) aNil))) Yhb))
@[simp] def Ynt:AU:=(sSeq (sIf (b2 (getC 0) (kD (.str "sums")) (eqM false)) (sRet (cC (Yg (getV 1) (Yg (getV 2) aNil)) Yfw)) sNil) Yns)
def Ydm:AU:=(sSeq (sIf (b2 (getC 0) (kD (.str "eithers")) (eqM false)) (sRet (cC (Yg (getV 1) (Yg (getV 2) aNil)) Ydh)) sNil) Ynt)
def Yet:AR->Option D:=runB 3 3 Ydm
def Yqi(bl:Bl K w mg):Okf P w K mg base 2 3 "rule_holds" ["kind","rule","evening"] Yet:=by
 refine okfn bl.f20 Yqh λhr=>?_;exact(Yi (Yah (Ybx hr.units (Yc 0) (Yd Yx)) (Ym (Yo (Yl (Ymv bl) hr rfl (Yb (Ye 1) (Yb (Ye 2) Yh)) aL2))) Yac) (Yi (Yah (Ybx hr.units (Yc 0) (Yd Yx)) (Ym (Yo (Yl (Ysv bl) hr rfl (Yb (Ye 1) (Yb (Ye 2) Yh)) aL2))) Yac) (Ym (Yo (Yl (Yu8 bl) hr rfl (Yb (Ye 1) (Yb (Ye 2) (Yb (Yix hr.units (Yc 0) (Yd Yx)) Yh))) aL3)))))
def Yqj:aJc ["kind","rule"] ["kind","rule"] (aIc (top 21)):=fns
def aBa:aMc ["kind","rule"] (aIc (top 21)) ["saying"] [none] (fsc [(".0",.local),("saying",.local)]):=Yab (by decide +kernel)
def Yei:AX:=(b2 (getC 0) (kD (.int 0)) ixD)
@[simp] def Ynu:AU:=(sRet (lF (b2 (lF (cF (Yg (b2 (getC 1) (kD (.int 0)) ixD) aNil) Yx6)) (lF (dLst (Yg (b2 (getC 1) (kD (.int 1)) ixD) aNil))) catD)))
@[simp] def Ynv:AU:=(sSeq (sIf (orT (b2 (getC 0) (kD (.str "sums")) (eqM false)) (b2 (b2 (getC 1) (kD (.int 1)) ixD) (kD .non) (isN false))) (sRet (lF (cF (Yg (b2 (getC 1) (kD (.int 0)) ixD) aNil) Yx6))) sNil) Ynu)
def Ydn:AU:=(sSeq (sIf (b2 (getC 0) (kD (.str "eithers")) (eqM false)) (sRet (lF (Ybb (b1 (getV 1) Yn) [none] (gSet 0) tY (Yei)))) sNil) Ynv)
def Yeu:AR->Option D:=runB 2 2 Ydn
def Yqk(bl:Bl K w mg):Okf P w K mg base 1 2 "beacons_in" ["kind","rule"] Yeu:=by
 refine okfn bl.f21 Yqj λhr=>?_;exact(Yi (Yah (Ybx hr.units (Yc 0) (Yd Yx)) (Ym (Yo (Yaf (Yaq aBa rfl (Yae (Ye 1)) (λ_ _ _ _ _=>(Yw 0 aBa.nd)) (λ_ _ _ _ _=>Ya8) (λ_ _ _ _ _=>(Yk (Yc 0) (Yd Yj))) (Yan (i:=0) rfl))))) Yac) (Yi (Yah (Ygm (Ysk (Ybx hr.units (Yc 0) (Yd Yx)) (Yp3 (Yp5 (Yd (Yk (Yc 1) (Yd Yj))) (Yd Yar))))) (Ym (Yo (Yaf (Yfb Ygf Ypo rfl bl.List boot_list (Yq (Yd (Yk (Yc 1) (Yd Yj))) Ys))))) Yac) (Ym (Yo (Yaf (Yu0 (Yd (Yaf (Yfb Ygf Ypo rfl bl.List boot_list (Yq (Yd (Yk (Yc 1) (Yd Yj))) Ys)))) (Yd (Yaf (Ycq (Yb (Yk (Yc 1) (Yd Yj)) Yh))))))))))
def Yy6:aJc ["kind","rule"] ["kind","rule"] (aIc (top 22)):=fns
def Ymx:AU:=(sRet (andV (mB (b2 (cC (Yg (cC (Yg (getV 0) (Yg (getV 1) aNil)) Yeu) aNil) lenC) (kD (.int 0)) (eqM false))) (notV (cC (Yg (getV 0) (Yg (getV 1) (Yg (dTup aNil) aNil))) Yet))))
def Yi8:AR->Option D:=runB 2 2 Ymx
def Yy7(bl:Bl K w mg):Okf P w K mg base 3 2 "is_void" ["kind","rule"] Yi8:=by
 refine okfn bl.f22 Yy6 λhr=>?_;exact(Ym (Yo (Yp4 (Yix hr.units (Yd (Yau Ya4 Yfn rfl bl.Len PySem.boot_len (Yq (Yd (Yl (Yqk bl) hr rfl (Yb (Ye 0) (Yb (Ye 1) Yh)) aL2)) Ys))) (Yd Yj)) (Ylf (y1z (Yl (Yqi bl) hr rfl (Yb (Ye 0) (Yb (Ye 1) (Yb (Yt Yh) Yh))) aL3))))))
def Yy8:aJc ["beacons","beacon"] ["beacons","beacon"] (aIc (top 23)):=fns
def aCb:aMc ["beacons","beacon"] (aIc (top 23)) ["other","beacon"] [none,some 1] (fsc [(".0",.local),("other",.local),("beacon",.free)]):=Yab (by decide +kernel)
def Ygs:AW:=(b2 (getC 0) (getC 1) (eqM true))
def Ygt:AX:=(getV 0)
def Ysw:AU:=(sRet (cC (Yg (lF (Ybb (b1 (getV 0) Yn) [none,some 1] (gSet 0) (Ygs) (Ygt))) aNil) tupC))
def Yi9:AR->Option D:=runB 2 2 Ysw
def Yy9(bl:Bl K w mg):Okf P w K mg base 1 2 "without" ["beacons","beacon"] Yi9:=by
 refine okfn bl.f23 Yy8 λhr=>?_;exact(Ym (Yo (Yai Yy Ybr rfl bl.Tuple boot_tuple (Yq (Yd (Yaf (Yaq aCb rfl (Yae (Ye 0)) (λ_ _ _ _ _=>(Yw 0 aCb.nd)) (λ_ _ _ _ _=>(Yer (Yor hr.units (Yc 0) (Yc 1)))) (λ_ _ _ _ _=>(Ye 0)) (Yan (i:=0) rfl)))) Ys))))
def Yu9:aJc ["book","place"] ["book","place"] (aIc (top 25)):=fns
def Yo0:AU:=(sRet (mB (ch3 (kD (.int 0)) (getC 1) (cC (Yg (b2 (getC 0) (kD (.int 1)) ixD) aNil) lenC) leI ltI)))
def Yhc:AR->Option D:=runB 2 2 Yo0
def Yva(bl:Bl K w mg):Okf P w K mg base 1 2 "is_place" ["book","place"] Yhc:=by
 refine okfn bl.f25 Yu9 λhr=>?_;exact(Ym (Yo (y19 Yaf0 Yug Yab7 Yug (Yd Yj) (Yc 1) (Yd (Yau Ya4 Yfn rfl bl.Len PySem.boot_len (Yq (Yd (Yk (Yc 0) (Yd Yj))) Ys))))))
def Ykx:aJc ["rule","known"] ["rule","known"] (aIc (top 26)):=fns
def aDa:aMc ["rule","known"] (aIc (top 26)) ["beacon","known"] [none,some 1] (fsc [(".0",.local),("beacon",.local),("known",.free)]):=Yab (by decide +kernel)
def Ya6:AX:=(orD (mB (b2 (getC 0) (getC 1) (inM false))) (mB (b2 (getC 0) (getC 1) (hasI false))))
def Yej:AU:=(sRet (cC (Yg (lF (Ybb (b1 (b2 (getC 0) (kD (.int 0)) ixD) Yn) [none,some 1] (gSet 0) tY (Ya6))) aNil) allC))
def Ya0:AR->Option D:=runB 2 2 Yej
def Ygc(bl:Bl K w mg):Okf P w K mg base 1 2 "body_is_known" ["rule","known"] Ya0:=by
 refine okfn bl.f26 Ykx λhr=>?_;exact(Ym (Yo (Yau (y03 rfl) y9q rfl bl.All boot_all (Yq (Yd (Yaf (Yaq aDa rfl (Yae (Yk (Yc 0) (Yd Yj))) (λ_ _ _ _ _=>(Yw 0 aDa.nd)) (λ_ _ _ _ _=>Ya8) (λ_ _ _ _ _=>(Yaaw (Yaej hr.units (Yc 0) (Yc 1)) (Yaam hr.units (Yc 0) (Yc 1)))) (Yan (i:=0) rfl)))) Ys))))
def aLb:aJc ["book","known","place","rule"] ["book","known","place"] (aIc (top 27)):=fns
@[simp] def Yvb:AU:=(sRet (andV (mB (b2 (b2 (getC 3) (kD (.int 1)) ixD) (kD .non) (isN true))) (cC (Yg (getV 3) (Yg (getV 1) aNil)) Ya0)))
@[simp] def Yvc:AU:=(sSeq (sSet 3 (b2 (b2 (getC 0) (kD (.int 1)) ixD) (getC 2) ixD)) Yvb)
def Ymy:AU:=(sSeq (sIf (notT (b1 (cC (Yg (getV 0) (Yg (getV 2) aNil)) Yhc) truD)) (sRet (kD (.bl false))) sNil) Yvc)
def Yja:AR->Option D:=runB 3 4 Ymy
def Yza(bl:Bl K w mg):Okf P w K mg base 2 3 "is_step" ["book","known","place"] Yja:=by
 refine okfn bl.f27 aLb λhr=>?_;exact(Yi (Yah (y1y (Yb4 (Yd (Yl (Yva bl) hr rfl (Yb (Ye 0) (Yb (Ye 2) Yh)) aL2)))) (Ym (Yo Yee)) Yac) (Yi (Yv 3 aLb.nd (Yk (Yd (Yk (Yc 0) (Yd Yj))) (Yc 2))) (Ym (Yo (Yp4 (Yw2 (Yd (Yk (Yc 3) (Yd Yj))) (Yd Yar)) (Ylf (Yl (Ygc bl) hr rfl (Yb (Ye 3) (Yb (Ye 1) Yh)) aL2)))))))
def aZb:aJc ["book","known","place","rule"] ["book","known"] (aIc (top 28)):=fns
def Yaz:AU:=(sIf (andT (b2 (b2 (getC 3) (kD (.int 1)) ixD) (getC 1) (hasN true)) (b1 (cC (Yg (getV 0) (Yg (getV 1) (Yg (getV 2) aNil))) Yja) truD)) (sRet (getV 2)) sNil)
def Yhv:AU:=(sSeq (sFor (b1 (b2 (getC 0) (kD (.int 1)) ixD) Yl8) (Ypp 2 3) Yaz) (sRet (kD .non)))
def Yb6:AR->Option D:=runB 2 4 Yhv
def Ygu(bl:Bl K w mg):Okf P w K mg base 3 2 "step_to_more" ["book","known"] Yb6:=by
 refine okfn bl.f28 aZb λhr=>?_;exact(Yi (Ybh jf rfl (Yfs rfl bl.Enumerate (Yk (Yc 0) (Yd Yj))) (Yp6 2 3 rfl aZb.nd) (Ym (Yah (Ygm (Yib (y57 hr.units (Yd (Yk (Yc 3) (Yd Yj))) (Yc 1)) (Yfp (Yb4 (Yd (Yl (Yza bl) hr rfl (Yb (Ye 0) (Yb (Ye 1) (Yb (Ye 2) Yh))) aL3)))))) (Ym (Yo (Ye 2))) Yac))) (Ym (Yo Yar)))
def aGb:aJc ["book","facts","known","places","place"] ["book","facts"] (aIc (top 29)):=fns
def aEa:aMc ["book","facts","known","places","place"] (aIc (top 29)) ["fact"] [none] (fsc [(".0",.local),("fact",.local)]):=Yab (by decide +kernel)
def Ya9:AX:=(dTup (Yg (getV 0) (Yg (kD (.bl true)) aNil)))
def Yba:AU:=(sSeq (sMut 3 (getV 4) appD) (sSeq (Yus 2 (b2 (b2 (b2 (getC 0) (kD (.int 1)) ixD) (getC 4) ixD) (kD (.int 1)) ixD) (kD (.bl true))) (sSet 4 (Yyg [2] (cC (Yg (getV 0) (Yg (getV 2) aNil)) Yb6)))))
@[simp] def Yif:AU:=(sRet (dTup (Yg (lF (cF (Yg (getC 2) aNil) Yh9)) (Yg (cC (Yg (getC 3) aNil) tupC) aNil))))
@[simp] def Yig:AU:=(sSeq (Ybt (b2 (getC 4) (kD .non) (isN true)) Yba 4000) Yif)
@[simp] def Yih:AU:=(sSeq (sSet 4 (Yyg [2] (cC (Yg (getV 0) (Yg (getV 2) aNil)) Yb6))) Yig)
@[simp] def Yii:AU:=(sSeq (sOwn 3 (dLst aNil)) Yih)
def Yff:AU:=(sSeq (sDct 2 (lF (Ybb (b1 (getV 1) Yn) [none] (gSet 0) tY (Ya9)))) Yii)
def Yas:AR->Option D:=runB 2 5 Yff
def Yev(bl:Bl K w mg):Okf P w K mg base 4 2 "derived_in_full" ["book","facts"] Yas:=by
 refine okfn bl.f29 aGb λhr=>?_;exact(Yi (y2b rfl 2 aGb.nd rfl bl.Dict (Yd (Yaf (Yaq aEa rfl (Yae (Ye 1)) (λ_ _ _ _ _=>(Yw 0 aEa.nd)) (λ_ _ _ _ _=>Ya8) (λ_ _ _ _ _=>(Yt (Yb (Ye 0) (Yb Yee Yh)))) (Yan (i:=0) rfl))))) (Yi (Yfq 3 aGb.nd (Ycq Yh)) (Yi (Yv 4 aGb.nd (Yw3 [2] (Yl (Ygu bl) hr rfl (Yb (Ye 0) (Yb (Ye 2) Yh)) aL2))) (Yi (Yiy 4000 jf (Yeq (Yc 4) (Yd Yar)) (Yi (Yd5 3 (Ye 4)) (Yi (Yp8 hr.units 2 (Yd (Yk (Yd (Yk (Yd (Yk (Yc 0) (Yd Yj))) (Yc 4))) (Yd Yj))) Yee) (Ym (Yv 4 aGb.nd (Yw3 [2] (Yl (Ygu bl) hr rfl (Yb (Ye 0) (Yb (Ye 2) Yh)) aL2))))))) (Ym (Yo (Yt (Yb (Yaf (Ycr (Ymd rfl) Yon rfl bl.Sorted boot_sorted (Yq (Yc 2) Ys))) (Yb (Yai Yy Ybr rfl bl.Tuple boot_tuple (Yq (Yc 3) Ys)) Yh)))))))))
def Ysx:aJc ["book"] ["book"] (aIc (top 31)):=fns
def aLa:aMc ["book"] (aIc (top 31)) ["rule","book"] [none,some 0] (fsc [(".0",.local),("rule",.local),("is_void",.globalImplicit),("book",.free)]):=Yab (by decide +kernel)
def Ye4:AX:=(cC (Yg (b2 (getC 1) (kD (.int 0)) ixD) (Yg (getV 0) aNil)) Yi8)
def Ymz:AU:=(sRet (cC (Yg (lF (Ybb (b1 (b2 (getC 0) (kD (.int 1)) ixD) Yn) [none,some 0] (gSet 0) tY (Ye4))) aNil) anyC))
def Yek:AR->Option D:=runB 1 1 Ymz
def Ysy(bl:Bl K w mg):Okf P w K mg base 4 1 "is_broken" ["book"] Yek:=by
 refine okfn bl.f31 Ysx λhr=>?_;exact(Ym (Yo (Yau (Yl4 rfl) Yul rfl bl.Any boot_any (Yq (Yd (Yaf (Yaq aLa rfl (Yae (Yk (Yc 0) (Yd Yj))) (λ_ _ _ _ _=>(Yw 0 aLa.nd)) (λ_ _ _ _ _=>Ya8) (λ_ _ _ _ _=>(Yl (Yy7 bl) hr rfl (Yb (Yk (Yc 1) (Yd Yj)) (Yb (Ye 0) Yh)) aL2)) (Yan (i:=0) rfl)))) Ys))))
def aYb:aJc ["beacons","sayings","beacon"] ["beacons"] (aIc (top 33)):=fns
def Yel:AU:=(sMut 1 (lF (dLst (Yg (dTup (Yg (getV 2) (Yg (kD (.bl false)) aNil))) (Yg (dTup (Yg (getV 2) (Yg (kD (.bl true)) aNil))) aNil)))) extD)
@[simp] def Ynw:AU:=(wF [1] (sRet (getV 1)))
@[simp] def Ynx:AU:=(sSeq (sFor (b1 (getV 0) Yn) (gSet 2) Yel) Ynw)
def Yko:AU:=(sSeq (sOwn 1 (dLst aNil)) Ynx)
def Yap:AR->Option D:=runB 1 3 Yko
def Ybi(bl:Bl K w mg):Okf P w K mg base 1 1 "sayings_of" ["beacons"] Yap:=by
 refine okfn bl.f33 aYb λhr=>?_;exact(Yi (Yfq 1 aYb.nd (Ycq Yh)) (Yi (Ybh jf rfl (Yae (Ye 0)) (Yw 2 aYb.nd) (Ym (Yys 1 (Yaf (Ycq (Yb (Yt (Yb (Ye 2) (Yb Yee Yh))) (Yb (Yt (Yb (Ye 2) (Yb Yee Yh))) Yh))))))) (Ym (Ycf [1] (Yo (Ye 1))))))
def Yge:aJc ["ways","saying","other"] ["ways","saying","other"] (aIc (top 34)):=fns
def Ybz:AU:=(sRet (andV (mB (b2 (getC 2) (b2 (getC 0) (getC 1) getT) (hasT false))) (mB (b2 (getC 1) (b2 (getC 0) (getC 2) getT) (hasT false)))))
def Yak:AR->Option D:=runB 3 3 Ybz
def Ybs(bl:Bl K w mg):Okf P w K mg base 1 3 "lead_to_one_another" ["ways","saying","other"] Yak:=by
 refine okfn bl.f34 Yge λhr=>?_;exact(Ym (Yo (Yp4 (y17 hr.units (Yc 2) (Yd (Yb7 hr.units (Yc 0) (Yc 1)))) (Ylf (y17 hr.units (Yc 1) (Yd (Yb7 hr.units (Yc 0) (Yc 2))))))))
def aDb:aJc ["ways","saying","other"] ["ways"] (aIc (top 35)):=fns
def Yca:AU:=(sSeq (sSet 2 (cC (Yg (getV 1) aNil) Ycj)) (sIf (b1 (cC (Yg (getV 0) (Yg (getV 1) (Yg (getV 2) aNil))) Yak) truD) (sRet (dTup (Yg (kD (.str "clash")) (Yg (cC (Yg (b2 (getC 0) (getC 1) getT) (Yg (getV 2) aNil)) Yes) (Yg (cC (Yg (b2 (getC 0) (getC 2) getT) (Yg (getV 1) aNil)) Yes) aNil))))) sNil))
def Yfy:AU:=(sSeq (sFor (b1 (getV 0) Yj4) (gSet 1) Yca) (sRet (kD .non)))
def Ycs:AR->Option D:=runB 1 3 Yfy
def Yny(bl:Bl K w mg):Okf P w K mg base 2 1 "clash_found" ["ways"] Ycs:=by
 refine okfn bl.f35 aDb λhr=>?_;exact(Yi (Ybh jf rfl (y2q (Ye 0)) (Yw 1 aDb.nd) (Yi (Yv 2 aDb.nd (Yl (Yef bl) hr rfl (Yb (Ye 1) Yh) aL1)) (Ym (Yah (Yb4 (Yd (Yl (Ybs bl) hr rfl (Yb (Ye 0) (Yb (Ye 1) (Yb (Ye 2) Yh))) aL3))) (Ym (Yo (Yt (Yb Yx (Yb (Yl (Ygo bl) hr rfl (Yb (Yb7 hr.units (Yc 0) (Yc 1)) (Yb (Ye 2) Yh)) aL2) (Yb (Yl (Ygo bl) hr rfl (Yb (Yb7 hr.units (Yc 0) (Yc 2)) (Yb (Ye 1) Yh)) aL2) Yh)))))) Yac)))) (Ym (Yo Yar)))
def aFb:aJc ["ways","storms","saying","other"] ["ways","storms"] (aIc (top 36)):=fns
def Ybk:AU:=(sIf (andT (b2 (getC 3) (getC 2) (eqM true)) (b2 (getC 3) (b2 (getC 0) (getC 2) getT) (hasT false))) (sRet (dTup (Yg (kD (.str "cross")) (Yg (cC (Yg (b2 (getC 0) (getC 2) getT) (Yg (getV 3) aNil)) Yes) aNil)))) sNil)
def Ycb:AU:=(sFor (b1 (cC (Yg (getV 1) aNil) Yap) Yn) (gSet 3) Ybk)
def Yfz:AU:=(sSeq (sFor (b1 (cC (Yg (getV 1) aNil) Yap) Yn) (gSet 2) Ycb) (sRet (kD .non)))
def Yct:AR->Option D:=runB 2 4 Yfz
def Ynz(bl:Bl K w mg):Okf P w K mg base 2 2 "cross_found" ["ways","storms"] Yct:=by
 refine okfn bl.f36 aFb λhr=>?_;exact(Yi (Ybh jf rfl (Yae (Yl (Ybi bl) hr rfl (Yb (Ye 1) Yh) aL1)) (Yw 2 aFb.nd) (Ym (Ybh jf rfl (Yae (Yl (Ybi bl) hr rfl (Yb (Ye 1) Yh) aL1)) (Yw 3 aFb.nd) (Ym (Yah (Ygm (Yib (Yor hr.units (Yc 3) (Yc 2)) (Yfp (y18 hr.units (Yc 3) (Yd (Yb7 hr.units (Yc 0) (Yc 2))))))) (Ym (Yo (Yt (Yb Yx (Yb (Yl (Ygo bl) hr rfl (Yb (Yb7 hr.units (Yc 0) (Yc 2)) (Yb (Ye 3) Yh)) aL2) Yh))))) Yac))))) (Ym (Yo Yar)))
def aMb:aJc ["ways","keepers","storms","saying","other"] ["ways","keepers","storms"] (aIc (top 37)):=fns
def Yb0:AU:=(sIf (andT (b2 (b2 (getC 4) (kD (.int 0)) ixD) (b2 (getC 3) (kD (.int 0)) ixD) ltI) (b1 (cC (Yg (getV 0) (Yg (getV 3) (Yg (getV 4) aNil))) Yak) truD)) (sRet (dTup (Yg (kD (.str "late")) (Yg (cC (Yg (b2 (getC 0) (getC 3) getT) (Yg (getV 4) aNil)) Yes) (Yg (cC (Yg (b2 (getC 0) (getC 4) getT) (Yg (getV 3) aNil)) Yes) aNil))))) sNil)
def Ycu:AU:=(sFor (b1 (cC (Yg (getV 1) aNil) Yap) Yn) (gSet 4) Yb0)
def Ygv:AU:=(sSeq (sFor (b1 (cC (Yg (getV 2) aNil) Yap) Yn) (gSet 3) Ycu) (sRet (kD .non)))
def Ydo:AR->Option D:=runB 3 5 Ygv
def Yql(bl:Bl K w mg):Okf P w K mg base 2 3 "late_found" ["ways","keepers","storms"] Ydo:=by
 refine okfn bl.f37 aMb λhr=>?_;exact(Yi (Ybh jf rfl (Yae (Yl (Ybi bl) hr rfl (Yb (Ye 2) Yh) aL1)) (Yw 3 aMb.nd) (Ym (Ybh jf rfl (Yae (Yl (Ybi bl) hr rfl (Yb (Ye 1) Yh) aL1)) (Yw 4 aMb.nd) (Ym (Yah (Ygm (Yib (Ywz (Yd (Yk (Yc 4) (Yd Yj))) (Yd (Yk (Yc 3) (Yd Yj)))) (Yfp (Yb4 (Yd (Yl (Ybs bl) hr rfl (Yb (Ye 0) (Yb (Ye 3) (Yb (Ye 4) Yh))) aL3)))))) (Ym (Yo (Yt (Yb Yx (Yb (Yl (Ygo bl) hr rfl (Yb (Yb7 hr.units (Yc 0) (Yc 3)) (Yb (Ye 4) Yh)) aL2) (Yb (Yl (Ygo bl) hr rfl (Yb (Yb7 hr.units (Yc 0) (Yc 4)) (Yb (Ye 3) Yh)) aL2) Yh)))))) Yac))))) (Ym (Yo Yar)))
def aAc:aJc ["book","ways","keepers","storms","found","papers"] ["book","ways","keepers","storms"] (aIc (top 38)):=fns
def aXa:aMc ["book","ways","keepers","storms","found","papers"] (aIc (top 38)) ["paper"] [none] (fsc [(".0",.local),("paper",.local)]):=Yab (by decide +kernel)
def Yag:AW:=(b2 (getC 0) (kD .non) (isN true))
def Yal:AX:=(getV 0)
@[simp] def Yky:AU:=(sRet (ifV (b1 (getC 5) truD) (b2 (getC 5) (kD (.int 0)) ixD) (kD .non)))
@[simp] def Ykz:AU:=(sSeq (wF [4] (sOwn 5 (Ybb (b1 (getV 4) Yn) [none] (gSet 0) (Yag) (Yal)))) Yky)
@[simp] def Yk0:AU:=(sSeq (sOwn 4 (dLst (Yg (cC (Yg (getV 1) aNil) Ycs) (Yg (cC (Yg (getV 1) (Yg (getV 3) aNil)) Yct) (Yg (cC (Yg (getV 1) (Yg (getV 2) (Yg (getV 3) aNil))) Ydo) aNil))))) Ykz)
def Yam:AU:=(sSeq (sIf (b1 (cC (Yg (getV 0) aNil) Yek) truD) (sRet (dTup (Yg (kD (.str "broken")) aNil))) sNil) Yk0)
def Ybo:AR->Option D:=runB 4 6 Yam
def Ym0(bl:Bl K w mg):Okf P w K mg base 5 4 "storms_paper" ["book","ways","keepers","storms"] Ybo:=by
 refine okfn bl.f38 aAc λhr=>?_;exact(Yi (Yah (Yb4 (Yd (Yl (Ysy bl) hr rfl (Yb (Ye 0) Yh) aL1))) (Ym (Yo (Yt (Yb Yx Yh)))) Yac) (Yi (Yfq 4 aAc.nd (Ycq (Yb (Yl (Yny bl) hr rfl (Yb (Ye 1) Yh) aL1) (Yb (Yl (Ynz bl) hr rfl (Yb (Ye 1) (Yb (Ye 3) Yh)) aL2) (Yb (Yl (Yql bl) hr rfl (Yb (Ye 1) (Yb (Ye 2) (Yb (Ye 3) Yh))) aL3) Yh))))) (Yi (Ycf [4] (Yfr 5 aAc.nd aXa rfl (Yae (Ye 4)) (λ_ _ _ _ _=>(Yw 0 aXa.nd)) (λ_ _ _ _ _=>(Yer (Yeq (Yc 0) (Yd Yar)))) (λ_ _ _ _ _=>(Ye 0)) (Yan (i:=0) rfl))) (Ym (Yo (Yw1 (Yb4 (Yc 5)) (Yk (Yc 5) (Yd Yj)) Yar))))))
def aJb:aJc ["keeper","ways","dark"] ["keeper","ways"] (aIc (top 39)):=fns
def Yf0:AU:=(sSeq (sSet 2 (dTup (Yg (getV 0) (Yg (kD (.bl false)) aNil)))) (sRet (ifV (b2 (cC (Yg (getV 2) aNil) Ycj) (b2 (getC 1) (getC 2) getT) (hasT false)) (cC (Yg (getV 2) aNil) Ycj) (getV 2))))
def Ybj:AR->Option D:=runB 2 3 Yf0
def Yn0(bl:Bl K w mg):Okf P w K mg base 2 2 "free_saying" ["keeper","ways"] Ybj:=by
 refine okfn bl.f39 aJb λhr=>?_;exact(Yi (Yv 2 aJb.nd (Yt (Yb (Ye 0) (Yb Yee Yh)))) (Ym (Yo (Yw1 (y18 hr.units (Yd (Yl (Yef bl) hr rfl (Yb (Ye 2) Yh) aL1)) (Yd (Yb7 hr.units (Yc 1) (Yc 2)))) (Yl (Yef bl) hr rfl (Yb (Ye 2) Yh) aL1) (Ye 2)))))
def aGc:aJc ["ways","keepers","storms","truths","saying","keeper"] ["ways","keepers","storms"] (aIc (top 40)):=fns
def Ydt:AU:=(sUpd 3 (dctF (lF (cF (Yg (b2 (getC 0) (getC 4) getT) aNil) Yi2))))
def Ycc:AU:=(sIf (b2 (getC 5) (getC 3) (hasI true)) (sUpd 3 (dctF (lF (cF (Yg (b2 (getC 0) (cC (Yg (getV 5) (Yg (getV 0) aNil)) Ybj) getT) aNil) Yi2)))) sNil)
@[simp] def Yem:AU:=(wF [3] (sRet (getV 3)))
@[simp] def Ym1:AU:=(sSeq (sFor (b1 (getV 1) Yn) (gSet 5) Ycc) Yem)
@[simp] def Ym2:AU:=(sSeq (sFor (b1 (cC (Yg (getV 2) aNil) Yap) Yn) (gSet 4) Ydt) Ym1)
def Yjb:AU:=(sSeq (Yuq 3) Ym2)
def Yd0:AR->Option D:=runB 3 6 Yjb
def Yn1(bl:Bl K w mg):Okf P w K mg base 3 3 "truths_made" ["ways","keepers","storms"] Yd0:=by
 refine okfn bl.f40 aGc λhr=>?_;exact(Yi (Yp7 3 aGc.nd) (Yi (Ybh jf rfl (Yae (Yl (Ybi bl) hr rfl (Yb (Ye 2) Yh) aL1)) (Yw 4 aGc.nd) (Ym (Yoy 3 (y2v rfl rfl bl.Dict (Yd (Yaf (Yfb (Yox rfl) Ysp rfl bl.List boot_list (Yq (Yd (Yb7 hr.units (Yc 0) (Yc 4))) Ys)))))))) (Yi (Ybh jf rfl (Yae (Ye 1)) (Yw 5 aGc.nd) (Ym (Yah (y56 hr.units (Yc 5) (Yc 3)) (Ym (Yoy 3 (y2v rfl rfl bl.Dict (Yd (Yaf (Yfb (Yox rfl) Ysp rfl bl.List boot_list (Yq (Yd (Yb7 hr.units (Yc 0) (Yd (Yl (Yn0 bl) hr rfl (Yb (Ye 5) (Yb (Ye 0) Yh)) aL2)))) Ys))))))) Yac))) (Ym (Ycf [3] (Yo (Ye 3)))))))
def aVb:aJc ["keeper","ways","storms","truths","saying"] ["keeper","ways","storms","truths"] (aIc (top 41)):=fns
def Yd1:AU:=(sIf (b1 (cC (Yg (getV 1) (Yg (getV 4) (Yg (dTup (Yg (getV 0) (Yg (kD (.bl true)) aNil))) aNil))) Yak) truD) (sRet (dTup (Yg (getV 0) (Yg (b2 (getC 4) (kD (.int 0)) ixD) (Yg (b2 (getC 4) (kD (.int 1)) ixD) aNil))))) sNil)
def Yj7:AU:=(sSeq (sFor (b1 (cC (Yg (getV 2) aNil) Yap) Yn) (gSet 4) Yd1) (sRet (dTup (Yg (getV 0) (Yg (kD .non) (Yg (b2 (getC 3) (getC 0) getI) aNil))))))
def Yd6:AR->Option D:=runB 4 5 Yj7
def Yvd(bl:Bl K w mg):Okf P w K mg base 2 4 "plan_row" ["keeper","ways","storms","truths"] Yd6:=by
 refine okfn bl.f41 aVb λhr=>?_;exact(Yi (Ybh jf rfl (Yae (Yl (Ybi bl) hr rfl (Yb (Ye 2) Yh) aL1)) (Yw 4 aVb.nd) (Ym (Yah (Yb4 (Yd (Yl (Ybs bl) hr rfl (Yb (Ye 1) (Yb (Ye 4) (Yb (Yt (Yb (Ye 0) (Yb Yee Yh))) Yh))) aL3))) (Ym (Yo (Yt (Yb (Ye 0) (Yb (Yk (Yc 4) (Yd Yj)) (Yb (Yk (Yc 4) (Yd Yj)) Yh)))))) Yac))) (Ym (Yo (Yt (Yb (Ye 0) (Yb Yar (Yb (Ylg hr.units (Yc 3) (Yc 0)) Yh)))))))
def aHb:aJc ["book","hands","start","keepers","storms","ways","paper","truths"] ["book","hands","start"] (aIc (top 42)):=fns
def aGa:aMc ["book","hands","start","keepers","storms","ways","paper","truths"] (aIc (top 42)) ["saying","book"] [none,some 0] (fsc [(".0",.local),("saying",.local),("ways_from",.globalImplicit),("book",.free)]):=Yab (by decide +kernel)
def aHa:aMc ["book","hands","start","keepers","storms","ways","paper","truths"] (aIc (top 42)) ["keeper","ways","storms","truths"] [none,some 5,some 4,some 7] (fsc [(".0",.local),("keeper",.local),("plan_row",.globalImplicit),("storms",.free),("truths",.free),("ways",.free)]):=Yab (by decide +kernel)
def Ya1:AX:=(dTup (Yg (getV 0) (Yg (cC (Yg (getV 1) (Yg (getV 0) aNil)) Yda) aNil)))
def Ych:AX:=(cC (Yg (getV 0) (Yg (getV 1) (Yg (getV 2) (Yg (getV 3) aNil)))) Yd6)
@[simp] def Yjc:AU:=(wF [5] (sRet (dTup (Yg (kD (.str "keeper")) (Yg (dTup (Yg (kD (.str "plan")) (Yg (cC (Yg (lF (Ybb (b1 (getV 3) Yn) [none,some 5,some 4,some 7] (gSet 0) tY (Ych))) aNil) tupC) aNil))) aNil)))))
@[simp] def Yjd:AU:=(sSeq (wF [5] (sSet 7 (cC (Yg (getV 5) (Yg (getV 3) (Yg (getV 4) aNil))) Yd0))) Yjc)
@[simp] def Yew:AU:=(sSeq (sIf (b2 (getC 6) (kD .non) (isN true)) (sRet (dTup (Yg (kD (.str "storm")) (Yg (getV 6) aNil)))) sNil) Yjd)
@[simp] def Ybu:AU:=(sSeq (wF [5] (sSet 6 (cC (Yg (getV 0) (Yg (getV 5) (Yg (getV 3) (Yg (getV 4) aNil)))) Ybo))) Yew)
@[simp] def Yje:AU:=(sSeq (Yyv 5 (lF (Ybb (b1 (cC (Yg (lF (b2 (getC 3) (getC 4) catD)) aNil) Yap) Yn) [none,some 0] (gSet 0) tY (Ya1)))) Ybu)
@[simp] def Yjf:AU:=(sSeq (sSet 4 (cC (Yg (getV 1) (Yg (getV 2) (Yg (kD (.str "storm")) aNil))) Yat)) Yje)
def Ydu:AU:=(sSeq (sSet 3 (cC (Yg (getV 1) (Yg (getV 2) (Yg (kD (.str "keeper")) aNil))) Yat)) Yjf)
def Ybl:AR->Option D:=runB 3 8 Ydu
def Yj8(bl:Bl K w mg):Okf P w K mg base 6 3 "either_outcome" ["book","hands","start"] Ybl:=by
 refine okfn bl.f42 aHb λhr=>?_;exact(Yi (Yv 3 aHb.nd (Yl (Ybe bl) hr rfl (Yb (Ye 1) (Yb (Ye 2) (Yb Yx Yh))) aL3)) (Yi (Yv 4 aHb.nd (Yl (Ybe bl) hr rfl (Yb (Ye 1) (Yb (Ye 2) (Yb Yx Yh))) aL3)) (Yi (y6f hr.units rfl 5 aHb.nd rfl bl.Dict (Yd (Yaf (Yaq aGa rfl (Yae (Yl (Ybi bl) hr rfl (Yb (Yaf (Yu0 (Yc 3) (Yc 4))) Yh) aL1)) (λ_ _ _ _ _=>(Yw 0 aGa.nd)) (λ_ _ _ _ _=>Ya8) (λ_ _ _ _ _=>(Yt (Yb (Ye 0) (Yb (Yl (Ysr bl) hr rfl (Yb (Ye 1) (Yb (Ye 0) Yh)) aL2) Yh)))) (Yan (i:=0) rfl))))) (Yi (Ycf [5] (Yv 6 aHb.nd (Yl (Ym0 bl) hr rfl (Yb (Ye 0) (Yb (Ye 5) (Yb (Ye 3) (Yb (Ye 4) Yh)))) aL4))) (Yi (Yah (Yeq (Yc 6) (Yd Yar)) (Ym (Yo (Yt (Yb Yx (Yb (Ye 6) Yh))))) Yac) (Yi (Ycf [5] (Yv 7 aHb.nd (Yl (Yn1 bl) hr rfl (Yb (Ye 5) (Yb (Ye 3) (Yb (Ye 4) Yh))) aL3))) (Ym (Ycf [5] (Yo (Yt (Yb Yx (Yb (Yt (Yb Yx (Yb (Yai Yy Ybr rfl bl.Tuple boot_tuple (Yq (Yd (Yaf (Yaq aHa rfl (Yae (Ye 3)) (λ_ _ _ _ _=>(Yw 0 aHa.nd)) (λ_ _ _ _ _=>Ya8) (λ_ _ _ _ _=>(Yl (Yvd bl) hr rfl (Yb (Ye 0) (Yb (Ye 1) (Yb (Ye 2) (Yb (Ye 3) Yh)))) aL4)) (Yan (i:=0) rfl)))) Ys)) Yh))) Yh))))))))))))
def aXb:aJc ["rule","sums","whole","beacon","row"] ["rule","sums"] (aIc (top 44)):=fns
def Yf1:AU:=(sSeq (sSet 4 (b3 (getC 1) (getC 3) (dTup (Yg (getV 3) (Yg (dTup (Yg (getV 3) aNil)) (Yg (kD (.bl false)) aNil)))) Ypv)) (sSet 2 (cC (Yg (getV 2) (Yg (dTup (Yg (b2 (getC 4) (kD (.int 1)) ixD) (Yg (b2 (getC 4) (kD (.int 2)) ixD) aNil))) aNil)) Yby)))
@[simp] def Ysz:AU:=(sRet (getV 2))
@[simp] def Ys0:AU:=(sSeq (sFor (b1 (b2 (getC 0) (kD (.int 0)) ixD) Yn) (gSet 3) Yf1) Ysz)
def Yo1:AU:=(sSeq (sSet 2 (dTup (Yg (dTup aNil) (Yg (kD (.bl false)) aNil)))) Ys0)
def Yfg:AR->Option D:=runB 2 5 Yo1
def Yve(bl:Bl K w mg):Okf P w K mg base 2 2 "replaced" ["rule","sums"] Yfg:=by
 refine okfn bl.f44 aXb λhr=>?_;exact(Yi (Yv 2 aXb.nd (Yt (Yb (Yt Yh) (Yb Yee Yh)))) (Yi (Ybh jf rfl (Yae (Yk (Yc 0) (Yd Yj))) (Yw 3 aXb.nd) (Yi (Yv 4 aXb.nd (Ysm hr.units (Yc 1) (Yc 3) (Yt (Yb (Ye 3) (Yb (Yt (Yb (Ye 3) Yh)) (Yb Yee Yh)))) ⟨rfl,rfl,rfl,rfl⟩)) (Ym (Yv 2 aXb.nd (Yl (Yi6 bl) hr rfl (Yb (Ye 2) (Yb (Yt (Yb (Yk (Yc 4) (Yd Yj)) (Yb (Yk (Yc 4) (Yd Yj)) Yh))) Yh)) aL2))))) (Ym (Yo (Ye 2)))))
def Yvf:aJc ["beacons","beacon"] ["beacons","beacon"] (aIc (top 45)):=fns
def aAa:aMc ["beacons","beacon"] (aIc (top 45)) ["other","beacon"] [none,some 1] (fsc [(".0",.local),("other",.local),("beacon",.free)]):=Yab (by decide +kernel)
def Yf2:AW:=(b2 (getC 0) (getC 1) ltI)
def Yf3:AX:=(getV 0)
def Yo2:AU:=(sRet (lF (Ybb (b1 (getV 0) Yn) [none,some 1] (gSet 0) (Yf2) (Yf3))))
def Yhd:AR->Option D:=runB 2 2 Yo2
def Yvg(bl:Bl K w mg):Okf P w K mg base 1 2 "ahead_of" ["beacons","beacon"] Yhd:=by
 refine okfn bl.f45 Yvf λhr=>?_;exact(Ym (Yo (Yaf (Yaq aAa rfl (Yae (Ye 0)) (λ_ _ _ _ _=>(Yw 0 aAa.nd)) (λ_ _ _ _ _=>(Yer (Ywz (Yc 0) (Yc 1)))) (λ_ _ _ _ _=>(Ye 0)) (Yan (i:=0) rfl)))))
def aUb:aJc ["book","full","place","rule"] ["book","full"] (aIc (top 47)):=fns
def Ya2:AU:=(sIf (andT (b2 (b2 (getC 3) (kD (.int 1)) ixD) (kD .non) (isN false)) (b1 (cC (Yg (getV 3) (Yg (b2 (getC 1) (kD (.int 0)) ixD) aNil)) Ya0) truD)) (sRet (b2 (b2 (getC 1) (kD (.int 1)) ixD) (dTup (Yg (getV 2) aNil)) Ykv)) sNil)
def Ygd:AU:=(sSeq (sFor (b1 (b2 (getC 0) (kD (.int 1)) ixD) Yl8) (Ypp 2 3) Ya2) (sRet (kD .non)))
def Ybm:AR->Option D:=runB 2 4 Ygd
def Yj9(bl:Bl K w mg):Okf P w K mg base 2 2 "places_to_none" ["book","full"] Ybm:=by
 refine okfn bl.f47 aUb λhr=>?_;exact(Yi (Ybh jf rfl (Yfs rfl bl.Enumerate (Yk (Yc 0) (Yd Yj))) (Yp6 2 3 rfl aUb.nd) (Ym (Yah (Ygm (Yib (Yp5 (Yd (Yk (Yc 3) (Yd Yj))) (Yd Yar)) (Yfp (Yb4 (Yd (Yl (Ygc bl) hr rfl (Yb (Ye 3) (Yb (Yk (Yc 1) (Yd Yj)) Yh)) aL2)))))) (Ym (Yo (Yiz (Yd (Yk (Yc 1) (Yd Yj))) (Yd (Yt (Yb (Ye 2) Yh)))))) Yac))) (Ym (Yo Yar)))
def aTb:aJc ["book","full","beacon","heads"] ["book","full","beacon"] (aIc (top 48)):=fns
def aUa:aMc ["book","full","beacon","heads"] (aIc (top 48)) ["place","book"] [none,some 0] (fsc [(".0",.local),("place",.local),("book",.free)]):=Yab (by decide +kernel)
def Yb1:AX:=(b2 (b2 (b2 (getC 1) (kD (.int 1)) ixD) (getC 0) ixD) (kD (.int 1)) ixD)
@[simp] def Yho:AU:=(sRet (slD (b2 (getC 1) (kD (.int 1)) ixD) none (some (b2 (b2 (getC 3) (getV 2) idxD) (kD (.int 1)) addI))))
@[simp] def Yhp:AU:=(sSeq (sIf (b2 (getC 2) (getC 3) (inM true)) (sRet (kD .non)) sNil) Yho)
def Ycv:AU:=(sSeq (sOwn 3 (Ybb (b1 (b2 (getC 1) (kD (.int 1)) ixD) Yn) [none,some 0] (gSet 0) tY (Yb1))) Yhp)
def Yav:AR->Option D:=runB 3 4 Ycv
def Yij(bl:Bl K w mg):Okf P w K mg base 1 3 "places_to_beacon" ["book","full","beacon"] Yav:=by
 refine okfn bl.f48 aTb λhr=>?_;exact(Yi (Yfr 3 aTb.nd aUa rfl (Yae (Yk (Yc 1) (Yd Yj))) (λ_ _ _ _ _=>(Yw 0 aUa.nd)) (λ_ _ _ _ _=>Ya8) (λ_ _ _ _ _=>(Yk (Yd (Yk (Yd (Yk (Yc 1) (Yd Yj))) (Yc 0))) (Yd Yj))) (Yan (i:=0) rfl)) (Yi (Yah (y1x hr.units (Yc 2) (Yc 3)) (Ym (Yo Yar)) Yac) (Ym (Yo (Yfd (fl:=none) (fh:=(some (b2 (b2 (getC 3) (getV 2) idxD) (kD (.int 1)) addI))) (Yd (Yk (Yc 1) (Yd Yj))) Ymj (Ymk (Yd (Yc9 (Yd (y2m (Yc 3) (Ye 2))) (Yd Yj)))))))))
def Yzb:aJc ["beacons","known"] ["beacons","known"] (aIc (top 49)):=fns
def aWa:aMc ["beacons","known"] (aIc (top 49)) ["beacon","known"] [none,some 1] (fsc [(".0",.local),("beacon",.local),("known",.free)]):=Yab (by decide +kernel)
def Ygw:AW:=(b2 (getC 0) (getC 1) (inM false))
def Ygx:AX:=(getV 0)
def Ys1:AU:=(sRet (cC (Yg (lF (Ybb (b1 (getV 0) Yn) [none,some 1] (gSet 0) (Ygw) (Ygx))) aNil) tupC))
def Ygy:AR->Option D:=runB 2 2 Ys1
def Yo3(bl:Bl K w mg):Okf P w K mg base 1 2 "some_of" ["beacons","known"] Ygy:=by
 refine okfn bl.f49 Yzb λhr=>?_;exact(Ym (Yo (Yai Yy Ybr rfl bl.Tuple boot_tuple (Yq (Yd (Yaf (Yaq aWa rfl (Yae (Ye 0)) (λ_ _ _ _ _=>(Yw 0 aWa.nd)) (λ_ _ _ _ _=>(Yer (y1w hr.units (Yc 0) (Yc 1)))) (λ_ _ _ _ _=>(Ye 0)) (Yan (i:=0) rfl)))) Ys))))
def Ym3:aJc ["beacon","storms","first"] ["beacon","storms","first"] (aIc (top 50)):=fns
def Yhw:AU:=(sRet (lF (b2 (lF (cF (Yg (cC (Yg (getV 1) (Yg (getV 0) aNil)) Yi9) aNil) Yx6)) (cC (Yg (getV 2) (Yg (getV 0) aNil)) Yhd) catD)))
def Ydi:AR->Option D:=runB 3 3 Yhw
def Ym4(bl:Bl K w mg):Okf P w K mg base 2 3 "facts_beside" ["beacon","storms","first"] Ydi:=by
 refine okfn bl.f50 Ym3 λhr=>?_;exact(Ym (Yo (Yaf (Yu0 (Yd (Yaf (Yfb Ygf Ypo rfl bl.List boot_list (Yq (Yd (Yl (Yy9 bl) hr rfl (Yb (Ye 1) (Yb (Ye 0) Yh)) aL2)) Ys)))) (Yd (Yl (Yvg bl) hr rfl (Yb (Ye 2) (Yb (Ye 0) Yh)) aL2))))))
def aKb:aJc ["book","hands","start","keepers","storms","whole","places","first","rows","beacon","full"] ["book","hands","start"] (aIc (top 51)):=fns
def Ycw:AU:=(sSeq (sSet 10 (cC (Yg (getV 0) (Yg (cC (Yg (getV 9) (Yg (getV 4) (Yg (getV 7) aNil))) Ydi) aNil)) Yas)) (sSeq (sSet 6 (cC (Yg (getV 0) (Yg (getV 10) (Yg (getV 9) aNil))) Yav)) (sSeq (sIf (b2 (getC 6) (kD .non) (isN true)) (sRet (dTup (Yg (kD (.str "storm")) (Yg (dTup (Yg (kD (.str "lone")) (Yg (getV 9) (Yg (b2 (getC 5) (kD (.int 1)) ixD) (Yg (getV 6) aNil))))) aNil)))) sNil) (sMut 8 (dTup (Yg (getV 9) (Yg (cC (Yg (getV 3) (Yg (b2 (getC 10) (kD (.int 0)) ixD) aNil)) Ygy) aNil))) appD))))
@[simp] def Yn2:AU:=(sRet (dTup (Yg (kD (.str "keeper")) (Yg (dTup (Yg (kD (.str "rows")) (Yg (getV 7) (Yg (cC (Yg (getC 8) aNil) tupC) aNil)))) aNil))))
@[simp] def Ye5:AU:=(sSeq (sFor (b1 (getV 4) Yn) (gSet 9) Ycw) Yn2)
@[simp] def Yn3:AU:=(sSeq (sOwn 8 (dLst aNil)) Ye5)
@[simp] def Yn4:AU:=(sSeq (sSet 7 (cC (Yg (getV 3) (Yg (b2 (getC 5) (kD (.int 0)) ixD) aNil)) Ygy)) Yn3)
@[simp] def Yn5:AU:=(sSeq (sIf (b2 (getC 6) (kD .non) (isN true)) (sRet (dTup (Yg (kD (.str "storm")) (Yg (dTup (Yg (kD (.str "lone")) (Yg (kD .non) (Yg (dTup aNil) (Yg (getV 6) aNil))))) aNil)))) sNil) Yn4)
@[simp] def Yn6:AU:=(sSeq (sSet 6 (cC (Yg (getV 0) (Yg (getV 5) aNil)) Ybm)) Yn5)
@[simp] def Yn7:AU:=(sSeq (sSet 5 (cC (Yg (getV 0) (Yg (getV 4) aNil)) Yas)) Yn6)
@[simp] def Yn8:AU:=(sSeq (sSet 4 (cC (Yg (getV 1) (Yg (getV 2) (Yg (kD (.str "storm")) aNil))) Yat)) Yn7)
def Yex:AU:=(sSeq (sSet 3 (cC (Yg (getV 1) (Yg (getV 2) (Yg (kD (.str "keeper")) aNil))) Yat)) Yn8)
def Yb2:AR->Option D:=runB 3 11 Yex
def Yjg(bl:Bl K w mg):Okf P w K mg base 5 3 "if_outcome" ["book","hands","start"] Yb2:=by
 refine okfn bl.f51 aKb λhr=>?_;exact(Yi (Yv 3 aKb.nd (Yl (Ybe bl) hr rfl (Yb (Ye 1) (Yb (Ye 2) (Yb Yx Yh))) aL3)) (Yi (Yv 4 aKb.nd (Yl (Ybe bl) hr rfl (Yb (Ye 1) (Yb (Ye 2) (Yb Yx Yh))) aL3)) (Yi (Yv 5 aKb.nd (Yl (Yev bl) hr rfl (Yb (Ye 0) (Yb (Ye 4) Yh)) aL2)) (Yi (Yv 6 aKb.nd (Yl (Yj9 bl) hr rfl (Yb (Ye 0) (Yb (Ye 5) Yh)) aL2)) (Yi (Yah (Yeq (Yc 6) (Yd Yar)) (Ym (Yo (Yt (Yb Yx (Yb (Yt (Yb Yx (Yb Yar (Yb (Yt Yh) (Yb (Ye 6) Yh))))) Yh))))) Yac) (Yi (Yv 7 aKb.nd (Yl (Yo3 bl) hr rfl (Yb (Ye 3) (Yb (Yk (Yc 5) (Yd Yj)) Yh)) aL2)) (Yi (Yfq 8 aKb.nd (Ycq Yh)) (Yi (Ybh jf rfl (Yae (Ye 4)) (Yw 9 aKb.nd) (Yi (Yv 10 aKb.nd (Yl (Yev bl) hr rfl (Yb (Ye 0) (Yb (Yl (Ym4 bl) hr rfl (Yb (Ye 9) (Yb (Ye 4) (Yb (Ye 7) Yh))) aL3) Yh)) aL2)) (Yi (Yv 6 aKb.nd (Yl (Yij bl) hr rfl (Yb (Ye 0) (Yb (Ye 10) (Yb (Ye 9) Yh))) aL3)) (Yi (Yah (Yeq (Yc 6) (Yd Yar)) (Ym (Yo (Yt (Yb Yx (Yb (Yt (Yb Yx (Yb (Ye 9) (Yb (Yk (Yc 5) (Yd Yj)) (Yb (Ye 6) Yh))))) Yh))))) Yac) (Ym (Yd5 8 (Yt (Yb (Ye 9) (Yb (Yl (Yo3 bl) hr rfl (Yb (Ye 3) (Yb (Yk (Yc 10) (Yd Yj)) Yh)) aL2) Yh))))))))) (Ym (Yo (Yt (Yb Yx (Yb (Yt (Yb Yx (Yb (Ye 7) (Yb (Yai Yy Ybr rfl bl.Tuple boot_tuple (Yq (Yc 8) Ys)) Yh)))) Yh)))))))))))))
def Yn9:aJc ["pair"] ["pair"] (aIc (top 53)):=fns
def Yjh:AU:=(sRet (b2 (b2 (b2 (getC 0) (kD (.int 1)) ixD) (kD (.int 0)) ixD) (b1 (kD (.int 1)) negI) ixD))
def Ycx:AR->Option D:=runB 1 1 Yjh
def Yhx(bl:Bl K w mg):Okf P w K mg base 1 1 "last_beacon" ["pair"] Ycx:=by
 refine okfn bl.f53 Yn9 λhr=>?_;exact(Ym (Yo (Yk (Yd (Yk (Yd (Yk (Yc 0) (Yd Yj))) (Yd Yj))) (Yd (Yml (Yd Yj))))))
def aBc:aJc ["pairs","void","storms","lost"] ["pairs","void","storms"] (aIc (top 54)):=fns
def aYa:aMc ["pairs","void","storms","lost"] (aIc (top 54)) ["pair","storms"] [none,some 2] (fsc [(".0",.local),("pair",.local),("last_beacon",.globalImplicit),("storms",.free)]):=Yab (by decide +kernel)
def Ycy:AW:=(b2 (cC (Yg (getV 0) aNil) Ycx) (getC 1) (inM false))
def Ycz:AX:=(b2 (getC 0) (kD (.int 0)) ixD)
@[simp] def Yka:AU:=(sRet (ifV (b1 (getC 3) truD) (b2 (getC 3) (kD (.int 0)) ixD) (kD .non)))
@[simp] def Ykb:AU:=(sSeq (sOwn 3 (Ybb (b1 (getV 0) Yn) [none,some 2] (gSet 0) (Ycy) (Ycz))) Yka)
def Yc0:AU:=(sSeq (sIf (b2 (getC 1) (kD .non) (isN true)) (sRet (getV 1)) sNil) Ykb)
def Ybf:AR->Option D:=runB 3 4 Yc0
def Yk1(bl:Bl K w mg):Okf P w K mg base 2 3 "storms_places" ["pairs","void","storms"] Ybf:=by
 refine okfn bl.f54 aBc λhr=>?_;exact(Yi (Yah (Yeq (Yc 1) (Yd Yar)) (Ym (Yo (Ye 1))) Yac) (Yi (Yfr 3 aBc.nd aYa rfl (Yae (Ye 0)) (λ_ _ _ _ _=>(Yw 0 aYa.nd)) (λ_ _ _ _ _=>(Yer (y1w hr.units (Yd (Yl (Yhx bl) hr rfl (Yb (Ye 0) Yh) aL1)) (Yc 1)))) (λ_ _ _ _ _=>(Yk (Yc 0) (Yd Yj))) (Yan (i:=0) rfl)) (Ym (Yo (Yw1 (Yb4 (Yc 3)) (Yk (Yc 3) (Yd Yj)) Yar)))))
def aEc:aJc ["pairs","keepers","rules","rows","keeper","rule","rest"] ["pairs","keepers"] (aIc (top 55)):=fns
def aAb:aMc ["pairs","keepers","rules","rows","keeper","rule","rest"] (aIc (top 55)) ["pair"] [none] (fsc [(".0",.local),("pair",.local),("last_beacon",.globalImplicit)]):=Yab (by decide +kernel)
def aBb:aMc ["pairs","keepers","rules","rows","keeper","rule","rest"] (aIc (top 55)) ["keeper","rows"] [none,some 3] (fsc [(".0",.local),("keeper",.local),("rows",.free)]):=Yab (by decide +kernel)
def Yc1:AX:=(dTup (Yg (cC (Yg (getV 0) aNil) Ycx) (Yg (b2 (getC 0) (kD (.int 1)) ixD) aNil)))
def Yd2:AU:=(sSeq (sSet 5 (b3 (getC 2) (getC 4) (dTup (Yg (dTup (Yg (getV 4) aNil)) (Yg (kD (.bl false)) aNil))) Ypv)) (sSeq (sSet 6 (Yno [3] (cC (Yg (dTup (Yg (slD (b2 (getC 5) (kD (.int 0)) ixD) none (some (b1 (kD (.int 1)) negI))) (Yg (kD (.bl false)) aNil))) (Yg (getV 3) aNil)) Yfg))) (Yus 3 (getC 4) (dTup (Yg (getV 4) (Yg (b2 (getC 6) (kD (.int 0)) ixD) (Yg (mB (b2 (b2 (getC 6) (kD (.int 1)) ixD) (b2 (getC 5) (kD (.int 1)) ixD) (eqM true))) aNil)))))))
def Yf4:AX:=(b2 (getC 1) (getC 0) getI)
@[simp] def Ygz:AU:=(wF [3] (sRet (cC (Yg (lF (Ybb (b1 (getV 1) Yn) [none,some 3] (gSet 0) tY (Yf4))) aNil) tupC)))
@[simp] def Ys2:AU:=(sSeq (sFor (b1 (getV 1) Yn) (gSet 4) Yd2) Ygz)
@[simp] def Ys3:AU:=(sSeq (Yuq 3) Ys2)
def Yo4:AU:=(sSeq (sDct 2 (lF (Ybb (b1 (getV 0) Yn) [none] (gSet 0) tY (Yc1)))) Ys3)
def Yhe:AR->Option D:=runB 2 7 Yo4
def Yvh(bl:Bl K w mg):Okf P w K mg base 3 2 "sum_rows" ["pairs","keepers"] Yhe:=by
 refine okfn bl.f55 aEc λhr=>?_;exact(Yi (y2b rfl 2 aEc.nd rfl bl.Dict (Yd (Yaf (Yaq aAb rfl (Yae (Ye 0)) (λ_ _ _ _ _=>(Yw 0 aAb.nd)) (λ_ _ _ _ _=>Ya8) (λ_ _ _ _ _=>(Yt (Yb (Yl (Yhx bl) hr rfl (Yb (Ye 0) Yh) aL1) (Yb (Yk (Yc 0) (Yd Yj)) Yh)))) (Yan (i:=0) rfl))))) (Yi (Yp7 3 aEc.nd) (Yi (Ybh jf rfl (Yae (Ye 1)) (Yw 4 aEc.nd) (Yi (Yv 5 aEc.nd (Ysm hr.units (Yc 2) (Yc 4) (Yt (Yb (Yt (Yb (Ye 4) Yh)) (Yb Yee Yh))) ⟨rfl,rfl,rfl,rfl⟩)) (Yi (Yv 6 aEc.nd (Ysl [3] (Yl (Yve bl) hr rfl (Yb (Yt (Yb (Yfd (fl:=none) (fh:=(some (b1 (kD (.int 1)) negI))) (Yd (Yk (Yc 5) (Yd Yj))) Ymj (Ymk (Yd (Yml (Yd Yj))))) (Yb Yee Yh))) (Yb (Ye 3) Yh)) aL2))) (Ym (Yp8 hr.units 3 (Yc 4) (Yt (Yb (Ye 4) (Yb (Yk (Yc 6) (Yd Yj)) (Yb (Yw0 hr.units (Yd (Yk (Yc 6) (Yd Yj))) (Yd (Yk (Yc 5) (Yd Yj)))) Yh))))))))) (Ym (Ycf [3] (Yo (Yai Yy Ybr rfl bl.Tuple boot_tuple (Yq (Yd (Yaf (Yaq aBb rfl (Yae (Ye 1)) (λ_ _ _ _ _=>(Yw 0 aBb.nd)) (λ_ _ _ _ _=>Ya8) (λ_ _ _ _ _=>(Ylg hr.units (Yc 1) (Yc 0))) (Yan (i:=0) rfl)))) Ys))))))))
def aDc:aJc ["book","hands","start","keepers","storms","answer","places"] ["book","hands","start"] (aIc (top 56)):=fns
@[simp] def Ym5:AU:=(sRet (dTup (Yg (kD (.str "keeper")) (Yg (dTup (Yg (kD (.str "sums")) (Yg (cC (Yg (b2 (getC 5) (kD (.int 0)) ixD) (Yg (getV 3) aNil)) Yhe) aNil))) aNil))))
@[simp] def Ym6:AU:=(sSeq (sIf (b2 (getC 6) (kD .non) (isN true)) (sRet (dTup (Yg (kD (.str "storm")) (Yg (dTup (Yg (kD (.str "odd")) (Yg (getV 6) aNil))) aNil)))) sNil) Ym5)
@[simp] def Ym7:AU:=(sSeq (sSet 6 (cC (Yg (b2 (getC 5) (kD (.int 0)) ixD) (Yg (b2 (getC 5) (kD (.int 1)) ixD) (Yg (getV 4) aNil))) Ybf)) Ym6)
@[simp] def Ym8:AU:=(sSeq (sSet 5 (cC (Yg (getV 0) aNil) Ygr)) Ym7)
@[simp] def Ym9:AU:=(sSeq (sSet 4 (cC (Yg (getV 1) (Yg (getV 2) (Yg (kD (.str "storm")) aNil))) Yat)) Ym8)
def Yf5:AU:=(sSeq (sSet 3 (cC (Yg (getV 1) (Yg (getV 2) (Yg (kD (.str "keeper")) aNil))) Yat)) Ym9)
def Yb3:AR->Option D:=runB 3 7 Yf5
def Yoa(bl:Bl K w mg):Okf P w K mg base 5 3 "sum_outcome" ["book","hands","start"] Yb3:=by
 refine okfn bl.f56 aDc λhr=>?_;exact(Yi (Yv 3 aDc.nd (Yl (Ybe bl) hr rfl (Yb (Ye 1) (Yb (Ye 2) (Yb Yx Yh))) aL3)) (Yi (Yv 4 aDc.nd (Yl (Ybe bl) hr rfl (Yb (Ye 1) (Yb (Ye 2) (Yb Yx Yh))) aL3)) (Yi (Yv 5 aDc.nd (Yl (Yy5 bl) hr rfl (Yb (Ye 0) Yh) aL1)) (Yi (Yv 6 aDc.nd (Yl (Yk1 bl) hr rfl (Yb (Yk (Yc 5) (Yd Yj)) (Yb (Yk (Yc 5) (Yd Yj)) (Yb (Ye 4) Yh))) aL3)) (Yi (Yah (Yeq (Yc 6) (Yd Yar)) (Ym (Yo (Yt (Yb Yx (Yb (Yt (Yb Yx (Yb (Ye 6) Yh))) Yh))))) Yac) (Ym (Yo (Yt (Yb Yx (Yb (Yt (Yb Yx (Yb (Yl (Yvh bl) hr rfl (Yb (Yk (Yc 5) (Yd Yj)) (Yb (Ye 3) Yh)) aL2) Yh))) Yh))))))))))
def Yzc:aJc ["book","hands","start"] ["book","hands","start"] (aIc (top 58)):=fns
@[simp] def Yvi:AU:=(sRet (cC (Yg (getV 0) (Yg (getV 1) (Yg (getV 2) aNil))) Yb2))
@[simp] def Yvj:AU:=(sSeq (sIf (b2 (b2 (getC 0) (kD (.int 0)) ixD) (kD (.str "nots")) (eqM false)) (sRet (cC (Yg (cC (Yg (getV 0) aNil) Yeh) (Yg (getV 1) (Yg (getV 2) aNil))) Yb2)) sNil) Yvi)
@[simp] def Yvk:AU:=(sSeq (sIf (b2 (b2 (getC 0) (kD (.int 0)) ixD) (kD (.str "sums")) (eqM false)) (sRet (cC (Yg (getV 0) (Yg (getV 1) (Yg (getV 2) aNil))) Yb3)) sNil) Yvj)
def Yen:AU:=(sSeq (sIf (b2 (b2 (getC 0) (kD (.int 0)) ixD) (kD (.str "eithers")) (eqM false)) (sRet (cC (Yg (getV 0) (Yg (getV 1) (Yg (getV 2) aNil))) Ybl)) sNil) Yvk)
def Yg0:AR->Option D:=runB 3 3 Yen
def Yzd(bl:Bl K w mg):Okd P w K mg base 7 2 "outcome" ["book","hands","start"] Yg0:=by
 refine Yagt bl.f58 Yzc λhr=>?_;exact(Yi (Yah (Ybx hr.units (Yd (Yk (Yc 0) (Yd Yj))) (Yd Yx)) (Ym (Yo (Yl (Yj8 bl) hr rfl (Yb (Ye 0) (Yb (Ye 1) (Yb (Ye 2) Yh))) aL3))) Yac) (Yi (Yah (Ybx hr.units (Yd (Yk (Yc 0) (Yd Yj))) (Yd Yx)) (Ym (Yo (Yl (Yoa bl) hr rfl (Yb (Ye 0) (Yb (Ye 1) (Yb (Ye 2) Yh))) aL3))) Yac) (Yi (Yah (Ybx hr.units (Yd (Yk (Yc 0) (Yd Yj))) (Yd Yx)) (Ym (Yo (Yl (Yjg bl) hr rfl (Yb (Yl (Yss bl) hr rfl (Yb (Ye 0) Yh) aL1) (Yb (Ye 1) (Yb (Ye 2) Yh))) aL3))) Yac) (Ym (Yo (Yl (Yjg bl) hr rfl (Yb (Ye 0) (Yb (Ye 1) (Yb (Ye 2) Yh))) aL3))))))
def Yvl:aJc ["script","k"] ["script","k"] (aIc (top 60)):=fns
def Ykc:AU:=(sSeq (sIf (b2 (getC 1) (cC (Yg (getC 0) aNil) lenC) ltI) (sRet (b2 (getC 0) (getC 1) ixD)) sNil) (sRet (kD (.int 0))))
def Yck:AR->Option D:=runB 2 2 Ykc
def Yf6(bl:Bl K w mg):Okf P w K mg base 1 2 "_law_cell" ["script","k"] Yck:=by
 refine okfn bl.f60 Yvl λhr=>?_;exact(Yi (Yah (Ywz (Yc 1) (Yd (Yau Ya4 Yfn rfl bl.Len PySem.boot_len (Yq (Yc 0) Ys)))) (Ym (Yo (Yk (Yc 0) (Yc 1)))) Yac) (Ym (Yo Yj)))
def Ys4:aJc ["cell","by"] ["cell","by"] (aIc (top 61)):=fns
def Yna:AU:=(sRet (b2 (b2 (b2 (getC 0) (kD (.int 2305843009213693951)) modI) (getC 1) mulI) (kD (.int 2305843009213693951)) modI))
def Yde:AR->Option D:=runB 2 2 Yna
def Yg1(bl:Bl K w mg):Okf P w K mg base 1 2 "_law_mixed" ["cell","by"] Yde:=by
 refine okfn bl.f61 Ys4 λhr=>?_;exact(Ym (Yo (Ybc (Yd (y1v (Yd (Ybc (Yc 0) (Yd Yj))) (Yc 1))) (Yd Yj))))
def aQb:aJc ["cell","many","left"] ["cell","many"] (aIc (top 62)):=fns
def aRa:aMc ["cell","many","left"] (aIc (top 62)) ["k","left"] [none,some 2] (fsc [(".0",.local),("k",.local),("left",.free)]):=Yab (by decide +kernel)
def Ydj:AX:=(b2 (lF (dLst (Yg (kD (.str "keeper")) (Yg (kD (.str "storm")) aNil)))) (b2 (b2 (getC 1) (getC 0) shrI) (kD (.int 2)) modI) ixD)
def Ynb:AU:=(sSeq (sSet 2 (cC (Yg (getV 0) (Yg (kD (.int 1442695040888963407)) aNil)) Yde)) (sRet (cC (Yg (lF (Ybb (cF (Yg (getV 1) aNil) rng1) [none,some 2] (gSet 0) tY (Ydj))) aNil) tupC)))
def Yf7:AR->Option D:=runB 2 3 Ynb
def Ys5(bl:Bl K w mg):Okf P w K mg base 2 2 "_law_hands" ["cell","many"] Yf7:=by
 refine okfn bl.f62 aQb λhr=>?_;exact(Yi (Yv 2 aQb.nd (Yl (Yg1 bl) hr rfl (Yb (Ye 0) (Yb Yj Yh)) aL2)) (Ym (Yo (Yai Yy Ybr rfl bl.Tuple boot_tuple (Yq (Yd (Yaf (Yaq aRa rfl (Yfc rfl bl.Range (Yb (Ye 1) Yh)) (λ_ _ _ _ _=>(Yw 0 aRa.nd)) (λ_ _ _ _ _=>Ya8) (λ_ _ _ _ _=>(Yk (Yd (Yaf (Ycq (Yb Yx (Yb Yx Yh))))) (Yd (Ybc (Yd (y2a (Yc 1) (Yc 0))) (Yd Yj))))) (Yan (i:=0) rfl)))) Ys)))))
def aRb:aJc ["kind","cell","start","many","left","size","picked","k"] ["kind","cell","start","many"] (aIc (top 64)):=fns
def aSa:aMc ["kind","cell","start","many","left","size","picked","k"] (aIc (top 64)) ["k","picked","left"] [none,some 6,some 4] (fsc [(".0",.local),("k",.local),("left",.free),("picked",.free)]):=Yab (by decide +kernel)
def Yc2:AU:=(sSeq (sIf (b2 (b2 (getC 2) (b2 (getC 4) (b2 (getC 3) (getC 2) subI) modI) addI) (getC 6) (inM true)) (sMut 6 (b2 (getC 2) (b2 (getC 4) (b2 (getC 3) (getC 2) subI) modI) addI) appD) sNil) (sSet 4 (b2 (getC 4) (b2 (getC 3) (getC 2) subI) divI)))
def Yd3:AX:=(dTup (Yg (b2 (getC 1) (getC 0) ixD) (Yg (mB (b2 (b2 (b2 (getC 2) (getC 0) shrI) (kD (.int 2)) modI) (kD (.int 1)) (eqM false))) aNil)))
@[simp] def Yqm:AU:=(sRet (dTup (Yg (cC (Yg (lF (cF (Yg (getC 6) aNil) Yh7)) aNil) tupC) (Yg (b2 (getC 2) (b2 (b2 (getC 4) (kD (.int 4)) divI) (b2 (getC 3) (getC 2) subI) modI) addI) aNil))))
@[simp] def Ys6:AU:=(sSeq (sIf (b2 (b2 (getC 4) (kD (.int 4)) modI) (kD (.int 1)) (eqM false)) (sOwn 6 (slF (getC 6) (some (kD (.int 1))) none)) sNil) Yqm)
@[simp] def Ys7:AU:=(sSeq (sIf (b2 (b2 (getC 4) (kD (.int 4)) modI) (kD (.int 0)) (eqM false)) (sRet (dTup (Yg (cC (Yg (lF (cF (Yg (getC 6) aNil) Yh7)) aNil) tupC) (Yg (kD .non) aNil)))) sNil) Ys6)
@[simp] def Ys8:AU:=(sSeq (sIf (b2 (getC 0) (kD (.str "sums")) (eqM false)) (sRet (dTup (Yg (cC (Yg (lF (cF (Yg (getC 6) aNil) Yh7)) aNil) tupC) (Yg (mB (b2 (b2 (getC 4) (kD (.int 2)) modI) (kD (.int 1)) (eqM false))) aNil)))) sNil) Ys7)
@[simp] def Ys9:AU:=(sSeq (sIf (b2 (getC 0) (kD (.str "eithers")) (eqM false)) (wF [6] (sRet (cC (Yg (lF (cF (Yg (lF (Ybb (cF (Yg (cC (Yg (getC 6) aNil) lenC) aNil) rng1) [none,some 6,some 4] (gSet 0) tY (Yd3))) aNil) Yh7)) aNil) tupC))) sNil) Ys8)
@[simp] def Yta:AU:=(sSeq (sFor (cF (Yg (getV 5) aNil) rng1) (gSet 7) Yc2) Ys9)
@[simp] def Ytb:AU:=(sSeq (sOwn 6 (dLst aNil)) Yta)
@[simp] def Ytc:AU:=(sSeq (sSet 4 (b2 (getC 4) (kD (.int 8)) divI)) Ytb)
@[simp] def Ytd:AU:=(sSeq (sIf (b2 (getC 0) (kD (.str "eithers")) (eqM false)) (sSet 5 (cC (Yg (getC 5) (Yg (kD (.int 2)) aNil)) minC)) sNil) Ytc)
@[simp] def Yte:AU:=(sSeq (sSet 5 (b2 (lF (Yr9 [1,2,2,2,1,2,3,4])) (b2 (getC 4) (kD (.int 8)) modI) ixD)) Ytd)
def Yd7:AU:=(sSeq (sSet 4 (cC (Yg (getV 1) (Yg (kD (.int 1181783497276652981)) aNil)) Yde)) Yte)
def Yhf:AR->Option D:=runB 4 8 Yd7
def Yvm(bl:Bl K w mg):Okf P w K mg base 2 4 "_law_rule" ["kind","cell","start","many"] Yhf:=by
 refine okfn bl.f64 aRb λhr=>?_;exact(Yi (Yv 4 aRb.nd (Yl (Yg1 bl) hr rfl (Yb (Ye 1) (Yb Yj Yh)) aL2)) (Yi (y55 _ _ _ _ _ _ 5 _ _ _ [1,2,2,2,1,2,3,4] aRb.nd (by decide +kernel) rfl (by trivial) (by trivial) (by intro _ _;rfl) (Yd (Ybc (Yc 4) (Yd Yj)))) (Yi (Yah (Ybx hr.units (Yc 0) (Yd Yx)) (Ym (Yv 5 aRb.nd (Yau (Ylq rfl) Yuu rfl bl.Min boot_min (Yq (Yc 5) (Yq (Yd Yj) Ys))))) Yac) (Yi (Yv 4 aRb.nd (Ygl (Yc 4) (Yd Yj))) (Yi (Yfq 6 aRb.nd (Ycq Yh)) (Yi (Ybh jf rfl (Yfc rfl bl.Range (Yb (Ye 5) Yh)) (Yw 7 aRb.nd) (Yi (Yah (y1x hr.units (Yd (Yc9 (Yc 2) (Yd (Ybc (Yc 4) (Yd (Yj2 (Yc 3) (Yc 2))))))) (Yc 6)) (Ym (Yd5 6 (Yc9 (Yc 2) (Yd (Ybc (Yc 4) (Yd (Yj2 (Yc 3) (Yc 2)))))))) Yac) (Ym (Yv 4 aRb.nd (Ygl (Yc 4) (Yd (Yj2 (Yc 3) (Yc 2)))))))) (Yi (Yah (Ybx hr.units (Yc 0) (Yd Yx)) (Ym (Ycf [6] (Yo (Yai Yy Ybr rfl bl.Tuple boot_tuple (Yq (Yd (Yaf (Ycr Ybw Yce rfl bl.Sorted boot_sorted (Yq (Yd (Yaf (Yaq aSa rfl (Yfc rfl bl.Range (Yb (Yau Ya4 Yfn rfl bl.Len PySem.boot_len (Yq (Yc 6) Ys)) Yh)) (λ_ _ _ _ _=>(Yw 0 aSa.nd)) (λ_ _ _ _ _=>Ya8) (λ_ _ _ _ _=>(Yt (Yb (Yk (Yc 1) (Yc 0)) (Yb (Yix hr.units (Yd (Ybc (Yd (y2a (Yc 2) (Yc 0))) (Yd Yj))) (Yd Yj)) Yh)))) (Yan (i:=0) rfl)))) Ys)))) Ys))))) Yac) (Yi (Yah (Ybx hr.units (Yc 0) (Yd Yx)) (Ym (Yo (Yt (Yb (Yai Yy Ybr rfl bl.Tuple boot_tuple (Yq (Yd (Yaf (Ycr Ybw Yce rfl bl.Sorted boot_sorted (Yq (Yc 6) Ys)))) Ys)) (Yb (Yix hr.units (Yd (Ybc (Yc 4) (Yd Yj))) (Yd Yj)) Yh))))) Yac) (Yi (Yah (Ybx hr.units (Yd (Ybc (Yc 4) (Yd Yj))) (Yd Yj)) (Ym (Yo (Yt (Yb (Yai Yy Ybr rfl bl.Tuple boot_tuple (Yq (Yd (Yaf (Ycr Ybw Yce rfl bl.Sorted boot_sorted (Yq (Yc 6) Ys)))) Ys)) (Yb Yar Yh))))) Yac) (Yi (Yah (Ybx hr.units (Yd (Ybc (Yc 4) (Yd Yj))) (Yd Yj)) (Ym (Yfq 6 aRb.nd (y15 (fl:=(some (kD (.int 1)))) (fh:=none) (Yc 6) (Ymk (Yd Yj)) Ymj))) Yac) (Ym (Yo (Yt (Yb (Yai Yy Ybr rfl bl.Tuple boot_tuple (Yq (Yd (Yaf (Ycr Ybw Yce rfl bl.Sorted boot_sorted (Yq (Yc 6) Ys)))) Ys)) (Yb (Yc9 (Yc 2) (Yd (Ybc (Yd (Ygl (Yc 4) (Yd Yj))) (Yd (Yj2 (Yc 3) (Yc 2)))))) Yh)))))))))))))))
def Ytf:aJc ["beacon","at"] ["beacon","at"] (aIc (top 65)):=fns
@[simp] def Yqn:AU:=(sRet (getV 0))
@[simp] def Yqo:AU:=(sSeq (sIf (b2 (getC 0) (b2 (getC 1) (kD (.int 1)) addI) (eqM false)) (sRet (getV 1)) sNil) Yqn)
def Yf8:AU:=(sSeq (sIf (b2 (getC 0) (getC 1) (eqM false)) (sRet (b2 (getC 1) (kD (.int 1)) addI)) sNil) Yqo)
def Ydf:AR->Option D:=runB 2 2 Yf8
def Yg2(bl:Bl K w mg):Okf P w K mg base 1 2 "_law_moved" ["beacon","at"] Ydf:=by
 refine okfn bl.f65 Ytf λhr=>?_;exact(Yi (Yah (Ybx hr.units (Yc 0) (Yc 1)) (Ym (Yo (Yc9 (Yc 1) (Yd Yj)))) Yac) (Yi (Yah (Ybx hr.units (Yc 0) (Yd (Yc9 (Yc 1) (Yd Yj)))) (Ym (Yo (Ye 1))) Yac) (Ym (Yo (Ye 0)))))
def aOb:aJc ["kind","rule","at","beacons"] ["kind","rule","at"] (aIc (top 66)):=fns
def aPa:aMc ["kind","rule","at","beacons"] (aIc (top 66)) ["one","at"] [none,some 2] (fsc [(".0",.local),("one",.local),("_law_moved",.globalImplicit),("at",.free)]):=Yab (by decide +kernel)
def aQa:aMc ["kind","rule","at","beacons"] (aIc (top 66)) ["beacon","at"] [none,some 2] (fsc [(".0",.local),("beacon",.local),("_law_moved",.globalImplicit),("at",.free)]):=Yab (by decide +kernel)
def Ydv:AX:=(dTup (Yg (cC (Yg (b2 (getC 0) (kD (.int 0)) ixD) (Yg (getV 1) aNil)) Ydf) (Yg (b2 (getC 0) (kD (.int 1)) ixD) aNil)))
def Ycd:AX:=(cC (Yg (getV 0) (Yg (getV 1) aNil)) Ydf)
@[simp] def Ync:AU:=(sRet (dTup (Yg (getV 3) (Yg (cC (Yg (b2 (getC 1) (kD (.int 1)) ixD) (Yg (getV 2) aNil)) Ydf) aNil))))
@[simp] def Ynd:AU:=(sSeq (sIf (orT (b2 (getC 0) (kD (.str "sums")) (eqM false)) (b2 (b2 (getC 1) (kD (.int 1)) ixD) (kD .non) (isN false))) (sRet (dTup (Yg (getV 3) (Yg (b2 (getC 1) (kD (.int 1)) ixD) aNil)))) sNil) Ync)
@[simp] def Yne:AU:=(sSeq (sSet 3 (cC (Yg (lF (cF (Yg (lF (Ybb (b1 (b2 (getC 1) (kD (.int 0)) ixD) Yn) [none,some 2] (gSet 0) tY (Ycd))) aNil) Yh7)) aNil) tupC)) Ynd)
def Yc3:AU:=(sSeq (sIf (b2 (getC 0) (kD (.str "eithers")) (eqM false)) (sRet (cC (Yg (lF (cF (Yg (lF (Ybb (b1 (getV 1) Yn) [none,some 2] (gSet 0) tY (Ydv))) aNil) Yh7)) aNil) tupC)) sNil) Yne)
def Yc4:AR->Option D:=runB 3 4 Yc3
def Yhy(bl:Bl K w mg):Okf P w K mg base 2 3 "_law_changed" ["kind","rule","at"] Yc4:=by
 refine okfn bl.f66 aOb λhr=>?_;exact(Yi (Yah (Ybx hr.units (Yc 0) (Yd Yx)) (Ym (Yo (Yai Yy Ybr rfl bl.Tuple boot_tuple (Yq (Yd (Yaf (Ycr Ybw Yce rfl bl.Sorted boot_sorted (Yq (Yd (Yaf (Yaq aPa rfl (Yae (Ye 1)) (λ_ _ _ _ _=>(Yw 0 aPa.nd)) (λ_ _ _ _ _=>Ya8) (λ_ _ _ _ _=>(Yt (Yb (Yl (Yg2 bl) hr rfl (Yb (Yk (Yc 0) (Yd Yj)) (Yb (Ye 1) Yh)) aL2) (Yb (Yk (Yc 0) (Yd Yj)) Yh)))) (Yan (i:=0) rfl)))) Ys)))) Ys)))) Yac) (Yi (Yv 3 aOb.nd (Yai Yy Ybr rfl bl.Tuple boot_tuple (Yq (Yd (Yaf (Ycr Ybw Yce rfl bl.Sorted boot_sorted (Yq (Yd (Yaf (Yaq aQa rfl (Yae (Yk (Yc 1) (Yd Yj))) (λ_ _ _ _ _=>(Yw 0 aQa.nd)) (λ_ _ _ _ _=>Ya8) (λ_ _ _ _ _=>(Yl (Yg2 bl) hr rfl (Yb (Ye 0) (Yb (Ye 1) Yh)) aL2)) (Yan (i:=0) rfl)))) Ys)))) Ys))) (Yi (Yah (Ygm (Ysk (Ybx hr.units (Yc 0) (Yd Yx)) (Yp3 (Yp5 (Yd (Yk (Yc 1) (Yd Yj))) (Yd Yar))))) (Ym (Yo (Yt (Yb (Ye 3) (Yb (Yk (Yc 1) (Yd Yj)) Yh))))) Yac) (Ym (Yo (Yt (Yb (Ye 3) (Yb (Yl (Yg2 bl) hr rfl (Yb (Yk (Yc 1) (Yd Yj)) (Yb (Ye 2) Yh)) aL2) Yh))))))))
def aPb:aJc ["kind","rules","hands","found"] ["kind","rules","hands"] (aIc (top 67)):=fns
@[simp] def Ytg:AU:=(sRet (b2 (getC 3) (kD (.int 0)) ixD))
@[simp] def Yth:AU:=(sSeq (sIf (orT (notT (b1 (mB (b1 (getC 3) (isiD "tuple"))) truD)) (b2 (cC (Yg (getC 3) aNil) lenC) (kD (.int 2)) (eqM true))) (sRet (kD (.str "nobody"))) sNil) Ytg)
def Yo5:AU:=(sSeq (sSet 3 (cC (gD (Yg (dTup (Yg (getV 0) (Yg (cC (Yg (getC 1) aNil) tupC) aNil))) (Yg (getV 2) aNil))) Yg0)) Yth)
def Yd8:AR->Option D:=runB 3 4 Yo5
def Yik(bl:Bl K w mg):Okf P w K mg base 8 3 "_law_hand" ["kind","rules","hands"] Yd8:=by
 refine okfn bl.f67 aPb λhr=>?_;exact(Yi (Yv 3 aPb.nd (y2u (Yzd bl) hr rfl (Yb (Yt (Yb (Ye 0) (Yb (Yai Yy Ybr rfl bl.Tuple boot_tuple (Yq (Yc 1) Ys)) Yh))) (Yb (Ye 2) Yh)) aL2)) (Yi (Yah (Ygm (Ysk (y1y (Yb4 (Yd (Yaal (Yc 3) rfl rfl bl.Isinstance bl.Tuple boot_tuple (y0y))))) (Yp3 (Yor hr.units (Yd (Yau Ya4 Yfn rfl bl.Len PySem.boot_len (Yq (Yc 3) Ys))) (Yd Yj))))) (Ym (Yo Yx)) Yac) (Ym (Yo (Yk (Yc 3) (Yd Yj))))))
def aNb:aJc ["script","many","way","at","hands","other","low","far","k","kind","many_rules","rules","changed","hand","later"] ["script"] (aIc (top 68)):=fns
def aMa:aMc ["script","many","way","at","hands","other","low","far","k","kind","many_rules","rules","changed","hand","later"] (aIc (top 68)) ["j","kind","script","k","low","far"] [none,some 9,some 0,some 8,some 6,some 7] (fsc [(".0",.local),("j",.local),("_law_rule",.globalImplicit),("_law_cell",.globalImplicit),("far",.free),("k",.free),("kind",.free),("low",.free),("script",.free)]):=Yab (by decide +kernel)
def aNa:aMc ["script","many","way","at","hands","other","low","far","k","kind","many_rules","rules","changed","hand","later"] (aIc (top 68)) ["rule","kind","at"] [none,some 9,some 3] (fsc [(".0",.local),("rule",.local),("_law_changed",.globalImplicit),("at",.free),("kind",.free)]):=Yab (by decide +kernel)
def aOa:aMc ["script","many","way","at","hands","other","low","far","k","kind","many_rules","rules","changed","hand","later"] (aIc (top 68)) ["rule","kind","at"] [none,some 9,some 3] (fsc [(".0",.local),("rule",.local),("_law_changed",.globalImplicit),("at",.free),("kind",.free)]):=Yab (by decide +kernel)
def Yqp:AX:=(cC (Yg (getV 1) (Yg (cC (Yg (getV 2) (Yg (b2 (b2 (kD (.int 3)) (getC 3) addI) (b2 (kD (.int 4)) (getC 0) mulI) addI) aNil)) Yck) (Yg (getV 4) (Yg (getV 5) aNil)))) Yhf)
def Yqq:AX:=(cC (Yg (getV 1) (Yg (getV 0) (Yg (getV 2) aNil))) Yc4)
def Yqr:AX:=(cC (Yg (getV 1) (Yg (getV 0) (Yg (getV 2) aNil))) Yc4)
def Yji:AU:=(sSeq (sSet 9 (b2 (lF (dLst (Yg (kD (.str "nots")) (Yg (kD (.str "eithers")) (Yg (kD (.str "sums")) (Yg (kD (.str "ifs")) aNil)))))) (getC 8) ixD)) (sSeq (sSet 10 (b2 (b2 (getC 2) (b2 (lF (dLst (Yg (kD (.int 2048)) (Yg (kD (.int 32768)) (Yg (kD (.int 524288)) (Yg (kD (.int 8388608)) aNil)))))) (getC 8) ixD) divI) (kD (.int 13)) modI)) (sSeq (sOwn 11 (Ybb (cF (Yg (getV 10) aNil) rng1) [none,some 9,some 0,some 8,some 6,some 7] (gSet 0) tY (Yqp))) (sSeq (wF [11] (sOwn 12 (Ybb (b1 (getV 11) Yn) [none,some 9,some 3] (gSet 0) tY (Yqq)))) (sSeq (wF [11] (sSet 13 (cC (Yg (getV 9) (Yg (getV 11) (Yg (getV 4) aNil))) Yd8))) (sSeq (wF [12] (sSet 14 (cC (Yg (getV 9) (Yg (getV 12) (Yg (getV 5) aNil))) Yd8))) (sSeq (sIf (orT (b2 (getC 13) (kD (.str "nobody")) (eqM false)) (orT (b2 (getC 14) (kD (.str "nobody")) (eqM false)) (andT (b2 (getC 13) (kD (.str "keeper")) (eqM false)) (b2 (getC 14) (kD (.str "keeper")) (eqM true))))) (sRet (kD (.bl false))) sNil) (wF [12] (sIf (b2 (cC (Yg (getV 9) (Yg (lF (Ybb (b1 (getV 12) Yn) [none,some 9,some 3] (gSet 0) tY (Yqr))) (Yg (getV 4) aNil))) Yd8) (getC 13) (eqM true)) (sRet (kD (.bl false))) sNil)))))))))
def y6j:AU:=(sRet (kD (.bl true)))
def Yvn:AU:=(sSeq (sFor (cF (Yg (kD (.int 4)) aNil) rng1) (gSet 8) Yji) y6j)
def y2x:AU:=(sSeq (sIf (b2 (b2 (b2 (getC 2) (kD (.int 64)) divI) (kD (.int 2)) modI) (kD (.int 1)) (eqM false)) (sSeq (sSet 6 (cC (Yg (kD (.int 0)) (Yg (b2 (getC 3) (b2 (b2 (getC 2) (kD (.int 128)) divI) (kD (.int 3)) modI) subI) aNil)) maxC)) (sSet 7 (cC (Yg (getC 1) (Yg (b2 (b2 (getC 3) (kD (.int 2)) addI) (b2 (b2 (getC 2) (kD (.int 512)) divI) (kD (.int 3)) modI) addI) aNil)) minC))) sNil) Yvn)
def y2y:AU:=(sSeq (sSet 7 (cC (Yg (getC 1) (Yg (b2 (lF (dLst (Yg (kD (.int 2)) (Yg (kD (.int 4)) (Yg (kD (.int 8)) (Yg (kD (.int 30)) aNil)))))) (b2 (getC 2) (kD (.int 4)) modI) ixD) aNil)) minC)) y2x)
def y2z:AU:=(sSeq (sSet 6 (kD (.int 0))) y2y)
def y20:AU:=(sSeq (sSet 5 (b2 (b2 (slD (getC 4) none (some (getC 3))) (dTup (Yg (kD (.str "storm")) (Yg (kD (.str "keeper")) aNil))) Ykv) (slD (getC 4) (some (b2 (getC 3) (kD (.int 2)) addI)) none) Ykv)) y2z)
def y21:AU:=(sSeq (sSet 4 (b2 (b2 (slD (getC 4) none (some (getC 3))) (dTup (Yg (kD (.str "keeper")) (Yg (kD (.str "storm")) aNil))) Ykv) (slD (getC 4) (some (b2 (getC 3) (kD (.int 2)) addI)) none) Ykv)) y20)
def y22:AU:=(sSeq (sSet 4 (cC (Yg (cC (Yg (getV 0) (Yg (kD (.int 1)) aNil)) Yck) (Yg (getV 1) aNil)) Yf7)) y21)
def y23:AU:=(sSeq (sSet 3 (b2 (b2 (getC 2) (kD (.int 4)) divI) (b2 (getC 1) (kD (.int 1)) subI) modI)) y22)
def y24:AU:=(sSeq (sSet 2 (cC (Yg (cC (Yg (getV 0) (Yg (kD (.int 2)) aNil)) Yck) (Yg (kD (.int 1865811235122147685)) aNil)) Yde)) y23)
def Yaay:AU:=(sSeq (sSet 1 (b2 (kD (.int 2)) (b2 (cC (Yg (getV 0) (Yg (kD (.int 0)) aNil)) Yck) (kD (.int 29)) modI) addI)) y24)
def Yvo:AR->Option D:=runB 1 15 Yaay
def Yaeu(bl:Bl K w mg)(F:Fun K "law" "law" (top 68) a fd):FnOk P w K mg base CX0 9 a fd ["script"] (spOf K 1 Yvo):=by
 refine Yos (k:=8) F aNb rfl rfl λcdv A outer s H E hr=>?_;exact(Yi (Yv 1 aNb.nd (Yc9 (Yd Yj) (Yd (Ybc (Yd (Yl (Yf6 bl) hr rfl (Yb (Ye 0) (Yb Yj Yh)) aL2)) (Yd Yj))))) (Yi (Yv 2 aNb.nd (Yl (Yg1 bl) hr rfl (Yb (Yl (Yf6 bl) hr rfl (Yb (Ye 0) (Yb Yj Yh)) aL2) (Yb Yj Yh)) aL2)) (Yi (Yv 3 aNb.nd (Ybc (Yd (Ygl (Yc 2) (Yd Yj))) (Yd (Yj2 (Yc 1) (Yd Yj))))) (Yi (Yv 4 aNb.nd (Yl (Ys5 bl) hr rfl (Yb (Yl (Yf6 bl) hr rfl (Yb (Ye 0) (Yb Yj Yh)) aL2) (Yb (Ye 1) Yh)) aL2)) (Yi (Yv 4 aNb.nd (Yiz (Yd (Yiz (Yd (Yfd (fl:=none) (fh:=(some (getC 3))) (Yc 4) Ymj (Ymk (Yc 3)))) (Yd (Yt (Yb Yx (Yb Yx Yh)))))) (Yd (Yfd (fl:=(some (b2 (getC 3) (kD (.int 2)) addI))) (fh:=none) (Yc 4) (Ymk (Yd (Yc9 (Yc 3) (Yd Yj)))) Ymj)))) (Yi (Yv 5 aNb.nd (Yiz (Yd (Yiz (Yd (Yfd (fl:=none) (fh:=(some (getC 3))) (Yc 4) Ymj (Ymk (Yc 3)))) (Yd (Yt (Yb Yx (Yb Yx Yh)))))) (Yd (Yfd (fl:=(some (b2 (getC 3) (kD (.int 2)) addI))) (fh:=none) (Yc 4) (Ymk (Yd (Yc9 (Yc 3) (Yd Yj)))) Ymj)))) (Yi (Yv 6 aNb.nd Yj) (Yi (Yv 7 aNb.nd (Yau (Ylq rfl) Yuu rfl bl.Min boot_min (Yq (Yc 1) (Yq (Yd (Yk (Yd (Yaf (Ycq (Yb Yj (Yb Yj (Yb Yj (Yb Yj Yh))))))) (Yd (Ybc (Yc 2) (Yd Yj))))) Ys)))) (Yi (Yah (Ybx hr.units (Yd (Ybc (Yd (Ygl (Yc 2) (Yd Yj))) (Yd Yj))) (Yd Yj)) (Yi (Yv 6 aNb.nd (Yau (Yzy rfl) y98 rfl bl.Max boot_max (Yq (Yd Yj) (Yq (Yd (Yj2 (Yc 3) (Yd (Ybc (Yd (Ygl (Yc 2) (Yd Yj))) (Yd Yj))))) Ys)))) (Ym (Yv 7 aNb.nd (Yau (Ylq rfl) Yuu rfl bl.Min boot_min (Yq (Yc 1) (Yq (Yd (Yc9 (Yd (Yc9 (Yc 3) (Yd Yj))) (Yd (Ybc (Yd (Ygl (Yc 2) (Yd Yj))) (Yd Yj))))) Ys)))))) Yac) (Yi (Ybh jf rfl (Yfc rfl bl.Range (Yb Yj Yh)) (Yw 8 aNb.nd) (Yi (Yv 9 aNb.nd (Yk (Yd (Yaf (Ycq (Yb Yx (Yb Yx (Yb Yx (Yb Yx Yh))))))) (Yc 8))) (Yi (Yv 10 aNb.nd (Ybc (Yd (Ygl (Yc 2) (Yd (Yk (Yd (Yaf (Ycq (Yb Yj (Yb Yj (Yb Yj (Yb Yj Yh))))))) (Yc 8))))) (Yd Yj))) (Yi (Yfr 11 aNb.nd aMa rfl (Yfc rfl bl.Range (Yb (Ye 10) Yh)) (λ_ _ _ _ _=>(Yw 0 aMa.nd)) (λ_ _ _ _ _=>Ya8) (λ_ _ _ _ _=>(Yl (Yvm bl) hr rfl (Yb (Ye 1) (Yb (Yl (Yf6 bl) hr rfl (Yb (Ye 2) (Yb (Yc9 (Yd (Yc9 (Yd Yj) (Yc 3))) (Yd (y1v (Yd Yj) (Yc 0)))) Yh)) aL2) (Yb (Ye 4) (Yb (Ye 5) Yh)))) aL4)) (Yan (i:=0) rfl)) (Yi (Ycf [11] (Yfr 12 aNb.nd aNa rfl (Yae (Ye 11)) (λ_ _ _ _ _=>(Yw 0 aNa.nd)) (λ_ _ _ _ _=>Ya8) (λ_ _ _ _ _=>(Yl (Yhy bl) hr rfl (Yb (Ye 1) (Yb (Ye 0) (Yb (Ye 2) Yh))) aL3)) (Yan (i:=0) rfl))) (Yi (Ycf [11] (Yv 13 aNb.nd (Yl (Yik bl) hr rfl (Yb (Ye 9) (Yb (Ye 11) (Yb (Ye 4) Yh))) aL3))) (Yi (Ycf [12] (Yv 14 aNb.nd (Yl (Yik bl) hr rfl (Yb (Ye 9) (Yb (Ye 12) (Yb (Ye 5) Yh))) aL3))) (Yi (Yah (Ygm (Ysk (Ybx hr.units (Yc 13) (Yd Yx)) (Ysk (Ybx hr.units (Yc 14) (Yd Yx)) (Yp3 (Ygm (Yib (Ybx hr.units (Yc 13) (Yd Yx)) (Yfp (Yor hr.units (Yc 14) (Yd Yx))))))))) (Ym (Yo Yee)) Yac) (Ym (Ycf [12] (Yah (Yor hr.units (Yd (Yl (Yik bl) hr rfl (Yb (Ye 9) (Yb (Yaf (Yaq aOa rfl (Yae (Ye 12)) (λ_ _ _ _ _=>(Yw 0 aOa.nd)) (λ_ _ _ _ _=>Ya8) (λ_ _ _ _ _=>(Yl (Yhy bl) hr rfl (Yb (Ye 1) (Yb (Ye 0) (Yb (Ye 2) Yh))) aL3)) (Yan (i:=0) rfl))) (Yb (Ye 4) Yh))) aL3)) (Yc 13)) (Ym (Yo Yee)) Yac))))))))))) (Ym (Yo Yee))))))))))))
end
abbrev Yqs:Nat:=9
def all_mk{l:W.OpenLaw}{w:World}{K:W7}{h:Heap}{mg:AE}{fa uo:Addr}(X:K.In h)(G:h.Ns mainGlobals mg)(hfa:mg "law"=some (.ref fa)){uw uq:Option Addr}{ux:Array (Option Value)}{uy ur ut uu um uv:Value}(F_contrary:Fk K "contrary" 1)(F_led_to:Fk K "led_to" 2)(F_traced:Fk K "traced" 3)(F_ways_from:Fk K "ways_from" 4)(F_exchanged_rule:Fk K "exchanged_rule" 7)(F_exchanged:Fk K "exchanged" 8)(F_beacons_with:Fk K "beacons_with" 10)(F_both_added:Fk K "both_added" 12)(F_pairs_added:Fk K "pairs_added" 13)(F_cleared:Fk K "cleared" 14)(F_reduced:Fk K "reduced" 15)(F_either_holds:Fk K "either_holds" 17)(F_sum_holds:Fk K "sum_holds" 18)(F_if_holds:Fk K "if_holds" 19)(F_rule_holds:Fk K "rule_holds" 20)(F_beacons_in:Fk K "beacons_in" 21)(F_is_void:Fk K "is_void" 22)(F_without:Fk K "without" 23)(F_is_place:Fk K "is_place" 25)(F_body_is_known:Fk K "body_is_known" 26)(F_is_step:Fk K "is_step" 27)(F_step_to_more:Fk K "step_to_more" 28)(F_derived_in_full:Fk K "derived_in_full" 29)(F_is_broken:Fk K "is_broken" 31)(F_sayings_of:Fk K "sayings_of" 33)(F_lead_to_one_another:Fk K "lead_to_one_another" 34)(F_clash_found:Fk K "clash_found" 35)(F_cross_found:Fk K "cross_found" 36)(F_late_found:Fk K "late_found" 37)(F_storms_paper:Fk K "storms_paper" 38)(F_free_saying:Fk K "free_saying" 39)(F_truths_made:Fk K "truths_made" 40)(F_plan_row:Fk K "plan_row" 41)(F_either_outcome:Fk K "either_outcome" 42)(F_replaced:Fk K "replaced" 44)(F_ahead_of:Fk K "ahead_of" 45)(F_places_to_none:Fk K "places_to_none" 47)(F_places_to_beacon:Fk K "places_to_beacon" 48)(F_some_of:Fk K "some_of" 49)(F_facts_beside:Fk K "facts_beside" 50)(F_if_outcome:Fk K "if_outcome" 51)(F_last_beacon:Fk K "last_beacon" 53)(F_storms_places:Fk K "storms_places" 54)(F_sum_rows:Fk K "sum_rows" 55)(F_sum_outcome:Fk K "sum_outcome" 56)(F_outcome:FkD K "outcome" 58)(F_law_cell:Fk K "_law_cell" 60)(F_law_mixed:Fk K "_law_mixed" 61)(F_law_hands:Fk K "_law_hands" 62)(F_law_rule:Fk K "_law_rule" 64)(F_law_moved:Fk K "_law_moved" 65)(F_law_changed:Fk K "_law_changed" 66)(F_law_hand:Fk K "_law_hand" 67)(uz:W.nsIn K mainGlobals "law"=some (some (.ref uo)))(u0:K.lookup uo=some ⟨uy,uw,.func (W.fnOf "law" "law" (aLc (top 68)) (aKc (top 68)) (aIc (top 68)) .none ur ut uu uq um uv),ux⟩)(u3:W.codeIn K um "law"=true)(u4:W.keepIn K (.ref uo)=true){ua:Addr}{uj:_}{ub uc ud ue uf ug uh ui:_}(uk:W.nsIn K mainGlobals "EXCHANGED_KINDS"=some (some (.ref ua)))(ul:K.lookup ua=some ⟨.type "dict",none,.dict #[⟨PyData.keyHash w.params (Str.ofString "eithers"),.str "eithers" ub,.str "eithers" uc⟩,⟨PyData.keyHash w.params (Str.ofString "sums"),.str "sums" ud,.str "sums" ue⟩,⟨PyData.keyHash w.params (Str.ofString "ifs"),.str "ifs" uf,.str "nots" ug⟩,⟨PyData.keyHash w.params (Str.ofString "nots"),.str "nots" uh,.str "ifs" ui⟩] uj,#[]⟩)(z_len:W.nsIn K mainGlobals "len"=some none)(z_range:W.nsIn K mainGlobals "range"=some none)(z_list:W.nsIn K mainGlobals "list"=some none)(z_tuple:W.nsIn K mainGlobals "tuple"=some none)(z_sorted:W.nsIn K mainGlobals "sorted"=some none)(z_any:W.nsIn K mainGlobals "any"=some none)(z_all:W.nsIn K mainGlobals "all"=some none)(z_isinstance:W.nsIn K mainGlobals "isinstance"=some none)(z_enumerate:W.nsIn K mainGlobals "enumerate"=some none)(z_reversed:W.nsIn K mainGlobals "reversed"=some none)(z_set:W.nsIn K mainGlobals "set"=some none)(z_max:W.nsIn K mainGlobals "max"=some none)(z_min:W.nsIn K mainGlobals "min"=some none)(z_dict:W.nsIn K mainGlobals "dict"=some none): ∃fd:FuncData,(∀(s:Shared) (v:Value),BindsTo s fd ⟨[v],[]⟩ [("script",v)])/\∀base:Heap,K.In base->base.Ns mainGlobals mg->FnOk l.prog w K mg base CX0 Yqs fa fd ["script"] (spOf K 1 Yvo):=by
 have e:=hfa.symm.trans (W.mg_of X G uz);cases e
 have bl:Bl K w mg:=⟨W.mg_none_of X G z_len,W.mg_none_of X G z_range,W.mg_none_of X G z_list,W.mg_none_of X G z_tuple,W.mg_none_of X G z_sorted,W.mg_none_of X G z_any,W.mg_none_of X G z_all,W.mg_none_of X G z_isinstance,W.mg_none_of X G z_enumerate,W.mg_none_of X G z_reversed,W.mg_none_of X G z_set,W.mg_none_of X G z_max,W.mg_none_of X G z_min,W.mg_none_of X G z_dict,⟨_,_,_,_,W.mg_of X G uk,ul,⟨rfl,rfl,rfl⟩,rfl,(.cons ⟨rfl,⟨_,rfl⟩,⟨_,rfl⟩,by decide +kernel⟩ (.cons ⟨rfl,⟨_,rfl⟩,⟨_,rfl⟩,by decide +kernel⟩ (.cons ⟨rfl,⟨_,rfl⟩,⟨_,rfl⟩,by decide +kernel⟩ (.cons ⟨rfl,⟨_,rfl⟩,⟨_,rfl⟩,by decide +kernel⟩ .nil))))⟩,F_contrary.on X G,F_led_to.on X G,F_traced.on X G,F_ways_from.on X G,F_exchanged_rule.on X G,F_exchanged.on X G,F_beacons_with.on X G,F_both_added.on X G,F_pairs_added.on X G,F_cleared.on X G,F_reduced.on X G,F_either_holds.on X G,F_sum_holds.on X G,F_if_holds.on X G,F_rule_holds.on X G,F_beacons_in.on X G,F_is_void.on X G,F_without.on X G,F_is_place.on X G,F_body_is_known.on X G,F_is_step.on X G,F_step_to_more.on X G,F_derived_in_full.on X G,F_is_broken.on X G,F_sayings_of.on X G,F_lead_to_one_another.on X G,F_clash_found.on X G,F_cross_found.on X G,F_late_found.on X G,F_storms_paper.on X G,F_free_saying.on X G,F_truths_made.on X G,F_plan_row.on X G,F_either_outcome.on X G,F_replaced.on X G,F_ahead_of.on X G,F_places_to_none.on X G,F_places_to_beacon.on X G,F_some_of.on X G,F_facts_beside.on X G,F_if_outcome.on X G,F_last_beacon.on X G,F_storms_places.on X G,F_sum_rows.on X G,F_sum_outcome.on X G,F_outcome.on X G,F_law_cell.on X G,F_law_mixed.on X G,F_law_hands.on X G,F_law_rule.on X G,F_law_moved.on X G,F_law_changed.on X G,F_law_hand.on X G⟩
 have u5:=y7h (st:=(top 68)) u0 u3 u4;refine⟨W.fnOf "law" "law" (aLc (top 68)) (aKc (top 68)) (aIc (top 68)) .none ur ut uu uq um uv,λs v=>.of_eq rfl,λbase _ _=>?_⟩;exact Yaeu bl u5
theorem walk(hlaw:∀ns:AH,ns.length<=63->Yvo [.scr ns]=some (.bl true)){l:W.OpenLaw}{K:Params->W7}(hn:l.most=some 63)(hdf:d.params.defaults=[])(hY:∀(w:World) (h:Heap),YP w h->(K w.params).In h)(F:∀(w:World) (mg:AE) (fa:Addr) (h:Heap),(K w.params).In h->h.Ns mainGlobals mg->mg d.name=some (.ref fa)->
  ∃fd:FuncData,(∀(s:Shared) (u:Value),BindsTo s fd ⟨[u],[]⟩ [("script",u)])/\∀base:Heap,(K w.params).In base->base.Ns mainGlobals mg->FnOk l.prog w (K w.params) mg base CX0 Yqs fa fd ["script"] (spOf (K w.params) 1 Yvo)):
 W.WalkO q loose XP YP l.row.toRowW d [] (λf vs=>PySem.call f vs):=
 L2.walk_of (n:=63) (k:=Yqs) (x:="script") (CX:=λ_=>CX0) (sp:=λw=>spOf (K w.params) 1 Yvo) hn (by decide) hdf ⟨rfl,by decide,by decide⟩ hY F
  (λw H a ns hl _ hS=>⟨rfl,[.scr ns],.bl true,H,Same.refl H,.one (by rw[Rp];grind),hlaw ns hl,λv H' G' g r=>by rw[Rp]at r;exact r⟩) λ_ _ _ _ _ z=>z
end Lw
namespace Lw
open PySem L2 M Bk
def Yaev(ns:AH)(k:Nat):Yck [.scr ns,.int k]=some (.int (ns.getD k 0)):=by
 rw[Yck,y0 (by rfl)];by_cases h:k<ns.length
 ·have e:atI (ns.map D.int) (k:Int)=some (.int ns[k]):=by
   rw[Yft,Ylh h];rfl
  simp[Ykc,Yr,h,e]
 ·simp[Ykc,Yr,h]
def Ylj(ns:AH)(k:Nat)(i:Int)(hi:i=(k:Int)):Yck [.scr ns,.int i]=some (.int (ns.getD k 0)):=by
 subst hi;exact Yaev ns k
theorem Yvp(c m:Int):∃v:Int,0<=v/\Yde [.int c,.int m]=some (.int v):=by
 refine⟨c%2305843009213693951*m%2305843009213693951,Int.emod_nonneg _ (by decide),?_⟩;rw[Yde,y0 (by rfl)];have h1:0<=c%2305843009213693951:=Int.emod_nonneg _ (by decide);have h2:c%2305843009213693951<2305843009213693951:=Int.emod_lt_of_pos _ (by decide);have h3:mulI (.int (c%2305843009213693951)) (.int m)=some (.int (c%2305843009213693951*m)):=Yw4 ⟨by lia,by lia⟩;simp[Yna,Yr,h3]
section
variable {c:D}{ev:AJ} (hc:Yn c=some (ev.map D.bl))
include hc
def Yob(hl:∀s∈l,s.1<ev.length):Ydh [rlD (.ei l),c]=some (.bl (l.any λs=>at' ev s.1==s.2)):=by
 have h:=Yfu (fe:=Ydd) (r:=[↑c]) (enc:=sayD) (λs=>.bl (at' ev s.1==s.2)) (l:=l) (λs hs=>by
  simp[Ydd,hc,y6b (hl s hs)])
 rw[Ydh,y0 (by rfl)];simp[Yhu,Yr,capR,h,wu]
theorem Yvq(hl:∀x∈b,x<ev.length):Yfw [rlD (.su b o),c]=some (.bl (decide ((b.filter (at' ev)).length%2=1)==o)):=by
 have h:=Ymn (fc:=Ye2) (fe:=Ye3) (r:=[↑c]) (enc:=nD) (at' ev) nD (l:=b) (λs hs=>by
  simp[Ye2,hc,nD,y6b (hl s hs)]) (λs _ _=>by simp[Ye3])
 have e:∀n:Nat,decide (((n:Nat):Int)%2=1)=decide (n%2=1):=λn=>by
  grind
 rw[Yfw,y0 (by rfl)];simp[Ymw,Yr,capR,h,e]
def Yo6(hl:∀x∈b,x<ev.length)(hh:∀x,h=some x->x<ev.length):Yhb [rlD (.im b h),c,.bl w]=some (.bl ((b.any λx=>at' ev x != w)||hd ev w h)):=by
 have h1:=Yfu (fe:=Yfx) (r:=[↑c,↑(.bl w)]) (enc:=nD) (λx=>.bl (at' ev x != w)) (l:=b) (λs hs=>by
  simp[Yfx,hc,nD,y6b (hl s hs),bne])
 rw[Yhb,y0 (by rfl)]
 cases hb:(b.any λx=>at' ev x != w)with
 | true=>simp[Yha,Yr,capR,h1,wu,hb]
 | false=>
   cases h with
   | none=>simp[Yha,Yr,capR,h1,wu,hb,optD,hd]
   | some x=>simp[Yha,Yr,capR,h1,wu,hb,optD,hd,hc,y6b (hh x rfl)]
def Yti{r:Rl}(hr:In k ev.length r):Yet [kdD k,rlD r,c]=some (.bl (so k ev r)):=by
 rw[Yet,y0 (by rfl)]
 cases r with
 | ei l=>
   obtain⟨rfl,hl⟩:=hr;simp[Ydm,Yr,Yob hc hl,so]
 | su b o=>
   obtain⟨rfl,hl⟩:=hr;simp[Ydm,Yr,Yvq hc hl,so]
 | im b h=>
   obtain⟨hk,hl,hh⟩:=hr;rcases hk with rfl|rfl
   ·simp[Ydm,Yr,Yo6 hc hl hh,so]
   ·simp[Ydm,Yr,Yo6 hc hl hh,so]
end
section
variable {c:D}{ev:AJ} (hc:Yn c=some (ev.map D.bl))
include hc
end
section
variable {c:D}{ev:AJ} (hc:Yn c=some (ev.map D.bl))
include hc
end
theorem Ytj{r:Rl}(hr:In k n r)(hs:sz r<=999999):Yeu [kdD k,rlD r]=some (.lst ((bcs r).map nD)):=by
 rw[Yeu,y0 (by rfl)]
 cases r with
 | ei l=>
   obtain⟨rfl,_⟩:=hr;have h:=Yfu (fe:=Yei) (r:=[]) (enc:=sayD) (λs=>nD s.1) (l:=l) (λs _=>by simp[Yei]);simp[Ydn,Yr,capR,h,bcs,wu]
 | su b o=>
   obtain⟨rfl,_⟩:=hr;simp[Ydn,Yr,bcs]
 | im b h=>
   obtain⟨hk,_⟩:=hr
   have hke:¬k=.e:=by grind
   have hks:¬k=.s:=by grind
   have hs':b.length+1<=1000000:=by simp[sz]at hs;lia
   cases h with
   | none=>simp[Ydn,Yr,bcs,hke,hks,optD]
   | some x=>simp[Ydn,Yr,bcs,hke,hks,optD,catD,hs']
def flS(s:Say):Say:=(s.1,!s.2)
def Yhg(s:Say):Ycj [sayD s]=some (sayD (flS s)):=by
 rw[Ycj,y0 (by rfl)];simp[Yoz,Yr,sayD,flS]
def srtS:BA->BA
 | [a,b]=>if plt b.1 b.2 a.1 a.2=true then [b,a]else [a,b]
 | l=>l
def y25(h:l.length<=2):Yh7 [.lst (l.map sayD)]=some ((srtS l).map sayD):=by
 match l,h with
 | [],_=>rfl
 | [a],_=>rfl
 | [a,b],_=>
   have e:Yh7 [.lst ([a,b].map sayD)]=some (if plt b.1 b.2 a.1 a.2=true then [sayD b,sayD a]else [sayD a,sayD b]):=rfl;rw[e,srtS]
   split<;>rfl
def y26(l:BA):(srtS l).Perm l:=by
 match l with
 | []=>exact .refl _
 | [a]=>exact .refl _
 | [a,b]=>
   rw[srtS]
   split
   ·exact .swap _ _ _
   ·exact .refl _
 | a::b::c::l=>exact .refl _
theorem y27{r:Rl}(hr:In k n r)(hs:sz r<=999999):Yi8 [kdD k,rlD r]=some (.bl (eqD (rlD r) (rlD (vd k)))):=by
 rw[Yi8,y0 (by rfl)];have hb:=Ytj hr hs;by_cases h0:bcs r=[]
 ·have hin:In k 0 r:=by
   cases r with
   | ei l=>
     simp[bcs]at h0;subst h0;exact⟨hr.1,by simp⟩
   | su l o=>
     simp[bcs]at h0;subst h0;exact⟨hr.1,by simp⟩
   | im l o=>
     cases o with
     | none=>
       simp[bcs]at h0;subst h0;exact⟨hr.1,by simp,by simp⟩
     | some x=>simp[bcs]at h0
  have hh:=Yti (c:=.tup []) (ev:=[]) rfl (k:=k) (r:=r) hin
  have he:eqD (rlD r) (rlD (vd k))=!so k [] r:=by
   cases r with
   | ei l=>
     obtain⟨rfl,_⟩:=hr;simp[bcs]at h0;subst h0;simp[rlD,vd,so]
   | su l o=>
     obtain⟨rfl,_⟩:=hr;simp[bcs]at h0;subst h0;cases o<;>simp[rlD,vd,so]
   | im l o=>
     cases o with
     | none=>
       simp[bcs]at h0;subst h0
       have:eqD .non .non=true:=by simp[eqD,toPy,PyData.eqv]
       rcases hr.1 with rfl|rfl<;>simp[rlD,vd,so,optD,hd,this]
     | some x=>simp[bcs]at h0
  rw[h0]at hb;simp at hb;simp[Ymx,Yr,hb,hh,he]
 ·have hlen:¬((bcs r).length:Int)=0:=by
   simp_all
  have he:eqD (rlD r) (rlD (vd k))=false:=by
   cases r with
   | ei l=>
     obtain⟨rfl,_⟩:=hr
     cases l with
     | nil=>simp[bcs]at h0
     | cons s l=>simp[rlD,vd]
   | su l o=>
     obtain⟨rfl,_⟩:=hr
     cases l with
     | nil=>simp[bcs]at h0
     | cons s l=>simp[rlD,vd]
   | im l o=>
     have e1:∀x:Nat,eqD (.int (x:Int)) .non=false:=λx=>by simp[eqD,toPy,PyData.eqv]
     cases l with
     | nil=>cases o with
       | none=>simp[bcs]at h0
       | some x=>rcases hr.1 with rfl|rfl<;>simp[rlD,vd,optD,e1]
     | cons s l=>rcases hr.1 with rfl|rfl<;>simp[rlD,vd]
  simp[Ymx,Yr,hb,h0,he]
def exR:Rl->Rl
 | .ei l=>.ei (srtS (l.map flS))
 | .su l o=>.su l (o != decide (l.length%2=1))
 | .im l h=>.im l h
def exK:Kd->Kd
 | .e=>.e
 | .s=>.s
 | .i=>.n
 | .n=>.i
theorem Yk2{r:Rl}(h:In k n r)(hs:Srt r):Yb9 [kdD k,rlD r]=some (rlD (exR r)):=by
 rw[Yb9,y0 (by rfl)]
 cases r with
 | ei l=>
   obtain⟨rfl,_⟩:=h;have h1:=Yfu (fe:=Ycg) (r:=[]) (enc:=sayD) (λs=>sayD (flS s)) (l:=l) (λs _=>by simp[Ycg,Yhg]);have h2:=y25 (l:=l.map flS) (by simpa using hs.1);rw[Qd]at h2;simp[wu]at h2;simp[Yb8,Yr,capR,h1,h2,exR,y2l]
 | su l o=>
   obtain⟨rfl,_⟩:=h
   have e:((l.length:Int)%2=1)↔(l.length%2=1):=by lia
   simp[Yb8,Yr,exR,e];cases o<;>by_cases h:l.length%2=1<;>simp[h,rlD,e]
 | im l h=>
   obtain⟨hk,_⟩:=h;rcases hk with rfl|rfl<;>simp[Yb8,Yr,exR]
def y28(k:Kd):y1d gt_EXCHANGED_KINDS (kdD k)=some (kdD (exK k)):=by
 have h:gt_EXCHANGED_KINDS.lookup (kS k)=some (kS (exK k)):=by cases k<;>decide +kernel
 show(gt_EXCHANGED_KINDS.lookup (kS k)).map D.str=_;rw[h];rfl
def Yvr{R:List Rl}(h:∀r∈R,In k n r/\Srt r):Yeh [Yds k R]=some (Yds (exK k) (R.map exR)):=by
 rw[Yeh,y0 (by rfl)];have h1:=Yfu (fe:=Ye1) (r:=[↑(kdD k)]) (enc:=rlD) (λr=>rlD (exR r)) (l:=R) (λr hr=>by simp[Ye1,Yk2 (h r hr).1 (h r hr).2]);simp[Ymp,Yr,Yds,capR,y28,h1,wu]
def kn(b fs:AG):Bool:=b.all λx=>decide (x∈fs)
abbrev IfR:=List Nat×AN
def ifD(r:IfR):D:=.tup [.tup (r.1.map nD),optD r.2]
structure IfOk(r:IfR):Prop where
 b:∀x∈r.1,x<60
 h:∀x,r.2=some x->x<60
 p:r.1.Pairwise (·<·)
 l:r.1.length<=3
@[simp] theorem items_if(r:IfR):Yn (ifD r)=some [.tup (r.1.map nD),optD r.2]:=nr rfl
def Yao(R:List IfR):D:=.tup [.str "ifs",.tup (R.map ifD)]
@[simp] theorem Yvs(R:List IfR):Yn (Yao R)=some [.str "ifs",.tup (R.map ifD)]:=nr rfl
def Ynf(r:IfR)(fs:AG)(hd:Yn d=some (fs.map nD)):Ya0 [ifD r,d]=some (.bl (kn r.1 fs)):=by
 rw[Ya0,y0 (by rfl)];have h:=Yfu (fe:=Ya6) (r:=[↑d]) (enc:=nD) (λx=>D.bl (decide (x∈fs))) (l:=r.1) (λx _=>by simp[Ya6,in_n x fs false hd]);simp[Yej,Yr,capR,h,kn,List.all_map,wu]
def Yze(R:List IfR)(i:Int):Yhc [Yao R,.int i]=some (.bl (decide (0<=i/\i<R.length))):=by
 rw[Yhc,y0 (by rfl)];by_cases h:0<=i<;>simp[Yo0,Yr,h]
def rAt(R:List IfR)(i:Int):IfR:=R.getD i.toNat ([],none)
theorem Yaaz(h:0<=i/\i<R.length):atI (R.map ifD) i=some (ifD (rAt R i)):=by
 rw[Yft,y71 (j:=i.toNat) (v:=rAt R i) (by lia) (by rw[rAt,List.getD_eq_getElem?_getD,qq (by lia)];simp)];rfl
def stp(R:List IfR)(fs:AG)(i:Int):Bool:=decide (0<=i/\i<R.length)&&((rAt R i).2.isSome&&kn (rAt R i).1 fs)
def hdN(r:IfR):Nat:=r.2.getD 0
def derB(R:List IfR):AG->AH->Bool
 | _,[]=>true
 | fs,i::is=>stp R fs i&&derB R (fs++[hdN (rAt R i)]) is
abbrev fl(n:Nat)(P:AK):AG:=(List.range n).filter P
theorem Yaew(hp:l.Pairwise (·<·))(h:∀x∈l,x<n):l=fl n λx=>decide (x∈l):=by
 have h1:(fl n λx=>decide (x∈l)).Pairwise (·<·):=List.pairwise_lt_range.filter _;have nd:∀{m:AG},m.Pairwise (·<·)->m.Nodup:=λh=>h.imp qm
 have hperm:l.Perm (fl n λx=>decide (x∈l)):=(List.perm_ext_iff_of_nodup (nd hp) (nd h1)).mpr λx=>by
  grind
 exact hperm.eq_of_pairwise (le:=(·<·)) (λa b _ _ h1 h2=>absurd (Nat.lt_trans h1 h2) (Nat.lt_irrefl _)) hp h1
theorem Yng(l:AG):intsD (l.map nD)=some (l.map λx:Nat=>(x:Int)):=by simp_all
theorem mem_castI{l:AG}{x:Nat}:(x:Int)∈l.map (λy:Nat=>(y:Int))↔x∈l:=by grind
theorem y29(n:Nat)(P:AK):(fl n P).length<=n:=by grind
theorem Yxa(hn:m.Nodup)(h:∀x:Int,x∈m↔∃y:Nat,y∈fl n R/\(y:Int)=x):Yc6 m=(fl n R).map λy:Nat=>(y:Int):=by
 have hs:((fl n R).map λy:Nat=>(y:Int)).Pairwise (·<=·):=by
  rw[List.pairwise_map]
  exact(List.pairwise_lt_range.filter R).imp λh=>by lia
 have hnd:((fl n R).map λy:Nat=>(y:Int)).Nodup:=by
  rw[List.nodup_iff_pairwise_ne,List.pairwise_map]
  exact(List.pairwise_lt_range.filter R).imp λh=>by lia
 have hperm:m.Perm ((fl n R).map λy:Nat=>(y:Int)):=(List.perm_ext_iff_of_nodup hn hnd).mpr λx=>by
  grind
 exact W.ksm_same ((Yay m).trans hperm) (Ya5 m) hs
theorem y3a(hn:n<64)(P Q:AK):y1t ((fl n P).map nD) ((fl n Q).map nD)=some ((fl n λx=>P x != Q x).map nD):=by
 unfold y1t;rw[Yng,Yng,qd,qd];have lp:=y29 n P;have lq:=y29 n Q;generalize ha:((fl n P).map λx:Nat=>(x:Int))=a;generalize hb:((fl n Q).map λx:Nat=>(x:Int))=b
 have la:a.length<=n:=by grind
 have lb:b.length<=n:=by grind
 have dlen:∀l:AH,(ddup [] l).length<=l.length:=λl=>by
  have:∀(r acc:AH),(ddup acc r).length<=acc.length+r.length:=λr=>by
   induction r with
   | nil=>intro acc;simp[ddup]
   | cons k r ih=>
     intro acc;rw[ddup];grind
  grind
 have hmem:∀x:Int,x∈xorI a b↔∃y:Nat,y∈(fl n λx=>P x != Q x)/\(y:Int)=x:=λx=>by
  rw[Ywy,<-ha,<-hb];grind
 have hlen:(xorI a b).length<=n:=by
  have e:=Yxa (Yp2 a b) hmem;have:=(Yay (xorI a b)).length_eq;grind
 have hall:(b.all λk=>decide (0<=k/\k<1024))=true:=by
  grind
 have d1:=dlen a;have d2:=dlen b;rw[if_pos ⟨by lia,by lia,by lia,by lia,hall,by lia⟩,Yxa (Yp2 a b) hmem,Qd];rfl
abbrev sumD(P:AK)(o:Bool):D:=.tup [.tup ((fl 60 P).map nD),.bl o]
def Ykp(P Q:AK)(o o':Bool):Yby [sumD P o,sumD Q o']=some (sumD (λx=>P x != Q x) (o != o')):=by
 rw[Yby,y0 (by rfl)];have h:=y3a (n:=60) (by decide) P Q;have hl:=y29 60 λx=>P x != Q x;have hne:(!(o==o'))=(o != o'):=rfl;have hst:Yr 2 [sumD P o,sumD Q o']=[↑(sumD P o),↑(sumD Q o')]:=rfl;have hi1:Yn (sumD P o)=some [.tup ((fl 60 P).map nD),.bl o]:=rfl;have hi2:Yn (sumD Q o')=some [.tup ((fl 60 Q).map nD),.bl o']:=rfl;rw[hst];generalize sumD P o=S1,sumD Q o'=S2,(fl 60 P).map nD=A,(fl 60 Q).map nD=B at *;simp[Ykn,h,hi1,hi2,hne]
abbrev Sm:=(AK)×Bool
abbrev smD(r:Sm):D:=sumD r.1 r.2
def rg(R:List Sm)(p:Nat):Sm:=R.getD p (λ_=>false,false)
def oddP(R:List Sm)(ps:AG)(x:Nat):Nat:=(ps.filter λp=>decide (x∈fl 60 (rg R p).1)).length
def oddO(R:List Sm)(ps:AG):Bool:=ps.foldl (λo p=>o != (rg R p).2) false
theorem Yqt(R:List Sm)(ps:AG)(p x:Nat):oddP R (ps++[p]) x=if x∈fl 60 (rg R p).1 then oddP R ps x+1 else oddP R ps x:=by
 unfold oddP;grind
def y6k(R:List Sm)(ps:AG)(p:Nat):oddO R (ps++[p])=(oddO R ps != (rg R p).2):=by
 unfold oddO;rw[List.foldl_append];rfl
theorem Yo7(h:∀x,x<60->P x=Q x):sumD P o=sumD Q o:=by
 have:fl 60 P=fl 60 Q:=List.filter_congr λx hx=>h x (qy hx);grind
abbrev totD(R:List Sm)(ps:AG):D:=sumD (λx=>decide (oddP R ps x%2=1)) (oddO R ps)
def Yaex{l:AG}(hp:l.Pairwise (·<·))(h:∀x∈l,x<60)(o:Bool):D.tup [.tup (l.map nD),.bl o]=smD (λx=>decide (x∈l),o):=by
 unfold smD sumD;rw[<-Yaew hp h]
theorem y3b(f g:AK):∀l:AG,(l.filter λp=>f p != g p).length+2*(l.filter λp=>f p&&g p).length=(l.filter f).length+(l.filter g).length
 | []=>rfl
 | a::l=>by
   have ih:=y3b f g l;cases hf:f a<;>cases hg:g a<;>simp[List.filter_cons,hf,hg]<;>lia
theorem Yqu(R:List Sm)(ps:AG):oddO R ps=decide ((ps.filter λp=>(rg R p).2).length%2=1):=by
 have key:∀(l:AG) (o:Bool),l.foldl (λo p=>o != (rg R p).2) o=(o != decide ((l.filter λp=>(rg R p).2).length%2=1)):=λl=>by
  induction l with
  | nil=>intro o;simp
  | cons a l ih=>
    grind
 unfold oddO;grind
theorem y74(h:a+2*k=b+c):decide (a%2=1)=(decide (b%2=1)!=decide (c%2=1)):=by grind
theorem Yvt(R:List Sm)(W V:AK):sumD (λx=>decide (oddP R (fl 60 W) x%2=1)!=decide (oddP R (fl 60 V) x%2=1)) (oddO R (fl 60 W)!=oddO R (fl 60 V))=totD R (fl 60 λp=>W p != V p):=by
 have hx:∀h:AK,(((fl 60 λp=>W p != V p).filter h).length+2*((List.range 60).filter λp=>(W p&&h p)&&(V p&&h p)).length)=((fl 60 W).filter h).length+((fl 60 V).filter h).length:=λh=>by
  have:=y3b (λp=>W p&&h p) (λp=>V p&&h p) (List.range 60);rw[List.filter_filter,List.filter_filter,List.filter_filter]
  have e1:((List.range 60).filter λp=>h p&&(W p != V p))=(List.range 60).filter λp=>(W p&&h p)!=(V p&&h p):=List.filter_congr λp _=>by grind
  have e2:((List.range 60).filter λp=>h p&&W p)=(List.range 60).filter λp=>W p&&h p:=List.filter_congr λp _=>by grind
  have e3:((List.range 60).filter λp=>h p&&V p)=(List.range 60).filter λp=>V p&&h p:=List.filter_congr λp _=>by grind
  grind
 unfold totD;rw[Yqu,Yqu,Yqu,<-y74 (hx λp=>(rg R p).2)];refine Yo7 λx _=>?_;exact(y74 (hx λp=>decide (x∈fl 60 (rg R p).1))).symm
abbrev prD2(R:List Sm)(W:AK):D:=.tup [.tup ((fl 60 W).map nD),totD R (fl 60 W)]
def Yqv(R:List Sm)(W V:AK):Ydz [prD2 R W,prD2 R V]=some (prD2 R λp=>W p != V p):=by
 rw[Ydz,y0 (by rfl)];have h:=y3a (n:=60) (by decide) W V;have hb:=Ykp (λx=>decide (oddP R (fl 60 W) x%2=1)) (λx=>decide (oddP R (fl 60 V) x%2=1)) (oddO R (fl 60 W)) (oddO R (fl 60 V));rw[Yvt]at hb
 change Yby [totD R (fl 60 W),totD R (fl 60 V)]=_ at hb
 have hst:Yr 2 [prD2 R W,prD2 R V]=[↑(.tup [.tup ((fl 60 W).map nD),totD R (fl 60 W)]),↑(.tup [.tup ((fl 60 V).map nD),totD R (fl 60 V)])]:=rfl;rw[hst];show _=some (D.tup [.tup ((fl 60 λp=>W p != V p).map nD),totD R (fl 60 λp=>W p != V p)]);generalize totD R (fl 60 λp=>W p != V p)=T3,totD R (fl 60 W)=T1,totD R (fl 60 V)=T2,(fl 60 W).map nD=A,(fl 60 V).map nD=B,(fl 60 λp=>W p != V p).map nD=C at *;simp[Yi7,h,hb]
def tP(R:List Sm)(W:AK):AK:=λx=>decide (oddP R (fl 60 W) x%2=1)
def Last(P:AK)(b:Nat):Prop:=b<60/\P b=true/\∀x,x<60->P x=true->x<=b
theorem Yvu(P:AK):fl 60 P=[]\/∃b,Last P b/\fl 60 P≠[]/\atI ((fl 60 P).map nD) (-1)=some (nD b):=by
 cases e:(fl 60 P).getLast? with
 | none=>exact .inl (List.getLast?_eq_none_iff.mp e)
 | some b=>
   right;obtain⟨ys,hy⟩:=List.getLast?_eq_some_iff.mp e;have hpw:(fl 60 P).Pairwise (·<·):=List.pairwise_lt_range.filter _
   have hb:b∈fl 60 P:=by rw[hy];simp
   refine⟨b,⟨qy (qz hb).1,(qz hb).2,λx hx hp=>?_⟩,by rw[hy];simp,?_⟩
   ·have hm:x∈fl 60 P:=List.mem_filter.mpr ⟨List.mem_range.mpr hx,hp⟩
    rw[hy]at hm hpw;rcases qv hm with hm|hm
    ·exact Nat.le_of_lt ((List.pairwise_append.mp hpw).2.2 x hm b (by simp))
    ·rw[List.mem_singleton.mp hm];exact qu _
   ·rw[hy,wt]
    unfold atI ixN
    have hl:(ys.map nD++[b].map nD).length=ys.length+1:=by simp
    rw[hl,if_neg (by lia),if_pos (by lia)]
    have:((-1:Int)+((ys.length+1:Nat):Int)).toNat=ys.length:=by lia
    rw[this,qd];simp
def Last.uniq(h:Last P a)(h':Last P b):a=b:=Nat.le_antisymm (h'.2.2 a h.1 h.2.1) (h.2.2 b h'.1 h'.2.1)
abbrev Row:=Nat×(AK)
abbrev kyD(BL:List Row):AR:=(BL.map (·.1)).map nD
abbrev rwD(R:List Sm)(BL:List Row):AR:=BL.map λr=>prD2 R r.2
theorem Yxb:∀{BL:List Row},b∈BL.map (·.1)->∃r∈BL,r.1=b/\Yad ((BL.map (·.1)).map λx:Nat=>(x:Int)) (rwD R BL) (b:Int)=some (prD2 R r.2)
 | [],h=>(nomatch h)
 | r::BL,h=>by
   show ∃s∈r::BL,s.1=b/\Yad ((r.1:Int)::((BL.map (·.1)).map λx:Nat=>(x:Int))) (prD2 R r.2::rwD R BL) (b:Int)=some (prD2 R s.2);rw[Yad];by_cases e:r.1=b
   ·grind
   ·have h':b∈BL.map (·.1):=by
     grind
    obtain⟨s,h1,h2,h3⟩:=Yxb (R:=R) h';grind
def y75(R:List Sm)(W V:AK)(x:Nat)(hx:x<60):tP R (λp=>W p != V p) x=(tP R W x != tP R V x):=by
 have h:=Yvt R W V;unfold totD sumD at h;have h1:=congrArg (λd=>match d with|D.tup [D.tup l,_]=>(M.intsD l)|_=>none) h;dsimp only at h1;rw[Yng,Yng]at h1;have h2:((fl 60 λx=>decide (oddP R (fl 60 W) x%2=1)!=decide (oddP R (fl 60 V) x%2=1)).map λx:Nat=>(x:Int))=((fl 60 λx=>decide (oddP R (fl 60 λp=>W p != V p) x%2=1)).map λx:Nat=>(x:Int)):=w6 h1
 have h3:x∈(fl 60 λx=>decide (oddP R (fl 60 W) x%2=1)!=decide (oddP R (fl 60 V) x%2=1))↔x∈(fl 60 λx=>decide (oddP R (fl 60 λp=>W p != V p) x%2=1)):=by
  rw[<-mem_castI,<-mem_castI,h2]
 rw[List.mem_filter,List.mem_filter]at h3;have hr:=List.mem_range.mpr hx;show decide (oddP R (fl 60 λp=>W p != V p) x%2=1)=_;cases e:decide (oddP R (fl 60 λp=>W p != V p) x%2=1)
 ·cases e2:(tP R W x != tP R V x)
  ·rfl
  ·exact absurd (h3.mp ⟨hr,e2⟩).2 (by rw[e];exact qi)
 ·exact(h3.mpr ⟨hr,e⟩).2.symm
theorem y6l(R:List Sm)(W V:AK):oddO R (fl 60 λp=>W p != V p)=(oddO R (fl 60 W)!=oddO R (fl 60 V)):=by
 have h:=Yvt R W V;grind
inductive Red (R:List Sm) (BL:List Row) (e:Bool):(AK)->Bool->Prop
 | zero {T:AK}{o:Bool}:(∀x,x<60->T x=false)->(e=false->o=false)->Red R BL e T o
 | step {T:AK}{o:Bool} (r:Row):r∈BL->Last T r.1->Red R BL e (λx=>T x != tP R r.2 x) (o != oddO R (fl 60 r.2))->Red R BL e T o
theorem Last.congr(h:Last T b)(e:∀x,x<60->T x=T' x):Last T' b:=⟨h.1,by rw[<-e b h.1];exact h.2.1,λx hx hp=>h.2.2 x hx (by grind)⟩
theorem Red.congr(h:Red R BL e T o):∀{T':AK},(∀x,x<60->T x=T' x)->Red R BL e T' o:=by
 induction h with
 | zero h0 h1=>exact λht=>.zero (λx hx=>by grind) h1
 | step r hr hl _ ih=>exact λht=>.step r hr (hl.congr ht) (ih λx hx=>by grind)
theorem Red.mono(hb:∀r∈BL,r∈BL')(he:e=true->e'=true)(h:Red R BL e T o):Red R BL' e' T o:=by
 induction h with
 | zero h0 h1=>
   refine .zero h0 λz=>h1 ?_;grind
 | step r hr hl _ ih=>exact .step r (hb r hr) hl ih
theorem Yo8(hB:∀r∈BL,Last (tP R r.2) r.1/\∀p,r.2 p=true->p<n)(d0:AT):∀(k fuel:Nat) (W:AK),(∀x,x<60->tP R W x=true->x<k)->k<fuel->(∀p,W p=true->p<n)->
 ∃V:AK,(∀p,V p=true->p<n)/\(fl 60 (tP R V)=[]\/∃b,Last (tP R V) b/\b∉BL.map (·.1))/\(∀(BL':List Row) (e:Bool),(∀r∈BL,r∈BL')->Red R BL' e (tP R V) (oddO R (fl 60 V))->Red R BL' e (tP R W) (oddO R (fl 60 W)))/\
  Ybt (andT (b1 (b2 (b2 (getC 2) (kD (.int 1)) ixD) (kD (.int 0)) ixD) truD) (b2 (b2 (b2 (b2 (getC 2) (kD (.int 1)) ixD) (kD (.int 0)) ixD) (b1 (kD (.int 1)) negI) ixD) (getC 1) (hasN false))) Ygp fuel [d0,↑(.dct false (kyD BL) (rwD R BL)),↑(prD2 R W)] =
   some (.nx [d0,↑(.dct false (kyD BL) (rwD R BL)),↑(prD2 R V)])
 | k,0,W,_,h,_=>absurd h (Nat.not_lt_zero _)
 | k,fuel+1,W,hk,hf,hW=>by
   have hi:Yn (prD2 R W)=some [.tup ((fl 60 W).map nD),.tup [.tup ((fl 60 (tP R W)).map nD),.bl (oddO R (fl 60 W))]]:=rfl;rw[Ybt];rcases Yvu (tP R W)with h0|⟨b,hb,hne,hat⟩
   ·refine⟨W,hW,.inl h0,λ_ _ _ z=>z,?_⟩
    simp_all
   ·have hemp:((fl 60 (tP R W)).map nD).isEmpty=false:=by
     simp_all
    have hha:hasN false (.int (b:Int)) (.dct false (kyD BL) (rwD R BL))=some (decide (b∈BL.map (·.1))):=by
     rw[Ylc,Yng,Option.map_some];grind
    have hnb:nD b=.int (b:Int):=rfl;rw[hnb]at hat;by_cases hm:b∈BL.map (·.1)
    ·obtain⟨r,hr,hrb,hfind⟩:=Yxb (R:=R) hm
     have hg:getI (.dct false (kyD BL) (rwD R BL)) (.int (b:Int))=some (prD2 R r.2):=by
      rw[Yfo,Yng,qd];exact hfind
     have hpa:=Yqv R W r.2;obtain⟨hrl,hrn⟩:=hB r hr;rw[hrb]at hrl;have hbk:b<k:=hk b hb.1 hb.2.1
     obtain⟨k',rfl⟩:∃k',k=k'+1:=⟨k-1,by lia⟩
     obtain⟨V,v1,v2,v4,v3⟩:=Yo8 hB d0 k' fuel (λp=>W p != r.2 p) (λx hx hxt=>by
      rw[y75 R W r.2 x hx]at hxt
      have hxb:x≠b:=λz=>by
       subst z;rw[hb.2.1,hrl.2.1]at hxt;grind
      have hxl:x<=b:=by
       cases h1:tP R W x
       ·rw[h1]at hxt
        cases h2:tP R r.2 x
        ·grind
        ·exact hrl.2.2 x hx h2
       ·exact hb.2.2 x hx h1
      lia) (by lia) (λp hp=>by
      grind)
     refine⟨V,v1,v2,λBL' e hs hv=>?_,?_⟩
     ·refine .step r (hs r hr) (hrb ▸ hb) ?_
      rw[<-y6l];exact(v4 BL' e hs hv).congr λx hx=>y75 R W r.2 x hx
     rw[wn hm]at hha;have hi2:(fl 60 (tP R W)).map nD=(fl 60 (tP R W)).map nD:=rfl;generalize hPW:prD2 R W=PW at *;generalize hPX:prD2 R (λp=>W p != r.2 p)=PX at *;generalize prD2 R r.2=PR,kyD BL=K,rwD R BL=VV,(fl 60 (tP R W)).map nD=L at *;simp[hi,hemp,hat,hha,Ygp,hg,hpa,-Ylc,-Yfo];exact v3
    ·refine⟨W,hW,.inr ⟨b,hb,hm⟩,λ_ _ _ z=>z,?_⟩
     rw[wo hm]at hha;generalize prD2 R W=PW,kyD BL=K,rwD R BL=VV,(fl 60 (tP R W)).map nD=L at *;simp[hi,hemp,hat,hha,-Ylc]
theorem y3c(hB:∀r∈BL,Last (tP R r.2) r.1/\∀p,r.2 p=true->p<n)(W:AK)(hW:∀p,W p=true->p<n):
 ∃V:AK,(∀p,V p=true->p<n)/\(fl 60 (tP R V)=[]\/∃b,Last (tP R V) b/\b∉BL.map (·.1))/\(∀(BL':List Row) (e:Bool),(∀r∈BL,r∈BL')->Red R BL' e (tP R V) (oddO R (fl 60 V))->Red R BL' e (tP R W) (oddO R (fl 60 W)))/\Yfe [prD2 R W,.dct false (kyD BL) (rwD R BL)]=some (prD2 R V):=by
 obtain⟨V,h1,h2,h4,h3⟩:=Yo8 hB (↑(prD2 R W)) 60 4000 W (λx hx _=>hx) (by lia) hW;refine⟨V,h1,h2,h4,?_⟩;rw[Yfe,y0 (by rfl)];have hst:Yr 3 [prD2 R W,.dct false (kyD BL) (rwD R BL)]=[↑(prD2 R W),↑(.dct false (kyD BL) (rwD R BL)),none]:=rfl;rw[hst];generalize prD2 R W=PW,prD2 R V=PV,D.dct false (kyD BL) (rwD R BL)=DD at *;rw[Yst,Ybd]
 simp_all
theorem y3d(l:AG):plBL (l.map nD)=true:=by
 induction l with
 | nil=>rfl
 | cons a l ih=>
   rw[Qa,plBL,ih];rfl
def Yaey(R:List Sm)(W:AK):plB (prD2 R W)=true:=by
 have h1:=y3d (fl 60 W);have h2:=y3d (fl 60 (tP R W));show plB (.tup [.tup ((fl 60 W).map nD),.tup [.tup ((fl 60 (tP R W)).map nD),.bl (oddO R (fl 60 W))]])=true;simp only[plB,plBL,h1,h2,Bool.and_self]
theorem Yxc(hp:p<60):fl 60 (λx=>decide (x=p))=[p]:=by
 have h:=Yaew (n:=60) (l:=[p]) (by simp) (by grind);grind
theorem Yaa0(R:List Sm)(p:Nat):totD R [p]=smD (rg R p):=by
 have h0:oddO R [p]=(rg R p).2:=by
  unfold oddO;grind
 unfold totD smD;rw[h0];refine Yo7 λx hx=>?_;have:=Yqt R [] p x;rw[Qe]at this;rw[this];have h1:oddP R [] x=0:=rfl;grind
def Yagu(R:List Sm)(hp:p<60):D.tup [.tup [nD p],smD (rg R p)]=prD2 R λx=>decide (x=p):=by
 show _=D.tup [.tup ((fl 60 λx=>decide (x=p)).map nD),totD R (fl 60 λx=>decide (x=p))];rw[Yxc hp,Yaa0];rfl
def voD:Option AK->D
 | none=>.non
 | some U=>.tup ((fl 60 U).map nD)
def Ytk(R:List Sm)(n:Nat)(U:Option AK):Prop:=∀U',U=some U'->fl 60 (tP R U')=[]/\oddO R (fl 60 U')=true/\∀p,U' p=true->p<n
def Ykq(R:List Sm)(n:Nat)(BL:List Row):Prop:=(∀r∈BL,Last (tP R r.2) r.1/\∀p,r.2 p=true->p<n)/\(BL.map (·.1)).Nodup
theorem y6m(hn:n<=60)(hB:Ykq R n BL)(hU:Ytk R n U)(hl:BL.length<=1000)(hp:p<n)(d0 y5 y6:AT):
 ∃(BL':List Row) (U':Option AK) (y5' y6':AT),Ykq R n BL'/\Ytk R n U'/\BL'.length<=BL.length+1/\(∀r∈BL,r∈BL')/\(U.isSome=true->U'.isSome=true)/\Red R BL' U'.isSome (tP R λx=>decide (x=p)) (oddO R (fl 60 λx=>decide (x=p)))/\
  Ydl [d0,some (.od false (kyD BL) (rwD R BL)),↑(voD U),↑(nD p),↑(smD (rg R p)),y5,y6]=some (.nx [d0,some (.od false (kyD BL') (rwD R BL')),↑(voD U'),↑(nD p),↑(smD (rg R p)),y5',y6']):=by
 have h0:=Yagu R (p:=p) (by lia)
 obtain⟨V,v1,v2,v4,v3⟩:=y3c hB.1 (λx=>decide (x=p)) (n:=n) (λq hq=>by
  grind)
 rw[<-h0]at v3;have hpl:=Yaey R V;have hi:Yn (prD2 R V)=some [.tup ((fl 60 V).map nD),.tup [.tup ((fl 60 (tP R V)).map nD),.bl (oddO R (fl 60 V))]]:=rfl;have hfz:frz [1] [d0,some (.od false (kyD BL) (rwD R BL)),↑(voD U),↑(nD p),↑(smD (rg R p)),y5,y6]=[d0,↑(.dct false (kyD BL) (rwD R BL)),↑(voD U),↑(nD p),↑(smD (rg R p)),y5,y6]:=rfl
 have hlend:∀f:AX,f [d0,↑(.dct false (kyD BL) (rwD R BL)),↑(voD U),↑(nD p),↑(smD (rg R p)),y5,y6]=some (prD2 R V)->Yno [1] f [d0,some (.od false (kyD BL) (rwD R BL)),↑(voD U),↑(nD p),↑(smD (rg R p)),y5,y6]=some (prD2 R V):=λf hf=>by
  unfold Yno;grind
 have hcall:cC (Yg (dTup (Yg (dTup (Yg (getV 3) aNil)) (Yg (getV 4) aNil))) (Yg (getV 1) aNil)) Yfe [d0,↑(.dct false (kyD BL) (rwD R BL)),↑(voD U),↑(nD p),↑(smD (rg R p)),y5,y6]=some (prD2 R V):=by
  generalize prD2 R V=PV,smD (rg R p)=S1,nD p=P1,D.dct false (kyD BL) (rwD R BL)=DD at *;simp[v3]
 have hc5:sSet 5 (Yno [1] (cC (Yg (dTup (Yg (dTup (Yg (getV 3) aNil)) (Yg (getV 4) aNil))) (Yg (getV 1) aNil)) Yfe)) [d0,some (.od false (kyD BL) (rwD R BL)),↑(voD U),↑(nD p),↑(smD (rg R p)),y5,y6]=some (.nx [d0,some (.od false (kyD BL) (rwD R BL)),↑(voD U),↑(nD p),↑(smD (rg R p)),↑(prD2 R V),y6]):=by
  simp_all
 rw[Ydl,Ybd,hc5,qd,Yg9];generalize hPV:prD2 R V=PV at hi ⊢;generalize smD (rg R p)=S1;generalize nD p=P1;rcases Yvu (tP R V)with he|⟨b,hb,hne,hat⟩
 ·rw[he]at hi
  have hz:∀x,x<60->tP R V x=false:=λx hx=>by
   simp_all
  cases ho:oddO R (fl 60 V)with
  | false=>
    refine⟨BL,U,↑PV,↑(.tup []),hB,hU,by lia,λ_ h=>h,λh=>h,v4 BL _ (λ_ h=>h) (.zero hz λ_=>ho),?_⟩
    simp_all
  | true=>
    cases U with
    | some U0=>
      refine⟨BL,some U0,↑PV,↑(.tup []),hB,hU,by lia,λ_ h=>h,λh=>h,v4 BL _ (λ_ h=>h) (.zero hz λh=>nomatch h),?_⟩;rw[ho]at hi;generalize kyD BL=K;generalize rwD R BL=VV;simp[hi,voD]
    | none=>
      refine⟨BL,some V,↑PV,↑(.tup []),hB,λU' hU'=>?_,by lia,λ_ h=>h,λ_=>rfl,v4 BL _ (λ_ h=>h) (.zero hz λh=>nomatch h),?_⟩
      ·grind
      ·rw[ho]at hi
       generalize kyD BL=K;generalize rwD R BL=VV;simp[hi,voD]
 ·have hbn:b∉BL.map (·.1):=by
   rcases v2 with z|⟨c,hc,hcn⟩
   ·grind
   ·rw[hb.uniq hc];exact hcn
  refine⟨BL++[(b,V)],U,↑PV,↑(.tup ((fl 60 (tP R V)).map nD)),⟨λr hr=>?_,?_⟩,hU,by simp,λr hr=>List.mem_append_left _ hr,λh=>h,v4 _ _ (λr hr=>List.mem_append_left _ hr) (.step (b,V) (by simp) hb (.zero (λx _=>by simp) λ_=>by simp)),?_⟩
  ·rcases qv hr with hr|hr
   ·exact hB.1 r hr
   simp_all
  ·rw[wt]
   exact List.nodup_append.mpr ⟨hB.2,by simp,λx hx y hy z=>by
    grind⟩
  ·have hemp:((fl 60 (tP R V)).map nD).isEmpty=false:=by
    simp_all
   have hput:Yur (kyD BL) (rwD R BL) (.int (b:Int)) PV=some (kyD (BL++[(b,V)]),rwD R (BL++[(b,V)])):=by
    rw[Ye9,Yng,qd,if_pos (show(rwD R BL).length<cap6 by rw[qf];show BL.length<1000000;lia),if_neg (λz=>hbn (mem_castI.mp z)),<-hPV];simp[nD]
   have hnb:nD b=.int (b:Int):=rfl;rw[hnb]at hat;generalize kyD (BL++[(b,V)])=K2,rwD R (BL++[(b,V)])=V2,kyD BL=K,rwD R BL=VV,(fl 60 (tP R V)).map nD=L at *;simp[hi,hemp,hat,hput,-Ye9]
theorem Yaez(R:List Sm)(hp:p<60)(x:Nat)(hx:x<60):tP R (λx=>decide (x=p)) x=(rg R p).1 x:=by
 unfold tP;rw[Yxc hp];have:=Yqt R [] p x;rw[Qe]at this;rw[this];have h1:oddP R [] x=0:=rfl;grind
theorem y6n(R:List Sm)(hp:p<60):oddO R (fl 60 λx=>decide (x=p))=(rg R p).2:=by
 rw[Yxc hp];unfold oddO;grind
def rwAt:List Row->Nat->AK
 | [],_=>λ_=>false
 | r::BL,b=>if r.1=b then r.2 else rwAt BL b
theorem Yfh(f:(AK)->D):∀{BL:List Row},b∈BL.map (·.1)->(b,rwAt BL b)∈BL/\Yad ((BL.map (·.1)).map λx:Nat=>(x:Int)) (BL.map λr=>f r.2) (b:Int)=some (f (rwAt BL b))
 | [],h=>(nomatch h)
 | r::BL,h=>by
   show(b,rwAt (r::BL) b)∈r::BL/\Yad ((r.1:Int)::((BL.map (·.1)).map λx:Nat=>(x:Int))) (f r.2::BL.map λr=>f r.2) (b:Int)=some (f (rwAt (r::BL) b));rw[Yad,rwAt];by_cases e:r.1=b
   ·grind
   ·have h':b∈BL.map (·.1):=by
     grind
    obtain⟨h1,h2⟩:=Yfh f h';grind
theorem Yxd{BL:List Row}(h:(BL.map (·.1)).Nodup)(hr:r∈BL)(hs:s∈BL)(e:r.1=s.1):r=s:=by
 induction BL with
 | nil=>grind
 | cons a BL ih=>
   grind
theorem Yqw{l:AG}(hn:l.Nodup)(hl:∀x∈l,x<60):l.length<=60:=by
 have hp:l.Perm (fl 60 λx=>decide (x∈l)):=(List.perm_ext_iff_of_nodup hn (List.nodup_range.filter _)).mpr λx=>by
  grind
 rw[hp.length_eq];grind
theorem y3e(l:AG)(hn:l.Nodup):∃l':AG,l'.Perm l/\l'.Pairwise (·<·)/\Yc6 (l.map λx:Nat=>(x:Int))=l'.map λx:Nat=>(x:Int):=by
 have hp:=Yay (l.map λx:Nat=>(x:Int));have hs:=Ya5 (l.map λx:Nat=>(x:Int))
 have e2:∃l':AG,Yc6 (l.map λx:Nat=>(x:Int))=l'.map λx:Nat=>(x:Int):=by
  refine⟨(Yc6 (l.map λx:Nat=>(x:Int))).map Int.toNat,?_⟩;rw[Qd];refine(List.map_id _).symm.trans (Qj λx hx=>?_);grind
 obtain⟨l',e2⟩:=e2;rw[e2]at hp hs
 have hp':l'.Perm l:=by
  have:=hp.map Int.toNat;simpa [wu]using this
 have hn':l'.Nodup:=hp'.nodup_iff.mpr hn
 have hs':l'.Pairwise (·<=·):=(List.pairwise_map.mp hs).imp λh=>by lia
 exact⟨l',hp',(hs'.and hn').imp λh=>Nat.lt_of_le_of_ne h.1 h.2,e2⟩
theorem y3f(hR:R.length<=60):∃(BL:List Row) (U:Option AK),Ykq R R.length BL/\Ytk R R.length U/\BL.Pairwise (λr s=>r.1<s.1)/\
 (∀p,p<R.length->Red R BL U.isSome (rg R p).1 (rg R p).2)/\
 Ygr [.tup [.str "sums",.tup (R.map smD)]]=some (.tup [.lst (rwD R BL),voD U]):=by
 generalize hb:D.tup [.str "sums",.tup (R.map smD)]=Bo
 have hbi:Yn Bo=some [.str "sums",.tup (R.map smD)]:=by rw[<-hb];rfl
 obtain⟨ρ1,e1,BL,U,y3,y4,y5,y6,hB,hU,hL,hD,rfl⟩:=Ydg (gt:=Ypp 3 4) (fb:=Ydl) (λi:Nat=>D.tup [.int (i:Int),smD (rg R i)]) (λpre ρ=>∃(BL:List Row) (U:Option AK) (y3 y4 y5 y6:AT),Ykq R R.length BL/\Ytk R R.length U/\BL.length<=pre.length/\(∀p∈pre,Red R BL U.isSome (tP R λx=>decide (x=p)) (oddO R (fl 60 λx=>decide (x=p))))/\
  ρ=[↑Bo,some (.od false (kyD BL) (rwD R BL)),↑(voD U),y3,y4,y5,y6]) (List.range R.length) []
  [↑Bo,some (.od false [] []),↑.non,none,none,none,none] ⟨[],none,none,none,none,none,⟨by simp,by simp⟩,λ_ h=>(nomatch h),by simp,by simp,rfl⟩ (by
   rintro q p r ρ e ⟨BL,U,y3,y4,y5,y6,hB,hU,hL,hD,rfl⟩
   have hp:p<R.length:=by
    have:p∈List.range R.length:=by grind
    grind
   have hq:q.length<=R.length:=by have:=congrArg List.length e;grind
   obtain⟨BL',U',y5',y6',hB',hU',hL',hs,hu,hred,hst⟩:=y6m hR hB hU (by lia) hp (↑Bo) y5 y6;refine⟨_,_,rfl,hst,BL',U',_,_,y5',y6',hB',hU',by simp;lia,λp' hp'=>?_,rfl⟩;rcases qv hp' with z|z
   ·exact(hD p' z).mono hs hu
   grind)
 rw[Qe]at hL hD;rw[List.length_range]at hL
 have hlast:∀x∈BL.map (·.1),x<60:=λx hx=>by
  obtain⟨r,hr,rfl⟩:=qw hx;exact(hB.1 r hr).1.1
 obtain⟨l',hp',hpw,hso⟩:=y3e (BL.map (·.1)) hB.2;have hlen:=Yqw hB.2 hlast;have hin:∀b∈l',(b,rwAt BL b)∈BL:=λb hb=>(Yfh (prD2 R) (hp'.mem_iff.mp hb)).1
 have hkeys:(l'.map λb=>(b,rwAt BL b)).map (·.1)=l':=by
  rw[Qd];exact List.map_id _
 have hsub:∀r∈BL,r∈l'.map λb=>(b,rwAt BL b):=λr hr=>by
  have h1:r.1∈l':=hp'.mem_iff.mpr (List.mem_map_of_mem (f:=(·.1)) hr);have h2:=Yxd hB.2 hr (hin r.1 h1) rfl;grind
 refine⟨l'.map λb=>(b,rwAt BL b),U,⟨λr hr=>?_,?_⟩,hU,?_,λp hp=>?_,?_⟩
 ·obtain⟨b,hb,rfl⟩:=qw hr
  exact hB.1 _ (hin b hb)
 ·rw[hkeys];exact hp'.nodup_iff.mpr hB.2
 ·grind
 ·have:=(hD p (List.mem_range.mpr hp)).mono hsub (λh=>h)
  rw[y6n R (by lia)]at this;exact this.congr λx hx=>Yaez R (by lia) x hx
 ·rw[Ygr,y0 (by rfl)]
  have hst:Yr 7 [Bo]=[↑Bo,none,none,none,none,none,none]:=rfl;have hen:Yl7 (R.map smD)=(List.range R.length).map λi:Nat=>D.tup [.int (i:Int),smD (rg R i)]:=y2j smD (λ_=>false,false) R
  have hsk:Yh9 [.dct false (kyD BL) (rwD R BL)]=some (l'.map nD):=by
   rw[Ymf,Yng,qd,if_pos (by grind),hso,Qd];rfl
  have hcm:=Yfu (fe:=Ygq) (r:=[↑(.dct false (kyD BL) (rwD R BL))]) (enc:=nD) (λb=>prD2 R (rwAt BL b)) (l:=l') (λb hb=>by
   have hg:getI (.dct false (kyD BL) (rwD R BL)) (.int (b:Int))=some (prD2 R (rwAt BL b)):=by
    rw[Yfo,Yng,qd];exact(Yfh (prD2 R) (hp'.mem_iff.mp hb)).2
   have hnb:nD b=.int (b:Int):=rfl;rw[hnb];generalize prD2 R (rwAt BL b)=PB,D.dct false (kyD BL) (rwD R BL)=DD at *
   simp[Ygq,hg,-Yfo])
  have hrw:rwD R (l'.map λb=>(b,rwAt BL b))=l'.map λb=>prD2 R (rwAt BL b):=by
   simp_all
  rw[hrw];rw[hst,Ysu,Ybd];have e0:Yuq 1 [↑Bo,none,none,none,none,none,none]=some (.nx [↑Bo,some (.od false [] []),none,none,none,none,none]):=rfl;rw[e0,qd,Yg9,Ymt,Ybd];have e2:sSet 2 (kD .non) [↑Bo,some (.od false [] []),none,none,none,none,none]=some (.nx [↑Bo,some (.od false [] []),↑.non,none,none,none,none]):=rfl;rw[e2,qd,Yg9,Yms,Ybd]
  have e3:sFor (b1 (b2 (getC 0) (kD (.int 1)) ixD) Yl8) (Ypp 3 4) Ydl [↑Bo,some (.od false [] []),↑.non,none,none,none,none]=some (.nx [↑Bo,some (.od false (kyD BL) (rwD R BL)),↑(voD U),y3,y4,y5,y6]):=by
   simp_all
  rw[e3,qd,Yg9,Ymr,Yael];have e4:frz [1] [↑Bo,some (.od false (kyD BL) (rwD R BL)),↑(voD U),y3,y4,y5,y6]=[↑Bo,↑(.dct false (kyD BL) (rwD R BL)),↑(voD U),y3,y4,y5,y6]:=rfl;rw[e4];generalize (l'.map λb=>prD2 R (rwAt BL b))=RR,D.dct false (kyD BL) (rwD R BL)=DD,voD U=VU at *;simp[hsk,capR,hcm]
theorem Yaa1{Q:(AK)->Bool->Prop}(h0:Q (λ_=>false) false)(hx:∀{T S o u},Q T o->Q S u->Q (λx=>T x != S x) (o != u))(hc:∀{T T' o},Q T o->(∀x,x<60->T x=T' x)->Q T' o)(h:∀p∈ps,Q (rg R p).1 (rg R p).2):Q (λx=>decide (oddP R ps x%2=1)) (oddO R ps):=by
 have key:∀l:AG,(∀p∈l,Q (rg R p).1 (rg R p).2)->Q (λx=>decide (oddP R l.reverse x%2=1)) (oddO R l.reverse):=λl=>by
  induction l with
  | nil=>exact λ_=>hc h0 λx _=>rfl
  | cons p l ih=>
    intro hl;have h1:=ih λq hq=>hl q (qg _ hq);have h2:=hx h1 (hl p qh);rw[List.reverse_cons,y6k];refine hc h2 λx hx=>?_;rw[Yqt];cases hp:(rg R p).1 x
    ·rw[if_neg λz=>by rw[List.mem_filter,hp]at z;exact qi z.2]
     cases decide (oddP R l.reverse x%2=1)<;>rfl
    ·rw[if_pos (List.mem_filter.mpr ⟨List.mem_range.mpr hx,hp⟩)]
     by_cases z:oddP R l.reverse x%2=1
     ·rw[wn z,wo (by lia)];rfl
     ·rw[wo z,wn (by lia)];rfl
 have:=key ps.reverse λp hp=>h p (List.mem_reverse.mp hp)
 rwa [List.reverse_reverse]at this
def hdD(b:Bool):D:=.str (if b=true then Str.ofString "keeper" else Str.ofString "storm")
theorem Yvv(c:Int)(n:Nat)(hn:n<=1000):∃hs:AJ,hs.length=n/\Yf7 [.int c,.int n]=some (.tup (hs.map hdD)):=by
 obtain⟨v,hv0,hv⟩:=Yvp c 1442695040888963407;rw[Yf7,y0 (by rfl)];have hr:=Yj3 (n:=(n:Int)) (by lia) (by lia);rw[Yic]at hr
 have hc:=Yfu (fe:=Ydj) (r:=[↑(.int v)]) (enc:=λi:Nat=>D.int (0+(i:Nat))) (λi:Nat=>hdD (decide (v/2^i%2=0))) (l:=List.range ((n:Int)-0).toNat) (λi _=>by
  have h1:=y1m v i
  have h2:v/2^i%2=0\/v/2^i%2=1:=by lia
  have e0:(0:Int)+(i:Int)=(i:Int):=by lia
  rw[e0];rcases h2 with h2|h2
  ·simp[Ydj,h1,h2,hdD]
  ·simp[Ydj,h1,h2,hdD])
 refine⟨(List.range n).map λi:Nat=>decide (v/2^i%2=0),by simp,?_⟩;simp[Ynb,Yr,hv,hr,capR]at hc ⊢;rw[hc];simp[wu]
theorem Yjj(l:AG)(hn:l.Nodup)(hl:l.length<64):∃l':AG,l'.Perm l/\l'.Pairwise (·<·)/\Yh7 [.lst (l.map nD)]=some (l'.map nD):=by
 have e1:l.map nD=(l.map Int.ofNat).map D.int:=by simp_all
 have hp:=Yay (l.map Int.ofNat);have hs:=Ya5 (l.map Int.ofNat)
 have e2:∃l':AG,Yc6 (l.map Int.ofNat)=l'.map Int.ofNat:=by
  have hm:∀x∈Yc6 (l.map Int.ofNat),0<=x:=λx hx=>by
   grind
  refine⟨(Yc6 (l.map Int.ofNat)).map Int.toNat,?_⟩;rw[Qd];refine(List.map_id _).symm.trans (Qj λx hx=>?_);grind
 obtain⟨l',e2⟩:=e2;rw[e2]at hp hs
 have hp':l'.Perm l:=by
  have:=hp.map Int.toNat;simpa [wu]using this
 refine⟨l',hp',?_,?_⟩
 ·have hn':l'.Nodup:=hp'.nodup_iff.mpr hn
  have hs':l'.Pairwise (·<=·):=by
   have:=List.pairwise_map.mp hs
   simp_all
  exact(hs'.and hn').imp λh=>Nat.lt_of_le_of_ne h.1 h.2
 ·show Yya (l.map nD)=_
  rw[e1];unfold Yya;rw[Ygn]
  simp_all
theorem y3g(l:BA)(h:l.length<=2)(hn:(l.map (·.1)).Nodup):∃l':BA,l'.Perm l/\l'.Pairwise slt/\Yh7 [.lst (l.map sayD)]=some (l'.map sayD):=by
 match l,h,hn with
 | [],_,_=>exact⟨[],.refl _,.nil,rfl⟩
 | [a],_,_=>exact⟨[a],.refl _,by simp,rfl⟩
 | [a,b],_,hn=>
   have hab:a.1≠b.1:=by simpa using hn
   have e:Yh7 [.lst ([a,b].map sayD)]=some (if plt b.1 b.2 a.1 a.2=true then [sayD b,sayD a]else [sayD a,sayD b]):=rfl;obtain⟨x,p⟩:=a;obtain⟨y,q⟩:=b;have hxy:¬(y:Int)=(x:Int):=λz=>hab (by simp;lia)
   cases hp:plt (y:Int) q (x:Int) p with
   | true=>
     refine⟨[(y,q),(x,p)],.swap _ _ [],?_,by rw[e];simp[hp]⟩;unfold plt at hp;rw[if_neg hxy]at hp;simp at hp;simp[slt,hp]
   | false=>
     refine⟨[(x,p),(y,q)],.refl _,?_,by rw[e];simp[hp]⟩;unfold plt at hp;rw[if_neg hxy]at hp;simp at hp
     have:x<y:=by lia
     simp[slt,this]
theorem Yaa2(k:Kd)(c:Int)(st n:Nat)(h0:st<n)(hn:n<=1000):∃r:Rl,In k n r/\Srt r/\(∀x∈bcs r,st<=x)/\Yhf [kdD k,.int c,.int st,.int n]=some (rlD r):=by
 obtain⟨v,hv0,hv⟩:=Yvp c 1181783497276652981
 have hd0:(0:Int)<(n:Int)-st:=by lia
 have hd1:(n:Int)-st<1073741824:=by lia
 have hmod:∀x:Int,modI (.int x) (.int ((n:Int)-st))=some (.int (x%((n:Int)-st))):=λx=>y2e hd0;have hdiv:∀x:Int,divI (.int x) (.int ((n:Int)-st))=some (.int (x/((n:Int)-st))):=λx=>y58 hd0 hd1
 have hbe:∀x:Int,∃b:Nat,st<=b/\b<n/\(st:Int)+x%((n:Int)-st)=(b:Int):=λx=>by
  have h1:=Int.emod_nonneg x (show(n:Int)-st≠0 by lia);have h2:=Int.emod_lt_of_pos x hd0;exact⟨((st:Int)+x%((n:Int)-st)).toNat,by lia,by lia,by lia⟩
 have hst:Yr 8 [kdD k,.int c,.int st,.int n]=[↑(kdD k),↑(.int c),↑(.int st),↑(.int n),none,none,none,none]:=rfl;rw[Yhf,y0 (by rfl),hst];obtain⟨sz0,hsm,hsa⟩:=Yaav (l:=([1,2,2,2,1,2,3,4]:AH)) (i:=v%8) (by lia) (by simp;lia)
 have hsz0:1<=sz0/\sz0<=4:=by
  simp at hsm;lia
 have hix:atI [D.int 1,D.int 2,D.int 2,D.int 2,D.int 1,D.int 2,D.int 3,D.int 4] (v%8)=some (.int sz0):=by
  rw[show[D.int 1,D.int 2,D.int 2,D.int 2,D.int 1,D.int 2,D.int 3,D.int 4]=([1,2,2,2,1,2,3,4]:AH).map D.int from rfl,Yft,hsa];rfl
 have hki:∀ρ:Ro,Yr9 [1,2,2,2,1,2,3,4] ρ=some (([1,2,2,2,1,2,3,4]:AH).map D.int):=λρ=>by
  unfold Yr9;rw[if_pos (by decide)]
 have loop:∀(size:Int),0<=size->size<=4->∃(l:AG) (left:Int) (y:AT),(l.length:Int)<=size/\l.Nodup/\(∀x∈l,st<=x/\x<n)/\
  M.forM (gSet 7) Yc2 ((List.range (size-0).toNat).map λi:Nat=>D.int (0+(i:Nat))) [↑(kdD k),↑(.int c),↑(.int st),↑(.int n),↑(.int (v/8)),↑(.int size),some (.ow []),none] =
   some (.nx [↑(kdD k),↑(.int c),↑(.int st),↑(.int n),↑(.int left),↑(.int size),some (.ow (l.map nD)),y]):=by
  intro size hs0 hs4
  obtain⟨ρ',e1,l,left,y,hl,hnd,hlt,rfl⟩:=Ydg (gt:=gSet 7) (fb:=Yc2) (λi:Nat=>D.int (0+(i:Nat))) (λpre ρ=>∃(l:AG) (left:Int) (y:AT),l.length<=pre.length/\l.Nodup/\(∀s∈l,st<=s/\s<n)/\
   ρ=[↑(kdD k),↑(.int c),↑(.int st),↑(.int n),↑(.int left),↑(.int size),some (.ow (l.map nD)),y]) (List.range (size-0).toNat) []
   [↑(kdD k),↑(.int c),↑(.int st),↑(.int n),↑(.int (v/8)),↑(.int size),some (.ow []),none] ⟨[],v/8,none,qu _,.nil,by simp,rfl⟩ (by
    rintro q a r ρ e ⟨l,left,y,hl,hnd,hlt,rfl⟩
    have hq:q.length<1000:=by have:=congrArg List.length e;simp at this;lia
    have hcap:l.length<1000000:=by lia
    obtain⟨b,hb1,hb2,hb⟩:=hbe left;have hin:=in_n (c:=.lst (l.map nD)) b l true rfl;simp only[nD]at hin;by_cases hm:b∈l
    ·refine⟨_,_,rfl,?_,l,left/((n:Int)-st),↑(.int (0+(a:Int))),by simp;lia,hnd,hlt,rfl⟩
     simp[Yc2,hmod,hdiv,hb,hin,hm,nD]
    ·refine⟨_,_,rfl,?_,l++[b],left/((n:Int)-st),↑(.int (0+(a:Int))),by simp;lia,?_,?_,rfl⟩
     ·simp[Yc2,hmod,hdiv,hb,hin,hm,appD,hcap,nD]
     ·rw[List.nodup_append]
      refine⟨hnd,by simp,?_⟩;intro x hx y hy z;simp at hy;subst hy;exact hm (z ▸ hx)
     ·intro s hs
      rcases qv hs with hs|hs
      ·exact hlt s hs
      ·simp at hs
       subst hs
       exact⟨hb1,hb2⟩)
  refine⟨l,left,y,?_,hnd,hlt,e1⟩;simp at hl;lia
 by_cases hk:k=.e
 ·subst hk
  obtain⟨size,hsz,hs0,hs2⟩:∃size:Int,(if (2:Int)<sz0 then 2 else sz0)=size/\0<=size/\size<=2:=⟨_,rfl,by split<;>lia,by split<;>lia⟩
  obtain⟨l,left,y,hl,hnd,hlt,e1⟩:=loop size hs0 (by lia);have hr:=Yj3 (n:=size) (by lia) (by lia);rw[Yic]at hr;have hr2:=Yj3 (n:=(l.length:Int)) (by lia) (by lia);rw[Yic]at hr2
  have hc:=Yfu (fe:=Yd3) (r:=[↑(.lst (l.map nD)),↑(.int left)]) (enc:=λi:Nat=>D.int (0+(i:Nat))) (λi:Nat=>sayD (l.getD i 0,decide (left/2^i%2=1))) (l:=List.range ((l.length:Int)-0).toNat) (λi hi=>by
   have hi':i<l.length:=by simpa using hi
   have h1:=y1m left i
   have e0:(0:Int)+(i:Int)=(i:Int):=by lia
   have hat:atI (l.map nD) (i:Int)=some (.int (l.getD i 0:Nat)):=by
    rw[Yft,Ylh hi'];simp[hi',nD]
   rw[e0]
   simp[Yd3,h1,hat,sayD])
  generalize hsl:(List.range l.length).map (λi:Nat=>((l.getD i 0,decide (left/2^i%2=1)):Say))=sl
  have hsl1:sl.map (·.1)=l:=by
   rw[<-hsl,Qd];refine List.ext_getElem (by simp) λi h1 h2=>?_;simp[h2]
  obtain⟨l',hp,hpw,hs⟩:=y3g sl (by rw[<-hsl];simp;lia) (by rw[hsl1];exact hnd);have hmem:∀s∈l',st<=s.1/\s.1<n:=λs hs=>hlt s.1 (by rw[<-hsl1];exact List.mem_map_of_mem (hp.mem_iff.mp hs));refine⟨.ei l',⟨rfl,λs hs=>(hmem s hs).2⟩,⟨by rw[hp.length_eq,<-hsl];simp;lia,hpw⟩,λx hx=>?_,?_⟩
  ·obtain⟨s,hs',rfl⟩:=qw hx
   exact(hmem s hs').1
  ·have hc':Ydr (gSet 0) tY Yd3 [none,↑(.lst (l.map nD)),↑(.int left)] ((List.range ((l.length:Int)-0).toNat).map λi:Nat=>D.int (0+(i:Nat)))=some (sl.map sayD):=by
    rw[hc,<-hsl,Qd];simp[wu]
   simp[Yd7,hv,hki,hix,hsz,hr]at e1 ⊢;rw[e1];simp[hr2,capR]at hc' ⊢;rw[hc'];simp[hs,rlD]
 ·obtain⟨l,left,y,hl,hnd,hlt,e1⟩:=loop sz0 (by lia) hsz0.2
  have hr:=Yj3 (n:=sz0) (by lia) (by lia);rw[Yic]at hr;obtain⟨l',hp,hpw,hs⟩:=Yjj l hnd (by lia);have hmem:∀s∈l',st<=s/\s<n:=λs hs=>hlt s (hp.mem_iff.mp hs);by_cases hks:k=.s
  ·subst hks
   refine⟨.su l' (decide (left%2=1)),⟨rfl,λs hs=>(hmem s hs).2⟩,hpw,λx hx=>(hmem x hx).1,?_⟩;simp[Yd7,hv,hki,hix,hr]at e1 ⊢;rw[e1];simp[hs,rlD]
  ·have hki2:k=.i\/k=.n:=by cases k<;>simp at hk hks ⊢
   by_cases h4:left%4=0
   ·refine⟨.im l' none,⟨hki2,λs hs=>(hmem s hs).2,λx hx=>by cases hx⟩,hpw,λx hx=>(hmem x hx).1,?_⟩
    simp[Yd7,hv,hki,hix,hr,hk,hks]at e1 ⊢;rw[e1];simp[hs,rlD,hks,h4,hk,optD]
   ·obtain⟨b,hb1,hb2,hb⟩:=hbe (left/4)
    by_cases h1:left%4=1
    ·have hcut:cutD (l.map nD) (some 1) none=(l.map nD).drop 1:=by
      have hm:=HT.sIx_nat (l.map nD).length 0 1;unfold cutD;simp at hm;simp[hm,HT.sIx]
      cases l with
      | nil=>simp
      | cons a l=>simp;exact List.take_of_length_le (by simp)
     obtain⟨m,hpm,hpwm,hsm'⟩:=Yjj (l.drop 1) (hnd.sublist (List.drop_sublist 1 l)) (by simp;lia);have hmm:∀s∈m,st<=s/\s<n:=λs hs=>hlt s (List.mem_of_mem_drop (hpm.mem_iff.mp hs));refine⟨.im m (some b),⟨hki2,λs hs=>(hmm s hs).2,λx hx=>by cases hx;exact hb2⟩,hpwm,λx hx=>?_,?_⟩
     ·simp[bcs]at hx
      rcases hx with hx|rfl
      ·exact(hmm x hx).1
      ·exact hb1
     ·simp[Yd7,hv,hki,hix,hr,hk,hks]at e1 ⊢
      rw[e1];simp at hsm';simp[hs,rlD,hks,h4,h1,hk,optD,hcut,hmod,hb,hsm']
    ·refine⟨.im l' (some b),⟨hki2,λs hs=>(hmem s hs).2,λx hx=>by cases hx;exact hb2⟩,hpw,λx hx=>?_,?_⟩
     ·simp[bcs]at hx
      rcases hx with hx|rfl
      ·exact(hmem x hx).1
      ·exact hb1
     ·simp[Yd7,hv,hki,hix,hr,hk,hks]at e1 ⊢
      rw[e1];simp[hs,rlD,hks,h4,h1,hk,optD,hmod,hb]
def Yagv(a b:Bool):eqM false (hdD a) (hdD b)=some (a==b):=by
 rw[You (by simp[hdD]) (by simp[hdD])];cases a<;>cases b<;>decide +kernel
def ofH(hs:AJ)(st:Nat)(b:Bool):AG:=(List.range hs.length).filter λi=>decide (st<=i)&&(hs.getD i false==b)
theorem Ybp(hs:AJ)(hc:Yn c=some (hs.map hdD))(hl:hs.length<=1000)(st:Nat)(hst:st<=hs.length)(b:Bool):Yat [c,.int st,hdD b]=some (.lst ((ofH hs st b).map nD)):=by
 rw[Yat,y0 (by rfl)];have hr:=Yaau (a:=(st:Int)) (n:=(hs.length:Int)) (by lia) (by lia) (by lia) (by lia);rw[Yic]at hr
 have hcm:=Ymn (fc:=Ydb) (fe:=Ydc) (r:=[↑c,↑(hdD b)]) (enc:=λi:Nat=>D.int ((st:Int)+(i:Nat))) (λi:Nat=>hs.getD (st+i) false==b) (λi:Nat=>nD (st+i)) (l:=List.range ((hs.length:Int)-st).toNat) (λi hi=>by
  have hi':st+i<hs.length:=by grind
  have e0:(st:Int)+(i:Int)=((st+i:Nat):Int):=by lia
  have hat:atI (hs.map hdD) ((st+i:Nat):Int)=some (hdD (hs.getD (st+i) false)):=by
   rw[Yft,Ylh hi'];simp[hi']
  rw[e0]
  simp only[Ydb,Yaao,gCs,gC0,qd,Yaar,hc,hat,Yagv]) (λi _ _=>by simp[Ydc,nD])
 have he:(((List.range ((hs.length:Int)-st).toNat).filter λi:Nat=>hs.getD (st+i) false==b).map λi:Nat=>nD (st+i))=(ofH hs st b).map nD:=by
  unfold ofH
  have h1:List.range hs.length=List.range st++(List.range (hs.length-st)).map (st+·):=by
   rw[<-List.range_add];grind
  rw[h1,List.filter_append,List.filter_map]
  have h2:(List.range st).filter (λi=>decide (st<=i)&&(hs.getD i false==b))=[]:=by
   rw[List.filter_eq_nil_iff];grind
  have h3:((hs.length:Int)-st).toNat=hs.length-st:=by lia
  rw[h2,h3,Qe,Qd];simp[wu]
 have h3:((hs.length:Int)-st).toNat=hs.length-st:=by lia
 rw[he,h3]at hcm;rw[h3]at hr;simp[Yht,Yr,hc,hr,capR,hcm]
def isV(k:Kd)(r:Rl):Bool:=eqD (rlD r) (rlD (vd k))
def Yvw{R:List Rl}(hR:∀r∈R,In k n r/\sz r<=999999):Yek [Yds k R]=some (.bl (R.any (isV k))):=by
 rw[Yek,y0 (by rfl)]
 have hc:=Yfu (fe:=Ye4) (r:=[↑(Yds k R)]) (enc:=rlD) (λr=>D.bl (isV k r)) (l:=R) (λr hr=>by
  have:=y27 (hR r hr).1 (hR r hr).2
  simp[Ye4,this,isV])
 simp[Ymz,Yr,capR,hc,List.any_map,wu]
def kDct(ks:AG):D:=.dct false (ks.map nD) (ks.map λ_=>.bl true)
theorem Yxe(l:AG):intsD (l.map nD)=some (l.map λx:Nat=>(x:Int)):=by simp_all
theorem Yjk(x:Nat)(ks:AG):((x:Int)∈ks.map λx:Nat=>(x:Int))↔x∈ks:=by grind
def Yagw(x:Nat)(ks:AG)(neg:Bool):hasI neg (nD x) (kDct ks)=some (decide (x∈ks)!=neg):=by
 rw[show nD x=.int x from rfl,kDct,Ypx,Yxe,Option.map_some,decide_eq_decide.mpr (Yjk x ks)]
def Yae0(x:Nat)(ks:AG)(neg:Bool):hasN neg (.int (x:Int)) (kDct ks)=some (decide (x∈ks)!=neg):=by
 rw[kDct,Ylc,Yxe,Option.map_some,decide_eq_decide.mpr (Yjk x ks)]
theorem Yaa3(ks:AG)(hk:∀x∈ks,x<60)(neg:Bool):hasN neg .non (kDct ks)=some (false != neg):=by
 rw[kDct,y5u,Yxe,qd,if_pos];unfold Yoq;grind
def Yae1(x:Nat)(ks:AG):inM false (nD x) (kDct ks)=none:=rfl
def Yk3(r:IfR)(ks:AG):Ya0 [ifD r,kDct ks]=some (.bl (kn r.1 ks)):=by
 rw[Ya0,y0 (by rfl)];have h:=Yfu (fe:=Ya6) (r:=[↑(kDct ks)]) (enc:=nD) (λx=>D.bl (decide (x∈ks))) (l:=r.1) (λx _=>by simp[Ya6,Yagw x ks false,Yae1 x ks]);simp[Yej,Yr,capR,h,kn,List.all_map,wu]
theorem Yzf(R:List IfR)(ks:AG)(i:Nat)(h:i<R.length):Yja [Yao R,kDct ks,.int (i:Int)]=some (.bl ((rAt R i).2.isSome&&kn (rAt R i).1 ks)):=by
 rw[Yja,y0 (by rfl)];have h1:=Yaaz (R:=R) (i:=(i:Int)) ⟨by lia,by lia⟩;have h2:=Yk3 (rAt R i) ks;have h3:=Yze R i;rw[wn (by lia)]at h3
 cases hh:(rAt R i).2 with
 | none=>simp[Ymy,Yr,h3,h1,hh,optD]
 | some x=>simp[Ymy,Yr,h3,h1,h2,hh,optD]
def okS(R:List IfR)(ks:AG)(i:Nat):Bool:=match (rAt R i).2 with
 | none=>false
 | some x=>!decide (x∈ks)&&kn (rAt R i).1 ks
def nxt(R:List IfR)(ks:AG):AN:=(List.range R.length).find? (okS R ks)
theorem Ynh{α:Type}(enc:α->D)(p:α->Bool)(res:α->D)(I:Ro->Prop):∀(l:List α) (ρ:Ro),I ρ->
 (∀a∈l,∀ρ,I ρ->∃ρ1,gt (enc a) ρ=some ρ1/\((p a=false/\∃ρ2,fb ρ1=some (.nx ρ2)/\I ρ2)\/(p a=true/\fb ρ1=some (.rt (res a)))))->
 (∃a,l.find? p=some a/\M.forM gt fb (l.map enc) ρ=some (.rt (res a)))\/(l.find? p=none/\∃ρ',M.forM gt fb (l.map enc) ρ=some (.nx ρ')/\I ρ')
 | [],ρ,h0,_=>.inr ⟨rfl,ρ,rfl,h0⟩
 | a::l,ρ,h0,hs=>by
   obtain⟨ρ1,e1,h⟩:=hs a qh ρ h0;rw[Qa,M.forM,e1,qd,List.find?_cons];rcases h with⟨hp,ρ2,e2,h2⟩|⟨hp,e2⟩
   ·rw[e2,qd,hp]
    exact Ynh enc p res I l ρ2 h2 λb hb=>hs b (qg _ hb)
   grind
def Yqx(R:List IfR):Yl7 (R.map ifD)=(List.range R.length).map λi:Nat=>D.tup [.int (i:Int),ifD (rAt R i)]:=by
 unfold Yl7;rw[qf];refine Qj λi hi=>?_;have hi':i<R.length:=qy hi;rw[rAt,w9,List.getD_eq_getElem?_getD,Qi,List.getD_eq_getElem?_getD,qq hi'];rfl
def Yhz(R:List IfR)(ks:AG)(hk:∀x∈ks,x<60):Yb6 [Yao R,kDct ks]=some (optD (nxt R ks)):=by
 rw[Yb6,y0 (by rfl)];have hst:Yr 4 [Yao R,kDct ks]=[↑(Yao R),↑(kDct ks),none,none]:=rfl;rw[hst]
 have h:=Ynh (gt:=Ypp 2 3) (fb:=Yaz) (λi:Nat=>D.tup [.int (i:Int),ifD (rAt R i)]) (okS R ks) (λi:Nat=>D.int (i:Int)) (λρ=>∃y z,ρ=[↑(Yao R),↑(kDct ks),y,z]) (List.range R.length)
  [↑(Yao R),↑(kDct ks),none,none] ⟨none,none,rfl⟩ (by
   rintro i hi ρ ⟨y,z,rfl⟩;have hi':i<R.length:=qy hi;refine⟨[↑(Yao R),↑(kDct ks),↑(.int (i:Int)),↑(ifD (rAt R i))],rfl,?_⟩;have hs:=Yzf R ks i hi';have hnn:=Yaa3 ks hk true;unfold okS
   cases hh:(rAt R i).2 with
   | none=>
     left;rw[hh]at hs;refine⟨rfl,[↑(Yao R),↑(kDct ks),↑(.int (i:Int)),↑(ifD (rAt R i))],?_,_,_,rfl⟩;simp[Yaz,hh,optD,hnn,hs]
   | some x=>
     rw[hh]at hs;have hx:=Yae0 x ks true;by_cases hm:x∈ks
     ·left
      refine⟨by simp[hm],[↑(Yao R),↑(kDct ks),↑(.int (i:Int)),↑(ifD (rAt R i))],?_,_,_,rfl⟩;simp[Yaz,hh,optD,hx,hm]
     ·cases hkn:kn (rAt R i).1 ks with
      | false=>
        left;rw[hkn]at hs;refine⟨by simp,[↑(Yao R),↑(kDct ks),↑(.int (i:Int)),↑(ifD (rAt R i))],?_,_,_,rfl⟩;simp[Yaz,hh,optD,hx,hm,hs]
      | true=>
        right;rw[hkn]at hs;refine⟨by simp[hm],?_⟩
        simp[Yaz,hh,optD,hx,hm,hs])
 rw[Yhv];rcases h with⟨i,h1,h2⟩|⟨h1,ρ',h2,h3⟩
 ·simp only[Ybd,y2d,Yaek,Yaao]
  simp[Yl8,Yqx,h2,nxt,h1,optD]
 ·simp[Yl8,Yqx,h2,nxt,h1,optD]
theorem Yxf(h:nxt R ks=some i):i<R.length/\∃x,(rAt R i).2=some x/\x∉ks/\kn (rAt R i).1 ks=true:=by
 unfold nxt at h;have h1:=List.mem_of_find?_eq_some h;have h2:=List.find?_some h;unfold okS at h2;grind
theorem y6o(h:nxt R ks=none)(hi:i<R.length)(hx:(rAt R i).2=some x)(hk:kn (rAt R i).1 ks=true):x∈ks:=by
 unfold nxt at h;have:=List.find?_eq_none.mp h i (List.mem_range.mpr hi);unfold okS at this;grind
theorem Yhh:∀(n:Nat) (l:AG),l.Nodup->(∀x∈l,x<n)->l.length<=n
 | 0,l,_,h=>by
   cases l with
   | nil=>simp
   | cons a l=>exact absurd (h a qh) (by lia)
 | n+1,l,hn,h=>by
   have h1:=Yhh n (l.erase n) (hn.erase n) λx hx=>by
    grind
   grind
def Der(R:List IfR):AG->AG->Prop
 | _,[]=>True
 | ks,i::is=>(i<R.length/\(∃x,(rAt R i).2=some x)/\kn (rAt R i).1 ks=true)/\Der R (ks++[hdN (rAt R i)]) is
theorem Yxg(h:∀x,x∈ks↔x∈fs):kn b ks=kn b fs:=by
 unfold kn;grind
theorem Der.congr:∀{is ks fs:AG},(∀x,x∈ks↔x∈fs)->Der R ks is->Der R fs is
 | [],_,_,_,_=>trivial
 | i::is,ks,fs,h,d=>by
   obtain⟨⟨h1,h2,h3⟩,d⟩:=d;refine⟨⟨h1,h2,by rw[<-Yxg h];exact h3⟩,Der.congr (λx=>?_) d⟩;simp[h x]
theorem y3h(R:List IfR)(hRo:∀r∈R,∀x,r.2=some x->x<60)(y:AT):∀(m fuel:Nat) (ks is:AG),60<=ks.length+m->m+1<=fuel->ks.Nodup->(∀x∈ks,x<60)->is.length+m<=1000->
 ∃js:AG,nxt R (ks++js.map λi:Nat=>hdN (rAt R i))=none/\(ks++js.map λi:Nat=>hdN (rAt R i)).Nodup/\(∀x∈ks++js.map (λi:Nat=>hdN (rAt R i)),x<60)/\Der R ks js/\js.length<=m/\
  Ybt (b2 (getC 4) (kD .non) (isN true)) Yba fuel [↑(Yao R),y,some (.od false (ks.map nD) (ks.map λ_=>.bl true)),some (.ow (is.map nD)),↑(optD (nxt R ks))] =
   some (.nx [↑(Yao R),y,some (.od false ((ks++js.map λi:Nat=>hdN (rAt R i)).map nD) ((ks++js.map λi:Nat=>hdN (rAt R i)).map λ_=>.bl true)),some (.ow ((is++js).map nD)),↑.non]):=by
 intro m
 induction m with
 | zero=>
   intro fuel ks is h1 h2 hn hk hi
   have hks:nxt R ks=none:=by
    cases h:nxt R ks with
    | none=>rfl
    | some i=>
      obtain⟨hl,x,hx,hxk,_⟩:=Yxf h
      have hx60:x<60:=by
       refine hRo (rAt R i) ?_ x hx;unfold rAt;grind
      have:=Yhh 60 (ks++[x]) (by
       grind) (λz hz=>by
       grind)
      grind
   refine⟨[],by grind,by grind,by grind,trivial,qu _,?_⟩
   cases fuel with
   | zero=>lia
   | succ fuel=>
     rw[Ybt,hks];simp[optD]
 | succ m ih=>
   intro fuel ks is h1 h2 hn hk hi
   cases fuel with
   | zero=>lia
   | succ fuel=>
     cases h:nxt R ks with
     | none=>
       refine⟨[],by simpa using h,by grind,by grind,trivial,Qf _,?_⟩;rw[Ybt];simp[optD]
     | some i=>
       obtain⟨hl,x,hx,hxk,hkn⟩:=Yxf h
       have hx60:x<60:=by
        refine hRo (rAt R i) ?_ x hx;unfold rAt;grind
       have hhd:hdN (rAt R i)=x:=by simp[hdN,hx]
       have hn':(ks++[x]).Nodup:=by
        grind
       have hk':∀z∈ks++[x],z<60:=λz hz=>by
        grind
       obtain⟨js,k1,k2,k3,k4,k5,k6⟩:=ih fuel (ks++[x]) (is++[i]) (by simp;lia) (by lia) hn' hk' (by simp;lia)
       have e1:ks++(i::js).map (λi:Nat=>hdN (rAt R i))=ks++[x]++js.map λi:Nat=>hdN (rAt R i):=by simp[hhd]
       refine⟨i::js,by grind,by grind,by grind,⟨⟨hl,⟨x,hx⟩,hkn⟩,by grind⟩,by simp;lia,?_⟩;rw[e1]
       have e2:is++i::js=is++[i]++js:=by simp
       rw[e2,<-k6,Ybt]
       have hcap1:is.length<1000000:=by lia
       have hcap2:ks.length<1000000:=by have:=Yhh 60 ks hn hk;lia
       have hst:=Yhz R (ks++[x]) hk';have hat:=Yaaz (R:=R) (i:=(i:Int)) ⟨by lia,by lia⟩
       have hput:Yur (ks.map nD) (ks.map λ_=>.bl true) (.int (x:Int)) (.bl true)=some ((ks++[x]).map nD,(ks++[x]).map λ_=>.bl true):=by
        have hm:¬(x:Int)∈ks.map λx:Nat=>(x:Int):=λz=>hxk ((Yjk x ks).mp z);rw[Ye9,Yxe,qd,qf,if_pos (show ks.length<cap6 from hcap2),if_neg hm];simp[nD]
       have hsc:scal (optD (nxt R (ks++[x])))=some (optD (nxt R (ks++[x]))):=by cases nxt R (ks++[x])<;>simp[optD]
       have hfz:frz1 2 [↑(Yao R),y,some (.od false ((ks++[x]).map nD) ((ks++[x]).map λ_=>.bl true)),some (.ow ((is++[i]).map nD)),↑(.int (i:Int))]=[↑(Yao R),y,↑(kDct (ks++[x])),some (.ow ((is++[i]).map nD)),↑(.int (i:Int))]:=rfl
       have hb:Yba [↑(Yao R),y,some (.od false (ks.map nD) (ks.map λ_=>.bl true)),some (.ow (is.map nD)),↑(.int (i:Int))] =
        some (.nx [↑(Yao R),y,some (.od false ((ks++[x]).map nD) ((ks++[x]).map λ_=>.bl true)),some (.ow ((is++[i]).map nD)),↑(optD (nxt R (ks++[x])))]):=by
        have happ:is.map nD++[D.int (i:Int)]=(is++[i]).map nD:=by simp[nD]
        unfold Yba;simp only[Ybd,Yaap];have ho:optD (some x)=.int (x:Int):=rfl;generalize optD (nxt R (ks++[x]))=nx,(ks++[x]).map nD=K2,((ks++[x]).map λ_=>D.bl true)=V2,(is++[i]).map nD=I2 at *;simp[appD,hcap1,hat,hx,ho,hput,happ,hfz,hst,hsc,-Ye9]
       simp[optD,hb,-wt]
theorem Yo9[DecidableEq α](x:α)(y:β):∀(ks:List α),setK ks (ks.map λ_=>y) x y=ks.map λ_=>y
 | []=>rfl
 | k::ks=>by
   rw[Qa,setK]
   split
   ·rfl
   ·rw[Yo9 x y ks]
def dd(ks:AG):AG->AG
 | []=>ks
 | x::fs=>dd (if x∈ks then ks else ks++[x]) fs
theorem y3i:∀(fs ks:AG) (x:Nat),x∈dd ks fs↔x∈ks\/x∈fs
 | [],ks,x=>by simp[dd]
 | k::fs,ks,x=>by
   rw[dd,y3i fs];grind
theorem Yxh:∀(fs ks:AG),ks.Nodup->(dd ks fs).Nodup
 | [],_,h=>h
 | k::fs,ks,h=>by
   rw[dd];refine Yxh fs _ ?_;grind
theorem y3j:∀(fs ks:AG),dctG (ks.map λx:Nat=>(x:Int)) (ks.map λ_=>D.bl true) (fs.map λx:Nat=>((x:Int),D.bl true))=((dd ks fs).map (λx:Nat=>(x:Int)),(dd ks fs).map λ_=>D.bl true)
 | [],ks=>rfl
 | x::fs,ks=>by
   rw[Qa,dctG,dd];unfold putG;dsimp only;by_cases h:x∈ks
   ·rw[if_pos ((Yjk x ks).mpr h),if_pos h]
    dsimp only;have e:=Yo9 (x:Int) (D.bl true) (ks.map λx:Nat=>(x:Int));rw[Qd]at e;have e':setK (ks.map λx:Nat=>(x:Int)) (ks.map λ_=>D.bl true) (x:Int) (D.bl true)=ks.map λ_=>D.bl true:=e;rw[e'];exact y3j fs ks
   ·rw[if_neg (λz=>h ((Yjk x ks).mp z)),if_neg h]
    have:=y3j fs (ks++[x]);grind
theorem y3k:∀fs:AG,Ydw (fs.map λx=>D.tup [nD x,.bl true])=some (fs.map λx:Nat=>((x:Int),D.bl true))
 | []=>by simp[Ydw]
 | x::fs=>by
   rw[Qa,show nD x=.int x from rfl,Ydw,y3k fs];rfl
theorem y6p(l:AG)(vs:AR)(hn:l.Nodup)(hl:l.length<64):∃l':AG,l'.Perm l/\l'.Pairwise (·<·)/\Yh9 [.dct false (l.map nD) vs]=some (l'.map nD):=by
 obtain⟨l',h1,h2,h3⟩:=Yjj l hn hl;refine⟨l',h1,h2,?_⟩;rw[<-h3,Ymf];show _=Yya _;unfold Yya
 simp_all
structure Full(R:List IfR)(fs l js:AG):Prop where
 pw:l.Pairwise (·<·)
 mem:∀x,x∈l↔x∈fs++js.map λi:Nat=>hdN (rAt R i)
 der:Der R fs js
 none:∀i,i<R.length->∀x,(rAt R i).2=some x->kn (rAt R i).1 l=true->x∈l
 lt:∀x∈l,x<60
 len:js.length<=60
theorem y76(R:List IfR)(hRo:∀r∈R,∀x,r.2=some x->x<60)(fs:AG)(hf:∀x∈fs,x<60)(hfl:fs.length<=1000)(hc:Yn c=some (fs.map nD)):
 ∃l js,Full R fs l js/\Yas [Yao R,c]=some (.tup [.lst (l.map nD),.tup (js.map nD)]):=by
 have hks:∀x∈dd [] fs,x<60:=λx hx=>by
  rw[y3i]at hx;grind
 have hnd:(dd [] fs).Nodup:=Yxh fs [] .nil;obtain⟨js,k1,k2,k3,k4,k5,k6⟩:=y3h R hRo (↑c) 60 4000 (dd [] fs) [] (by lia) (by lia) hnd hks (by simp);have hlen:=Yhh 60 _ k2 k3;obtain⟨l,h1,h2,h3⟩:=y6p (dd [] fs++js.map λi:Nat=>hdN (rAt R i)) ((dd [] fs++js.map λi:Nat=>hdN (rAt R i)).map λ_=>.bl true) k2 (by lia)
 have hmd:∀x,x∈dd [] fs↔x∈fs:=λx=>by rw[y3i];simp
 refine⟨l,js,⟨h2,λx=>?_,k4.congr hmd,λi hi x hx hk=>?_,λx hx=>k3 x (h1.mem_iff.mp hx),k5⟩,?_⟩
 ·grind
 ·rw[h1.mem_iff]
  exact y6o k1 hi hx (by rw[<-hk];exact Yxg λz=>h1.mem_iff.symm)
 ·rw[Yas,y0 (by rfl)]
  have hst:Yr 5 [Yao R,c]=[↑(Yao R),↑c,none,none,none]:=rfl;rw[hst];have hcomp:=Yfu (fe:=Ya9) (r:=[]) (enc:=nD) (λx=>D.tup [nD x,.bl true]) (l:=fs) (λx _=>by simp[Ya9,nD]);have hst2:=Yhz R (dd [] fs) hks
  have hsc:scal (optD (nxt R (dd [] fs)))=some (optD (nxt R (dd [] fs))):=by cases nxt R (dd [] fs)<;>simp[optD]
  have hdct:=y3j fs [];rw[List.map_nil,List.map_nil]at hdct
  have hcap:(fs.map λx:Nat=>((x:Int),D.bl true)).length<1000000:=by grind
  have hcap':(fs.map λx:Nat=>((x:Int),D.bl true)).length<cap6:=hcap
  have hmm:((dd [] fs).map λx:Nat=>(x:Int)).map D.int=(dd [] fs).map nD:=by simp_all
  have hfz:frz1 2 [↑(Yao R),↑c,some (.od false ((dd [] fs).map nD) ((dd [] fs).map λ_=>.bl true)),some (.ow []),none]=[↑(Yao R),↑c,↑(kDct (dd [] fs)),some (.ow []),none]:=rfl
  have hd1:(sDct 2 (lF (Ybb (b1 (getV 1) Yn) [none] (gSet 0) tY (Ya9)))) [↑(Yao R),↑c,none,none,none]=some (.nx [↑(Yao R),↑c,some (.od false ((dd [] fs).map nD) ((dd [] fs).map λ_=>.bl true)),none,none]):=by
   simp only[y99];simp[hc,capR,hcomp,y3k];grind
  rw[Yff]
  simp_all
def y3l(neg:Bool)(a b:Say):eqM neg (sayD a) (sayD b)=some (if neg then !decide (a=b)else decide (a=b)):=by
 rw[You (by simp) (by simp),y2k]
def Yqy(ag:Say)(l:BA):Option Say:=if ag∈l then some ((l.filter λt=>!decide (t=ag)).headD ag)else none
def ledL(L:AZ)(s:Say):BA:=L.filterMap (Yqy (flS s))
abbrev eiD(l:BA):D:=rlD (.ei l)
abbrev bkE(L:AZ):D:=.tup [kdD .e,.tup (L.map eiD)]
theorem y6q(hL:L.length<=1000)(s:Say):Yli [bkE L,sayD s]=some (.lst ((ledL L s).map sayD)):=by
 have hcap:∀pre:AZ,(∃r,[]++L=pre++r)->(ledL pre s).length<1000000:=λpre ⟨r,e⟩=>by
  have h1:(ledL pre s).length<=pre.length:=List.length_filterMap_le _ _;grind
 obtain⟨ρ',e1,y,z,rfl⟩:=Ydg (gt:=gSet 4) (fb:=Yeg) eiD (λpre ρ=>∃(y z:AT),
  ρ=[↑(bkE L),↑(sayD s),↑(sayD (flS s)),some (.ow ((ledL pre s).map sayD)),y,z]) L []
  [↑(bkE L),↑(sayD s),↑(sayD (flS s)),some (.ow []),none,none] ⟨none,none,rfl⟩ (by
   rintro q l r ρ e ⟨y,z,rfl⟩;have hc:=hcap q ⟨_,e⟩;have hin:=Yaep (c:=eiD l) (flS s) l false rfl
   have hap:ledL (q++[l]) s=ledL q s++(Yqy (flS s) l).toList:=by
    simp only[ledL,List.filterMap_append];grind
   by_cases hm:flS s∈l
   ·have hcm:=Ymn (fc:=Yid) (fe:=Yie) (r:=[↑(sayD (flS s))]) (enc:=sayD) (λt=>!decide (t=flS s)) sayD (l:=l) (λx _=>by
     simp[Yid,y3l]) (λx _ _=>by simp[Yie])
    have ho:Yqy (flS s) l=some ((l.filter λt=>!decide (t=flS s)).headD (flS s)):=by rw[Yqy,if_pos hm]
    rw[ho]at hap;generalize (l.filter λt=>!decide (t=flS s))=os at hcm hap;have happ:∀d:D,appD ((ledL q s).map sayD) d=some ((ledL q s).map sayD++[d]):=λd=>Yp9 (by grind);refine⟨_,_,rfl,?_,↑(eiD l),some (.ow (os.map sayD)),rfl⟩
    cases os with
    | nil=>simp[Yeg,hin,hm,capR,hcm,happ,hap]
    | cons o os=>simp[Yeg,hin,hm,capR,hcm,happ,hap]
   ·have ho:Yqy (flS s) l=none:=by rw[Yqy,if_neg hm]
    rw[ho]at hap;refine⟨_,_,rfl,?_,↑(eiD l),z,rfl⟩
    simp[Yeg,hin,hm,hap])
 rw[Yli,y0 (by rfl)];simp[Yw8,Yr,Yhg];rw[e1];simp
def at0(road:BA)(i:Nat):Say:=road.getD i (0,false)
def stO(L:AZ)(road:BA)(i:Nat):Bool:=decide (at0 road (i+1)∈ledL L (at0 road i))
def okR(L:AZ)(road:BA):Bool:=decide (0<road.length)&&(List.range (road.length-1)).all (stO L road)
def Yvx(l:BA):Say:=at0 l (l.length-1)
theorem y3m(h:okR L l=true):0<l.length:=by
 unfold okR at h;grind
def Yaa4(L:AZ):Yds .e (L.map Rl.ei)=bkE L:=by simp[Yds,bkE,wu]
def there(L:AZ)(o k:BA):Bool:=okR L o&&(okR L k&&(decide (Yvx o=at0 k 0)&&decide (Yvx k=at0 o 0)))
def hdsR(R:List IfR)(is:AH):AG:=is.map λi=>hdN (rAt R i)
def y6r(neg:Bool)(x:Nat)(b:AN):eqM neg (.int (x:Int)) (optD b)=some (if neg then !decide (some x=b)else decide (some x=b)):=by
 cases b with
 | none=>
   have:eqD (.int (x:Int)) .non=false:=by simp[eqD,toPy,PyData.eqv]
   rw[You (by simp) (by simp)];simp[optD,this]
 | some y=>simp[optD]
def wob(b:AN)(S:AG):AG:=S.filter λy=>!decide (some y=b)
def y3n(S:AG)(b:AN):Yi9 [.lst (S.map nD),optD b]=some (.tup ((wob b S).map nD)):=by
 rw[Yi9,y0 (by rfl)]
 have h:=Ymn (fc:=Ygs) (fe:=Ygt) (r:=[↑(optD b)]) (enc:=nD) (λy=>!decide (some y=b)) nD (l:=S) (λy _=>by
  simp[Ygs,y6r]) (λ_ _ _=>by simp[Ygt])
 generalize S.map nD=SS at *;simp[Ysw,Yr,capR,h,wob]
def Yae2(R:List IfR)(S:AG)(b:AN)(is:AH):Bool:=match b with
 | none=>decide (is.length=0)
 | some x=>decide (x∈S)&&derB R S is
def foB(R:List IfR)(Kp:AG)(b:AN)(is:AH):AG:=match b with
 | none=>[]
 | some x=>Kp.filter λy=>decide (y<x)&&decide (y∈hdsR R is)
def y6s(R:List IfR)(b:AN)(is:AH)(fs:AG):Bool:=decide (0<is.length)&&(decide (0<=is.getD (is.length-1) 0/\is.getD (is.length-1) 0<R.length)&&(derB R fs is.dropLast&&(kn (rAt R (is.getD (is.length-1) 0)).1 (fs++hdsR R is.dropLast)&&(decide ((rAt R (is.getD (is.length-1) 0)).2=none)||decide ((rAt R (is.getD (is.length-1) 0)).2=b)))))
theorem Yaa5(h:∀x,x∈ks↔x∈fs):kn b ks=kn b fs:=by
 unfold kn;grind
def Yzg(R:List IfR)(Kp S:AG)(b:AN)(is js:AH):Bool:=Yae2 R S b is&&y6s R b js (wob b S++foB R Kp b is)
abbrev Prw:=Nat×Option Nat×Bool
def prwD(r:Prw):D:=.tup [.int r.1,optD r.2.1,.bl r.2.2]
abbrev End:=Option Nat×Bool
def Ybv(rows:List Prw)(s:Say):End:=
 match rows.find? (λr=>r.1==s.1)with
 | none=>(some s.1,s.2)
 | some r=>(r.2.1,s.2==r.2.2)
def flE(e:End):End:=(e.1,!e.2)
def Ytl(es:List End):Bool:=es.any λe=>decide (e=(none,true))||decide (flE e∈es)
def rowP(S:AG)(r:Prw):Bool:=match r.2.1 with
 | none=>true
 | some x=>decide (x∈S)&&decide (x<r.1)
theorem y3o:∀{a b:AG},a.Pairwise (·<·)->b.Pairwise (·<·)->(∀x,x∈a↔x∈b)->a=b
 | [],[],_,_,_=>rfl
 | [],y::b,_,_,h=>absurd ((h y).mpr qh) (by simp)
 | x::a,[],_,_,h=>absurd ((h x).mp qh) (by simp)
 | x::a,y::b,ha,hb,h=>by
   rw[List.pairwise_cons]at ha hb
   have hxy:x=y:=by
    have h1:=(h x).mp qh;have h2:=(h y).mpr qh;grind
   subst hxy
   have:a=b:=y3o ha.2 hb.2 λz=>by
    grind
   rw[this]
abbrev Srw:=Nat×List Nat×Bool
def srwD(r:Srw):D:=.tup [.int r.1,.tup (r.2.1.map nD),.bl r.2.2]
@[simp] theorem y3p(r:Srw):Yn (srwD r)=some [.int r.1,.tup (r.2.1.map nD),.bl r.2.2]:=nr rfl
def Yae3(a b c:D):atI [a,b,c] 1=some b:=rfl
def Yae4(a b c:D):atI [a,b,c] 2=some c:=rfl
def Yjl(rows:List Srw):D:=.dct false (rows.map λr=>nD r.1) (rows.map srwD)
theorem Ytm:∀(ps:List (Int×α)) (ns:AH) (vs:List α),(ns++ps.map (·.1)).Nodup->dctG ns vs ps=(ns++ps.map (·.1),vs++ps.map (·.2))
 | [],ns,vs,_=>by simp[dctG]
 | p::ps,ns,vs,h=>by
   have hp:p.1∉ns:=λhm=>by
    grind
   rw[dctG,putG,if_neg hp]
   have h':((ns++[p.1])++ps.map (·.1)).Nodup:=by simpa using h
   rw[Ytm ps _ _ h'];simp
theorem Ytn{l:AG}(h:l.Nodup):(l.map λx:Nat=>(x:Int)).Nodup:=by grind
theorem Ykd(x:Nat):∀rows:List Srw,Yad (rows.map λr=>((r.1:Nat):Int)) (rows.map srwD) (x:Int)=(rows.find? (λr=>r.1==x)).map srwD
 | []=>rfl
 | r::l=>by
   rw[Qa,Qa,Yad,Ykd x l,List.find?_cons];grind
def Ycn(rows:List Srw)(x:Nat):Srw:=(rows.find? (λr=>r.1==x)).getD (x,[x],false)
def Ydp(rows:List Srw)(x:Nat):Sm:=(λy=>decide (y∈(Ycn rows x).2.1),(Ycn rows x).2.2)
theorem y6t(h:∀r∈rows,r.2.1.Pairwise (·<·)/\∀y∈r.2.1,y<60)(hx:x<60):(Ycn rows x).2.1.Pairwise (·<·)/\∀y∈(Ycn rows x).2.1,y<60:=by
 unfold Ycn
 cases e:rows.find? (λr=>r.1==x)with
 | none=>grind
 | some r=>grind
def y6u(rows:List Srw)(x:Nat):Ypv (Yjl rows) (.int (x:Int)) (.tup [.int (x:Int),.tup [.int (x:Int)],.bl false])=some (srwD (Ycn rows x)):=by
 have hi:intsD (rows.map λr=>nD r.1)=some (rows.map λr=>((r.1:Nat):Int)):=Yi0 _ rows;rw[Yjl,Yme,hi,Option.map_some,Ykd];unfold Ycn;cases rows.find? (λr=>r.1==x)<;>rfl
def Yae5(h:∀r∈rows,r.2.1.Pairwise (·<·)/\∀y∈r.2.1,y<60)(hx:x<60):D.tup [.tup ((Ycn rows x).2.1.map nD),.bl (Ycn rows x).2.2]=smD (Ydp rows x):=by
 obtain⟨h1,h2⟩:=y6t h hx;exact Yaex h1 h2 _
def accR(rows:List Srw)(a:Sm)(x:Nat):Sm:=(λy=>a.1 y != (Ydp rows x).1 y,a.2 != (Ydp rows x).2)
def accL(rows:List Srw)(l:AG):Sm:=l.foldl (accR rows) (λ_=>false,false)
theorem y6v(rows:List Srw)(q:AG)(x:Nat):accL rows (q++[x])=accR rows (accL rows q) x:=by
 unfold accL;grind
theorem Yzh(h:∀r∈rows,r.2.1.Pairwise (·<·)/\∀y∈r.2.1,y<60)(ru:Sm):Yfg [smD ru,Yjl rows]=some (smD (accL rows (fl 60 ru.1))):=by
 have hf:∀x∈fl 60 ru.1,x<60:=λx hx=>qy (qz hx).1;have hit:Yn (smD ru)=some [.tup ((fl 60 ru.1).map nD),.bl ru.2]:=rfl;generalize smD ru=sr,fl 60 ru.1=F at *
 obtain⟨ρ',e1,y3,y4,rfl⟩:=Ydg (gt:=gSet 3) (fb:=Yf1) nD (λpre ρ=>∃(y3 y4:AT),ρ=[↑sr,↑(Yjl rows),↑(smD (accL rows pre)),y3,y4]) F []
  [↑sr,↑(Yjl rows),↑(smD (accL rows [])),none,none] ⟨none,none,rfl⟩ (by
   rintro q x r ρ e ⟨y3,y4,rfl⟩;have hx:x<60:=hf x (by grind);have hg:=y6u rows x;have hrow:=y3p (Ycn rows x);have hb:=Ykp (accL rows q).1 (Ydp rows x).1 (accL rows q).2 (Ydp rows x).2;have hsm:=Yae5 h hx
   have hb':Yby [smD (accL rows q),smD (Ydp rows x)]=some (smD (accL rows (q++[x]))):=by rw[y6v];exact hb
   rw[<-hsm]at hb';refine⟨_,[↑sr,↑(Yjl rows),↑(smD (accL rows (q++[x]))),↑(nD x),↑(srwD (Ycn rows x))],rfl,?_,_,_,rfl⟩;generalize smD (accL rows (q++[x]))=A2,smD (accL rows q)=A1,Yjl rows=sd,(Ycn rows x).2.1.map nD=R1,srwD (Ycn rows x)=rr at *
   simp[Yf1,hg,hrow,Yae3,Yae4,hb'])
 rw[Qe]at e1;rw[Yfg,y0 (by rfl)];have h0:D.tup [.tup [],.bl false]=smD (accL rows []):=rfl;generalize smD (accL rows [])=A0,smD (accL rows F)=A1,Yjl rows=sd,F.map nD=FF at *;simp[Yo1,Yr,h0,hit,e1]
abbrev Rrw:=Nat×AG
def rrwD(r:Rrw):D:=.tup [.int r.1,.tup (r.2.map nD)]
def Yzi(l:AG)(x:Nat):Yhd [.tup (l.map nD),.int x]=some (.lst ((l.filter λy=>decide (y<x)).map nD)):=by
 have hc:=Ymn (fc:=Yf2) (fe:=Yf3) (r:=[↑(.int (x:Int))]) (enc:=nD) (λy=>decide (y<x)) nD (l:=l) (λy _=>by
  simp[Yf2]) (λy _ _=>by simp[Yf3])
 rw[Yhd,y0 (by rfl)];generalize (l.filter λy=>decide (y<x)).map nD=L2,l.map nD=L1 at *;simp[Yo2,Yr,capR,hc]
def od(l:AG)(E:AK):Bool:=decide ((l.filter E).length%2=1)
def y3q(E:AK):od [] E=false:=rfl
theorem Yil(a:Nat)(l:AG)(E:AK):od (a::l) E=(E a != od l E):=by
 unfold od;grind
def Yqz(h:∀x∈l,E x=F x):od l E=od l F:=by
 unfold od;rw[List.filter_congr h]
theorem Yxi(h:∀x∈l,E x=false):od l E=false:=by
 unfold od;rw[List.filter_eq_nil_iff.mpr λx hx=>by grind];rfl
theorem y77:∀{l:AG},l.Nodup->∀y:Nat,od l (λx=>decide (y=x))=decide (y∈l)
 | [],_,y=>by simp[y3q]
 | a::l,h,y=>by
   rw[List.nodup_cons]at h;rw[Yil,y77 h.2];grind
def xr(T E:AK):Bool:=od (List.range 60) (λx=>T x&&E x)
theorem y78(f g:AK):∀l:AG,od l (λx=>f x != g x)=(od l f != od l g)
 | []=>rfl
 | a::l=>by
   rw[Yil,Yil,Yil,y78 f g l];cases f a<;>cases g a<;>cases od l f<;>cases od l g<;>rfl
theorem y3r(T S E:AK):xr (λx=>T x != S x) E=(xr T E != xr S E):=by
 unfold xr;rw[<-y78];grind
theorem Yagx(ha:a<60)(E:AK):xr (λx=>decide (x=a)) E=E a:=by
 unfold xr
 have h:od (List.range 60) (λx=>decide (x=a)&&E x)=od (List.range 60) (λx=>decide (a=x)&&E a):=Yqz λx _=>by
  grind
 rw[h]
 cases E a with
 | false=>exact Yxi λx _=>by simp
 | true=>
   have h2:od (List.range 60) (λx=>decide (a=x)&&true)=od (List.range 60) (λx=>decide (a=x)):=Yqz λx _=>by simp
   rw[h2,y77 List.nodup_range];simp[ha]
theorem Yae6(f E:AK):od (fl 60 f) E=xr f E:=by
 unfold od xr od fl;rw[List.filter_filter];grind
theorem y79(rows:List Srw):∀(l:AG) (a:Sm),(∀y,(l.foldl (accR rows) a).1 y=(a.1 y != od l (λx=>(Ydp rows x).1 y)))/\(l.foldl (accR rows) a).2=(a.2 != od l (λx=>(Ydp rows x).2))
 | [],a=>⟨λy=>by rw[y3q,List.foldl_nil];grind,by rw[y3q,List.foldl_nil];grind⟩
 | x::l,a=>by
   obtain⟨h1,h2⟩:=y79 rows l (accR rows a x);refine⟨λy=>?_,?_⟩
   ·rw[List.foldl_cons,h1 y,Yil]
    show((a.1 y != (Ydp rows x).1 y)!=_)=_;grind
   ·rw[List.foldl_cons,h2,Yil]
    show((a.2 != (Ydp rows x).2)!=_)=_;grind
def kp(rows:List Srw)(T:AK)(o:Bool):Prop:=(∀y,y<60->xr T (λx=>(Ydp rows x).1 y)=false)/\xr T (λx=>(Ydp rows x).2)=o
def Yhi(h:∀x,x<60->(T x&&E x)=(S x&&F x)):xr T E=xr S F:=Yqz λx hx=>h x (qy hx)
theorem y8a(rows:List Srw)(T:AK):(∀y,(accL rows (fl 60 T)).1 y=xr T (λx=>(Ydp rows x).1 y))/\(accL rows (fl 60 T)).2=xr T (λx=>(Ydp rows x).2):=by
 obtain⟨h1,h2⟩:=y79 rows (fl 60 T) (λ_=>false,false);refine⟨λy=>?_,?_⟩
 ·show((fl 60 T).foldl (accR rows) (λ_=>false,false)).1 y=_
  rw[h1 y,Yae6];grind
 ·show((fl 60 T).foldl (accR rows) (λ_=>false,false)).2=_
  rw[h2,Yae6];grind
theorem fl_nil:fl 60 T=[]↔∀x,x<60->T x=false:=by simp_all
def y8b(h:kp rows T o)(h':kp rows S u):kp rows (λx=>T x != S x) (o != u):=
 ⟨λy hy=>by rw[y3r,h.1 y hy,h'.1 y hy];rfl,by rw[y3r,h.2,h'.2]⟩
def y6w(h:kp rows T o)(e:∀x,x<60->T x=S x):kp rows S o:=
 ⟨λy hy=>by rw[<-h.1 y hy];exact Yhi λx hx=>by rw[e x hx],by rw[<-h.2];exact Yhi λx hx=>by rw[e x hx]⟩
theorem Yvy(h:∀x,x<60->T x=false):xr T E=false:=Yxi λx hx=>by
 grind
def y3s(h:∀x,x<60->T x=false):kp rows T false:=⟨λ_ _=>Yvy h,Yvy h⟩
theorem Red.kp(hB:∀r∈BL,kp rows (tP R r.2) (oddO R (fl 60 r.2)))(h:Red R BL false T o):Lw.kp rows T o:=by
 induction h with
 | zero h0 h1=>
   rw[h1 rfl];exact y3s h0
 | step r hr hl _ ih=>
   have:=y8b ih (hB r hr)
   simp_all
def Yae7(h:∀p∈ps,kp rows (rg R p).1 (rg R p).2):kp rows (λx=>decide (oddP R ps x%2=1)) (oddO R ps):=
 Yaa1 (Q:=kp rows) (y3s λ_ _=>rfl) (λh1 h2=>y8b h1 h2) (λh1 h2=>y6w h1 h2) h
theorem y3t(h:x≠r.1):Ycn (rows++[r]) x=Ycn rows x:=by
 unfold Ycn;grind
theorem Yzj(h:r.1∉rows.map (·.1)):Ycn (rows++[r]) r.1=r:=by
 unfold Ycn;grind
theorem Yni(h:x∉rows.map (·.1)):Ycn rows x=(x,[x],false):=by
 unfold Ycn
 have e:(rows.find? λq=>q.1==x)=none:=by
  grind
 rw[e];rfl
theorem Ypa(h:x∈rows.map (·.1)):Ycn rows x∈rows/\(Ycn rows x).1=x:=by
 unfold Ycn
 cases e:rows.find? (λq=>q.1==x)with
 | none=>
   grind
 | some q=>grind
def wl(T:AK)(k:Nat):AK:=λx=>T x&&!decide (x=k)
theorem Yaa6(hk:k<60)(hT:T k=true)(E:AK):xr T E=(xr (wl T k) E != E k):=by
 rw[<-Yagx hk E,<-y3r];refine Yhi λx _=>?_;unfold wl;grind
def Yim(rows:List Srw)(k:Nat)(T:AK)(o:Bool):Srw:=(k,fl 60 (accL rows (fl 60 (wl T k))).1,(accL rows (fl 60 (wl T k))).2 != o)
inductive Mk (S:AG) (Tf:Nat->AK) (of:AK):List Srw->Prop
 | nil:Mk S Tf of []
 | snoc {rows:List Srw}{k:Nat}:Mk S Tf of rows->(∀r∈rows,r.1<k)->Last (Tf k) k->(∀x,x<k->Tf k x=true->x∈S\/x∈rows.map (·.1))->Mk S Tf of (rows++[Yim rows k (Tf k) (of k)])
theorem Yae8(h:Mk S Tf of rows):∀r∈rows,∀x,x<60->Tf r.1 x=true->x<=r.1:=by
 induction h with
 | nil=>grind
 | snoc h1 h2 hL hS ih=>
   intro r hr;rcases qv hr with hr|hr
   ·exact ih r hr
   ·rw[List.mem_singleton]at hr
    subst hr;exact hL.2.2
theorem Yagy(h:Mk S Tf of rows):∀r∈rows,kp rows (Tf r.1) (of r.1):=by
 induction h with
 | nil=>grind
 | snoc h1 h2 hL hS ih=>
   rename_i rows k;have hne:∀x,x<k->Ycn (rows++[Yim rows k (Tf k) (of k)]) x=Ycn rows x:=λx hx=>y3t (λz=>by have z':x=k:=z;lia)
   have hni:k∉rows.map (·.1):=λz=>by
    grind
   have hla:Ycn (rows++[Yim rows k (Tf k) (of k)]) k=Yim rows k (Tf k) (of k):=Yzj (r:=Yim rows k (Tf k) (of k)) hni;intro r hr;rcases qv hr with hr|hr
   ·have hk:=h2 r hr
    obtain⟨g1,g2⟩:=ih r hr
    have hlt:∀x,x<60->Tf r.1 x=true->x<k:=λx hx hT=>by
     exact Nat.lt_of_le_of_lt (Yae8 h1 r hr x hx hT) hk
    refine⟨λy hy=>?_,?_⟩
    ·rw[<-g1 y hy]
     refine Yhi λx hx=>?_
     cases hT:Tf r.1 x with
     | false=>rfl
     | true=>
       unfold Ydp;grind
    ·rw[<-g2]
     refine Yhi λx hx=>?_
     cases hT:Tf r.1 x with
     | false=>rfl
     | true=>
       unfold Ydp;grind
   ·rw[List.mem_singleton]at hr
    subst hr;show kp _ (Tf k) (of k);obtain⟨a1,a2⟩:=y8a rows (wl (Tf k) k)
    have hlt:∀x,x<60->wl (Tf k) k x=true->x<k:=λx hx hw=>by
     unfold wl at hw;rw[Qb]at hw;have:=hL.2.2 x hx hw.1;grind
    have hsame:∀f:Srw->Bool,xr (wl (Tf k) k) (λx=>f (Ycn (rows++[Yim rows k (Tf k) (of k)]) x))=xr (wl (Tf k) k) (λx=>f (Ycn rows x)):=λf=>Yhi λx hx=>by
     grind
    refine⟨λy hy=>?_,?_⟩
    ·rw[Yaa6 hL.1 hL.2.1]
     have e1:(Ydp (rows++[Yim rows k (Tf k) (of k)]) k).1 y=(accL rows (fl 60 (wl (Tf k) k))).1 y:=by
      unfold Ydp;rw[hla];show decide (y∈fl 60 (accL rows (fl 60 (wl (Tf k) k))).1)=_;grind
     have e2:=hsame λr=>decide (y∈r.2.1)
     have e3:xr (wl (Tf k) k) (λx=>(Ydp (rows++[Yim rows k (Tf k) (of k)]) x).1 y)=(accL rows (fl 60 (wl (Tf k) k))).1 y:=by
      rw[a1 y];exact e2
     grind
    ·rw[Yaa6 hL.1 hL.2.1]
     have e1:(Ydp (rows++[Yim rows k (Tf k) (of k)]) k).2=((accL rows (fl 60 (wl (Tf k) k))).2 != of k):=by
      unfold Ydp;rw[hla];rfl
     have e2:=hsame λr=>r.2.2
     have e3:xr (wl (Tf k) k) (λx=>(Ydp (rows++[Yim rows k (Tf k) (of k)]) x).2)=(accL rows (fl 60 (wl (Tf k) k))).2:=by
      rw[a2];exact e2
     simp_all
theorem y3u:∀{l:AG}{E:AK},od l E=true->∃x∈l,E x=true
 | [],_,h=>by cases h
 | a::l,E,h=>by
   rw[Yil]at h
   cases ha:E a with
   | true=>grind
   | false=>
     rw[ha]at h
     have h2:od l E=true:=by grind
     obtain⟨x,hx,e⟩:=y3u h2;grind
theorem y3v(h:xr T E=true):∃x,x<60/\T x=true/\E x=true:=by
 obtain⟨x,hx,e⟩:=y3u h;grind
theorem Yae9(h:Mk S Tf of rows):∀r∈rows,r.1<60/\r.2.1.Pairwise (·<·)/\∀y∈r.2.1,y∈S/\y<r.1:=by
 induction h with
 | nil=>grind
 | snoc h1 h2 hL hS ih=>
   rename_i rows k;intro r hr;rcases qv hr with hr|hr
   ·exact ih r hr
   ·rw[List.mem_singleton]at hr
    subst hr;refine⟨hL.1,List.Pairwise.filter _ List.pairwise_lt_range,λy hy=>?_⟩;have hy2:(accL rows (fl 60 (wl (Tf k) k))).1 y=true:=(qz hy).2;rw[(y8a rows (wl (Tf k) k)).1 y]at hy2;obtain⟨x,hx,hw,he⟩:=y3v hy2;unfold wl at hw;rw[Qb]at hw
    have hxk:x<k:=by
     have:=hL.2.2 x hx hw.1;grind
    have he2:y∈(Ycn rows x).2.1:=wq he;by_cases hin:x∈rows.map (·.1)
    ·obtain⟨g1,g2⟩:=Ypa hin
     obtain⟨_,_,g3⟩:=ih _ g1;obtain⟨g4,g5⟩:=g3 y he2;exact⟨g4,by show y<k;lia⟩
    ·rw[Yni hin]at he2
     have hyx:y=x:=by grind
     subst hyx;exact⟨(hS y hxk hw.1).resolve_right hin,hxk⟩
def Bad(S:AG)(T:AK)(o:Bool):Prop:=(fl 60 T=[]/\o=true)\/∃l∈S,Last T l
theorem never(hk:rows.map (·.1)=K)(hr:∀r∈rows,∀y∈r.2.1,y<r.1)(hSK:∀x∈S,x∉K)(h:kp rows T o):¬Bad S T o:=λhb=>by
 rcases hb with⟨h0,rfl⟩|⟨l,hl,hL⟩
 ·have:=h.2
  rw[Yvy (fl_nil.mp h0)]at this;cases this
 ·have h1:=h.1 l hL.1
  rw[Yaa6 hL.1 hL.2.1]at h1
  have e1:(Ydp rows l).1 l=true:=by
   unfold Ydp;rw[Yni (by grind)];simp
  have e2:xr (wl T l) (λx=>(Ydp rows x).1 l)=false:=by
   cases hz:xr (wl T l) (λx=>(Ydp rows x).1 l)with
   | false=>rfl
   | true=>
     obtain⟨x,hx,hw,he⟩:=y3v hz;unfold wl at hw;rw[Qb]at hw
     have hxk:x<l:=by
      have:=hL.2.2 x hx hw.1;grind
     have he2:l∈(Ycn rows x).2.1:=wq he;by_cases hin:x∈rows.map (·.1)
     ·obtain⟨g1,g2⟩:=Ypa hin
      grind
     ·rw[Yni hin]at he2
      grind
  grind
def Yq0(R:List Sm)(W:AK):Yn (prD2 R W)=some [.tup ((fl 60 W).map nD),.tup [.tup ((fl 60 (tP R W)).map nD),.bl (oddO R (fl 60 W))]]:=rfl
def Yjm(h:Last (tP R W) b):Ycx [prD2 R W]=some (.int (b:Int)):=by
 have hi:=Yq0 R W;rcases Yvu (tP R W)with h0|⟨c,hc,_,ha⟩
 ·have:=fl_nil.mp h0 b h.1
  rw[h.2.1]at this;cases this
 ·have e:=h.uniq hc
  subst e;rw[Ycx,y0 (by rfl)];generalize (fl 60 (tP R W)).map nD=L,prD2 R W=PW at *;simp[Yjh,Yr,hi,ha]
def BadW(R:List Sm)(S:AG)(W:AK):Prop:=(∀p,W p=true->p<R.length)/\Bad S (tP R W) (oddO R (fl 60 W))
theorem Ynj(hB:Ykq R R.length BL)(hU:Ytk R R.length U)(S:AG):
 ∃V:Option AK,(V=none->U=none/\∀r∈BL,r.1∉S)/\(∀W,V=some W->BadW R S W)/\Ybf [.lst (rwD R BL),voD U,.lst (S.map nD)]=some (voD V):=by
 cases U with
 | some U'=>
   refine⟨some U',λh=>(nomatch h),λW hW=>?_,?_⟩
   ·cases hW
    obtain⟨g1,g2,g3⟩:=hU U' rfl;exact⟨g3,.inl ⟨g1,g2⟩⟩
   ·rw[Ybf,y0 (by rfl)]
    generalize rwD R BL=RB;generalize S.map nD=SS;simp[Yc0,Yr,voD]
 | none=>
   have hc:=Ymn (fc:=Ycy) (fe:=Ycz) (r:=[↑(.lst (S.map nD))]) (enc:=λr:Row=>prD2 R r.2) (λr=>decide (r.1∈S)) (λr=>.tup ((fl 60 r.2).map nD)) (l:=BL) (λr hr=>by
    have hl:=Yjm (hB.1 r hr).1;have hin:=in_n (c:=.lst (S.map nD)) r.1 S false rfl;generalize prD2 R r.2=PW,S.map nD=SS at *
    simp[Ycy,hl,hin]) (λr hr _=>by
    have hi:=Yq0 R r.2;generalize prD2 R r.2=PW at *
    simp[Ycz,hi])
   have hrw:(BL.map λr:Row=>prD2 R r.2)=rwD R BL:=rfl;rw[hrw]at hc
   cases hL:BL.filter λr=>decide (r.1∈S)with
   | nil=>
     rw[hL,List.map_nil]at hc;refine⟨none,λ_=>⟨rfl,λr hr z=>?_⟩,λW hW=>(nomatch hW),?_⟩
     ·have:r∈BL.filter λr=>decide (r.1∈S):=List.mem_filter.mpr ⟨hr,wn z⟩
      grind
     ·rw[Ybf,y0 (by rfl)]
      generalize rwD R BL=RB,S.map nD=SS at *;simp[Yc0,Yr,voD,capR,hc]
   | cons r L=>
     rw[hL,Qa]at hc;have hr:r∈BL/\decide (r.1∈S)=true:=qz (by rw[hL];exact qh);refine⟨some r.2,λh=>(nomatch h),λW hW=>?_,?_⟩
     ·cases hW
      exact⟨(hB.1 r hr.1).2,.inr ⟨r.1,wq hr.2,(hB.1 r hr.1).1⟩⟩
     ·rw[Ybf,y0 (by rfl)]
      have hv:voD (some r.2)=.tup ((fl 60 r.2).map nD):=rfl;rw[hv]
      have a0:∀(a:D) (l:AR),atI (a::l) 0=some a:=λa l=>by simp_all
      generalize D.tup ((fl 60 r.2).map nD)=TT at *;generalize (L.map λr:Row=>D.tup ((fl 60 r.2).map nD))=LL at *;generalize rwD R BL=RB,S.map nD=SS at *;simp[Yc0,Yr,voD,capR,hc,a0]
theorem Yagz(h:Last T k):fl 60 T=fl 60 (wl T k)++[k]:=by
 refine y3o (List.Pairwise.filter _ List.pairwise_lt_range) ?_ λx=>?_
 ·rw[List.pairwise_append]
  refine⟨List.Pairwise.filter _ List.pairwise_lt_range,by simp,λa ha b hb=>?_⟩;rw[List.mem_singleton]at hb;subst hb;obtain⟨g1,g2⟩:=qz ha;unfold wl at g2;rw[Qb]at g2;have:=h.2.2 a (qy g1) g2.1;grind
 ·rw[List.mem_append,List.mem_singleton,List.mem_filter,List.mem_filter,List.mem_range]
  unfold wl;constructor
  ·grind
  ·rintro(⟨g1,g2⟩|rfl)
   ·grind
   ·exact⟨h.1,h.2.1⟩
theorem Yafa(h:Last T k):cutD ((fl 60 T).map nD) none (some (-1))=(fl 60 (wl T k)).map nD:=by
 have e:HT.sIx ((fl 60 T).map nD).length ((fl 60 T).map nD).length (some (-1))=(fl 60 T).length-1:=by
  rw[qf];unfold HT.sIx;simp;lia
 unfold cutD;rw[e,HT.sIx_none,Yagz h];simp
def tfB(R:List Sm)(BL:List Row)(k:Nat):AK:=if k∈BL.map (·.1)then tP R (rwAt BL k)else λx=>decide (x=k)
def ofB(R:List Sm)(BL:List Row)(k:Nat):Bool:=if k∈BL.map (·.1)then oddO R (fl 60 (rwAt BL k))else false
theorem Yto(f:(AK)->D){b:Nat}:∀{BL:List Row},b∉BL.map (·.1)->Yad ((BL.map (·.1)).map λx:Nat=>(x:Int)) (BL.map λr=>f r.2) (b:Int)=none
 | [],_=>rfl
 | r::BL,h=>by
   show Yad ((r.1:Int)::((BL.map (·.1)).map λx:Nat=>(x:Int))) (f r.2::BL.map λr=>f r.2) (b:Int)=none;have e:¬r.1=b:=λz=>h (by grind);rw[Yad,if_neg (by lia)];exact Yto f λz=>h (qg _ z)
abbrev tlD(R:List Sm)(BL:List Row):AR:=BL.map λr=>totD R (fl 60 r.2)
theorem y6x(R:List Sm)(BL:List Row){k:Nat}(hk:k<60):Ypv (.dct false (kyD BL) (tlD R BL)) (.int (k:Int)) (.tup [.tup [.int (k:Int)],.bl false])=some (smD (tfB R BL k,ofB R BL k)):=by
 rw[Yme,Yng,Option.map_some];unfold tfB ofB;by_cases h:k∈BL.map (·.1)
 ·have:=(Yfh (λW=>totD R (fl 60 W)) h).2
  rw[this,if_pos h,if_pos h];rfl
 ·have:=Yto (λW=>totD R (fl 60 W)) h
  rw[this,if_neg h,if_neg h];have e:=Yxc hk;grind
theorem y3w(hB:Ykq R R.length BL)(hk:k<60):Last (tfB R BL k) k:=by
 unfold tfB;by_cases h:k∈BL.map (·.1)
 ·rw[if_pos h]
  exact(hB.1 _ (Yfh (λ_=>D.non) h).1).1
 ·rw[if_neg h]
  exact⟨hk,by simp,λx _ hx=>by grind⟩
theorem Ytp(R:List Sm):∀BL:List Row,Ydw (BL.map λr=>.tup [.int r.1,totD R (fl 60 r.2)])=some (BL.map λr=>((r.1:Int),totD R (fl 60 r.2)))
 | []=>rfl
 | r::l=>by rw[Qa,Ydw,Ytp R l];rfl
def Yafb(a:Sm):plB (smD a)=true:=by
 have h1:=y3d (fl 60 a.1);show plB (.tup [.tup ((fl 60 a.1).map nD),.bl a.2])=true;simp only[plB,plBL,h1,Bool.and_self]
theorem Yvz(hB:Ykq R R.length BL)(hk:k<60)(hl:rows.length<=1000)(hr:∀r∈rows,r.1<k/\r.2.1.Pairwise (·<·)/\∀y∈r.2.1,y<60)(a0 a1 y5 y6:AT):
 ∃z5 z6:AT,Yd2 [a0,a1,some (.od false (kyD BL) (tlD R BL)),some (.od false (rows.map λr=>nD r.1) (rows.map srwD)),↑(nD k),y5,y6] =
  some (.nx [a0,a1,some (.od false (kyD BL) (tlD R BL)),some (.od false ((rows++[Yim rows k (tfB R BL k) (ofB R BL k)]).map λr=>nD r.1) ((rows++[Yim rows k (tfB R BL k) (ofB R BL k)]).map srwD)),↑(nD k),z5,z6]):=by
 have hL:=y3w hB hk;have hg:=y6x R BL hk;have hru:Yn (smD (tfB R BL k,ofB R BL k))=some [.tup ((fl 60 (tfB R BL k)).map nD),.bl (ofB R BL k)]:=rfl;have hcut:=Yafa hL;have hrep:=Yzh (rows:=rows) (λr hm=>(hr r hm).2) (wl (tfB R BL k) k,false);have hre:smD (wl (tfB R BL k) k,false)=.tup [.tup ((fl 60 (wl (tfB R BL k) k)).map nD),.bl false]:=rfl;rw[hre]at hrep;have hai:Yn (smD (accL rows (fl 60 (wl (tfB R BL k) k))))=some [.tup ((fl 60 (accL rows (fl 60 (wl (tfB R BL k) k))).1).map nD),.bl (accL rows (fl 60 (wl (tfB R BL k) k))).2]:=rfl;have hpl:=Yafb (accL rows (fl 60 (wl (tfB R BL k) k)))
 have hni:k∉rows.map (·.1):=λz=>by
  grind
 have hky:(rows.map λr=>nD r.1)=(rows.map (·.1)).map nD:=by simp_all
 have hput:∀d:D,Yur (rows.map λr=>nD r.1) (rows.map srwD) (.int (k:Int)) d=some ((rows.map λr=>nD r.1)++[.int (k:Int)],rows.map srwD++[d]):=λd=>by
  rw[Ye9,hky,Yng,qd,if_pos (show(rows.map srwD).length<cap6 by rw[qf];show rows.length<1000000;lia),if_neg (λz=>hni (mem_castI.mp z))]
 have hap1:((rows++[Yim rows k (tfB R BL k) (ofB R BL k)]).map λr=>nD r.1)=(rows.map λr=>nD r.1)++[.int (k:Int)]:=by rw[wt];rfl
 have hap2:(rows++[Yim rows k (tfB R BL k) (ofB R BL k)]).map srwD=rows.map srwD++[.tup [.int (k:Int),.tup ((fl 60 (accL rows (fl 60 (wl (tfB R BL k) k))).1).map nD),.bl ((accL rows (fl 60 (wl (tfB R BL k) k))).2 != ofB R BL k)]]:=by rw[wt];rfl
 rw[hap1,hap2];have hsd:Yjl rows=.dct false (rows.map λr=>nD r.1) (rows.map srwD):=rfl;rw[hsd]at hrep;refine⟨some (.sh (smD (tfB R BL k,ofB R BL k))),↑(smD (accL rows (fl 60 (wl (tfB R BL k) k)))),?_⟩;generalize (accL rows (fl 60 (wl (tfB R BL k) k))).2=ao at *;generalize (fl 60 (accL rows (fl 60 (wl (tfB R BL k) k))).1).map nD=AF at *;generalize smD (accL rows (fl 60 (wl (tfB R BL k) k)))=AS,(fl 60 (wl (tfB R BL k) k)).map nD=WF,(fl 60 (tfB R BL k)).map nD=TF,smD (tfB R BL k,ofB R BL k)=RU at *;generalize ofB R BL k=oo at *;clear hky hap1 hap2 hsd hr hni;generalize (rows.map λr=>nD r.1)=RK,rows.map srwD=RS,kyD BL=KB,tlD R BL=TB at *
 have hs6:Yno [3] (cC (Yg (dTup (Yg (slD (b2 (getC 5) (kD (.int 0)) ixD) none (some (b1 (kD (.int 1)) negI))) (Yg (kD (.bl false)) aNil))) (Yg (getV 3) aNil)) Yfg) [a0,a1,some (.od false KB TB),some (.od false RK RS),↑(nD k),↑RU,y6]=some AS:=by
  unfold Yno;have hf:frz [3] [a0,a1,some (.od false KB TB),some (.od false RK RS),↑(nD k),↑RU,y6]=[a0,a1,some (.od false KB TB),↑(.dct false RK RS),↑(nD k),↑RU,y6]:=rfl
  simp_all
 simp[Yd2,hg,hs6,hai,hru,hput,-Yme,-Ye9];grind
theorem y6y(hn:(rows.map (·.1)).Nodup)(hr:r∈rows):getI (Yjl rows) (.int (r.1:Int))=some (srwD r):=by
 have hi:intsD (rows.map λr=>nD r.1)=some (rows.map λr=>((r.1:Nat):Int)):=Yi0 _ rows;rw[Yjl,Yfo,hi,qd,Ykd]
 have h2:rows.find? (λq=>q.1==r.1)=some r:=by
  cases e:rows.find? (λq=>q.1==r.1)with
  | none=>
    grind
  | some q=>
    have hq:=List.mem_of_find?_eq_some e
    have hqe:q.1=r.1:=by grind
    congr 1
    clear e hi
    induction rows with
    | nil=>cases hr
    | cons a l ih=>
      grind
 rw[h2];rfl
theorem Yzk(hB:Ykq R R.length BL)(hBl:BL.length<=1000)(hK:K.Pairwise (·<·))(hK60:∀k∈K,k<60)(hS60:∀x∈S,x<60)(hT:∀k∈K,∀x,x<60->tfB R BL k x=true->x∈S\/x∈K):
 ∃rows:List Srw,Mk S (tfB R BL) (ofB R BL) rows/\rows.map (·.1)=K/\Yhe [.lst (rwD R BL),.lst (K.map nD)]=some (.tup (rows.map srwD)):=by
 have hKl:K.length<=60:=Yqw (hK.imp λh=>qm h) hK60
 have hc:=Yfu (fe:=Yc1) (r:=[]) (enc:=λr:Row=>prD2 R r.2) (λr=>.tup [.int r.1,totD R (fl 60 r.2)]) (l:=BL) (λr hr=>by
  have hl:=Yjm (hB.1 r hr).1;have hi:=Yq0 R r.2;have ht:totD R (fl 60 r.2)=.tup [.tup ((fl 60 (tP R r.2)).map nD),.bl (oddO R (fl 60 r.2))]:=rfl;rw[<-ht]at hi;generalize totD R (fl 60 r.2)=TT,prD2 R r.2=PW at *
  simp[Yc1,hl,hi])
 have hrw:(BL.map λr:Row=>prD2 R r.2)=rwD R BL:=rfl;rw[hrw]at hc;have h1:pairsOf (.lst (BL.map λr=>.tup [.int r.1,totD R (fl 60 r.2)]))=some (BL.map λr=>((r.1:Int),totD R (fl 60 r.2))):=Ytp R BL;have hn2:=Ytn hB.2
 have hd:=Ytm (BL.map λr=>((r.1:Int),totD R (fl 60 r.2))) [] [] (by
  grind)
 have hlen:(BL.map λr=>((r.1:Int),totD R (fl 60 r.2))).length<1000000:=by grind
 obtain⟨ρ',e1,rows,y4,y5,y6,hM,hrk,rfl⟩:=Ydg (gt:=gSet 4) (fb:=Yd2) nD (λpre ρ=>∃(rows:List Srw) (y4 y5 y6:AT),Mk S (tfB R BL) (ofB R BL) rows/\rows.map (·.1)=pre/\
  ρ=[↑(.lst (rwD R BL)),↑(.lst (K.map nD)),some (.od false (kyD BL) (tlD R BL)),some (.od false (rows.map λr=>nD r.1) (rows.map srwD)),y4,y5,y6]) K []
  [↑(.lst (rwD R BL)),↑(.lst (K.map nD)),some (.od false (kyD BL) (tlD R BL)),some (.od false [] []),none,none,none] ⟨[],none,none,none,.nil,rfl,rfl⟩ (by
   rintro q k r ρ e ⟨rows,y4,y5,y6,hM,hrk,rfl⟩;rw[Qe]at e
   have hkK:k∈K:=by rw[e];simp
   have hk60:=hK60 k hkK;have hpw:=hK;rw[e,List.pairwise_append]at hpw;have hlt:∀r∈rows,r.1<k:=λr hr=>hpw.2.2 r.1 (by grind) k (by simp);have hok:=Yae9 hM
   have hrl:rows.length<=1000:=by
    grind
   obtain⟨z5,z6,hst⟩:=Yvz hB hk60 (rows:=rows) hrl (λr hr=>⟨hlt r hr,(hok r hr).2.1,λy hy=>hS60 y ((hok r hr).2.2 y hy).1⟩) (↑(.lst (rwD R BL))) (↑(.lst (K.map nD))) y5 y6;refine⟨_,_,rfl,hst,rows++[Yim rows k (tfB R BL k) (ofB R BL k)],_,_,_,.snoc hM hlt (y3w hB hk60) λx hx hTx=>?_,?_,rfl⟩
   ·rcases hT k hkK x (by lia) hTx with h|h
    ·exact .inl h
    ·right
     rw[hrk];rw[e]at h;rcases qv h with h|h
     ·exact h
     ·rcases qt h with h|h
      ·lia
      ·have h3:=hpw.2.1
       rw[List.pairwise_cons]at h3;grind
   ·rw[wt,hrk]
    rfl)
 rw[Qe]at hrk
 have hn:(rows.map (·.1)).Nodup:=by grind
 have hc1:=Yfu (fe:=Yf4) (r:=[↑(Yjl rows)]) (enc:=λr:Srw=>nD r.1) srwD (l:=rows) (λr hr=>by
  have hg:=y6y hn hr;generalize Yjl rows=sd,srwD r=rr at *
  simp[Yf4,hg])
 have hkk:(rows.map λr:Srw=>nD r.1)=K.map nD:=by rw[<-hrk,Qd];rfl
 rw[hkk]at hc1;refine⟨rows,hM,hrk,?_⟩
 have hdct:sDct 2 (lF (Ybb (b1 (getV 0) Yn) [none] (gSet 0) tY (Yc1))) [↑(.lst (rwD R BL)),↑(.lst (K.map nD)),none,none,none,none,none]=some (.nx [↑(.lst (rwD R BL)),↑(.lst (K.map nD)),some (.od false (kyD BL) (tlD R BL)),none,none,none,none]):=by
  have hcomp:(lF (Ybb (b1 (getV 0) Yn) [none] (gSet 0) tY Yc1)) [↑(.lst (rwD R BL)),↑(.lst (K.map nD)),none,none,none,none,none]=some (.lst (BL.map λr=>.tup [.int r.1,totD R (fl 60 r.2)])):=by
   generalize rwD R BL=RB at *;simp[capR,hc]
  simp_all
 have hsd:Yjl rows=.dct false (rows.map λr=>nD r.1) (rows.map srwD):=rfl;rw[hsd]at hc1;rw[Yhe,y0 (by rfl)];have hst0:Yr 7 [.lst (rwD R BL),.lst (K.map nD)]=[↑(.lst (rwD R BL)),↑(.lst (K.map nD)),none,none,none,none,none]:=rfl;rw[hst0,Yo4,Ybd,hdct,qd,Yg9];clear hdct hd hc h1 hn2 hlen hrw hsd hkk hn hrk hM;generalize (rows.map λr=>nD r.1)=RK,rows.map srwD=RS,kyD BL=KB,tlD R BL=TB,rwD R BL=RB,K.map nD=KK at *
 have h3:Ygz [↑(.lst RB),↑(.lst KK),some (.od false KB TB),some (.od false RK RS),y4,y5,y6]=some (.rt (.tup RS)):=by
  have hfz:frz [3] [↑(.lst RB),↑(.lst KK),some (.od false KB TB),some (.od false RK RS),y4,y5,y6]=[↑(.lst RB),↑(.lst KK),some (.od false KB TB),↑(.dct false RK RS),y4,y5,y6]:=rfl;rw[Ygz,Yael,hfz];simp[capR,hc1]
 simp_all
abbrev bkS(R:List Sm):D:=.tup [.str "sums",.tup (R.map smD)]
theorem Yag0(h:tP R W x=true):∃p,(rg R p).1 x=true:=by
 have h1:oddP R (fl 60 W) x%2=1:=by simpa [tP]using h
 unfold oddP at h1
 cases e:(fl 60 W).filter λp=>decide (x∈fl 60 (rg R p).1)with
 | nil=>grind
 | cons p l=>
   have:p∈(fl 60 W).filter λp=>decide (x∈fl 60 (rg R p).1):=by rw[e];simp
   grind
theorem Yag1(h:(rg R p).1 x=true):rg R p∈R/\p<R.length:=by
 by_cases hp:p<R.length
 ·unfold rg
  grind
 ·unfold rg at h
  grind
def Ypb(h:x∈ofH hs st b):x<hs.length:=qy (qz h).1
def InB(R:List Sm)(st n:Nat):Prop:=∀q∈R,∀x,x<60->q.1 x=true->st<=x/\x<n
theorem Yq1(h1:st<=x)(h2:x<hs.length):x∈ofH hs st false\/x∈ofH hs st true:=by
 have hm:∀b,hs.getD x false=b->x∈ofH hs st b:=λb hb=>by
  unfold ofH;grind
 grind
theorem Ylk:∀x∈ofH hs st false,x∉ofH hs st true:=λx h1 h2=>by
 unfold ofH at h1 h2;grind
structure GoodW(R:List Sm)(K S:AG)(rows:List Srw):Prop where
 ks:rows.map (·.1)=K
 row:∀r∈rows,r.1<60/\r.2.1.Pairwise (·<·)/\∀y∈r.2.1,y∈S/\y<r.1
 kept:∀p,p<R.length->kp rows (rg R p).1 (rg R p).2
def outD(storm:Bool)(pp:D):D:=.tup [.str (if storm=true then Str.ofString "storm" else Str.ofString "keeper"),pp]
theorem Yq2(hR:R.length<=60)(hc:Yn c=some (hs.map hdD))(hl:hs.length<=60)(hst:st<=hs.length)(hin:InB R st hs.length):
 (∃W:AK,BadW R (ofH hs st false) W/\Yb3 [bkS R,c,.int st]=some (outD true (.tup [.str "odd",.tup ((fl 60 W).map nD)])))\/
 (∃rows:List Srw,GoodW R (ofH hs st true) (ofH hs st false) rows/\Yb3 [bkS R,c,.int st]=some (outD false (.tup [.str "sums",.tup (rows.map srwD)]))):=by
 have b1:=Ybp hs hc (by lia) st hst true;have b2:=Ybp hs hc (by lia) st hst false;simp only[hdD,if_true,Bool.false_eq_true,if_false]at b1 b2;obtain⟨BL,U,hB,hU,hpw,hred,hrun0⟩:=y3f hR;have hrun:Ygr [bkS R]=some (.tup [.lst (rwD R BL),voD U]):=hrun0;clear hrun0;obtain⟨V,hV0,hV1,hpl⟩:=Ynj hB hU (ofH hs st false)
 have hbd:∀W x,x<60->tP R W x=true->st<=x/\x<hs.length:=λW x hx hT=>by
  obtain⟨p,hp⟩:=Yag0 hT;exact hin _ (Yag1 hp).1 x hx hp
 have hBl:BL.length<=60:=by
  have:=Yqw hB.2 (λx hx=>by
   obtain⟨r,hr,rfl⟩:=qw hx
   exact(hB.1 r hr).1.1)
  grind
 cases V with
 | some W=>
   refine .inl ⟨W,hV1 W rfl,?_⟩;have hv:voD (some W)=.tup ((fl 60 W).map nD):=rfl;rw[hv]at hpl;rw[Yb3,y0 (by rfl)];clear hred hB hU hV0 hV1 hpw hbd;generalize (ofH hs st true).map nD=KK,(ofH hs st false).map nD=SS,rwD R BL=RB,voD U=UU,(fl 60 W).map nD=WW,bkS R=bk at *;simp[Yf5,Yr,b1,b2,hrun,hpl,outD]
 | none=>
   obtain⟨hU0,hnS⟩:=hV0 rfl;subst hU0;have hKpw:(ofH hs st true).Pairwise (·<·):=List.Pairwise.filter _ List.pairwise_lt_range
   have hT:∀k∈ofH hs st true,∀x,x<60->tfB R BL k x=true->x∈ofH hs st false\/x∈ofH hs st true:=λk hk x hx hTx=>by
    unfold tfB at hTx;by_cases h:k∈BL.map (·.1)
    ·rw[if_pos h]at hTx
     obtain⟨g1,g2⟩:=hbd _ x hx hTx;exact Yq1 g1 g2
    simp_all
   obtain⟨rows,hM,hrk,hrows⟩:=Yzk hB (by lia) (K:=ofH hs st true) (S:=ofH hs st false) hKpw (λk hk=>Qc (Ypb hk) hl) (λk hk=>Qc (Ypb hk) hl) hT;refine .inr ⟨rows,⟨hrk,Yae9 hM,λp hp=>?_⟩,?_⟩
   ·refine Red.kp (R:=R) (BL:=BL) (λr hr=>?_) (hred p hp)
    have hLr:=(hB.1 r hr).1;obtain⟨g1,g2⟩:=hbd _ r.1 hLr.1 hLr.2.1;have hrK:r.1∈ofH hs st true:=(Yq1 g1 g2).resolve_left (hnS r hr);rw[<-hrk]at hrK;obtain⟨q,hq,e⟩:=qw hrK;have hkp:=Yagy hM q hq;rw[e]at hkp;have hkey:r.1∈BL.map (·.1):=List.mem_map_of_mem (f:=(·.1)) hr;have hat:=(Yfh (λ_=>D.non) hkey).1;have hun:=Yxd hB.2 hat hr rfl;have he:rwAt BL r.1=r.2:=congrArg Prod.snd hun;unfold tfB ofB at hkp;grind
   ·rw[Yb3,y0 (by rfl)]
    clear hred hB hU hV0 hV1 hpw hbd hM hT hrk hnS;generalize (ofH hs st true).map nD=KK,(ofH hs st false).map nD=SS,rwD R BL=RB,rows.map srwD=WW,bkS R=bk at *;have hvn:voD none=.non:=rfl;rw[hvn]at hpl hrun;simp[Yf5,Yr,b1,b2,hrun,hpl,hrows,outD]
def Hl(A:AG)(r:IfR):Prop:=(∀x∈r.1,x∈A)->∃y,r.2=some y/\y∈A
theorem Ytq{A b fs:AG}(h:kn b fs=true)(hf:∀x∈fs,x∈A):∀x∈b,x∈A:=λx hx=>by
 unfold kn at h;grind
theorem Ynk(h:0<=i/\i<R.length):rAt R i∈R:=by
 unfold rAt;grind
theorem Yv0(h:r∈R):∃i:Nat,i<R.length/\rAt R (i:Int)=r:=by
 obtain⟨i,hi,e⟩:=List.mem_iff_getElem.mp h;refine⟨i,hi,?_⟩;unfold rAt;grind
theorem Yq3(hR:∀r∈R,Hl A r):∀{is:AH}{fs:AG},derB R fs is=true->(∀x∈fs,x∈A)->∀x∈fs++hdsR R is,x∈A
 | [],fs,_,hf,x,hx=>by
   rcases qv hx with h|h
   ·exact hf x h
   ·cases h
 | i::is,fs,hd,hf,x,hx=>by
   have hd':(stp R fs i&&derB R (fs++[hdN (rAt R i)]) is)=true:=hd;rw[Qb]at hd';obtain⟨h1,h2⟩:=hd';unfold stp at h1;rw[Qb,Qb,wm]at h1;obtain⟨p1,p2,p3⟩:=h1;obtain⟨y,e,hy⟩:=hR _ (Ynk p1) (Ytq p3 hf)
   have hh:hdN (rAt R i)=y:=by unfold hdN;rw[e];rfl
   have hf2:∀z∈fs++[hdN (rAt R i)],z∈A:=λz hz=>by
    grind
   refine Yq3 hR h2 hf2 x ?_;have e2:hdsR R (i::is)=hdN (rAt R i)::hdsR R is:=rfl;grind
structure GoodI(R:List IfR)(K S:AG)(first:AG)(rows:List Rrw):Prop where
 fK:first.Pairwise (·<·)/\∀y∈first,y∈K
 rs:rows.map (·.1)=S
 rK:∀r∈rows,r.2.Pairwise (·<·)/\(∀y∈r.2,y∈K)/\(r.2.filter λy=>decide (y<r.1))=first.filter λy=>decide (y<r.1)
 h0:∀q∈R,Hl (S++first) q
 hb:∀r∈rows,∀q∈R,Hl ((S.filter λy=>!decide (y=r.1))++r.2) q
abbrev ci(js:AG):AH:=js.map λi:Nat=>(i:Int)
theorem y6z:∀{js fs:AG},Der R fs js->derB R fs (ci js)=true
 | [],_,_=>rfl
 | i::js,fs,h=>by
   obtain⟨⟨h1,⟨x,hx⟩,h3⟩,h4⟩:=h;show(stp R fs (i:Int)&&derB R (fs++[hdN (rAt R (i:Int))]) (ci js))=true;rw[Qb];refine⟨?_,y6z h4⟩;unfold stp;grind
theorem y8c(R:List IfR)(js:AG):hdsR R (ci js)=js.map λi:Nat=>hdN (rAt R i):=by
 unfold hdsR
 simp_all
theorem Ytr:∀{p:AH}{fs:AG}{i:Int}{q:AH},derB R fs (p++i::q)=true->derB R fs p=true/\stp R (fs++hdsR R p) i=true
 | [],fs,i,q,h=>by
   have h':(stp R fs i&&derB R (fs++[hdN (rAt R i)]) q)=true:=h;rw[Qb]at h';refine⟨rfl,?_⟩;have:fs++hdsR R []=fs:=ja _;grind
 | a::p,fs,i,q,h=>by
   have h':(stp R fs a&&derB R (fs++[hdN (rAt R a)]) (p++i::q))=true:=h;rw[Qb]at h';obtain⟨g1,g2⟩:=Ytr h'.2;refine⟨?_,?_⟩
   ·show(stp R fs a&&derB R (fs++[hdN (rAt R a)]) p)=true
    grind
   ·have e:fs++hdsR R (a::p)=(fs++[hdN (rAt R a)])++hdsR R p:=by rw[jb];rfl
    grind
theorem y3x(h1:derB R fs (ci p)=true)(h2:i<R.length)(h3:kn (rAt R (i:Int)).1 (fs++hdsR R (ci p))=true)(h4:(rAt R (i:Int)).2=none\/(rAt R (i:Int)).2=b):y6s R b (ci (p++[i])) fs=true:=by
 have e:ci (p++[i])=ci p++[(i:Int)]:=by
  show(p++[i]).map _=_;rw[wt];rfl
 have hg:(ci p++[(i:Int)]).getD (ci p).length 0=(i:Int):=by simp[List.getD_eq_getElem?_getD]
 unfold y6s;rw[e,List.dropLast_concat,qx,jc,Nat.add_sub_cancel,hg];simp only[Qb,Bool.or_eq_true,wm];exact⟨by lia,⟨by lia,by lia⟩,h1,h3,h4⟩
theorem Yxj(h:Full R fs l js)(h2:Full R fs2 l2 js2)(hs:∀x∈fs2,x∈l):∀x∈l2,x∈l:=by
 have hc:∀r∈R,r.2≠none->Hl l r:=λr hr hn hb=>by
  obtain⟨i,hi,rfl⟩:=Yv0 hr
  cases e:(rAt R (i:Int)).2 with
  | none=>grind
  | some y=>
    refine⟨y,rfl,h.none i hi y e ?_⟩;unfold kn;grind
 have key:∀(is ks:AG),Der R ks is->(∀x∈ks,x∈l)->∀x∈ks++is.map λi:Nat=>hdN (rAt R i),x∈l:=λis=>by
  induction is with
  | nil=>grind
  | cons i is ih=>
    intro ks hd hk x hx;obtain⟨⟨g1,⟨y,hy⟩,g3⟩,g4⟩:=hd;obtain⟨z,hz,hzl⟩:=hc _ (Ynk ⟨by lia,by lia⟩) (by rw[hy];simp) (Ytq g3 hk)
    have hh:hdN (rAt R (i:Int))=z:=by unfold hdN;rw[hz];rfl
    refine ih (ks++[hdN (rAt R (i:Int))]) g4 (λw hw=>?_) x (by grind);grind
 intro x hx;exact key js2 fs2 h2.der hs x ((h2.mem x).mp hx)
theorem Ypc(h:Full R fs l js)(hn:∀r∈R,r.2=none->kn r.1 l=false)(hA:∀x,x∈A↔x∈l):∀q∈R,Hl A q:=λq hq hb=>by
 have hk:kn q.1 l=true:=by
  unfold kn;grind
 cases e:q.2 with
 | none=>
   grind
 | some y=>
   obtain⟨i,hi,rfl⟩:=Yv0 hq;exact⟨y,rfl,(hA y).mpr (h.none i hi y e hk)⟩
theorem Yey{α:Type}(enc:α->D)(I:List α->Ro->Prop)(O:D->Prop):∀(l pre:List α) (ρ:Ro),I pre ρ->
 (∀q a r ρ,pre++l=q++a::r->I q ρ->∃ρ1,gt (enc a) ρ=some ρ1/\((∃ρ2,fb ρ1=some (.nx ρ2)/\I (q++[a]) ρ2)\/∃d,fb ρ1=some (.rt d)/\O d))->
 (∃ρ',M.forM gt fb (l.map enc) ρ=some (.nx ρ')/\I (pre++l) ρ')\/∃d,M.forM gt fb (l.map enc) ρ=some (.rt d)/\O d
 | [],pre,ρ,h0,_=>.inl ⟨ρ,rfl,by grind⟩
 | a::l,pre,ρ,h0,hs=>by
   obtain⟨ρ1,e1,h⟩:=hs pre a l ρ rfl h0;rw[Qa,M.forM,e1,qd];rcases h with⟨ρ2,e2,h2⟩|⟨d,e2,h2⟩
   ·rw[e2,qd]
    have:=Yey enc I O l (pre++[a]) ρ2 h2 λq b r ρ e=>hs q b r ρ (by grind);grind
   grind
def Yxk(r:IfR):Yn (ifD r)=some [.tup (r.1.map nD),optD r.2]:=rfl
def fuD(l js:AG):D:=.tup [.lst (l.map nD),.tup (js.map nD)]
def Yll(l js:AG):Yn (fuD l js)=some [.lst (l.map nD),.tup (js.map nD)]:=rfl
def Yts(R:List IfR)(l:AG)(i:Nat):Bool:=(rAt R (i:Int)).2.isNone&&kn (rAt R (i:Int)).1 l
theorem Yk4(R:List IfR)(hjl:js.length<=1000):
 (∃i,i<R.length/\Yts R l i=true/\Ybm [Yao R,fuD l js]=some (.tup ((js++[i]).map nD)))\/((∀i,i<R.length->Yts R l i=false)/\Ybm [Yao R,fuD l js]=some .non):=by
 rw[Ybm,y0 (by rfl)];have hst:Yr 4 [Yao R,fuD l js]=[↑(Yao R),↑(fuD l js),none,none]:=rfl;rw[hst]
 have h:=Ynh (gt:=Ypp 2 3) (fb:=Ya2) (λi:Nat=>D.tup [.int (i:Int),ifD (rAt R i)]) (Yts R l) (λi:Nat=>D.tup ((js++[i]).map nD)) (λρ=>∃y z,ρ=[↑(Yao R),↑(fuD l js),y,z]) (List.range R.length)
  [↑(Yao R),↑(fuD l js),none,none] ⟨none,none,rfl⟩ (by
   rintro i hi ρ ⟨y,z,rfl⟩;refine⟨[↑(Yao R),↑(fuD l js),↑(.int (i:Int)),↑(ifD (rAt R i))],rfl,?_⟩;have hs:=Ynf (d:=.lst (l.map nD)) (rAt R (i:Int)) l rfl;have hfu:=Yll l js;have hit:=Yxk (rAt R (i:Int))
   have hcat:Ykv (.tup (js.map nD)) (.tup [.int (i:Int)])=some (.tup ((js++[i]).map nD)):=by
    rw[wt];exact if_pos (by simp;lia)
   unfold Yts
   cases hh:(rAt R (i:Int)).2 with
   | some x=>
     left;refine⟨rfl,[↑(Yao R),↑(fuD l js),↑(.int (i:Int)),↑(ifD (rAt R i))],?_,_,_,rfl⟩;rw[hh]at hit;simp only[optD]at hit;generalize ifD (rAt R (i:Int))=rr,fuD l js=ff at *;simp[Ya2,hit,isN,Yui]
   | none=>
     rw[hh]at hit;simp only[optD]at hit
     cases hkn:kn (rAt R (i:Int)).1 l with
     | false=>
       left;rw[hkn]at hs;refine⟨rfl,[↑(Yao R),↑(fuD l js),↑(.int (i:Int)),↑(ifD (rAt R i))],?_,_,_,rfl⟩;generalize ifD (rAt R (i:Int))=rr,fuD l js=ff,l.map nD=LL at *;simp[Ya2,hit,hfu,hs]
     | true=>
       right;rw[hkn]at hs;refine⟨rfl,?_⟩;generalize ifD (rAt R (i:Int))=rr,fuD l js=ff,l.map nD=LL,(js++[i]).map nD=J2,js.map nD=JJ at *
       simp[Ya2,hit,hfu,hs,hcat])
 rw[Ygd];rcases h with⟨i,h1,h2⟩|⟨h1,ρ',h2,h3⟩
 ·left
  have hm:=List.mem_of_find?_eq_some h1;have hp:=List.find?_some h1;refine⟨i,qy hm,hp,?_⟩;generalize fuD l js=ff at *;simp only[Ybd,y2d,Yaek,Yaao];simp[Yl8,Yqx,h2]
 ·right
  refine⟨λi hi=>?_,?_⟩
  ·grind
  ·generalize fuD l js=ff at *
   simp[Yl8,Yqx,h2]
theorem Yxl(x:Nat):∀l:AG,(l.map λy:Nat=>(y:Int)).idxOf (x:Int)=l.idxOf x
 | []=>rfl
 | y::l=>by
   rw[Qa,List.idxOf_cons,List.idxOf_cons,Yxl x l];grind
theorem Yxm{x:Nat}:∀{js:AG},x∈js.map f->∃p i q,js=p++i::q/\f i=x/\js.take ((js.map f).idxOf x+1)=p++[i]
 | [],h=>(nomatch h)
 | j::js,h=>by
   by_cases e:f j=x
   ·refine⟨[],j,js,rfl,e,?_⟩
    grind
   ·have h':x∈js.map f:=by
     grind
    obtain⟨p,i,q,h1,h2,h3⟩:=Yxm h';grind
theorem Yafc{α:Type}(f:α->D)(l:List α)(k:Nat):cutD (l.map f) none (some (k:Int))=(l.take k).map f:=by
 have hsx:HT.sIx (l.map f).length (l.map f).length (some (k:Int))=min k l.length:=by
  have:=HT.sIx_nat (l.map f).length (l.map f).length k;grind
 unfold cutD;rw[hsx,HT.sIx_none]
 simp_all
theorem Der.mem:∀{is ks:AG},Der R ks is->∀i∈is,i<R.length/\optD (rAt R (i:Int)).2=nD (hdN (rAt R (i:Int)))
 | [],_,_,i,hi=>(nomatch hi)
 | j::is,ks,h,i,hi=>by
   rcases qt hi with rfl|hi
   ·obtain⟨⟨h1,⟨x,hx⟩,_⟩,_⟩:=h
    refine⟨h1,?_⟩;unfold hdN;rw[hx];rfl
   ·exact Der.mem h.2 i hi
theorem Yjn(h:Full R fs l js)(x:Nat):
 (∃(p:AG) (i:Nat) (q:AG),js=p++i::q/\hdN (rAt R (i:Int))=x/\Yav [Yao R,fuD l js,.int (x:Int)]=some (.tup ((p++[i]).map nD)))\/(x∉js.map (λi:Nat=>hdN (rAt R (i:Int)))/\Yav [Yao R,fuD l js,.int (x:Int)]=some .non):=by
 have hc:=Yfu (fe:=Yb1) (r:=[↑(Yao R)]) (enc:=nD) (λi:Nat=>nD (hdN (rAt R (i:Int)))) (l:=js) (λi hi=>by
  obtain⟨g1,g2⟩:=h.der.mem i hi;have hat:=Yaaz (R:=R) (i:=(i:Int)) ⟨by lia,by lia⟩;have hit:=Yxk (rAt R (i:Int));have hbi:=Yvs R;generalize ifD (rAt R (i:Int))=rr,R.map ifD=RR,Yao R=bk at *
  simp[Yb1,hbi,hat,hit,g2])
 have e1:(js.map λi:Nat=>nD (hdN (rAt R (i:Int))))=(js.map λi:Nat=>hdN (rAt R (i:Int))).map nD:=by simp_all
 rw[e1]at hc;have hfu:=Yll l js;have hin:=in_n (c:=.lst ((js.map λi:Nat=>hdN (rAt R (i:Int))).map nD)) x (js.map λi:Nat=>hdN (rAt R (i:Int))) true rfl;by_cases hx:x∈js.map λi:Nat=>hdN (rAt R (i:Int))
 ·obtain⟨p,i,q,h1,h2,h3⟩:=Yxm hx
  refine .inl ⟨p,i,q,h1,h2,?_⟩
  have hid:idxD (.lst ((js.map λi:Nat=>hdN (rAt R (i:Int))).map nD)) (.int (x:Int))=some (.int ((js.map λi:Nat=>hdN (rAt R (i:Int))).idxOf x:Nat)):=by
   have e:∀L:AG,L.map nD=(L.map λy:Nat=>(y:Int)).map D.int:=λL=>by simp_all
   rw[e,y6e,if_pos (List.mem_map_of_mem (f:=λy:Nat=>(y:Int)) hx),Yxl]
  have hcut:=Yafc nD js ((js.map λi:Nat=>hdN (rAt R (i:Int))).idxOf x+1);rw[h3]at hcut
  have hca:(((js.map λi:Nat=>hdN (rAt R (i:Int))).idxOf x+1:Nat):Int)=((js.map λi:Nat=>hdN (rAt R (i:Int))).idxOf x:Int)+1:=by lia
  rw[hca]at hcut;simp only[hx,decide_true,if_true,Bool.not_true]at hin;rw[Yav,y0 (by rfl)];clear h1 h2 h3 hca;generalize (js.map λi:Nat=>hdN (rAt R (i:Int))).idxOf x=ix,(js.map λi:Nat=>hdN (rAt R (i:Int))).map nD=HH,(p++[i]).map nD=PP,l.map nD=LL,js.map nD=JJ,fuD l js=ff,Yao R=bk at *;simp[Ycv,Yr,hfu,capR,hc,hin,hid,hcut]
 ·refine .inr ⟨hx,?_⟩
  simp only[hx,decide_false,if_true,Bool.not_false]at hin;rw[Yav,y0 (by rfl)];generalize (js.map λi:Nat=>hdN (rAt R (i:Int))).map nD=HH,l.map nD=LL,js.map nD=JJ,fuD l js=ff,Yao R=bk at *;simp[Ycv,Yr,hfu,capR,hc,hin]
def soL(K l:AG):AG:=K.filter λy=>decide (y∈l)
def Ytt(K l:AG):Ygy [.lst (K.map nD),.lst (l.map nD)]=some (.tup ((soL K l).map nD)):=by
 have hc:=Ymn (fc:=Ygw) (fe:=Ygx) (r:=[↑(.lst (l.map nD))]) (enc:=nD) (λy=>decide (y∈l)) nD (l:=K) (λy _=>by
  have hin:=in_n (c:=.lst (l.map nD)) y l false rfl;generalize l.map nD=LL at *
  simp[Ygw,hin]) (λy _ _=>by simp[Ygx])
 rw[Ygy,y0 (by rfl)];unfold soL;generalize (K.filter λy=>decide (y∈l)).map nD=FF,K.map nD=KK,l.map nD=LL at *;simp[Ys1,Yr,capR,hc]
def faB(x:Nat)(S first:AG):AG:=wob (some x) S++first.filter λy=>decide (y<x)
theorem Yoc{x:Nat}(hS:S.length<=100)(hf:first.length<=100):Ydi [.int (x:Int),.lst (S.map nD),.tup (first.map nD)]=some (.lst ((faB x S first).map nD)):=by
 have h1:=y3n S (some x)
 have h2:=Yzi first x
 have hs:optD (some x)=.int (x:Int):=rfl;rw[hs]at h1;have hwl:(wob (some x) S).length<=100:=Qh (List.length_filter_le _ _) hS;have hfl:(first.filter λy=>decide (y<x)).length<=100:=Qh (List.length_filter_le _ _) hf
 have hcat:catD (.lst ((wob (some x) S).map nD)) (.lst ((first.filter λy=>decide (y<x)).map nD))=some ((faB x S first).map nD):=by
  unfold faB;rw[y2i (by simp;lia),wt]
 have hlf:∀l:AR,Yx6 [.tup l]=some l:=λ_=>rfl;rw[Ydi,y0 (by rfl)];generalize (faB x S first).map nD=FB,(wob (some x) S).map nD=W1,(first.filter λy=>decide (y<x)).map nD=F1,S.map nD=SS at *
 generalize first.map nD=FF at *
 simp[Yhw,Yr,h1,h2,hlf,hcat]
def InF(R:List IfR)(st n:Nat):Prop:=∀r∈R,r.1.Pairwise (·<·)/\(∀x∈r.1,st<=x/\x<n)/\∀x,r.2=some x->st<=x/\x<n
def loD(b:AN)(is js:AH):AR:=[.str "lone",optD b,.tup (is.map D.int),.tup (js.map D.int)]
def roD(first:AG)(rows:List Rrw):AR:=[.str "rows",.tup (first.map nD),.tup (rows.map rrwD)]
theorem n_ci(l:AG):l.map nD=(ci l).map D.int:=by simp_all
def y60(R:List IfR)(K S:AG)(b:AN)(is js:AH):Prop:=Yzg R K S b is js=true/\is.length<=100/\js.length<=100
theorem Yaa7(hR:InF R st n)(h:Full R fs l js)(hx:x∈l):x∈fs\/(st<=x/\x<n):=by
 rcases qv ((h.mem x).mp hx)with w|w
 ·exact .inl w
 ·obtain⟨i,hi,rfl⟩:=qw w
  obtain⟨g1,g2⟩:=h.der.mem i hi;have hm:=Ynk (R:=R) (i:=(i:Int)) ⟨by lia,by lia⟩
  cases e:(rAt R (i:Int)).2 with
  | none=>rw[e]at g2;cases g2
  | some y=>
    have:hdN (rAt R (i:Int))=y:=by unfold hdN;rw[e];rfl
    rw[this];exact .inr ((hR _ hm).2.2 y e)
def Yg3(h:Full R fs l js)(hx:x∈fs):x∈l:=(h.mem x).mpr (List.mem_append.mpr (.inl hx))
theorem y3y(h:Full R S l js)(hi:i<R.length)(hp:Yts R l i=true):y60 R K S none [] (ci (js++[i])):=by
 unfold Yts at hp;rw[Qb,Option.isNone_iff_eq_none]at hp;refine⟨?_,by simp,by have:=h.len;simp;lia⟩;unfold Yzg;rw[Qb];refine⟨rfl,?_⟩
 have hw:wob none S=S:=List.filter_eq_self.mpr λy _=>by simp
 have hf:wob none S++foB R K none []=S:=by rw[hw];exact ja _
 rw[hf];refine y3x (y6z h.der) hi ?_ (.inl hp.1);rw[y8c,<-hp.2];exact(Yaa5 λx=>(h.mem x)).symm
theorem Yag2(h:Full R S l js)(hSK:∀x∈S,x∉K)(x:Nat):faB x S (soL K l)=wob (some x) S++foB R K (some x) (ci js):=by
 unfold faB soL
 congr 1
 show(K.filter λy=>decide (y∈l)).filter (λy=>decide (y<x))=K.filter λy=>decide (y<x)&&decide (y∈hdsR R (ci js));rw[List.filter_filter];refine List.filter_congr λy hy=>?_
 congr 1
 rw[y8c];refine decide_eq_decide.mpr ⟨λw=>?_,λw=>(h.mem y).mpr (List.mem_append.mpr (.inr w))⟩;rcases qv ((h.mem y).mp w)with z|z
 ·grind
 ·exact z
theorem y3z{p q:AG}(h:Full R S l js)(hSK:∀x∈S,x∉K)(hxS:x∈S)(hx:Full R (faB x S (soL K l)) lx (p++i::q))(he:hdN (rAt R (i:Int))=x):y60 R K S (some x) (ci js) (ci (p++[i])):=by
 have hlen:=hx.len;have hlj:=h.len;refine⟨?_,by simp;lia,by grind⟩;unfold Yzg;rw[Qb];refine⟨?_,?_⟩
 ·show(decide (x∈S)&&derB R S (ci js))=true
  rw[y6z h.der,wn hxS];rfl
 ·rw[<-Yag2 h hSK x]
  have hd:=y6z hx.der
  have e:ci (p++i::q)=ci p++(i:Int)::ci q:=by
   grind
  rw[e]at hd;obtain⟨g1,g2⟩:=Ytr hd;unfold stp at g2;rw[Qb,Qb,wm]at g2;obtain⟨q1,q2,q3⟩:=g2;refine y3x g1 (by lia) q3 (.inr ?_);obtain⟨y,hy⟩:=Option.isSome_iff_exists.mp q2
  have:hdN (rAt R (i:Int))=y:=by unfold hdN;rw[hy];rfl
  grind
def RowI(R:List IfR)(K S l0:AG)(r:Rrw):Prop:=∃lx jx:AG,Full R (faB r.1 S (soL K l0)) lx jx/\r.1∉jx.map (λi:Nat=>hdN (rAt R (i:Int)))/\r.2=soL K lx
theorem y30(hR:InF R st n)(hK:K.Pairwise (·<·))(hSK:∀x∈S,x∉K)(hall:∀x,st<=x->x<n->x∈S\/x∈K)(h:Full R S l js)(hn:∀i,i<R.length->Yts R l i=false)(hrs:rows.map (·.1)=S)(hr:∀r∈rows,RowI R K S l r):GoodI R K S (soL K l) rows:=by
 have hl:∀x∈l,x∈S\/x∈K:=λx hx=>by
  rcases Yaa7 hR h hx with w|w
  ·exact .inl w
  grind
 have hno:∀r∈R,r.2=none->kn r.1 l=false:=λr hr e=>by
  obtain⟨i,hi,rfl⟩:=Yv0 hr;have:=hn i hi;unfold Yts at this;grind
 refine⟨⟨hK.filter _,λy hy=>(qz hy).1⟩,hrs,λr hm=>?_,?_,λr hm=>?_⟩
 ·obtain⟨lx,jx,hx,hxn,e⟩:=hr r hm
  have hsub:=Yxj h hx λy hy=>by
   rcases qv hy with w|w
   ·exact Yg3 h (qz w).1
   ·exact wq (qz (qz w).1).2
  refine⟨by rw[e];exact hK.filter _,λy hy=>by rw[e]at hy;exact(qz hy).1,?_⟩;rw[e];unfold soL;rw[List.filter_filter,List.filter_filter];refine List.filter_congr λy hy=>?_;by_cases hyx:y<r.1
  ·have:(y∈lx)↔(y∈l):=⟨hsub y,λw=>Yg3 hx (List.mem_append.mpr (.inr (List.mem_filter.mpr ⟨List.mem_filter.mpr ⟨hy,wn w⟩,wn hyx⟩)))⟩
   grind
  ·simp[hyx]
 ·refine Ypc h hno λx=>?_
  rw[List.mem_append];constructor
  ·rintro(w|w)
   ·exact Yg3 h w
   ·exact wq (qz w).2
  ·intro w
   rcases hl x w with z|z
   ·exact .inl z
   ·exact .inr (List.mem_filter.mpr ⟨z,wn w⟩)
 ·obtain⟨lx,jx,hx,hxn,e⟩:=hr r hm
  have hsub:=Yxj h hx λy hy=>by
   rcases qv hy with w|w
   ·exact Yg3 h (qz w).1
   ·exact wq (qz (qz w).1).2
  have hrS:r.1∈S:=by grind
  have hxl:r.1∉lx:=λw=>by
   rcases qv ((hx.mem _).mp w)with z|z
   ·rcases qv z with z|z
    ·have:=(qz z).2
     simp at this
    grind
   grind
  refine Ypc hx (λq hq e=>?_) λx=>?_
  ·have h1:=hno q hq e
   cases hz:kn q.1 lx with
   | false=>rfl
   | true=>
     have:kn q.1 l=true:=by
      unfold kn;exact List.all_eq_true.mpr λx hx=>wn (Ytq hz hsub x hx)
     grind
  ·rw[List.mem_append]
   constructor
   ·rintro(w|w)
    ·obtain⟨w1,w2⟩:=qz w
     refine Yg3 hx (List.mem_append.mpr (.inl (List.mem_filter.mpr ⟨w1,?_⟩)));grind
    ·rw[e]at w
     exact wq (qz w).2
   ·intro w
    rcases hl x (hsub x w)with z|z
    ·grind
    ·rw[e]
     exact .inr (List.mem_filter.mpr ⟨z,wn w⟩)
def y31(h:K.length<=60):(soL K l).length<=60:=Qh (List.length_filter_le _ _) h
theorem Ytu(hc:Yn c=some (hs.map hdD))(hl:hs.length<=60)(hst:st<=hs.length)(hin:InF R st hs.length):
 (∃b is js,y60 R (ofH hs st true) (ofH hs st false) b is js/\Yb2 [Yao R,c,.int st]=some (outD true (.tup (loD b is js))))\/
 (∃first rows,GoodI R (ofH hs st true) (ofH hs st false) first rows/\Yb2 [Yao R,c,.int st]=some (outD false (.tup (roD first rows)))):=by
 have b1:=Ybp hs hc (by lia) st hst true;have b2:=Ybp hs hc (by lia) st hst false;simp only[hdD,if_true,Bool.false_eq_true,if_false]at b1 b2;have hKpw:(ofH hs st true).Pairwise (·<·):=List.Pairwise.filter _ List.pairwise_lt_range;have hSK:=Ylk (hs:=hs) (st:=st);have hall:∀x,st<=x->x<hs.length->x∈ofH hs st false\/x∈ofH hs st true:=λx h1 h2=>Yq1 h1 h2;have hSl:(ofH hs st false).length<=60:=Qh (List.length_filter_le _ _) (by grind);have hKl:(ofH hs st true).length<=60:=Qh (List.length_filter_le _ _) (by grind);have hS60:∀x∈ofH hs st false,x<60:=λx hx=>Qc (Ypb hx) hl;have hK60:∀x∈ofH hs st true,x<60:=λx hx=>Qc (Ypb hx) hl;have hRo:∀r∈R,∀x,r.2=some x->x<60:=λr hr x hx=>Qc ((hin r hr).2.2 x hx).2 hl;generalize ofH hs st false=S,ofH hs st true=K at *;obtain⟨l,js,hF,hwhole⟩:=y76 (c:=.lst (S.map nD)) R hRo S hS60 (by lia) rfl;have hwhole':Yas [Yao R,.lst (S.map nD)]=some (fuD l js):=hwhole;clear hwhole;have hfu:=Yll l js;have hso:=Ytt K l;have hst0:Yr 11 [Yao R,c,.int (st:Int)]=[↑(Yao R),↑c,↑(.int st),none,none,none,none,none,none,none,none]:=rfl;rw[Yb2,y0 (by rfl),hst0];rcases Yk4 R (l:=l) (js:=js) (by have:=hF.len;lia)with⟨i,hi,hp,hpl⟩|⟨hn,hpl⟩
 ·refine .inl ⟨none,[],ci (js++[i]),y3y hF hi hp,?_⟩
  have hlo:D.tup (loD none [] (ci (js++[i])))=.tup [.str "lone",.non,.tup [],.tup ((js++[i]).map nD)]:=by
   unfold loD;rw[<-n_ci];rfl
  rw[hlo];clear hF hall hin hSK hKpw;generalize (js++[i]).map nD=JI,fuD l js=fu,S.map nD=SS,K.map nD=KK,Yao R=bk at *;simp[Yex,b1,b2,hwhole',hpl,outD]
 ·have pre:Yex [↑(Yao R),↑c,↑(.int st),none,none,none,none,none,none,none,none] =
   Ye5 [↑(Yao R),↑c,↑(.int st),↑(.lst (K.map nD)),↑(.lst (S.map nD)),↑(fuD l js),↑.non,↑(.tup ((soL K l).map nD)),some (.ow []),none,none]:=by
   clear hF hall hin hSK hKpw hn;generalize (soL K l).map nD=SO,l.map nD=LL,js.map nD=JJ,fuD l js=fu,S.map nD=SS,K.map nD=KK,Yao R=bk at *;simp[Yex,b1,b2,hwhole',hpl,hfu,hso,-Ye5]
  rw[pre]
  have hloop:=Yey (gt:=gSet 9) (fb:=Ycw) nD (λpre ρ=>∃(rows:List Rrw) (y6 y9 y10:AT),rows.map (·.1)=pre/\(∀r∈rows,RowI R K S l r)/\
   ρ=[↑(Yao R),↑c,↑(.int st),↑(.lst (K.map nD)),↑(.lst (S.map nD)),↑(fuD l js),y6,↑(.tup ((soL K l).map nD)),some (.ow (rows.map rrwD)),y9,y10])
   (λd=>∃b is js,y60 R K S b is js/\d=outD true (.tup (loD b is js))) S []
   [↑(Yao R),↑c,↑(.int st),↑(.lst (K.map nD)),↑(.lst (S.map nD)),↑(fuD l js),↑.non,↑(.tup ((soL K l).map nD)),some (.ow []),none,none] ⟨[],_,_,_,rfl,λr hr=>(nomatch hr),rfl⟩ (by
    rintro q x r ρ e ⟨rows,y6,y9,y10,hrs,hrr,rfl⟩;rw[Qe]at e
    have hxS:x∈S:=by rw[e];simp
    have hrl:rows.length<=1000:=by
     grind
    have hfa:=Yoc (x:=x) (S:=S) (first:=soL K l) (by lia) (by have:=y31 (l:=l) hKl;lia)
    have hfl:(faB x S (soL K l)).length<=1000:=by
     have g1:(wob (some x) S).length<=S.length:=List.length_filter_le _ _;have g2:((soL K l).filter λy=>decide (y<x)).length<=(soL K l).length:=List.length_filter_le _ _;have g3:=y31 (l:=l) hKl;unfold faB;grind
    obtain⟨lx,jx,hX,hfull⟩:=y76 (c:=.lst ((faB x S (soL K l)).map nD)) R hRo (faB x S (soL K l)) (λy hy=>by
     rcases qv hy with w|w
     ·exact hS60 y (qz w).1
     grind) hfl rfl
    have hfull':Yas [Yao R,.lst ((faB x S (soL K l)).map nD)]=some (fuD lx jx):=hfull;clear hfull;refine⟨[↑(Yao R),↑c,↑(.int st),↑(.lst (K.map nD)),↑(.lst (S.map nD)),↑(fuD l js),y6,↑(.tup ((soL K l).map nD)),some (.ow (rows.map rrwD)),↑(.int (x:Int)),y10],rfl,?_⟩;rcases Yjn hX x with⟨p,i,q',hj,he,hpb⟩|⟨hnx,hpb⟩
    ·right
     rw[hj]at hX;refine⟨outD true (.tup (loD (some x) (ci js) (ci (p++[i])))),?_,some x,ci js,ci (p++[i]),y3z hF hSK hxS hX he,rfl⟩
     have hlo:D.tup (loD (some x) (ci js) (ci (p++[i])))=.tup [.str "lone",.int (x:Int),.tup (js.map nD),.tup ((p++[i]).map nD)]:=by
      unfold loD;rw[<-n_ci,<-n_ci];rfl
     rw[hlo];clear hF hall hin hSK hKpw hn hrr hX hj;generalize (p++[i]).map nD=PI,(faB x S (soL K l)).map nD=FA,(soL K l).map nD=SO,l.map nD=LL,js.map nD=JJ,fuD lx jx=fx,fuD l js=fu,S.map nD=SS,K.map nD=KK,Yao R=bk,rows.map rrwD=RW at *;simp[Ycw,hfa,hfull',hpb,hfu,outD]
    ·left
     have hsx:=Ytt K lx;have hfx:=Yll lx jx;have happ:∀d:D,appD (rows.map rrwD) d=some (rows.map rrwD++[d]):=λd=>Yp9 (by grind)
     have hap:(rows++[(x,soL K lx)]).map rrwD=rows.map rrwD++[.tup [.int (x:Int),.tup ((soL K lx).map nD)]]:=by rw[wt];rfl
     refine⟨[↑(Yao R),↑c,↑(.int st),↑(.lst (K.map nD)),↑(.lst (S.map nD)),↑(fuD l js),↑.non,↑(.tup ((soL K l).map nD)),some (.ow ((rows++[(x,soL K lx)]).map rrwD)),↑(.int (x:Int)),↑(fuD lx jx)],?_,rows++[(x,soL K lx)],_,_,_,by grind,λr hr=>?_,rfl⟩
     ·rw[hap]
      clear hF hall hin hSK hKpw hn hrr hX hnx hap;generalize (soL K lx).map nD=SX,(faB x S (soL K l)).map nD=FA,(soL K l).map nD=SO,l.map nD=LL,lx.map nD=LX,js.map nD=JJ,jx.map nD=JX,fuD lx jx=fx,fuD l js=fu,S.map nD=SS,K.map nD=KK,Yao R=bk,rows.map rrwD=RW at *;simp[Ycw,hfa,hfull',hpb,hfx,hsx,happ]
     ·rcases qv hr with hr|hr
      ·grind
      ·rw[List.mem_singleton]at hr
       subst hr
       exact⟨lx,jx,hX,hnx,rfl⟩)
  rcases hloop with⟨ρ',e1,rows,y6,y9,y10,hrs,hrr,rfl⟩|⟨d,e1,b,is,js',hW,rfl⟩
  ·rw[Qe]at hrs
   refine .inr ⟨soL K l,rows,y30 hin hKpw hSK hall hF hn hrs hrr,?_⟩;clear hF hall hin hSK hKpw hn hrr hrs pre;unfold roD;generalize (soL K l).map nD=SO,fuD l js=fu,S.map nD=SS,K.map nD=KK,Yao R=bk,rows.map rrwD=RW at *;simp[e1,outD]
  ·refine .inl ⟨b,is,js',hW,?_⟩
   simp_all
def Yhq(l:BA):Prop:=l.length<=2/\l.Nodup
def fl2(s:Say):flS (flS s)=s:=by
 obtain⟨a,b⟩:=s;simp[flS]
def Yag3(s:Say):flS s≠s:=by
 obtain⟨a,b⟩:=s;simp[flS]
def ed(L:AZ)(s t:Say):Prop:=∃l∈L,flS s∈l/\t∈l/\(t=flS s->l.length=1)
def Yaa8(h:ed L s t):ed L (flS t) (flS s):=by
 obtain⟨l,hl,h1,h2,h3⟩:=h;refine⟨l,hl,by rw[fl2];exact h2,h1,λe=>h3 ?_⟩;rw[fl2]at e;exact e.symm
inductive Rch (L:AZ) (s:Say):Say->Prop
 | refl:Rch L s s
 | step {t u:Say}:Rch L s t->ed L t u->Rch L s u
theorem Rch.trans(h:Rch L s t)(h':Rch L t u):Rch L s u:=by
 induction h' with
 | refl=>exact h
 | step _ e ih=>exact .step ih e
def Rch.one(h:ed L s t):Rch L s t:=.step .refl h
theorem Rch.skew(h:Rch L s t):Rch L (flS t) (flS s):=by
 induction h with
 | refl=>exact .refl
 | step _ e ih=>exact(Rch.one (Yaa8 e)).trans ih
def Yv1(rows:List Prw)(s:Say):Ybv rows (flS s)=flE (Ybv rows s):=by
 unfold Ybv;have e:(flS s).1=s.1:=rfl;rw[e]
 cases rows.find? (λr=>r.1==s.1)with
 | none=>rfl
 | some r=>
   show(r.2.1,(!s.2)==r.2.2)=(r.2.1,!(s.2==r.2.2));cases s.2<;>cases r.2.2<;>rfl
def Yxn(e:End):flE e≠e:=by
 obtain⟨a,b⟩:=e;simp[flE]
theorem Yaa9(h:flE a=flE b):a=b:=by
 obtain⟨a1,a2⟩:=a;obtain⟨b1,b2⟩:=b;unfold flE at h
 simp_all
def leE(a b:End):Prop:=a=(none,false)\/b=(none,true)\/a=b
theorem y32(h:leE a b)(h':leE b c):leE a c:=by
 rcases h with h|h|h
 ·exact .inl h
 ·rcases h' with h'|h'|h'
  ·grind
  ·exact .inr (.inl h')
  ·exact .inr (.inl (by grind))
 grind
theorem Yaba(hl:Yhq l)(hk:Ytl (l.map (Ybv rows))=true)(h1:flS s∈l)(h2:t∈l)(h3:t=flS s->l.length=1):leE (Ybv rows s) (Ybv rows t):=by
 have hall:∀x∈l,x=flS s\/x=t:=λx hx=>by
  obtain⟨g1,g2⟩:=hl
  match l,g1,g2,h1,h2,h3,hx with
  | [a],_,_,h1,h2,h3,hx=>
    grind
  | [a,b],_,g2,h1,h2,h3,hx=>
    grind
 unfold Ytl at hk;obtain⟨e,he,hp⟩:=List.any_eq_true.mp hk;obtain⟨x,hx,rfl⟩:=qw he;rw[Bool.or_eq_true,wm,wm]at hp;have hfs:=Yv1 rows s
 have key:∀y∈l,flE (Ybv rows x)=Ybv rows y->leE (Ybv rows s) (Ybv rows t):=λy hy e=>by
  rcases hall x hx with rfl|rfl
  ·rw[hfs]at e
   have e2:Ybv rows s=Ybv rows y:=by
    have:flE (flE (Ybv rows s))=Ybv rows s:=by simp[flE]
    grind
   rcases hall y hy with rfl|rfl
   ·rw[hfs]at e2
    exact absurd e2.symm (Yxn _)
   ·exact .inr (.inr e2)
  ·rcases hall y hy with rfl|rfl
   ·rw[hfs]at e
    exact .inr (.inr (Yaa9 e).symm)
   ·exact absurd e (Yxn _)
 rcases hp with hp|hp
 ·rcases hall x hx with rfl|rfl
  ·rw[hfs]at hp
   refine .inl ?_
   have:flE (flE (Ybv rows s))=Ybv rows s:=by simp[flE]
   rw[<-this,hp];rfl
  ·exact .inr (.inl hp)
 grind
theorem Yxo(hL:∀l∈L,Yhq l)(hk:∀l∈L,Ytl (l.map (Ybv rows))=true)(h:Rch L s t):leE (Ybv rows s) (Ybv rows t):=by
 induction h with
 | refl=>exact .inr (.inr rfl)
 | step _ e ih=>
   obtain⟨l,hl,h1,h2,h3⟩:=e;exact y32 ih (Yaba (hL l hl) (hk l hl) h1 h2 h3)
theorem Yxp(h:s.1∉rows.map (·.1)):Ybv rows s=(some s.1,s.2):=by
 unfold Ybv;grind
theorem y33(h:s.1∈rows.map (·.1)):∃r∈rows,r.1=s.1/\Ybv rows s=(r.2.1,s.2==r.2.2):=by
 unfold Ybv;grind
structure GoodE(L:AZ)(K S:AG)(rows:List Prw):Prop where
 ks:rows.map (·.1)=K
 row:∀r∈rows,rowP S r=true
 kept:∀l∈L,Ytl (l.map (Ybv rows))=true
inductive BadE (L:AZ) (K S:AG):Prop
 | broken:[]∈L->BadE L K S
 | clash (s:Say):Rch L s (flS s)->Rch L (flS s) s->BadE L K S
 | cross (s t:Say):s.1∈S->t.1∈S->s≠t->Rch L s t->BadE L K S
 | late (s t:Say):s.1∈S->t.1∈K->t.1<s.1->Rch L s t->Rch L t s->BadE L K S
theorem Yafd(hL:∀l∈L,Yhq l)(hSK:∀x∈S,x∉K)(g:GoodE L K S rows):¬BadE L K S:=λh=>by
 have hst:∀s:Say,s.1∈S->Ybv rows s=(some s.1,s.2):=λs hs=>Yxp (by rw[g.ks];grind)
 have half:∀s:Say,Rch L s (flS s)->Ybv rows s=(none,false):=λs h1=>by
  have e:=Yxo hL g.kept h1;rw[Yv1]at e;rcases e with e|e|e
  ·exact e
  ·have:flE (flE (Ybv rows s))=Ybv rows s:=by simp[flE]
   rw[<-this,e];rfl
  ·exact absurd e.symm (Yxn _)
 cases h with
 | broken h=>
   have:=g.kept [] h;cases this
 | clash s h1 h2=>
   have e1:=half s h1;have e2:=half (flS s) (by rw[fl2];exact h2);rw[Yv1,e1]at e2;cases e2
 | cross s t hs ht hne h1=>
   have e:=Yxo hL g.kept h1;rw[hst s hs,hst t ht]at e;rcases e with e|e|e
   ·cases e
   ·cases e
   grind
 | late s t hs ht hlt h1 h2=>
   have e1:=Yxo hL g.kept h1;have e2:=Yxo hL g.kept h2;rw[hst s hs]at e1 e2
   have e3:Ybv rows t=(some s.1,s.2):=by
    rcases e1 with e|e|e
    ·cases e
    ·rcases e2 with e'|e'|e'
     ·grind
     ·cases e'
     ·exact e'
    grind
   obtain⟨r,hr,he,hc⟩:=y33 (rows:=rows) (s:=t) (by rw[g.ks];exact ht);rw[e3]at hc;injection hc with hc1 _;have hrow:=g.row r hr;unfold rowP at hrow;grind
def tied(L:AZ)(S:AG)(k:Nat)(s:Say):Prop:=s.1∈S/\Rch L s (k,true)/\Rch L (k,true) s
def loose(L:AZ)(S:AG)(k:Nat):Prop:=∀s,¬tied L S k s
structure PlanOf(L:AZ)(K S:AG)(τ:AK)(rows:List Prw):Prop where
 ks:rows.map (·.1)=K
 row:∀r∈rows,(∃s,tied L S r.1 s/\r.2=(some s.1,s.2))\/(loose L S r.1/\r.2=(none,τ r.1))
structure Tr(L:AZ)(K S:AG)(τ:AK):Prop where
 one:∀k∈K,loose L S k->∀s:Say,s.1∈S->∀v,Rch L s (k,v)->τ k=v
 two:∀k∈K,loose L S k->∀j∈K,loose L S j->∀v,Rch L (k,τ k) (j,v)->τ j=v
def Yxq(nb:¬BadE L K S)(hs:s.1∈S)(ht:t.1∈S)(h:Rch L s t):s=t:=
 Classical.byContradiction λz=>nb (.cross s t hs ht z h)
theorem cls(hSK:∀x∈S,x∉K)(hp:PlanOf L K S τ rows)(ha:a.1∈S\/a.1∈K):
 (∃e:Say,e.1∈S/\Ybv rows a=(some e.1,e.2)/\Rch L a e/\Rch L e a)\/(a.1∈K/\loose L S a.1/\Ybv rows a=(none,a.2==τ a.1)):=by
 rcases ha with ha|ha
 ·exact .inl ⟨a,ha,Yxp (by rw[hp.ks];grind),.refl,.refl⟩
 ·obtain⟨r,hr,he,hc⟩:=y33 (rows:=rows) (s:=a) (by rw[hp.ks];exact ha)
  rcases hp.row r hr with⟨s,ht,hs⟩|⟨hlo,hs⟩
  ·left
   rw[hs]at hc;obtain⟨t1,t2,t3⟩:=ht;rw[he]at t2 t3;obtain⟨a1,a2⟩:=a
   cases a2 with
   | true=>
     refine⟨s,t1,?_,t3,t2⟩
     simp_all
   | false=>
     refine⟨flS s,t1,?_,t2.skew,t3.skew⟩;rw[hc];show(some s.1,false==s.2)=(some s.1,!s.2);cases s.2<;>rfl
  grind
theorem Yjo(h:((none,true):End)∈es):Ytl es=true:=by
 unfold Ytl;grind
theorem y61(h:e∈es)(h2:flE e∈es):Ytl es=true:=by
 unfold Ytl;grind
theorem Yabb(h:¬v=a.2):(a.1,v)=flS a:=by
 obtain⟨x,y⟩:=a;unfold flS
 cases v<;>cases y<;>first|rfl|grind
theorem Ytv(hSK:∀x∈S,x∉K)(nb:¬BadE L K S)(hp:PlanOf L K S τ rows)(ht:Tr L K S τ)(ha:a.1∈S\/a.1∈K)(hb:b.1∈S\/b.1∈K)(h:Rch L (flS a) b):
 Ybv rows a=(none,true)\/Ybv rows b=(none,true)\/flE (Ybv rows a)=Ybv rows b:=by
 have h':Rch L (flS b) a:=by
  have:=h.skew;rw[fl2]at this;exact this
 rcases cls hSK hp ha with⟨e,e1,e2,e3,e4⟩|⟨a1,a2,a3⟩
 ·rcases cls hSK hp hb with⟨f,f1,f2,f3,f4⟩|⟨b1,b2,b3⟩
  ·have:=Yxq nb (s:=flS e) (t:=f) e1 f1 ((e3.skew.trans h).trans f3)
   refine .inr (.inr ?_);rw[e2,f2,<-this];rfl
  ·have:=ht.one b.1 b1 b2 (flS e) e1 b.2 (e3.skew.trans h)
   grind
 ·by_cases hv:τ a.1=a.2
  ·grind
  ·rcases cls hSK hp hb with⟨f,f1,f2,f3,f4⟩|⟨b1,b2,b3⟩
   ·have:=ht.one a.1 a1 a2 (flS f) f1 a.2 (f3.skew.trans h')
    grind
   ·refine .inr (.inl ?_)
    have e:=Yabb hv;have:=ht.two a.1 a1 a2 b.1 b1 b2 b.2 (by grind);grind
theorem y34(hL:∀l∈L,Yhq l)(hin:∀l∈L,∀s∈l,s.1∈S\/s.1∈K)(hSK:∀x∈S,x∉K)(nb:¬BadE L K S)(hp:PlanOf L K S τ rows)(ht:Tr L K S τ):GoodE L K S rows:=by
 refine⟨hp.ks,λr hr=>?_,λl hl=>?_⟩
 ·rcases hp.row r hr with⟨s,⟨t1,t2,t3⟩,hs⟩|⟨_,hs⟩
  ·have hrK:r.1∈K:=by rw[<-hp.ks];grind
   have hlt:s.1<r.1:=by
    rcases Nat.lt_trichotomy s.1 r.1 with h|h|h
    ·exact h
    ·grind
    ·exact absurd (.late s (r.1,true) t1 hrK h t2 t3) nb
   unfold rowP;grind
  ·unfold rowP
   rw[hs]
 ·obtain⟨g1,g2⟩:=hL l hl
  match l,g1,g2,hl with
  | [],_,_,hl=>exact absurd (.broken hl) nb
  | [a],_,_,hl=>
    have h:Rch L (flS a) a:=.one ⟨[a],hl,by rw[fl2];simp,by simp,λ_=>rfl⟩;have ha:=hin [a] hl a (by simp);rcases Ytv hSK nb hp ht ha ha h with e|e|e
    ·exact Yjo (by simp[e])
    ·exact Yjo (by simp[e])
    ·exact absurd e (Yxn _)
  | [a,b],_,g2,hl=>
    have hab:¬a=b:=by grind
    have h:Rch L (flS a) b:=.one ⟨[a,b],hl,by rw[fl2];simp,by simp,λz=>absurd (by rw[z,fl2]) hab⟩;rcases Ytv hSK nb hp ht (hin _ hl a (by simp)) (hin _ hl b (by simp)) h with e|e|e
    ·exact Yjo (by simp[e])
    ·exact Yjo (by simp[e])
    ·exact y61 (e:=Ybv rows a) (by simp) (by rw[e];simp)
def updF(L:AZ)(s:Say)(f g:Nat->Option Bool):Prop:=∀j,(∀v,Rch L s (j,v)->(g j).isSome=true)/\(∀v,g j=some v->Rch L s (j,v)\/((∀u,¬Rch L s (j,u))/\f j=some v))/\((∀u,¬Rch L s (j,u))->g j=f j)
structure Ph1(L:AZ)(T:BA)(f:Nat->Option Bool):Prop where
 up:∀j v,f j=some v->∃s∈T,Rch L s (j,v)
 dom:∀j,∀s∈T,∀v,Rch L s (j,v)->(f j).isSome=true
def Yabc(L:AZ):Ph1 L [] λ_=>none:=⟨λj v h=>(nomatch h),λj s hs=>(nomatch hs)⟩
theorem y62(h:Ph1 L T f)(hu:updF L s f g):Ph1 L (T++[s]) g:=by
 refine⟨λj v hj=>?_,λj t ht v hr=>?_⟩
 ·rcases(hu j).2.1 v hj with w|⟨_,w⟩
  ·grind
  ·obtain⟨t,ht,hr⟩:=h.up j v w
   grind
 ·by_cases z:∃u,Rch L s (j,u)
  ·obtain⟨u,hz⟩:=z
   exact(hu j).1 u hz
  ·have z':∀u,¬Rch L s (j,u):=λu hu=>z ⟨u,hu⟩
   rw[(hu j).2.2 z'];rcases qv ht with ht|ht
   ·exact h.dom j t ht v hr
   grind
def Yv2(k:Nat)(v:Bool):flS (k,v)=(k,!v):=rfl
theorem y35(nb:¬BadE L K S)(hlo:loose L S k)(hs:s.1∈S)(ht:t.1∈S)(h1:Rch L s (k,v))(h2:Rch L t (k,u)):v=u:=by
 refine Classical.byContradiction λz=>?_
 have e:(k,u)=flS (k,v):=by
  rw[Yv2]
  cases v<;>cases u<;>first|rfl|grind
 rw[e]at h2;have h3:=h2.skew;rw[fl2]at h3;have h4:=Yxq nb (s:=s) (t:=flS t) hs ht (h1.trans h3)
 have h5:Rch L (k,v) s:=by grind
 cases v with
 | true=>exact hlo s ⟨hs,h1,h5⟩
 | false=>
   refine hlo (flS s) ⟨hs,?_,?_⟩
   ·have:=h5.skew
    exact this
   ·have:=h1.skew
    exact this
structure Ph2(L:AZ)(K S:AG)(f:Nat->Option Bool):Prop where
 one:∀k,loose L S k->∀s:Say,s.1∈S->∀v,Rch L s (k,v)->f k=some v
 two:∀k j,loose L S k->loose L S j->∀v u,f k=some v->Rch L (k,v) (j,u)->f j=some u
 dom:∀k,¬loose L S k->(f k).isSome=true
theorem y36(nb:¬BadE L K S)(hT:∀s:Say,s∈T↔s.1∈S)(h:Ph1 L T f):Ph2 L K S f:=by
 have one:∀k,loose L S k->∀s:Say,s.1∈S->∀v,Rch L s (k,v)->f k=some v:=λk hlo s hs v hr=>by
  have hd:=h.dom k s ((hT s).mpr hs) v hr
  cases e:f k with
  | none=>grind
  | some u=>
    obtain⟨t,ht,hrt⟩:=h.up k u e;rw[y35 nb hlo hs ((hT t).mp ht) hr hrt]
 refine⟨one,λk j hk hj v u e hr=>?_,λk hk=>?_⟩
 ·obtain⟨t,ht,hrt⟩:=h.up k v e
  exact one j hj t ((hT t).mp ht) u (hrt.trans hr)
 ·have:∃s,tied L S k s:=Classical.byContradiction λz=>hk λs hs=>z ⟨s,hs⟩
  obtain⟨s,t1,t2,_⟩:=this;exact h.dom k s ((hT s).mpr t1) true t2
def Yafe(L:AZ)(k:Nat)(l:Say):Prop:=l.1=k/\¬Rch L l (flS l)
theorem y63(nb:¬BadE L K S)(h:Ph2 L K S f)(hk:f k=none)(hl:Yafe L k l)(hu:updF L l f g):Ph2 L K S g/\(g k).isSome=true/\∀j,(f j).isSome=true->(g j).isSome=true:=by
 have hlo:loose L S k:=Classical.byContradiction λz=>by
  have:=h.dom k z;grind
 have hone:∀j v u,Rch L l (j,v)->Rch L l (j,u)->v=u:=λj v u h1 h2=>by
  refine Classical.byContradiction λz=>hl.2 ?_
  have e:(j,u)=flS (j,v):=by
   rw[Yv2]
   cases v<;>cases u<;>first|rfl|grind
  rw[e]at h2;have h3:=h2.skew;rw[fl2]at h3;exact h1.trans h3
 have hset:∀j v,Rch L l (j,v)->g j=some v:=λj v hr=>by
  have hd:=(hu j).1 v hr
  cases e:g j with
  | none=>grind
  | some u=>
    rcases(hu j).2.1 u e with w|⟨w,_⟩
    ·grind
    grind
 have hstay:∀j,loose L S j->∀v,f j=some v->g j=some v:=λj hj v e=>by
  by_cases z:∃u,Rch L l (j,u)
  ·obtain⟨u,hz⟩:=z
   have:u=v:=Classical.byContradiction λne=>by
    have e2:(j,u)=flS (j,v):=by
     rw[Yv2]
     cases v<;>cases u<;>first|rfl|grind
    rw[e2]at hz;have h3:=hz.skew;rw[fl2]at h3
    have hfl:flS l=(k,!l.2):=by rw[<-hl.1];rfl
    rw[hfl]at h3;have:=h.two j k hj hlo v (!l.2) e h3;grind
   grind
  ·rw[(hu j).2.2 λu hu=>z ⟨u,hu⟩]
   exact e
 refine⟨⟨λj hj s hs v hr=>hstay j hj v (h.one j hj s hs v hr),λi j hi hj v u e hr=>?_,λj hj=>?_⟩,?_,λj hj=>?_⟩
 ·rcases(hu i).2.1 v e with w|⟨_,w⟩
  ·exact hset j u (w.trans hr)
  ·exact hstay j hj u (h.two i j hi hj v u w hr)
 ·have hd:=h.dom j hj
  by_cases z:∃u,Rch L l (j,u)
  ·grind
  ·rw[(hu j).2.2 λu hu=>z ⟨u,hu⟩]
   exact hd
 ·have:Rch L l (k,l.2):=by rw[<-hl.1];exact .refl
  grind
 ·by_cases z:∃u,Rch L l (j,u)
  ·grind
  ·rw[(hu j).2.2 λu hu=>z ⟨u,hu⟩]
   exact hj
theorem Yag4(h:Ph2 L K S f)(hd:∀k∈K,(f k).isSome=true):Tr L K S λk=>(f k).getD false:=by
 have hv:∀k∈K,f k=some ((f k).getD false):=λk hk=>by
  have:=hd k hk
  cases e:f k with
  | none=>grind
  | some v=>rfl
 refine⟨λk hk hlo s hs v hr=>?_,λk hk hlo j hj hlj v hr=>?_⟩
 ·rw[h.one k hlo s hs v hr]
  rfl
 ·rw[h.two k j hlo hlj _ v (hv k hk) hr]
  rfl
def kN(s:Say):AH:=[(s.1:Int),if s.2 then 1 else 0]
theorem y37(h:kN s=kN t):s=t:=by
 obtain⟨a,b⟩:=s;obtain⟨c,d⟩:=t;unfold kN at h;grind
def Yjp(s:Say):nKey (sayD s)=some (kN s):=rfl
theorem Yfi:∀l:BA,Yhn (l.map sayD)=some (l.map kN)
 | []=>rfl
 | s::l=>by
   rw[Qa,Yhn,Yjp,qd,Yfi l];rfl
theorem mem_kN{l:BA}:kN s∈l.map kN↔s∈l:=by
 constructor
 ·intro h
  obtain⟨t,ht,e⟩:=qw h;rw[<-y37 e];exact ht
 grind
def Yxr(neg:Bool)(s:Say)(l:BA)(vs:AR):hasT neg (sayD s) (.dct true (l.map sayD) vs)=some (decide (s∈l)!=neg):=by
 show(Yhn (l.map sayD)).bind _=_;rw[Yfi,qd,Yjp,Option.map_some,decide_eq_decide.mpr mem_kN]
def optS:Option Say->D
 | none=>.non
 | some s=>sayD s
abbrev Wy:=List (Say×Option Say)
def kyW(W:Wy):BA:=W.map (·.1)
def wyD(W:Wy):D:=.dct true ((kyW W).map sayD) (W.map λp=>optS p.2)
structure WOk(L:AZ)(s:Say)(W:Wy):Prop where
 nd:(kyW W).Nodup
 hd:∃X,W=(s,none)::X
 par:∀i p,W[i]?=some p->0<i->∃(k:Nat) (q:Say×Option Say),k<i/\W[k]?=some q/\p.2=some q.1/\p.1∈ledL L q.1
theorem y64(h:WOk L s W){j:Nat}(hj:W[j]?=some q)(ht:t∈ledL L q.1)(hn:t∉kyW W):WOk L s (W++[(t,some q.1)]):=by
 refine⟨?_,?_,λi p hi hp=>?_⟩
 ·unfold kyW
  rw[wt,List.nodup_append];refine⟨h.nd,by simp,λx hx y hy e=>?_⟩;simp at hy;subst hy e;exact hn hx
 ·obtain⟨X,e⟩:=h.hd
  grind
 ·by_cases hlt:i<W.length
  ·rw[List.getElem?_append_left hlt]at hi
   obtain⟨k,r,h1,h2,h3⟩:=h.par i p hi hp;exact⟨k,r,h1,by grind,h3⟩
  ·rw[List.getElem?_append_right (by lia)]at hi
   have hi0:i-W.length=0:=by
    grind
   rw[hi0]at hi;have:p=(t,some q.1):=(w6 hi).symm;subst this;have hjl:j<W.length:=(qo hj).1;exact⟨j,q,by lia,by grind,rfl,ht⟩
def stW(bk:D)(s:Say)(W:Wy)(j:Nat)(y:AT):Ro:=[↑bk,↑(sayD s),some (.od true ((kyW W).map sayD) (W.map λp=>optS p.2)),some (.ow ((kyW W).map sayD)),↑(.int (j:Int)),y]
theorem Yabd(hl:W.length<=1000)(hn:t∉kyW W)(d:D):putD ((kyW W).map sayD) (W.map λp=>optS p.2) (sayD t) d=some ((kyW W).map sayD++[sayD t],(W.map λp=>optS p.2)++[d]):=by
 unfold putD;rw[Yfi,qd,Yjp,qd,if_pos (by rw[qf];show W.length<1000000;lia),if_neg (λz=>hn (mem_kN.mp z))]
theorem Yke:∀(ts:BA) (W:Wy) (y:AT),WOk L s W->W.length+ts.length<=1000->W[j]?=some q->(∀t∈ts,t∈ledL L q.1)->
 ∃(X:Wy) (y':AT),WOk L s (W++X)/\(∀t∈ts,t∈kyW (W++X))/\(∀p∈X,p.1∈ts)/\M.forM (gSet 5) Ybn (ts.map sayD) (stW bk s W j y)=some (.nx (stW bk s (W++X) j y'))
 | [],W,y,hW,_,_,_=>⟨[],y,by grind,λt ht=>(nomatch ht),λp hp=>(nomatch hp),by rw[ja];rfl⟩
 | t::ts,W,y,hW,hl,hj,ht=>by
   have hat:atI ((kyW W).map sayD) (j:Int)=some (sayD q.1):=by
    have hjl:j<W.length:=(qo hj).1;rw[Yft]
    have:(kyW W)[j]?=some q.1:=by unfold kyW;grind
    rw[Yh1 this];rfl
   rw[Qa,M.forM];have hg:gSet 5 (sayD t) (stW bk s W j y)=some (stW bk s W j (↑(sayD t))):=rfl;rw[hg,qd]
   have hl':W.length+ts.length+1<=1000:=by grind
   have hh:=Yxr true t (kyW W) (W.map λp=>optS p.2);by_cases hm:t∈kyW W
   ·have e1:Ybn (stW bk s W j (↑(sayD t)))=some (.nx (stW bk s W j (↑(sayD t)))):=by
     simp only[hm,decide_true]at hh;unfold stW;generalize (kyW W).map sayD=KW,(W.map λp=>optS p.2)=VW,sayD t=dt,sayD s=ds at *;simp[Ybn,hh]
    obtain⟨X,y',h1,h2,h3,h4⟩:=Yke ts W (↑(sayD t)) hW (by lia) hj λu hu=>ht u (qg _ hu);refine⟨X,y',h1,λu hu=>?_,λp hp=>qg _ (h3 p hp),?_⟩
    ·rcases qt hu with rfl|hu
     ·unfold kyW
      rw[wt];exact List.mem_append.mpr (.inl hm)
     grind
    ·rw[e1,qd]
     exact h4
   ·have hW':=y64 hW hj (ht t (by simp)) hm
    have e1:Ybn (stW bk s W j (↑(sayD t)))=some (.nx (stW bk s (W++[(t,some q.1)]) j (↑(sayD t)))):=by
     simp only[hm,decide_false]at hh;have hp:=Yabd (by lia) hm (sayD q.1);have happ:appD ((kyW W).map sayD) (sayD t)=some ((kyW W).map sayD++[sayD t]):=Yp9 (by unfold kyW;simp;lia)
     have k1:(kyW (W++[(t,some q.1)])).map sayD=(kyW W).map sayD++[sayD t]:=by unfold kyW;grind
     have k2:((W++[(t,some q.1)]).map λp=>optS p.2)=(W.map λp=>optS p.2)++[sayD q.1]:=by rw[wt];rfl
     unfold stW;rw[k1,k2];clear k1 k2;generalize (kyW W).map sayD=KW,(W.map λp=>optS p.2)=VW,sayD t=dt,sayD s=ds,sayD q.1=dq at *;have hod:y5k 2 [↑bk,↑ds,some (.od true KW VW),some (.ow KW),↑(.int (j:Int)),↑dt]=some (KW,VW):=rfl
     have hput:sPut 2 (getC 5) (b2 (getC 3) (getC 4) ixD) [↑bk,↑ds,some (.od true KW VW),some (.ow KW),↑(.int (j:Int)),↑dt]=some (.nx [↑bk,↑ds,some (.od true (KW++[dt]) (VW++[dq])),some (.ow KW),↑(.int (j:Int)),↑dt]):=by
      unfold sPut
      simp_all
     simp[Ybn,hh,hput,happ]
    have hj2:(W++[(t,some q.1)])[j]?=some q:=by
     grind
    obtain⟨X,y',h1,h2,h3,h4⟩:=Yke ts (W++[(t,some q.1)]) (↑(sayD t)) hW' (by grind) hj2 λu hu=>ht u (qg _ hu);rw[jb]at h1 h2 h4;refine⟨[(t,some q.1)]++X,y',h1,λu hu=>?_,λp hp=>?_,?_⟩
    ·rcases qt hu with rfl|hu
     ·unfold kyW
      simp
     grind
    ·grind
    ·rw[e1,qd]
     exact h4
theorem Ytw(hn:(kyW W).Nodup)(h:∀s∈kyW W,s.1<60):W.length<=120:=by
 have hm:((kyW W).map λs:Say=>2*s.1+(if s.2 then 1 else 0)).Nodup:=by
  grind
 have:=Yhh 120 _ hm λx hx=>by
  grind
 simpa [kyW]using this
theorem Yaff(hL:∀l∈L,∀s∈l,s.1<60)(h:t∈ledL L s):t.1<60:=by
 unfold ledL at h;obtain⟨l,hl,e⟩:=List.mem_filterMap.mp h;unfold Yqy at e
 split at e
 ·rename_i hm
  injection e with e;subst e
  cases hf:l.filter λt=>!decide (t=flS s)with
  | nil=>grind
  | cons a r=>
    grind
 ·cases e
def Yq4(L:AZ)(W:Wy)(j:Nat):Prop:=∀k q,W[k]?=some q->k<j->∀t∈ledL L q.1,t∈kyW W
theorem Yzl(hLl:L.length<=500)(hL:∀l∈L,∀s∈l,s.1<60):∀(m fuel j:Nat) (W:Wy) (y:AT),121<=j+m->m+1<=fuel->WOk L s W->(∀t∈kyW W,t.1<60)->j<=W.length->Yq4 L W j->
 ∃(W':Wy) (j':Nat) (y':AT),WOk L s W'/\(∀t∈kyW W',t.1<60)/\Yq4 L W' W'.length/\Ybt (b2 (getC 4) (cC (Yg (getC 3) aNil) lenC) ltI) Yb5 fuel (stW (bkE L) s W j y)=some (.nx (stW (bkE L) s W' j' y')):=by
 intro m
 induction m with
 | zero=>
   intro fuel j W y h1 h2 hW h60 hj hc;have:=Ytw hW.nd h60;lia
 | succ m ih=>
   intro fuel j W y h1 h2 hW h60 hj hc
   cases fuel with
   | zero=>lia
   | succ fuel=>
     have hcond:(b2 (getC 4) (cC (Yg (getC 3) aNil) lenC) ltI) (stW (bkE L) s W j y)=some (decide (j<W.length)):=by
      have hlen:(((kyW W).map sayD).length:Int)=(W.length:Int):=by unfold kyW;simp
      unfold stW
      simp_all
     rw[Ybt,hcond];by_cases hlt:j<W.length
     ·have hq:W[j]?=some W[j]:=qq hlt
      have hled:=y6q (L:=L) (by lia) W[j].1;have hWl:=Ytw hW.nd h60;have hll:(ledL L W[j].1).length<=500:=Qh (List.length_filterMap_le _ _) hLl;obtain⟨X,y1,k1,k2,k3,k4⟩:=Yke (bk:=bkE L) (j:=j) (q:=W[j]) (ledL L W[j].1) W y hW (by lia) hq λt ht=>ht
      have hbody:Yb5 (stW (bkE L) s W j y)=some (.nx (stW (bkE L) s (W++X) (j+1) y1)):=by
       have hat:atI ((kyW W).map sayD) (j:Int)=some (sayD W[j].1):=by
        rw[Yft]
        have:(kyW W)[j]?=some W[j].1:=by unfold kyW;grind
        rw[Yh1 this];rfl
       have hinc:((j+1:Nat):Int)=(j:Int)+1:=by lia
       unfold stW at k4 ⊢;rw[hinc];generalize (kyW (W++X)).map sayD=KX,((W++X).map λp=>optS p.2)=VX,(kyW W).map sayD=KW,(W.map λp=>optS p.2)=VW,sayD W[j].1=dq,sayD s=ds,(ledL L W[j].1).map sayD=LL,bkE L=bk at *;simp[Yb5,hat,hled,k4]
      have h60':∀t∈kyW (W++X),t.1<60:=λt ht=>by
       unfold kyW at ht;rw[wt]at ht;rcases qv ht with ht|ht
       ·exact h60 t ht
       ·obtain⟨p,hp,rfl⟩:=qw ht
        exact Yaff hL (k3 p hp)
      have hc':Yq4 L (W++X) (j+1):=λk q hk hkj t ht=>by
       by_cases e:k=j
       ·grind
       ·rw[List.getElem?_append_left (by lia)]at hk
        have:=hc k q hk (by lia) t ht;unfold kyW at this ⊢;grind
      obtain⟨W',j',y',r1,r2,r3,r4⟩:=ih fuel (j+1) (W++X) y1 (by lia) (by lia) k1 h60' (by grind) hc';grind
     grind
structure Ways(L:AZ)(s:Say)(W:Wy):Prop extends WOk L s W where
 cl:Yq4 L W W.length
 lt:∀t∈kyW W,t.1<60
theorem Yv3(hLl:L.length<=500)(hL:∀l∈L,∀s∈l,s.1<60)(hs:s.1<60):∃W:Wy,Ways L s W/\Yda [bkE L,sayD s]=some (wyD W):=by
 have h0:WOk L s [(s,none)]:=⟨by simp[kyW],⟨[],rfl⟩,λi p hi hp=>by
  grind⟩
 obtain⟨W,j,y,h1,h2,h3,h4⟩:=Yzl hLl hL (s:=s) 121 4000 0 [(s,none)] none (by lia) (by lia) h0 (λt ht=>by simp[kyW]at ht;grind) (Qf _) (λk q _ hk=>by lia);refine⟨W,{ h1 with cl:=h3,lt:=h2 },?_⟩;rw[Yda,y0 (by rfl)];have hst0:Yr 6 [bkE L,sayD s]=[↑(bkE L),↑(sayD s),none,none,none,none]:=rfl;have hdisp:y1g 2 (getV 1) (kD .non) [↑(bkE L),↑(sayD s),none,none,none,none]=some (.nx [↑(bkE L),↑(sayD s),some (.od true [sayD s] [.non]),none,none,none]):=rfl;rw[hst0,Ymo,Ybd,hdisp,qd,Yg9];have h4':Ybt (b2 (getC 4) (cC (Yg (getC 3) aNil) lenC) ltI) Yb5 4000 [↑(bkE L),↑(sayD s),some (.od true [sayD s] [.non]),some (.ow [sayD s]),↑(.int 0),none]=some (.nx (stW (bkE L) s W j y)):=h4;have h5:Yi3 (stW (bkE L) s W j y)=some (.rt (wyD W)):=rfl
 simp_all
theorem y38(hL:∀l∈L,Yhq l):t∈ledL L s↔ed L s t:=by
 unfold ledL ed;rw[List.mem_filterMap];constructor
 ·rintro⟨l,hl,e⟩
  unfold Yqy at e
  split at e
  ·rename_i hm
   injection e with e
   cases hf:l.filter λt=>!decide (t=flS s)with
   | nil=>
     rw[hf]at e;have e':flS s=t:=e;refine⟨l,hl,hm,by grind,λ_=>?_⟩
     have hall:∀x∈l,x=flS s:=λx hx=>by
      grind
     obtain⟨_,g2⟩:=hL l hl
     match l,g2,hm,hall with
     | [a],_,_,_=>rfl
     | a::b::r,g2,_,hall=>
       grind
   | cons a r=>
     grind
  ·cases e
 ·rintro⟨l,hl,h1,h2,h3⟩
  refine⟨l,hl,?_⟩;unfold Yqy;rw[if_pos h1];obtain⟨g1,g2⟩:=hL l hl;by_cases e:t=flS s
  ·have hlen:=h3 e
   match l,hlen,h1 with
   | [a],_,h1=>
     grind
  ·have hf:l.filter (λt=>!decide (t=flS s))=[t]:=by
    match l,g1,g2,h1,h2 with
    | [a],_,_,h1,h2=>
      grind
    | [a,b],_,g2,h1,h2=>
      grind
   grind
theorem Ylm(hL:∀l∈L,Yhq l)(h:Ways L s W):t∈kyW W↔Rch L s t:=by
 have key:∀(n i:Nat) p,i<n->W[i]?=some p->Rch L s p.1:=λn=>by
  induction n with
  | zero=>grind
  | succ n ih=>
    intro i p hi hp;by_cases h0:i=0
    ·subst h0
     obtain⟨X,e⟩:=h.hd;rw[e]at hp;cases hp;exact .refl
    ·obtain⟨k,q,k1,k2,k3,k4⟩:=h.par i p hp (by lia)
     exact .step (ih k q (by lia) k2) ((y38 hL).mp k4)
 constructor
 ·intro ht
  obtain⟨p,hp,rfl⟩:=qw ht;obtain⟨i,hi,e⟩:=List.mem_iff_getElem.mp hp;exact key (i+1) i p (by lia) (by grind)
 ·intro hr
  induction hr with
  | refl=>
    obtain⟨X,e⟩:=h.hd;rw[e];simp[kyW]
  | step _ e ih=>
    obtain⟨p,hp,rfl⟩:=qw ih;obtain⟨i,hi,e2⟩:=List.mem_iff_getElem.mp hp;exact h.cl i p (by grind) hi _ ((y38 hL).mpr e)
inductive BackP (L:AZ) (s:Say):BA->Say->Prop
 | one:BackP L s [s] s
 | cons {p:BA}{q t:Say}:BackP L s p q->t∈ledL L q->BackP L s (t::p) t
theorem Yq5:∀{W:List (Say×β)}{i:Nat}{p:Say×β},(W.map (·.1)).Nodup->W[i]?=some p->Yad ((W.map (·.1)).map kN) (W.map (·.2)) (kN p.1)=some p.2
 | [],i,p,_,h=>by simp at h
 | w::W,i,p,hn,h=>by
   rw[Qa,List.nodup_cons]at hn;rw[Qa,Qa,Qa,Yad]
   cases i with
   | zero=>
     grind
   | succ i=>
     rw[List.getElem?_cons_succ]at h;have hm:p.1∈W.map (·.1):=List.mem_map_of_mem (f:=(·.1)) (List.mem_of_getElem? h);rw[if_neg (λz=>hn.1 (by rw[y37 z];exact hm))];exact Yq5 hn.2 h
theorem y65(hn:(kyW W).Nodup){i:Nat}(h:W[i]?=some p):getT (wyD W) (sayD p.1)=some (optS p.2):=by
 show(Yhn ((kyW W).map sayD)).bind _=_;rw[Yfi,qd,Yjp,qd];have:=Yq5 (W:=W.map λp=>(p.1,optS p.2)) (i:=i) (p:=(p.1,optS p.2)) (by rw[Qd];exact hn) (by grind)
 have e1:((W.map λp=>(p.1,optS p.2)).map (·.1))=kyW W:=by rw[Qd];rfl
 have e2:((W.map λp=>(p.1,optS p.2)).map (·.2))=W.map λp=>optS p.2:=by simp_all
 grind
theorem Yzm(h:WOk L s W)(hl:W.length<=120)(d1:AT):∀(n fuel i:Nat) (p:Say×Option Say) (R:BA),i<n->i+2<=fuel->R.length+i<=500->W[i]?=some p->
 ∃b:BA,BackP L s b p.1/\b.length<=i+1/\Ybt (b2 (getC 3) (kD .non) (isN true)) Yfv fuel [↑(wyD W),d1,some (.ow (R.map sayD)),↑(sayD p.1)]=some (.nx [↑(wyD W),d1,some (.ow ((R++b).map sayD)),↑.non]):=by
 intro n
 induction n with
 | zero=>grind
 | succ n ih=>
   intro fuel i p R hi hf hRl hp
   cases fuel with
   | zero=>lia
   | succ fuel=>
     have hcond:∀(x:Say) (R:BA),(b2 (getC 3) (kD .non) (isN true)) [↑(wyD W),d1,some (.ow (R.map sayD)),↑(sayD x)]=some true:=λx R=>rfl;have hend:∀R:BA,(b2 (getC 3) (kD .non) (isN true)) [↑(wyD W),d1,some (.ow (R.map sayD)),↑.non]=some false:=λR=>rfl;have hg:=y65 h.nd hp
     have hstep:Yfv [↑(wyD W),d1,some (.ow (R.map sayD)),↑(sayD p.1)]=some (.nx [↑(wyD W),d1,some (.ow ((R++[p.1]).map sayD)),↑(optS p.2)]):=by
      have happ:appD (R.map sayD) (sayD p.1)=some (R.map sayD++[sayD p.1]):=Yp9 (by grind);rw[wt];generalize wyD W=wd,R.map sayD=RR at *;have hs1:[p.1].map sayD=[sayD p.1]:=rfl;rw[hs1];generalize sayD p.1=dp,optS p.2=op at *;simp[Yfv,happ,hg]
     rw[Ybt,hcond,qd,if_pos rfl,hstep,qd];by_cases h0:i=0
     ·subst h0
      obtain⟨X,e⟩:=h.hd;rw[e]at hp;cases hp;refine⟨[s],.one,by simp,?_⟩
      cases fuel with
      | zero=>lia
      | succ fuel=>
        show Ybt _ _ (fuel+1) [↑(wyD W),d1,some (.ow ((R++[s]).map sayD)),↑.non]=_;rw[Ybt,hend,qd,if_neg qi]
     ·obtain⟨k,q,k1,k2,k3,k4⟩:=h.par i p hp (by lia)
      obtain⟨b,b1,b2',b3⟩:=ih fuel k q (R++[p.1]) (by lia) (by lia) (by simp;lia) k2;refine⟨p.1::b,.cons b1 k4,by simp;lia,?_⟩;rw[k3]
      have e:R++p.1::b=(R++[p.1])++b:=by simp
      rw[e];exact b3
structure Road(L:AZ)(s t:Say)(r:BA):Prop where
 ok:okR L r=true
 fst:at0 r 0=s
 lst:Yvx r=t
 len:r.length<=120
theorem Yq6(h:i<r.length)(x:Say):at0 (r++[x]) i=at0 r i:=by
 unfold at0;grind
def y39(r:BA)(x:Say):at0 (r++[x]) r.length=x:=by
 unfold at0;rw[List.getD_eq_getElem?_getD];simp
theorem y4a(h:BackP L s b t):okR L b.reverse=true/\at0 b.reverse 0=s/\Yvx b.reverse=t:=by
 induction h with
 | one=>
   refine⟨?_,rfl,rfl⟩;unfold okR;simp
 | @cons p q t _ hm ih=>
   obtain⟨h1,h2,h3⟩:=ih;have hpos:=y3m h1;rw[List.reverse_cons];refine⟨?_,by rw[Yq6 hpos];exact h2,?_⟩
   ·unfold okR at h1 ⊢
    rw[Qb,List.all_eq_true]at h1 ⊢;refine⟨by simp,λi hi=>?_⟩;have hi':=qy hi;rw[qx,jc]at hi';unfold stO;by_cases e:i+1<p.reverse.length
    ·have:=h1.2 i (List.mem_range.mpr (by lia))
     unfold stO at this;rw[Yq6 e,Yq6 (by lia)];exact this
    ·have e2:i+1=p.reverse.length:=by lia
     rw[e2,y39,Yq6 (by lia)]
     have:at0 p.reverse i=q:=by
      rw[<-h3];unfold Yvx
      congr 1
      lia
     rw[this];exact wn hm
   ·unfold Yvx
    rw[qx,jc,Nat.add_sub_cancel,y39]
theorem Yjq(h:Ways L s W)(ht:t∈kyW W):∃r:BA,Road L s t r/\Yes [wyD W,sayD t]=some (.tup (r.map sayD)):=by
 obtain⟨p,hp,rfl⟩:=qw ht;obtain⟨i,hi,e⟩:=List.mem_iff_getElem.mp hp;have hl:=Ytw h.nd h.lt;obtain⟨b,b1,b2',b3⟩:=Yzm h.toWOk hl (↑(sayD p.1)) (i+1) 4000 i p [] (by lia) (by lia) (by simp;lia) (by grind);obtain⟨r1,r2,r3⟩:=y4a b1;refine⟨b.reverse,⟨r1,r2,r3,by grind⟩,?_⟩;rw[Yes,y0 (by rfl)];have hst0:Yr 4 [wyD W,sayD p.1]=[↑(wyD W),↑(sayD p.1),none,none]:=rfl;rw[hst0];rw[Qe,List.map_nil]at b3;rw[List.map_reverse];generalize b.map sayD=BB,wyD W=wd,sayD p.1=dp at *;have hrev:revF (getC 2) [↑wd,↑dp,some (.ow BB),↑.non]=some BB.reverse:=rfl;simp[Yw9,b3,hrev]
def sayL(B:AG):BA:=B.flatMap λb=>[(b,false),(b,true)]
theorem mem_sayL{B:AG}:s∈sayL B↔s.1∈B:=by
 unfold sayL;rw[List.mem_flatMap];constructor
 ·grind
 ·intro h
  refine⟨s.1,h,?_⟩;obtain⟨a,b⟩:=s;cases b<;>simp
theorem Yq7(B:AG):(sayL B).length=2*B.length:=by
 induction B with
 | nil=>rfl
 | cons b B ih=>
   have:sayL (b::B)=[(b,false),(b,true)]++sayL B:=rfl;grind
theorem Ycl{B:AG}(hc:Yn c=some (B.map nD))(hB:B.length<=1000):Yap [c]=some (.lst ((sayL B).map sayD)):=by
 obtain⟨ρ',e1,y2,rfl⟩:=Ydg (gt:=gSet 2) (fb:=Yel) nD (λpre ρ=>∃y2:Option M.B,ρ=[↑c,some (.ow ((sayL pre).map sayD)),y2]) B []
  [↑c,some (.ow []),none] ⟨none,rfl⟩ (by
   rintro q b r ρ e ⟨y2,rfl⟩
   have hq:q.length<=1000:=by
    grind
   refine⟨_,[↑c,some (.ow ((sayL (q++[b])).map sayD)),↑(nD b)],rfl,?_,_,rfl⟩
   have hap:(sayL (q++[b])).map sayD=(sayL q).map sayD++[.tup [.int (b:Int),.bl false],.tup [.int (b:Int),.bl true]]:=by
    unfold sayL;rw[List.flatMap_append,wt];rfl
   have hx:=Yq7 q
   have hext:extD ((sayL q).map sayD) (.lst [.tup [.int (b:Int),.bl false],.tup [.int (b:Int),.bl true]])=some ((sayL q).map sayD++[.tup [.int (b:Int),.bl false],.tup [.int (b:Int),.bl true]]):=by
    unfold extD;simp;lia
   rw[hap];generalize (sayL q).map sayD=SQ at *
   simp[Yel,hext])
 rw[Qe]at e1;rw[Yap,y0 (by rfl)];generalize (sayL B).map sayD=SB,B.map nD=BB at *;simp[Yko,Yr,hc,e1]
def wsD(A:BA)(wf:Say->Wy):D:=.dct true (A.map sayD) (A.map λs=>wyD (wf s))
theorem Ye6(hn:A.Nodup)(h:s∈A):getT (wsD A wf) (sayD s)=some (wyD (wf s)):=by
 show(Yhn (A.map sayD)).bind _=_;rw[Yfi,qd,Yjp,qd];obtain⟨i,hi,e⟩:=List.mem_iff_getElem.mp h;have:=Yq5 (W:=A.map λs=>(s,wyD (wf s))) (i:=i) (p:=(s,wyD (wf s))) (by grind) (by grind)
 have e1:((A.map λs=>(s,wyD (wf s))).map (·.1))=A:=by rw[Qd];simp[wu]
 have e2:((A.map λs=>(s,wyD (wf s))).map (·.2))=A.map λs=>wyD (wf s):=by simp_all
 grind
structure WsOk(L:AZ)(A:BA)(wf:Say->Wy):Prop where
 nd:A.Nodup
 all:∀s∈A,Ways L s (wf s)
def Yln(t:Say):hasT false (sayD t) (wyD W)=some (decide (t∈kyW W)):=by
 unfold wyD;rw[Yxr];simp
def y4b(h:WsOk L A wf)(hs:s∈A)(ht:t∈A):Yak [wsD A wf,sayD s,sayD t]=some (.bl (decide (t∈kyW (wf s))&&decide (s∈kyW (wf t)))):=by
 have g1:=Ye6 (wf:=wf) h.nd hs;have g2:=Ye6 (wf:=wf) h.nd ht;have h1:=Yln (W:=wf s) t;have h2:=Yln (W:=wf t) s;rw[Yak,y0 (by rfl)];generalize wsD A wf=ws,wyD (wf s)=w1,wyD (wf t)=w2,sayD s=ds,sayD t=dt at *
 cases hb:decide (t∈kyW (wf s))with
 | true=>
   rw[hb]at h1;simp[Ybz,Yr,g1,g2,h1,h2]
 | false=>
   rw[hb]at h1;simp[Ybz,Yr,g1,h1]
inductive StormP (L:AZ) (K S:AG):D->Prop
 | clash {s:Say}{a b:BA}:Road L s (flS s) a->Road L (flS s) s b->StormP L K S (.tup [.str "clash",.tup (a.map sayD),.tup (b.map sayD)])
 | cross {s t:Say}{a:BA}:s.1∈S->t.1∈S->s≠t->Road L s t a->StormP L K S (.tup [.str "cross",.tup (a.map sayD)])
 | late {s t:Say}{a b:BA}:s.1∈S->t.1∈K->t.1<s.1->Road L s t a->Road L t s b->StormP L K S (.tup [.str "late",.tup (a.map sayD),.tup (b.map sayD)])
theorem Yq8(hAl:A.length<=1000)(h:WsOk L A wf)(hfl:∀s∈A,flS s∈A)(K S:AG):
 (∃d,StormP L K S d/\Ycs [wsD A wf]=some d)\/((∀s∈A,¬(flS s∈kyW (wf s)/\s∈kyW (wf (flS s))))/\Ycs [wsD A wf]=some .non):=by
 have hloop:=Yey (gt:=gSet 1) (fb:=Yca) sayD (λpre ρ=>(∀s∈pre,¬(flS s∈kyW (wf s)/\s∈kyW (wf (flS s))))/\∃y1 y2:Option M.B,ρ=[↑(wsD A wf),y1,y2]) (StormP L K S) A []
  [↑(wsD A wf),none,none] ⟨λs hs=>(nomatch hs),none,none,rfl⟩ (by
   rintro q s r ρ e ⟨hq,y1,y2,rfl⟩;rw[Qe]at e
   have hs:s∈A:=by rw[e];simp
   have hc:=Yhg s;have hl:=y4b h hs (hfl s hs);refine⟨[↑(wsD A wf),↑(sayD s),y2],rfl,?_⟩;by_cases hm:flS s∈kyW (wf s)/\s∈kyW (wf (flS s))
   ·right
    obtain⟨a,ra,ea⟩:=Yjq (h.all s hs) hm.1;obtain⟨b,rb,eb⟩:=Yjq (h.all _ (hfl s hs)) hm.2;refine⟨_,?_,.clash ra rb⟩;have g1:=Ye6 (wf:=wf) h.nd hs;have g2:=Ye6 (wf:=wf) h.nd (hfl s hs);simp only[hm.1,hm.2,decide_true,Bool.and_self]at hl;generalize wsD A wf=ws,wyD (wf s)=w1,wyD (wf (flS s))=w2,a.map sayD=AA,b.map sayD=BB,sayD (flS s)=df,sayD s=ds at *;simp[Yca,hc,hl,g1,g2,ea,eb]
   ·left
    have hl2:(decide (flS s∈kyW (wf s))&&decide (s∈kyW (wf (flS s))))=false:=by
     grind
    rw[hl2]at hl;refine⟨[↑(wsD A wf),↑(sayD s),↑(sayD (flS s))],?_,λt ht=>?_,_,_,rfl⟩
    ·generalize wsD A wf=ws at *
     generalize sayD (flS s)=df,sayD s=ds at *;simp[Yca,hc,hl]
    grind)
 have hk:Yj4 (wsD A wf)=some (A.map sayD):=by
  unfold wsD;rw[Yu3,if_pos (by rw[qf];show A.length<=1000000;lia)]
 rw[Ycs,y0 (by rfl)];rcases hloop with⟨ρ',e1,hq,y1,y2,rfl⟩|⟨d,e1,hd⟩
 ·rw[Qe]at hq
  refine .inr ⟨hq,?_⟩;generalize wsD A wf=ws,A.map sayD=AA at *;simp[Yfy,Yr,hk,e1]
 ·refine .inl ⟨d,hd,?_⟩
  generalize wsD A wf=ws,A.map sayD=AA at *;simp[Yfy,Yr,hk,e1]
theorem Yq9(h:WsOk L A wf)(hSl:S.length<=1000)(hS:∀s∈sayL S,s∈A)(K:AG):
 (∃d,StormP L K S d/\Yct [wsD A wf,.lst (S.map nD)]=some d)\/((∀s∈sayL S,∀t∈sayL S,¬(t≠s/\t∈kyW (wf s)))/\Yct [wsD A wf,.lst (S.map nD)]=some .non):=by
 have hso:=Ycl (c:=.lst (S.map nD)) (B:=S) rfl hSl
 have hloop:=Yey (gt:=gSet 2) (fb:=Ycb) sayD (λpre ρ=>(∀s∈pre,∀t∈sayL S,¬(t≠s/\t∈kyW (wf s)))/\∃y2 y3:Option M.B,ρ=[↑(wsD A wf),↑(.lst (S.map nD)),y2,y3]) (StormP L K S) (sayL S) []
  [↑(wsD A wf),↑(.lst (S.map nD)),none,none] ⟨λs hs=>(nomatch hs),none,none,rfl⟩ (by
   rintro q s r ρ e ⟨hq,y2,y3,rfl⟩;rw[Qe]at e
   have hsS:s∈sayL S:=by rw[e];simp
   have hs:=hS s hsS;have g1:=Ye6 (wf:=wf) h.nd hs;refine⟨[↑(wsD A wf),↑(.lst (S.map nD)),↑(sayD s),y3],rfl,?_⟩
   have hin:=Yey (gt:=gSet 3) (fb:=Ybk) sayD (λpre ρ=>(∀t∈pre,¬(t≠s/\t∈kyW (wf s)))/\∃y3:Option M.B,ρ=[↑(wsD A wf),↑(.lst (S.map nD)),↑(sayD s),y3]) (StormP L K S) (sayL S) []
    [↑(wsD A wf),↑(.lst (S.map nD)),↑(sayD s),y3] ⟨λs hs=>(nomatch hs),y3,rfl⟩ (by
     rintro q' t r' ρ e' ⟨hq',y3',rfl⟩;rw[Qe]at e'
     have htS:t∈sayL S:=by rw[e'];simp
     have hne:=y3l true t s;have hh:=Yln (W:=wf s) t;refine⟨[↑(wsD A wf),↑(.lst (S.map nD)),↑(sayD s),↑(sayD t)],rfl,?_⟩
     have tail:¬(t≠s/\t∈kyW (wf s))->(∀u∈q'++[t],¬(u≠s/\u∈kyW (wf s))):=λhm u hu=>by
      grind
     by_cases hts:t=s
     ·left
      refine⟨[↑(wsD A wf),↑(.lst (S.map nD)),↑(sayD s),↑(sayD t)],?_,tail (λz=>z.1 hts),_,rfl⟩;simp only[hts,decide_true,if_true,Bool.not_true]at hne;rw[hts];generalize wsD A wf=ws,sayD s=ds at *;simp[Ybk,hne]
     ·simp only[hts,decide_false,if_true,Bool.not_false]at hne
      by_cases hm:t∈kyW (wf s)
      ·right
       obtain⟨a,ra,ea⟩:=Yjq (h.all s hs) hm;refine⟨_,?_,.cross (mem_sayL.mp hsS) (mem_sayL.mp htS) (λz=>hts z.symm) ra⟩;simp only[hm,decide_true]at hh;generalize wsD A wf=ws,wyD (wf s)=w1,a.map sayD=AA,sayD s=ds,sayD t=dt at *;simp[Ybk,hne,g1,hh,ea]
      ·left
       refine⟨[↑(wsD A wf),↑(.lst (S.map nD)),↑(sayD s),↑(sayD t)],?_,tail (λz=>hm z.2),_,rfl⟩;simp only[hm,decide_false]at hh;generalize wsD A wf=ws,wyD (wf s)=w1,sayD s=ds,sayD t=dt at *
       simp[Ybk,hne,g1,hh])
   rcases hin with⟨ρ2,e1,hq2,y4,rfl⟩|⟨d,e1,hd⟩
   ·left
    rw[Qe]at hq2;refine⟨[↑(wsD A wf),↑(.lst (S.map nD)),↑(sayD s),y4],?_,λu hu=>?_,_,_,rfl⟩
    ·generalize (sayL S).map sayD=SL at *
     generalize wsD A wf=ws,sayD s=ds,S.map nD=SS at *;simp[Ycb,hso,e1]
    grind
   ·right
    refine⟨d,?_,hd⟩;generalize (sayL S).map sayD=SL,wsD A wf=ws,sayD s=ds,S.map nD=SS at *
    simp[Ycb,hso,e1])
 rw[Yct,y0 (by rfl)];rcases hloop with⟨ρ',e1,hq,y1,y2,rfl⟩|⟨d,e1,hd⟩
 ·rw[Qe]at hq
  refine .inr ⟨hq,?_⟩;generalize wsD A wf=ws,(sayL S).map sayD=AA,S.map nD=SS at *;simp[Yfz,Yr,hso,e1]
 ·refine .inl ⟨d,hd,?_⟩
  generalize wsD A wf=ws,(sayL S).map sayD=AA,S.map nD=SS at *;simp[Yfz,Yr,hso,e1]
def mutW(wf:Say->Wy)(s t:Say):Prop:=t.1<s.1/\t∈kyW (wf s)/\s∈kyW (wf t)
theorem Ytx(h:WsOk L A wf)(hKl:K.length<=1000)(hSl:S.length<=1000)(hK:∀s∈sayL K,s∈A)(hS:∀s∈sayL S,s∈A):
 (∃d,StormP L K S d/\Ydo [wsD A wf,.lst (K.map nD),.lst (S.map nD)]=some d)\/((∀s∈sayL S,∀t∈sayL K,¬mutW wf s t)/\Ydo [wsD A wf,.lst (K.map nD),.lst (S.map nD)]=some .non):=by
 have hso:=Ycl (c:=.lst (S.map nD)) (B:=S) rfl hSl;have hko:=Ycl (c:=.lst (K.map nD)) (B:=K) rfl hKl
 have hloop:=Yey (gt:=gSet 3) (fb:=Ycu) sayD (λpre ρ=>(∀s∈pre,∀t∈sayL K,¬mutW wf s t)/\∃y2 y3:Option M.B,ρ=[↑(wsD A wf),↑(.lst (K.map nD)),↑(.lst (S.map nD)),y2,y3]) (StormP L K S) (sayL S) []
  [↑(wsD A wf),↑(.lst (K.map nD)),↑(.lst (S.map nD)),none,none] ⟨λs hs=>(nomatch hs),none,none,rfl⟩ (by
   rintro q s r ρ e ⟨hq,y2,y3,rfl⟩;rw[Qe]at e
   have hsS:s∈sayL S:=by rw[e];simp
   have hs:=hS s hsS;have g1:=Ye6 (wf:=wf) h.nd hs;refine⟨[↑(wsD A wf),↑(.lst (K.map nD)),↑(.lst (S.map nD)),↑(sayD s),y3],rfl,?_⟩
   have hin:=Yey (gt:=gSet 4) (fb:=Yb0) sayD (λpre ρ=>(∀t∈pre,¬mutW wf s t)/\∃y3:Option M.B,ρ=[↑(wsD A wf),↑(.lst (K.map nD)),↑(.lst (S.map nD)),↑(sayD s),y3]) (StormP L K S) (sayL K) []
    [↑(wsD A wf),↑(.lst (K.map nD)),↑(.lst (S.map nD)),↑(sayD s),y3] ⟨λs hs=>(nomatch hs),y3,rfl⟩ (by
     rintro q' t r' ρ e' ⟨hq',y3',rfl⟩;rw[Qe]at e'
     have htK:t∈sayL K:=by rw[e'];simp
     have ht:=hK t htK;have g2:=Ye6 (wf:=wf) h.nd ht;have hl:=y4b h hs ht;have hsi:Yn (sayD s)=some [.int (s.1:Int),.bl s.2]:=rfl;have hti:Yn (sayD t)=some [.int (t.1:Int),.bl t.2]:=rfl;refine⟨[↑(wsD A wf),↑(.lst (K.map nD)),↑(.lst (S.map nD)),↑(sayD s),↑(sayD t)],rfl,?_⟩
     have tail:¬mutW wf s t->(∀u∈q'++[t],¬mutW wf s u):=λhm u hu=>by
      grind
     by_cases hlt:t.1<s.1
     ·have hltI:(t.1:Int)<(s.1:Int):=by lia
      by_cases hm:t∈kyW (wf s)/\s∈kyW (wf t)
      ·right
       obtain⟨a,ra,ea⟩:=Yjq (h.all s hs) hm.1;obtain⟨b,rb,eb⟩:=Yjq (h.all t ht) hm.2;refine⟨_,?_,.late (mem_sayL.mp hsS) (mem_sayL.mp htK) hlt ra rb⟩;simp only[hm.1,hm.2,decide_true,Bool.and_self]at hl;generalize wsD A wf=ws,wyD (wf s)=w1,wyD (wf t)=w2,a.map sayD=AA,b.map sayD=BB,sayD s=ds,sayD t=dt at *;simp[Yb0,hsi,hti,hlt,hltI,hl,g1,g2,ea,eb]
      ·left
       refine⟨[↑(wsD A wf),↑(.lst (K.map nD)),↑(.lst (S.map nD)),↑(sayD s),↑(sayD t)],?_,tail (λz=>hm z.2),_,rfl⟩
       have hl2:(decide (t∈kyW (wf s))&&decide (s∈kyW (wf t)))=false:=by
        grind
       rw[hl2]at hl;generalize wsD A wf=ws,sayD s=ds,sayD t=dt at *;simp[Yb0,hsi,hti,hlt,hltI,hl]
     ·left
      have hltI:¬(t.1:Int)<(s.1:Int):=by lia
      refine⟨[↑(wsD A wf),↑(.lst (K.map nD)),↑(.lst (S.map nD)),↑(sayD s),↑(sayD t)],?_,tail (λz=>hlt z.1),_,rfl⟩;generalize wsD A wf=ws,sayD s=ds,sayD t=dt at *
      simp[Yb0,hsi,hti,hlt,hltI])
   rcases hin with⟨ρ2,e1,hq2,y4,rfl⟩|⟨d,e1,hd⟩
   ·left
    rw[Qe]at hq2;refine⟨[↑(wsD A wf),↑(.lst (K.map nD)),↑(.lst (S.map nD)),↑(sayD s),y4],?_,λu hu=>?_,_,_,rfl⟩
    ·generalize (sayL K).map sayD=SL at *
     generalize wsD A wf=ws,sayD s=ds,S.map nD=SS,K.map nD=KK at *;simp[Ycu,hko,e1]
    grind
   ·right
    refine⟨d,?_,hd⟩;generalize (sayL K).map sayD=SL,wsD A wf=ws,sayD s=ds,S.map nD=SS,K.map nD=KK at *
    simp[Ycu,hko,e1])
 rw[Ydo,y0 (by rfl)];rcases hloop with⟨ρ',e1,hq,y1,y2,rfl⟩|⟨d,e1,hd⟩
 ·rw[Qe]at hq
  refine .inr ⟨hq,?_⟩;generalize wsD A wf=ws,(sayL S).map sayD=AA,S.map nD=SS,K.map nD=KK at *;simp[Ygv,Yr,hso,e1]
 ·refine .inl ⟨d,hd,?_⟩
  generalize wsD A wf=ws,(sayL S).map sayD=AA,S.map nD=SS,K.map nD=KK at *;simp[Ygv,Yr,hso,e1]
theorem Yafg(l:BA):isV .e (.ei l)=decide (l=[]):=by
 show eqD (.tup (l.map sayD)) (.tup [])=decide (l=[]);rw[y2g]
 cases l with
 | nil=>simp
 | cons a l=>
   simp_all
theorem y66(L:AZ):(L.map Rl.ei).any (isV .e)=decide ([]∈L):=by
 rw[List.any_map]
 cases h:decide ([]∈L)with
 | true=>
   have:=wq h;exact List.any_eq_true.mpr ⟨[],this,by show isV .e (.ei [])=true;rw[Yafg];rfl⟩
 | false=>
   have hn:=of_decide_eq_false h;rw[List.any_eq_false];intro l hl;show ¬isV .e (.ei l)=true;rw[Yafg,wm];grind
def InE(L:AZ)(st n:Nat):Prop:=∀l∈L,Srt (.ei l)/\∀s∈l,st<=s.1/\s.1<n
theorem y4c(h:InE L st n):Yek [bkE L]=some (.bl (decide ([]∈L))):=by
 have hb:=Yvw (k:=.e) (n:=n) (R:=L.map Rl.ei) (λr hr=>by
  obtain⟨l,hl,rfl⟩:=qw hr;refine⟨⟨rfl,λs hs=>((h l hl).2 s hs).2⟩,?_⟩;have:=(h l hl).1.1;show l.length<=999999
  lia)
 rw[y66,Yaa4]at hb;exact hb
theorem Ycm(h:StormP L K S d):∃l,d=.tup l:=by
 cases h
 ·grind
 ·grind
 grind
def y4d(L:AZ)(K S:AG)(d:D):Prop:=StormP L K S d\/([]∈L/\d=.tup [.str "broken"])
theorem Yod(hL:∀l∈L,Yhq l)(hin:InE L st n)(hKl:K.length<=60)(hSl:S.length<=60)(hall:∀x,st<=x->x<n->x∈S\/x∈K)(hA:∀s:Say,s∈A↔s.1∈S\/s.1∈K)(hAl:A.length<=1000)(h:WsOk L A wf):
 (∃d,y4d L K S d/\Ybo [bkE L,wsD A wf,.lst (K.map nD),.lst (S.map nD)]=some d)\/(¬BadE L K S/\Ybo [bkE L,wsD A wf,.lst (K.map nD),.lst (S.map nD)]=some .non):=by
 have hb:=y4c hin;have hK:∀s∈sayL K,s∈A:=λs hs=>(hA s).mpr (.inr (mem_sayL.mp hs));have hS:∀s∈sayL S,s∈A:=λs hs=>(hA s).mpr (.inl (mem_sayL.mp hs));have hfl:∀s∈A,flS s∈A:=λs hs=>(hA _).mpr ((hA s).mp hs);have q1:=Yq8 hAl h hfl K S;have q2:=Yq9 h (S:=S) (by lia) hS K;have q3:=Ytx h (K:=K) (S:=S) (by lia) (by lia) hK hS;rw[Ybo,y0 (by rfl)];by_cases h0:[]∈L
 ·left
  refine⟨_,.inr ⟨h0,rfl⟩,?_⟩;simp only[h0,decide_true]at hb;generalize wsD A wf=ws,bkE L=bk at *;simp[Yam,Yr,hb]
 ·simp only[h0,decide_false]at hb
  have a0:∀(a:D) (l:AR),atI (a::l) 0=some a:=λa l=>by simp_all
  rcases q1 with⟨d1,s1,e1⟩|⟨n1,e1⟩
  ·left
   refine⟨d1,.inl s1,?_⟩;obtain⟨l1,rfl⟩:=Ycm s1;clear s1;rcases q2 with⟨d2,s2,e2⟩|⟨n2,e2⟩
   ·obtain⟨l2,rfl⟩:=Ycm s2
    rcases q3 with⟨d3,s3,e3⟩|⟨n3,e3⟩
    ·obtain⟨l3,rfl⟩:=Ycm s3
     generalize wsD A wf=ws,bkE L=bk at *;simp[Yam,Yr,hb,e1,e2,e3,capR,Ydr,Yag,Yal,a0]
    ·generalize wsD A wf=ws at *
     generalize bkE L=bk at *;simp[Yam,Yr,hb,e1,e2,e3,capR,Ydr,Yag,Yal,a0]
   ·rcases q3 with⟨d3,s3,e3⟩|⟨n3,e3⟩
    ·obtain⟨l3,rfl⟩:=Ycm s3
     generalize wsD A wf=ws,bkE L=bk at *;simp[Yam,Yr,hb,e1,e2,e3,capR,Ydr,Yag,Yal,a0]
    ·generalize wsD A wf=ws at *
     generalize bkE L=bk at *;simp[Yam,Yr,hb,e1,e2,e3,capR,Ydr,Yag,Yal,a0]
  ·rcases q2 with⟨d2,s2,e2⟩|⟨n2,e2⟩
   ·left
    refine⟨d2,.inl s2,?_⟩;obtain⟨l2,rfl⟩:=Ycm s2;rcases q3 with⟨d3,s3,e3⟩|⟨n3,e3⟩
    ·obtain⟨l3,rfl⟩:=Ycm s3
     generalize wsD A wf=ws,bkE L=bk at *;simp[Yam,Yr,hb,e1,e2,e3,capR,Ydr,Yag,Yal,a0]
    ·generalize wsD A wf=ws at *
     generalize bkE L=bk at *;simp[Yam,Yr,hb,e1,e2,e3,capR,Ydr,Yag,Yal,a0]
   ·rcases q3 with⟨d3,s3,e3⟩|⟨n3,e3⟩
    ·left
     refine⟨d3,.inl s3,?_⟩;obtain⟨l3,rfl⟩:=Ycm s3;generalize wsD A wf=ws,bkE L=bk at *;simp[Yam,Yr,hb,e1,e2,e3,capR,Ydr,Yag,Yal,a0]
    ·right
     refine⟨λhbad=>?_,?_⟩
     ·have hr:∀s∈A,∀t,t∈kyW (wf s)↔Rch L s t:=λs hs t=>Ylm hL (h.all s hs)
      cases hbad with
      | broken z=>exact h0 z
      | clash s z1 z2=>
        have hsA:s∈A:=by
         have hne:s≠flS s:=λz=>Yag3 s z.symm
         have:s.1∈S\/s.1∈K:=by
          have key:∀t,Rch L s t->t=s\/∃l∈L,t∈l:=λt ht=>by
           cases ht with
           | refl=>grind
           | step _ e=>
             obtain⟨l,hl,_,h2,_⟩:=e;grind
          rcases key _ z1 with z|⟨l,hl,hm⟩
          ·grind
          ·obtain⟨g1,g2⟩:=(hin l hl).2 _ hm
           exact hall s.1 g1 g2
         grind
        grind
      | cross s t z1 z2 z3 z4=>exact n2 s (mem_sayL.mpr z1) t (mem_sayL.mpr z2) ⟨λz=>z3 z.symm,(hr s ((hA s).mpr (.inl z1)) _).mpr z4⟩
      | late s t z1 z2 z3 z4 z5=>exact n3 s (mem_sayL.mpr z1) t (mem_sayL.mpr z2) ⟨z3,(hr s ((hA s).mpr (.inl z1)) _).mpr z4,(hr t ((hA t).mpr (.inr z2)) _).mpr z5⟩
     ·generalize wsD A wf=ws at *
      generalize bkE L=bk at *;simp[Yam,Yr,hb,e1,e2,e3,capR,Ydr,Yag]
theorem Yxs(i:Int)(y:β)(k:Int):∀{ns:AH}{vs:List β},ns.length=vs.length->i∈ns->Yad ns (setK ns vs i y) k=if k=i then some y else Yad ns vs k
 | [],_,_,h=>(nomatch h)
 | n::ns,[],hl,_=>by simp at hl
 | n::ns,v::vs,hl,h=>by
   rw[setK];by_cases e:n=i
   ·subst e
    rw[if_pos rfl,Yad,Yad];grind
   ·have h':i∈ns:=by
     grind
    rw[if_neg e,Yad,Yad,Yxs i y k (by grind) h'];grind
theorem Yxt(i:Int)(y:β)(k:Int):∀{ns:AH}{vs:List β},ns.length=vs.length->i∉ns->Yad (ns++[i]) (vs++[y]) k=if k=i then some y else Yad ns vs k
 | [],[],_,_=>by
   show Yad [i] [y] k=_;rw[Yad];grind
 | [],_::_,hl,_=>by simp at hl
 | n::ns,[],hl,_=>by simp at hl
 | n::ns,v::vs,hl,h=>by
   rw[List.cons_append,List.cons_append,Yad,Yad,Yxt i y k (by grind) (λz=>h (qg _ z))];grind
def y67(hl:ns.length=vs.length)(i:Int)(y:β)(k:Int):Yad (putG ns vs i y).1 (putG ns vs i y).2 k=if k=i then some y else Yad ns vs k:=by
 unfold putG;by_cases h:i∈ns
 ·rw[if_pos h]
  exact Yxs i y k hl h
 ·rw[if_neg h]
  exact Yxt i y k hl h
def Yk5{β:Type}(k:Int):List (Int×β)->Option β->Option β
 | [],z=>z
 | p::ps,z=>Yk5 k ps (if k=p.1 then some p.2 else z)
theorem Yra(k:Int):∀(ps:List (Int×β)) {ns:AH}{vs:List β},ns.length=vs.length->Yad (dctG ns vs ps).1 (dctG ns vs ps).2 k=Yk5 k ps (Yad ns vs k)
 | [],_,_,_=>rfl
 | p::ps,ns,vs,hl=>by
   rw[dctG,Yra k ps (Ypy hl),y67 hl];rfl
theorem y4e:∀(ps:List (Int×β)) {ns:AH}{vs:List β},ns.Nodup->ns.length=vs.length->(dctG ns vs ps).1.Nodup/\(dctG ns vs ps).1.length=(dctG ns vs ps).2.length
 | [],_,_,h1,h2=>⟨h1,h2⟩
 | p::ps,ns,vs,h1,h2=>by
   rw[dctG];exact y4e ps (Yop h1) (Ypy h2)
theorem Yty(k:Int):∀{ms:AH}{ws:List β}{z:Option β},ms.length=ws.length->ms.Nodup->Yk5 k (ms.zip ws) z=(Yad ms ws k).or z
 | [],[],z,_,_=>by
   show z=(none:Option β).or z;rfl
 | [],_::_,_,hl,_=>by simp at hl
 | _::_,[],_,hl,_=>by simp at hl
 | m::ms,w::ws,z,hl,hn=>by
   rw[List.nodup_cons]at hn;rw[List.zip_cons_cons,Yk5,Yty k (by grind) hn.2,Yad];by_cases e:k=m
   ·subst e
    have hnone:Yad ms ws k=none:=(Yc8 (by grind)).mpr hn.1;grind
   grind
theorem Ytz(k:Int):∀{ps:List (Int×β)}{z:Option β}{y:β},Yk5 k ps z=some y->(k,y)∈ps\/((∀p∈ps,p.1≠k)/\z=some y)
 | [],z,y,h=>.inr ⟨λp hp=>(nomatch hp),h⟩
 | p::ps,z,y,h=>by
   rw[Yk5]at h;rcases Ytz k h with h1|⟨h1,h2⟩
   ·grind
   grind
theorem Ykf(k:Int):∀{ps:List (Int×β)}{z:Option β},(∃p∈ps,p.1=k)\/z.isSome=true->(Yk5 k ps z).isSome=true
 | [],z,h=>by
   rcases h with⟨p,hp,_⟩|h
   ·cases hp
   ·exact h
 | p::ps,z,h=>by
   rw[Yk5];refine Ykf k ?_;grind
theorem Ypd(k:Int):∀{ps:List (Int×β)}{z:Option β},(∀p∈ps,p.1≠k)->Yk5 k ps z=z
 | [],z,_=>rfl
 | p::ps,z,h=>by
   rw[Yk5,if_neg (λe=>h p qh e.symm)];exact Ypd k λq hq=>h q (qg _ hq)
structure Tru(ns:AH)(vs:AJ):Prop where
 nd:ns.Nodup
 len:ns.length=vs.length
def truF(ns:AH)(vs:AJ)(j:Nat):Option Bool:=Yad ns vs (j:Int)
def prs(l:BA):List (Int×Bool):=l.map λs=>((s.1:Int),s.2)
def truU(ns:AH)(vs:AJ)(l:BA):List Int×AJ:=dctG ns vs ((dctG [] [] (prs l)).1.zip (dctG [] [] (prs l)).2)
def y4f(h:Tru ns vs)(l:BA):Tru (truU ns vs l).1 (truU ns vs l).2:=by
 obtain⟨h1,h2⟩:=y4e ((dctG [] [] (prs l)).1.zip (dctG [] [] (prs l)).2) h.nd h.len;exact⟨h1,h2⟩
theorem Yxu(hL:∀l∈L,Yhq l)(hW:Ways L s W)(h:Tru ns vs):updF L s (truF ns vs) (truF (truU ns vs (kyW W)).1 (truU ns vs (kyW W)).2):=λj=>by
 obtain⟨d1,d2⟩:=y4e (prs (kyW W)) (ns:=[]) (vs:=[]) List.nodup_nil rfl
 have hf:∀k:Int,Yad (truU ns vs (kyW W)).1 (truU ns vs (kyW W)).2 k=(Yk5 k (prs (kyW W)) none).or (Yad ns vs k):=λk=>by
  unfold truU;rw[Yra k _ h.len,Yty k d2 d1,Yra k (prs (kyW W)) (ns:=[]) (vs:=[]) rfl];rfl
 have hm:∀v,Rch L s (j,v)↔((j:Int),v)∈prs (kyW W):=λv=>by
  rw[<-Ylm hL hW];constructor
  ·intro hx
   exact List.mem_map.mpr ⟨(j,v),hx,rfl⟩
  ·intro hx
   obtain⟨t,ht,e⟩:=qw hx;grind
 have hno:(∀u,¬Rch L s (j,u))->∀p∈prs (kyW W),p.1≠(j:Int):=λhu p hp e=>by
  grind
 unfold truF;refine⟨λv hv=>?_,λv hv=>?_,λhu=>?_⟩
 ·rw[hf]
  have:=Ykf (j:Int) (ps:=prs (kyW W)) (z:=none) (.inl ⟨_,(hm v).mp hv,rfl⟩);grind
 ·rw[hf]at hv
  cases e:Yk5 (j:Int) (prs (kyW W)) none with
  | some y=>
    rw[e]at hv;have hyv:y=v:=w6 hv;subst hyv;rcases Ytz _ e with w|⟨_,w⟩
    ·grind
    ·cases w
  | none=>
    rw[e]at hv;refine .inr ⟨λu hu=>?_,hv⟩;have:=Ykf (j:Int) (ps:=prs (kyW W)) (z:=none) (.inl ⟨_,(hm u).mp hu,rfl⟩);grind
 ·rw[hf,Ypd _ (hno hu)]
  rfl
theorem y4g(i:Int)(y:Bool):∀(ns:AH) (vs:AJ),setK ns (vs.map D.bl) i (.bl y)=(setK ns vs i y).map D.bl
 | [],vs=>by cases vs<;>simp[setK]
 | n::ns,[]=>by simp[setK]
 | n::ns,v::vs=>by
   rw[Qa,setK,setK];by_cases e:n=i
   ·grind
   ·rw[if_neg e,if_neg e,y4g i y ns vs]
    rfl
theorem Yv4:∀(ps:List (Int×Bool)) (ns:AH) (vs:AJ),dctG ns (vs.map D.bl) (ps.map λp=>(p.1,D.bl p.2))=((dctG ns vs ps).1,(dctG ns vs ps).2.map D.bl)
 | [],ns,vs=>rfl
 | p::ps,ns,vs=>by
   rw[Qa,dctG,dctG]
   have e:putG ns (vs.map D.bl) p.1 (.bl p.2)=((putG ns vs p.1 p.2).1,(putG ns vs p.1 p.2).2.map D.bl):=by
    unfold putG;by_cases h:p.1∈ns
    ·rw[if_pos h,if_pos h,y4g]
    grind
   rw[e];exact Yv4 ps _ _
theorem Yt0:∀l:BA,Ydw (l.map sayD)=some ((prs l).map λp=>(p.1,D.bl p.2))
 | []=>rfl
 | s::l=>by
   rw[Qa];show Ydw (.tup [.int (s.1:Int),.bl s.2]::l.map sayD)=_;rw[Ydw,Yt0 l];rfl
theorem y8d(hl:W.length<=1000)(f:AX)(ρ:Ro)(hf:f ρ=some (.lst ((kyW W).map sayD))):
 dctF f ρ=some (.dct false ((dctG [] [] (prs (kyW W))).1.map D.int) ((dctG [] [] (prs (kyW W))).2.map D.bl)):=by
 have h1:pairsOf (.lst ((kyW W).map sayD))=some ((prs (kyW W)).map λp=>(p.1,D.bl p.2)):=Yt0 (kyW W);have h2:=Yv4 (prs (kyW W)) [] [];rw[List.map_nil]at h2
 have hlen:((prs (kyW W)).map λp=>(p.1,D.bl p.2)).length<1000000:=by simp[prs,kyW];lia
 simp_all
def y68:(kyW W).length=W.length:=by simp[kyW]
theorem Ylo:∀(ps:List (Int×β)) (ns:AH) (vs:List β),(dctG ns vs ps).2.length<=vs.length+ps.length
 | [],_,vs=>by simp[dctG]
 | p::ps,ns,vs=>by
   rw[dctG];have:=Ylo ps (putG ns vs p.1 p.2).1 (putG ns vs p.1 p.2).2
   have h2:(putG ns vs p.1 p.2).2.length<=vs.length+1:=by
    unfold putG
    split
    ·rw[Yed];lia
    ·simp
   grind
theorem y4h(hv:vs.length<=500000)(hl:W.length<=1000):
 updD (ns.map D.int,vs.map D.bl) (.dct false ((dctG [] [] (prs (kyW W))).1.map D.int) ((dctG [] [] (prs (kyW W))).2.map D.bl))=some ((truU ns vs (kyW W)).1.map D.int,(truU ns vs (kyW W)).2.map D.bl):=by
 have hz:=Ylo (prs (kyW W)) [] []
 have hp:(prs (kyW W)).length=W.length:=by simp[prs,kyW]
 show(intsD (ns.map D.int)).bind (λns'=>((intsD ((dctG [] [] (prs (kyW W))).1.map D.int)).bind λms=>if (vs.map D.bl).length+((dctG [] [] (prs (kyW W))).2.map D.bl).length<cap6 then some ((dctG ns' (vs.map D.bl) (ms.zip ((dctG [] [] (prs (kyW W))).2.map D.bl))).1.map D.int,(dctG ns' (vs.map D.bl) (ms.zip ((dctG [] [] (prs (kyW W))).2.map D.bl))).2)else none))=_
 rw[Ygn,qd,Ygn,qd,if_pos (by
  rw[qf,qf];show _<1000000
  grind)]
 have e:(dctG [] [] (prs (kyW W))).1.zip ((dctG [] [] (prs (kyW W))).2.map D.bl)=((dctG [] [] (prs (kyW W))).1.zip (dctG [] [] (prs (kyW W))).2).map λp=>(p.1,D.bl p.2):=by
  rw[List.zip_map_right];rfl
 rw[e,Yv4];rfl
def Yv5(hL:∀l∈L,Yhq l)(nb:¬BadE L K S)(h:WsOk L A wf)(hk:(k,false)∈A)(hk2:(k,true)∈A):
 ∃l:Say,l∈A/\Yafe L k l/\Ybj [.int (k:Int),wsD A wf]=some (sayD l):=by
 have g:=Ye6 (wf:=wf) h.nd hk;have hh:=Yln (W:=wf (k,false)) (k,true);have hc:=Yhg (k,false);have hfk:flS (k,false)=(k,true):=rfl;rw[hfk]at hc;have hr:∀t,t∈kyW (wf (k,false))↔Rch L (k,false) t:=λt=>Ylm hL (h.all _ hk);have hd:D.tup [.int (k:Int),.bl false]=sayD (k,false):=rfl;by_cases hm:(k,true)∈kyW (wf (k,false))
 ·refine⟨(k,true),hk2,⟨rfl,λz=>nb (.clash (k,true) z ((hr _).mp hm))⟩,?_⟩
  simp only[hm,decide_true]at hh;rw[Ybj,y0 (by rfl)];generalize wsD A wf=ws,wyD (wf (k,false))=w1,sayD (k,true)=dt,sayD (k,false)=df at *;simp[Yf0,Yr,hd,hc,g,hh]
 ·refine⟨(k,false),hk,⟨rfl,λz=>hm ((hr _).mpr z)⟩,?_⟩
  simp only[hm,decide_false]at hh;rw[Ybj,y0 (by rfl)];generalize wsD A wf=ws,wyD (wf (k,false))=w1,sayD (k,true)=dt,sayD (k,false)=df at *;simp[Yf0,Yr,hd,hc,g,hh]
theorem Yxv{A:BA}{wf:Say->Wy}(hW:(wf s).length<=1000):Yi2 [wyD (wf s)]=some ((kyW (wf s)).map sayD):=by
 unfold wyD;rw[Yyx,if_pos (by rw[qf,y68];show _<=1000000;lia)]
theorem Yxw(ns:AH)(vs:AJ)(W:Wy)(hl:W.length<=120):(truU ns vs (kyW W)).2.length<=vs.length+120:=by
 unfold truU;have h1:=Ylo ((dctG [] [] (prs (kyW W))).1.zip (dctG [] [] (prs (kyW W))).2) ns vs;have h2:=Ylo (prs (kyW W)) [] []
 have hp:(prs (kyW W)).length=W.length:=by simp[prs,kyW]
 grind
theorem Yrb(hL:∀l∈L,Yhq l)(hKl:K.length<=60)(hSl:S.length<=60)(nb:¬BadE L K S)(hA:∀s:Say,s∈A↔s.1∈S\/s.1∈K)(h:WsOk L A wf):
 ∃(ns:AH) (vs:AJ),Tru ns vs/\Ph2 L K S (truF ns vs)/\(∀k∈K,(truF ns vs k).isSome=true)/\Yd0 [wsD A wf,.lst (K.map nD),.lst (S.map nD)]=some (.dct false (ns.map D.int) (vs.map D.bl)):=by
 have hso:=Ycl (c:=.lst (S.map nD)) (B:=S) rfl (by lia);have hsl:=Yq7 S
 obtain⟨ρ1,e1,ns1,vs1,y4,t1,p1,l1,rfl⟩:=Ydg (gt:=gSet 4) (fb:=Ydt) sayD (λpre ρ=>∃(ns:AH) (vs:AJ) (y4:Option M.B),Tru ns vs/\Ph1 L pre (truF ns vs)/\vs.length<=120*pre.length/\
  ρ=[↑(wsD A wf),↑(.lst (K.map nD)),↑(.lst (S.map nD)),some (.od false (ns.map D.int) (vs.map D.bl)),y4,none]) (sayL S) []
  [↑(wsD A wf),↑(.lst (K.map nD)),↑(.lst (S.map nD)),some (.od false [] []),none,none] ⟨[],[],none,⟨List.nodup_nil,rfl⟩,Yabc L,by simp,rfl⟩ (by
   rintro q s r ρ e ⟨ns,vs,y4,t0,p0,l0,rfl⟩;rw[Qe]at e;have hsA:s∈A:=(hA s).mpr (.inl (mem_sayL.mp (by rw[e];simp)));have hW:=h.all s hsA;have hWl:=Ytw hW.nd hW.lt
   have hq:q.length<=120:=by
    grind
   have g:=Ye6 (wf:=wf) h.nd hsA;have hlk:=Yxv (A:=A) (wf:=wf) (s:=s) (by lia)
   have hdc:=y8d (W:=wf s) (by lia) (lF (cF (Yg (b2 (getC 0) (getC 4) getT) aNil) Yi2)) [↑(wsD A wf),↑(.lst (K.map nD)),↑(.lst (S.map nD)),some (.od false (ns.map D.int) (vs.map D.bl)),↑(sayD s),none] (by
    simp_all)
   have hup:=y4h (W:=wf s) (ns:=ns) (vs:=vs) (by lia) (by lia);refine⟨[↑(wsD A wf),↑(.lst (K.map nD)),↑(.lst (S.map nD)),some (.od false (ns.map D.int) (vs.map D.bl)),↑(sayD s),none],[↑(wsD A wf),↑(.lst (K.map nD)),↑(.lst (S.map nD)),some (.od false ((truU ns vs (kyW (wf s))).1.map D.int) ((truU ns vs (kyW (wf s))).2.map D.bl)),↑(sayD s),none],rfl,?_,_,_,_,y4f t0 _,y62 p0 (Yxu hL hW t0),?_,rfl⟩
   ·have hgo:Yku 3 [↑(wsD A wf),↑(.lst (K.map nD)),↑(.lst (S.map nD)),some (.od false (ns.map D.int) (vs.map D.bl)),↑(sayD s),none]=some (ns.map D.int,vs.map D.bl):=rfl
    rw[Ydt,y2t,hgo,qd,hdc,qd,hup];rfl
   ·have:=Yxw ns vs (wf s) hWl
    grind)
 rw[Qe]at p1 l1;have ph:=y36 (K:=K) nb (T:=sayL S) (λs=>mem_sayL) p1
 obtain⟨ρ2,e2,ns2,vs2,y5,t2,p2,k2,l2,rfl⟩:=Ydg (gt:=gSet 5) (fb:=Ycc) nD (λpre ρ=>∃(ns:AH) (vs:AJ) (y5:Option M.B),Tru ns vs/\Ph2 L K S (truF ns vs)/\(∀k∈pre,(truF ns vs k).isSome=true)/\vs.length<=20000+120*pre.length/\
  ρ=[↑(wsD A wf),↑(.lst (K.map nD)),↑(.lst (S.map nD)),some (.od false (ns.map D.int) (vs.map D.bl)),y4,y5]) K []
  [↑(wsD A wf),↑(.lst (K.map nD)),↑(.lst (S.map nD)),some (.od false (ns1.map D.int) (vs1.map D.bl)),y4,none] ⟨ns1,vs1,none,t1,ph,λk hk=>(nomatch hk),by simp;lia,rfl⟩ (by
   rintro q k r ρ e ⟨ns,vs,y5,t0,p0,k0,l0,rfl⟩;rw[Qe]at e
   have hkK:k∈K:=by rw[e];simp
   have hq:q.length<=60:=by
    grind
   have hhas:hasI true (.int (k:Int)) (.dct false (ns.map D.int) (vs.map D.bl))=some (decide ((k:Int)∈ns)!=true):=by simp_all
   by_cases hm:(k:Int)∈ns
   ·refine⟨_,[↑(wsD A wf),↑(.lst (K.map nD)),↑(.lst (S.map nD)),some (.od false (ns.map D.int) (vs.map D.bl)),y4,↑(nD k)],rfl,?_,ns,vs,_,t0,p0,λj hj=>?_,by simp;lia,rfl⟩
    ·rw[wn hm]at hhas
     generalize wsD A wf=ws,ns.map D.int=NN,vs.map D.bl=VV at *;simp[Ycc,hhas,-Ypx]
    ·rcases qv hj with hj|hj
     ·exact k0 j hj
     ·rw[List.mem_singleton]at hj
      subst hj;unfold truF
      cases z:Yad ns vs (j:Int)with
      | some v=>rfl
      | none=>exact absurd hm ((Yc8 t0.len.symm).mp z)
   ·have hnone:truF ns vs k=none:=(Yc8 t0.len.symm).mpr hm
    obtain⟨l,hlA,hfr,hfs⟩:=Yv5 hL nb h (k:=k) ((hA _).mpr (.inr hkK)) ((hA _).mpr (.inr hkK));have hW:=h.all l hlA;have hWl:=Ytw hW.nd hW.lt;have g:=Ye6 (wf:=wf) h.nd hlA;have hlk:=Yxv (A:=A) (wf:=wf) (s:=l) (by lia)
    have hdc:=y8d (W:=wf l) (by lia) (lF (cF (Yg (b2 (getC 0) (cC (Yg (getV 5) (Yg (getV 0) aNil)) Ybj) getT) aNil) Yi2)) [↑(wsD A wf),↑(.lst (K.map nD)),↑(.lst (S.map nD)),some (.od false (ns.map D.int) (vs.map D.bl)),y4,↑(nD k)] (by
     simp_all)
    have hup:=y4h (W:=wf l) (ns:=ns) (vs:=vs) (by lia) (by lia);obtain⟨s1,s2,s3⟩:=y63 nb p0 hnone hfr (Yxu hL hW t0);refine⟨_,[↑(wsD A wf),↑(.lst (K.map nD)),↑(.lst (S.map nD)),some (.od false ((truU ns vs (kyW (wf l))).1.map D.int) ((truU ns vs (kyW (wf l))).2.map D.bl)),y4,↑(nD k)],rfl,?_,_,_,_,y4f t0 _,s1,λj hj=>?_,?_,rfl⟩
    ·have hgo:Yku 3 [↑(wsD A wf),↑(.lst (K.map nD)),↑(.lst (S.map nD)),some (.od false (ns.map D.int) (vs.map D.bl)),y4,↑(nD k)]=some (ns.map D.int,vs.map D.bl):=rfl
     have hup2:sUpd 3 (dctF (lF (cF (Yg (b2 (getC 0) (cC (Yg (getV 5) (Yg (getV 0) aNil)) Ybj) getT) aNil) Yi2))) [↑(wsD A wf),↑(.lst (K.map nD)),↑(.lst (S.map nD)),some (.od false (ns.map D.int) (vs.map D.bl)),y4,↑(nD k)]=some (.nx [↑(wsD A wf),↑(.lst (K.map nD)),↑(.lst (S.map nD)),some (.od false ((truU ns vs (kyW (wf l))).1.map D.int) ((truU ns vs (kyW (wf l))).2.map D.bl)),y4,↑(nD k)]):=by
      simp_all
     rw[wo hm]at hhas;generalize (truU ns vs (kyW (wf l))).1.map D.int=N2,(truU ns vs (kyW (wf l))).2.map D.bl=V2,wsD A wf=ws,ns.map D.int=NN,vs.map D.bl=VV at *;simp[Ycc,hhas,hup2,-Ypx,-y2t]
    ·grind
    ·have:=Yxw ns vs (wf l) hWl
     grind)
 rw[Qe]at k2;refine⟨ns2,vs2,t2,p2,k2,?_⟩;rw[Yd0,y0 (by rfl)];have h3:Yem [↑(wsD A wf),↑(.lst (K.map nD)),↑(.lst (S.map nD)),some (.od false (ns2.map D.int) (vs2.map D.bl)),y4,y5]=some (.rt (.dct false (ns2.map D.int) (vs2.map D.bl))):=rfl;generalize wsD A wf=ws,ns2.map D.int=N2,vs2.map D.bl=V2,ns1.map D.int=N1,vs1.map D.bl=V1,(sayL S).map sayD=SL,S.map nD=SS,K.map nD=KK at *;simp[Yjb,Yr,hso,e1,e2,h3,-Yem]
theorem Yzn(hL:∀l∈L,Yhq l){K S:AG}(hSl:S.length<=60)(hA:∀s:Say,s∈A↔s.1∈S\/s.1∈K)(h:WsOk L A wf)(ht:Tru ns vs)(hk:k∈K)(hd:(truF ns vs k).isSome=true):
 ∃r:Prw,r.1=k/\((∃s,tied L S k s/\r.2=(some s.1,s.2))\/(loose L S k/\r.2=(none,(truF ns vs k).getD false)))/\Yd6 [.int (k:Int),wsD A wf,.lst (S.map nD),.dct false (ns.map D.int) (vs.map D.bl)]=some (prwD r):=by
 have hso:=Ycl (c:=.lst (S.map nD)) (B:=S) rfl (by lia);have hkA:(k,true)∈A:=(hA _).mpr (.inr hk);have hr:∀s∈A,∀t,t∈kyW (wf s)↔Rch L s t:=λs hs t=>Ylm hL (h.all s hs);have hdt:D.tup [.int (k:Int),.bl true]=sayD (k,true):=rfl
 have hloop:=Yey (gt:=gSet 4) (fb:=Yd1) sayD (λpre ρ=>(∀s∈pre,¬tied L S k s)/\∃y4:Option M.B,ρ=[↑(.int (k:Int)),↑(wsD A wf),↑(.lst (S.map nD)),↑(.dct false (ns.map D.int) (vs.map D.bl)),y4]) (λd=>∃s,tied L S k s/\d=prwD (k,some s.1,s.2)) (sayL S) []
  [↑(.int (k:Int)),↑(wsD A wf),↑(.lst (S.map nD)),↑(.dct false (ns.map D.int) (vs.map D.bl)),none] ⟨λs hs=>(nomatch hs),none,rfl⟩ (by
   rintro q s r ρ e ⟨hq,y4,rfl⟩;rw[Qe]at e;have hsS:s.1∈S:=mem_sayL.mp (by rw[e];simp);have hsA:s∈A:=(hA s).mpr (.inl hsS);have hl:=y4b h hsA hkA;have hsi:Yn (sayD s)=some [.int (s.1:Int),.bl s.2]:=rfl;refine⟨[↑(.int (k:Int)),↑(wsD A wf),↑(.lst (S.map nD)),↑(.dct false (ns.map D.int) (vs.map D.bl)),↑(sayD s)],rfl,?_⟩;by_cases hm:(k,true)∈kyW (wf s)/\s∈kyW (wf (k,true))
   ·right
    refine⟨prwD (k,some s.1,s.2),?_,s,⟨hsS,(hr s hsA _).mp hm.1,(hr _ hkA _).mp hm.2⟩,rfl⟩;have hpd:prwD (k,some s.1,s.2)=.tup [.int (k:Int),.int (s.1:Int),.bl s.2]:=rfl;rw[hpd];simp only[hm.1,hm.2,decide_true,Bool.and_self]at hl;rw[<-hdt]at hl;generalize wsD A wf=ws,sayD s=ds,S.map nD=SS,ns.map D.int=NN,vs.map D.bl=VV at *;simp[Yd1,hl,hsi]
   ·left
    have hl2:(decide ((k,true)∈kyW (wf s))&&decide (s∈kyW (wf (k,true))))=false:=by
     grind
    rw[hl2,<-hdt]at hl;refine⟨[↑(.int (k:Int)),↑(wsD A wf),↑(.lst (S.map nD)),↑(.dct false (ns.map D.int) (vs.map D.bl)),↑(sayD s)],?_,λt ht=>?_,_,rfl⟩
    ·generalize wsD A wf=ws at *
     generalize sayD s=ds,S.map nD=SS,ns.map D.int=NN,vs.map D.bl=VV at *;simp[Yd1,hl]
    ·rcases qv ht with ht|ht
     ·exact hq t ht
     ·rw[List.mem_singleton]at ht
      rw[ht]
      exact λz=>hm ⟨(hr s hsA _).mpr z.2.1,(hr _ hkA _).mpr z.2.2⟩)
 rw[Yd6,y0 (by rfl)];rcases hloop with⟨ρ',e1,hq,y4,rfl⟩|⟨d,e1,s,hs,rfl⟩
 ·rw[Qe]at hq
  refine⟨(k,none,(truF ns vs k).getD false),rfl,.inr ⟨λs hs=>hq s (mem_sayL.mpr hs.1) hs,rfl⟩,?_⟩
  have hget:getI (.dct false (ns.map D.int) (vs.map D.bl)) (.int (k:Int))=some (.bl ((truF ns vs k).getD false)):=by
   rw[Yfo,Ygn,qd]
   have:∀(ns:AH) (vs:AJ),Yad ns (vs.map D.bl) (k:Int)=(Yad ns vs (k:Int)).map D.bl:=λns=>by
    induction ns with
    | nil=>intro vs;cases vs<;>rfl
    | cons n ns ih=>
      intro vs
      cases vs with
      | nil=>rfl
      | cons v vs=>
        rw[Qa,Yad,Yad];grind
   rw[this];unfold truF at hd ⊢
   cases z:Yad ns vs (k:Int)with
   | none=>grind
   | some v=>rfl
  have hpd:prwD (k,none,(truF ns vs k).getD false)=.tup [.int (k:Int),.non,.bl ((truF ns vs k).getD false)]:=rfl;rw[hpd];generalize (truF ns vs k).getD false=tv,wsD A wf=ws,(sayL S).map sayD=SL,S.map nD=SS,ns.map D.int=NN,vs.map D.bl=VV at *;simp[Yj7,Yr,hso,e1,hget,-Yfo]
 ·refine⟨(k,some s.1,s.2),rfl,.inl ⟨s,hs,rfl⟩,?_⟩
  generalize prwD (k,some s.1,s.2)=pd,wsD A wf=ws,(sayL S).map sayD=SL,S.map nD=SS,ns.map D.int=NN,vs.map D.bl=VV at *;simp[Yj7,Yr,hso,e1]
theorem Yv6(h:Srt (.ei l)):Yhq l:=⟨h.1,h.2.imp λ{a b} hab z=>by
 subst z;rcases hab with h|⟨_,h1,h2⟩
 ·lia
 grind⟩
theorem Ype:∀{B:AG},B.Nodup->(sayL B).Nodup
 | [],_=>List.nodup_nil
 | b::B,h=>by
   rw[List.nodup_cons]at h;have e:sayL (b::B)=[(b,false),(b,true)]++sayL B:=rfl;rw[e,List.nodup_append];refine⟨by simp,Ype h.2,λx hx y hy z=>?_⟩;subst z;have hb:=mem_sayL.mp hy;grind
theorem Yt1(wf:Say->Wy):∀A:BA,Ykm (A.map λs=>.tup [sayD s,wyD (wf s)])=some (A.map λs=>(sayD s,wyD (wf s)))
 | []=>rfl
 | s::A=>by
   rw[Qa,Ykm,Yt1 wf A];rfl
def plD(rows:List Prw):AR:=[.str "plan",.tup (rows.map prwD)]
theorem Yk6(hLl:L.length<=100)(hc:Yn c=some (hs.map hdD))(hl:hs.length<=60)(hst:st<=hs.length)(hin:InE L st hs.length):
 (∃d,y4d L (ofH hs st true) (ofH hs st false) d/\Ybl [bkE L,c,.int st]=some (outD true d))\/
 (∃rows,GoodE L (ofH hs st true) (ofH hs st false) rows/\Ybl [bkE L,c,.int st]=some (outD false (.tup (plD rows)))):=by
 have hL:∀l∈L,Yhq l:=λl hm=>Yv6 (hin l hm).1
 have hL60:∀l∈L,∀s∈l,s.1<60:=λl hm s hs=>by have:=((hin l hm).2 s hs).2;lia
 have bw1:=Ybp hs hc (by lia) st hst true;have bw2:=Ybp hs hc (by lia) st hst false;simp only[hdD,if_true,Bool.false_eq_true,if_false]at bw1 bw2;have hKpw:(ofH hs st true).Pairwise (·<·):=List.Pairwise.filter _ List.pairwise_lt_range;have hSpw:(ofH hs st false).Pairwise (·<·):=List.Pairwise.filter _ List.pairwise_lt_range;have hSK:=Ylk (hs:=hs) (st:=st);have hall:∀x,st<=x->x<hs.length->x∈ofH hs st false\/x∈ofH hs st true:=λx h1 h2=>Yq1 h1 h2;have hSl:(ofH hs st false).length<=60:=Qh (List.length_filter_le _ _) (by grind);have hKl:(ofH hs st true).length<=60:=Qh (List.length_filter_le _ _) (by grind);have hS60:∀x∈ofH hs st false,x<60:=λx hx=>Qc (Ypb hx) hl;have hK60:∀x∈ofH hs st true,x<60:=λx hx=>Qc (Ypb hx) hl;generalize ofH hs st false=S,ofH hs st true=K at *;have hin2:∀l∈L,∀s∈l,s.1∈S\/s.1∈K:=λl hm s hs=>hall s.1 ((hin l hm).2 s hs).1 ((hin l hm).2 s hs).2
 have hKSn:(K++S).Nodup:=by
  rw[List.nodup_append];exact⟨hKpw.imp λh=>qm h,hSpw.imp λh=>qm h,λx hx y hy z=>hSK y hy (by grind)⟩
 have hAn:=Ype hKSn
 have hAm:∀s:Say,s∈sayL (K++S)↔s.1∈S\/s.1∈K:=λs=>by
  rw[mem_sayL,List.mem_append];grind
 have hAl:(sayL (K++S)).length<=1000:=by rw[Yq7,qx];lia
 have hw:∀s:Say,∃W:Wy,s.1<60->Ways L s W/\Yda [bkE L,sayD s]=some (wyD W):=λs=>by
  by_cases h60:s.1<60
  ·obtain⟨W,h1,h2⟩:=Yv3 (L:=L) (by lia) hL60 h60
   grind
  ·exact⟨[],λz=>absurd z h60⟩
 obtain⟨wf,hwf⟩:∃wf:Say->Wy,∀s:Say,s.1<60->Ways L s (wf s)/\Yda [bkE L,sayD s]=some (wyD (wf s)):=⟨λs=>Classical.choose (hw s),λs=>Classical.choose_spec (hw s)⟩
 have hA60:∀s∈sayL (K++S),s.1<60:=λs hs=>by
  grind
 have hso:=Ycl (c:=.lst ((K++S).map nD)) (B:=K++S) rfl (by grind);generalize sayL (K++S)=A at *
 have hws:WsOk L A wf:=⟨hAn,λs hs=>(hwf s (hA60 s hs)).1⟩
 have hcat:catD (.lst (K.map nD)) (.lst (S.map nD))=some ((K++S).map nD):=by rw[y2i (by simp;lia),wt]
 have hcm:=Yfu (fe:=Ya1) (r:=[↑(bkE L)]) (enc:=sayD) (λs=>.tup [sayD s,wyD (wf s)]) (l:=A) (λs hs=>by
  have:=(hwf s (hA60 s hs)).2;generalize wyD (wf s)=w1,sayD s=ds,bkE L=bk at *
  simp[Ya1,this])
 have hpt:Yqb (.lst (A.map λs=>.tup [sayD s,wyD (wf s)]))=some (A.map λs=>(sayD s,wyD (wf s))):=Yt1 wf A
 have hk1:(A.map λs=>(sayD s,wyD (wf s))).map (·.1)=A.map sayD:=by simp_all
 have hk2:(A.map λs=>(sayD s,wyD (wf s))).map (·.2)=A.map λs=>wyD (wf s):=by simp_all
 have hkn:(A.map kN).Nodup:=by
  rw[List.Nodup,List.pairwise_map];exact hAn.imp λhab e=>hab (y37 e)
 have hst0:Yr 8 [bkE L,c,.int (st:Int)]=[↑(bkE L),↑c,↑(.int st),none,none,none,none,none]:=rfl;rw[Ybl,y0 (by rfl),hst0]
 have hdct:Yyv 5 (lF (Ybb (b1 (cC (Yg (lF (b2 (getC 3) (getC 4) catD)) aNil) Yap) Yn) [none,some 0] (gSet 0) tY (Ya1))) [↑(bkE L),↑c,↑(.int st),↑(.lst (K.map nD)),↑(.lst (S.map nD)),none,none,none] =
  some (.nx [↑(bkE L),↑c,↑(.int st),↑(.lst (K.map nD)),↑(.lst (S.map nD)),some (.od true (A.map sayD) (A.map λs=>wyD (wf s))),none,none]):=by
  have hcomp:(lF (Ybb (b1 (cC (Yg (lF (b2 (getC 3) (getC 4) catD)) aNil) Yap) Yn) [none,some 0] (gSet 0) tY (Ya1))) [↑(bkE L),↑c,↑(.int st),↑(.lst (K.map nD)),↑(.lst (S.map nD)),none,none,none]=some (.lst (A.map λs=>.tup [sayD s,wyD (wf s)])):=by
   generalize (A.map λs=>D.tup [sayD s,wyD (wf s)])=A2,A.map sayD=A1,(K++S).map nD=KS,K.map nD=KK,S.map nD=SS,bkE L=bk at *;simp[hcat,hso,capR,hcm]
  rw[Yw7,hcomp,qd,hpt,qd,hk1,Yfi,qd,if_pos ⟨by rw[qf];show A.length<1000000;lia,hkn⟩,hk2];rfl
 have pre:Ydu [↑(bkE L),↑c,↑(.int st),none,none,none,none,none]=Ybu [↑(bkE L),↑c,↑(.int st),↑(.lst (K.map nD)),↑(.lst (S.map nD)),some (.od true (A.map sayD) (A.map λs=>wyD (wf s))),none,none]:=by
  generalize (A.map λs=>wyD (wf s))=A2,A.map sayD=A1,K.map nD=KK,S.map nD=SS,bkE L=bk at *;simp[Ydu,bw1,bw2,hdct,-Ybu,-Yw7]
 rw[pre];have hsp:=Yod hL hin hKl hSl hall hAm hAl hws;have hfz:∀y6 y7:Option M.B,frz [5] [↑(bkE L),↑c,↑(.int st),↑(.lst (K.map nD)),↑(.lst (S.map nD)),some (.od true (A.map sayD) (A.map λs=>wyD (wf s))),y6,y7]=[↑(bkE L),↑c,↑(.int st),↑(.lst (K.map nD)),↑(.lst (S.map nD)),↑(wsD A wf),y6,y7]:=λ_ _=>rfl
 have h3:∀d,Ybo [bkE L,wsD A wf,.lst (K.map nD),.lst (S.map nD)]=some d->Ybu [↑(bkE L),↑c,↑(.int st),↑(.lst (K.map nD)),↑(.lst (S.map nD)),some (.od true (A.map sayD) (A.map λs=>wyD (wf s))),none,none]=Yew [↑(bkE L),↑c,↑(.int st),↑(.lst (K.map nD)),↑(.lst (S.map nD)),↑(wsD A wf),↑d,none]:=λd hd=>by
  simp_all
 rcases hsp with⟨d,hd,e⟩|⟨nb,e⟩
 ·refine .inl ⟨d,hd,?_⟩
  rw[h3 d e]
  obtain⟨l,rfl⟩:∃l,d=.tup l:=by
   rcases hd with hd|⟨_,hd⟩
   ·exact Ycm hd
   grind
  generalize wsD A wf=ws at *;simp[outD]
 ·obtain⟨ns,vs,t0,p2,kd,etr⟩:=Yrb hL hKl hSl nb hAm hws
  have hrow:∀k,∃r:Prw,k∈K->r.1=k/\((∃s,tied L S k s/\r.2=(some s.1,s.2))\/(loose L S k/\r.2=(none,(truF ns vs k).getD false)))/\Yd6 [.int (k:Int),wsD A wf,.lst (S.map nD),.dct false (ns.map D.int) (vs.map D.bl)]=some (prwD r):=λk=>by
   by_cases hk:k∈K
   ·obtain⟨r,hr⟩:=Yzn hL hSl hAm hws t0 hk (kd k hk)
    grind
   simp_all
  obtain⟨rf,hrf⟩:∃rf:Nat->Prw,∀k∈K,(rf k).1=k/\((∃s,tied L S k s/\(rf k).2=(some s.1,s.2))\/(loose L S k/\(rf k).2=(none,(truF ns vs k).getD false)))/\Yd6 [.int (k:Int),wsD A wf,.lst (S.map nD),.dct false (ns.map D.int) (vs.map D.bl)]=some (prwD (rf k)):=⟨λk=>Classical.choose (hrow k),λk=>Classical.choose_spec (hrow k)⟩
  refine .inr ⟨K.map rf,y34 hL hin2 hSK nb (τ:=λk=>(truF ns vs k).getD false) ⟨?_,λr hr=>?_⟩ (Yag4 p2 kd),?_⟩
  ·rw[Qd]
   exact(Qj λk hk=>(hrf k hk).1).trans (List.map_id K)
  ·obtain⟨k,hk,rfl⟩:=qw hr
   obtain⟨g1,g2,_⟩:=hrf k hk;rw[g1];exact g2
  ·rw[h3 .non e]
   have hc1:=Yfu (fe:=Ych) (r:=[↑(wsD A wf),↑(.lst (S.map nD)),↑(.dct false (ns.map D.int) (vs.map D.bl))]) (enc:=nD) (λk=>prwD (rf k)) (l:=K) (λk hk=>by
    have:=(hrf k hk).2.2;generalize wsD A wf=ws,prwD (rf k)=pr,S.map nD=SS,ns.map D.int=NN,vs.map D.bl=VV at *
    simp[Ych,this])
   have e5:(K.map λk=>prwD (rf k))=(K.map rf).map prwD:=by simp
   rw[e5]at hc1;unfold plD;generalize (K.map rf).map prwD=RW,wsD A wf=ws,S.map nD=SS,K.map nD=KK,ns.map D.int=NN,vs.map D.bl=VV,bkE L=bk at *;simp[etr,capR,hc1,outD]
theorem Yjr(hL:∀l∈L,Yhq l)(h:Road L s t r):Rch L s t:=by
 have hp:=y3m h.ok
 have hall:∀i,i+1<r.length->at0 r (i+1)∈ledL L (at0 r i):=λi hi=>by
  have g:=h.ok;unfold okR at g;rw[Qb,List.all_eq_true]at g;exact wq (g.2 i (List.mem_range.mpr (by lia)))
 have key:∀i,i<r.length->Rch L s (at0 r i):=λi=>by
  induction i with
  | zero=>
    intro _;rw[h.fst];exact .refl
  | succ i ih=>
    intro hi;exact .step (ih (by lia)) ((y38 hL).mp (hall i hi))
 have g:=key (r.length-1) (by lia);have e:=h.lst;unfold Yvx at e;grind
def Yzo(hL:∀l∈L,Yhq l)(h:y4d L K S d):BadE L K S:=by
 rcases h with h|⟨h,_⟩
 ·cases h with
  | clash h1 h2=>exact .clash _ (Yjr hL h1) (Yjr hL h2)
  | cross h1 h2 h3 h4=>exact .cross _ _ h1 h2 h3 (Yjr hL h4)
  | late h1 h2 h3 h4 h5=>exact .late _ _ h1 h2 h3 (Yjr hL h4) (Yjr hL h5)
 ·exact .broken h
def toE:Rl->BA
 | .ei l=>l
 | _=>[]
def toS:Rl->Sm
 | .su b o=>(λx=>decide (x∈b),o)
 | _=>(λ_=>false,false)
def toI:Rl->IfR
 | .im b h=>(b,h)
 | _=>([],none)
def Dr(k:Kd)(st n:Nat)(r:Rl):Prop:=In k n r/\Srt r/\∀x∈bcs r,st<=x
def Val:Kd->List Rl->AG->AG->Bool->Prop
 | .e,R,K,S,true=>BadE (R.map toE) K S
 | .e,R,K,S,false=>∃rows,GoodE (R.map toE) K S rows
 | .s,R,_,S,true=>∃W,BadW (R.map toS) S W
 | .s,R,K,S,false=>∃rows,GoodW (R.map toS) K S rows
 | _,R,K,S,true=>∃b is js,Yzg (R.map toI) K S b is js=true
 | _,R,K,S,false=>∃f rows,GoodI (R.map toI) K S f rows
def mv(a x:Nat):Nat:=if x=a then a+1 else if x=a+1 then a else x
def ms(a:Nat)(s:Say):Say:=(mv a s.1,s.2)
theorem Yf9(a x:Nat):mv a (mv a x)=x:=by unfold mv;grind
theorem Yafh(hy:y≠a)(hb:b≠a+1)(h:y<b):mv a y<mv a b:=by unfold mv;grind
theorem Yrc(ha:a+1<n)(h:x<n):mv a x<n:=by unfold mv;grind
def Yrd(a:Nat)(s:Say):ms a (ms a s)=s:=by
 unfold ms;rw[Yf9]
def y69(a:Nat)(s:Say):ms a (flS s)=flS (ms a s):=rfl
def Ch(a:Nat):Rl->Rl->Prop
 | .ei l,.ei l'=>(∀s,s∈l'↔ms a s∈l)/\l'.length=l.length
 | .su b o,.su b' o'=>o'=o/\∀x,x∈b'↔mv a x∈b
 | .im b h,.im b' h'=>(∀x,x∈b'↔mv a x∈b)/\h'=h.map (mv a)
 | _,_=>False
inductive Two (P:Rl->Rl->Prop):List Rl->List Rl->Prop
 | nil:Two P [] []
 | cons {r r':Rl}{R R':List Rl}:P r r'->Two P R R'->Two P (r::R) (r'::R')
theorem Two.len(h:Two P R R'):R'.length=R.length:=by
 induction h with
 | nil=>rfl
 | cons _ _ ih=>simp[ih]
theorem Two.mem(h:Two P R R'):∀r'∈R',∃r∈R,P r r':=by
 induction h with
 | nil=>grind
 | @cons r r' R R' p _ ih=>
   grind
theorem Two.get(h:Two P R R'):∀i,i<R.length->∃r r',R[i]?=some r/\R'[i]?=some r'/\P r r':=by
 induction h with
 | nil=>grind
 | @cons r r' R R' p _ ih=>
   grind
section
variable {a:Nat}{R R':List Rl}{K S K' S':AG} (h:Two (Ch a) R R') (hS:∀x,x∈S'↔mv a x∈S) (hK:∀x,x∈K'↔mv a x∈K) (haS:a∈S') (haK:a+1∈K') (hSK:∀x∈S,x∉K) (hSK':∀x∈S',x∉K')
include h in
def Yag5{s t:Say}(e:ed (R'.map toE) s t)(hk:∀r∈R',∃l,r=.ei l):ed (R.map toE) (ms a s) (ms a t):=by
 obtain⟨l',hl',h1,h2,h3⟩:=e;obtain⟨r',hr',rfl⟩:=qw hl';obtain⟨r,hr,hc⟩:=h.mem r' hr';obtain⟨l',rfl⟩:=hk r' hr'
 cases r with
 | ei l=>
   obtain⟨c1,c2⟩:=hc;refine⟨l,List.mem_map.mpr ⟨_,hr,rfl⟩,?_,(c1 t).mp h2,λe=>?_⟩
   ·rw[<-y69]
    exact(c1 _).mp h1
   ·have:t=flS s:=by
     have:=congrArg (ms a) e;rw[Yrd,<-y69,Yrd]at this;exact this
    rw[<-c2];exact h3 this
 | su b o=>exact hc.elim
 | im b o=>exact hc.elim
include h in
theorem Yt2(hk:∀r∈R',∃l,r=.ei l){s t:Say}(e:Rch (R'.map toE) s t):Rch (R.map toE) (ms a s) (ms a t):=by
 induction e with
 | refl=>exact .refl
 | step _ e ih=>exact .step ih (Yag5 h e hk)
include h hS hK haS haK hSK' in
theorem Yabe(hk:∀r∈R',∃l,r=.ei l)(b:BadE (R'.map toE) K' S'):BadE (R.map toE) K S:=by
 cases b with
 | broken q=>
   obtain⟨r',hr',e⟩:=qw q;obtain⟨r,hr,hc⟩:=h.mem r' hr';obtain⟨l',rfl⟩:=hk r' hr'
   cases r with
   | ei l=>
     have e:l'=[]:=e;have:l=[]:=List.length_eq_zero_iff.mp (by rw[<-hc.2,e];rfl);exact .broken (List.mem_map.mpr ⟨_,hr,this⟩)
   | su b o=>exact hc.elim
   | im b o=>exact hc.elim
 | clash s h1 h2=>exact .clash (ms a s) (by have:=Yt2 h hk h1;rw[y69]at this;exact this) (by have:=Yt2 h hk h2;rw[y69]at this;exact this)
 | cross s t h1 h2 h3 h4=>exact .cross (ms a s) (ms a t) ((hS _).mp h1) ((hS _).mp h2) (λe=>h3 (by have:=congrArg (ms a) e;rw[Yrd,Yrd]at this;exact this)) (Yt2 h hk h4)
 | late s t h1 h2 h3 h4 h5=>exact .late (ms a s) (ms a t) ((hS _).mp h1) ((hK _).mp h2) (Yafh (λe=>hSK' _ haS (by grind)) (λe=>hSK' _ h1 (by grind)) h3) (Yt2 h hk h4) (Yt2 h hk h5)
end
theorem mem_fl:x∈fl 60 P↔x<60/\P x=true:=by grind
section
variable {a:Nat}{R R':List Rl}{K S K' S':AG} (h:Two (Ch a) R R') (hS:∀x,x∈S'↔mv a x∈S) (hK:∀x,x∈K'↔mv a x∈K) (haS:a∈S') (haK:a+1∈K') (hSK:∀x∈S,x∉K) (hSK':∀x∈S',x∉K')
include h in
theorem Yafi(hk:∀r∈R',∃b o,r=.su b o){p:Nat}(hp:p<R.length):(∀x,(rg (R'.map toS) p).1 x=(rg (R.map toS) p).1 (mv a x))/\(rg (R'.map toS) p).2=(rg (R.map toS) p).2:=by
 obtain⟨r,r',h1,h2,hc⟩:=h.get p hp;obtain⟨b',o',rfl⟩:=hk r' (List.mem_of_getElem? h2)
 have e1:rg (R.map toS) p=toS r:=by
  unfold rg;grind
 have e2:rg (R'.map toS) p=toS (.su b' o'):=by
  unfold rg;grind
 rw[e1,e2]
 cases r with
 | su b o=>
   refine⟨λx=>?_,hc.1⟩;show decide (x∈b')=decide (mv a x∈b);exact decide_eq_decide.mpr (hc.2 x)
 | ei l=>exact hc.elim
 | im b o=>exact hc.elim
include h in
theorem Yafj(ha:a+1<60)(hk:∀r∈R',∃b o,r=.su b o):∀ps:AG,(∀p∈ps,p<R.length)->(∀x,x<60->oddP (R'.map toS) ps x=oddP (R.map toS) ps (mv a x))/\oddO (R'.map toS) ps=oddO (R.map toS) ps:=λps hp=>by
 constructor
 ·intro x hx
  unfold oddP
  congr 1
  refine List.filter_congr λp hpp=>?_;have:=(Yafi h hk (hp p hpp)).1 x;have h2:=Yrc ha hx;grind
 ·unfold oddO
  have:∀(ps:AG) (o:Bool),(∀p∈ps,p<R.length)->ps.foldl (λo p=>o != (rg (R'.map toS) p).2) o=ps.foldl (λo p=>o != (rg (R.map toS) p).2) o:=λps=>by
   induction ps with
   | nil=>grind
   | cons p ps ih=>
     intro o hp;rw[List.foldl_cons,List.foldl_cons,(Yafi h hk (hp p (.head _))).2];grind
  grind
include h hS haS haK hSK' in
theorem Yabf(ha:a+1<60)(hk:∀r∈R',∃b o,r=.su b o){W:AK}(b:BadW (R'.map toS) S' W):BadW (R.map toS) S W:=by
 obtain⟨b1,b2⟩:=b
 have hl:∀p,W p=true->p<R.length:=λp hp=>by
  have:=b1 p hp;rw[qf,h.len]at this;exact this
 have hp:∀p∈fl 60 W,p<R.length:=λp hp=>hl p (mem_fl.mp hp).2;obtain⟨o1,o2⟩:=Yafj h ha hk (fl 60 W) hp
 have hT:∀x,x<60->tP (R'.map toS) W x=tP (R.map toS) W (mv a x):=λx hx=>by
  unfold tP;rw[o1 x hx]
 refine⟨λp hp=>by grind,?_⟩;rw[o2]at b2;rcases b2 with⟨b2,b3⟩|⟨l,hlS,b2,b3,b4⟩
 ·refine .inl ⟨fl_nil.mpr λx hx=>?_,b3⟩
  have:=fl_nil.mp b2 (mv a x) (Yrc ha hx);rw[hT _ (Yrc ha hx),Yf9]at this;exact this
 ·refine .inr ⟨mv a l,(hS l).mp hlS,Yrc ha b2,by grind,λy hy hTy=>?_⟩
  have h1:=b4 (mv a y) (Yrc ha hy) (by rw[hT _ (Yrc ha hy),Yf9];exact hTy);have hne:l≠a+1:=λe=>hSK' _ hlS (by grind);unfold mv at h1 ⊢;grind
theorem Yag6(hc:Ch a r r')(hk:∃b o,r'=.im b o)(h:Hl A (toI r)):Hl (A.map (mv a)) (toI r'):=by
 obtain⟨b',o',rfl⟩:=hk
 cases r with
 | im b o=>
   intro hb;have hb:∀x∈b',x∈A.map (mv a):=hb
   obtain⟨y,e,hy⟩:=h λx hx=>by
    have hx:x∈b:=hx;have:=hb (mv a x) ((hc.1 _).mpr (by rw[Yf9];exact hx));obtain⟨z,hz,e⟩:=qw this
    have:z=x:=by rw[<-Yf9 a z,e,Yf9]
    grind
   have e:o=some y:=e;refine⟨mv a y,?_,List.mem_map_of_mem hy⟩;show o'=_;rw[hc.2,e];rfl
 | ei l=>exact hc.elim
 | su b o=>exact hc.elim
include h hS hK haS haK hSK hSK' in
theorem y4i{first:AG}{rows:List Rrw}(g:GoodI (R.map toI) K S first rows)(hk:∀r∈R',∃b o,r=.im b o){b:AN}{is js:AH}(hb:Yzg (R'.map toI) K' S' b is js=true):False:=by
 have hmod:∀A:AG,(∀q∈R.map toI,Hl A q)->∀q∈R'.map toI,Hl (A.map (mv a)) q:=λA hA q hq=>by
  obtain⟨r',hr',rfl⟩:=qw hq;obtain⟨r,hr,hc⟩:=h.mem r' hr';exact Yag6 hc (hk r' hr') (hA _ (List.mem_map_of_mem hr))
 have him:∀{A:AG}{x:Nat},mv a x∈A->x∈A.map (mv a):=λ{A x} hx=>List.mem_map.mpr ⟨mv a x,hx,Yf9 a x⟩
 have hmi:∀{A:AG}{x:Nat},x∈A.map (mv a)->mv a x∈A:=λ{A x} hx=>by
  obtain⟨z,hz,e⟩:=qw hx;rw[<-e,Yf9];exact hz
 unfold Yzg at hb;rw[Qb]at hb;obtain⟨h1,h2⟩:=hb;have h0:=hmod _ g.h0;unfold y6s at h2;simp only[Qb,wm,Bool.or_eq_true]at h2;obtain⟨_,p1,p2,p3,p4⟩:=h2
 cases b with
 | none=>
   have hfs:∀x∈wob none S'++foB (R'.map toI) K' none is,x∈(S++first).map (mv a):=λx hx=>by
    rcases qv hx with q|q
    ·exact him (List.mem_append.mpr (.inl ((hS x).mp (qz q).1)))
    ·cases q
   obtain⟨y,e,hy⟩:=h0 _ (Ynk p1) (Ytq p3 (Yq3 h0 p2 hfs));grind
 | some x=>
   have h1':(decide (x∈S')&&derB (R'.map toI) S' is)=true:=h1;rw[Qb,wm]at h1';obtain⟨hxS',hder⟩:=h1';have hxS:=(hS x).mp hxS';have hlit:=Yq3 h0 hder (λy hy=>him (List.mem_append.mpr (.inl ((hS y).mp hy))));have hx':=hxS;rw[<-g.rs]at hx';obtain⟨r,hr,e⟩:=qw hx';obtain⟨_,rk,re⟩:=g.rK r hr;have hb:=hmod _ (g.hb r hr)
   have hfs:∀z∈wob (some x) S'++foB (R'.map toI) K' (some x) is,z∈((S.filter λy=>!decide (y=r.1))++r.2).map (mv a):=λz hz=>by
    rcases qv hz with q|q
    ·obtain⟨q1,q2⟩:=qz q
     refine him (List.mem_append.mpr (.inl (List.mem_filter.mpr ⟨(hS z).mp q1,?_⟩)))
     have hne:¬z=x:=by grind
     have:¬mv a z=r.1:=λw=>hne (by rw[e]at w;rw[<-Yf9 a z,w,Yf9]);simp[this]
    ·have q':z∈K'.filter λy=>decide (y<x)&&decide (y∈hdsR (R'.map toI) is):=q
     obtain⟨q1,q2⟩:=qz q';rw[Qb,wm,wm]at q2;have hzK:=(hK z).mp q1
     have hz1:mv a z∈first:=by
      rcases qv (hmi (hlit z (List.mem_append.mpr (.inr q2.2))))with w|w
      ·grind
      ·exact w
     have hlt:mv a z<r.1:=by
      rw[e];exact Yafh (λw=>hSK' _ haS (by grind)) (λw=>hSK' _ hxS' (by grind)) q2.1
     have hz2:mv a z∈first.filter λy=>decide (y<r.1):=List.mem_filter.mpr ⟨hz1,wn hlt⟩
     grind
   obtain⟨y,e',hy⟩:=hb _ (Ynk p1) (Ytq p3 (Yq3 hb p2 hfs));grind
end
theorem Yafk(ha:a+1<60)(h:Two (Ch a) R R')(hS:∀x,x∈S'↔mv a x∈S)(hK:∀x,x∈K'↔mv a x∈K)(haS:a∈S')(haK:a+1∈K')(hSK:∀x∈S,x∉K)(hSK':∀x∈S',x∉K')(hs:∀r∈R,Srt r)(hi:∀r∈R',In k n r)(hi':∀r∈R,In k n r)(g:Val k R K S false)(b:Val k R' K' S' true):False:=by
 have hI:(k=.i\/k=.n)->∀r∈R',∃b o,r=.im b o:=λhk r hr=>by
  have:=hi r hr
  cases r with
  | im b o=>grind
  | ei l=>rcases hk with rfl|rfl<;>cases this.1
  | su b o=>rcases hk with rfl|rfl<;>cases this.1
 cases k with
 | e=>
   obtain⟨rows,g⟩:=g;refine Yafd (λl hl=>?_) hSK g (Yabe h hS hK haS haK hSK' (λr hr=>?_) b)
   ·obtain⟨r,hr,rfl⟩:=qw hl
    have:=hi' r hr
    cases r with
    | ei l=>exact Yv6 (hs _ hr)
    | su b o=>cases this.1
    | im b o=>rcases this.1 with z|z<;>cases z
   ·have:=hi r hr
    cases r with
    | ei l=>grind
    | su b o=>cases this.1
    | im b o=>rcases this.1 with z|z<;>cases z
 | s=>
   obtain⟨rows,g⟩:=g;obtain⟨W,b⟩:=b
   obtain⟨b1,b2⟩:=Yabf h hS haS haK hSK' ha (λr hr=>by
    have:=hi r hr
    cases r with
    | su b o=>grind
    | ei l=>cases this.1
    | im b o=>rcases this.1 with z|z<;>cases z) b
   have hp:∀p∈fl 60 W,kp rows (rg (R.map toS) p).1 (rg (R.map toS) p).2:=λp hp=>g.kept p (b1 p (mem_fl.mp hp).2);exact never g.ks (λr hr y hy=>((g.row r hr).2.2 y hy).2) hSK (Yae7 hp) b2
 | i=>
   obtain⟨f,rows,g⟩:=g;obtain⟨b,is,js,hb⟩:=b;exact y4i h hS hK haS haK hSK hSK' g (hI (.inl rfl)) hb
 | n=>
   obtain⟨f,rows,g⟩:=g;obtain⟨b,is,js,hb⟩:=b;exact y4i h hS hK haS haK hSK hSK' g (hI (.inr rfl)) hb
theorem dr_e(h:∀r∈R,Dr .e st n r):InE (R.map toE) st n/\Yds .e R=bkE (R.map toE):=by
 have hk:∀r∈R,r=.ei (toE r):=λr hr=>by
  cases r with
  | ei l=>rfl
  | su b o=>cases (h _ hr).1.1
  | im b o=>rcases(h _ hr).1.1 with z|z<;>cases z
 refine⟨λl hl=>?_,?_⟩
 ·obtain⟨r,hr,rfl⟩:=qw hl
  obtain⟨g1,g2,g3⟩:=h r hr;rw[hk r hr]at g1 g2 g3;exact⟨g2,λs hs=>⟨g3 s.1 (List.mem_map.mpr ⟨s,hs,rfl⟩),g1.2 s hs⟩⟩
 ·show D.tup [kdD .e,.tup (R.map rlD)]=.tup [kdD .e,.tup ((R.map toE).map eiD)]
  rw[Qd,Qj λr hr=>show rlD r=(eiD ∘ toE) r by
   grind]
theorem dr_s(hn:n<=60)(h:∀r∈R,Dr .s st n r):InB (R.map toS) st n/\Yds .s R=bkS (R.map toS):=by
 refine⟨λq hq=>?_,?_⟩
 ·obtain⟨r,hr,rfl⟩:=qw hq
  obtain⟨g1,g2,g3⟩:=h r hr
  cases r with
  | ei l=>cases g1.1
  | im b o=>rcases g1.1 with z|z<;>cases z
  | su b o=>
    intro x _ hx;have hxb:x∈b:=wq hx;exact⟨g3 x hxb,g1.2 x hxb⟩
 ·show D.tup [kdD .s,.tup (R.map rlD)]=.tup [kdD .s,.tup ((R.map toS).map smD)]
  rw[Qd,Qj λr hr=>show rlD r=(smD ∘ toS) r by
   obtain⟨g1,g2,g3⟩:=h r hr
   cases r with
   | ei l=>cases g1.1
   | im b o=>rcases g1.1 with z|z<;>cases z
   | su b o=>exact Yaex (l:=b) g2 (λx hx=>by have:=g1.2 x hx;lia) o]
def dr_i(hk:k=.i\/k=.n){R:List Rl}(h:∀r∈R,Dr k st n r):InF (R.map toI) st n/\R.map rlD=(R.map toI).map ifD/\R.map exR=R:=by
 have hr:∀r∈R,r=.im (toI r).1 (toI r).2:=λr hr=>by
  cases r with
  | ei l=>rcases hk with rfl|rfl<;>cases (h _ hr).1.1
  | su b o=>rcases hk with rfl|rfl<;>cases (h _ hr).1.1
  | im b o=>rfl
 refine⟨λq hq=>?_,?_,?_⟩
 ·obtain⟨r,hm,rfl⟩:=qw hq
  obtain⟨g1,g2,g3⟩:=h r hm;rw[hr r hm]at g1 g2 g3;generalize toI r=q at *;obtain⟨b,o⟩:=q;refine⟨g2,λx hx=>⟨g3 x ?_,g1.2.1 x hx⟩,λx hx=>⟨g3 x ?_,g1.2.2 x hx⟩⟩
  ·cases o with
   | none=>exact hx
   | some y=>exact List.mem_append.mpr (.inl hx)
  ·have hx':o=some x:=hx
   subst hx';exact List.mem_append.mpr (.inr (by simp))
 ·rw[Qd,Qj λr hm=>show rlD r=(ifD ∘ toI) r by
   conv=>lhs;rw[hr r hm]
   rfl]
 ·conv=>rhs;rw[<-List.map_id R]
  exact Qj λr hm=>by
   rw[hr r hm];rfl
theorem Yafl(hc:Yn c=some (hs.map hdD))(hl:hs.length<=60)(hst:st<=hs.length)(hRl:R.length<=60)(h:∀r∈R,Dr k st hs.length r):
 ∃(w:Bool) (pp:D),Yg0 [Yds k R,c,.int st]=some (outD w pp)/\Val k R (ofH hs st true) (ofH hs st false) w:=by
 have hif:(k=.i\/k=.n)->∃(w:Bool) (pp:D),Yb2 [Yds .i R,c,.int st]=some (outD w pp)/\Val .i R (ofH hs st true) (ofH hs st false) w:=λhk=>by
  obtain⟨h1,h2,_⟩:=dr_i hk h
  have e:Yds .i R=Yao (R.map toI):=by
   show D.tup [kdD .i,.tup (R.map rlD)]=_;rw[h2];rfl
  rw[e];rcases Ytu hc hl hst h1 with⟨b,is,js,g,z⟩|⟨f,rows,g,z⟩
  ·exact⟨true,_,z,b,is,js,g.1⟩
  ·exact⟨false,_,z,f,rows,g⟩
 rw[Yg0,y0 (by rfl)];have hst3:Yr 3 [Yds k R,c,.int st]=[↑(Yds k R),↑c,↑(.int st)]:=rfl;have hbi:Yn (Yds k R)=some [kdD k,.tup (R.map rlD)]:=rfl;rw[hst3]
 cases k with
 | e=>
   obtain⟨h1,h2⟩:=dr_e h;have hL:∀l∈R.map toE,Yhq l:=λl hm=>Yv6 (h1 l hm).1;have ho:=Yk6 (L:=R.map toE) (by grind) hc hl hst h1;rw[<-h2]at ho;rcases ho with⟨d,g,z⟩|⟨rows,g,z⟩
   ·refine⟨true,d,?_,Yzo hL g⟩
    generalize Yds .e R=bk at *;simp[Yen,hbi,z]
   ·refine⟨false,.tup (plD rows),?_,rows,g⟩
    generalize Yds .e R=bk at *;simp[Yen,hbi,z]
 | s=>
   obtain⟨h1,h2⟩:=dr_s hl h;have ho:=Yq2 (R:=R.map toS) (by grind) hc hl hst h1;rw[<-h2]at ho;rcases ho with⟨W,g,z⟩|⟨rows,g,z⟩
   ·refine⟨true,.tup [.str "odd",.tup ((fl 60 W).map nD)],?_,W,g⟩
    generalize Yds .s R=bk at *;simp[Yen,hbi,z]
   ·refine⟨false,.tup [.str "sums",.tup (rows.map srwD)],?_,rows,g⟩
    generalize Yds .s R=bk at *;simp[Yen,hbi,z]
 | i=>
   obtain⟨w,pp,z,g⟩:=hif (.inl rfl);refine⟨w,pp,?_,g⟩;generalize Yds .i R=bk at *;simp[Yen,hbi,z]
 | n=>
   obtain⟨w,pp,z,g⟩:=hif (.inr rfl)
   have hx:=Yvr (k:=.n) (n:=hs.length) (R:=R) λr hr=>⟨(h r hr).1,(h r hr).2.1⟩
   rw[(dr_i (.inr rfl) h).2.2]at hx;have hx:Yeh [Yds .n R]=some (Yds .i R):=hx;refine⟨w,pp,?_,by cases w<;>exact g⟩;generalize Yds .n R=bk,Yds .i R=bk' at *;simp[Yen,hbi,hx,z]
theorem y8e(hd:tupC [d]=some (.tup (R.map rlD)))(hc:Yn c=some (hs.map hdD))(hl:hs.length<=60)(hRl:R.length<=60)(h:∀r∈R,Dr k 0 hs.length r):
 ∃w:Bool,Yd8 [kdD k,d,c]=some (hdD (!w))/\Val k R (ofH hs 0 true) (ofH hs 0 false) w:=by
 obtain⟨w,pp,z,g⟩:=Yafl (st:=0) hc hl (by lia) hRl h;refine⟨w,?_,g⟩;rw[Yd8,y0 (by rfl)];have hst3:Yr 4 [kdD k,d,c]=[↑(kdD k),↑d,↑c,none]:=rfl;have z:Yg0 [.tup [kdD k,.tup (R.map rlD)],c,.int 0]=some (outD w pp):=z;rw[hst3]
 have ho:outD w pp=.tup [hdD (!w),pp]:=by
  cases w<;>rfl
 rw[ho]at z;generalize hdD (!w)=hh,R.map rlD=RR,kdD k=kk at *;simp[Yo5,hd,z,isiD,Yir,y5d]
theorem y7a(h:l.length<=2)(hn:l.Nodup):(srtS l).Pairwise slt:=by
 match l,h,hn with
 | [],_,_=>exact .nil
 | [a],_,_=>exact List.pairwise_singleton ..
 | [(x,p),(y,q)],_,hn=>
   have hne:¬((x,p):Say)=(y,q):=by grind
   have hne:x=y->p≠q:=λe e'=>hne (by rw[e,e']);rw[srtS];show List.Pairwise slt (if plt (y:Int) q (x:Int) p=true then [(y,q),(x,p)]else [(x,p),(y,q)]);by_cases hlt:plt (y:Int) q (x:Int) p=true
   ·rw[if_pos hlt]
    refine List.pairwise_pair.mpr ?_;show y<x\/(y=x/\q=false/\p=true);unfold plt at hlt;grind
   ·rw[if_neg hlt]
    refine List.pairwise_pair.mpr ?_;show x<y\/(x=y/\p=false/\q=true);unfold plt at hlt;grind
theorem Yv7(h:slt s t):s≠t:=λe=>by
 subst e;unfold slt at h;grind
theorem y7b(h:slt s t)(h':slt t s):s=t:=by
 unfold slt at h h';grind
def y4j{l m:AG}(hl:l.Pairwise (·<·))(hm:m.Pairwise (·<·))(h:∀x,x∈l↔x∈m):l=m:=
 ((List.perm_ext_iff_of_nodup (hl.imp λh=>qm h) (hm.imp λh=>qm h)).mpr h).eq_of_pairwise (le:=(·<·)) (λa b _ _ h1 h2=>absurd h1 (Nat.lt_asymm h2)) hl hm
def Yabg{l m:BA}(hl:l.Pairwise slt)(hm:m.Pairwise slt)(h:∀x,x∈l↔x∈m):l=m:=
 ((List.perm_ext_iff_of_nodup (hl.imp λh=>Yv7 h) (hm.imp λh=>Yv7 h)).mpr h).eq_of_pairwise (le:=slt) (λa b _ _ h1 h2=>y7b h1 h2) hl hm
def Yag7(h:Ch a r r')(h':Ch a r' r'')(hs:Srt r)(hs':Srt r''):r''=r:=by
 cases r with
 | ei l=>
   cases r' with
   | ei l'=>
     cases r'' with
     | ei l''=>exact congrArg Rl.ei (Yabg hs'.2 hs.2 λx=>by rw[h'.1,h.1,Yrd])
     | su b o=>exact h'.elim
     | im b o=>exact h'.elim
   | su b o=>exact h.elim
   | im b o=>exact h.elim
 | su b o=>
   cases r' with
   | su b' o'=>
     cases r'' with
     | su b'' o''=>
       have e:b''=b:=y4j hs' hs λx=>by rw[h'.2,h.2,Yf9]
       rw[e,h'.1,h.1]
     | ei l=>exact h'.elim
     | im b o=>exact h'.elim
   | ei l=>exact h.elim
   | im b o=>exact h.elim
 | im b o=>
   cases r' with
   | im b' o'=>
     cases r'' with
     | im b'' o''=>
       have e:b''=b:=y4j hs' hs λx=>by rw[h'.1,h.1,Yf9]
       have e2:o''=o:=by
        rw[h'.2,h.2]
        cases o with
        | none=>rfl
        | some x=>exact congrArg some (Yf9 a x)
       rw[e,e2]
     | ei l=>exact h'.elim
     | su b o=>exact h'.elim
   | ei l=>exact h.elim
   | su b o=>exact h.elim
theorem Yv8(x a:Nat):Ydf [.int (x:Int),.int (a:Int)]=some (nD (mv a x)):=by
 rw[Ydf,y0 (by rfl)];unfold mv;by_cases h:x=a
 ·simp[Yf8,Yr,h,nD]
 ·by_cases h2:x=a+1
  ·subst h2
   have h5:¬(a:Int)+1=(a:Int):=by lia
   simp[Yf8,Yr,nD,h5]
  ·have h3:¬(x:Int)=(a:Int):=by lia
   have h4:¬(x:Int)=(a:Int)+1:=by lia
   simp[Yf8,Yr,h,h2,h3,h4,nD]
def Yag8{l:AG}(h:l.Nodup):(l.map (mv a)).Nodup:=by
 refine List.Pairwise.map _ (λx y hxy e=>hxy ?_) h;rw[<-Yf9 a x,e,Yf9]
theorem y8f{b:AG}(hb:b.Pairwise (·<·))(hn:∀x∈b,x<n)(ha:a+1<n)(hl:n<=60):∃b':AG,b'.Pairwise (·<·)/\(∀x,x∈b'↔mv a x∈b)/\(∀x∈b',x<n)/\Yh7 [.lst ((b.map (mv a)).map nD)]=some (b'.map nD):=by
 have hlen:b.length<64:=by
  have:=Yhh n b (hb.imp λh=>qm h) hn;lia
 obtain⟨b',p,s,e⟩:=Yjj (b.map (mv a)) (Yag8 (hb.imp λh=>qm h)) (by grind)
 have hm:∀x,x∈b'↔mv a x∈b:=λx=>by
  rw[p.mem_iff,List.mem_map];exact⟨λ⟨y,hy,e⟩=>by rw[<-e,Yf9];exact hy,λh=>⟨_,h,Yf9 a x⟩⟩
 refine⟨b',s,hm,λx hx=>?_,e⟩;have:=Yrc ha (hn _ ((hm x).mp hx));rw[Yf9]at this;exact this
def Yt3(hl:n<=60)(ha:a+1<n)(h:Dr k 0 n r):∃r',Dr k 0 n r'/\Ch a r r'/\Yc4 [kdD k,rlD r,.int (a:Int)]=some (rlD r'):=by
 obtain⟨h1,h2,_⟩:=h;rw[Yc4,y0 (by rfl)];have hst:Yr 4 [kdD k,rlD r,.int (a:Int)]=[↑(kdD k),↑(rlD r),↑(.int (a:Int)),none]:=rfl
 have hcomp:∀b:AG,Ydr (gSet 0) tY Ycd [none,↑(.int (a:Int))] (b.map nD)=some ((b.map (mv a)).map nD):=λb=>by
  have:=Yfu (fe:=Ycd) (r:=[↑(.int (a:Int))]) (enc:=nD) (λx=>nD (mv a x)) (l:=b) (λx _=>by
   have:=Yv8 x a;simp[Ycd,nD]at this ⊢
   simp[this])
  rw[this,Qd];rfl
 rw[hst]
 cases r with
 | ei l=>
   obtain⟨rfl,hn⟩:=h1
   have hnd:(l.map (ms a)).Nodup:=by
    refine List.Pairwise.map _ (λx y hxy e=>hxy ?_) (h2.2.imp λh=>Yv7 h);rw[<-Yrd a x,e,Yrd]
   have hlen:(l.map (ms a)).length<=2:=by rw[qf];exact h2.1
   have hp:=y26 (l.map (ms a))
   have hm:∀s,s∈srtS (l.map (ms a))↔ms a s∈l:=λs=>by
    rw[hp.mem_iff,List.mem_map];exact⟨λ⟨y,hy,e⟩=>by rw[<-e,Yrd];exact hy,λh=>⟨_,h,Yrd a s⟩⟩
   refine⟨.ei (srtS (l.map (ms a))),⟨⟨rfl,λs hs=>?_⟩,⟨by rw[hp.length_eq];exact hlen,y7a hlen hnd⟩,λ_ _=>Qf _⟩,⟨hm,by rw[hp.length_eq,qf]⟩,?_⟩
   ·have:=Yrc ha (hn _ ((hm s).mp hs))
    rw[show(ms a s).1=mv a s.1 from rfl,Yf9]at this;exact this
   ·have h3:=Yfu (fe:=Ydv) (r:=[↑(.int (a:Int))]) (enc:=sayD) (λs=>sayD (ms a s)) (l:=l) (λs _=>by
     have:=Yv8 s.1 a;simp[Ydv,nD]at this ⊢;simp[this]
     rfl)
    have h4:=y25 hlen;rw[Qd]at h4;simp[wu]at h4;simp[Yc3,capR,h3,h4,y2l]
 | su b o=>
   obtain⟨rfl,hn⟩:=h1;obtain⟨b',s,hm,hn',e⟩:=y8f h2 hn ha hl;refine⟨.su b' o,⟨⟨rfl,hn'⟩,s,λ_ _=>Qf _⟩,⟨rfl,hm⟩,?_⟩;have hc:=hcomp b;have i1:Yn (rlD (.su b o))=some [.tup (b.map nD),.bl o]:=rfl;have i2:rlD (.su b' o)=.tup [.tup (b'.map nD),.bl o]:=rfl;rw[i2];generalize rlD (.su b o)=rr,(b.map (mv a)).map nD=MB,b.map nD=BB,b'.map nD=BB' at *;simp[Yc3,i1,capR,hc,e]
 | im b o=>
   obtain⟨hk,hn,ho⟩:=h1;obtain⟨b',s,hm,hn',e⟩:=y8f h2 hn ha hl;have hc:=hcomp b;refine⟨.im b' (o.map (mv a)),⟨⟨hk,hn',λx hx=>?_⟩,s,λ_ _=>Qf _⟩,⟨hm,rfl⟩,?_⟩
   ·cases o with
    | none=>cases hx
    | some y=>
      cases hx;exact Yrc ha (ho y rfl)
   ·have i1:Yn (rlD (.im b o))=some [.tup (b.map nD),optD o]:=rfl
    have i2:rlD (.im b' (o.map (mv a)))=.tup [.tup (b'.map nD),optD (o.map (mv a))]:=rfl;rw[i2]
    cases o with
    | none=>
      generalize rlD (.im b none)=rr,(b.map (mv a)).map nD=MB,b.map nD=BB,b'.map nD=BB' at *;rcases hk with rfl|rfl<;>simp[Yc3,i1,capR,hc,e,optD]
    | some y=>
      have hy:=Yv8 y a;generalize rlD (.im b (some y))=rr,(b.map (mv a)).map nD=MB,b.map nD=BB,b'.map nD=BB' at *;rcases hk with rfl|rfl<;>simp[Yc3,i1,capR,hc,e,optD,hy]
theorem y7c(l:AR)(a:Nat):cutD l (some (a:Int)) none=l.drop a:=by
 unfold cutD;rw[HT.sIx_nat,HT.sIx_none];by_cases h:a<=l.length
 ·rw[Nat.min_eq_left h,List.take_of_length_le (by simp)]
 ·rw[Nat.min_eq_right (by lia),List.drop_eq_nil_of_le (qu _),List.drop_eq_nil_of_le (by lia)]
  simp
theorem Yafm(l:AR)(b:Nat):cutD l none (some (b:Int))=l.take b:=by
 unfold cutD;rw[HT.sIx_nat,HT.sIx_none];grind
theorem y4k{r:Ro}{α:Type}{enc:α->D}{P:Rl->Prop}:∀l:List α,(∀a∈l,∃x:Rl,P x/\fe (some (.sh (enc a))::r)=some (rlD x))->∃R:List Rl,R.length=l.length/\(∀x∈R,P x)/\Ydr (gSet 0) tY fe (none::r) (l.map enc)=some (R.map rlD)
 | [],_=>⟨[],rfl,λ_ h=>(nomatch h),rfl⟩
 | c::l,h=>by
   obtain⟨R,h1,h2,h3⟩:=y4k l λa ha=>h a (.tail _ ha);obtain⟨x,hx,hr⟩:=h c (.head _);refine⟨x::R,by simp[h1],λy hy=>?_,?_⟩
   ·grind
   ·rw[Qa,Ydr,h3]
    simp[hr]
def Yabh(h:Dr k st m r)(hm:m<=n):Dr k st n r:=by
 obtain⟨h1,h2,h3⟩:=h;refine⟨?_,h2,h3⟩
 cases r with
 | ei l=>exact⟨h1.1,λs hs=>Qc (h1.2 s hs) hm⟩
 | su b o=>exact⟨h1.1,λx hx=>Qc (h1.2 x hx) hm⟩
 | im b o=>exact⟨h1.1,λx hx=>Qc (h1.2.1 x hx) hm,λx hx=>Qc (h1.2.2 x hx) hm⟩
theorem Yre{r:Ro}:∀R:List Rl,(∀x∈R,∃y:Rl,P x y/\fe (some (.sh (rlD x))::r)=some (rlD y))->∃R':List Rl,Two P R R'/\Ydr (gSet 0) tY fe (none::r) (R.map rlD)=some (R'.map rlD)
 | [],_=>⟨[],.nil,rfl⟩
 | c::l,h=>by
   obtain⟨R,h1,h2⟩:=Yre l λa ha=>h a (.tail _ ha);obtain⟨x,hx,hr⟩:=h c (.head _);refine⟨x::R,.cons hx h1,?_⟩;rw[Qa,Ydr,h2];simp[hr]
theorem Two.same(h:Two (Ch a) R R')(h':Two (Ch a) R' R'')(hs:∀r∈R,Srt r)(hs':∀r∈R'',Srt r):R''=R:=by
 induction h generalizing R'' with
 | nil=>cases h';rfl
 | cons p t ih=>
   cases h' with
   | cons p' t'=>rw[Yag7 p p' (hs _ (.head _)) (hs' _ (.head _)),ih t' (λr hr=>hs r (.tail _ hr)) λr hr=>hs' r (.tail _ hr)]
theorem cut2{α:Type}(p q:α):∀{l:List α}{a:Nat},a+1<l.length->l.take a++[p,q]++l.drop (a+2)=(l.set a p).set (a+1) q
 | [],_,h=>absurd h (by simp)
 | [x],_,h=>absurd h (by simp)
 | x::y::l,0,_=>rfl
 | x::y::l,a+1,h=>congrArg (x::·) (cut2 p q (l:=y::l) (a:=a) (by simpa using h))
theorem mem_ofH:x∈ofH hs 0 b↔x<hs.length/\hs.getD x false=b:=by
 unfold ofH;grind
theorem y7d(ha:a+1<hs.length)(h1:hs.getD a false=true)(h2:hs.getD (a+1) false=false)(b:Bool)(x:Nat):x∈ofH ((hs.set a false).set (a+1) true) 0 b↔mv a x∈ofH hs 0 b:=by
 rw[mem_ofH,mem_ofH,List.length_set,List.length_set];unfold mv;grind
def Yrf(a b neg:Bool):eqM neg (hdD a) (hdD b)=some (if neg then !(a==b)else a==b):=by
 cases a<;>cases b<;>cases neg<;>first|rfl|decide +kernel
def y8g(a:Bool):eqM false (hdD a) (.str "nobody")=some false:=by
 cases a<;>first|rfl|decide +kernel
def hd_k:(D.str "keeper")=hdD true:=rfl
def hd_s:(D.str "storm")=hdD false:=rfl
def kds:List Kd:=[.n,.e,.s,.i]
theorem Yafn(ns:AH){hs:AJ}(hl:hs.length<=30)(ha:a+1<hs.length)(g1:hs.getD a false=true)(g2:hs.getD (a+1) false=false)(hf:st<f/\f<=hs.length)(hi:i<4)(y9 y10 y11 y12 y13 y14:AT):
 ∃z9 z10 z11 z12 z13 z14,Yji [↑(.scr ns),↑(.int hs.length),↑(.int v),↑(.int a),↑(.tup (hs.map hdD)),↑(.tup (((hs.set a false).set (a+1) true).map hdD)),↑(.int st),↑(.int f),↑(.int (0+(i:Nat))),y9,y10,y11,y12,y13,y14]=some (.nx [↑(.scr ns),↑(.int hs.length),↑(.int v),↑(.int a),↑(.tup (hs.map hdD)),↑(.tup (((hs.set a false).set (a+1) true).map hdD)),↑(.int st),↑(.int f),↑(.int (0+(i:Nat))),z9,z10,z11,z12,z13,z14]):=by
 obtain⟨k,hk⟩:∃k,kds[i]?=some k:=by
  rcases(show i=0\/i=1\/i=2\/i=3 by lia)with rfl|rfl|rfl|rfl<;>exact⟨_,rfl⟩
 have hkd:atI [D.str "nots",.str "eithers",.str "sums",.str "ifs"] (i:Int)=some (kdD k):=by
  have:[D.str "nots",.str "eithers",.str "sums",.str "ifs"]=kds.map kdD:=rfl;rw[this,Yft,Yh1 hk];rfl
 obtain⟨dv,hd0,hdv,hdvi⟩:∃dv:Int,0<dv/\dv<1073741824/\atI [D.int 2048,.int 32768,.int 524288,.int 8388608] (i:Int)=some (.int dv):=by
  rcases(show i=0\/i=1\/i=2\/i=3 by lia)with rfl|rfl|rfl|rfl<;>exact⟨_,by decide,by decide,rfl⟩
 have hdiv:divI (.int v) (.int dv)=some (.int (v/dv)):=by
  show(if (decide ((0:Int)<dv)&&decide (dv<1073741824))=true then _ else none)=_;rw[if_pos (by simp[hd0,hdv])]
 have hm0:=Int.emod_nonneg (v/dv) (b:=13) (by decide);have hm1:=Int.emod_lt_of_pos (v/dv) (b:=13) (by decide);obtain⟨m,hm⟩:=Int.eq_ofNat_of_zero_le hm0;rw[hm]at hm1;have hr:=Yj3 (n:=(m:Int)) (by lia) (by lia);rw[Yic]at hr
 obtain⟨R,hR1,hR2,hR3⟩:=y4k (fe:=Yqp) (r:=[↑(kdD k),↑(.scr ns),↑(.int (i:Int)),↑(.int st),↑(.int f)]) (enc:=λj:Nat=>D.int (0+(j:Nat))) (P:=Dr k st f) (List.range ((m:Int)-0).toNat) (λj hj=>by
  have hj:j<((m:Int)-0).toNat:=qy hj;obtain⟨r,h1,h2,h3,h4⟩:=Yaa2 k (ns.getD (3+i+4*j) 0) st f hf.1 (by lia);have hc:=Ylj ns (3+i+4*j) (3+(i:Int)+4*(j:Int)) (by lia);have hmu:mulI (.int 4) (.int (j:Int))=some (.int (4*(j:Int))):=Yw4 ⟨by lia,by lia⟩
  have e0:(0:Int)+(j:Int)=(j:Int):=by lia
  refine⟨r,⟨h1,h2,h3⟩,?_⟩;rw[e0];generalize ns.getD (3+i+4*j) 0=cc,kdD k=kk at *
  simp[Yqp,hmu,hc,h4])
 have hR:∀r∈R,Dr k 0 hs.length r:=λr hr=>by
  have:=Yabh (hR2 r hr) hf.2;exact⟨this.1,this.2.1,λ_ _=>Qf _⟩
 obtain⟨R',hT,hR3'⟩:=Yre (fe:=Yqq) (r:=[↑(kdD k),↑(.int (a:Int))]) (P:=λx y=>Dr k 0 hs.length y/\Ch a x y) R (λr hr=>by
  obtain⟨r',q1,q2,q3⟩:=Yt3 (by lia) ha (hR r hr);refine⟨r',⟨q1,q2⟩,?_⟩;generalize rlD r'=x at *;generalize rlD r=y at *;generalize kdD k=kk at *
  simp[Yqq,q3])
 have hR':∀r∈R',Dr k 0 hs.length r:=λr hr=>by
  obtain⟨_,_,q,_⟩:=hT.mem r hr;exact q
 obtain⟨R2,hT2,hR3''⟩:=Yre (fe:=Yqr) (r:=[↑(kdD k),↑(.int (a:Int))]) (P:=λx y=>Dr k 0 hs.length y/\Ch a x y) R' (λr hr=>by
  obtain⟨r',q1,q2,q3⟩:=Yt3 (by lia) ha (hR' r hr);refine⟨r',⟨q1,q2⟩,?_⟩;generalize rlD r'=x at *;generalize rlD r=y at *;generalize kdD k=kk at *
  simp[Yqr,q3])
 have two_ch:∀{A B:List Rl},Two (λx y=>Dr k 0 hs.length y/\Ch a x y) A B->Two (Ch a) A B:=λh=>by
  induction h with
  | nil=>exact .nil
  | cons p _ ih=>exact .cons p.2 ih
 have e2:R2=R:=(two_ch hT).same (two_ch hT2) (λr hr=>(hR r hr).2.1) λr hr=>by
  obtain⟨_,_,q,_⟩:=hT2.mem r hr;exact q.2.1
 subst e2
 have hlen:R2.length<=60:=by grind
 obtain⟨w,hw,vw⟩:=y8e (k:=k) (R:=R2) (hs:=hs) (c:=.tup (hs.map hdD)) (d:=.lst (R2.map rlD)) rfl rfl (by lia) hlen hR
 have hsl:((hs.set a false).set (a+1) true).length=hs.length:=by grind
 obtain⟨w',hw',vw'⟩:=y8e (k:=k) (R:=R') (hs:=(hs.set a false).set (a+1) true) (c:=.tup (((hs.set a false).set (a+1) true).map hdD)) (d:=.lst (R'.map rlD)) rfl rfl (by lia) (by rw[hT.len];exact hlen) (by grind)
 have hww:w=false->w'=false:=λz=>by
  subst z
  cases w' with
  | false=>rfl
  | true=>
    have q1:a∈ofH ((hs.set a false).set (a+1) true) 0 false:=(y7d ha g1 g2 false a).mpr (mem_ofH.mpr (by rw[show mv a a=a+1 by simp[mv]];grind));have q2:a+1∈ofH ((hs.set a false).set (a+1) true) 0 true:=(y7d ha g1 g2 true (a+1)).mpr (mem_ofH.mpr (by rw[show mv a (a+1)=a by simp[mv]];grind));exact(Yafk (by lia) (two_ch hT) (y7d ha g1 g2 false) (y7d ha g1 g2 true) q1 q2 Ylk Ylk (λr hr=>(hR r hr).2.1) (n:=hs.length) (λr hr=>(hR' r hr).1) (λr hr=>(hR r hr).1) vw vw').elim
 have e0:(0:Int)+(i:Int)=(i:Int):=by lia
 rw[e0];simp only[Int.zero_add,Int.sub_zero,w9]at hr hR3;refine⟨some (.sh (kdD k)),↑(.int m),↑(.lst (R2.map rlD)),↑(.lst (R'.map rlD)),↑(hdD (!w)),↑(hdD (!w')),?_⟩;have n1:=y8g (!w);have n2:=y8g (!w');have n3:=Yrf (!w) true false;have n4:=Yrf (!w') true true;have n5:=Yrf (!w) (!w) true;rw[<-hd_k]at n3 n4;generalize R2.map rlD=RR,R'.map rlD=RR',kdD k=kk,hs.map hdD=HS,((hs.set a false).set (a+1) true).map hdD=HS2 at *
 cases w with
 | true=>
   simp only[Bool.not_true]at *;generalize hdD false=hf0 at *;simp[Yji,hkd,hdvi,hdiv,hm,hr,capR,hR3,hR3',hR3'',hw,hw',frz,frz1,n1,n2,n3,n5]
 | false=>
   have:=hww rfl;subst this;simp only[Bool.not_false]at *;generalize hdD true=hf0 at *;simp[Yji,hkd,hdvi,hdiv,hm,hr,capR,hR3,hR3',hR3'',hw,hw',frz,frz1,n1,n3,n4,n5]
theorem y8h{a:Nat}(ha:a+2<=HS.length)(hl:HS.length<=60)(p q:D)(h3:getC 3 ρ=some (.int (a:Int)))(h4:getC 4 ρ=some (.tup HS)):
 b2 (b2 (slD (getC 4) none (some (getC 3))) (dTup (Yg (kD p) (Yg (kD q) aNil))) Ykv) (slD (getC 4) (some (b2 (getC 3) (kD (.int 2)) addI)) none) Ykv ρ=some (.tup (HS.take a++[p,q]++HS.drop (a+2))):=by
 have c1:cutC none (some (a:Int)) (.tup HS)=some (.tup (HS.take a)):=by
  show some (D.tup (cutD _ _ _))=_;rw[Yafm]
 have c2:cutC (some ((a:Int)+2)) none (.tup HS)=some (.tup (HS.drop (a+2))):=by
  show some (D.tup (cutD _ _ _))=_;have:=y7c HS (a+2);grind
 simp[h3,h4,optI,intD,c1,c2];rw[if_pos (by lia)];simp;lia
theorem law_true(ns:AH)(hns:ns.length<=63):Yvo [.scr ns]=some (.bl true):=by
 rw[Yvo,y0 (by rfl)];have hst:Yr 15 [D.scr ns]=[↑(.scr ns),none,none,none,none,none,none,none,none,none,none,none,none,none,none]:=rfl;have c0:=Ylj ns 0 0 rfl;have c1:=Ylj ns 1 1 rfl;have c2:=Ylj ns 2 2 rfl;generalize ns.getD 0 0=x0,ns.getD 1 0=x1,ns.getD 2 0=x2 at *
 obtain⟨n,hn,hn1,hn2⟩:∃n:Nat,2+x0%29=(n:Int)/\2<=n/\n<=30:=⟨(2+x0%29).toNat,by lia,by lia,by lia⟩
 obtain⟨v,hv0,hv⟩:=Yvp x2 1865811235122147685
 obtain⟨a,ha0,ha1⟩:∃a:Nat,v/4%((n:Int)-1)=(a:Int)/\a+1<n:=by
  have h1:=Int.emod_nonneg (v/4) (b:=(n:Int)-1) (by lia);have h2:=Int.emod_lt_of_pos (v/4) (b:=(n:Int)-1) (by lia);exact⟨(v/4%((n:Int)-1)).toNat,by lia,by lia⟩
 obtain⟨h0,hhl,hh⟩:=Yvv x1 n (by lia)
 obtain⟨hs,hsl,hsm,g1,g2⟩:∃hs:AJ,hs.length=n/\(h0.map hdD).take a++[hdD true,hdD false]++(h0.map hdD).drop (a+2)=hs.map hdD/\hs.getD a false=true/\hs.getD (a+1) false=false:=by
  refine⟨(h0.set a true).set (a+1) false,by grind,?_,?_,?_⟩
  ·rw[<-cut2 true false (by lia)]
   simp
  ·grind
  ·grind
 have hot:(hs.map hdD).take a++[hdD false,hdD true]++(hs.map hdD).drop (a+2)=((hs.set a false).set (a+1) true).map hdD:=by
  rw[<-cut2 false true (by lia)];simp
 obtain⟨x,hx,hxp⟩:∃x:Nat,atI [D.int 2,.int 4,.int 8,.int 30] (v%4)=some (.int (x:Int))/\0<x:=by
  rcases(show v%4=0\/v%4=1\/v%4=2\/v%4=3 by lia)with e|e|e|e<;>rw[e]
  ·exact⟨2,rfl,by decide⟩
  ·exact⟨4,rfl,by decide⟩
  ·exact⟨8,rfl,by decide⟩
  ·exact⟨30,rfl,by decide⟩
 have hmin:∀y:Int,0<y->∃f:Nat,minC [.int (n:Int),.int y]=some (.int (f:Int))/\0<f/\f<=n/\((f:Int)=y\/f=n):=λy hy=>by
  by_cases z:y<(n:Int)
  ·exact⟨y.toNat,by show some (D.int (if _ then _ else _))=_;grind,by lia,by lia,by lia⟩
  ·exact⟨n,by show some (D.int (if _ then _ else _))=_;rw[if_neg z],by lia,qu _,.inr rfl⟩
 obtain⟨f1,hf1,hf1p,hf1n,_⟩:=hmin x (by lia);obtain⟨f2,hf2,hf2p,hf2n,hf2c⟩:=hmin ((a:Int)+2+v/512%3) (by lia)
 obtain⟨l2,hl2,hl2a⟩:∃l:Nat,maxC [.int 0,.int ((a:Int)-v/128%3)]=some (.int (l:Int))/\l<=a:=by
  by_cases z:(a:Int)-v/128%3 > 0
  ·exact⟨((a:Int)-v/128%3).toNat,by show some (D.int (if _ then _ else _))=_;grind,by lia⟩
  ·exact⟨0,by show some (D.int (if _ then _ else _))=_;grind,Qf _⟩
 have hr4:=Yj3 (n:=(4:Int)) (by lia) (by lia);rw[Yic]at hr4
 have hmod:modI (.int (v/4)) (.int ((n:Int)-1))=some (.int (a:Int)):=by
  show(if decide ((0:Int)<(n:Int)-1)=true then _ else none)=_;grind
 subst hsl
 have h9:∀st f:Nat,st<f->f<=hs.length->Yvn [↑(.scr ns),↑(.int hs.length),↑(.int v),↑(.int a),↑(.tup (hs.map hdD)),↑(.tup (((hs.set a false).set (a+1) true).map hdD)),↑(.int st),↑(.int f),none,none,none,none,none,none,none]=some (.rt (.bl true)):=λst f hs1 hs2=>by
  obtain⟨ρ',hfor,y8,y9,y10,y11,y12,y13,y14,rfl⟩:=Ydg (gt:=gSet 8) (fb:=Yji) (λi:Nat=>D.int (0+(i:Nat))) (λ_ ρ=>∃y8 y9 y10 y11 y12 y13 y14:AT,ρ=[↑(.scr ns),↑(.int hs.length),↑(.int v),↑(.int a),↑(.tup (hs.map hdD)),↑(.tup (((hs.set a false).set (a+1) true).map hdD)),↑(.int st),↑(.int f),y8,y9,y10,y11,y12,y13,y14]) (List.range ((4:Int)-0).toNat) []
   [↑(.scr ns),↑(.int hs.length),↑(.int v),↑(.int a),↑(.tup (hs.map hdD)),↑(.tup (((hs.set a false).set (a+1) true).map hdD)),↑(.int st),↑(.int f),none,none,none,none,none,none,none] ⟨_,_,_,_,_,_,_,rfl⟩ (by
    rintro q i r ρ e ⟨y8,y9,y10,y11,y12,y13,y14,rfl⟩
    have hi:i<4:=by
     have:i∈List.range ((4:Int)-0).toNat:=by
      grind
     grind
    obtain⟨z9,z10,z11,z12,z13,z14,h⟩:=Yafn ns (v:=v) hn2 ha1 g1 g2 ⟨hs1,hs2⟩ hi y9 y10 y11 y12 y13 y14
    exact⟨_,_,rfl,h,_,z9,z10,z11,z12,z13,z14,rfl⟩)
  rw[Yvn,Ybd];generalize hs.map hdD=HS,((hs.set a false).set (a+1) true).map hdD=HS2 at *;simp only[Int.zero_add,Int.sub_zero]at hr4 hfor;simp[hr4];rw[show Int.toNat 4=4 from rfl]at hfor;rw[hfor];rfl
 have ht4:=λρ=>y8h (HS:=h0.map hdD) (a:=a) (by grind) (by grind) (hdD true) (hdD false) (ρ:=ρ);have ht5:=λρ=>y8h (HS:=hs.map hdD) (a:=a) (by grind) (by grind) (hdD false) (hdD true) (ρ:=ρ);rw[hsm]at ht4;rw[hot]at ht5;clear hot;generalize ((hs.set a false).set (a+1) true).map hdD=HS2 at *;rw[hst]
 have hb:Yaay [↑(.scr ns),none,none,none,none,none,none,none,none,none,none,none,none,none,none]=some (.rt (.bl true)):=by
  rw[Yaay,Ybd];simp[c0,hn];rw[y24,Ybd];simp[c2,hv];rw[y23,Ybd];simp[hmod];rw[y22,Ybd];simp[c1,hh];rw[y21,Ybd,y2c,hd_k,hd_s,ht4 _ rfl rfl];simp;rw[y20,Ybd,y2c,hd_k,hd_s,ht5 _ rfl rfl];simp;rw[y2z,Ybd];simp;rw[y2y,Ybd];simp[hx,hf1];rw[y2x,Ybd];by_cases hq:v/64%2=1
  ·simp[hq,hl2,hf2]
   grind
  ·simp[hq]
   grind
 rw[hb];rfl
end Lw
end
noncomputable section
namespace Op
open PySem PySem.W PyProof.Rows PySem.Calls
noncomputable abbrev pg:P7:=PySem.Challenge.pw_duskbook_k66_whole_places_changed
noncomputable abbrev en(P:Params)(x:Str)(t:Nat)(v:Value):DictEntry:=⟨PyData.keyHash P x,.str x t,v⟩
noncomputable abbrev fn(name qual:Str)(s:Stmt)(dV kV doc pm:Value)(an:Option Addr)(cdv ct:Value)(g b:Nat):Data:=.func ⟨name,qual,L2.aLc s,.stmts (L2.aKc s),L2.aIc s,g,[],dV,kV,doc,pm,an,cdv,ct,b⟩
noncomputable abbrev tu(l:AD):Obj:=⟨.type "tuple",none,.seq ⟨l⟩ 0,#[]⟩
noncomputable abbrev fl:Obj:=⟨.none,none,.fields #[],#[]⟩
noncomputable abbrev oZ(x:Str)(i:Nat):Obj:=⟨.none,none,fn x x (Lw.top i) .none .none .none .none none .none .none 0 0,#[]⟩
noncomputable abbrev oF(x:Str)(i:Nat)(pm:Value)(c:Nat):Obj:=⟨.type "function",none,.func (fnOf x x (L2.aLc (Lw.top i)) (L2.aKc (Lw.top i)) (L2.aIc (Lw.top i)) .none .none .none pm none (.ref c) .none),#[]⟩
noncomputable abbrev oC(x:Str)(t l n b:Nat)(u v:Value)(c k e:Nat):Obj:=⟨.type "code",none,.fields #[.str x t,.str x (t+1),.str "/claim/cut.py" (t+2),.int (.ofNat l) 0,.int (.ofNat n) 0,.int 0 0,.int 0 0,.int 3 0,.ref b,.bool true,.int (.ofNat k) 0,.ref (b+1),.none,u,v,.ref c,.int (.ofNat e) 0,.int (.ofNat l) 0,.str "/claim/cut.py" (e+1)],#[]⟩
noncomputable abbrev p0:Value:=(.str "duskbook.roads" 187)
noncomputable abbrev p1:Value:=(.str "duskbook.blends" 224)
noncomputable abbrev p2:Value:=(.str "duskbook.parts" 251)
noncomputable abbrev p3:Value:=(.str "duskbook.adding" 259)
noncomputable abbrev p4:Value:=(.str "duskbook.books" 292)
noncomputable abbrev p5:Value:=(.str "duskbook.deriving" 341)
noncomputable abbrev p6:Value:=(.str "duskbook.storming" 383)
noncomputable abbrev p7:Value:=(.str "duskbook.eitherways" 391)
noncomputable abbrev p8:Value:=(.str "duskbook.keeping" 485)
noncomputable abbrev p9:Value:=(.str "duskbook.ifways" 504)
noncomputable abbrev p10:Value:=(.str "duskbook.sumways" 554)
noncomputable abbrev p11:Value:=(.str "law_duskbook_k66_whole_places_changed" 600)
def et0(P:Params):List DictEntry:=[en P "__doc__" 166 .none,en P "__package__" 167 .none,en P "__loader__" 168 (.builtin "__main__.__loader__#opaque"),en P "__spec__" 169 .none,en P "__annotations__" 170 (.ref 6),en P "__builtins__" 171 (.ref 4),en P "__file__" 173 (.str "/claim/cut.py" 172),en P "__cached__" 174 .none,en P "contrary" 195 (.ref 21),en P "led_to" 201 (.ref 26),en P "traced" 211 (.ref 33),en P "ways_from" 223 (.ref 40),en P "EXCHANGED_KINDS" 238 (.ref 41),en P "exchanged_rule" 244 (.ref 46),en P "exchanged" 250 (.ref 51),en P "beacons_with" 258 (.ref 56),en P "both_added" 268 (.ref 63),en P "pairs_added" 276 (.ref 70),en P "cleared" 285 (.ref 77),en P "reduced" 291 (.ref 82),en P "either_holds" 299 (.ref 87),en P "sum_holds" 305 (.ref 92),en P "if_holds" 311 (.ref 97),en P "rule_holds" 320 (.ref 104),en P "beacons_in" 326 (.ref 109),en P "is_void" 334 (.ref 116),en P "without" 340 (.ref 121),en P "is_place" 350 (.ref 128),en P "body_is_known" 356 (.ref 133),en P "is_step" 366 (.ref 140),en P "step_to_more" 376 (.ref 147),en P "derived_in_full" 382 (.ref 152),en P "is_broken" 390 (.ref 157),en P "sayings_of" 401 (.ref 164),en P "lead_to_one_another" 410 (.ref 171),en P "clash_found" 419 (.ref 178),en P "cross_found" 429 (.ref 185),en P "late_found" 440 (.ref 192),en P "storms_paper" 446 (.ref 197),en P "free_saying" 455 (.ref 204)]
def et1(P:Params):List DictEntry:=[en P "truths_made" 467 (.ref 211),en P "plan_row" 478 (.ref 218),en P "either_outcome" 484 (.ref 223),en P "replaced" 497 (.ref 230),en P "ahead_of" 503 (.ref 235),en P "places_to_none" 515 (.ref 242),en P "places_to_beacon" 521 (.ref 247),en P "some_of" 527 (.ref 252),en P "facts_beside" 536 (.ref 259),en P "if_outcome" 553 (.ref 266),en P "last_beacon" 562 (.ref 273),en P "storms_places" 568 (.ref 278),en P "sum_rows" 574 (.ref 283),en P "sum_outcome" 587 (.ref 290),en P "outcome" 599 (.ref 298),en P "_law_cell" 609 (.ref 305),en P "_law_mixed" 617 (.ref 312),en P "_law_hands" 623 (.ref 317),en P "_law_own" 629 (.ref 322),en P "_law_rule" 635 (.ref 327),en P "_law_moved" 643 (.ref 334),en P "_law_changed" 649 (.ref 339),en P "_law_hand" 659 (.ref 346),en P "law" 665 (.ref 351)]
def et(P:Params):List DictEntry:=et0 P++et1 P
noncomputable abbrev ns(P:Params)(x:DictEntry)(n k:Nat):Obj:=⟨.type "dict",none,.dict ⟨x::(et P).take n⟩ k,#[]⟩
def ff0:AD:=[(.int (2) 0),(.int (0) 0),(.ref 20),(.int (4) 0),(.int (0) 0),(.ref 25),(.int (12) 0),(.int (0) 0),(.ref 32),(.int (19) 0),(.int (0) 0),(.ref 39),(.int (32) 0),(.int (0) 0),(.ref 45),(.int (38) 0),(.int (0) 0),(.ref 50),(.int (42) 0),(.int (0) 0),(.ref 55),(.int (45) 0),(.int (0) 0),(.ref 62),(.int (47) 0),(.int (0) 0),(.ref 69),(.int (49) 0),(.int (0) 0),(.ref 76),(.int (54) 0),(.int (0) 0),(.ref 81),(.int (66) 0),(.int (0) 0),(.ref 86),(.int (68) 0),(.int (0) 0),(.ref 91),(.int (71) 0)]
def ff1:AD:=[(.int (0) 0),(.ref 96),(.int (75) 0),(.int (0) 0),(.ref 103),(.int (81) 0),(.int (0) 0),(.ref 108),(.int (87) 0),(.int (0) 0),(.ref 115),(.int (89) 0),(.int (0) 0),(.ref 120),(.int (92) 0),(.int (0) 0),(.ref 127),(.int (94) 0),(.int (0) 0),(.ref 132),(.int (96) 0),(.int (0) 0),(.ref 139),(.int (101) 0),(.int (0) 0),(.ref 146),(.int (106) 0),(.int (0) 0),(.ref 151),(.int (116) 0),(.int (0) 0),(.ref 156),(.int (119) 0),(.int (0) 0),(.ref 163),(.int (124) 0),(.int (0) 0),(.ref 170),(.int (126) 0),(.int (0) 0)]
def ff2:AD:=[(.ref 177),(.int (132) 0),(.int (0) 0),(.ref 184),(.int (138) 0),(.int (0) 0),(.ref 191),(.int (144) 0),(.int (0) 0),(.ref 196),(.int (150) 0),(.int (0) 0),(.ref 203),(.int (153) 0),(.int (0) 0),(.ref 210),(.int (161) 0),(.int (0) 0),(.ref 217),(.int (166) 0),(.int (0) 0),(.ref 222),(.int (176) 0),(.int (0) 0),(.ref 229),(.int (182) 0),(.int (0) 0),(.ref 234),(.int (185) 0),(.int (0) 0),(.ref 241),(.int (190) 0),(.int (0) 0),(.ref 246),(.int (195) 0),(.int (0) 0),(.ref 251),(.int (197) 0),(.int (0) 0),(.ref 258)]
def ff3:AD:=[(.int (199) 0),(.int (0) 0),(.ref 265),(.int (216) 0),(.int (0) 0),(.ref 272),(.int (218) 0),(.int (0) 0),(.ref 277),(.int (223) 0),(.int (0) 0),(.ref 282),(.int (231) 0),(.int (0) 0),(.ref 289),(.int (240) 0),(.int (0) 0),(.ref 297),(.int (249) 0),(.int (0) 0),(.ref 304),(.int (253) 0),(.int (0) 0),(.ref 311),(.int (255) 0),(.int (0) 0),(.ref 316),(.int (258) 0),(.int (0) 0),(.ref 321),(.int (260) 0),(.int (0) 0),(.ref 326),(.int (280) 0),(.int (0) 0),(.ref 333),(.int (286) 0),(.int (0) 0),(.ref 338),(.int (293) 0)]
def ff4:AD:=[(.int (0) 0),(.ref 345),(.int (298) 0),(.int (0) 0),(.ref 350)]
def ff:AD:=ff0++ff1++ff2++ff3++ff4
noncomputable abbrev ft(n:Nat):Obj:=⟨.none,none,.fields ⟨ff.take n⟩,#[]⟩
noncomputable abbrev dF(x:Str)(i l n t b:Nat)(pm:Value)(k:Nat):List Obj:=[tu [],fl,oZ x i,oC x t l n b .none .none (b+2) k (t+3),oF x i pm (b+3)]
noncomputable abbrev dG(x:Str)(i l n t b:Nat)(pm:Value)(k:Nat)(u:AD):List Obj:=[tu [],fl,tu u,tu [],oZ x i,oC x t l n b (.ref (b+2)) (.ref (b+3)) (b+4) k (t+3+u.length),oF x i pm (b+5)]
def al0(P:Params):List Obj:=[boot_o_0 P,boot_o_1 P,boot_o_2 P,ns P (en P "__name__" 165 (.str "law_duskbook_k66_whole_places_changed" 600)) 64 65,boot_o_4 P,boot_o_5 P,boot_o_6 P,boot_o_7 P,boot_o_8 P,boot_o_9 P,boot_o_10 P,tu [],ft 165,⟨(.type "code"),none,(.fields #[(.str "<module>" 182),(.str "<module>" 183),(.str "/claim/cut.py" 184),(.int (1) 0),(.int (0) 0),(.int (0) 0),(.int (0) 0),(.int (0) 0),(.ref 11),(.bool false),(.int (181) 0),(.ref 12),.none,.none,.none,.none,(.int (185) 0),(.int (1) 0),(.str "/claim/cut.py" 186)]),#[]⟩,⟨(.type "frame"),none,.plain,#[(some (.ref 13)),(some (.ref 3)),(some (.ref 3)),none,(some (.str "__main__" 164)),none,(some (.ref 0))]⟩]++(dG "contrary" 1 2 1 189 15 p0 181 [(.str "saying" 192)]++(dF "led_to" 2 4 2 196 22 p0 181++(dG "traced" 3 12 2 202 27 p0 181 [(.str "ahead" 205),(.str "last" 206),(.str "road" 207),(.str "saying" 208)]++(dG "ways_from" 4 19 2 212 34 p0 181 [(.str "book" 215),(.str "saying" 216),(.str "ahead" 217),(.str "reached" 218),(.str "place" 219),(.str "led" 220)]++([⟨(.type "dict"),none,(.dict #[en P "eithers" 226 (.str "eithers" 227),en P "sums" 228 (.str "sums" 229),en P "ifs" 230 (.str "nots" 231),en P "nots" 232 (.str "ifs" 233)] 4),#[]⟩]++(dF "exchanged_rule" 7 32 2 239 42 p1 181++(dF "exchanged" 8 38 1 245 47 p1 181++(dF "beacons_with" 10 42 3 253 52 p2 181++(dG "both_added" 12 45 2 261 57 p3 181 [(.str "rule" 264),(.str "other" 265)]++(dG "pairs_added" 13 47 2 269 64 p3 181 [(.str "pair" 272),(.str "other" 273)]++(dG "cleared" 14 49 2 277 71 p3 181 [(.str "pair" 280),(.str "by_last" 281),(.str "left" 282)]++(dF "reduced" 15 54 1 286 78 p3 181++(dF "either_holds" 17 66 2 294 83 p4 181++(dF "sum_holds" 18 68 2 300 88 p4 181++(dF "if_holds" 19 71 3 306 93 p4 181++(dG "rule_holds" 20 75 3 312 98 p4 181 [(.str "kind" 315),(.str "rule" 316),(.str "evening" 317)]++(dF "beacons_in" 21 81 2 321 105 p4 181++(dG "is_void" 22 87 2 327 110 p4 181 [(.str "kind" 330),(.str "rule" 331)]++(dF "without" 23 89 2 335 117 p4 181++(dG "is_place" 25 92 2 343 122 p5 181 [(.str "book" 346),(.str "place" 347)]++(dF "body_is_known" 26 94 2 351 129 p5 181++(dG "is_step" 27 96 3 357 134 p5 181 [(.str "book" 360),(.str "known" 361),(.str "place" 362),(.str "rule" 363)]++(dG "step_to_more" 28 101 2 367 141 p5 181 [(.str "book" 370),(.str "known" 371),(.str "place" 372),(.str "rule" 373)]++(dF "derived_in_full" 29 106 2 377 148 p5 181))))))))))))))))))))))))
def al1(P:Params):List Obj:=dF "is_broken" 31 116 1 385 153 p6 181++(dG "sayings_of" 33 119 1 393 158 p7 181 [(.str "beacons" 396),(.str "sayings" 397),(.str "beacon" 398)]++(dG "lead_to_one_another" 34 124 3 402 165 p7 181 [(.str "ways" 405),(.str "saying" 406),(.str "other" 407)]++(dG "clash_found" 35 126 1 411 172 p7 181 [(.str "ways" 414),(.str "saying" 415),(.str "other" 416)]++(dG "cross_found" 36 132 2 420 179 p7 181 [(.str "ways" 423),(.str "storms" 424),(.str "saying" 425),(.str "other" 426)]++(dG "late_found" 37 138 3 430 186 p7 181 [(.str "ways" 433),(.str "keepers" 434),(.str "storms" 435),(.str "saying" 436),(.str "other" 437)]++(dF "storms_paper" 38 144 4 441 193 p7 181++(dG "free_saying" 39 150 2 447 198 p7 181 [(.str "keeper" 450),(.str "ways" 451),(.str "dark" 452)]++(dG "truths_made" 40 153 3 456 205 p7 181 [(.str "ways" 459),(.str "keepers" 460),(.str "storms" 461),(.str "truths" 462),(.str "saying" 463),(.str "keeper" 464)]++(dG "plan_row" 41 161 4 468 212 p7 181 [(.str "keeper" 471),(.str "ways" 472),(.str "storms" 473),(.str "truths" 474),(.str "saying" 475)]++(dF "either_outcome" 42 166 3 479 219 p7 181++(dG "replaced" 44 176 2 487 224 p8 181 [(.str "rule" 490),(.str "sums" 491),(.str "whole" 492),(.str "beacon" 493),(.str "row" 494)]++(dF "ahead_of" 45 182 2 498 231 p8 181++(dG "places_to_none" 47 185 2 506 236 p9 181 [(.str "book" 509),(.str "full" 510),(.str "place" 511),(.str "rule" 512)]++(dF "places_to_beacon" 48 190 3 516 243 p9 181++(dF "some_of" 49 195 2 522 248 p9 181++(dG "facts_beside" 50 197 3 528 253 p9 181 [(.str "beacon" 531),(.str "storms" 532),(.str "first" 533)]++(dG "if_outcome" 51 199 3 537 260 p9 181 [(.str "book" 540),(.str "hands" 541),(.str "start" 542),(.str "keepers" 543),(.str "storms" 544),(.str "whole" 545),(.str "places" 546),(.str "first" 547),(.str "rows" 548),(.str "beacon" 549),(.str "full" 550)]++(dG "last_beacon" 53 216 1 556 267 p10 181 [(.str "pair" 559)]++(dF "storms_places" 54 218 3 563 274 p10 181++(dF "sum_rows" 55 223 2 569 279 p10 181++(dG "sum_outcome" 56 231 3 575 284 p10 181 [(.str "book" 578),(.str "hands" 579),(.str "start" 580),(.str "keepers" 581),(.str "storms" 582),(.str "answer" 583),(.str "places" 584)]++([tu [(.int (0) 590)],tu [],fl,tu [(.str "book" 594),(.str "hands" 595),(.str "start" 596)],tu [],oZ "outcome" 58,oC "outcome" 591 240 3 292 (.ref 294) (.ref 295) 296 181 597,⟨(.type "function"),none,(fn "outcome" "outcome" (Lw.top 58) (.ref 291) .none .none (.str "duskbook.outcomes" 588) none (.ref 297) .none 3 0),#[]⟩]++(dG "_law_cell" 60 249 2 602 299 p11 181 [(.str "script" 605),(.str "k" 606)]++(dG "_law_mixed" 61 253 2 610 306 p11 181 [(.str "cell" 613),(.str "by" 614)]))))))))))))))))))))))))
def al2(P:Params):List Obj:=dF "_law_hands" 62 255 2 618 313 p11 181++(dF "_law_own" 63 258 3 624 318 p11 181++(dF "_law_rule" 64 260 4 630 323 p11 181++(dG "_law_moved" 65 280 2 636 328 p11 181 [(.str "beacon" 639),(.str "at" 640)]++(dF "_law_changed" 66 286 3 644 335 p11 181++(dG "_law_hand" 67 293 3 650 340 p11 181 [(.str "kind" 653),(.str "rules" 654),(.str "hands" 655),(.str "found" 656)]++(dF "law" 68 298 1 660 347 p11 181))))))
def al(P:Params):List Obj:=al0 P++al1 P++al2 P
def upd(l:List (Nat×Obj))(xs:List Obj):List Obj:=l.foldl (λxs p=>xs.set p.1 p.2) xs
def ev:List Obj->List Obj
 | []=>[]
 | [x]=>[x]
 | x::_::r=>x::ev r
def bt:Nat->List Obj->BT
 | 0,_=>.nil
 | _+1,[]=>.nil
 | n+1,x::xs=>.node x (bt n (ev xs)) (bt n (ev xs.tail))
noncomputable abbrev bd:List Stmt:=behindTheImports pg
noncomputable abbrev sl(i n:Nat):List Stmt:=(bd.drop i).take n
noncomputable abbrev env:Env:={ scope:=pg.main.scope,locals:=mainNs,globals:=mainNs,cells:=[],code:=(.ref 13),frame:=some 14 }
noncomputable abbrev cE:Code:=.body bd env
noncomputable abbrev B:List Frame:=[topFrame ⟨0,0,0,0⟩]
noncomputable abbrev ss(n:Nat)(l:Params->List (Nat×Obj))(t:Nat)(w:World)(os:OsState):SharedT:=⟨bt 12 (upd (l w.params) ((al w.params).take n)),n,{},.mk [],boot_drawn,t,os⟩
def h0(P:Params):Heap:=⟨⟨upd [(3,boot_o_3 P),(12,fl)] ((al P).take 15)⟩,{}⟩
noncomputable abbrev s0(w:World)(os:OsState):Shared:=⟨h0 w.params,.mk [],boot_drawn,187,os⟩
noncomputable abbrev s1:World->OsState->SharedT:=ss 15 (λP=>[(3,boot_o_3 P),(12,fl)]) 187
noncomputable abbrev s2:World->OsState->SharedT:=ss 78 (λP=>[(3,ns P (en P "__name__" 165 (.str "duskbook.adding" 259)) 19 20),(12,ft 30)]) 286
noncomputable abbrev s3:World->OsState->SharedT:=ss 153 (λP=>[(3,ns P (en P "__name__" 165 (.str "duskbook.storming" 383)) 32 33),(12,ft 69)]) 385
noncomputable abbrev s4:World->OsState->SharedT:=ss 231 (λP=>[(3,ns P (en P "__name__" 165 (.str "duskbook.keeping" 485)) 44 45),(12,ft 105)]) 498
noncomputable abbrev s5:World->OsState->SharedT:=ss 306 (λP=>[(3,ns P (en P "__name__" 165 (.str "law_duskbook_k66_whole_places_changed" 600)) 56 57),(12,ft 141)]) 610
noncomputable abbrev s6:World->OsState->SharedT:=ss 352 (λP=>[]) 666
def h7(P:Params):Heap:=⟨⟨upd [] ((al P).take 352)⟩,{}⟩
noncomputable abbrev s7(w:World)(os:OsState):Shared:=⟨h7 w.params,.mk [],boot_drawn,666,os⟩
noncomputable abbrev sz(w:World)(os:OsState):Shared:=⟨boot_heap w.params,.mk [],boot_drawn,boot_toks,os⟩
def e0:∀w:World,(λos=>topGo treeTable pg w 11 (some (.ref 6)) 12 (sz w os) (topStub pg))=λos=>some (s0 w os,⟨denote treeTable cE,cE,⟨0,0,0,0⟩,B⟩):=by
 rw[W.Fast.te15667345088766844465,W.Fast.te14364793385576792824,W.Fast.te11892475500146522536];intro w;kernel_rfl
def e1:∀w:World,(λos=>segRun treeTable pg w 11 (some (.ref 6)) 1 1 (s0 w os) (blockOf bd env cE ⟨0,0,0,0⟩ B))=λos=>some (.next,(s1 w os).abs,cE,⟨0,0,0,0⟩):=by
 rw[W.Fast.te14374325043358763698,W.Fast.te14364793385576792824];intro w;kernel_rfl
def e2:∀w:World,(λos=>segRunT treeTable pg w 11 (some (.ref 6)) 1 397 (s1 w os) (piecesOf (sl 0 15) env cE ⟨0,0,0,0⟩ B))=λos=>some (.next,s2 w os,cE,⟨49,0,53,15⟩):=by
 rw[W.Fast.te10110043849684766642,W.Fast.te14364793385576792824];refine byRow2 "special-get-raises" ?_ ?_<;>(intro w;kernel_rfl)
def e3:∀w:World,(λos=>segRunT treeTable pg w 11 (some (.ref 6)) 1 391 (s2 w os) (piecesOf (sl 15 16) env cE ⟨49,0,53,15⟩ B))=λos=>some (.next,s3 w os,cE,⟨115,0,115,8⟩):=by
 rw[W.Fast.te10110043849684766642,W.Fast.te14364793385576792824];intro w;kernel_rfl
def e4:∀w:World,(λos=>segRunT treeTable pg w 11 (some (.ref 6)) 1 386 (s3 w os) (piecesOf (sl 31 14) env cE ⟨115,0,115,8⟩ B))=λos=>some (.next,s4 w os,cE,⟨176,0,181,16⟩):=by
 rw[W.Fast.te10110043849684766642,W.Fast.te14364793385576792824];intro w;kernel_rfl
def e5:∀w:World,(λos=>segRunT treeTable pg w 11 (some (.ref 6)) 1 396 (s4 w os) (piecesOf (sl 45 16) env cE ⟨176,0,181,16⟩ B))=λos=>some (.next,s5 w os,cE,⟨249,0,252,12⟩):=by
 rw[W.Fast.te10110043849684766642,W.Fast.te14364793385576792824];intro w;kernel_rfl
def e6:∀w:World,(λos=>segRunT treeTable pg w 11 (some (.ref 6)) 1 223 (s5 w os) (piecesOf (sl 61 8) env cE ⟨249,0,252,12⟩ B))=λos=>some (.next,s6 w os,cE,⟨298,0,321,15⟩):=by
 rw[W.Fast.te10110043849684766642,W.Fast.te14364793385576792824];intro w;kernel_rfl
def e7:∀w:World,(λos=>topRun treeTable pg w 11 (some (.ref 6)) 2 (s6 w os).abs ⟨doneF .next,cE,⟨298,0,321,15⟩,B⟩)=λos=>some (s7 w os):=by
 rw[W.Fast.te14082659384304107361,W.Fast.te14364793385576792824];intro w;kernel_rfl
noncomputable abbrev m7:Nat:=2
noncomputable abbrev t7:List Stmt:=[]
noncomputable abbrev R(w:World)(os:OsState)(m:Nat)(s:Shared)(t:List Stmt)(p:Pos):Prop:=topRun treeTable pg w 11 (some (.ref 6)) m s (restOf t env cE p B)=some (s7 w os)
def r7(w:World)(os:OsState):R w os m7 (s6 w os).abs t7 ⟨298,0,321,15⟩:=congrFun (e7 w) os
noncomputable abbrev m6:Nat:=223+m7
noncomputable abbrev t6:List Stmt:=sl 61 8++t7
def r6(w:World)(os:OsState):R w os m6 (s5 w os).abs t6 ⟨249,0,252,12⟩:=piece_app (segRun_of (congrFun (e6 w) os)) (r7 w os)
noncomputable abbrev m5:Nat:=396+m6
noncomputable abbrev t5:List Stmt:=sl 45 16++t6
def r5(w:World)(os:OsState):R w os m5 (s4 w os).abs t5 ⟨176,0,181,16⟩:=piece_app (segRun_of (congrFun (e5 w) os)) (r6 w os)
noncomputable abbrev m4:Nat:=386+m5
noncomputable abbrev t4:List Stmt:=sl 31 14++t5
def r4(w:World)(os:OsState):R w os m4 (s3 w os).abs t4 ⟨115,0,115,8⟩:=piece_app (segRun_of (congrFun (e4 w) os)) (r5 w os)
noncomputable abbrev m3:Nat:=391+m4
noncomputable abbrev t3:List Stmt:=sl 15 16++t4
def r3(w:World)(os:OsState):R w os m3 (s2 w os).abs t3 ⟨49,0,53,15⟩:=piece_app (segRun_of (congrFun (e3 w) os)) (r4 w os)
noncomputable abbrev m2:Nat:=397+m3
noncomputable abbrev t2:List Stmt:=sl 0 15++t3
def r2(w:World)(os:OsState):R w os m2 (s1 w os).abs t2 ⟨0,0,0,0⟩:=piece_app (segRun_of (congrFun (e2 w) os)) (r3 w os)
def tb:bd=t2:=by kernel_rfl
def run(w:World)(os:OsState):topRun treeTable pg w 11 (some (.ref 6)) (12+(1+m2)) (sz w os) (topStub pg)=some (s7 w os):=by
 have r:=r2 w os;unfold R at r;rw[<-congrArg (λx=>restOf x env cE ⟨0,0,0,0⟩ B) tb]at r;exact go_top (congrFun (e0 w) os) (piece_block (congrFun (e1 w) os) r)
def op:∀w:World,(fencedOpening treeTable pg w 3702).map (λs=>(s.heap,s.gens,s.drawn,s.toks))=some (boot_heap w.params,Array.mk [],boot_drawn,boot_toks):=
 boot_open (by kernel_rfl) (by decide) (λs=>by kernel_rfl)
def size:∀w:World,((boot_heap w.params).isNs mainGlobals&&(Array.mk []:Array GenState).size==0,(boot_heap w.params).objs.size,(boot_heap w.params).nsMap mainGlobals "__annotations__")=(true,11,(some (.ref 6))):=by
 rw[W.Fast.te8920871248978507458];intro w;kernel_rfl
def K(P:Params):Frag:=(nat_lit 3,ns P (en P "__name__" 165 (.str "law_duskbook_k66_whole_places_changed" 600)) 64 65)::(nat_lit 20,oC "contrary" 189 2 1 15 (.ref 17) (.ref 18) 19 181 193)::(nat_lit 21,oF "contrary" 1 p0 20)::(nat_lit 25,oC "led_to" 196 4 2 22 .none .none 24 181 199)::(nat_lit 26,oF "led_to" 2 p0 25)::(nat_lit 32,oC "traced" 202 12 2 27 (.ref 29) (.ref 30) 31 181 209)::(nat_lit 33,oF "traced" 3 p0 32)::(nat_lit 39,oC "ways_from" 212 19 2 34 (.ref 36) (.ref 37) 38 181 221)::(nat_lit 40,oF "ways_from" 4 p0 39)::(nat_lit 41,⟨(.type "dict"),none,(.dict #[en P "eithers" 226 (.str "eithers" 227),en P "sums" 228 (.str "sums" 229),en P "ifs" 230 (.str "nots" 231),en P "nots" 232 (.str "ifs" 233)] 4),#[]⟩)::(nat_lit 45,oC "exchanged_rule" 239 32 2 42 .none .none 44 181 242)::(nat_lit 46,oF "exchanged_rule" 7 p1 45)::(nat_lit 50,oC "exchanged" 245 38 1 47 .none .none 49 181 248)::(nat_lit 51,oF "exchanged" 8 p1 50)::(nat_lit 55,oC "beacons_with" 253 42 3 52 .none .none 54 181 256)::(nat_lit 56,oF "beacons_with" 10 p2 55)::(nat_lit 62,oC "both_added" 261 45 2 57 (.ref 59) (.ref 60) 61 181 266)::(nat_lit 63,oF "both_added" 12 p3 62)::(nat_lit 69,oC "pairs_added" 269 47 2 64 (.ref 66) (.ref 67) 68 181 274)::(nat_lit 70,oF "pairs_added" 13 p3 69)::(nat_lit 76,oC "cleared" 277 49 2 71 (.ref 73) (.ref 74) 75 181 283)::(nat_lit 77,oF "cleared" 14 p3 76)::(nat_lit 81,oC "reduced" 286 54 1 78 .none .none 80 181 289)::(nat_lit 82,oF "reduced" 15 p3 81)::(nat_lit 86,oC "either_holds" 294 66 2 83 .none .none 85 181 297)::(nat_lit 87,oF "either_holds" 17 p4 86)::(nat_lit 91,oC "sum_holds" 300 68 2 88 .none .none 90 181 303)::(nat_lit 92,oF "sum_holds" 18 p4 91)::(nat_lit 96,oC "if_holds" 306 71 3 93 .none .none 95 181 309)::(nat_lit 97,oF "if_holds" 19 p4 96)::(nat_lit 103,oC "rule_holds" 312 75 3 98 (.ref 100) (.ref 101) 102 181 318)::(nat_lit 104,oF "rule_holds" 20 p4 103)::(nat_lit 108,oC "beacons_in" 321 81 2 105 .none .none 107 181 324)::(nat_lit 109,oF "beacons_in" 21 p4 108)::(nat_lit 115,oC "is_void" 327 87 2 110 (.ref 112) (.ref 113) 114 181 332)::(nat_lit 116,oF "is_void" 22 p4 115)::(nat_lit 120,oC "without" 335 89 2 117 .none .none 119 181 338)::(nat_lit 121,oF "without" 23 p4 120)::(nat_lit 127,oC "is_place" 343 92 2 122 (.ref 124) (.ref 125) 126 181 348)::(nat_lit 128,oF "is_place" 25 p5 127)::(nat_lit 132,oC "body_is_known" 351 94 2 129 .none .none 131 181 354)::(nat_lit 133,oF "body_is_known" 26 p5 132)::(nat_lit 139,oC "is_step" 357 96 3 134 (.ref 136) (.ref 137) 138 181 364)::(nat_lit 140,oF "is_step" 27 p5 139)::(nat_lit 146,oC "step_to_more" 367 101 2 141 (.ref 143) (.ref 144) 145 181 374)::(nat_lit 147,oF "step_to_more" 28 p5 146)::(nat_lit 151,oC "derived_in_full" 377 106 2 148 .none .none 150 181 380)::(nat_lit 152,oF "derived_in_full" 29 p5 151)::(nat_lit 156,oC "is_broken" 385 116 1 153 .none .none 155 181 388)::(nat_lit 157,oF "is_broken" 31 p6 156)::(nat_lit 163,oC "sayings_of" 393 119 1 158 (.ref 160) (.ref 161) 162 181 399)::(nat_lit 164,oF "sayings_of" 33 p7 163)::(nat_lit 170,oC "lead_to_one_another" 402 124 3 165 (.ref 167) (.ref 168) 169 181 408)::(nat_lit 171,oF "lead_to_one_another" 34 p7 170)::(nat_lit 177,oC "clash_found" 411 126 1 172 (.ref 174) (.ref 175) 176 181 417)::(nat_lit 178,oF "clash_found" 35 p7 177)::(nat_lit 184,oC "cross_found" 420 132 2 179 (.ref 181) (.ref 182) 183 181 427)::(nat_lit 185,oF "cross_found" 36 p7 184)::(nat_lit 191,oC "late_found" 430 138 3 186 (.ref 188) (.ref 189) 190 181 438)::(nat_lit 192,oF "late_found" 37 p7 191)::(nat_lit 196,oC "storms_paper" 441 144 4 193 .none .none 195 181 444)::(nat_lit 197,oF "storms_paper" 38 p7 196)::(nat_lit 203,oC "free_saying" 447 150 2 198 (.ref 200) (.ref 201) 202 181 453)::(nat_lit 204,oF "free_saying" 39 p7 203)::(nat_lit 210,oC "truths_made" 456 153 3 205 (.ref 207) (.ref 208) 209 181 465)::(nat_lit 211,oF "truths_made" 40 p7 210)::(nat_lit 217,oC "plan_row" 468 161 4 212 (.ref 214) (.ref 215) 216 181 476)::(nat_lit 218,oF "plan_row" 41 p7 217)::(nat_lit 222,oC "either_outcome" 479 166 3 219 .none .none 221 181 482)::(nat_lit 223,oF "either_outcome" 42 p7 222)::(nat_lit 229,oC "replaced" 487 176 2 224 (.ref 226) (.ref 227) 228 181 495)::(nat_lit 230,oF "replaced" 44 p8 229)::(nat_lit 234,oC "ahead_of" 498 182 2 231 .none .none 233 181 501)::(nat_lit 235,oF "ahead_of" 45 p8 234)::(nat_lit 241,oC "places_to_none" 506 185 2 236 (.ref 238) (.ref 239) 240 181 513)::(nat_lit 242,oF "places_to_none" 47 p9 241)::(nat_lit 246,oC "places_to_beacon" 516 190 3 243 .none .none 245 181 519)::(nat_lit 247,oF "places_to_beacon" 48 p9 246)::(nat_lit 251,oC "some_of" 522 195 2 248 .none .none 250 181 525)::(nat_lit 252,oF "some_of" 49 p9 251)::(nat_lit 258,oC "facts_beside" 528 197 3 253 (.ref 255) (.ref 256) 257 181 534)::(nat_lit 259,oF "facts_beside" 50 p9 258)::(nat_lit 265,oC "if_outcome" 537 199 3 260 (.ref 262) (.ref 263) 264 181 551)::(nat_lit 266,oF "if_outcome" 51 p9 265)::(nat_lit 272,oC "last_beacon" 556 216 1 267 (.ref 269) (.ref 270) 271 181 560)::(nat_lit 273,oF "last_beacon" 53 p10 272)::(nat_lit 277,oC "storms_places" 563 218 3 274 .none .none 276 181 566)::(nat_lit 278,oF "storms_places" 54 p10 277)::(nat_lit 282,oC "sum_rows" 569 223 2 279 .none .none 281 181 572)::(nat_lit 283,oF "sum_rows" 55 p10 282)::(nat_lit 289,oC "sum_outcome" 575 231 3 284 (.ref 286) (.ref 287) 288 181 585)::(nat_lit 290,oF "sum_outcome" 56 p10 289)::(nat_lit 291,tu [(.int (0) 590)])::(nat_lit 297,oC "outcome" 591 240 3 292 (.ref 294) (.ref 295) 296 181 597)::(nat_lit 298,⟨(.type "function"),none,(fn "outcome" "outcome" (Lw.top 58) (.ref 291) .none .none (.str "duskbook.outcomes" 588) none (.ref 297) .none 3 0),#[]⟩)::(nat_lit 304,oC "_law_cell" 602 249 2 299 (.ref 301) (.ref 302) 303 181 607)::(nat_lit 305,oF "_law_cell" 60 p11 304)::(nat_lit 311,oC "_law_mixed" 610 253 2 306 (.ref 308) (.ref 309) 310 181 615)::(nat_lit 312,oF "_law_mixed" 61 p11 311)::(nat_lit 316,oC "_law_hands" 618 255 2 313 .none .none 315 181 621)::(nat_lit 317,oF "_law_hands" 62 p11 316)::(nat_lit 326,oC "_law_rule" 630 260 4 323 .none .none 325 181 633)::(nat_lit 327,oF "_law_rule" 64 p11 326)::(nat_lit 333,oC "_law_moved" 636 280 2 328 (.ref 330) (.ref 331) 332 181 641)::(nat_lit 334,oF "_law_moved" 65 p11 333)::(nat_lit 338,oC "_law_changed" 644 286 3 335 .none .none 337 181 647)::(nat_lit 339,oF "_law_changed" 66 p11 338)::(nat_lit 345,oC "_law_hand" 650 293 3 340 (.ref 342) (.ref 343) 344 181 657)::(nat_lit 346,oF "_law_hand" 67 p11 345)::(nat_lit 350,oC "law" 660 298 1 347 .none .none 349 181 663)::(nat_lit 351,oF "law" 68 p11 350)::[]
def hk:Hook:=kHook K (3::20::21::25::26::32::33::39::40::41::45::46::50::51::55::56::62::63::69::70::76::77::81::82::86::87::91::92::96::97::103::104::108::109::115::116::120::121::127::128::132::133::139::140::146::147::151::152::156::157::163::164::170::171::177::178::184::185::191::192::196::197::203::204::210::211::217::218::222::223::229::230::234::235::241::242::246::247::251::252::258::259::265::266::272::273::277::278::282::283::289::290::291::297::298::304::305::311::312::316::317::326::327::333::334::338::339::345::346::350::351::[]) (λ_=>by kernel_rfl)
def Q:P7:={ pg with main:={ pg.main with body:=[Lw.top 68] } }
def ls:AL:=(["contrary","led_to","traced","ways_from","EXCHANGED_KINDS","exchanged_rule","exchanged","beacons_with","both_added","pairs_added","cleared","reduced","either_holds","sum_holds","if_holds","rule_holds","beacons_in","is_void","without","is_place","body_is_known","is_step","step_to_more","derived_in_full","is_broken","sayings_of","lead_to_one_another","clash_found","cross_found","late_found","storms_paper","free_saying","truths_made","plan_row","either_outcome","replaced","ahead_of","places_to_none","places_to_beacon","some_of","facts_beside","if_outcome","last_beacon","storms_places","sum_rows","sum_outcome","outcome","_law_cell","_law_mixed","_law_hands"]++["_law_own","_law_rule","_law_moved","_law_changed","_law_hand"]).map Str.ofString
noncomputable abbrev Xt(s:Shared):Bool:=xlAt Q [] s&&recOk (RowW.records (OpenRow.toRowW PySem.Challenge.rw_duskbook_k66_whole_places_changed.row)) s
def Yag9:∀w:World,(λos=>((staticsOk (importedModules pg.main.body) (boot_heap w.params) (h7 w.params)&&namesBound pg (h7 w.params)&&gensDone (s7 w os)&&laidKept (boot_heap w.params) (h7 w.params)),openSeen Q ls (importedModules pg.main.body) Xt true (s7 w os),Hook.obs hk (s7 w os)))=λ_=>(true,openGood Q ls,Hook.val hk w):=by
 rw[W.Fast.te5923862056798008813,W.Fast.te4187177175401517315];intro w;kernel_rfl
def left:LeftO pg Q ls Xt (Hook.obs hk) (Hook.val hk) 3702:=LeftO.of_pieces (H₁:=h7) (M:=12+(1+m2)) op size run (by decide) Yag9
end Op
end
noncomputable def PySem.W.Fast.tw12996766938387551322:PySem.Program:=PySem.Challenge.pw_duskbook_k66_whole_places_changed
theorem PySem.W.Fast.te12996766938387551322:PySem.Challenge.pw_duskbook_k66_whole_places_changed=PySem.W.Fast.tw12996766938387551322:=rfl
open PySem PySem.W PyProof.Rows
theorem PySem.Challenge.cw_duskbook_k66_whole_places_changed_holds : PySem.Challenge.rw_duskbook_k66_whole_places_changed.Holds := by
 w_on;o_law
 refine holds_open (q:=Op.Q) (loose:=Op.ls) (Xt:=Op.Xt) (XP:=XL Op.Q []) (Yf:=Hook.obs Op.hk) (Ya:=Hook.val Op.hk) (YP:=InK Op.K) (N:=3702) Op.left (Hook.of Op.hk) (Hook.keeps Op.hk) (λs e=>xl_of s (Bool.and_eq_true_iff.mp e).1) XL.keeps (by rfl) (by rfl) (by rfl) (λs e=>recFacts_of (Bool.and_eq_true_iff.mp e).2) (by rfl) (by assumption) (by decide +kernel) ⟨rfl,rfl,rfl,rfl,rfl,by decide +kernel⟩ ?hw ?hc
 (case hw=>w_witness2)
 k_fill
 refine Lw.walk Lw.law_true (l:=PySem.Challenge.rw_duskbook_k66_whole_places_changed) rfl rfl (K:=Op.K) (λw h Y=>Y) ?F
 case F=>
  intro w mg fa h KX G hmg;refine' Lw.all_mk KX G hmg ?_ ?_ ?_ ?_ ?_ ?_ ?_ ?_ ?_ ?_ ?_ ?_ ?_ ?_ ?_ ?_ ?_ ?_ ?_ ?_ ?_ ?_ ?_ ?_ ?_ ?_ ?_ ?_ ?_ ?_ ?_ ?_ ?_ ?_ ?_ ?_ ?_ ?_ ?_ ?_ ?_ ?_ ?_ ?_ ?_ ?_ ?_ ?_ ?_ ?_ ?_ ?_ ?_ ?_ ?_ ?_ ?_ ?_ ?_ ?_ ?_ ?_ ?_ ?_ ?_ ?_ ?_ ?_ ?_ ?_ ?_ ?_ ?_
  all_goals (try (first|(refine' Lw.fkd_mk ?a ?l ?c ?k ?t;(case a=>k_is);(case l=>k_is);(case c=>k_is);(case k=>k_is);(case t=>k_is))|(refine' Lw.fk_mk ?a ?l ?c ?k;(case a=>k_is);(case l=>k_is);(case c=>k_is);(case k=>k_is))|k_is))
