import PyProof.Rows.All
import Wide.All
import OpenK.AllK
import Wide.FinOn
import Lean
import PyProof.EqAt
import PyProof.EqKinds
import PyProof.TupleCall
import PySem.Challenge.RW_duskbook_k65_whole_less_to_break
set_option Elab.async false
set_option linter.all false
set_option compiler.extract_closed false
set_option maxRecDepth 100000
abbrev fsc(l:List (PySem.Str×PySem.NameKind)):PySem.Scope:={ kind:=.function,names:=l,isGenerator:=false,isCoroutine:=false,more:=[] }
def qa{α β:Type _}{o:Option α}{f:α->Option β}{b:β}(h:o.bind f=some b):∃a,o=some a/\f a=some b:=Option.bind_eq_some_iff.mp h
def qc{α β:Type _}{o:Option α}{f:α->β}{b:β}(h:o.map f=some b):∃a,o=some a/\f a=b:=Option.map_eq_some_iff.mp h
def qd:=@Option.bind_some
def qe:=@PySem.Heap.get?_push_of_some
def qf:=@List.length_map
def qg:=@List.mem_cons_of_mem
def qh:=@List.mem_cons_self
def qi:=@Bool.false_ne_true
def qj:=@Array.length_toList
def qk:=@List.size_toArray
def ql:=@PySem.Heap.lt_size
def qm:=@Nat.ne_of_lt
def qo{α:Type _}{l:List α}{i:Nat}{a:α}(h:l[i]?=some a):∃h:i<l.length,l[i]=a:=List.getElem?_eq_some_iff.mp h
def qp:=@PySem.Heap.get?_push_size
def qq:=@List.getElem?_eq_getElem
def qr:=@List.length_cons
def qt{α:Type _}{a b:α}{l:List α}(h:a∈b::l):a=b\/a∈l:=List.mem_cons.mp h
def qu:=@Nat.le_refl
def qv{α:Type _}{a:α}{s t:List α}(h:a∈s++t):a∈s\/a∈t:=List.mem_append.mp h
def qw{α β:Type _}{b:β}{f:α->β}{l:List α}(h:b∈l.map f):∃a,a∈l/\f a=b:=List.mem_map.mp h
def qx:=@List.length_append
def qy(h:m∈List.range n):m<n:=List.mem_range.mp h
def qz{α:Type _}{p:α->Bool}{l:List α}{a:α}(h:a∈l.filter p):a∈l/\p a=true:=List.mem_filter.mp h
def Qa:=@List.map_cons
def Qb:=@Bool.and_eq_true
def Qc:=@Nat.lt_of_lt_of_le
def Qd:=@List.nil_append
def Qe:=@List.map_map
def Qf:=@List.getElem?_set_ne
def Qg:=@Nat.le_trans
def Qh:=@List.getElem?_map
def Qi:=@List.mem_append_right
def Qj:=@List.map_congr_left
def Qk:=@List.getD_eq_getElem?_getD
def Ql:=@List.eraseIdx_eq_take_drop_succ
set_option maxHeartbeats 4000000
local macro_rules|`(tactic|trivial)=>`(tactic|first|exact .inl rfl|exact .inr rfl|exact .inr (.inl rfl)|exact .inr (.inr rfl)|assumption)
local macro_rules|`(~~~$x)=>`(($x).heap.objs.size)|`(↑$x)=>`(some (.sh $x))
abbrev AB:=PySem.Value->PySem.Shared->Prop
abbrev AC:=List (PySem.Addr×PySem.Obj)
abbrev AD:=List PySem.Value
abbrev AE:=PySem.Str->Option PySem.Value
abbrev AG:=List Nat
abbrev AH:=List Int
abbrev AJ:=List Bool
abbrev AK:=Nat->Bool
abbrev AL:=List PySem.Str
abbrev AM:=List PySem.Expr
abbrev AN:=Option Nat
def wa:=@PySem.wpAny_bind
def wb:=@PySem.wpAny_pure
def wc:=@PySem.wpAny_holding
def we:=@PySem.wpAny_call_entry
def wg:=@PySem.wpAny_newObj_type
def wj:=@PySem.wpAny_setState_of
def wm:=@decide_eq_true_eq
def wn:=@decide_eq_true
def wo:=@decide_eq_false
def wq:=@of_decide_eq_true
def wt:=@List.map_append
def wu:=@Function.comp_def
def wv:=@PySem.Heap.SameBut.update
def ww:=@PySem.Heap.size_push
def wy:=@PySem.Heap.get?_update_self
def wz:=@PySem.codeAny_builtin
def w5:=@PySem.wpAny_mono
def w6:=@Option.some.inj
def w9:=@Int.toNat_natCast
def ja:=@List.append_nil
def jb:=@Nat.zero_le
def jc:=@List.append_assoc
def jd:=@List.length_singleton
def je:=@PySem.plainId_quiet
def jf:=@PySem.Around.under_plainId
def jg:=@PySem.PassesOwn.never
def jh:=@PySem.Obj.data_mapFields
def ji:=@PySem.wpAny_attempt
def jj:=@PySem.sizeLine_eq
noncomputable section
namespace L2
open PySem PySem.Spec PyProof.Rows
abbrev Key:=Sum Int Str
def Ytw:Key->Value->Bool
 | .inl k,v=>Value.isInt k v
 | .inr x,v=>Value.isStrOf x v
def keyH(w:World):Key->Int
 | .inl k=>hashInt k
 | .inr x=>hashStr w x
theorem Ya7:∀{k:Key}{v:Value},Ytw k v=true->(∃i t,k=Sum.inl i/\v=Value.int i t)\/(∃x t,k=Sum.inr x/\v=Value.str x t)
 | .inl i,v,h=>by
   obtain⟨t,e⟩:=Value.isInt_shape (k:=i) (v:=v) h;grind
 | .inr x,v,h=>by
   obtain⟨t,e⟩:=Value.isStrOf_shape (x:=x) (v:=v) h;grind
def Yzf(i:Int)(t:Tok):Ytw (.inl i) (.int i t)=true:=by simp[Ytw,Value.isInt]
def Yzg(x:Str)(t:Tok):Ytw (.inr x) (.str x t)=true:=by simp[Ytw,Value.isStrOf]
theorem Yaau(a b:Int):decide ((Sum.inl a:Key)=Sum.inl b)=(a==b):=by grind
theorem Yaav(a b:Str):decide ((Sum.inr a:Key)=Sum.inr b)=decide (a=b):=by grind
theorem Yaaw(a:Int)(b:Str):decide ((Sum.inl a:Key)=Sum.inr b)=false:=by grind
theorem Yaax(a:Str)(b:Int):decide ((Sum.inr a:Key)=Sum.inl b)=false:=by grind
def Yah(prog:Program)(w:World):KeyKind prog w Key where
 is:=Ytw
 hash:=keyH w
 inj:=λv a b ha hb=>by
  rcases Ya7 ha with⟨i,t,rfl,rfl⟩|⟨x,t,rfl,rfl⟩
  ·rcases Ya7 hb with⟨j,u,rfl,e⟩|⟨y,u,rfl,e⟩
   ·grind
   grind
  ·rcases Ya7 hb with⟨j,u,rfl,e⟩|⟨y,u,rfl,e⟩
   ·grind
   grind
 byValue:=λk v h=>by
  rcases Ya7 h with⟨i,t,rfl,rfl⟩|⟨x,t,rfl,rfl⟩<;>rfl
 pyHash:=λhv h=>by
  rcases Ya7 hv with⟨i,t,rfl,rfl⟩|⟨x,t,rfl,rfl⟩
  ·exact wpAny_pyHash_int h
  ·exact wpAny_pyHash_str h
 eqBool:=λhu hv h=>by
  rcases Ya7 hu with⟨i,t,rfl,rfl⟩|⟨x,t,rfl,rfl⟩
  ·rcases Ya7 hv with⟨j,u,rfl,rfl⟩|⟨y,u,rfl,rfl⟩
   ·rw[Yaau]at h;exact wpAny_eqBool_int h
   ·rw[Yaaw]at h;exact SeqAt.EqAt.int_str i t y u _ _ _ _ h
  ·rcases Ya7 hv with⟨j,u,rfl,rfl⟩|⟨y,u,rfl,rfl⟩
   ·rw[Yaax]at h;exact SeqAt.EqAt.str_int x t j u _ _ _ _ h
   ·rw[Yaav]at h;exact wpAny_eqBool_str h
 «strs»:=λk x t v h=>by
  rcases Ya7 h with⟨i,u,rfl,e⟩|⟨y,u,rfl,e⟩
  ·grind
  ·injection e with e1 _
   subst e1;cases v<;>rfl
def Ytx(prog:Program)(w:World)(i:Int)(t:Tok):(Yah prog w).is (.inl i) (.int i t)=true:=Yzf i t
def Yty(prog:Program)(w:World)(x:Str)(t:Tok):(Yah prog w).is (.inr x) (.str x t)=true:=Yzg x t
inductive V where
 | non|bl (b:Bool)|int (i:Int)|str (x:Str)|byt (b:Array UInt8)|flt (b:UInt64)|ref (a:Addr)|ty (n:String)
 deriving DecidableEq
abbrev AQ:=List V
def RelV:V->Value->Prop
 | .non,u=>u=Value.none
 | .bl b,u=>u=Value.bool b
 | .int i,u=>∃t,u=Value.int i t
 | .str x,u=>∃t,u=Value.str x t
 | .byt b,u=>∃t,u=Value.bytes b t
 | .flt b,u=>∃t,u=Value.float b t
 | .ref a,u=>u=Value.ref a
 | .ty n,u=>u=Value.type n
abbrev Vals:AQ->AD->Prop:=Paired RelV
def Vals.length(r:Vals xs us):xs.length=us.length:=Paired.length r
theorem Vals.get:∀{xs:AQ}{us:AD}{i:Nat}{x:V},Vals xs us->xs[i]?=some x->∃u,us[i]?=some u/\RelV x u
 | _,_,_,_,.nil,e=>by simp at e
 | _,_,0,_,.cons r _,e=>by simp at e;subst e;exact⟨_,rfl,r⟩
 | _,_,i+1,x,.cons _ t,e=>by
   obtain⟨u,h1,h2⟩:=Vals.get (i:=i) (x:=x) t (by simpa using e);exact⟨u,by simpa using h1,h2⟩
theorem Vals.append:∀{xs ys:AQ}{us ws:AD},Vals xs us->Vals ys ws->Vals (xs++ys) (us++ws)
 | _,_,_,_,.nil,s=>s
 | _,_,_,_,.cons r t,s=>.cons r (Vals.append t s)
theorem Vals.take:∀{xs:AQ}{us:AD} (n:Nat),Vals xs us->Vals (xs.take n) (us.take n)
 | _,_,0,_=>.nil
 | _,_,_+1,.nil=>.nil
 | _,_,n+1,.cons r t=>.cons r (Vals.take n t)
theorem Vals.drop:∀{xs:AQ}{us:AD} (n:Nat),Vals xs us->Vals (xs.drop n) (us.drop n)
 | _,_,0,r=>r
 | _,_,_+1,.nil=>.nil
 | _,_,n+1,.cons _ t=>Vals.drop n t
def RelO:Option V->Option Value->Prop
 | some v,some u=>RelV v u
 | none,none=>True
 | _,_=>False
def KV{κ:Type}:List (κ×V)->List (κ×Value)->Prop:=Paired fun(p:κ×V) (q:κ×Value)=>p.1=q.1/\RelV p.2 q.2
def kV:Key->V
 | .inl i=>.int i
 | .inr x=>.str x
inductive HO where
 | lst (xs:AQ)
 | tup (xs:AQ)
 | dK (kvs:List (Key×V))|dT (kvs:List (List Key×V))
 | set (S:Int->Bool) (n:Nat)
 | ins (C dx:Addr) (fs:List (Str×V))
 | own (x:Addr)
 | xd (fs:List (Str×V))
 | met (f x:Addr)
 | rng (lo hi:Int)
 | frz (o:Obj) (u:HO)
 | tbl (ps:Array Value)
 | ext (φ:Heap->Prop)
abbrev Hp:=Addr->Option HO
def upd(H:Hp)(a:Addr)(o:HO):Hp:=λb=>if b=a then some o else H b
theorem Yt:upd H a o a=some o:=by unfold upd;grind
def Yaa(h:b≠a):upd H a o b=H b:=by unfold upd;rw[if_neg h]
theorem Yae0{H:Hp}(h:H a=some o)(h':H b=some u)(d:o≠u):a≠b:=by grind
theorem Yy{H:Hp}(h:H a=some o)(h':H b=none):a≠b:=by grind
section
variable (P:Program) (w:World)
def ObjOk(H:Hp)(h:Heap)(a:Addr):HO->Prop
 | .lst xs=>xs.length<=sizeLine/\∃(its:AD) (n:Nat),Vals xs its/\h.get? a=some { cls:=.type "list",data:=.seq its.toArray n }
 | .tup xs=>xs.length<=sizeLine/\∃its:AD,Vals xs its/\IsTup h a its.toArray
 | .dK kvs=>kvs.length<=sizeLine/\(a==sysModules)=false/\∃vs,KV kvs vs/\h.DictOf (Yah P w) a vs
 | .dT kvs=>kvs.length<=sizeLine/\(a==sysModules)=false/\∃xs:List (List Key×Addr×Value),
  Paired (fun(p:List Key×V) (q:List Key×Addr×Value)=>p.1=q.1/\H q.2.1=some (.tup (p.1.map kV))/\RelV p.2 q.2.2) kvs xs/\
  ∃o es ep,h.get? a=some o/\o.ExactDict/\o.data=.dict es ep/\es.toList=xs.map (entryOfKey (tupleKind (Yah P w)))/\(xs.map (·.1)).Nodup
 | .set S n=>h.SetOf (intKind P w) a S n
 | .ins C dx fs=>H dx=some (.own a)/\fs.length<=1000/\dx≠a/\h.get? a=some (W.instObj C dx)/\
  ∃mA,h.Ns1 dx mA/\(∀f,RelO (fs.lookup f) (mA f))/\PySem.Within mA (fs.map (·.1))
 | .own _=>∃o,h.get? a=some o
 | .xd fs=>∃mA,h.Ns1 a mA/\∀f,RelO (fs.lookup f) (mA f)
 | .rng lo hi=>∃t u v,h.get? a=some { cls:=.type "range",data:=.fields #[.int lo t,.int hi u,.int 1 v] }
 | .frz o u=>h.get? a=some o/\ObjOk H h a u
 | .tbl ps=>h.get? a=some { cls:=.none,data:=.fields ps }
 | .met f x=>h.get? a=some (W.methodObj (.ref f) (.ref x))
 | .ext φ=>φ h/\(∃o,h.get? a=some o)/\∀h1 h2:Heap,φ h1->(∀o,h1.get? a=some o->h2.get? a=some o)->φ h2
def HOk(H:Hp)(h:Heap):Prop:=∀a o,H a=some o->ObjOk P w H h a o
end
section
variable {P:Program}{w:World}{H H':Hp}{h h':Heap}{a:Addr}{o:HO}
def ObjOk.lt(x:ObjOk P w H h a o):a<h.objs.size:=by
 cases o with
 | lst xs=>obtain⟨_,_,_,_,e⟩:=x;exact ql e
 | tup xs=>obtain⟨_,_,_,p⟩:=x;exact p.lt
 | dK kvs=>obtain⟨_,_,_,_,o,_,_,e,_⟩:=x;exact ql e
 | dT kvs=>obtain⟨_,_,_,_,o,_,_,e,_⟩:=x;exact ql e
 | set S n=>obtain⟨o,_,_,_,e,_⟩:=x;exact ql e
 | ins C dx fs=>obtain⟨_,_,_,e,_⟩:=x;exact ql e
 | own y=>obtain⟨_,e⟩:=x;exact ql e
 | xd fs=>obtain⟨_,⟨_,_,_,e,_⟩,_⟩:=x;exact ql e
 | rng lo hi=>obtain⟨_,_,_,e⟩:=x;exact ql e
 | frz ob u=>obtain⟨e,_⟩:=x;exact ql e
 | tbl ps=>exact ql (show h.get? a=some _ from x)
 | met f y=>exact ql (show h.get? a=some _ from x)
 | ext φ=>obtain⟨_,⟨_,e⟩,_⟩:=x;exact ql e
theorem Paired.mapP:∀{l₁:List α}{l₂:List β},Paired F l₁ l₂->(∀a b,F a b->G a b)->Paired G l₁ l₂
 | _,_,.nil,_=>.nil
 | _,_,.cons r t,f=>.cons (f _ _ r) (Paired.mapP t f)
theorem ObjOk.stay(x:ObjOk P w H h a o)(k:∀b u,(b=a\/H b=some (.own a))->h.get? b=some u->h'.get? b=some u)(ho:∀b,H b=some (.own a)->H' b=some (.own a))(ht:∀b xs,H b=some (.tup xs)->H' b=some (.tup xs)):ObjOk P w H' h' a o:=by
 induction o with
 | lst xs=>obtain⟨z,its,n,r,e⟩:=x;exact⟨z,its,n,r,k _ _ (.inl rfl) e⟩
 | tup xs=>obtain⟨z,its,r,ob,e,c⟩:=x;exact⟨z,its,r,ob,k _ _ (.inl rfl) e,c⟩
 | dK kvs=>obtain⟨z,y,vs,r,ob,es,ep,e,c⟩:=x;exact⟨z,y,vs,r,ob,es,ep,k _ _ (.inl rfl) e,c⟩
 | dT kvs=>
   obtain⟨z,y,xs,r,ob,es,ep,e,c⟩:=x;exact⟨z,y,xs,Paired.mapP r λp q z=>⟨z.1,ht _ _ z.2.1,z.2.2⟩,ob,es,ep,k _ _ (.inl rfl) e,c⟩
 | set S n=>obtain⟨ob,es,ep,t,e,c⟩:=x;exact⟨ob,es,ep,t,k _ _ (.inl rfl) e,c⟩
 | ins C dx fs=>
   obtain⟨d,z,ne,e,mA,⟨od,es,ep,e2,c⟩,r⟩:=x;exact⟨ho _ d,z,ne,k _ _ (.inl rfl) e,mA,⟨od,es,ep,k _ _ (.inr d) e2,c⟩,r⟩
 | own y=>obtain⟨ob,e⟩:=x;exact⟨ob,k _ _ (.inl rfl) e⟩
 | xd fs=>obtain⟨mA,⟨od,es,ep,e,c⟩,r⟩:=x;exact⟨mA,⟨od,es,ep,k _ _ (.inl rfl) e,c⟩,r⟩
 | rng lo hi=>obtain⟨t,u,v,e⟩:=x;exact⟨t,u,v,k _ _ (.inl rfl) e⟩
 | frz ob u ih=>obtain⟨e,q⟩:=x;exact⟨k _ _ (.inl rfl) e,ih q⟩
 | tbl ps=>
   have e:h.get? a=some { cls:=.none,data:=.fields ps }:=x;show h'.get? a=some { cls:=.none,data:=.fields ps };grind
 | met f y=>
   have e:h.get? a=some (W.methodObj (.ref f) (.ref y)):=x;show h'.get? a=some (W.methodObj (.ref f) (.ref y));grind
 | ext φ=>obtain⟨p,⟨o,e⟩,st⟩:=x;exact⟨st _ _ p λo q=>k _ _ (.inl rfl) q,⟨o,k _ _ (.inl rfl) e⟩,st⟩
def HOk.lt(x:HOk P w H h)(e:H a=some o):a<h.objs.size:=(x a o e).lt
def HOk.fresh(x:HOk P w H h)(e:h.objs.size<=a):H a=none:=by
 cases q:H a with
 | none=>rfl
 | some u=>exact absurd (Qc (x.lt q) e) (Nat.lt_irrefl _)
def HOk.kept(x:HOk P w H h)(k:∀b u,h.get? b=some u->h'.get? b=some u):HOk P w H h':=λa o e=>
 (x a o e).stay (λb u _ q=>k b u q) (λ_ q=>q) λ_ _ q=>q
theorem HOk.laid(x:HOk P w H h)(k:∀b u,h.get? b=some u->h'.get? b=some u)(hp:h.objs.size<=a)(new:ObjOk P w (upd H a o) h' a o):HOk P w (upd H a o) h':=λb u e=>by
 have hn:=x.fresh hp;by_cases hb:b=a
 ·subst hb;rw[Yt]at e;grind
 ·rw[Yaa hb]at e
  exact(x b u e).stay (λc v _ q=>k c v q) (λc q=>by rw[Yaa (Yy q hn)];exact q) λc xs q=>by rw[Yaa (Yy q hn)];exact q
end
def Rd(H:Hp)(a:Addr)(u:HO):Prop:=H a=some u\/∃o,H a=some (.frz o u)
def Rd.ok(r:Rd H a u)(x:HOk P w H h):ObjOk P w H h a u:=by
 rcases r with r|⟨o,r⟩
 ·exact x a u r
 ·obtain⟨_,q⟩:=x a _ r
  exact q
def Mut:Option HO->Prop
 | some (.lst _)=>True
 | some (.dK _)=>True
 | some (.dT _)=>True
 | some (.set _ _)=>True
 | some (.ins _ _ _)=>True
 | some (.ext _)=>True
 | _=>False
section
variable {P:Program}{w:World}{H:Hp}{h h':Heap}{x e:Addr}{o':HO}
theorem HOk.write(ok:HOk P w H h)(mu:Mut (H x))(he:e=x\/H e=some (.own x))(k:∀b u,b≠e->h.get? b=some u->h'.get? b=some u)(heo:∃u,h'.get? e=some u)(new:ObjOk P w (upd H x o') h' x o'):HOk P w (upd H x o') h':=λb u q=>by
 have nown:∀c y,H c=some (.own y)->c≠x:=λc y r z=>by subst z;rw[r]at mu;exact mu
 have ntup:∀c xs,H c=some (.tup xs)->c≠x:=λc xs r z=>by subst z;rw[r]at mu;exact mu
 by_cases hb:b=x
 ·subst hb;rw[Yt]at q;grind
 ·rw[Yaa hb]at q
  by_cases hbe:b=e
  ·have q':H b=some (.own x):=by
    grind
   rw[q]at q';cases q';obtain⟨v,hv⟩:=heo;exact⟨v,by grind⟩
  ·refine(ok b u q).stay (λc v hc r=>k c v ?_ r) (λc r=>by rw[Yaa (nown c b r)];exact r) λc xs r=>by rw[Yaa (ntup c xs r)];exact r
   grind
end
structure Un(fs ex:List Addr)(H H':Hp)(h h':Heap):Prop where
 keep:∀b o,h.get? b=some o->H b=none->b∉fs->b∉ex->h'.get? b=some o
 slot:∀b o,h.get? b=some o->H b=none->b∈fs->b∉ex->∃sl,h'.get? b=some { o with slots:=sl }
 free:∀b o,h.get? b=some o->H b=none->b∉ex->H' b=none
 there:∀b o,h.get? b=some o->b∉ex->∃o',h'.get? b=some o'
 tups:∀b xs,H b=some (.tup xs)->H' b=some (.tup xs)
 frzs:∀b o u,H b=some (.frz o u)->H' b=some (.frz o u)
 tbls:∀b ps,H b=some (.tbl ps)->∃more,H' b=some (.tbl (ps++more))
section
variable {fs fs' ex ex':List Addr}{H H1 H2:Hp}{h h1 h2 h':Heap}{a x e:Addr}{o:HO}
def Un.any(u:Un fs ex H H1 h h1)(q:h.get? b=some ob)(n:H b=none)(hx:b∉ex):∃sl,h1.get? b=some { ob with slots:=sl }:=by
 by_cases hb:b∈fs
 ·exact u.slot b ob q n hb hx
 ·exact⟨ob.slots,u.keep b ob q n hb hx⟩
def Un.kept(k:∀b u,h.get? b=some u->h'.get? b=some u):Un fs ex H H h h':=
 ⟨λb ob q _ _ _=>k b ob q,λb ob q _ _ _=>⟨ob.slots,k b ob q⟩,λ_ _ _ n _=>n,λb ob q _=>⟨ob,k b ob q⟩,λ_ _ q=>q,λ_ _ _ q=>q,λ_ ps q=>⟨#[],by rw[q];simp⟩⟩
def Un.refl:Un fs ex H H h h:=Un.kept λ_ _ q=>q
def Un.laid(k:∀b u,h.get? b=some u->h'.get? b=some u)(hp:h.objs.size<=a)(hn:H a=none):Un fs ex H (upd H a o) h h' where
 keep:=λb u q _ _ _=>k b u q
 slot:=λb u q _ _ _=>⟨u.slots,k b u q⟩
 free:=λb u q n _=>by rw[Yaa (qm (Qc (ql q) hp))];exact n
 there:=λb u q _=>⟨u,k b u q⟩
 tups:=λb xs q=>by rw[Yaa (Yy q hn)];exact q
 frzs:=λb u xs q=>by rw[Yaa (Yy q hn)];exact q
 tbls:=λb ps q=>⟨#[],by rw[Yaa (Yy q hn),q];simp⟩
theorem Un.write(mu:Mut (H x))(he:e=x\/H e=some (.own x))(k:∀b u,b≠e->h.get? b=some u->h'.get? b=some u)(heo:∃u,h'.get? e=some u):Un fs ex H (upd H x o) h h':=by
 have hx:∀b,H b=none->b≠x:=λb n z=>by subst z;rw[n]at mu;exact mu
 have hb:∀b,H b=none->b≠e:=λb n z=>by
  grind
 have hm:∀b u,H b=some u->¬Mut (some u)->b≠x:=λb u q nm z=>by grind
 refine⟨λb u q n _ _=>k b u (hb b n) q,λb u q n _ _=>⟨u.slots,k b u (hb b n) q⟩,λb u q n _=>by rw[Yaa (hx b n)];exact n,λb u q _=>?_,
  λb xs q=>by rw[Yaa (hm b _ q λz=>z)];exact q,λb u xs q=>by rw[Yaa (hm b _ q λz=>z)];exact q,λb ps q=>⟨#[],by rw[Yaa (hm b _ q λz=>z),q];simp⟩⟩
 grind
end
def trk(h:Heap)(H:Hp):List Addr:=(List.range h.objs.size).filter λa=>(H a).isSome
def hidT(h:Heap)(H:Hp):Heap:=W.hideAll h (trk h H)
def Yzh(h:Heap)(H:Hp):(hidT h H).objs.size=h.objs.size:=W.hideAll_size _ _
theorem y33(e:h.get? b=some o)(n:H b=none):(hidT h H).get? b=some o:=
 W.hideAll_get _ e λhm=>by
  have q:(H b).isSome=true:=(qz hm).2;grind
theorem y7t(e:(hidT h H).get? b=some o):h.get? b=some o/\H b=none:=by
 have e':h.get? b=some o:=W.of_hideAll (trk h H) e;refine⟨e',?_⟩
 cases q:H b with
 | none=>rfl
 | some x=>
   have hm:b∈trk h H:=List.mem_filter.mpr ⟨List.mem_range.mpr (ql e'),by simp[q]⟩;have z:(hidT h H).get? b=none:=W.hideAll_none (trk h H) hm;grind
structure Mod(K:W.Frag)(mg:AE)(base:Heap):Prop where
 kin:K.In base
 glob:base.Ns mainGlobals mg
 blt:∃mb,base.Ns builtinsNs mb/\∀x:Str,x≠"__name__"->mb x=bootBuiltins x
 nolimit:base.NoLimit
structure Cx where
 prog:Program
 w:World
 K:W.Frag
 mg:AE
 base:Heap
 A:Around
 N:AL
 s₀:Shared
 H₀:Hp
 env:Env
 outer:List Env
 stack:List Env
 ex:List Addr
 fn:Str->Bool
 calm:Bool
 pn:AC
 xe:AB
def frs(l:List Env):List Addr:=l.filterMap (·.frame)
abbrev Cx.fs(X:Cx):List Addr:=frs X.outer
def Vis(sc:Scope)(x:Str):Prop:=sc.names.lookup x=some .local\/sc.names.lookup x=some .cell\/sc.names.lookup x=some .free
def Loc(sc:Scope)(x:Str):Prop:=sc.names.lookup x=some .local\/sc.names.lookup x=some .cell
def Look(env:Env)(h:Heap)(m:AE)(x:Str)(u:Value):Prop:=
 (env.kindOf x=some .local/\m x=some u)\/((env.kindOf x=some .cell\/env.kindOf x=some .free)/\∃c,env.cells.lookup x=some c/\h.IsCell c (some u))
structure Cx.Ok(X:Cx):Prop where
 mod:Mod X.K X.mg X.base
 kind:X.env.scope.kind=.function
 glob:X.env.globals=mainGlobals
 blt:X.env.builtins=builtinsNs
 above:X.s₀.heap.objs.size<=X.env.locals
 inj:∀x y c,X.env.cells.lookup x=some c->X.env.cells.lookup y=some c->x=y
 has:∀x,(X.env.kindOf x=some .cell\/X.env.kindOf x=some .free)->∃c,X.env.cells.lookup x=some c
 cab:∀x c,X.fn x=true->X.env.cells.lookup x=some c->X.s₀.heap.objs.size<=c
 hd:X.calm=true->X.A.handled=none
 frames:X.A.frames=some X.stack
 stk:X.stack=X.outer\/(X.stack=X.env::X.outer/\X.env.frame=some X.env.locals)
 exf:∀b∈X.ex,b≠X.env.locals/\∀x c,X.env.cells.lookup x=some c->c≠b
 bs:∀b o,X.base.get? b=some o->X.s₀.heap.get? b=some o/\X.H₀ b=none
 bsz:X.base.objs.size<=X.s₀.heap.objs.size
 noex:∀b o,X.base.get? b=some o->b∉X.ex
 exfs:∀b∈X.ex,b∉X.fs
 funs:X.s₀.heap.FunFrames X.base X.outer
 frf:∀b∈X.fs,X.H₀ b=none
structure Inv(X:Cx)(pins:AC)(σ:List (Option V))(H:Hp)(s:Shared):Prop where
 ok:X.Ok
 os:s.os=X.s₀.os
 bare:AllBare s.gens
 base:Un X.fs X.ex X.H₀ H X.s₀.heap s.heap
 loc:∃m,s.heap.Ns X.env.locals m/\∀(i:Nat) (x:Str) (v:V),X.N[i]?=some x->σ[i]?=some (some v)->Vis X.env.scope x->∃u,RelV v u/\Look X.env s.heap m x u
 cell:∀x c,X.env.cells.lookup x=some c->∃v,s.heap.IsCell c v
 free:H X.env.locals=none
 freeC:∀x c,X.env.cells.lookup x=some c->H c=none
 pin:∀p∈X.pn++pins,s.heap.get? p.1=some p.2/\H p.1=none/\p.1≠X.env.locals/\p.1∉X.fs/\∀v,p.2.data≠.cell v
 hok:HOk X.prog X.w H s.heap
 len:σ.length=X.N.length
section
variable {X:Cx}{pins:AC}{σ:List (Option V)}{H H':Hp}{s:Shared}{h':Heap}
theorem Cx.Ok.nofr(ok:X.Ok)(e:X.base.get? b=some o):b∉X.fs:=λhb=>by
 have:=(ok.funs.mem hb).1;grind
def Inv.bs(I:Inv X pins σ H s):∀b o,X.base.get? b=some o->s.heap.get? b=some o/\H b=none:=λb o e=>
 ⟨I.base.keep b o (I.ok.bs b o e).1 (I.ok.bs b o e).2 (I.ok.nofr e) (I.ok.noex b o e),I.base.free b o (I.ok.bs b o e).1 (I.ok.bs b o e).2 (I.ok.noex b o e)⟩
def Inv.bk(I:Inv X pins σ H s):∀b o,X.base.get? b=some o->s.heap.get? b=some o:=λb o e=>(I.bs b o e).1
def Inv.mod(I:Inv X pins σ H s):Mod X.K X.mg X.base:=I.ok.mod
def Inv.kIn(I:Inv X pins σ H s):X.K.In s.heap:=I.ok.mod.kin.keeps I.bk
def Inv.lt(I:Inv X pins σ H s):X.env.locals< ~~~s:=let ⟨_,hn,_⟩:=I.loc;hn.lt
def Inv.sz(I:Inv X pins σ H s):X.s₀.heap.objs.size<= ~~~s:=Qg I.ok.above (Nat.le_of_lt I.lt)
def Inv.nofs(I:Inv X pins σ H s){a:Addr}(h:(~~~s)<=a):a∉X.fs:=λhb=>by
 obtain⟨_,o,ho,_⟩:=I.ok.funs.mem hb;exact absurd (Qc (ql ho) (Qg I.sz h)) (Nat.lt_irrefl _)
theorem Inv.cne(I:Inv X pins σ H s):∀x c,X.env.cells.lookup x=some c->c≠X.env.locals:=λx c e z=>by
 obtain⟨v,o,ho,hd⟩:=I.cell x c e;obtain⟨m,⟨o',es,ep,ho',hd',_⟩,_⟩:=I.loc;grind
theorem Inv.funs(I:Inv X pins σ H s):s.heap.FunFrames X.base X.outer:=by
 have all:∀(l:List Env),(∀b∈frs l,b∈X.fs)->X.s₀.heap.FunFrames X.base l->s.heap.FunFrames X.base l:=by
  intro l
  induction l with
  | nil=>intro _ _;trivial
  | cons env r ih=>
    intro hs hl;obtain⟨hk,⟨L,o,hf,hn,ho,hd⟩,hr⟩:=hl;have hL:L∈X.fs:=hs L (by unfold frs;grind);obtain⟨sl,e⟩:=I.base.slot L o ho (I.ok.frf L hL) hL λz=>I.ok.exfs L z hL;exact⟨hk,⟨L,_,hf,hn,e,hd⟩,ih (λb hb=>hs b (by unfold frs;rw[List.filterMap_cons,hf];exact qg _ hb)) hr⟩
 exact all X.outer (λ_ hb=>hb) I.ok.funs
theorem Inv.stack(I:Inv X pins σ H s):s.heap.FunFrames X.base X.stack:=by
 rcases I.ok.stk with e|⟨e,hf⟩
 ·rw[e];exact I.funs
 ·rw[e]
  obtain⟨m,hn,_⟩:=I.loc;refine .cons (by rw[I.ok.kind];decide) hf hn ?_ I.funs;exact Heap.get?_none_of_le (Qg I.ok.bsz I.ok.above)
theorem Inv.stkSub(I:Inv X pins σ H s):∀b∈frs X.stack,b∈X.env.locals::X.fs:=λb hb=>by
 rcases I.ok.stk with e|⟨e,hf⟩
 ·grind
 ·rw[e]at hb
  unfold frs at hb;rw[List.filterMap_cons,hf]at hb;exact hb
def Inv.stkFree(I:Inv X pins σ H s):∀b∈frs X.stack,H b=none:=λb hb=>by
 rcases qt (I.stkSub b hb)with e|hb
 ·rw[e];exact I.free
 ·obtain⟨_,o,ho,_⟩:=I.ok.funs.mem hb
  exact I.base.free b o ho (I.ok.frf b hb) λz=>I.ok.exfs b z hb
theorem Inv.step{ch:List Addr}(I:Inv X pins σ H s)(hch:∀b∈ch,(b∈X.ex\/X.s₀.heap.objs.size<=b)/\b≠X.env.locals/\(∀x c,X.env.cells.lookup x=some c->c≠b)/\∀p∈X.pn++pins,p.1≠b)(keep:∀b o,b≠X.env.locals->b∉X.fs->b∉ch->s.heap.get? b=some o->H b=none->h'.get? b=some o)(slot:∀b o,b≠X.env.locals->b∈X.fs->b∉ch->s.heap.get? b=some o->H b=none->∃sl,h'.get? b=some { o with slots:=sl })(free:∀b o,b∉ch->s.heap.get? b=some o->H b=none->H' b=none)(there:∀b o,b∉ch->s.heap.get? b=some o->∃o',h'.get? b=some o')(tups:∀b xs,H b=some (.tup xs)->H' b=some (.tup xs))(frzs:∀b o u,H b=some (.frz o u)->H' b=some (.frz o u))(tbls:∀b ps,H b=some (.tbl ps)->∃more,H' b=some (.tbl (ps++more)))(ns:∀m,s.heap.Ns X.env.locals m->h'.Ns X.env.locals m)(hok:HOk X.prog X.w H' h')(hg:AllBare g'):
 Inv X pins σ H' { s with heap:=h',gens:=g',drawn:=d',toks:=t' }:=by
 have neL:∀b o,X.s₀.heap.get? b=some o->b≠X.env.locals:=λb o e=>qm (Qc (ql e) I.ok.above)
 have neC:∀b o,X.s₀.heap.get? b=some o->b∉X.ex->b∉ch:=λb o e hx hb=>by
  rcases(hch b hb).1 with z|z
  ·exact hx z
  ·exact absurd (Qc (ql e) z) (Nat.lt_irrefl _)
 have cellK:∀x c,X.env.cells.lookup x=some c->∀v,s.heap.IsCell c v->h'.IsCell c v:=λx c e v hx_=>by
  obtain⟨o,ho,hd⟩:=hx_;have nch:c∉ch:=λz=>(hch c z).2.2.1 x c e rfl;by_cases hc:c∈X.fs
  ·obtain⟨sl,q⟩:=slot c o (I.cne x c e) hc nch ho (I.freeC x c e)
   exact⟨_,q,hd⟩
  ·exact⟨o,keep c o (I.cne x c e) hc nch ho (I.freeC x c e),hd⟩
 refine⟨I.ok,I.os,hg,⟨λb o e n hb hx=>?_,λb o e n hb hx=>?_,λb o e n hx=>?_,λb o e hx=>?_,λb xs e=>tups b xs (I.base.tups b xs e),λb o xs e=>frzs b o xs (I.base.frzs b o xs e),λb ps e=>?_⟩,?_,λx c e=>?_,?_,λx c e=>?_,λp hp=>?_,hok,I.len⟩
 ·exact keep b o (neL b o e) hb (neC b o e hx) (I.base.keep b o e n hb hx) (I.base.free b o e n hx)
 ·obtain⟨sl,e1⟩:=I.base.slot b o e n hb hx
  obtain⟨sl',e2⟩:=slot b _ (neL b o e) hb (neC b o e hx) e1 (I.base.free b o e n hx);grind
 ·obtain⟨o',e1⟩:=I.base.there b o e hx
  exact free b o' (neC b o e hx) e1 (I.base.free b o e n hx)
 ·obtain⟨o',e1⟩:=I.base.there b o e hx
  grind
 ·obtain⟨m1,e1⟩:=I.base.tbls b ps e
  grind
 ·obtain⟨m,hn,hl⟩:=I.loc
  refine⟨m,ns m hn,λi x v e1 e2 e3=>?_⟩;obtain⟨u,r,l⟩:=hl i x v e1 e2 e3;refine⟨u,r,?_⟩;rcases l with l|⟨k,c,e,z⟩
  ·exact .inl l
  ·exact .inr ⟨k,c,e,cellK x c e _ z⟩
 ·obtain⟨v,z⟩:=I.cell x c e
  grind
 ·obtain⟨m,⟨o,_,_,ho,_⟩,_⟩:=I.loc
  exact free _ o (λz=>(hch _ z).2.1 rfl) ho I.free
 ·obtain⟨v,o,ho,hd⟩:=I.cell x c e
  exact free c o (λz=>(hch c z).2.2.1 x c e rfl) ho (I.freeC x c e)
 ·obtain⟨e,n,ne,nf,d⟩:=I.pin p hp
  grind
def Inv.un(I:Inv X pins σ H s)(u:Un X.fs [] H H' s.heap h')(hok:HOk X.prog X.w H' h'):Inv X pins σ H' { s with heap:=h',toks:=t' }:=by
 obtain⟨m,⟨o,es,ep,ho,r⟩,_⟩:=id I.loc;obtain⟨sl,hL⟩:=u.any ho I.free (by simp)
 exact I.step (g':=s.gens) (d':=s.drawn) (ch:=[]) (λ_ z=>nomatch z) (λb o _ hb _ e n=>u.keep b o e n hb (by simp)) (λb o _ hb _ e n=>u.slot b o e n hb (by simp)) (λb o _ e n=>u.free b o e n (by simp)) (λb o _ e=>u.there b o e (by simp)) u.tups u.frzs u.tbls (λm' hm=>by
  obtain⟨o',es',ep',ho',r'⟩:=hm;rw[ho]at ho';cases ho'
  exact⟨_,es',ep',hL,r'⟩) hok I.bare
def Inv.call(I:Inv X pins σ H s)(u:Un (frs X.stack) ch H H' s.heap h')(hok:HOk X.prog X.w H' h')(hg:AllBare g')(hch:∀b∈ch,(b∈X.ex\/X.s₀.heap.objs.size<=b)/\b≠X.env.locals/\(∀x c,X.env.cells.lookup x=some c->c≠b)/\∀p∈X.pn++pins,p.1≠b):
 Inv X pins σ H' { s with heap:=h',gens:=g',drawn:=d',toks:=t' }:=by
 obtain⟨m,⟨o,es,ep,ho,r⟩,_⟩:=id I.loc;obtain⟨sl,hL⟩:=u.any ho I.free λz=>(hch _ z).2.1 rfl
 exact I.step (ch:=ch) hch (λb o hL hb hc e n=>u.keep b o e n (λz=>(qt (I.stkSub b z)).elim hL hb) hc) (λb o _ _ hc e n=>u.any e n hc) (λb o hc e n=>u.free b o e n hc) (λb o hc e=>u.there b o e hc) u.tups u.frzs u.tbls (λm' hm=>by
  obtain⟨o',es',ep',ho',r'⟩:=hm;rw[ho]at ho';cases ho'
  exact⟨_,es',ep',hL,r'⟩) hok hg
theorem Inv.turned(I:Inv X pins σ H s)(k:∀b o,b≠it->s.heap.get? b=some o->h'.get? b=some o)(hn:H it=none)(hL:it≠X.env.locals)(h1:it∈X.ex\/X.s₀.heap.objs.size<=it)(h2:∀x c,X.env.cells.lookup x=some c->c≠it)(h3:∀p∈X.pn++pins,p.1≠it):Inv X pins σ H { s with heap:=h',toks:=t' }:=by
 have nit:∀b u,H b=some u->b≠it:=λb u e z=>by grind
 refine I.step (g':=s.gens) (d':=s.drawn) (ch:=[it]) (λb hb=>?_) (λb o _ _ hc e _=>k b o (λz=>hc (by simp[z])) e) (λb o _ _ hc e _=>⟨o.slots,k b o (λz=>hc (by simp[z])) e⟩) (λ_ _ _ _ n=>n)
  (λb o hc e=>⟨o,k b o (λz=>hc (by simp[z])) e⟩) (λ_ _ e=>e) (λ_ _ _ e=>e) (λb ps e=>⟨#[],by rw[e];simp⟩) (λm hm=>?_) (λb u e=>?_) I.bare
 ·grind
 ·obtain⟨o,es,ep,ho,r⟩:=hm
  exact⟨o,es,ep,k _ o (Ne.symm hL) ho,r⟩
 ·refine(I.hok b u e).stay (λc v hc q=>k c v ?_ q) (λ_ q=>q) λ_ _ q=>q
  grind
def Inv.tok(I:Inv X pins σ H s)(t:Nat):Inv X pins σ H { s with toks:=t }:=I.un (h':=s.heap) (t':=t) Un.refl I.hok
def Inv.kept(I:Inv X pins σ H s)(k:∀b u,s.heap.get? b=some u->h'.get? b=some u):Inv X pins σ H { s with heap:=h',toks:=t' }:=I.un (Un.kept k) (I.hok.kept k)
def Inv.laid{a:Addr}(I:Inv X pins σ H s)(k:∀b u,s.heap.get? b=some u->h'.get? b=some u)(hp:(~~~s)<=a)(new:ObjOk X.prog X.w (upd H a o) h' a o):
 Inv X pins σ (upd H a o) { s with heap:=h',toks:=t' }:=I.un (Un.laid k hp (I.hok.fresh hp)) (I.hok.laid k hp new)
def Inv.write(I:Inv X pins σ H s)(mu:Mut (H x))(he:e=x\/H e=some (.own x))(k:∀b u,b≠e->s.heap.get? b=some u->h'.get? b=some u)(heo:∃u,h'.get? e=some u)(new:ObjOk X.prog X.w (upd H x o) h' x o):Inv X pins σ (upd H x o) { s with heap:=h',toks:=t' }:=I.un (Un.write mu he k heo) (I.hok.write mu he k heo new)
def Inv.pins_of(I:Inv X pins σ H s)(h:∀p∈pins',s.heap.get? p.1=some p.2/\H p.1=none/\p.1≠X.env.locals/\p.1∉X.fs/\∀v,p.2.data≠.cell v):Inv X pins' σ H s:=
 ⟨I.ok,I.os,I.bare,I.base,I.loc,I.cell,I.free,I.freeC,λp hp=>(qv hp).elim (λz=>I.pin p (List.mem_append_left _ z)) (h p),I.hok,I.len⟩
def Yvy{N:AL}(hN:N.Nodup){i j:Nat}(a:N[i]?=some x)(b:N[j]?=some x):i=j:=by
 obtain⟨h1,e1⟩:=qo a;obtain⟨h2,e2⟩:=qo b;exact(List.getElem_inj hN).mp (e1.trans e2.symm)
theorem Yq0(I:Inv X pins σ H s)(hN:X.N.Nodup)(hi:X.N[i]?=some x)(hx:Loc X.env.scope x)(r:RelV v u)(h:∀s',Inv X pins (σ.set i (some v)) H s'->(∃a,Heap.SameBut a s.heap s'.heap/\(a=X.env.locals\/X.env.cells.lookup x=some a))->Q () s')(hf:X.fn x=true\/X.env.scope.names.lookup x=some .local:=by trivial):wpAny M A (storeName X.env x u) Q E s:=by
 obtain⟨m,hn,hl⟩:=id I.loc
 have hcls:(X.env.scope.kind==.class||(X.env.scope.kind==.module&&X.env.locals != X.env.globals))=false:=by rw[I.ok.kind];rfl
 have hiσ:i<σ.length:=by rw[I.len];grind
 have cne:=I.cne
 have tracked:∀{a:Addr}{h':Heap},(∃o,s.heap.get? a=some o/\H a=none)->Heap.SameBut a s.heap h'->HOk X.prog X.w H h':=λ{a h'} ha hs b ob e=>by
  obtain⟨_,_,hfree⟩:=ha;refine(I.hok b ob e).stay (λc w' hc q=>(hs.2 c ?_).trans q) (λ_ q=>q) λ_ _ q=>q;grind
 rcases hx with hk|hk
 ·refine wpAny_storeName_local hk hn (λh' hn' hs=>?_) hcls
  obtain⟨oL,_,_,hoL,_⟩:=id hn;refine h _ ⟨I.ok,I.os,I.bare,⟨λb o e n hb hx=>?_,λb o e n hb hx=>?_,I.base.free,λb o e hx=>?_,I.base.tups,I.base.frzs,I.base.tbls⟩,⟨_,hn',λj y v' e1 e2 e3=>?_⟩,λy c e=>?_,I.free,I.freeC,λp hp=>?_,tracked ⟨oL,hoL,I.free⟩ hs,by simpa using I.len⟩ ⟨_,hs,.inl rfl⟩
  ·exact(hs.2 b (qm (Qc (ql e) I.ok.above))).trans (I.base.keep b o e n hb hx)
  ·obtain⟨sl,e1⟩:=I.base.slot b o e n hb hx
   exact⟨sl,(hs.2 b (qm (Qc (ql e) I.ok.above))).trans e1⟩
  ·obtain⟨o',e1⟩:=I.base.there b o e hx
   exact⟨o',(hs.2 b (qm (Qc (ql e) I.ok.above))).trans e1⟩
  ·by_cases hj:j=i
   ·subst hj
    rw[hi]at e1;cases e1;rw[List.getElem?_set_self hiσ]at e2;cases e2;exact⟨u,r,.inl ⟨hk,by simp⟩⟩
   ·rw[Qf (Ne.symm hj)]at e2
    obtain⟨u',r',q⟩:=hl j y v' e1 e2 e3;refine⟨u',r',?_⟩;rcases q with⟨k,e⟩|⟨k,c,e,z⟩
    ·refine .inl ⟨k,?_⟩
     have:y≠x:=λe=>hj (Yvy hN e1 (e ▸ hi));grind
    ·exact .inr ⟨k,c,e,z.sameBut hs (cne y c e)⟩
  ·obtain⟨w',z⟩:=I.cell y c e
   exact⟨w',z.sameBut hs (cne y c e)⟩
  ·obtain⟨e,n,ne,nf,d⟩:=I.pin p hp
   exact⟨(hs.2 p.1 ne).trans e,n,ne,nf,d⟩
 ·have hfn:X.fn x=true:=by
   grind
  obtain⟨c,hc⟩:=I.ok.has x (.inl hk);obtain⟨w',z⟩:=I.cell x c hc;refine wpAny_storeName_cell I.ok.kind hk hc z (λh' hc' hs=>?_);obtain⟨oc,hoc,hocd⟩:=id z;refine h { s with heap:=h' } ⟨I.ok,I.os,I.bare,⟨λb o e n hb hx=>?_,λb o e n hb hx=>?_,I.base.free,λb o e hx=>?_,I.base.tups,I.base.frzs,I.base.tbls⟩,⟨m,hn.sameBut hs (Ne.symm (cne x c hc)),λj y v' e1 e2 e3=>?_⟩,λy c' e=>?_,I.free,I.freeC,λp hp=>?_,tracked ⟨oc,hoc,I.freeC x c hc⟩ hs,by simpa using I.len⟩ ⟨c,hs,.inr hc⟩
  ·exact(hs.2 b (qm (Qc (ql e) (I.ok.cab x c hfn hc)))).trans (I.base.keep b o e n hb hx)
  ·obtain⟨sl,e1⟩:=I.base.slot b o e n hb hx
   exact⟨sl,(hs.2 b (qm (Qc (ql e) (I.ok.cab x c hfn hc)))).trans e1⟩
  ·obtain⟨o',e1⟩:=I.base.there b o e hx
   exact⟨o',(hs.2 b (qm (Qc (ql e) (I.ok.cab x c hfn hc)))).trans e1⟩
  ·by_cases hj:j=i
   ·subst hj
    rw[hi]at e1;cases e1;rw[List.getElem?_set_self hiσ]at e2;cases e2;exact⟨u,r,.inr ⟨.inl hk,c,hc,hc'⟩⟩
   ·rw[Qf (Ne.symm hj)]at e2
    obtain⟨u',r',q⟩:=hl j y v' e1 e2 e3;refine⟨u',r',?_⟩;rcases q with q|⟨k,c',e,z'⟩
    ·exact .inl q
    ·refine .inr ⟨k,c',e,z'.sameBut hs ?_⟩
     rintro rfl;exact hj (Yvy hN e1 (I.ok.inj _ _ _ e hc ▸ hi))
  ·by_cases hcc:c'=c
   ·grind
   ·obtain⟨w2,z2⟩:=I.cell y c' e
    exact⟨w2,z2.sameBut hs hcc⟩
  ·obtain⟨e,n,ne,nf,d⟩:=I.pin p hp
   refine⟨(hs.2 p.1 ?_).trans e,n,ne,nf,d⟩;grind
theorem Yo6(I:Inv X pins σ H s)(hN:X.N.Nodup)(hi:X.N[i]?=some x)(hx:Loc X.env.scope x)(r:RelV v u)(h:∀s',Inv X pins (σ.set i (some v)) H s'->Q () s')(hf:X.fn x=true\/X.env.scope.names.lookup x=some .local:=by trivial):wpAny M A (storeName X.env x u) Q E s:=
 Yq0 I hN hi hx r (λs' I' _=>h s' I') hf
def Inv.call'(I:Inv X pins σ H s)(ho:s'.os=s.os)(u:Un (frs X.stack) ch H H' s.heap s'.heap)(hok:HOk X.prog X.w H' s'.heap)(hg:AllBare s'.gens)(hch:∀b∈ch,(b∈X.ex\/X.s₀.heap.objs.size<=b)/\b≠X.env.locals/\(∀x c,X.env.cells.lookup x=some c->c≠b)/\∀p∈X.pn++pins,p.1≠b):Inv X pins σ H' s':=by
 obtain⟨h',g',d',t',o'⟩:=s';have e:o'=s.os:=ho;subst e;exact I.call (g':=g') (t':=t') (d':=d') u hok hg hch
end
abbrev XK:=Value->Option Addr->Hp->Prop
abbrev St:=List (Option V)
abbrev VK:=V->Hp->Prop
abbrev TE:=St->Hp->VK->Prop
abbrev TT:=St->Hp->(Bool->Hp->Prop)->Prop
abbrev TA:=St->Hp->(AQ->Hp->Prop)->Prop
structure Ends where
 nx:St->Hp->Prop
 rt:VK
 bk:St->Hp->Prop:=λ_ _=>False
 ct:St->Hp->Prop:=λ_ _=>False
abbrev TS:=Ends->St->Hp->Prop
def EP(X:Cx)(pins:AC)(σ:St)(Q:VK)(u:Value)(s':Shared):Prop:=∃v H',Inv X pins σ H' s'/\RelV v u/\Q v H'
def TP(X:Cx)(pins:AC)(σ:St)(Q:Bool->Hp->Prop)(b:Bool)(s':Shared):Prop:=∃H',Inv X pins σ H' s'/\Q b H'
def AP(X:Cx)(pins:AC)(σ:St)(Q:AQ->Hp->Prop)(us:AD)(s':Shared):Prop:=∃vs H',Inv X pins σ H' s'/\Vals vs us/\Q vs H'
def SP(X:Cx)(pins:AC)(D:Ends)(f:Flow)(s':Shared):Prop:=
 match f with
 | .next=>∃σ' H',Inv X pins σ' H' s'/\D.nx σ' H'
 | .brk=>∃σ' H',Inv X pins σ' H' s'/\D.bk σ' H'
 | .cont=>∃σ' H',Inv X pins σ' H' s'/\D.ct σ' H'
 | .ret u=>∃v σ' H',Inv X pins σ' H' s'/\RelV v u/\D.rt v H'
def PE(X:Cx)(e:Expr)(t:TE):Prop:=
 ∀(pins:AC) (s:Shared) (σ:St) (H:Hp) (Q:VK),Inv X pins σ H s->t σ H Q->wpAny (model X.prog X.w) X.A (eval e X.env) (EP X pins σ Q) X.xe s
def PT(X:Cx)(e:Expr)(t:TT):Prop:=
 ∀(pins:AC) (s:Shared) (σ:St) (H:Hp) (Q:Bool->Hp->Prop),Inv X pins σ H s->t σ H Q->wpAny (model X.prog X.w) X.A (isTrue e X.env (eval e X.env)) (TP X pins σ Q) X.xe s
def PW(X:Cx)(e:Expr)(t:TT):Prop:=
 ∀(whole:Sem Value) (pins:AC) (s:Shared) (σ:St) (H:Hp) (Q:Bool->Hp->Prop),Inv X pins σ H s->t σ H Q->wpAny (model X.prog X.w) X.A (isTrue e X.env whole) (TP X pins σ Q) X.xe s
def PW.pt(h:PW X e t):PT X e t:=h _
def PA(X:Cx)(es:AM)(t:TA):Prop:=
 ∀(pos:Pos) (pins:AC) (s:Shared) (σ:St) (H:Hp) (Q:AQ->Hp->Prop),Inv X pins σ H s->t σ H Q->wpAny (model X.prog X.w) X.A (spliced (backTo pos (starEach es X.env))) (AP X pins σ Q) X.xe s
def PS(X:Cx)(st:Stmt)(t:TS):Prop:=
 ∀(pins:AC) (s:Shared) (σ:St) (H:Hp) (D:Ends),Inv X pins σ H s->t D σ H->wpAny (model X.prog X.w) X.A (exec st X.env) (SP X pins D) X.xe s
def PSs(X:Cx)(st:List Stmt)(t:TS):Prop:=
 ∀(pins:AC) (s:Shared) (σ:St) (H:Hp) (D:Ends),Inv X pins σ H s->t D σ H->wpAny (model X.prog X.w) X.A (execs st X.env) (SP X pins D) X.xe s
def thn(h:wpAny M A t Q E s)(hQ:∀a s,Q a s->Q' a s):wpAny M A t Q' E s:=w5 h hQ λ_ _ x=>x
section
variable {X:Cx}
def tVar(i:Nat):TE:=λσ H Q=>∃v,σ[i]?=some (some v)/\Q v H
def tC(v:V):TE:=λ_ H Q=>Q v H
abbrev Ndb(x:Str):Prop:=(x==("__debug__":Str))=false
abbrev Ncd(x:Str):Prop:=(x==("__classdict__":Str))=false
theorem Yig{pos:Pos}(hN:X.N[i]?=some x)(hv:Vis X.env.scope x)(hd:Ndb x:=by decide)(hcd:Ncd x:=by decide):PE X (.Name x pos) (tVar i):=by
 intro pins s σ H Q I h;obtain⟨v,e,h⟩:=h;obtain⟨m,hn,hl⟩:=I.loc;obtain⟨u,r,l⟩:=hl i x v hN e hv
 have fin:EP X pins σ Q u s:=⟨v,H,I,r,h⟩
 rcases l with⟨hk,hm⟩|⟨hk,c,hc,hcell⟩
 ·exact wpAny_Name (wpAny_loadName_local I.ok.kind hk hn hm fin) hd
 ·rcases hk with hk|hk
  ·exact wpAny_Name (wpAny_loadName_cell I.ok.kind hk hc hcell fin) hd
  ·exact wpAny_Name (wpAny_loadName_free I.ok.kind hk hc hcell fin hcd) hd
def Yaay{i j pos}:PE X (.Constant (.int i) j pos) (tC (.int i)):=λ_ _ _ H _ I h=>wpAny_Constant_int ⟨.int i,H,I.tok _,⟨_,rfl⟩,h⟩
def Yae1{b j pos}:PE X (.Constant (.bool b) j pos) (tC (.bl b)):=λ_ _ _ H _ I h=>Constant_bool ⟨.bl b,H,I,rfl,h⟩
def Yaaz{j pos}:PE X (.Constant .none j pos) (tC .non):=λ_ _ _ H _ I h=>Constant_none ⟨.non,H,I,rfl,h⟩
def Yaa0{x j pos}:PE X (.Constant (.str x) j pos) (tC (.str x)):=λ_ _ _ H _ I h=>Calls.Constant_str ⟨.str x,H,I.tok _,⟨_,rfl⟩,h⟩
def Gl(X:Cx)(x:Str):Prop:=X.env.kindOf x=some .globalImplicit
theorem Yzi{σ:St}(I:Inv X pins σ H s)(hg:Gl X x)(hm:X.mg x=some u)(h:Q u s)(hd:Ndb x:=by decide):wpAny (model X.prog X.w) X.A (eval (.Name x pos) X.env) Q E s:=
 Calls.Name_function_global I.ok.kind hg (Calls.loadGlobal_global (by rw[I.ok.glob];exact I.mod.glob.keeps I.bk) hm h) hd
theorem Ykb{E:AB}{σ:St}{pos:Pos}(I:Inv X pins σ H s)(hg:Gl X x)(hm:X.mg x=none)(hv:bootBuiltins x=some u)(h:Q u s)(hn:x≠"__name__":=by decide)(hd:Ndb x:=by decide):wpAny (model X.prog X.w) X.A (eval (.Name x pos) X.env) Q E s:=by
 obtain⟨mb,h1,h2⟩:=I.mod.blt;exact Calls.Name_function_global I.ok.kind hg (Calls.loadGlobal_builtin (by rw[I.ok.glob];exact I.mod.glob.keeps I.bk) hm (by rw[I.ok.blt];exact h1.keeps I.bk) ((h2 x hn).trans hv) h) hd
theorem y7u{pos:Pos}(hg:Gl X x)(hm:X.mg x=none)(hv:bootBuiltins x=some u)(r:RelV v u)(hn:x≠"__name__":=by decide)(hd:Ndb x:=by decide):PE X (.Name x pos) (tC v):=
 λ_ _ _ H _ I h=>Ykb I hg hm hv ⟨v,H,I,r,h⟩ hn hd
variable {a b:Expr}{ta tb:TE}{pos:Pos}
variable {tA tB':TT}{rest:AM}
def tAnd(t u:TT):TT:=λσ H Q=>t σ H λc H1=>if c=true then u σ H1 Q else Q false H1
def tOr(t u:TT):TT:=λσ H Q=>t σ H λc H1=>if c=true then Q true H1 else u σ H1 Q
def tNot(t:TT):TT:=λσ H Q=>t σ H λc H1=>Q (!c) H1
def y7v(ha:PT X a tA):PW X (.BoolOp .And [a] pos) tA:=by
 intro wh pins s σ H Q I h;refine isTrue_and (thn (ha pins s σ H Q I h) λc s1 e=>?_)
 cases c with
 | true=>exact isTrue_and_nil e
 | false=>exact e
def Yaa1(ha:PT X a tA):PW X (.BoolOp .Or [a] pos) tA:=by
 intro wh pins s σ H Q I h;refine isTrue_or (thn (ha pins s σ H Q I h) λc s1 e=>?_)
 cases c with
 | false=>exact isTrue_or_nil e
 | true=>exact e
def Yaa2(ha:PT X a tA)(hb:PW X (.BoolOp .And (b::rest) pos) tB'):PW X (.BoolOp .And (a::b::rest) pos) (tAnd tA tB'):=by
 intro wh pins s σ H Q I h;refine isTrue_and (thn (ha pins s σ H _ I h) λc s1 hx_=>?_);obtain⟨H1,I1,q1⟩:=hx_
 cases c with
 | true=>exact hb wh pins s1 σ H1 Q I1 q1
 | false=>exact⟨H1,I1,q1⟩
def Yae2(ha:PT X a tA)(hb:PW X (.BoolOp .Or (b::rest) pos) tB'):PW X (.BoolOp .Or (a::b::rest) pos) (tOr tA tB'):=by
 intro wh pins s σ H Q I h;refine isTrue_or (thn (ha pins s σ H _ I h) λc s1 hx_=>?_);obtain⟨H1,I1,q1⟩:=hx_
 cases c with
 | true=>exact⟨H1,I1,q1⟩
 | false=>exact hb wh pins s1 σ H1 Q I1 q1
def Yaa3(ha:PT X a tA):PT X (.UnaryOp .Not a pos) (tNot tA):=by
 intro pins s σ H Q I h;exact isTrue_not (ha pins s σ H (λc H1=>Q (!c) H1) I h)
def Yae3(ta tb:TE):TE:=λσ H Q=>ta σ H λx H1=>∃c,x=.bl c/\if c=true then tb σ H1 Q else Q (.bl false) H1
def Yae4(ta:TE):TE:=λσ H Q=>ta σ H λx H1=>∃c,x=.bl c/\Q (.bl (!c)) H1
def Yaa4{op}(h:PE X a t):PE X (.BoolOp op [a] pos) t:=λpins s σ H Q I hw=>BoolOp_one (h pins s σ H Q I hw)
def Yaa5(ha:PE X a ta)(hb:PE X (.BoolOp .And (b::rest) pos) tb):PE X (.BoolOp .And (a::b::rest) pos) (Yae3 ta tb):=by
 intro pins s σ H Q I h;refine BoolOp_and (thn (ha pins s σ H _ I h) λv s1 hx_=>?_);obtain⟨x,H1,I1,r1,q1⟩:=hx_;obtain⟨c,rfl,q1⟩:=q1;cases r1;refine wpAny_truthy_bool ?_
 cases c with
 | true=>exact hb pins s1 σ H1 Q I1 q1
 | false=>exact⟨.bl false,H1,I1,rfl,q1⟩
def Yaa6(ha:PE X a ta):PE X (.UnaryOp .Not a pos) (Yae4 ta):=by
 intro pins s σ H Q I h;refine UnaryOp_ (thn (ha pins s σ H _ I h) λv s1 hx_=>?_);obtain⟨x,H1,I1,r1,q1⟩:=hx_;obtain⟨c,rfl,q1⟩:=q1;cases r1;exact not_of (wpAny_truthy_bool ⟨.bl (!c),H1,I1,rfl,q1⟩)
def tIf(t:TT)(ta tb:TE):TE:=λσ H Q=>t σ H λc H1=>if c=true then ta σ H1 Q else tb σ H1 Q
def y34(hc:PT X c tA)(ha:PE X a ta)(hb:PE X b tb):PE X (.IfExp c a b pos) (tIf tA ta tb):=by
 intro pins s σ H Q I h;refine wpAny_IfExp (thn (hc pins s σ H _ I h) λd s1 hx_=>?_);obtain⟨H1,I1,q1⟩:=hx_
 cases d with
 | true=>exact ha pins s1 σ H1 Q I1 q1
 | false=>exact hb pins s1 σ H1 Q I1 q1
end
def SqL(K:W.Frag)(H:Hp)(a:Addr)(xs:AQ):Prop:=
 Rd H a (.lst xs)\/
  ∃(o:Obj) (its:Array Value) (n:Nat),K.lookup a=some o/\o.cls=.type "list"/\o.dict=none/\o.data=.seq its n/\its.size<=sizeLine/\Vals xs its.toList
def SqT(K:W.Frag)(H:Hp)(a:Addr)(xs:AQ):Prop:=
 Rd H a (.tup xs)\/
  ∃(o:Obj) (its:Array Value) (n:Nat),K.lookup a=some o/\o.cls=.type "tuple"/\o.data=.seq its n/\its.size<=sizeLine/\Vals xs its.toList
def absV:Value->Option V
 | .none=>some .non
 | .bool b=>some (.bl b)
 | .int i _=>some (.int i)
 | .str x _=>some (.str x)
 | .bytes b _=>some (.byt b)
 | .float b _=>some (.flt b)
 | .ref a=>some (.ref a)
 | .type n=>some (.ty n)
 | _=>none
def RelV.abs(r:RelV x u):absV u=some x:=by
 cases x with
 | non=>cases r;rfl
 | bl _=>cases r;rfl
 | int _=>obtain⟨t,rfl⟩:=r;rfl
 | str _=>obtain⟨t,rfl⟩:=r;rfl
 | byt _=>obtain⟨t,rfl⟩:=r;rfl
 | flt _=>obtain⟨t,rfl⟩:=r;rfl
 | ref _=>cases r;rfl
 | ty _=>cases r;rfl
def RelV.inj(r:RelV x u)(q:RelV y u):x=y:=w6 (r.abs.symm.trans q.abs)
theorem Vals.inj:∀{xs ys:AQ}{us:AD},Vals xs us->Vals ys us->xs=ys
 :=by
  intro xs ys us h
  induction h generalizing ys with
  | nil=>
    intro h2;cases h2;rfl
  | cons r t ih=>
    intro h2
    cases h2 with
    | cons r' t'=>rw[r.inj r',ih t']
section
variable {X:Cx}{pins:AC}{σ:St}{H:Hp}{s:Shared}{a:Addr}{xs ys:AQ}
def SqL.of{K:W.Frag}(h:H a=some (.lst xs)):SqL K H a xs:=.inl (.inl h)
def SqT.of{K:W.Frag}(h:H a=some (.tup xs)):SqT K H a xs:=.inl (.inl h)
theorem Inv.list(I:Inv X pins σ H s)(h:SqL X.K H a xs):∃its:AD,Vals xs its/\PlainL s.heap a its.toArray/\xs.length<=sizeLine:=by
 rcases h with h|⟨o,its,n,hk,hc,hd,hs,hz,r⟩
 ·obtain⟨z,its,n,r,e⟩:=h.ok I.hok
  exact⟨its,r,⟨_,n,e,rfl,rfl,rfl⟩,z⟩
 ·refine⟨its.toList,r,⟨o,n,I.kIn a o hk,hc,hd,by simpa using hs⟩,?_⟩
  have e:=r.length;grind
theorem Inv.tuple(I:Inv X pins σ H s)(h:SqT X.K H a xs):∃its:AD,Vals xs its/\IsTup s.heap a its.toArray/\xs.length<=sizeLine:=by
 rcases h with h|⟨o,its,n,hk,hc,hs,hz,r⟩
 ·obtain⟨z,its,r,p⟩:=h.ok I.hok
  grind
 ·refine⟨its.toList,r,⟨o,I.kIn a o hk,hc,n,by simpa using hs⟩,?_⟩
  have e:=r.length;grind
theorem Inv.list_inj(I:Inv X pins σ H s)(h:SqL X.K H a xs)(h':SqL X.K H a ys):xs=ys:=by
 obtain⟨its,r,⟨o,n,e,_,_,d⟩,_⟩:=I.list h;obtain⟨its',r',⟨o',n',e',_,_,d'⟩,_⟩:=I.list h';rw[e]at e';cases e';rw[d]at d';injection d' with d1 _
 have:its=its':=by grind
 subst this;exact r.inj r'
theorem Inv.tuple_inj(I:Inv X pins σ H s)(h:SqT X.K H a xs)(h':SqT X.K H a ys):xs=ys:=by
 obtain⟨its,r,⟨o,e,_,n,d⟩,_⟩:=I.tuple h;obtain⟨its',r',⟨o',e',_,n',d'⟩,_⟩:=I.tuple h';rw[e]at e';cases e';rw[d]at d';injection d' with d1 _
 have:its=its':=by grind
 subst this;exact r.inj r'
end
abbrev Cx.wish(X:Cx)(E:AB):Cx:={ X with xe:=E }
abbrev Cx.nox(X:Cx):Cx:=X.wish λ_ _=>False
def Cx.Ok.wish{X:Cx}(ok:X.Ok)(E:AB):(X.wish E).Ok:=
 ⟨ok.mod,ok.kind,ok.glob,ok.blt,ok.above,ok.inj,ok.has,ok.cab,ok.hd,ok.frames,ok.stk,ok.exf,ok.bs,ok.bsz,ok.noex,ok.exfs,ok.funs,ok.frf⟩
def Cx.Ok.unwish{X:Cx}(ok:(X.wish E).Ok):X.Ok:=
 ⟨ok.mod,ok.kind,ok.glob,ok.blt,ok.above,ok.inj,ok.has,ok.cab,ok.hd,ok.frames,ok.stk,ok.exf,ok.bs,ok.bsz,ok.noex,ok.exfs,ok.funs,ok.frf⟩
section
variable {X:Cx}{pins:AC}{σ:St}{H:Hp}{s:Shared}{E:AB}{st:Stmt}{rest:List Stmt}{t u:TS}{e:Expr}{te:TE}{pos:Pos}
def Inv.wish(I:Inv X pins σ H s)(E:AB):Inv (X.wish E) pins σ H s:=⟨I.ok.wish E,I.os,I.bare,I.base,I.loc,I.cell,I.free,I.freeC,I.pin,I.hok,I.len⟩
def Inv.unwish(I:Inv (X.wish E) pins σ H s):Inv X pins σ H s:=⟨I.ok.unwish,I.os,I.bare,I.base,I.loc,I.cell,I.free,I.freeC,I.pin,I.hok,I.len⟩
def SP.unwish(h:SP (X.wish E) pins D f s'):SP X pins D f s':=by
 cases f with
 | next=>obtain⟨σ',H',I,q⟩:=h;exact⟨σ',H',I.unwish,q⟩
 | brk=>obtain⟨σ',H',I,q⟩:=h;exact⟨σ',H',I.unwish,q⟩
 | cont=>obtain⟨σ',H',I,q⟩:=h;exact⟨σ',H',I.unwish,q⟩
 | ret u=>obtain⟨v,σ',H',I,r,q⟩:=h;exact⟨v,σ',H',I.unwish,r,q⟩
def PSs.nox{st:List Stmt}(h:PSs X.nox st t):PSs X st t:=λpins s σ H D I hw=>
 w5 (h pins s σ H D (I.wish _) hw) (λ_ _ q=>q.unwish) λ_ _ z=>False.elim z
def Yae5:TS:=λD σ H=>D.nx σ H
def tSeq(t u:TS):TS:=λD σ H=>t { D with nx:=u D } σ H
def y7w:PSs X [] Yae5:=λ_ _ σ H _ I h=>wpAny_execs_nil ⟨σ,H,I,h⟩
def y35(h1:PS X st t)(h2:PSs X rest u):PSs X (st::rest) (tSeq t u):=by
 intro pins s σ H D I h;refine wpAny_execs_cons (thn (h1 pins s σ H { D with nx:=u D } I h) λf s1 q=>?_)
 cases f with
 | next=>
   obtain⟨σ',H',I',q⟩:=q;exact h2 pins s1 σ' H' D I' q
 | ret v=>exact q
 | brk=>exact q
 | cont=>exact q
def y7x(h1:PS X st t):PSs X [st] t:=by
 intro pins s σ H D I h;refine wpAny_execs_cons (thn (h1 pins s σ H D I h) λf s1 q=>?_)
 cases f with
 | next=>exact wpAny_execs_nil q
 | ret v=>exact q
 | brk=>exact q
 | cont=>exact q
def Inv.quiet(I:Inv X pins σ H s):interactive X.env=false:=by simp[interactive,I.ok.kind]
def Yae6(te:TE):TS:=λD σ H=>te σ H λ_ H1=>D.nx σ H1
def Ylj(he:PE X e te)(hs:swapsWith e none pos.line X.env=pure false:=by rfl):PS X (.Expr e pos) (Yae6 te):=by
 intro pins s σ H D I h;refine wpAny_Expr_any (thn (he pins s σ H _ I h) λv s1 hx_=>?_) I.quiet hs;obtain⟨x,H1,I1,r1,q1⟩:=hx_;exact⟨σ,H1,I1,q1⟩
def tRet(te:TE):TS:=λD σ H=>te σ H D.rt
def Yaa7(he:PE X e te):PS X (.Return (some e) pos) (tRet te):=by
 intro pins s σ H D I h;refine wpAny_Return_some (thn (he pins s σ H _ I h) λv s1 hx_=>?_);obtain⟨x,H1,I1,r1,q1⟩:=hx_;exact⟨x,σ,H1,I1,r1,q1⟩
def tIfS(c:TT)(t u:TS):TS:=λD σ H=>c σ H λb H1=>if b=true then t D σ H1 else u D σ H1
def Yae7(hc:PT X c tc)(ha:PSs X a t)(hb:PSs X b u):PS X (.If c a b pos) (tIfS tc t u):=by
 intro pins s σ H D I h;refine wpAny_If (thn (hc pins s σ H _ I h) λd s1 hx_=>?_);obtain⟨H1,I1,q1⟩:=hx_
 cases d with
 | true=>exact ha pins s1 σ H1 D I1 q1
 | false=>exact hb pins s1 σ H1 D I1 q1
end
abbrev TG:=V->St->Hp->(St->Hp->Prop)->Prop
abbrev TGs:=AQ->St->Hp->(St->Hp->Prop)->Prop
def PG(X:Cx)(target:Expr)(t:TG):Prop:=
 ∀(pins:AC) (s:Shared) (σ:St) (H:Hp) (v:V) (u:Value) (Q:St->Hp->Prop),Inv X pins σ H s->RelV v u->t v σ H Q->
  wpAny (model X.prog X.w) X.A (assign target X.env u) (λ_ s'=>∃σ' H',Inv X pins σ' H' s'/\Q σ' H') X.xe s
def PGs(X:Cx)(ts:AM)(t:TGs):Prop:=
 ∀(pins:AC) (s:Shared) (σ:St) (H:Hp) (vs:AQ) (us:AD) (Q:St->Hp->Prop),Inv X pins σ H s->Vals vs us->t vs σ H Q->
  wpAny (model X.prog X.w) X.A (assignInOrder ((assignEach ts X.env).map (·.2)) us) (λ_ s'=>∃σ' H',Inv X pins σ' H' s'/\Q σ' H') X.xe s
abbrev TSet:=V->V->V->Hp->(Hp->Prop)->Prop
def PSet(X:Cx)(t:TSet):Prop:=
 ∀(pins:AC) (s:Shared) (σ:St) (H:Hp) (o i v:V) (ov iv u:Value) (Q:Hp->Prop),Inv X pins σ H s->RelV o ov->RelV i iv->RelV v u->t o i v H Q->
  wpAny (model X.prog X.w) X.A (setItem ov iv u) (λ_ s'=>∃H',Inv X pins σ H' s'/\Q H') X.xe s
abbrev TIp:=V->V->Hp->VK->Prop
def PIp(X:Cx)(op:Operator)(t:TIp):Prop:=
 ∀(pins:AC) (s:Shared) (σ:St) (H:Hp) (x y:V) (v u:Value) (Q:VK),Inv X pins σ H s->RelV x v->RelV y u->t x y H Q->
  wpAny (model X.prog X.w) X.A (inplaceOp op v u) (EP X pins σ Q) X.xe s
section
variable {X:Cx}{pos:Pos}
def Yxn(i:Nat):TG:=λv σ H Q=>Q (σ.set i (some v)) H
theorem Ytz(hN:X.N.Nodup)(hi:X.N[i]?=some x)(hx:Loc X.env.scope x)(hf:X.fn x=true\/X.env.scope.names.lookup x=some .local:=by trivial):PG X (.Name x pos) (Yxn i):=by
 intro pins s σ H v u Q I r h;exact wpAny_assign_Name (Yo6 I hN hi hx r (λs' I'=>⟨_,H,I',h⟩) hf)
def gNil:TGs:=λvs σ H Q=>vs=[]/\Q σ H
def Yae8(t:TG)(u:TGs):TGs:=λvs σ H Q=>∃v r,vs=v::r/\t v σ H λσ' H'=>u r σ' H' Q
def y7y:PGs X [] gNil:=by
 intro pins s σ H vs us Q I r h;obtain⟨e,h⟩:=h;subst e;cases r;exact assignInOrder_nil ⟨σ,H,I,h⟩
def Yvz(h1:PG X e t)(h2:PGs X es u)(hs:(assignEach (e::es) X.env).map (·.2)=assign e X.env::(assignEach es X.env).map (·.2):=by rfl):PGs X (e::es) (Yae8 t u):=by
 intro pins s σ H vs us Q I r h;obtain⟨v,vr,e1,h⟩:=h;subst e1
 cases r with
 | cons r rr=>
   rw[hs];refine assignInOrder_cons (thn (h1 pins s σ H _ _ _ I r h) λ_ s1 hx_=>?_);obtain⟨σ1,H1,I1,q1⟩:=hx_;exact h2 pins s1 σ1 H1 _ _ Q I1 rr q1
def gTup(K:W.Frag)(n:Nat)(t:TGs):TG:=λv σ H Q=>∃a xs,v=.ref a/\SqT K H a xs/\xs.length=n/\t xs σ H Q
theorem Yaa8{k:Nat}(hc:X.calm=true)(h:PGs X es t)(hn:(assignEach es X.env).length=n:=by rfl)(hst:(assignEach es X.env).findIdx? (·.1)=none:=by rfl):PG X (.Tuple es k pos) (gTup X.K n t):=by
 intro pins s σ H v u Q I r hw;obtain⟨a,xs,e1,hq,hl,hw⟩:=hw;subst e1;cases r;obtain⟨its,rv,ht,hz⟩:=I.tuple hq;refine assign_Tuple_tuple (I.ok.hd hc) ht (by simp[hn,<-hl,rv.length]) hst λh' hx=>?_;have I1:Inv X pins σ H { s with heap:=h' }:=I.kept (t':=s.toks) λb o e=>hx b o (qm (ql e)) e;exact h pins _ σ H xs _ Q I1 (by grind) hw
def gSub(to ti:TE)(t:TSet):TG:=λv σ H Q=>to σ H λo H1=>ti σ H1 λi H2=>t o i v H2 λH3=>Q σ H3
def y6s(ho:PE X o to)(hi:PE X i ti)(hs:PSet X t)(ha:∀v,assign (.Subscript o i pos) X.env v=(do
  let ov <-holding [v] (eval o X.env)
  let iv <-holding [v,ov] (eval i X.env)
  standAt pos
  holding [v,ov,iv] (setItem ov iv v)
  release [v,ov,iv] []):=by intro _;rfl):PG X (.Subscript o i pos) (gSub to ti t):=by
 intro pins s σ H v u Q I r h;rw[ha];refine wa (wc (thn (ho pins s σ H _ I h) λov s1 hx_=>?_));obtain⟨x,H1,I1,r1,q1⟩:=hx_;refine wa (wc (thn (hi pins s1 σ H1 _ I1 q1) λiv s2 hx_=>?_));obtain⟨y,H2,I2,r2,q2⟩:=hx_;refine wa (wpAny_standAt (wa (wc (thn (hs pins s2 σ H2 x y v ov iv u _ I2 r1 r2 r q2) λ_ s3 hx_=>?_))));obtain⟨H3,I3,q3⟩:=hx_;exact wpAny_release ⟨σ,H3,I3,q3⟩
def tAsg(te:TE)(g:TG):TS:=λD σ H=>te σ H λx H1=>g x σ H1 D.nx
def y6t(he:PE X e te)(hg:PG X tg g)(hs:swapsWithSole [tg] e pos.line X.env=pure false:=by rfl)(hw:swappedStores [tg] e X.env=pure none:=by rfl)(h1:(assignEach [tg] X.env).map (·.2)=[assign tg X.env]:=by rfl):PS X (.Assign [tg] e pos) (tAsg te g):=by
 intro pins s σ H D I h;refine wpAny_Assign_stores (thn (he pins s σ H _ I h) λv s1 hx_=>?_) hs hw;obtain⟨x,H1,I1,r1,q1⟩:=hx_;rw[h1];exact thn (hg pins s1 σ H1 x v _ I1 r1 q1) λ_ s2 q=>q
theorem Yn7(hN:X.N.Nodup)(hi:X.N[i]?=some x)(hx:Loc X.env.scope x)(he:PE X e te)(hs:swapsWith e (some (.Name x pos')) pos.line X.env=pure false:=by rfl)(hf:X.fn x=true\/X.env.scope.names.lookup x=some .local:=by trivial):
 PS X (.Assign [.Name x pos'] e pos) (tAsg te (Yxn i)):=by
 intro pins s σ H D I h;refine wpAny_Assign_Name (thn (he pins s σ H _ I h) λv s1 hx_=>?_) hs;obtain⟨y,H1,I1,r1,q1⟩:=hx_;exact Yo6 I1 hN hi hx r1 (λs2 I2=>⟨_,H1,I2,q1⟩) hf
def tAug(i:Nat)(te:TE)(ti:TIp):TS:=λD σ H=>∃x,σ[i]?=some (some x)/\te σ H λy H1=>ti x y H1 λz H2=>D.nx (σ.set i (some z)) H2
theorem Yaa9(hN:X.N.Nodup)(hi:X.N[i]?=some x)(hx:Loc X.env.scope x)(he:PE X e te)(ho:PIp X op ti)(hf:X.fn x=true\/X.env.scope.names.lookup x=some .local:=by trivial):
 PS X (.AugAssign (.Name x pos') op e pos) (tAug i te ti):=by
 intro pins s σ H D I h;obtain⟨v,e1,h⟩:=h;obtain⟨m,hn,hl⟩:=I.loc
 have vis:Vis X.env.scope x:=by rcases hx with k|k;exact .inl k;exact .inr (.inl k)
 obtain⟨u,r,l⟩:=hl i x v hi e1 vis;refine wpAny_AugAssign_Name ?_
 have go:wpAny (model X.prog X.w) X.A (eval e X.env) (λw s₂=>wpAny (model X.prog X.w) X.A (inplaceOp op u w) (λr s₃=>wpAny (model X.prog X.w) X.A (storeName X.env x r) (λ_=>SP X pins D .next) X.xe s₃) X.xe s₂) X.xe s:=by
  refine thn (he pins s σ H _ I h) λw s1 hx_=>?_;obtain⟨y,H1,I1,r1,q1⟩:=hx_;refine thn (ho pins s1 σ H1 v y u w _ I1 r r1 q1) λz s2 hx_=>?_;obtain⟨zv,H2,I2,r2,q2⟩:=hx_;exact Yo6 I2 hN hi hx r2 (λs3 I3=>⟨_,H2,I3,q2⟩) hf
 rcases l with⟨hk,hm⟩|⟨hk,c,hc,hcell⟩
 ·exact wpAny_loadName_local I.ok.kind hk hn hm go
 ·rcases hk with hk|hk
  ·exact wpAny_loadName_cell I.ok.kind hk hc hcell go
  ·rcases hx with k|k
   ·have:X.env.scope.names.lookup x=some .free:=hk
    grind
   ·have:X.env.scope.names.lookup x=some .free:=hk
    grind
def ipI(f:Int->Int->Int):TIp:=λx y H Q=>∃i j,x=.int i/\y=.int j/\Q (.int (f i j)) H
def Yaba:PIp X .Add (ipI λi j=>i+j):=by
 intro pins s σ H x y v u Q I r1 r2 h;obtain⟨i,j,e1,e2,q⟩:=h;subst e1;subst e2;obtain⟨t,rfl⟩:=r1;obtain⟨t',rfl⟩:=r2;exact iadd_int ⟨.int _,H,I.tok _,⟨_,rfl⟩,q⟩
def Yabb(c:TT)(tb:TS):TS:=λD σ H=>∃W:Nat->St->Hp->Prop,(∃m,W m σ H)/\∀m σ H,W m σ H->
 c σ H λb H1=>if b=true then ∃N:St->Hp->Prop,(∀σ' H',N σ' H'->∃m',m'<m/\W m' σ' H')/\tb { D with nx:=N,ct:=N,bk:=D.nx } σ H1 else D.nx σ H1
theorem y36(hp:PassesOwn (model X.prog X.w) X.A X.env X.xe)(hc:PT X c tc)(hb:PSs X body tb):PS X (.While c body [] pos) (Yabb tc tb):=by
 intro pins s σ H D I h;obtain⟨W,⟨m0,w0⟩,turn⟩:=h;refine wpAny_While (codeAny_whileLoop (λn s'=>∃σ' H',Inv X pins σ' H' s'/\W n σ' H') ?_ m0 ⟨σ,H,I,w0⟩);rintro n s1 ⟨σ1,H1,I1,w1⟩;refine wpAny_passesOwn hp (thn (hc pins s1 σ1 H1 _ I1 (turn n σ1 H1 w1)) λb s2 hx_=>?_);obtain⟨H2,I2,q2⟩:=hx_
 cases b with
 | true=>
   obtain⟨N,hN,q2⟩:=q2;rw[if_pos rfl];refine wpAny_passesOwn hp (thn (hb pins s2 σ1 H2 _ I2 q2) λf s3 q3=>?_)
   cases f with
   | next=>
     obtain⟨σ3,H3,I3,n3⟩:=q3;grind
   | cont=>
     obtain⟨σ3,H3,I3,n3⟩:=q3;grind
   | brk=>exact q3
   | ret v=>exact q3
 | false=>
   rw[if_neg qi];exact wpAny_execs_nil ⟨σ1,H2,I2,q2⟩
end
structure It where
 go:Nat->Hp->Prop
 yld:Nat->Hp->V->Hp->Prop
 stop:Nat->Hp->Prop
def FpOk(X:Cx)(pins:AC)(H:Hp)(b:Addr):Prop:=
 H b=none/\b≠X.env.locals/\b∉X.fs/\(b∈X.ex\/X.s₀.heap.objs.size<=b)/\(∀x c,X.env.cells.lookup x=some c->c≠b)/\∀p∈X.pn++pins,p.1≠b
def Inv.fpOk{σ:St}{b:Addr}(I:Inv X pins σ H s)(hb:(~~~s)<=b)(hn:H' b=none):FpOk X pins H' b:=by
 refine⟨hn,Nat.ne_of_gt (Qc I.lt hb),I.nofs hb,.inr (Qg I.sz hb),λx c e z=>?_,λp hp z=>?_⟩
 ·obtain⟨v,q⟩:=I.cell x c e
  exact absurd (Qc q.lt (by rw[z];exact hb)) (Nat.lt_irrefl _)
 ·exact absurd (Qc (ql (I.pin p hp).1) (by rw[z];exact hb)) (Nat.lt_irrefl _)
structure Turn(P:Program)(w:World)(K:W.Frag)(tg:Expr)(J:It)(fp:List Addr)(it:Addr)(tn:Nat->Heap->Prop):Prop where
 mem:it∈fp
 obj:∀i h,tn i h->∀b∈fp,∃o,h.get? b=some o/\∀v,o.data≠.cell v
 keep:∀i h h',tn i h->(∀b∈fp,∀o,h.get? b=some o->h'.get? b=some o)->tn i h'
 item:∀(X:Cx),X.prog=P->X.w=w->X.K=K->X.calm=true->∀(i:Nat) (pins:AC) (s:Shared) (σ:St) (H:Hp) (E:AB),Inv X pins σ H s->(∀b∈fp,FpOk X pins H b)->tn i s.heap->J.go i H->
  wpAny (model P w) X.A (pyNext (.ref it)) (λr s1=>∃u,r=some u/\
   wpAny (model P w) X.A (letOwnedTupleGo tg (.ref it) u) (λ_ s2=>∃x H',Inv X pins σ H' s2/\RelV x u/\J.yld i H x H'/\tn (i+1) s2.heap/\∀b∈fp,H' b=none) E s1) E s
 done:∀(X:Cx),X.prog=P->X.w=w->X.K=K->X.calm=true->∀(i:Nat) (pins:AC) (s:Shared) (σ:St) (H:Hp) (E:AB),Inv X pins σ H s->(∀b∈fp,FpOk X pins H b)->tn i s.heap->J.stop i H->
  wpAny (model P w) X.A (pyNext (.ref it)) (λr s1=>r=none/\Inv X pins σ H s1) E s
 self:∀(A:Around) (i:Nat) (s:Shared) (Q:AB) (E:AB),tn i s.heap->Q (.ref it) s->wpAny (model P w) A (pyIter (.ref it)) Q E s
abbrev TI:=St->Hp->(It->Hp->Prop)->Prop
def PIE(X:Cx)(pins:AC)(σ:St)(tg:Expr)(R:It->Hp->Prop)(itv:Value)(s2:Shared):Prop:=
 ∃(it:Addr) (fp:List Addr) (tn:Nat->Heap->Prop) (J:It) (H':Hp),itv=.ref it/\Inv X pins σ H' s2/\Turn X.prog X.w X.K tg J fp it tn/\tn 0 s2.heap/\(∀b∈fp,FpOk X pins H' b)/\R J H'
def PI(X:Cx)(tg iter:Expr)(wi:TI):Prop:=
 ∀(pins:AC) (s:Shared) (σ:St) (H:Hp) (R:It->Hp->Prop),Inv X pins σ H s->wi σ H R->
  wpAny (model X.prog X.w) X.A (eval iter X.env) (λv s1=>wpAny (model X.prog X.w) X.A (pyIter v) (PIE X pins σ tg R) X.xe s1) X.xe s
theorem y37(ho:s.heap.get? it=some o)(hc:o.cls=.type n)(hd:o.data=.fields vs)(hn:["enumerate","zip","dict_itemiterator","dict_reverseitemiterator","odict_iterator","itertools.zip_longest","itertools.pairwise"].contains n=false)(hQ:Q () s):wpAny M A (letOwnedTupleGo tg (.ref it) u) Q E s:=by
 unfold letOwnedTupleGo
 cases tg<;>first
  | exact wb hQ
  | (cases u<;>first
   | exact wb hQ
   | (refine wa (wpAny_load ho ?_)
      rw[hc,hd];show wpAny M A (if (["enumerate","zip","dict_itemiterator","dict_reverseitemiterator","odict_iterator","itertools.zip_longest","itertools.pairwise"].contains n&&vs[0]?==some (rawInt _))=true then _ else _) Q E s;rw[if_neg (by grind)]
      exact wb hQ))
def Itl(K:W.Frag)(a:Addr):It:=
 ⟨λi H=>∃xs x,SqL K H a xs/\xs[i]?=some x,λi H x H'=>H'=H/\∀xs,SqL K H a xs->xs[i]?=some x,λi H=>∃xs,SqL K H a xs/\xs.length<=i⟩
def Itt(K:W.Frag)(a:Addr):It:=
 ⟨λi H=>∃xs x,SqT K H a xs/\xs[i]?=some x,λi H x H'=>H'=H/\∀xs,SqT K H a xs->xs[i]?=some x,λi H=>∃xs,SqT K H a xs/\xs.length<=i⟩
def Itr(lo:Int)(n:Nat):It:=⟨λi _=>i<n,λi H x H'=>H'=H/\x=.int (lo+i),λi _=>n<=i⟩
theorem Yzj{K:W.Frag}(a it:Addr):Turn P w K tg (Itl K a) [it] it (λi h=>h.IsListIter it a i) where
 mem:=by simp
 obj:=λi h st b hb=>by
  have e:b=it:=by grind
  subst e;obtain⟨o,e,c,d⟩:=st;grind
 keep:=λi h h' st k=>st.at λo e=>k it (by simp) o e
 item:=by
  intro X hP hw hK hc i pins s σ H E I hf st hg;subst hP hw hK;obtain⟨xs,x,hq,hx⟩:=hg;obtain⟨its,rv,p,hz⟩:=I.list hq;obtain⟨u,hu,ru⟩:=rv.get hx;obtain⟨f0,f1,f2,f3,f4,f5⟩:=hf it (by simp);refine wpAny_pyNext_list_item st p.isList (x:=u) (by grind) λh' st' sb=>?_;have I1:Inv X pins σ H { s with heap:=h' }:=I.turned (t':=s.toks) (λb o hb e=>(sb.2 b hb).trans e) f0 f1 f3 f4 f5;obtain⟨o,e,c,d⟩:=id st';exact⟨u,rfl,y37 (s:={ s with heap:=h' }) e c d (by decide) ⟨x,H,I1,ru,⟨rfl,λys hy=>by rw[I.list_inj hy hq];exact hx⟩,st',λb hb=>(hf b hb).1⟩⟩
 done:=by
  intro X hP hw hK hc i pins s σ H E I hf st hg;subst hP hw hK;obtain⟨xs,hq,hx⟩:=hg;obtain⟨its,rv,p,hz⟩:=I.list hq;obtain⟨f0,f1,f2,f3,f4,f5⟩:=hf it (by simp);have hl:=rv.length
  exact wpAny_pyNext_list_end (I.ok.hd hc) st p.isList (by simp;lia) λh' eb=>⟨rfl,I.turned (t':=s.toks) (λb o hb e=>eb b o hb e) f0 f1 f3 f4 f5⟩
 self:=λ_ _ _ _ _ st h=>wpAny_pyIter_listiter st h
theorem Yxo{K:W.Frag}(a it:Addr):Turn P w K tg (Itt K a) [it] it (λi h=>h.IsTupleIter it a i) where
 mem:=by simp
 obj:=λi h st b hb=>by
  have e:b=it:=by grind
  subst e;obtain⟨o,e,c,d⟩:=st;grind
 keep:=λi h h' st k=>st.at λo e=>k it (by simp) o e
 item:=by
  intro X hP hw hK hc i pins s σ H E I hf st hg;subst hP hw hK;obtain⟨xs,x,hq,hx⟩:=hg;obtain⟨its,rv,p,hz⟩:=I.tuple hq;obtain⟨u,hu,ru⟩:=rv.get hx;obtain⟨f0,f1,f2,f3,f4,f5⟩:=hf it (by simp);refine wpAny_pyNext_tuple_item st (show s.heap.IsTuple a its.toArray from p) (x:=u) (by grind) λh' st' sb=>?_;have I1:Inv X pins σ H { s with heap:=h' }:=I.turned (t':=s.toks) (λb o hb e=>(sb.2 b hb).trans e) f0 f1 f3 f4 f5;obtain⟨o,e,c,d⟩:=id st';exact⟨u,rfl,y37 (s:={ s with heap:=h' }) e c d (by decide) ⟨x,H,I1,ru,⟨rfl,λys hy=>by rw[I.tuple_inj hy hq];exact hx⟩,st',λb hb=>(hf b hb).1⟩⟩
 done:=by
  intro X hP hw hK hc i pins s σ H E I hf st hg;subst hP hw hK;obtain⟨xs,hq,hx⟩:=hg;obtain⟨its,rv,p,hz⟩:=I.tuple hq;obtain⟨f0,f1,f2,f3,f4,f5⟩:=hf it (by simp);have hl:=rv.length
  exact wpAny_pyNext_tuple_end (I.ok.hd hc) st (show s.heap.IsTuple a its.toArray from p) (by simp;lia) λh' eb=>⟨rfl,I.turned (t':=s.toks) (λb o hb e=>eb b o hb e) f0 f1 f3 f4 f5⟩
 self:=λ_ _ _ _ _ st h=>wpAny_pyIter_tupleiter st h
theorem Yxp{K:W.Frag}(it:Addr)(lo:Int)(n:Nat):Turn P w K tg (Itr lo n) [it] it (λi h=>IsRangeIter h it (lo+(i:Nat)*1) ((n:Int)-(i:Nat)) 1) where
 mem:=by simp
 obj:=λi h st b hb=>by
  grind
 keep:=λi h h' st k=>k it (by simp) _ st
 item:=by
  intro X hP hw hK hc i pins s σ H E I hf st hg;subst hP hw hK;obtain⟨f0,f1,f2,f3,f4,f5⟩:=hf it (by simp);have W:=Walks.range (prog:=X.prog) (w:=X.w) (I.ok.hd hc) it lo 1 n;refine W.item i s _ _ hg st λv h' tk hv st' kk=>?_;obtain⟨t,rfl⟩:=hv;have I1:Inv X pins σ H { s with heap:=h',toks:=tk }:=I.turned (λb o hb e=>kk b o (by grind) e) f0 f1 f3 f4 f5;refine⟨_,rfl,y37 (s:={ s with heap:=h',toks:=tk }) (n:="range_iterator") st' rfl rfl (by decide) ⟨.int (lo+i),H,I1,⟨t,?_⟩,⟨rfl,rfl⟩,st',λb hb=>(hf b hb).1⟩⟩;grind
 done:=by
  intro X hP hw hK hc i pins s σ H E I hf st hg;subst hP hw hK;obtain⟨f0,f1,f2,f3,f4,f5⟩:=hf it (by simp)
  exact wpAny_pyNext_range_end (I.ok.hd hc) st (by have:n<=i:=hg;lia) λh' eb=>⟨rfl,I.turned (t':=s.toks) (λb o hb e=>eb b o hb e) f0 f1 f3 f4 f5⟩
 self:=λ_ _ _ _ _ st h=>wpAny_pyIter_rangeiter st h
section
variable {X:Cx}{tg:Expr}
theorem Yv0{σ:St}{lo hi:Int}(I:Inv X pins σ H s)(h1:-(2^62)<=lo)(h2:lo<2^62)(h3:-(2^62)<=hi)(h4:hi<2^62)(q:R (Itr lo (hi-lo).toNat) H):wpAny (model X.prog X.w) X.A (pyIter (.ref (~~~s))) (PIE X pins σ tg R) E { s with heap:=s.heap.push { cls:=.type "range",data:=.fields #[.int lo t,.int hi u,.int 1 v] },toks:=tk }:=by
 refine wpAny_pyIter_range (IsRange.new ..) (small_one h1 h2 h3 h4) ?_;have I1:Inv X pins σ H { s with heap:=s.heap.push { cls:=.type "range",data:=.fields #[.int lo t,.int hi u,.int 1 v] },toks:=tk }:=I.kept λb o e=>qe _ e
 refine⟨(s.heap.push { cls:=.type "range",data:=.fields #[.int lo t,.int hi u,.int 1 v] }).objs.size,[(s.heap.push { cls:=.type "range",data:=.fields #[.int lo t,.int hi u,.int 1 v] }).objs.size],_,_,H,rfl,
  I1.kept (t':=tk) λb o e=>qe _ e,Yxp _ lo (hi-lo).toNat,?_,λb hb=>?_,q⟩
 ·have e1:lo+((0:Nat):Int)*1=lo:=by simp
  have e2:(((hi-lo).toNat:Nat):Int)-((0:Nat):Int)=Builtin.Range.rangeSize lo hi 1:=by rw[rangeSize_one];split<;>lia
  show IsRangeIter _ _ (lo+((0:Nat):Int)*1) ((((hi-lo).toNat:Nat):Int)-((0:Nat):Int)) 1;rw[e1,e2];exact qp _ rfl
 ·have e:b=(s.heap.push { cls:=.type "range",data:=.fields #[.int lo t,.int hi u,.int 1 v] }).objs.size:=by simpa using hb
  subst e;exact I1.fpOk (qu _) (I1.hok.fresh (qu _))
def Yae9(ta:TA):TI:=λσ H R=>ta σ H λvs H1=>∃j:Int,vs=[.int j]/\-(2^62)<=j/\j<2^62/\R (Itr 0 j.toNat) H1
def Yafa(ta:TA):TI:=λσ H R=>ta σ H λvs H1=>∃i j:Int,vs=[.int i,.int j]/\(-(2^62)<=i/\i<2^62/\-(2^62)<=j/\j<2^62)/\R (Itr i (j-i).toNat) H1
theorem Yzk(hg:Gl X "range")(hm:X.mg "range"=none)(ha:PA X [a] ta)(hs:starEach [a] X.env=[(false,eval a X.env)]:=by rfl):PI X tg (.Call (.Name "range" p) [a] [] pos) (Yae9 ta):=by
 intro pins s σ H R I h;refine Call_ (Ykb I hg hm boot_range (PyProof.Rows.callWith_type1 (thn (ha pos pins s σ H _ I h) λus s1 hx_=>?_) hs rfl));obtain⟨vs,H1,I1,r1,q1⟩:=hx_;obtain⟨j,e,q1,q2,q⟩:=q1;subst e
 cases r1 with
 | cons r rr=>
   cases rr;obtain⟨t,rfl⟩:=r;exact call_range_1 (Yv0 I1 (by lia) (by lia) q1 q2 (by simpa using q))
def Yzl{p pos:Pos}(hg:Gl X "range")(hm:X.mg "range"=none)(ha:PA X [a,b] ta)(hs:starEach [a,b] X.env=[(false,eval a X.env),(false,eval b X.env)]:=by rfl)(hs2:starEach [b] X.env=[(false,eval b X.env)]:=by rfl):
 PI X tg (.Call (.Name "range" p) [a,b] [] pos) (Yafa ta):=by
 intro pins s σ H R I h;refine Call_ (Ykb I hg hm boot_range (PyProof.Rows.callWith_type1 (thn (ha pos pins s σ H _ I h) λus s1 ⟨vs,H1,I1,r1,q1⟩=>?_) (by rw[hs,hs2]) (by rw[hs2];rfl)));obtain⟨i,j,e,⟨q1,q2,q3,q4⟩,q⟩:=q1;subst e
 cases r1 with
 | cons r rr=>
   cases rr with
   | cons r' rr=>
     cases rr;obtain⟨t,rfl⟩:=r;obtain⟨t',rfl⟩:=r';exact call_range_2 (Yv0 I1 q1 q2 q3 q4 q)
def tFor(wi:TI)(g:TG)(tb:TS):TS:=λD σ H=>wi σ H λJ H1=>∃W:Nat->Nat->St->Hp->Prop,(∃m,W 0 m σ H1)/\∀i m σ H,W i m σ H->
 (J.stop i H/\D.nx σ H)\/(J.go i H/\∃N:St->Hp->Prop,(∀σ' H',N σ' H'->∃m',m'<m/\W (i+1) m' σ' H')/\∀x H',J.yld i H x H'->g x σ H' λσ2 H2=>tb { D with nx:=N,ct:=N,bk:=D.nx } σ2 H2)
def Yq1(fp:List Addr)(h:Heap):AC:=fp.filterMap λb=>(h.get? b).map λo=>(b,o)
def Ygx(hb:b∈fp)(e:h.get? b=some o):(b,o)∈Yq1 fp h:=List.mem_filterMap.mpr ⟨b,hb,by rw[e];rfl⟩
theorem Yzm(hp:p∈Yq1 fp h):p.1∈fp/\h.get? p.1=some p.2:=by
 obtain⟨b,hb,e⟩:=List.mem_filterMap.mp hp
 cases q:h.get? b with
 | none=>grind
 | some o=>
   grind
theorem Inv.pinned{σ:St}(I:Inv X pins σ H s)(hf:∀b∈fp,FpOk X pins H b)(ho:∀b∈fp,∃o,s.heap.get? b=some o/\∀v,o.data≠.cell v):Inv X (pins++Yq1 fp s.heap) σ H s:=
 I.pins_of λp hp=>(qv hp).elim (λz=>I.pin p (Qi _ z)) λz=>by
  obtain⟨hb,e⟩:=Yzm z;obtain⟨f0,f1,f2,_⟩:=hf p.1 hb;grind
def Inv.unpinned{σ:St}(I:Inv X (pins++pl) σ H s):Inv X pins σ H s:=I.pins_of λp hp=>I.pin p (Qi _ (List.mem_append_left _ hp))
def Yabc(hp:PassesOwn (model X.prog X.w) X.A X.env X.xe)(hc:X.calm=true)(hi:PI X tg iter wi)(hg:PG X tg g)(hb:PSs X body tb)(hs:∀x,foldedSetIterable iter X.env x=pure x:=by intro _;rfl):PS X (.For tg iter body [] pos) (tFor wi g tb):=by
 intro pins s σ H D I h;refine wpAny_For (thn (hi pins s σ H _ I h) λv s1 h1=>thn h1 λitv s2 h2=>?_) hs;obtain⟨it,fp,tn,J,H2,e,I2,T,st2,f2,W,⟨m0,w0⟩,turn⟩:=h2;subst e
 have stat:∀{H':Hp},(∀b∈fp,H' b=none)->∀b∈fp,FpOk X pins H' b:=λhn b hb=>⟨hn b hb,(f2 b hb).2⟩
 refine codeAny_forLoop_any (λn s'=>∃i σ' H',Inv X pins σ' H' s'/\tn i s'.heap/\(∀b∈fp,H' b=none)/\W i n σ' H') ?_ m0 ⟨0,σ,H2,I2,st2,λb hb=>(f2 b hb).1,w0⟩;rintro n s3 ⟨i,σ3,H3,I3,st3,fr3,w3⟩;rcases turn i n σ3 H3 w3 with⟨stop,qn⟩|⟨go,N,hN,step⟩
 ·refine wpAny_passesOwn hp (thn (T.done X rfl rfl rfl hc i pins s3 σ3 H3 X.xe I3 (stat fr3) st3 stop) λr s4 hx_=>?_)
  obtain⟨hr,I4⟩:=hx_;subst hr;exact wpAny_execs_nil ⟨σ3,H3,I4,qn⟩
 ·refine wpAny_passesOwn hp (thn (T.item X rfl rfl rfl hc i pins s3 σ3 H3 X.xe I3 (stat fr3) st3 go) λr s4 hx_=>?_)
  obtain⟨u,hr,h4⟩:=hx_;subst hr;refine wpAny_passesOwn hp (thn h4 λ_ s5 hx_=>?_);obtain⟨x,H5,I5,r5,y5,st5,fr5⟩:=hx_;have I5':=I5.pinned (stat fr5) (T.obj _ _ st5);refine wpAny_passesOwn hp (thn (hg _ s5 σ3 H5 x u _ I5' r5 (step x H5 y5)) λ_ s6 hx_=>?_);obtain⟨σ6,H6,I6,q6⟩:=hx_;refine wpAny_passesOwn hp (thn (hb _ s6 σ6 H6 _ I6 q6) λf s7 q7=>?_)
  have again:∀{σ7:St}{H7:Hp},Inv X (pins++Yq1 fp s5.heap) σ7 H7 s7->N σ7 H7->∃m,m<n/\∃i σ' H',Inv X pins σ' H' s7/\tn i s7.heap/\(∀b∈fp,H' b=none)/\W i m σ' H':=λ{σ7 H7} I7 n7=>by
   obtain⟨m',hm,w7⟩:=hN σ7 H7 n7;refine⟨m',hm,i+1,σ7,H7,I7.unpinned,T.keep _ _ _ st5 λb hb o e=>(I7.pin (b,o) (Qi _ (Qi _ (Ygx hb e)))).1,λb hb=>?_,w7⟩;obtain⟨o,e,d⟩:=T.obj _ _ st5 b hb;exact(I7.pin (b,o) (Qi _ (Qi _ (Ygx hb e)))).2.1
  cases f with
  | next=>obtain⟨σ7,H7,I7,n7⟩:=q7;exact again I7 n7
  | cont=>obtain⟨σ7,H7,I7,n7⟩:=q7;exact again I7 n7
  | brk=>obtain⟨σ7,H7,I7,q7⟩:=q7;exact⟨σ7,H7,I7.unpinned,q7⟩
  | ret v=>obtain⟨x7,σ7,H7,I7,r7,q7⟩:=q7;exact⟨x7,σ7,H7,I7.unpinned,r7,q7⟩
end
abbrev R2:=V->V->Hp->VK->Prop
def OpR(X:Cx)(f:Value->Value->Sem Value)(r:R2):Prop:=
 ∀(pins:AC) (s:Shared) (σ:St) (H:Hp) (x y:V) (v u:Value) (Q:VK),Inv X pins σ H s->RelV x v->RelV y u->r x y H Q->
  wpAny (model X.prog X.w) X.A (f v u) (EP X pins σ Q) X.xe s
def UnR(X:Cx)(f:Value->Sem Value)(r:V->Hp->VK->Prop):Prop:=
 ∀(pins:AC) (s:Shared) (σ:St) (H:Hp) (x:V) (v:Value) (Q:VK),Inv X pins σ H s->RelV x v->r x H Q->
  wpAny (model X.prog X.w) X.A (f v) (EP X pins σ Q) X.xe s
def Ydt(X:Cx)(f:Value)(r:AQ->Hp->VK->Prop):Prop:=
 ∀(pins:AC) (s:Shared) (σ:St) (H:Hp) (xs:AQ) (us:AD) (Q:VK),Inv X pins σ H s->Vals xs us->r xs H Q->
  wpAny (model X.prog X.w) X.A (call f us) (EP X pins σ Q) X.xe s
def TruR(X:Cx)(r:V->Hp->(Bool->Hp->Prop)->Prop):Prop:=
 ∀(pins:AC) (s:Shared) (σ:St) (H:Hp) (x:V) (v:Value) (Q:Bool->Hp->Prop),Inv X pins σ H s->RelV x v->r x H Q->
  wpAny (model X.prog X.w) X.A (truthy v) (TP X pins σ Q) X.xe s
def tOp(r:R2)(ta tb:TE):TE:=λσ H Q=>ta σ H λx H1=>tb σ H1 λy H2=>r x y H2 Q
def tUn(r:V->Hp->VK->Prop)(ta:TE):TE:=λσ H Q=>ta σ H λx H1=>r x H1 Q
def rI(C:Int->Int->Prop)(g:Int->Int->V):R2:=λx y H Q=>∃i j,x=.int i/\y=.int j/\C i j/\Q (g i j) H
def rI0(g:Int->Int->V):R2:=λx y H Q=>∃i j,x=.int i/\y=.int j/\Q (g i j) H
def rU(g:Int->V):V->Hp->VK->Prop:=λx H Q=>∃i,x=.int i/\Q (g i) H
section
variable {X:Cx}{a b c:Expr}{ta tb tc:TE}{pos:Pos}
theorem binT(ha:PE X a ta)(hb:PE X b tb){σ:St}{R:V->V->Hp->Prop}(I:Inv X pins σ H s)(h:ta σ H λx H1=>tb σ H1 λy H2=>R x y H2){f:Value->Value->Sem Value}(hf:∀v u s2 x y H2,Inv X pins σ H2 s2->RelV x v->RelV y u->R x y H2->wpAny (model X.prog X.w) X.A (f v u) Q X.xe s2):
 wpAny (model X.prog X.w) X.A (eval a X.env) (λv s₁=>wpAny (model X.prog X.w) X.A (eval b X.env) (λu s₂=>wpAny (model X.prog X.w) X.A (f v u) Q X.xe s₂) X.xe s₁) X.xe s:=by
 refine thn (ha pins s σ H _ I h) λv s1 hx_=>?_;obtain⟨x,H1,I1,r1,q1⟩:=hx_;refine thn (hb pins s1 σ H1 _ I1 q1) λu s2 hx_=>?_;obtain⟨y,H2,I2,r2,q2⟩:=hx_;grind
def y38(ho:OpR X (binaryOp op) r)(ha:PE X a ta)(hb:PE X b tb):PE X (.BinOp a op b pos) (tOp r ta tb):=by
 intro pins s σ H Q I h;exact wpAny_BinOp (binT ha hb I h λv u s2 x y H2 I2 rx ry q=>ho pins s2 σ H2 x y v u Q I2 rx ry q)
def Yafb(ho:UnR X (unaryOp op) r)(ha:PE X a ta):PE X (.UnaryOp op a pos) (tUn r ta):=by
 intro pins s σ H Q I h;refine UnaryOp_ (thn (ha pins s σ H _ I h) λv s1 hx_=>?_);obtain⟨x,H1,I1,r1,q1⟩:=hx_;exact ho pins s1 σ H1 x v Q I1 r1 q1
def opI{g:Int->Int->Int}(rule:∀(i j:Int) (t u:Tok) (s:Shared) (Q:AB) (E:AB),C i j->Q (.int (g i j) s.toks) { s with toks:=s.toks+1 }->wpAny (model X.prog X.w) X.A (f (.int i t) (.int j u)) Q E s):
 OpR X f (rI C λi j=>.int (g i j)):=by
 intro pins s σ H x y v u Q I rx ry h;obtain⟨i,j,rfl,rfl,hc,q⟩:=h;obtain⟨t,rfl⟩:=rx;obtain⟨t',rfl⟩:=ry;exact rule i j t t' s _ _ hc ⟨.int (g i j),H,I.tok _,⟨_,rfl⟩,q⟩
def opI0{g:Int->Int->Int}(rule:∀(i j:Int) (t u:Tok) (s:Shared) (Q:AB) (E:AB),Q (.int (g i j) s.toks) { s with toks:=s.toks+1 }->wpAny (model X.prog X.w) X.A (f (.int i t) (.int j u)) Q E s):
 OpR X f (rI0 λi j=>.int (g i j)):=by
 intro pins s σ H x y v u Q I rx ry h;obtain⟨i,j,rfl,rfl,q⟩:=h;obtain⟨t,rfl⟩:=rx;obtain⟨t',rfl⟩:=ry;exact rule i j t t' s _ _ ⟨.int (g i j),H,I.tok _,⟨_,rfl⟩,q⟩
def opB0{g:Int->Int->Bool}(rule:∀(i j:Int) (t u:Tok) (s:Shared) (Q:AB) (E:AB),Q (.bool (g i j)) s->wpAny (model X.prog X.w) X.A (f (.int i t) (.int j u)) Q E s):
 OpR X f (rI0 λi j=>.bl (g i j)):=by
 intro pins s σ H x y v u Q I rx ry h;obtain⟨i,j,rfl,rfl,q⟩:=h;obtain⟨t,rfl⟩:=rx;obtain⟨t',rfl⟩:=ry;exact rule i j t t' s _ _ ⟨.bl (g i j),H,I,rfl,q⟩
def CDiv(i j:Int):Prop:=0<j/\j<1073741824
def CMul(i j:Int):Prop:=(-(2^64)<i/\i<2^64)\/(-(2^64)<j/\j<2^64)
def CMul.ok(h:CMul i j):IntMulOk i j:=by
 rcases h with⟨h1,h2⟩|⟨h1,h2⟩
 ·exact .of_left (intBits_le_64 h1 h2)
 ·exact .of_right (intBits_le_64 h1 h2)
def Yabd:OpR X (binaryOp .Add) (rI0 λi j=>.int (i+j)):=opI0 λ_ _ _ _ _ _ _ q=>add_int q
def Yabe:OpR X (binaryOp .Sub) (rI0 λi j=>.int (i-j)):=opI0 λ_ _ _ _ _ _ _ q=>sub_int q
def Yabf:OpR X (binaryOp .Mult) (rI CMul λi j=>.int (i*j)):=opI λ_ _ _ _ _ _ _ hc q=>mul_int q hc.ok
theorem y7z:OpR X (binaryOp .FloorDiv) (rI CDiv λi j=>.int (i/j)):=opI λi j _ _ _ _ _ hc q=>by
 have h1:(0:Int)<j:=hc.1;have h2:j<1073741824:=hc.2;exact floordiv_int (by lia) (by grind) (.inl (PyProof.noPylong_small (by lia)))
theorem Yabg:OpR X (binaryOp .Mod) (rI (λ_ j=>0<j) λi j=>.int (i%j)):=opI λi j _ _ _ _ _ hc q=>by
 have h1:(0:Int)<j:=hc;exact mod_int' (by lia) (by grind)
theorem Yabh:OpR X (binaryOp .RShift) (rI (λ_ j=>0<=j) λi j=>.int (i/2^j.toNat)):=opI λi j _ _ _ _ _ hc q=>
 rshift_int hc (by grind)
def op_xor:OpR X (binaryOp .BitXor) (rI0 λi j=>.int (Builtin.bitXor i j)):=opI0 λ_ _ _ _ _ _ _ q=>xor_int q
def unI{g:Int->Int}(rule:∀(i:Int) (t:Tok) (s:Shared) (Q:AB) (E:AB),Q (.int (g i) s.toks) { s with toks:=s.toks+1 }->wpAny (model X.prog X.w) X.A (f (.int i t)) Q E s):
 UnR X f (rU λi=>.int (g i)):=by
 intro pins s σ H x v Q I rx h;obtain⟨i,rfl,q⟩:=h;obtain⟨t,rfl⟩:=rx;exact rule i t s _ _ ⟨.int (g i),H,I.tok _,⟨_,rfl⟩,q⟩
def Yabi:UnR X (unaryOp .USub) (rU λi=>.int (-i)):=unI λ_ _ _ _ _ q=>neg_int q
end
def scal:V->V->Bool
 | .non,.non=>true|.non,.int _=>true|.int _,.non=>true|.non,.bl _=>true|.bl _,.non=>true|.non,.str _=>true|.str _,.non=>true
 | .int _,.int _=>true|.bl _,.bl _=>true|.str _,.str _=>true|.byt _,.byt _=>true
 | .int _,.str _=>true|.str _,.int _=>true|.bl _,.str _=>true|.str _,.bl _=>true
 | _,_=>false
section
variable {X:Cx}{a b c:Expr}{ta tb tc:TE}{pos:Pos}
def y6u{σ:St}(I:Inv X pins σ H s)(q:Q (.bl k) H)(e:k=k'):EP X pins σ Q (.bool k') s:=by
 subst e;exact⟨.bl k,H,I,rfl,q⟩
def Yabj:OpR X (compareOp .Lt) (rI0 λi j=>.bl (decide (i<j))):=opB0 λ_ _ _ _ _ _ _ q=>lt_int q
def Yafc:OpR X (compareOp .LtE) (rI0 λi j=>.bl (decide (i<=j))):=opB0 λ_ _ _ _ _ _ _ q=>le_int q
def Yafd:OpR X (compareOp .Gt) (rI0 λi j=>.bl (decide (j<i))):=opB0 λ_ _ _ _ _ _ _ q=>gt_int q
theorem Yabk:OpR X (compareOp .Is) (λx y H Q=>y=.non/\Q (.bl (decide (x=.non))) H):=by
 intro pins s σ H x y v u Q I rx ry h;obtain⟨rfl,q⟩:=h;cases ry;refine is_none_gen (y6u I q ?_)
 cases x<;>first
  | (cases rx;rfl)
  | (obtain⟨t,rfl⟩:=rx;rfl)
theorem Yzn:OpR X (compareOp .IsNot) (λx y H Q=>y=.non/\Q (.bl (!decide (x=.non))) H):=by
 intro pins s σ H x y v u Q I rx ry h;obtain⟨rfl,q⟩:=h;cases ry;refine isnot_none_gen (y6u I q ?_)
 cases x<;>first
  | (cases rx;rfl)
  | (obtain⟨t,rfl⟩:=rx;rfl)
theorem Yih(b:Expr)(h:op≠.In:=by decide)(h2:op≠.NotIn:=by decide):behindInMarks op b=false:=by
 have e1:(op==CmpOp.In)=false:=by grind
 have e2:(op==CmpOp.NotIn)=false:=by grind
 cases b with
 | Set elts k p=>
   show((k==0)&&((op==CmpOp.In)||(op==CmpOp.NotIn))&&_)=false;grind
 | _=>rfl
def y70(ho:OpR X (compareOp op) r)(ha:PE X a ta)(hb:PE X b tb)(hm:behindInMarks op b=false):PE X (.Compare a [op] [b] pos) (tOp r ta tb):=by
 intro pins s σ H Q I h;exact wpAny_Compare1 (binT ha hb I h λv u s2 x y H2 I2 rx ry q=>ho pins s2 σ H2 x y v u Q I2 rx ry q) hm
def Yabl(t:TE):TT:=λσ H Q=>t σ H λx H'=>∃k,x=.bl k/\Q k H'
def y71(ho:OpR X (compareOp op) r)(ha:PE X a ta)(hb:PE X b tb)(hm:behindInMarks op b=false):PT X (.Compare a [op] [b] pos) (Yabl (tOp r ta tb)):=by
 intro pins s σ H Q I h;refine wpAny_isTrue_Compare1 (thn (ha pins s σ H _ I h) λv s1 hx_=>?_) hm;obtain⟨x,H1,I1,r1,q1⟩:=hx_;refine thn (hb pins s1 σ H1 _ I1 q1) λu s2 hx_=>?_;obtain⟨y,H2,I2,r2,q2⟩:=hx_;refine thn (ho pins s2 σ H2 x y v u _ I2 r1 r2 q2) λc s3 hx_=>?_;obtain⟨z,H3,I3,r3,k,e,q3⟩:=hx_;subst e;cases r3;exact wpAny_truthy_bool ⟨H3,I3,q3⟩
def Yabm(r r':R2)(ta tb tc:TE):TE:=λσ H Q=>ta σ H λx H1=>tb σ H1 λy H2=>r x y H2 λz H3=>∃k,z=.bl k/\
 (if k=true then tc σ H3 λw' H4=>r' y w' H4 Q else Q (.bl false) H3)
def y39(ho:OpR X (compareOp op) r)(ho':OpR X (compareOp op') r')(ha:PE X a ta)(hb:PE X b tb)(hc:PE X c tc)(hm:lastMarks [op,op'] [b,c]=false:=by with_unfolding_all rfl):PE X (.Compare a [op,op'] [b,c] pos) (Yabm r r' ta tb tc):=by
 intro pins s σ H Q I h;refine Compare_chain (thn (ha pins s σ H _ I h) λv s1 hx_=>?_) hm;obtain⟨x,H1,I1,r1,q1⟩:=hx_;refine chain_link (thn (hb pins s1 σ H1 _ I1 q1) λu s2 hx_=>?_);obtain⟨y,H2,I2,r2,q2⟩:=hx_;refine thn (ho pins s2 σ H2 x y v u _ I2 r1 r2 q2) λd s3 hx_=>?_;obtain⟨z,H3,I3,r3,k,e,q3⟩:=hx_;subst e;cases r3;refine wpAny_truthy_bool ?_
 cases k with
 | false=>exact ite_ff ⟨.bl false,H3,I3,rfl,q3⟩
 | true=>
   refine ite_tt (chain_last (thn (hc pins s3 σ H3 _ I3 q3) λw' s4 hx_=>?_));obtain⟨z',H4,I4,r4,q4⟩:=hx_;exact ho' pins s4 σ H4 y z' u w' Q I4 r2 r4 q4
def TruV(K:W.Frag)(x:V)(H:Hp)(k:Bool):Prop:=
 match x with
 | .non=>k=false
 | .bl b=>k=b
 | .int i=>k=(i != 0)
 | .str y=>y.length<=sizeLine/\k=((y.length:Int)!=0)
 | .byt y=>y.size<=sizeLine/\k=((y.size:Int)!=0)
 | .ref p=>(∃xs,SqL K H p xs/\k=!xs.isEmpty)\/(∃xs,SqT K H p xs/\k=!xs.isEmpty)\/∃kvs,H p=some (.dK kvs)/\k=!kvs.isEmpty
 | _=>False
def Yxq{vs:List (κ×Value)}(r:KV kvs vs):(!vs.isEmpty)=!kvs.isEmpty:=by
 cases r<;>rfl
def Yn8(r:Vals xs its):(!its.toArray.isEmpty)=!xs.isEmpty:=by
 cases r<;>simp
theorem Yq2:(sizeLine:Nat)<2^63:=by rw[jj];decide
theorem Yabn:TruR X (λx H Q=>∃k,TruV X.K x H k/\Q k H):=by
 intro pins s σ H x v Q I rx h;obtain⟨k,e,q⟩:=h;have hl:=Yq2;have hs:sizeLine=16777216:=jj
 cases x with
 | non=>
   cases rx;have e':k=false:=e;subst e';exact truthy_none ⟨H,I,q⟩
 | bl b=>
   cases rx;have e':k=b:=e;subst e';exact wpAny_truthy_bool ⟨H,I,q⟩
 | int i=>
   obtain⟨t,rfl⟩:=rx;have e':k=(i != 0):=e;subst e';exact PySem.P.truthy_int ⟨H,I,q⟩
 | str y=>
   obtain⟨t,rfl⟩:=rx;obtain⟨hy,e'⟩:y.length<=sizeLine/\k=((y.length:Int)!=0):=e;subst e';exact PySem.P.truthy_str (by lia) ⟨H,I.tok _,q⟩
 | byt y=>
   obtain⟨t,rfl⟩:=rx;obtain⟨hy,e'⟩:y.size<=sizeLine/\k=((y.size:Int)!=0):=e;subst e';exact W.truthy_bytes (by lia) ⟨H,I.tok _,q⟩
 | ref p=>
   cases rx;have e':(∃xs,SqL X.K H p xs/\k=!xs.isEmpty)\/(∃xs,SqT X.K H p xs/\k=!xs.isEmpty)\/∃kvs,H p=some (.dK kvs)/\k=!kvs.isEmpty:=e;rcases e' with⟨xs,hx,e'⟩|⟨xs,hx,e'⟩|⟨kvs,hx,e'⟩
   ·subst e'
    obtain⟨its,r,pl,hz⟩:=I.list hx;have hlen:=r.length;exact wpAny_truthy_list pl.isList (by grind) ⟨H,I.tok _,by rw[Yn8 r];exact q⟩
   ·subst e'
    obtain⟨its,r,pl,hz⟩:=I.tuple hx;have hlen:=r.length;exact truthy_tuple pl (by grind) ⟨H,I.tok _,by rw[Yn8 r];exact q⟩
   ·subst e'
    obtain⟨hz,hS,vs,r,m⟩:kvs.length<=sizeLine/\(p==sysModules)=false/\∃vs,KV kvs vs/\s.heap.DictOf (Yah X.prog X.w) p vs:=I.hok p _ hx;have hlen:kvs.length=vs.length:=Paired.length r;exact wpAny_truthy_dict hS m (by lia) ⟨H,I.tok _,by rw[Yxq r];exact q⟩
 | _=>exact(show False from e).elim
def y4a(ha:PE X a ta)(he:∀whole,isTrue a X.env whole=(do let v <-whole;standAt a.pos;holding [v] (truthy v))):
 PT X a (λσ H Q=>ta σ H λx H'=>∃k,TruV X.K x H' k/\Q k H'):=by
 intro pins s σ H Q I h;refine isTrue_plain (thn (ha pins s σ H _ I h) λv s1 hx_=>?_) (he _);obtain⟨x,H1,I1,r1,q1⟩:=hx_;exact Yabn pins s1 σ H1 x v Q I1 r1 q1
theorem Yhc(r:Vals [x] us):∃u,us=[u]/\RelV x u:=by
 cases r with
 | cons r1 r2=>cases r2;grind
theorem Yxr(r:Vals [x,y] us):∃u w',us=[u,w']/\RelV x u/\RelV y w':=by
 cases r with
 | cons r1 r2=>
   cases r2 with
   | cons r3 r4=>cases r4;grind
def Yq3(hc:X.calm=true):Ydt X (.builtin "min") (λxs H Q=>∃i j,xs=[.int i,.int j]/\Q (.int (if j<i then j else i)) H):=by
 intro pins s σ H xs us Q I r h;obtain⟨i,j,rfl,q⟩:=h;obtain⟨u,w',rfl,⟨t,rfl⟩,⟨t',rfl⟩⟩:=Yxr r
 refine min_two_ints (I.ok.hd hc) λh' tk k=>⟨_,H,I.kept k,?_,q⟩
 by_cases hj:j<i
 ·rw[if_pos hj,if_pos hj];exact⟨_,rfl⟩
 ·rw[if_neg hj,if_neg hj];exact⟨_,rfl⟩
end
structure ObjM(h:Heap)(x dx C:Addr)(mA:AE):Prop where
 obj:h.get? x=some (W.instObj C dx)
 ns:h.Ns1 dx mA
 ne:dx≠x
theorem Yzo{h:Heap}(n:h.Ns1 dx mA):∃od,h.get? dx=some od/\∀name,W.lookIn name od=some (mA name):=by
 obtain⟨o,es,ep,ho,hd,hk,_,hm⟩:=n;refine⟨o,ho,λname=>?_⟩;have e:=hm name;unfold nsFind findBy at e;rw[<-Array.find?_toList]at e;unfold W.lookIn;rw[hd];dsimp only
 split
 ·grind
 ·rename_i q
  rw[q]at e
  have a:es.toList.any (·.refKey)=false:=by
   rw[List.any_eq_false];intro y hy;obtain⟨z,t,hkey⟩:=hk y (Array.mem_toList_iff.mp hy);simp[DictEntry.refKey,hkey]
  grind
def ObjM.look(I:ObjM h x dx C mA):∃od,W.InstAt h x (W.instObj C dx) C (some od)/\∀name,W.lookIn name od=some (mA name):=
 let ⟨od,ho,hl⟩:=Yzo I.ns
 ⟨od,⟨I.obj,rfl,rfl,ho⟩,hl⟩
def RelO.some_of(r:RelO (some v) o):∃u,o=some u/\RelV v u:=by
 cases o with
 | none=>exact(show False from r).elim
 | some u=>exact⟨u,rfl,r⟩
section
variable {P:Program}{w:World}{H H':Hp}{h h':Heap}{a C dx:Addr}{fs fs':List (Str×V)}
def y72(hok:HOk P w H h)(e:H a=some (.ins C dx fs)):∃mA,ObjM h a dx C mA/\(∀f,RelO (fs.lookup f) (mA f))/\PySem.Within mA (fs.map (·.1))/\fs.length<=1000/\H dx=some (.own a):=by
 obtain⟨d,z,ne,ob,mA,n,r,q⟩:=(show ObjOk P w H h a (.ins C dx fs) from hok a _ e)
 exact⟨mA,⟨ob,n,ne⟩,r,q,z,d⟩
end
structure Cls(K:W.Frag)(C:Addr):Prop where
 pg:W.plainGet K C Str.empty=true
 hd:W.hasDictIn K C=true
 po:W.plainOver K C=true
 sa:W.findIn K (.ref C) "__setattr__"=some (some (.builtin "object.__setattr__"))
def Cls.get{K:W.Frag}(c:Cls K C)(f:Str):W.plainGet K C f=true:=c.pg
structure Con(K:W.Frag)(C:Addr)(f:Str)(v:V)(u:Value):Prop where
 at_:W.findIn K (.ref C) f=some (some u)
 rel:RelV v u
 get:W.specialIn K u "__get__"=some none
 cp:W.copiedNames.contains f=false
structure Meth(K:W.Frag)(C:Addr)(m:Str)(f:Addr):Prop where
 at_:W.findIn K (.ref C) m=some (some (.ref f))
 fn:W.isFn K (.ref f)=true
 kp:W.keepIn K (.ref f)=true
section
variable {X:Cx}{pins:AC}{σ:St}{H:Hp}{s:Shared}{A:Around}{E Q:AB}{c:Value}{b:Bool}
inductive TyOf (K:W.Frag) (H:Hp):V->Value->Prop where
 | non:TyOf K H .non (.type "NoneType")
 | bl (x:Bool):TyOf K H (.bl x) (.type "bool")
 | int (i:Int):TyOf K H (.int i) (.type "int")
 | str (x:Str):TyOf K H (.str x) (.type "str")
 | flt (x:UInt64):TyOf K H (.flt x) (.type "float")
 | lst {a:Addr}{xs:AQ} (e:H a=some (.lst xs)):TyOf K H (.ref a) (.type "list")
 | frz {a:Addr}{o:Obj}{xs:AQ} (e:H a=some (.frz o (.lst xs))):TyOf K H (.ref a) (.type "list")
 | tup {a:Addr}{xs:AQ} (e:H a=some (.tup xs)):TyOf K H (.ref a) (.type "tuple")
 | dK {a:Addr}{kvs:List (Key×V)} (e:H a=some (.dK kvs)):TyOf K H (.ref a) (.type "dict")
 | dT {a:Addr}{kvs:List (List Key×V)} (e:H a=some (.dT kvs)):TyOf K H (.ref a) (.type "dict")
 | ins {a C dx:Addr}{fs:List (Str×V)} (e:H a=some (.ins C dx fs)) (cl:Cls K C) (ha:W.findIn K (.ref C) "__class__"=some (some (.builtin "object.__class__")))
  (hn:W.specialIn K (.builtin "object.__class__") "__get__"=some (some (.builtin "getset_descriptor.__get__"))) (htk:W.takesIn K (.builtin "object.__class__")=some true)
  (hm:W.mroIn K C (.type "object")=some true):TyOf K H (.ref a) (.ref C)
def Yzp(I:Inv X pins σ H s)(rx:RelV x u)(ty:TyOf X.K H x t)(e:W.kitOne X.K t c=some b)(h:∀tk,Q (.bool b) { s with toks:=tk }):
 wpAny (model X.prog X.w) A (call (.builtin "isinstance") [u,c]) Q E s:=by
 cases ty with
 | non=>cases (show u=Value.none from rx);exact W.kia_one W.kitx_none I.kIn True.intro e (λz=>nomatch z) h
 | bl y=>cases (show u=Value.bool y from rx);exact W.kia_one W.kitx_bool I.kIn True.intro e (λz=>nomatch z) h
 | int i=>obtain⟨t,q⟩:=(show ∃t,u=Value.int i t from rx);cases q;exact W.kia_one W.kitx_int I.kIn True.intro e (λz=>nomatch z) h
 | str y=>obtain⟨t,q⟩:=(show ∃t,u=Value.str y t from rx);cases q;exact W.kia_one W.kitx_str I.kIn True.intro e (λz=>nomatch z) h
 | flt y=>obtain⟨t,q⟩:=(show ∃t,u=Value.float y t from rx);cases q;exact W.kia_one W.kitx_float I.kIn True.intro e (λz=>nomatch z) h
 | @lst a xs ea=>
   cases (show u=Value.ref a from rx)
   obtain⟨_,_,n,_,h1⟩:=(show ObjOk X.prog X.w H s.heap a (.lst xs) from I.hok a _ ea)
   exact W.kia_one W.kitx_list I.kIn ⟨_,h1,rfl⟩ e (λz=>nomatch z) h
 | @frz a ob xs ea=>
   cases (show u=Value.ref a from rx)
   obtain⟨_,_,_,n,_,h1⟩:=(show ObjOk X.prog X.w H s.heap a (.frz ob (.lst xs)) from I.hok a _ ea)
   exact W.kia_one W.kitx_list I.kIn ⟨_,h1,rfl⟩ e (λz=>nomatch z) h
 | @tup a xs ea=>
   cases (show u=Value.ref a from rx)
   obtain⟨_,_,_,p⟩:=(show ObjOk X.prog X.w H s.heap a (.tup xs) from I.hok a _ ea)
   obtain⟨o,h1,h2,_⟩:=p;exact W.kia_one W.kitx_tuple I.kIn ⟨o,h1,h2⟩ e (λz=>nomatch z) h
 | @dK a kvs ea=>
   cases (show u=Value.ref a from rx)
   obtain⟨_,_,vs,_,p⟩:=(show ObjOk X.prog X.w H s.heap a (.dK kvs) from I.hok a _ ea)
   obtain⟨o,es,ep,h1,h2,_⟩:=p;exact W.kia_one W.kitx_dict I.kIn ⟨o,h1,h2.1⟩ e (λz=>nomatch z) h
 | @dT a kvs ea=>
   cases (show u=Value.ref a from rx)
   obtain⟨_,_,xs,_,o,es,ep,h1,h2,_⟩:=(show ObjOk X.prog X.w H s.heap a (.dT kvs) from I.hok a _ ea)
   exact W.kia_one W.kitx_dict I.kIn ⟨o,h1,h2.1⟩ e (λz=>nomatch z) h
 | @ins a C dx fs ea cl ha hn htk hm=>
   cases (show u=Value.ref a from rx);obtain⟨mA,O,_⟩:=y72 I.hok ea;obtain⟨od,J,_⟩:=O.look;exact W.kia_one (W.kitx_own (cl.get _) cl.hd ha hn htk hm) I.kIn J e (λz=>nomatch z) h
end
structure Room(k:Nat)(A:Around):Prop where
 hd:A.handled=none
 dp:A.depth+3*k+5<recursionLimit
 un:A.units+16*k+200<cLine
theorem Room.mono(r:Room k A)(h:j<=k):Room j A:=⟨r.hd,by have:=r.dp;lia,by have:=r.un;lia⟩
theorem Room.deeper(r:Room (k+1) A)(env:Env):Room k (A.deeper env):=
 ⟨r.hd,by have:=r.dp;show A.depth+1+3*k+5<_;lia,by have:=r.un;show A.units+3+16*k+200<_;lia⟩
theorem Room.depth(r:Room k A):A.depth<recursionLimit:=by have:=r.dp;lia
theorem Room.units(r:Room k A):A.units+64<cLine:=by have:=r.un;lia
def tNil:TA:=λ_ H Q=>Q [] H
def Yafe(ta:TE)(tr:TA):TA:=λσ H Q=>ta σ H λx H1=>tr σ H1 λxs H2=>Q (x::xs) H2
section
variable {X:Cx}{e:Expr}{es:AM}{te:TE}{t:TA}{pos:Pos}
def Yhk:PA X [] tNil:=λ_ _ _ _ H Q I h=>Calls.spliced_nil ⟨[],H,I,.nil,h⟩
def Ydm(ha:PE X e te)(hr:PA X es t)(hs:starEach (e::es) X.env=(false,eval e X.env)::starEach es X.env:=by rfl):PA X (e::es) (Yafe te t):=by
 intro pos pins s σ H Q I h;rw[hs];show wpAny _ _ (spliced ((false,eval e X.env)::backTo pos (starEach es X.env))) _ _ s;refine Calls.spliced_cons (thn (ha pins s σ H _ I h) λu s1 hx_=>?_);obtain⟨x,H1,I1,r1,q1⟩:=hx_;refine thn (hr pos pins s1 σ H1 _ I1 q1) λus s2 hx_=>?_;obtain⟨xs,H2,I2,r2,q2⟩:=hx_;exact⟨x::xs,H2,I2,.cons r1 r2,q2⟩
def tTup(t:TA):TE:=λσ H Q=>t σ H λxs H1=>xs.length<=sizeLine/\∀p,H1 p=none->Q (.ref p) (upd H1 p (.tup xs))
def tLst(t:TA):TE:=λσ H Q=>t σ H λxs H1=>xs.length<=sizeLine/\∀p,H1 p=none->Q (.ref p) (upd H1 p (.lst xs))
def Yabo{x1}(h:PA X es t):PE X (.Tuple es x1 pos) (tTup t):=by
 intro pins s σ H Q I hq;refine wpAny_Tuple_spliced (thn (h pos pins s σ H _ I hq) λus s1 ⟨xs,H1,I1,r,z,q⟩=>⟨by rw[<-r.length];exact z,?_⟩);have hf:H1 (~~~s1)=none:=I1.hok.fresh (qu _);refine⟨.ref (~~~s1),upd H1 (~~~s1) (.tup xs),I1.laid (t':=s1.toks) (λb u e=>qe _ e) (qu _) ?_,rfl,q _ hf⟩;exact⟨z,us,r,⟨_,qp _ rfl,rfl,_,rfl⟩⟩
def Yabp(h:PA X es t):PE X (.List es pos) (tLst t):=by
 intro pins s σ H Q I hq;refine wpAny_List_spliced (thn (h pos pins s σ H _ I hq) λus s1 ⟨xs,H1,I1,r,z,q⟩=>⟨by rw[<-r.length];exact z,?_⟩);have hf:H1 (~~~s1)=none:=I1.hok.fresh (qu _);refine⟨.ref (~~~s1),upd H1 (~~~s1) (.lst xs),I1.laid (t':=s1.toks) (λb u e=>qe _ e) (qu _) ?_,rfl,q _ hf⟩;exact⟨z,us,0,r,qp _ rfl⟩
end
abbrev Sp:=AQ->Hp->VK->XK->Prop
abbrev CXT:=List Env->Hp->Shared->XK->AB
structure Env0(P:Program)(w:World)(K:W.Frag)(mg:AE)(base:Heap)(A:Around)(outer:List Env)(s:Shared)(H:Hp):Prop where
 frames:A.frames=some outer
 mod:Mod K mg base
 bs:∀b o,base.get? b=some o->s.heap.get? b=some o/\H b=none
 bsz:base.objs.size<= ~~~s
 funs:s.heap.FunFrames base outer
 frf:∀b∈frs outer,H b=none
 hok:HOk P w H s.heap
 bare:AllBare s.gens
def CE(outer:List Env)(P:Program)(w:World)(H:Hp)(s:Shared)(Q:VK)(u:Value)(s':Shared):Prop:=
 ∃v H',s'.os=s.os/\AllBare s'.gens/\Un (frs outer) [] H H' s.heap s'.heap/\HOk P w H' s'.heap/\RelV v u/\Q v H'
def CR(CX:CXT)(outer:List Env)(P:Program)(w:World)(H:Hp)(s:Shared)(Q:VK)(E:XK)(r:Result)(s':Shared):Prop:=
 match r with
 | .ok (.ret u)=>CE outer P w H s Q u s'
 | .ok _=>False
 | .error e=>CX outer H s E e s'
structure FnOk(P:Program)(w:World)(K:W.Frag)(mg:AE)(base:Heap)(CX:CXT)(k:Nat)(f:Addr)(fd:FuncData)(ps:AL)(sp:Sp):Prop where
 len:∀vs H Q E,sp vs H Q E->vs.length=ps.length
 run:∀(A:Around) (outer:List Env) (s:Shared) (H:Hp) (args:Args) (us:AD) (vs:AQ) (Q:VK) (E:XK),Room k A->Env0 P w K mg base A outer s H->BindsTo s fd args (ps.zip us)->Vals vs us->sp vs H Q E->
  codeAny (model P w) A (.call (.ref f) args) (CR CX outer P w H s Q E) s
section
variable {X:Cx}{pins:AC}{σ:St}{H:Hp}{s s':Shared}
def Inv.env0(I:Inv X pins σ H s):Env0 X.prog X.w X.K X.mg X.base X.A X.stack s H:=
 ⟨I.ok.frames,I.ok.mod,I.bs,Qg I.ok.bsz I.sz,I.stack,I.stkFree,I.hok,I.bare⟩
def Inv.after(I:Inv X pins σ H s)(h:CE X.stack X.prog X.w H s Q u s'):EP X pins σ Q u s':=by
 obtain⟨v,H',os,bare,un,hok,r,q⟩:=h;obtain⟨hh,g,d,t,os'⟩:=s';obtain rfl:os'=s.os:=os;exact⟨v,H',I.call (h':=hh) (g':=g) (d':=d) (t':=t) (ch:=[]) un hok bare (λb z=>absurd z (by simp)),r,q⟩
end
def Yaff(sp:Sp)(dvs:AQ)(E:XK)(t:TA):TE:=λσ H Q=>t σ H λvs H1=>sp (vs++dvs) H1 Q E
def Binds(K:W.Frag)(fd:FuncData)(ps:AL)(ds:AD):Prop:=
 ∀(s:Shared) (us:AD),K.In s.heap->(us++ds).length=ps.length->BindsTo s fd ⟨us,[]⟩ (ps.zip (us++ds))
def Binds.all{K:W.Frag}(h:∀us:AD,us.length=ps.length->bindArgs fd ⟨us,[]⟩=pure (ps.zip us)):Binds K fd ps []:=λs us _ hl=>by
 rw[ja]at hl ⊢;exact .of_eq (h us hl)
def Yzq(CX:CXT)(X:Cx)(E:XK):Prop:=∀(pins:AC) (σ:St) (H:Hp) (s:Shared) (e:Value) (s':Shared),Inv X pins σ H s->CX X.stack H s E e s'->X.xe e s'
section
variable {X:Cx}{CX:CXT}{k:Nat}{f C:Addr}{fd:FuncData}{ps:AL}{sp:Sp}{dvs:AQ}{ds:AD}{E:XK}{x m:Str}{p pos apos:Pos}{e o:Expr}{es:AM}{ta:TE}{t:TA}
def Yabq{σ:St}(F:FnOk X.prog X.w X.K X.mg X.base CX k f fd ps sp)(hr:Room k X.A)(hb:Binds X.K fd ps ds)(hd:Vals dvs ds)(hx:Yzq CX X E)(I:Inv X pins σ H s)(r:Vals vs us)(h:sp (vs++dvs) H Q E):wpAny (model X.prog X.w) X.A (call (.ref f) us) (EP X pins σ Q) X.xe s:=by
 have r2:Vals (vs++dvs) (us++ds):=r.append hd
 have hl:(us++ds).length=ps.length:=by rw[<-r2.length];exact F.len _ _ _ _ h
 refine wpAny_call (codeAny_mono (F.run X.A X.stack s H ⟨us,[]⟩ (us++ds) (vs++dvs) Q E hr I.env0 (hb s us I.kIn hl) r2 h) λr s' hq=>?_)
 cases r with
 | error e=>exact hx pins σ H s e s' I hq
 | ok fl=>
   cases fl with
   | ret u=>exact I.after hq
   | next=>exact False.elim hq
   | brk=>exact False.elim hq
   | cont=>exact False.elim hq
theorem y73(F:FnOk X.prog X.w X.K X.mg X.base CX k f fd ps sp)(hr:Room k X.A)(hg:Gl X x)(hm:X.mg x=some (.ref f))(hk:W.keepIn X.K (.ref f)=true)(hb:Binds X.K fd ps ds)(hd:Vals dvs ds)(hx:Yzq CX X E)(ha:PA X (e::es) t)(hdb:Ndb x:=by decide)(he:starEach (e::es) X.env=(false,eval e X.env)::starEach es X.env:=by rfl)(hpl:(backTo pos (starEach es X.env)).any (·.1)=false:=by rfl):
 PE X (.Call (.Name x p) (e::es) [] pos) (Yaff sp dvs E t):=by
 intro pins s σ H Q I h;refine wpAny_Call_Name_kw (Yzi I hg hm ?_ hdb);refine W.callWith_K (h₀:=X.base) I.ok.mod.kin hk (thn (ha pos pins s σ H _ I h) λus s1 hx_=>?_) he hpl;obtain⟨vs,H1,I1,r,q⟩:=hx_;refine⟨I1.kIn,?_⟩;exact Yabq F hr hb hd hx I1 r q
structure Mk(K:W.Frag)(C f:Addr):Prop where
 makes:W.makesIn K C=true
 init:W.findIn K (.ref C) "__init__"=some (some (.ref f))
 fn:W.isFn K (.ref f)=true
 kp:W.keepIn K (.ref C)=true
end
section
variable {X:Cx}{CX:CXT}{k:Nat}{f C:Addr}{fd:FuncData}{ps ks:AL}{sp:Sp}{E:XK}{x m:Str}{p pos apos kpos:Pos}{e o:Expr}{es:AM}{kws:List Keyword}{te ta:TE}{t tk:TA}{nm:Option Str}
structure KBinds(K:W.Frag)(fd:FuncData)(ps ks:AL)(g:AD->AD->AD)(gV:AQ->AQ->AQ):Prop where
 to:∀(s:Shared) (us ws:AD),K.In s.heap->(g us ws).length=ps.length->BindsTo s fd ⟨us,ks.zip ws⟩ (ps.zip (g us ws))
 rel:∀{vs:AQ}{us:AD}{zs:AQ}{ws:AD},Vals vs us->Vals zs ws->Vals (gV vs zs) (g us ws)
variable {g:AD->AD->AD}{gV:AQ->AQ->AQ}
end
structure FnScope(N P:AL)(sc:Scope):Prop where
 kind:sc.kind=.function
 co:sc.isCoroutine=false
 gen:sc.isGenerator=false
 nd:N.Nodup
 pre:N.take P.length=P
 par:∀x∈P,sc.names.lookup x=some .local\/sc.names.lookup x=some .cell
 nofree:∀y∈sc.names,y.2≠.free
theorem Yq4{kindOf:Str->Option NameKind}:∀{binds:List (Str×Value)}{m:AE},(∀v,(x,v)∉binds)->bindL kindOf binds m x=m x
 | [],_,_=>rfl
 | (n,v)::r,m,h=>by
   unfold bindL;rw[Yq4 λw hw=>h w (qg _ hw)]
   split
   ·grind
   ·rfl
theorem Yq5{kindOf:Str->Option NameKind}:∀{binds:List (Str×Value)}{m:AE},(∀v,(x,v)∉binds)->bindC kindOf binds m x=m x
 | [],_,_=>rfl
 | (n,v)::r,m,h=>by
   unfold bindC;rw[Yq5 λw hw=>h w (qg _ hw)]
   split
   ·rfl
   grind
def Yq6{kindOf:Str->Option NameKind}:∀{P:AL}{vs:AD}{i:Nat}{m:AE},P.Nodup->P[i]?=some x->vs[i]?=some v->kindOf x=some .local->
 bindL kindOf (P.zip vs) m x=some v
 | [],_,_,_,_,h,_,_=>by simp at h
 | _::_,[],_,_,_,_,h,_=>by simp at h
 | p::P,w::vs,0,m,nd,h1,h2,hk=>by
   simp at h1 h2;subst h1;subst h2;show bindL kindOf ((p,w)::P.zip vs) m p=_;unfold bindL;rw[Yq4 λv hv=>(List.nodup_cons.mp nd).1 (List.of_mem_zip hv).1,if_pos hk];simp
 | p::P,w::vs,i+1,m,nd,h1,h2,hk=>by
   show bindL kindOf ((p,w)::P.zip vs) m x=_;unfold bindL;exact Yq6 (i:=i) (List.nodup_cons.mp nd).2 (by simpa using h1) (by simpa using h2) hk
theorem Yq7{kindOf:Str->Option NameKind}:∀{P:AL}{vs:AD}{i:Nat}{m:AE},P.Nodup->P[i]?=some x->vs[i]?=some v->kindOf x≠some .local->
 bindC kindOf (P.zip vs) m x=some v
 | [],_,_,_,_,h,_,_=>by simp at h
 | _::_,[],_,_,_,_,h,_=>by simp at h
 | p::P,w::vs,0,m,nd,h1,h2,hk=>by
   simp at h1 h2;subst h1;subst h2;show bindC kindOf ((p,w)::P.zip vs) m p=_;unfold bindC;rw[Yq5 λv hv=>(List.nodup_cons.mp nd).1 (List.of_mem_zip hv).1,if_neg hk];simp
 | p::P,w::vs,i+1,m,nd,h1,h2,hk=>by
   show bindC kindOf ((p,w)::P.zip vs) m x=_;unfold bindC;exact Yq7 (i:=i) (List.nodup_cons.mp nd).2 (by grind) (by grind) hk
def start(N:AL)(vs:AQ):St:=vs.map some++List.replicate (N.length-vs.length) none
def cxOf(CX:CXT)(P:Program)(w:World)(K:W.Frag)(mg:AE)(base:Heap)(N:AL)(qual:Str)(scope:Scope)(f:Addr)(cd:Value)(A:Around)(outer:List Env)(s:Shared)(H:Hp)(E:XK):Cx where
 prog:=P
 w:=w
 K:=K
 mg:=mg
 base:=base
 A:=A.deeper (envOfC qual scope (~~~s) f cd)
 N:=N
 s₀:=s
 H₀:=H
 env:=envOfC qual scope (~~~s) f cd
 outer:=outer
 stack:=envOfC qual scope (~~~s) f cd::outer
 ex:=[]
 calm:=true
 fn:=λ_=>true
 pn:=[]
 xe:=λe s'=>wpAny (model P w) (A.deeper (envOfC qual scope (~~~s) f cd)) (leaving (envOfC qual scope (~~~s) f cd) e) (λ_ s''=>CX outer H s E e s'') (λe' s''=>CX outer H s E e' s'') s'
def Yv1{sc:Scope}(h:sc.names.lookup x=some .cell):∃c,(cellsFrom n sc.names []).lookup x=some c:=by
 have q:=PySem.W.cellsFrom_some sc.names n [] (.inl h);exact Option.isSome_iff_exists.mp q
theorem Yzr{K:W.Frag}(S:FnScope N ps scope)(hd:A.handled=none)(e0:Env0 P w K mg base A outer s H)(hl:vs.length=ps.length)(r:Vals vs us)(x:InCallC s (~~~s) (bindL (envOfC qual scope (~~~s) f cd).kindOf (ps.zip us) λ_=>none) (cellsFrom (~~~s+1) scope.names []) (bindC (envOfC qual scope (~~~s) f cd).kindOf (ps.zip us) λ_=>none) s1):
 Inv (cxOf CX P w K mg base N qual scope f cd A outer s H E) [] (start N vs) H s1:=by
 have hpl:ps.length<=N.length:=by have:=congrArg List.length S.pre;grind
 obtain⟨h1,tk,rfl,hk⟩:=x.done;have noA:∀b:Addr,b∉(cxOf CX P w K mg base N qual scope f cd A outer s H E).ex:=λb z=>absurd (show b∈([]:List Addr) from z) (by simp)
 refine⟨⟨e0.mod,S.kind,rfl,rfl,qu _,λy z c h1 h2=>?_,λy hy=>?_,λy c _ h=>?_,λ_=>hd,Around.frames_deeper e0.frames,.inr ⟨rfl,rfl⟩,λb z=>absurd z (noA b),e0.bs,e0.bsz,λb _ _=>noA b,λb z=>absurd z (noA b),e0.funs,e0.frf⟩,
  rfl,e0.bare,Un.kept hk,⟨_,x.toInCall.ns,λi y v h1 h2 h3=>?_⟩,λy c h=>⟨_,x.cell y c h⟩,e0.hok.fresh (qu _),λy c h=>?_,λp hp=>absurd (show p∈([]:AC) from hp) (by simp),e0.hok.kept hk,?_⟩
 ·exact name_of_addr x.apart (PySem.mem_of_lookup h1) (PySem.mem_of_lookup h2)
 ·have hy:scope.names.lookup y=some .cell\/scope.names.lookup y=some .free:=hy
  rcases hy with hy|hy
  ·exact Yv1 hy
  ·exact absurd rfl (S.nofree _ (PySem.mem_of_lookup hy))
 ·exact Nat.le_of_lt (x.above y c (PySem.mem_of_lookup h))
 ·have hi:i<vs.length:=by
   unfold start at h2;grind
  have ha:vs[i]?=some v:=by
   unfold start at h2;grind
  obtain⟨u,hu,rv⟩:=r.get ha
  have hp:ps[i]?=some y:=by
   rw[<-S.pre,List.getElem?_take_of_lt (by lia)];exact h1
  have ndP:ps.Nodup:=by rw[<-S.pre];exact S.nd.sublist (List.take_sublist _ _)
  refine⟨u,rv,?_⟩;rcases S.par y (List.mem_of_getElem? hp)with k|k
  ·exact .inl ⟨k,Yq6 ndP hp hu k⟩
  ·obtain⟨c,e⟩:=Yv1 (n:= ~~~s+1) k
   refine .inr ⟨.inl k,c,e,?_⟩;have q:=x.cell y c e;rw[Yq7 ndP hp hu (by show scope.names.lookup y≠_;grind)]at q;exact q
 ·exact e0.hok.fresh (Nat.le_of_lt (x.above y c (PySem.mem_of_lookup h)))
 ·unfold start
  show _=N.length;grind
theorem Yabr{K:W.Frag}{dV kV doc pm cdv ct oc:Value}(lk:K.lookup f=some ⟨oc,od,.func (W.fnOf name qual params body scope dV kV doc pm an cdv ct),osl⟩)(hcd:W.codeIn K cdv qual=true)(S:FnScope N ps scope)(len:∀vs H Q E,sp vs H Q E->vs.length=ps.length)(hbody:∀(A:Around) (outer:List Env) (s:Shared) (H:Hp) (vs:AQ) (Q:VK) (E:XK),Room k (A.deeper (envOfC qual scope (~~~s) f cdv))->sp vs H Q E->
   ∃t,PSs (cxOf CX P w K mg base N qual scope f cdv A outer s H E) body t/\t { nx:=λ_ H'=>Q .non H',rt:=Q } (start N vs) H):
  FnOk P w K mg base CX (k+1) f (W.fnOf name qual params body scope dV kV doc pm an cdv ct) ps sp:=by
  refine⟨len,λA outer s H args us vs Q E hr e0 hb r hsp=>?_⟩;have hl:=len _ _ _ _ hsp;have KX:K.In s.heap:=e0.mod.kin.keeps λb o e=>(e0.bs b o e).1;have lim:s.heap.NoLimit:=e0.mod.nolimit.keeps λb o e=>(e0.bs b o e).1
  have hkind:∀y∈ps.zip us,scope.names.lookup y.1=some .local\/(scope.names.lookup y.1=some .cell/\((cellsFrom (~~~s+1) scope.names []).lookup y.1).isSome=true):=λ⟨n,v⟩ hy=>by
   rcases S.par n (List.of_mem_zip hy).1 with q|q
   ·exact .inl q
   ·exact .inr ⟨q,PySem.W.cellsFrom_some _ _ _ (.inl q)⟩
  refine codeAny_call_function hr.depth (KX _ _ lk) rfl S.co S.gen rfl (W.codeRec_of KX hcd) (hb _ _ _ _ ?_);refine wpAny_newFunctionEnv_cells S.kind hkind λenv he s1 x=>?_;subst he;refine⟨lim.keeps x.toInCall.keep,codeAny_func ?_⟩;obtain⟨t,ht,hq⟩:=hbody A outer s H vs Q E (hr.deeper _) hsp;have I:Inv (cxOf CX P w K mg base N qual scope f cdv A outer s H E) [] (start N vs) H s1:=Yzr S hr.hd e0 hl r x;refine w5 (ht [] s1 (start N vs) H _ I hq) (λfl s' hs=>?_) λe s' hs=>hs
  have fin:∀{σ':St}{H':Hp}{v:V}{u:Value},Inv (cxOf CX P w K mg base N qual scope f cdv A outer s H E) [] σ' H' s'->RelV v u->Q v H'->CE outer P w H s Q u s':=
   λ{σ' H' v u} J rv q=>⟨v,H',J.os,J.bare,J.base,J.hok,rv,q⟩
  cases fl with
  | ret u=>
    obtain⟨v,σ',H',J,rv,q⟩:=hs;exact fin J rv q
  | next=>
    obtain⟨σ',H',J,q⟩:=hs;exact fin (v:=V.non) (u:=Value.none) J rfl q
  | brk=>
    obtain⟨_,_,_,q⟩:=hs;grind
  | cont=>
    obtain⟨_,_,_,q⟩:=hs;grind
section
variable {X:Cx}{x:Str}{p pos:Pos}{e:Expr}{es:AM}{t:TA}{id T:String}{r:AQ->Hp->VK->Prop}
def tCB(r:AQ->Hp->VK->Prop)(t:TA):TE:=λσ H Q=>t σ H λvs H1=>r vs H1 Q
theorem Yk1(hc:Ydt X (.builtin id) r)(hg:Gl X x)(hm:X.mg x=none)(hv:bootBuiltins x=some (.builtin id))(ha:PA X (e::es) t)(hn:x≠"__name__":=by decide)(hdb:Ndb x:=by decide)(he:starEach (e::es) X.env=(false,eval e X.env)::starEach es X.env:=by rfl)(hpl:(backTo pos (starEach es X.env)).any (·.1)=false:=by rfl):PE X (.Call (.Name x p) (e::es) [] pos) (tCB r t):=by
 intro pins s σ H Q I h;refine wpAny_Call_Name_kw (Ykb I hg hm hv ?_ hn hdb);refine PyProof.Rows.callWith_builtin1 (thn (ha pos pins s σ H _ I h) λus s1 hx_=>?_) he hpl;obtain⟨vs,H1,I1,r1,q1⟩:=hx_;exact hc pins s1 σ H1 vs us Q I1 r1 q1
theorem Yd6(hc:Ydt X (.type T) r)(hg:Gl X x)(hm:X.mg x=none)(hv:bootBuiltins x=some (.type T))(ha:PA X (e::es) t)(hn:x≠"__name__":=by decide)(hdb:Ndb x:=by decide)(he:starEach (e::es) X.env=(false,eval e X.env)::starEach es X.env:=by rfl)(hpl:(backTo pos (starEach es X.env)).any (·.1)=false:=by rfl):PE X (.Call (.Name x p) (e::es) [] pos) (tCB r t):=by
 intro pins s σ H Q I h;refine wpAny_Call_Name_kw (Ykb I hg hm hv ?_ hn hdb);refine PyProof.Rows.callWith_type1 (thn (ha pos pins s σ H _ I h) λus s1 hx_=>?_) he hpl;obtain⟨vs,H1,I1,r1,q1⟩:=hx_;exact hc pins s1 σ H1 vs us Q I1 r1 q1
end
section
variable {κ:Type} [DecidableEq κ]
def valV(kvs:List (κ×V))(k:κ):Option V:=(kvs.find? λkv=>decide (kv.1=k)).map (·.2)
def putK(kvs:List (κ×V))(k:κ)(v:V):List (κ×V):=
 if (kvs.any λkv=>decide (kv.1=k))=true then kvs.map (λkv=>if kv.1=k then (kv.1,v)else kv)else kvs++[(k,v)]
def Yk2{k:κ}(e:p.1=k):valV (p::r) k=some p.2:=by simp[valV,List.find?_cons,e]
def Yk3{k:κ}(e:¬p.1=k):valV (p::r) k=valV r k:=by simp[valV,List.find?_cons,e]
theorem Yv2(k:κ):∀kvs:List (κ×V),(kvs.any λkv=>decide (kv.1=k))=(valV kvs k).isSome
 | []=>rfl
 | p::r=>by
   rw[List.any_cons];by_cases e:p.1=k
   ·simp only[Yk2 e,wn e,Bool.true_or,Option.isSome_some]
   ·rw[Yk3 e,wo e,Bool.false_or];exact Yv2 k r
theorem Yhu(kvs:List (κ×V))(k:κ)(v:V):(putK kvs k v).length<=kvs.length+1:=by
 unfold putK;grind
def RelO.isSome_eq(r:RelO o u):o.isSome=u.isSome:=by
 cases o with
 | none=>cases u with
   | none=>rfl
   | some _=>exact(show False from r).elim
 | some _=>cases u with
   | none=>exact(show False from r).elim
   | some _=>rfl
def RelO.getD(r:RelO o u)(rd:RelV d d'):RelV (o.getD d) (u.getD d'):=by
 cases o with
 | none=>cases u with
   | none=>exact rd
   | some _=>exact(show False from r).elim
 | some _=>cases u with
   | none=>exact(show False from r).elim
   | some _=>exact r
theorem KV.val(r:KV kvs vs)(k:κ):RelO (valV kvs k) (valueAt vs k):=by
 unfold KV at r
 induction r with
 | nil=>exact True.intro
 | @cons p q ps qs h t ih=>
   obtain⟨h1,h2⟩:=h;by_cases e:p.1=k
   ·have e':q.1=k:=h1.symm.trans e
    have b:valueAt (q::qs) k=some q.2:=by simp[valueAt,List.find?_cons,e']
    rw[Yk2 e,b];exact h2
   ·have e':¬q.1=k:=λz=>e (h1.trans z)
    have b:valueAt (q::qs) k=valueAt qs k:=by simp[valueAt,List.find?_cons,e']
    rw[Yk3 e,b];exact ih
theorem KV.any(r:KV kvs vs)(k:κ):(kvs.any λkv=>decide (kv.1=k))=vs.any λkv=>decide (kv.1=k):=by
 unfold KV at r
 induction r with
 | nil=>rfl
 | cons h t ih=>rw[List.any_cons,List.any_cons,ih,h.1]
theorem KV.repl(r:KV kvs vs)(k:κ)(ry:RelV y u):
 KV (kvs.map λkv=>if kv.1=k then (kv.1,y)else kv) (vs.map λkv=>if kv.1=k then (kv.1,u)else kv):=by
 unfold KV at r ⊢
 induction r with
 | nil=>exact .nil
 | @cons p q ps qs h t ih=>
   rw[Qa,Qa];refine .cons ?_ ih;grind
theorem KV.put(r:KV kvs vs)(k:κ)(ry:RelV y u):KV (putK kvs k y) (stored vs k u):=by
 unfold putK stored;rw[r.any k];by_cases e:(vs.any λkv=>decide (kv.1=k))=true
 ·rw[if_pos e,if_pos e];exact r.repl k ry
 ·rw[if_neg e,if_neg e];exact Paired.snoc r ⟨rfl,ry⟩
def KV.length{vs:List (κ×Value)}(r:KV kvs vs):kvs.length=vs.length:=Paired.length r
end
def Yt0(r:RelV (kV k) u):(Yah P w).is k u=true:=by
 cases k with
 | inl i=>obtain⟨t,e⟩:=(show ∃t,u=Value.int i t from r);subst e;exact Ytx P w i t
 | inr x=>obtain⟨t,e⟩:=(show ∃t,u=Value.str x t from r);subst e;exact Yty P w x t
theorem Yq8:∀{ks:List Key}{us:AD},Vals (ks.map kV) us->ItemsAre (Yah P w) ks us
 | [],_,r=>by rw[List.map_nil]at r;cases r;exact .nil
 | k::ks,_,r=>by
   rw[Qa]at r
   cases r with
   | cons h t=>exact .cons (Yt0 h) (Yq8 t)
abbrev KT(H:Hp):List (List Key×V)->List (List Key×Addr×Value)->Prop:=Paired λp q=>p.1=q.1/\H q.2.1=some (.tup (p.1.map kV))/\RelV p.2 q.2.2
theorem KT.val(r:KT H kvs xs)(k:List Key):RelO (valV kvs k) ((atKey xs k).map (·.2)):=by
 induction r with
 | nil=>exact True.intro
 | @cons p q ps qs h t ih=>
   obtain⟨h1,_,h2⟩:=h;by_cases e:p.1=k
   ·have e':q.1=k:=h1.symm.trans e
    have b:atKey (q::qs) k=some q.2:=by simp[atKey,List.find?_cons,e']
    rw[Yk2 e,b];exact h2
   ·have e':¬q.1=k:=λz=>e (h1.trans z)
    have b:atKey (q::qs) k=atKey qs k:=by simp[atKey,List.find?_cons,e']
    rw[Yk3 e,b];exact ih
theorem KT.repl(r:KT H kvs xs)(k:List Key)(ry:RelV y u):
 KT H (kvs.map λkv=>if kv.1=k then (kv.1,y)else kv) (xs.map (putAt k u)):=by
 induction r with
 | nil=>exact .nil
 | @cons p q ps qs h t ih=>
   rw[Qa,Qa];refine .cons ?_ ih;obtain⟨h1,h2,h3⟩:=h;unfold putAt;grind
theorem KT.put(r:KT H kvs xs)(k:List Key)(hb:H b=some (.tup (k.map kV)))(ry:RelV y u):
 KT H (putK kvs k y) (storedH xs k b u):=by
 have e:(kvs.any λkv=>decide (kv.1=k))=(atKey xs k).isSome:=by
  rw[Yv2,(r.val k).isSome_eq,Option.isSome_map]
 unfold putK storedH;rw[e];by_cases q:(atKey xs k).isSome=true
 ·rw[if_pos q,if_pos q];exact r.repl k ry
 ·rw[if_neg q,if_neg q];exact Paired.snoc r ⟨rfl,hb,ry⟩
def KT.keeps(r:KT H kvs xs)(ht:∀b ys,H b=some (.tup ys)->H' b=some (.tup ys)):KT H' kvs xs:=
 Paired.mapP r λ_ _ z=>⟨z.1,ht _ _ z.2.1,z.2.2⟩
section
variable {P:Program}{w:World}{H:Hp}{h:Heap}{a:Addr}
def Yabs(ok:HOk P w H h)(e:Rd H a u):ObjOk P w H h a u:=e.ok ok
def Yq9(ok:HOk P w H h)(e:Rd H a (.dK kvs)):kvs.length<=sizeLine/\(a==sysModules)=false/\∃vs,KV kvs vs/\h.DictOf (Yah P w) a vs:=
 show ObjOk P w H h a (.dK kvs) from Yabs ok e
def y74(ok:HOk P w H h)(e:H a=some (.dK kvs)):kvs.length<=sizeLine/\(a==sysModules)=false/\∃vs,KV kvs vs/\h.DictOf (Yah P w) a vs:=Yq9 ok (.inl e)
def Yn9(ok:HOk P w H h)(e:H a=some (.tup (ks.map kV))):(tupleKind (Yah P w)).is h ks a:=by
 obtain⟨_,its,r,o,h1,h2,n,h3⟩:=(show ObjOk P w H h a (.tup (ks.map kV)) from ok a _ e)
 exact⟨o,its.toArray,n,h1,h2,h3,by simpa using Yq8 r⟩
theorem Yt1(ok:HOk P w H h)(e:Rd H a (.dT kvs)):kvs.length<=sizeLine/\(a==sysModules)=false/\
 ∃xs,KT H kvs xs/\h.DictOfH (tupleKind (Yah P w)) a xs:=by
 obtain⟨z,y,xs,r,o,es,ep,h1,h2,h3,h4,h5⟩:=(show ObjOk P w H h a (.dT kvs) from Yabs ok e)
 refine⟨z,y,xs,r,o,es,ep,h1,h2,h3,h4,λx hx=>?_,h5⟩
 have all:∀{l:List (List Key×V)}{m:List (List Key×Addr×Value)},KT H l m->∀x∈m,(tupleKind (Yah P w)).is h x.1 x.2.1:=by
  intro l m q
  induction q with
  | nil=>grind
  | @cons p q ps qs hq t ih=>
    intro x hx;rcases qt hx with e|hx
    ·subst e
     exact Yn9 ok (by grind)
    grind
 grind
def Yafg(ok:HOk P w H h)(e:H a=some (.dT kvs)):kvs.length<=sizeLine/\(a==sysModules)=false/\
 ∃xs,KT H kvs xs/\h.DictOfH (tupleKind (Yah P w)) a xs:=Yt1 ok (.inl e)
end
def DGet(H:Hp)(a:Addr)(y:V)(r:Option V):Prop:=
 (∃kvs k,Rd H a (.dK kvs)/\y=kV k/\r=valV kvs k)\/∃kvs k b,Rd H a (.dT kvs)/\y=.ref b/\H b=some (.tup (k.map kV))/\r=valV kvs k
def DPut(H:Hp)(a:Addr)(y v:V)(H':Hp):Prop:=
 (∃kvs k,H a=some (.dK kvs)/\y=kV k/\kvs.length<sizeLine/\H'=upd H a (.dK (putK kvs k v)))\/
 ∃kvs k b,H a=some (.dT kvs)/\y=.ref b/\H b=some (.tup (k.map kV))/\kvs.length<sizeLine/\H'=upd H a (.dT (putK kvs k v))
def DGet.k{k:Key}(e:H a=some (.dK kvs)):DGet H a (kV k) (valV kvs k):=.inl ⟨kvs,k,.inl e,rfl,rfl⟩
def DPut.k{k:Key}(e:H a=some (.dK kvs))(hl:kvs.length<sizeLine):DPut H a (kV k) v (upd H a (.dK (putK kvs k v))):=.inl ⟨kvs,k,e,rfl,hl,rfl⟩
section
variable {X:Cx}{pins:AC}{σ:St}{H:Hp}{s:Shared}{a:Addr}{y v:V}{u r:Value}{o:Option V}{A:Around}{E:AB}
theorem Inv.big(I:Inv X pins σ H s):sysModules< ~~~s:=by
 have h:mainGlobals< ~~~s:=(I.mod.glob.keeps I.bk).lt;exact Nat.lt_trans (by decide) h
def Yzs(hu:A.units+1<cLine)(I:Inv X pins σ H s)(g:DGet H a y (some v))(ry:RelV y u)(h:∀w' s',Inv X pins σ H s'->RelV v w'->Q w' s'):
 wpAny (model X.prog X.w) A (getItem (.ref a) u) Q E s:=by
 rcases g with⟨kvs,k,e,ey,l⟩|⟨kvs,k,b,e,ey,eb,l⟩
 ·subst ey
  obtain⟨z,hd,vs,rel,dd⟩:=Yq9 I.hok e;obtain⟨w',hw,rw'⟩:=RelO.some_of (v:=v) (o:=valueAt vs k) (by rw[l];exact rel.val k);exact wpAny_getItem_of (Yt0 ry) dd.mapOf hw (h w' _ (I.tok _) rw')
 ·subst ey
  cases (show u=Value.ref b from ry);obtain⟨z,hd,xs,rel,dd⟩:=Yt1 I.hok e;obtain⟨w',hw,rw'⟩:=RelO.some_of (v:=v) (o:=(atKey xs k).map (·.2)) (by rw[l];exact rel.val k);obtain⟨p,hp,hp2⟩:=qc hw;refine wpAny_getItem_heap (tupleKind_room_in1 hu) (Yn9 I.hok eb) dd hp ?_;rw[hp2];exact h w' _ (I.tok _) rw'
def d_in(hu:A.units+1<cLine)(I:Inv X pins σ H s)(g:DGet H a y o)(ry:RelV y u)(h:∀s',Inv X pins σ H s'->Q (.bool o.isSome) s'):
 wpAny (model X.prog X.w) A (compareOp .In u (.ref a)) Q E s:=by
 rcases g with⟨kvs,k,e,ey,l⟩|⟨kvs,k,b,e,ey,eb,l⟩
 ·subst ey
  obtain⟨z,hd,vs,rel,dd⟩:=Yq9 I.hok e;refine wpAny_in_of (Yt0 ry) hd dd.mapOf ?_;rw[<-(rel.val k).isSome_eq,<-l];exact h _ (I.tok _)
 ·subst ey
  cases (show u=Value.ref b from ry);obtain⟨z,hd,xs,rel,dd⟩:=Yt1 I.hok e;refine wpAny_in_heap (tupleKind_room_in1 hu) (Yn9 I.hok eb) hd dd ?_;have q:=(rel.val k).isSome_eq;rw[Option.isSome_map]at q;rw[<-q,<-l];exact h _ (I.tok _)
def y75(hu:A.units+1<cLine)(I:Inv X pins σ H s)(g:DGet H a y o)(ry:RelV y u)(h:∀s',Inv X pins σ H s'->Q (.bool (!o.isSome)) s'):
 wpAny (model X.prog X.w) A (compareOp .NotIn u (.ref a)) Q E s:=by
 rcases g with⟨kvs,k,e,ey,l⟩|⟨kvs,k,b,e,ey,eb,l⟩
 ·subst ey
  obtain⟨z,hd,vs,rel,dd⟩:=Yq9 I.hok e;refine wpAny_notIn_of (Yt0 ry) hd dd.mapOf ?_;rw[<-(rel.val k).isSome_eq,<-l];exact h _ (I.tok _)
 ·subst ey
  cases (show u=Value.ref b from ry);obtain⟨z,hd,xs,rel,dd⟩:=Yt1 I.hok e;refine wpAny_notIn_heap (tupleKind_room_in1 hu) (Yn9 I.hok eb) hd dd ?_;have q:=(rel.val k).isSome_eq;rw[Option.isSome_map]at q;rw[<-q,<-l];exact h _ (I.tok _)
def Ylk(I:Inv X pins σ H s)(mu:Mut (H a))(hs:Heap.SameBut a s.heap h')(he:∃q,h'.get? a=some q)(new:ObjOk X.prog X.w (upd H a ob) h' a ob):
 Inv X pins σ (upd H a ob) { s with heap:=h',toks:=t' }:=
 I.write (x:=a) (e:=a) mu (.inl rfl) (λb q hb z=>(hs.2 b hb).trans z) he new
def Yzt(z:kvs.length<=sizeLine)(hd:(a==sysModules)=false)(rel:KV kvs vs)(dd:h'.DictOf (Yah P w) a vs):
 ObjOk P w H' h' a (.dK kvs):=⟨z,hd,vs,rel,dd⟩
theorem Yzu(hu:A.units+1<cLine)(I:Inv X pins σ H s)(g:DPut H a y v H')(ry:RelV y u)(rv:RelV v r)(h:∀s',Inv X pins σ H' s'->Q () s'):
 wpAny (model X.prog X.w) A (setItem (.ref a) u r) Q E s:=by
 rcases g with⟨kvs,k,e,ey,l,eH⟩|⟨kvs,k,b,e,ey,eb,l,eH⟩
 ·subst ey eH
  obtain⟨z,hd,vs,rel,dd⟩:=y74 I.hok e
  have hz:vs.length<=sizeLine:=by rw[<-rel.length];exact z
  have hl:(putK kvs k v).length<=sizeLine:=by have:=Yhu kvs k v;lia
  refine wpAny_setItem_pairs (hsz:=hz) (Yt0 ry) dd λh' dd' hs=>h _ ?_;have he:∃q,h'.get? a=some q:=let ⟨q,_,_,hq,_⟩:=dd';⟨q,hq⟩;exact Ylk I (by rw[e];exact True.intro) hs he (Yzt hl hd (rel.put k rv) dd')
 ·subst ey eH
  cases (show u=Value.ref b from ry);obtain⟨z,hd,xs,rel,dd⟩:=Yafg I.hok e
  have hz:xs.length<=sizeLine:=by rw[<-Paired.length rel];exact z
  have hl:(putK kvs k v).length<=sizeLine:=by have:=Yhu kvs k v;lia
  refine wpAny_setItem_heap (hsz:=hz) (tupleKind_room_in1 hu) (Yn9 I.hok eb) dd λh' dd' hs=>h _ ?_;obtain⟨q,es,ep,hq,h2,h3,h4,_,h5⟩:=dd';refine Ylk I (by rw[e];exact True.intro) hs ⟨q,hq⟩ ⟨hl,hd,_,(rel.put k eb rv).keeps λc ys ec=>?_,q,es,ep,hq,h2,h3,h4,h5⟩;rw[Yaa (Yae0 ec e (λz=>nomatch z))];exact ec
end
def NoSl(i:Expr):Prop:=∀ov iv,subscripted i false ov iv=operate [ov,iv] (getItem ov iv)
def y76{T id:String}(hl:typeLookup (.type T) "__getitem__"=pure (some (.builtin id)))(hs:NoSl slice)(h:wpAny (model prog w) A (eval value env) (λo s₁=>wpAny (model prog w) A (eval slice env) (λi s₂=>s₂.TypeIs o T/\wpAny (model prog w) A (getItem o i) Q E s₂) E s₁) E s):
 wpAny (model prog w) A (eval (.Subscript value slice pos) env) Q E s:=by
 refine Subscript_ (w5 h (λo s₁ h₁=>w5 h₁ (λi s₂ h₂=>?_) λ_ _ x=>x) λ_ _ x=>x);obtain⟨hT,h₂⟩:=h₂;unfold subscriptTail;refine wa ?_;rw[getitemInPython_of_ne hT.not_modules];refine wa (wpAny_specialOf hT hl ?_)
 have fin:wpAny (model prog w) A (subscripted slice false o i) (λr s₃=>wpAny (model prog w) A (letTemporaryGo value o r>>=λ_=>pure r) Q E s₃) E s₂:=by
  rw[hs o i];exact wpAny_operating (w5 h₂ (λr s₃ h₃=>wa (wpAny_letTemporaryGo (wb h₃))) λ_ _ x=>x)
 first
  | exact wb (wa fin)
  | exact wa (wb (wa fin))
  | exact wa fin
def Yt2{σ:St}(I:Inv X pins σ H s)(g:DGet H a y o):s.TypeIs (.ref a) "dict":=by
 rcases g with⟨kvs,k,e,_,_⟩|⟨kvs,k,b,e,_,_,_⟩
 ·obtain⟨_,_,vs,_,dd⟩:=Yq9 I.hok e
  exact dd.typeIs
 ·obtain⟨_,_,xs,_,dd⟩:=Yt1 I.hok e
  exact dd.typeIs
def y4b(h:Heap)(hb:sysModules<h.objs.size):ObjOk P w H (h.push { cls:=.type "dict",data:=.dict #[] }) h.objs.size (.dK []):=
 ⟨jb _,beq_eq_false_iff_ne.mpr (Ne.symm (qm hb)),[],.nil,Heap.DictOf.new h⟩
def Yabt:TE:=λ_ H Q=>∀p,H p=none->Q (.ref p) (upd H p (.dK []))
section
variable {X:Cx}{pos:Pos}
def y4c:PE X (.Dict [] [] pos) Yabt:=λpins s σ H Q I h=>
 wpAny_Dict_empty ⟨.ref (~~~s),_,I.laid (a:= ~~~s) (o:=.dK []) (t':=s.toks) (λ_ _ q=>qe _ q) (qu _) (y4b s.heap I.big),rfl,h _ (I.hok.fresh (qu _))⟩
end
def Yzv:List (TE×TE)->St->Hp->(List (V×V)->Hp->Prop)->Prop
 | [],_,H,Q=>Q [] H
 | (tk,tv)::r,σ,H,Q=>tk σ H λx H1=>tv σ H1 λy H2=>Yzv r σ H2 λps H3=>Q ((x,y)::ps) H3
abbrev VV:List (V×V)->List (Value×Value)->Prop:=Paired λp q=>RelV p.1 q.1/\RelV p.2 q.2
def PPs(X:Cx)(pos:Pos)(keys:List (Option Expr))(values:AM)(trs:List (TE×TE)):Prop:=
 ∀(pins:AC) (s:Shared) (σ:St) (H:Hp) (Q:List (V×V)->Hp->Prop),Inv X pins σ H s->Yzv trs σ H Q->
  wpAny (model X.prog X.w) X.A (evalPairs (pairTrees keys values X.env pos)) (λvs s'=>∃ps H',Inv X pins σ H' s'/\VV ps vs/\Q ps H') X.xe s
def y77:PPs X pos [] [] []:=λpins s σ H Q I h=>pairTrees_nil_walk ⟨[],H,I,.nil,h⟩
def y4d(hk:PE X k tk)(hv:PE X v tv)(hr:PPs X pos ks vs trs):
 PPs X pos (some k::ks) (v::vs) ((tk,tv)::trs):=λpins s σ H Q I h=>
 pairTrees_cons_walk (thn (hk pins s σ H _ I h) λu s1 ⟨x,H1,I1,rx,q1⟩=>thn (hv pins s1 σ H1 _ I1 q1) λw2 s2 ⟨y,H2,I2,ry,q2⟩=>
  thn (hr pins s2 σ H2 _ I2 q2) λws s3 ⟨ps,H3,I3,rel,q3⟩=>⟨(x,y)::ps,H3,I3,.cons ⟨rx,ry⟩ rel,q3⟩)
structure M1(X:Cx)(o:Expr)(m:Str)(apos:Pos)(e:Expr)(cpos:Pos):Prop where
 base:attributeBase o m X.env (eval o X.env)=eval o X.env
 few:((backTo cpos (starEach [e] X.env)).all (λx=>!x.1)&&(backToKw cpos (keywordEach [] X.env)).all (λx=>x.1.isSome)
  &&decide (([e]:AM).length+([]:List Keyword).length+(if ([]:List Keyword).isEmpty then 0 else 1)<30))=true
 line:(apos.endLine==cpos.line)=true
 trees:backTo cpos (starEach [e] X.env)=[(false,eval e X.env)]
structure M2(X:Cx)(o:Expr)(m:Str)(apos:Pos)(e f:Expr)(cpos:Pos):Prop where
 base:attributeBase o m X.env (eval o X.env)=eval o X.env
 few:((backTo cpos (starEach [e,f] X.env)).all (λx=>!x.1)&&(backToKw cpos (keywordEach [] X.env)).all (λx=>x.1.isSome)
  &&decide (([e,f]:AM).length+([]:List Keyword).length+(if ([]:List Keyword).isEmpty then 0 else 1)<30))=true
 line:(apos.endLine==cpos.line)=true
 trees:backTo cpos (starEach [e,f] X.env)=[(false,eval e X.env),(false,eval f X.env)]
def IsD(H:Hp)(a:Addr):Prop:=(∃kvs,Rd H a (.dK kvs))\/∃kvs,Rd H a (.dT kvs)
def Yabu{σ:St}(I:Inv X pins σ H s)(d:IsD H a):
 s.TypeIs (.ref a) "dict"/\(∀b,Value.ref a=.ref b->∃ob,s.heap.get? b=some ob/\ob.dict=none)/\(a==sysModules)=false:=by
 rcases d with⟨kvs,e⟩|⟨kvs,e⟩
 ·obtain⟨_,hd,vs,_,dd⟩:=Yq9 I.hok e
  refine⟨dd.typeIs,λb q=>?_,hd⟩;cases q;obtain⟨ob,_,_,h1,h2,_⟩:=dd;exact⟨ob,h1,h2.2.1⟩
 ·obtain⟨_,hd,xs,_,dd⟩:=Yt1 I.hok e
  refine⟨dd.typeIs,λb q=>?_,hd⟩;cases q;obtain⟨ob,_,_,h1,h2,_⟩:=dd;exact⟨ob,h1,h2.2.1⟩
section
variable {X:Cx}{pins:AC}{σ:St}{H:Hp}{s:Shared}{a:Addr}{y d:V}{u r:Value}{o:Option V}{A:Around}{E:AB}
def Yabv(hu:A.units+1<cLine)(I:Inv X pins σ H s)(g:DGet H a y o)(ry:RelV y u)(rd:RelV d r)(h:∀w' s',Inv X pins σ H s'->RelV (o.getD d) w'->Q w' s'):
 wpAny (model X.prog X.w) A (call (.builtin "dict.get") [.ref a,u,r]) Q E s:=by
 rcases g with⟨kvs,k,e,ey,l⟩|⟨kvs,k,b,e,ey,eb,l⟩
 ·subst ey
  obtain⟨z,hd,vs,rel,dd⟩:=Yq9 I.hok e;refine call_meetsIn PySem.F.slot_dict_get dd.typeIs PySem.F.entry_dict_get (PySem.F.args_dict_get_3 _ _ _) (meets_dict_get_default (Yah X.prog X.w) a (Yt0 ry) hd r) ⟨_,dd.mapOf,h _ _ (I.tok _) ?_⟩;rw[l];exact(rel.val k).getD rd
 ·subst ey
  cases (show u=Value.ref b from ry);obtain⟨z,hd,xs,rel,dd⟩:=Yt1 I.hok e;refine call_meetsIn PySem.F.slot_dict_get dd.typeIs PySem.F.entry_dict_get (PySem.F.args_dict_get_3 _ _ _) (meetsH_dict_get_default (tupleKind (Yah X.prog X.w)) a b hd r) ⟨tupleKind_room_in1 hu,k,xs,Yn9 I.hok eb,dd,h _ _ (I.tok _) ?_⟩;rw[l];exact(rel.val k).getD rd
end
def Yabw(td ty tx:TE):TE:=λσ H Q=>td σ H λx H1=>∃a,x=.ref a/\IsD H1 a/\ty σ H1 λy H2=>tx σ H2 λz H3=>∃o,DGet H3 a y o/\Q (o.getD z) H3
section
variable {X:Cx}{o e f:Expr}{apos cpos:Pos}{td ty tx:TE}
def y4e(hu:X.A.units+1<cLine)(ho:PE X o td)(he:PE X e ty)(hf:PE X f tx)(m:M2 X o "get" apos e f cpos):PE X (.Call (.Attribute o "get" apos) [e,f] [] cpos) (Yabw td ty tx):=by
 intro pins s σ H Q I h;refine wpAny_Call_method m.base m.few m.line PySem.F.plainAttrs_dict PySem.F.slot_dict_get PySem.F.type_dict_get (thn (ho pins s σ H _ I h) λu s1 hx_=>?_);obtain⟨x,H1,I1,rx,a,ex,d,q1⟩:=hx_;subst ex;obtain rfl:u=Value.ref a:=rx;obtain⟨t1,t2,_⟩:=Yabu I1 d;refine⟨t1,t2,?_⟩;rw[m.trees];refine Calls.callWith_builtin rfl (Calls.evalArgs_plain (Calls.spliced_cons (thn (he pins s1 σ H1 _ I1 q1) λiv s2 hx_=>?_)));obtain⟨y,H2,I2,ry,q2⟩:=hx_;refine Calls.spliced_cons (thn (hf pins s2 σ H2 _ I2 q2) λfv s3 hx_=>?_);obtain⟨z,H3,I3,rz,ov,g,q3⟩:=hx_;refine Calls.spliced_nil ?_
 exact Yabv hu I3 g ry rz λw' s4 I4 rw'=>⟨_,H3,I4,rw',q3⟩
end
end L2
namespace HT
open PySem PyProof.Rows
section
variable {prog:Program}{w:World}{A:Around}{E:AB}{s:Shared}
theorem cat_tup(ht:IsTup s.heap t vs.toArray)(hb:IsTup s.heap b ws.toArray)(hv:vs≠[])(h1:ws=[]->Q (.ref t) s)(h2:ws≠[]->Q (.ref (~~~s)) { s with heap:=s.heap.push { cls:=.type "tuple",data:=.seq (vs++ws).toArray } })(hsz:vs.length+ws.length<=sizeLine):wpAny (model prog w) A (binaryOp .Add (.ref t) (.ref b)) Q E s:=by
 obtain⟨⟨cls,dd,data,sl⟩,ho,hc,n,hd⟩:=id ht;obtain⟨⟨cls2,dd2,data2,sl2⟩,ho2,hc2,n2,hd2⟩:=id hb;simp only at hc hd hc2 hd2;subst hc hd hc2 hd2
 have e:vs.toArray++ws.toArray=(vs++ws).toArray:=by simp
 by_cases hw:ws=[]
 ·exact concat_meets ⟨_,ho,rfl⟩ ⟨_,ho2,rfl⟩ noFill_tuple_add seq_tuple_add PySem.F.slot_tuple_add PySem.F.entry_tuple_add (PySem.F.args_tuple_add_2 _ _)
   (tuple_addW1 t b vs.toArray ws.toArray n n2 dd dd2 sl sl2 (by grind) (by simp[hw])) ⟨ho,ho2,h1 hw⟩
 ·refine concat_meets ⟨_,ho,rfl⟩ ⟨_,ho2,rfl⟩ noFill_tuple_add seq_tuple_add PySem.F.slot_tuple_add PySem.F.entry_tuple_add (PySem.F.args_tuple_add_2 _ _)
   (tuple_addW2 t b vs.toArray ws.toArray n n2 dd dd2 sl sl2 (by grind) (by grind) (by grind)) ⟨ho,ho2,?_⟩
  grind
def sIx(n d:Nat):Option Int->Nat
 | none=>d
 | some v=>if v<0 then (v+(n:Int)).toNat else min v.toNat n
def sIx_none(n d:Nat):sIx n d none=d:=rfl
theorem sIx_nat(n d k:Nat):sIx n d (some (k:Int))=min k n:=by
 show(if (k:Int)<0 then ((k:Int)+(n:Int)).toNat else min (k:Int).toNat n)=min k n;rw[if_neg (by lia),w9]
theorem Yabx(n d:Nat)(hd:d<=n)(o:Option Int):sIx n d o<=n:=by
 cases o with
 | none=>exact hd
 | some v=>
   show(if v<0 then (v+(n:Int)).toNat else min v.toNat n)<=n;grind
theorem Yzw(v:Int)(n d:Nat):(if v<0 then max (v+(n:Int)) 0 else min v (n:Int))=((sIx n d (some v):Nat):Int):=by
 show(if v<0 then max (v+(n:Int)) 0 else min v (n:Int))=(((if v<0 then (v+(n:Int)).toNat else min v.toNat n):Nat):Int);grind
theorem Yxs(lo hi:Option Int)(n:Nat):Builtin.Slice.sliceAdjust lo hi 1 (n:Int)=(((sIx n 0 lo:Nat):Int),((sIx n n hi:Nat):Int)):=by
 have h1:¬((1:Int)<0):=by lia
 unfold Builtin.Slice.sliceAdjust;simp only[h1,if_false];refine Prod.ext ?_ ?_
 ·cases lo with
  | none=>rfl
  | some v=>exact Yzw v n 0
 ·cases hi with
  | none=>rfl
  | some v=>exact Yzw v n n
theorem Yxt(i j:Nat):Builtin.Slice.slicePlaces (i:Int) (j:Int) 1=j-i:=by
 unfold Builtin.Slice.slicePlaces;grind
def Yoa(p:IsPart v o)(h:Q o s):wpAny (model prog w) A (Builtin.Slice.slicePartIndex v) Q E s:=by
 cases p with
 | none=>exact slicePart_none h
 | int i t=>exact slicePart_int h
theorem sliceApplied_gen{lo hi:Option Int}{Q:Int×Int×Nat->Shared->Prop}(hs:s.heap.IsSliceOf sl vl vu .none)(pl:IsPart vl lo)(pu:IsPart vu hi)(h:Q (((sIx n 0 lo:Nat):Int),1,sIx n n hi-sIx n 0 lo) s):wpAny (model prog w) A (Builtin.Slice.sliceApplied (.ref sl) (pure (n:Int))) Q E s:=by
 obtain⟨os,hos,hcs,hds⟩:=id hs;unfold Builtin.Slice.sliceApplied Builtin.Slice.sliceFields;refine wa (wa (wpAny_field hos hds (x:=vl) rfl (wa (wpAny_field hos hds (x:=vu) rfl (wa (wpAny_field hos hds (x:=.none) rfl (wb ?_)))))));refine wa (slicePart_none ?_);show wpAny _ _ (if ((1:Int)==0)=true then _ else _) _ _ s;rw[if_neg (by decide)];refine wa (Yoa pl (wa (Yoa pu (wa (wb ?_)))));show wpAny _ _ (match Builtin.Slice.sliceAdjust lo hi 1 (n:Int)with|(lo,hi)=>pure (lo,(1:Int),Builtin.Slice.slicePlaces lo hi 1)) _ _ s;rw[Yxs lo hi n];show wpAny _ _ (pure (((sIx n 0 lo:Nat):Int),(1:Int),Builtin.Slice.slicePlaces ((sIx n 0 lo:Nat):Int) ((sIx n n hi:Nat):Int) 1)) _ _ s;rw[Yxt];exact wb h
theorem y4f(xs:Array Value)(i k:Nat):((List.range k).filterMap fun(m:Nat)=>xs[((i:Int)+(m:Int)*1).toNat]?).toArray=((xs.toList.drop i).take k).toArray:=by
 have e:(fun(m:Nat)=>xs[((i:Int)+(m:Int)*1).toNat]?)=λm=>xs[i+m]?:=by
  grind
 rw[e];have:=pick_run xs i k;rw[List.filterMap_map]at this;have e2:((λx=>xs[x]?) ∘ λx=>i+x)=λm=>xs[i+m]?:=rfl;grind
theorem getItem_tuple_cut{lo hi:Option Int}(ht:IsTup s.heap t items)(hs:s.heap.IsSliceOf sl vl vu .none)(pl:IsPart vl lo)(pu:IsPart vu hi)(hw:¬(sIx items.size 0 lo=0/\sIx items.size items.size hi=items.size))(h:Q (.ref (~~~s)) { s with heap:=s.heap.push { cls:=.type "tuple",data:=.seq ((items.toList.drop (sIx items.size 0 lo)).take (sIx items.size items.size hi-sIx items.size 0 lo)).toArray } })(hsz:items.size<=sizeLine):wpAny (model prog w) A (getItem (.ref t) (.ref sl)) Q E s:=by
 have htake:sizeOk (.seq ((items.toList.drop (sIx items.size 0 lo)).take (sIx items.size items.size hi-sIx items.size 0 lo)).toArray):=by
  show((items.toList.drop (sIx items.size 0 lo)).take (sIx items.size items.size hi-sIx items.size 0 lo)).toArray.size<=sizeLine;grind
 have hj:sIx items.size items.size hi<=items.size:=Yabx _ _ (qu _) hi;obtain⟨os,hos,hcs,hds⟩:=id hs
 have hTs:s.TypeIs (.ref sl) "slice":=⟨os,hos,hcs⟩
 unfold getItem
 try with_reducible refine wc ?_
 first|refine wa (wb ?_)|skip
 refine wa (wpAny_sequenceKey ht.typeIs (by decide) ?_)
 refine wa (wpAny_callSpecial?_slot (name:=Str.ofString "__getitem__") ht.typeIs PyProof.Rows.slot_tuple_getitem
  (we PyProof.Rows.slot_tuple_getitem ht.typeIs entry_tuple_getitem ?_ (args_tuple_getitem _ _)))
 show wpAny _ _ (Builtin.Tuple.tupleItemsOf (.ref t)>>=_) _ _ s;refine wa (tupleItemsOf_ ht ?_);refine wa (wpAny_typeOf hTs ?_);rw[if_pos (by decide)];refine wa (sliceApplied_gen hs pl pu ?_)
 have hno:¬((((sIx items.size 0 lo:Nat):Int)==0&&(1:Int)==1&&(sIx items.size items.size hi-sIx items.size 0 lo)==items.size)=true):=by
  grind
 show wpAny _ _ (if (((sIx items.size 0 lo:Nat):Int)==0&&(1:Int)==1&&(sIx items.size items.size hi-sIx items.size 0 lo)==items.size)=true then _ else _) _ _ s;rw[if_neg hno,y4f]
 first
  | exact wa (m:=Builtin.Tuple.tupleExact _) (wg (wb ⟨_,rfl,wb h⟩) htake)
  | exact wa (m:=Builtin.Tuple.tupleExact _) (wg (wa (wb (wb ⟨_,rfl,wb h⟩))) htake)
  | exact wa (wa (m:=Builtin.Tuple.tupleExact _) (wg (wb (wb ⟨_,rfl,wb h⟩)) htake))
  | exact wa (wa (m:=Builtin.Tuple.tupleExact _) (wg (wb ⟨_,rfl,wb h⟩) htake))
end
end HT
namespace L2
open PySem PySem.Spec PyProof.Rows
abbrev TO:=St->Hp->(Option Int->Hp->Prop)->Prop
def PO(X:Cx)(e:Option Expr)(t:TO):Prop:=
 ∀(pins:AC) (s:Shared) (σ:St) (H:Hp) (Q:Option Int->Hp->Prop),Inv X pins σ H s->t σ H Q->
  wpAny (model X.prog X.w) X.A (evalPart e X.env) (λu s'=>∃o H',Inv X pins σ H' s'/\IsPart u o/\Q o H') X.xe s
def Yzx:TO:=λ_ H Q=>Q none H
def Yaby(t:TE):TO:=λσ H Q=>t σ H λx H1=>∃i,x=.int i/\Q (some i) H1
theorem Ygy:∀{us:AD},Vals (ns.map V.int) us->IntsAre us ns:=by
 induction ns with
 | nil=>intro us r;rw[List.map_nil]at r;cases r;exact .nil
 | cons n ns ih=>
   intro us r;rw[Qa]at r
   cases r with
   | cons r1 r2=>
     obtain⟨t,e⟩:=r1;subst e;exact .cons n t (ih r2)
section
variable {X:Cx}{e:Expr}{te:TE}{lo hi:Option Expr}{tl th:TO}{pos p2:Pos}
def y78:PO X none Yzx:=by
 intro pins s σ H Q I h;rw[evalPart_none];exact wb ⟨none,H,I,.none,h⟩
def y79(h:PE X e te):PO X (some e) (Yaby te):=by
 intro pins s σ H Q I hw;rw[evalPart_some];refine thn (h pins s σ H _ I hw) λu s1 hx_=>?_;obtain⟨x,H1,I1,r1,q1⟩:=hx_;obtain⟨i,rfl,q⟩:=q1;obtain⟨t,rfl⟩:=r1;exact⟨some i,H1,I1,.int i t,q⟩
def SlR(X:Cx)(r:V->Option Int->Option Int->Hp->VK->Prop):Prop:=
 ∀(pins:AC) (s:Shared) (σ:St) (H:Hp) (x:V) (v vl vu:Value) (lo hi:Option Int) (sl:Addr) (Q:VK),Inv X pins σ H s->RelV x v->s.heap.IsSliceOf sl vl vu .none->IsPart vl lo->IsPart vu hi->r x lo hi H Q->
  ∃T id,typeLookup (.type T) "__getitem__"=pure (some (.builtin id))/\s.TypeIs v T/\wpAny (model X.prog X.w) X.A (getItem v (.ref sl)) (EP X pins σ Q) X.xe s
def SlR.or(h:SlR X r)(h':SlR X r'):SlR X (λx lo hi H Q=>r x lo hi H Q\/r' x lo hi H Q):=by
 intro pins s σ H x v vl vu lo hi sl Q I rx hs pl pu q;rcases q with q|q
 ·exact h pins s σ H x v vl vu lo hi sl Q I rx hs pl pu q
 ·exact h' pins s σ H x v vl vu lo hi sl Q I rx hs pl pu q
def tSl(r:V->Option Int->Option Int->Hp->VK->Prop)(te:TE)(tl th:TO):TE:=λσ H Q=>te σ H λx H1=>tl σ H1 λl H2=>th σ H2 λu H3=>r x l u H3 Q
def Yv3(hr:SlR X r)(he:PE X e te)(hl:PO X lo tl)(hu:PO X hi th):PE X (.Subscript e (.Slice lo hi none p2) pos) (tSl r te tl th):=by
 intro pins s σ H Q I h;refine Subscript_ (thn (he pins s σ H _ I h) λv s1 hx_=>?_);obtain⟨x,H1,I1,r1,q1⟩:=hx_;refine wpAny_Slice (thn (hl pins s1 σ H1 _ I1 q1) λvl s2 hx_=>?_);obtain⟨l,H2,I2,pl,q2⟩:=hx_;refine thn (hu pins s2 σ H2 _ I2 q2) λvu s3 hx_=>?_;obtain⟨u,H3,I3,pu,q3⟩:=hx_;rw[evalPart_none];refine wb ?_;have I4:Inv X pins σ H3 { s3 with heap:=s3.heap.push { cls:=.type "slice",data:=.fields #[vl,vu,.none] } }:=I3.kept (t':=s3.toks) λb ob q=>qe _ q;obtain⟨T,id,hT,ht,hg⟩:=hr pins { s3 with heap:=s3.heap.push { cls:=.type "slice",data:=.fields #[vl,vu,.none] } } σ H3 x v vl vu l u s3.heap.objs.size Q I4 r1 (Heap.IsSliceOf.new ..) pl pu q3;show wpAny (model X.prog X.w) X.A (subscriptTail e (.Slice lo hi none p2) v (.ref s3.heap.objs.size)) (EP X pins σ Q) X.xe { s3 with heap:=s3.heap.push { cls:=.type "slice",data:=.fields #[vl,vu,.none] } };exact tail_any (ops:=[.ref s3.heap.objs.size,v]) ht hT hg (by with_unfolding_all rfl)
def cutV(xs:AQ)(lo hi:Option Int):AQ:=(xs.drop (HT.sIx xs.length 0 lo)).take (HT.sIx xs.length xs.length hi-HT.sIx xs.length 0 lo)
theorem Yll(xs:AQ)(lo hi:Option Int):(cutV xs lo hi).length<=xs.length:=by
 unfold cutV;rw[List.length_take,List.length_drop];lia
def rSlT(K:W.Frag):V->Option Int->Option Int->Hp->VK->Prop:=λx lo hi H Q=>∃a xs,x=.ref a/\SqT K H a xs/\
 ¬(HT.sIx xs.length 0 lo=0/\HT.sIx xs.length xs.length hi=xs.length)/\∀p,H p=none->Q (.ref p) (upd H p (.tup (cutV xs lo hi)))
theorem Yabz:SlR X (rSlT X.K):=by
 intro pins s σ H x v vl vu lo hi sl Q I rx hs pl pu h;obtain⟨a,xs,rfl,hx,hw,q⟩:=h;cases rx;obtain⟨its,r,ht,hz⟩:=I.tuple hx
 have hlen:its.toArray.size=xs.length:=by rw[qk];exact r.length.symm
 refine⟨"tuple",_,PyProof.Rows.slot_tuple_getitem.lookup,ht.typeIs,?_⟩;refine HT.getItem_tuple_cut ht hs pl pu (by grind) ?_ (by grind);rw[hlen];refine⟨.ref (~~~s),_,I.laid (t':=s.toks) (o:=.tup (cutV xs lo hi)) (λb ob q=>qe _ q) (qu _) ?_,rfl,q _ (I.hok.fresh (qu _))⟩;exact⟨Qg (Yll xs lo hi) hz,_,(r.drop (HT.sIx xs.length 0 lo)).take (HT.sIx xs.length xs.length hi-HT.sIx xs.length 0 lo),IsTup.new _ _⟩
def Yafh(K:W.Frag):R2:=λx y H Q=>∃a b xs ys,x=.ref a/\y=.ref b/\SqT K H a xs/\SqT K H b ys/\xs≠[]/\xs.length+ys.length<=sizeLine/\
 (ys=[]->Q (.ref a) H)/\(ys≠[]->∀p,H p=none->Q (.ref p) (upd H p (.tup (xs++ys))))
def Vals.nil_iff(r:Vals xs us):us=[]↔xs=[]:=by
 cases r with
 | nil=>simp
 | cons _ _=>simp
theorem y8a:OpR X (binaryOp .Add) (Yafh X.K):=by
 intro pins s σ H x y v u Q I rx ry h;obtain⟨a,b,xs,ys,rfl,rfl,ha,hb,hx,hz,q1,q2⟩:=h;cases rx;cases ry;obtain⟨its,r1,p1,_⟩:=I.tuple ha;obtain⟨its2,r2,p2,_⟩:=I.tuple hb;refine HT.cat_tup p1 p2 (λz=>hx (r1.nil_iff.mp z)) (λz=>⟨.ref a,H,I,rfl,q1 (r2.nil_iff.mp z)⟩) (λz=>?_) (by rw[<-r1.length,<-r2.length];exact hz);refine⟨.ref (~~~s),_,I.laid (t':=s.toks) (o:=.tup (xs++ys)) (λb ob q=>qe _ q) (qu _) ?_,rfl,q2 (λw=>z (r2.nil_iff.mpr w)) _ (I.hok.fresh (qu _))⟩;exact⟨by grind,_,r1.append r2,IsTup.new _ _⟩
end
def ixN(n:Nat)(i:Int):AN:=if 0<=i then (if i<n then some i.toNat else none)else if -(n:Int)<=i then some (i+n).toNat else none
def atI{α:Type}(xs:List α)(i:Int):Option α:=(ixN xs.length i).bind λj=>xs[j]?
theorem y8b(h:ixN n i=some j):seqIndex? i n=some j/\j<n/\-(n:Int)<=i/\i<n:=by
 unfold ixN at h;by_cases h0:0<=i
 ·rw[if_pos h0]at h
  by_cases h1:i<n
  ·rw[if_pos h1]at h
   have e:i.toNat=j:=w6 h;exact⟨by rw[seqIndex_of h0 h1,e],by lia,by lia,h1⟩
  grind
 ·rw[if_neg h0]at h
  by_cases h1:-(n:Int)<=i
  ·rw[if_pos h1]at h
   have e:(i+n).toNat=j:=w6 h;exact⟨by rw[seqIndex_neg (by lia) h1,e],by lia,h1,by lia⟩
  grind
def Yt3(h:atI xs i=some v):∃j,seqIndex? i xs.length=some j/\xs[j]?=some v/\j<xs.length/\-(xs.length:Int)<=i/\i<xs.length:=by
 unfold atI at h
 cases e:ixN xs.length i with
 | none=>rw[e]at h;cases h
 | some j=>
   rw[e]at h;obtain⟨h1,h2,h3,h4⟩:=y8b e;exact⟨j,h1,h,h2,h3,h4⟩
theorem Yhv{j:Nat}(h:xs[j]?=some v):atI xs (j:Int)=some v:=by
 have hj:j<xs.length:=(qo h).1
 have e:ixN xs.length (j:Int)=some j:=by
  unfold ixN;grind
 unfold atI;grind
def Ye1(b:Expr):Prop:=∀o i,subscripted b false o i=operate [o,i] (getItem o i)
def IxR(X:Cx)(r:R2):Prop:=
 ∀(value slice:Expr) (pins:AC) (s:Shared) (σ:St) (H:Hp) (x y:V) (v u:Value) (Q:VK),Inv X pins σ H s->RelV x v->RelV y u->r x y H Q->
  subscripted slice false v u=operate [v,u] (getItem v u)->wpAny (model X.prog X.w) X.A (subscriptTail value slice v u) (EP X pins σ Q) X.xe s
def MtR(X:Cx)(id:String)(r:V->AQ->Hp->VK->Prop):Prop:=
 ∀(pins:AC) (s:Shared) (σ:St) (H:Hp) (x:V) (xs:AQ) (v:Value) (us:AD) (Q:VK),Inv X pins σ H s->RelV x v->Vals xs us->r x xs H Q->
  wpAny (model X.prog X.w) X.A (call (.builtin id) (v::us)) (EP X pins σ Q) X.xe s
section
variable {X:Cx}{a b:Expr}{ta tb:TE}{pos:Pos}
def IxR.or(h:IxR X r)(h':IxR X r'):IxR X (λx y H Q=>r x y H Q\/r' x y H Q):=by
 intro value slice pins s σ H x y v u Q I rx ry q hs;rcases q with q|q
 ·exact h value slice pins s σ H x y v u Q I rx ry q hs
 ·exact h' value slice pins s σ H x y v u Q I rx ry q hs
def Yafi(hr:IxR X r)(ha:PE X a ta)(hb:PE X b tb)(hs:Ye1 b):PE X (.Subscript a b pos) (tOp r ta tb):=by
 intro pins s σ H Q I h;exact Subscript_ (binT ha hb I h λv u s2 x y H2 I2 rx ry q=>hr a b pins s2 σ H2 x y v u Q I2 rx ry q (hs _ _))
def rIxL(K:W.Frag):R2:=λx y H Q=>∃p xs i v,x=.ref p/\y=.int i/\SqL K H p xs/\atI xs i=some v/\Q v H
def rIxT(K:W.Frag):R2:=λx y H Q=>∃p xs i v,x=.ref p/\y=.int i/\SqT K H p xs/\atI xs i=some v/\Q v H
def rIxS:R2:=λx y H Q=>∃z i c,x=.str z/\y=.int i/\z.length<=sizeLine/\atI z.cps.toList i=some c/\Q (.str ⟨#[c]⟩) H
theorem ix_list:IxR X (rIxL X.K):=by
 intro value slice pins s σ H x y v u Q I rx ry h hs;obtain⟨p,xs,i,z,rfl,rfl,hq,he,q⟩:=h;cases rx;obtain⟨t,rfl⟩:=ry;obtain⟨its,r,pl,hz⟩:=I.list hq;obtain⟨j,h1,h2,h3,h4,h5⟩:=Yt3 he;obtain⟨w,ew,rw'⟩:=r.get h2;have hl:=r.length;have hn:=Yq2
 have fin:EP X pins σ Q w s:=⟨z,H,I,rw',q⟩
 by_cases h0:0<=i
 ·have hj:i.toNat=j:=by
   rw[seqIndex_of h0 h5]at h1;grind
  exact item_listR pl.isList h0 (by lia) (by grind) fin hs
 ·have hj:(i+(its.toArray.size:Int)).toNat=j:=by
   rw[seqIndex_neg (by lia) h4]at h1;grind
  exact subscriptTail_builtinR (x:=w) pl.isList.typeIs slot_list_getitem.lookup
   (wpAny_getItem_list_neg (Q:=λr s'=>r=w/\EP X pins σ Q r s') pl.isList (by lia) (by grind) (by lia) (by grind) ⟨rfl,fin⟩) hs
theorem ix_tup:IxR X (rIxT X.K):=by
 intro value slice pins s σ H x y v u Q I rx ry h hs;obtain⟨p,xs,i,z,rfl,rfl,hq,he,q⟩:=h;cases rx;obtain⟨t,rfl⟩:=ry;obtain⟨its,r,pl,hz⟩:=I.tuple hq;obtain⟨j,h1,h2,h3,h4,h5⟩:=Yt3 he;obtain⟨w,ew,rw'⟩:=r.get h2;have hl:=r.length;have hn:=Yq2
 have fin:EP X pins σ Q w s:=⟨z,H,I,rw',q⟩
 exact subscriptTail_builtinR (x:=w) pl.typeIs slot_tuple_getitem.lookup
  (getItem_tuple (j:=j) (Q:=λr s'=>r=w/\EP X pins σ Q r s') pl (by lia) (by lia) (by grind) (by grind) ⟨rfl,fin⟩) hs
theorem Yab0:IxR X rIxS:=by
 intro value slice pins s σ H x y v u Q I rx ry h hs;obtain⟨z,i,c,rfl,rfl,hz,he,q⟩:=h;obtain⟨t,rfl⟩:=rx;obtain⟨t',rfl⟩:=ry;obtain⟨j,h1,h2,h3,h4,h5⟩:=Yt3 he
 have hl:z.cps.toList.length=z.length:=by simp[Str.length]
 rw[hl]at h1 h4 h5;have hn:=Yq2
 exact tail_any (typeIs_str s z t) slot_str_getitem.lookup (getItem_str (c:=c) (by
  grind) (by grind) ⟨.str ⟨#[c]⟩,H,I.tok _,⟨_,rfl⟩,q⟩) hs
def rIx(K:W.Frag):R2:=λx y H Q=>rIxL K x y H Q\/rIxT K x y H Q\/rIxS x y H Q
def Yab1:IxR X (rIx X.K):=ix_list.or (ix_tup.or Yab0)
theorem Yra(lo hi:Option Int)(n:Nat):(sliceBounds lo hi none n).1=((HT.sIx n 0 lo:Nat):Int)/\(sliceBounds lo hi none n).2.1=((HT.sIx n n hi:Nat):Int)/\(sliceBounds lo hi none n).2.2=1:=by
 refine⟨?_,?_,rfl⟩
 ·cases lo with
  | none=>simp[sliceBounds,HT.sIx]
  | some i=>
    simp only[sliceBounds,HT.sIx,Option.getD_none,show(1:Int) > 0 by decide,if_true];grind
 ·cases hi with
  | none=>simp[sliceBounds,HT.sIx]
  | some i=>
    simp only[sliceBounds,HT.sIx,Option.getD_none,show(1:Int) > 0 by decide,if_true];grind
def Yo7(its:AD)(lo hi:Option Int):slicePick its.toArray lo hi none=((its.drop (HT.sIx its.length 0 lo)).take (HT.sIx its.length its.length hi-HT.sIx its.length 0 lo)).toArray:=by
 obtain⟨h1,h2,h3⟩:=Yra lo hi its.toArray.size;unfold slicePick;rw[h1,h2,h3];simp only[sliceRange_one,pick_run,qk]<;>rfl
def rSlL(K:W.Frag):V->Option Int->Option Int->Hp->VK->Prop:=λx lo hi H Q=>∃a xs,x=.ref a/\SqL K H a xs/\∀p,H p=none->Q (.ref p) (upd H p (.lst (cutV xs lo hi)))
theorem Yzy:SlR X (rSlL X.K):=by
 intro pins s σ H x v vl vu lo hi sl Q I rx hs pl pu h;obtain⟨a,xs,rfl,hx,q⟩:=h;cases rx;obtain⟨its,r,ht,hz⟩:=I.list hx;have hlen:=r.length;refine⟨"list",_,slot_list_getitem.lookup,ht.isList.typeIs,?_⟩;refine wpAny_getItem_list_slice ht.isList hs pl pu .none (by simp) ?_ (by grind);rw[Yo7,<-hlen];refine⟨.ref (~~~s),_,I.laid (t':=s.toks) (o:=.lst (cutV xs lo hi)) (λb ob q=>qe _ q) (qu _) ?_,rfl,q _ (I.hok.fresh (qu _))⟩;exact⟨Qg (Yll xs lo hi) hz,_,0,(r.drop (HT.sIx xs.length 0 lo)).take (HT.sIx xs.length xs.length hi-HT.sIx xs.length 0 lo),qp _ rfl⟩
theorem Yak:Ydt X (.builtin "len") (λxs H Q=>∃p ys,xs=[.ref p]/\(SqL X.K H p ys\/SqT X.K H p ys)/\Q (.int ys.length) H):=by
 intro pins s σ H xs us Q I r h;obtain⟨p,ys,rfl,hq,q⟩:=h;obtain⟨u,rfl,rx⟩:=Yhc r;cases rx;have hn:=Yq2;rcases hq with hq|hq
 ·obtain⟨its,r',pl,hz⟩:=I.list hq
  have hlen:=r'.length;exact Calls.call_len_list pl.isList (by grind) ⟨.int ys.length,H,I.tok _,⟨s.toks+1,by grind⟩,q⟩
 ·obtain⟨its,r',pl,hz⟩:=I.tuple hq
  have hlen:=r'.length;exact len_tuple pl (by grind) ⟨.int ys.length,H,I.tok _,⟨s.toks+1,by grind⟩,q⟩
theorem Yeo:Ydt X (.type "list") (λxs H Q=>∃p ys,xs=[.ref p]/\(SqL X.K H p ys\/SqT X.K H p ys)/\∀l,H l=none->Q (.ref l) (upd H l (.lst ys))):=by
 intro pins s σ H xs us Q I r h;obtain⟨p,ys,rfl,hq,q⟩:=h;obtain⟨u,rfl,rx⟩:=Yhc r;cases rx
 have fin:∀(its:AD),Vals ys its->ys.length<=sizeLine->∀(h':Heap) (c':Nat),(∀b o',s.heap.get? b=some o'->h'.get? b=some o')->
  h'.get? (~~~s)=some { cls:=.type "list",dict:=none,data:=.seq its.toArray c',slots:=#[] }->EP X pins σ Q (.ref (~~~s)) { s with heap:=h' }:=λits r' hz h' c' kp e=>
  ⟨.ref (~~~s),_,I.laid (t':=s.toks) kp (qu _) (show ObjOk X.prog X.w _ h' _ (.lst ys) from⟨hz,its,c',r',e⟩),rfl,q _ (I.hok.fresh (qu _))⟩
 rcases hq with hq|hq
 ·obtain⟨its,r',pl,hz⟩:=I.list hq
  have hlen:=r'.length;obtain⟨o,ho,hc,n,hd⟩:=pl.isList;exact call_list_seq p (.inl rfl) ho hc hd (λh' c' kp e=>fin its r' hz h' c' kp e) (by grind)
 ·obtain⟨its,r',pl,hz⟩:=I.tuple hq
  have hlen:=r'.length;obtain⟨o,ho,hc,n,hd⟩:=pl;exact call_list_seq p (.inr rfl) ho hc hd (λh' c' kp e=>fin its r' hz h' c' kp e) (by grind)
theorem Yx:Ydt X (.type "tuple") (λxs H Q=>∃p ys,xs=[.ref p]/\((SqL X.K H p ys/\∀l,H l=none->Q (.ref l) (upd H l (.tup ys)))\/(SqT X.K H p ys/\Q (.ref p) H))):=by
 intro pins s σ H xs us Q I r h;obtain⟨p,ys,rfl,h⟩:=h;obtain⟨u,rfl,rx⟩:=Yhc r;cases rx;rcases h with⟨hq,q⟩|⟨hq,q⟩
 ·obtain⟨its,r',pl,hz⟩:=I.list hq
  have hlen:=r'.length;refine call_tuple_list pl.isList (λh' kp=>?_) (by grind);have I1:Inv X pins σ H { s with heap:=h' }:=I.kept (t':=s.toks) kp
  have I2:Inv X pins σ (upd H h'.objs.size (.tup ys)) { s with heap:=h'.push { cls:=.type "tuple",data:=.seq its.toArray } }:=
   I1.laid (t':=s.toks) (λb o e=>qe _ e) (qu _) (show ObjOk X.prog X.w _ _ _ (.tup ys) from⟨hz,its,r',IsTup.new _ _⟩)
  exact⟨.ref h'.objs.size,_,I2,rfl,q _ (I1.hok.fresh (qu _))⟩
 ·obtain⟨its,r',pl,hz⟩:=I.tuple hq
  exact call_tuple_same pl ⟨.ref p,H,I,rfl,q⟩
def tyV(K:W.Frag)(T:String)(x:V)(H:Hp):Prop:=match x with
 | .str _=>T="str"
 | .int _=>T="int"
 | .ref p=>(T="list"/\∃xs,SqL K H p xs)\/(T="tuple"/\∃o,K.lookup p=some o/\o.cls=.type "tuple"/\o.dict=none)\/
  (T="dict"/\((∃kvs,H p=some (.dK kvs))\/∃kvs,H p=some (.dT kvs)))\/(T="set"/\∃S n,H p=some (.set S n))
 | _=>False
theorem Yab2{σ:St}(I:Inv X pins σ H s)(r:RelV x v)(ty:tyV X.K T x H):
 s.TypeIs v T/\∀a,v=.ref a->∃ob,s.heap.get? a=some ob/\ob.dict=none:=by
 cases x with
 | str z=>
   obtain⟨t,rfl⟩:=r;cases (show T="str" from ty);exact⟨typeIs_str s z t,λ_ e=>nomatch e⟩
 | int i=>
   obtain⟨t,rfl⟩:=r;cases (show T="int" from ty);exact⟨typeIs_int s i t,λ_ e=>nomatch e⟩
 | ref p=>
   cases r;rcases ty with⟨rfl,xs,hq⟩|⟨rfl,o,hk,hc,hd⟩|⟨rfl,hk⟩|⟨rfl,S,n,hk⟩
   ·obtain⟨its,_,pl,_⟩:=I.list hq
    refine⟨pl.isList.typeIs,λa e=>?_⟩;cases e;obtain⟨o,n,e,c,hd,_⟩:=pl;grind
   ·refine⟨⟨o,I.kIn p o hk,hc⟩,λa e=>?_⟩
    cases e;exact⟨o,I.kIn _ o hk,hd⟩
   ·have z:∃o,s.heap.get? p=some o/\o.ExactDict:=by
     rcases hk with⟨kvs,hk⟩|⟨kvs,hk⟩
     ·obtain⟨_,_,_,_,o,_,_,e,ex,_⟩:=I.hok p _ hk
      grind
     ·obtain⟨_,_,_,_,o,_,_,e,ex,_⟩:=I.hok p _ hk
      grind
    obtain⟨o,e,ex⟩:=z;refine⟨⟨o,e,ex.1⟩,λa e2=>?_⟩;cases e2;exact⟨o,e,ex.2.1⟩
   ·obtain⟨o,_,_,_,e,ex,_⟩:=I.hok p _ hk
    refine⟨⟨o,e,ex.1⟩,λa e2=>?_⟩;cases e2;exact⟨o,e,ex.2.1⟩
 | _=>exact False.elim ty
def tBM(K:W.Frag)(T:String)(r:V->AQ->Hp->VK->Prop)(to:TE)(t:TA):TE:=λσ H Q=>to σ H λx H1=>tyV K T x H1/\t σ H1 λxs H2=>r x xs H2 Q
variable {o e:Expr}{es:AM}{to:TE}{t:TA}{name:Str}{apos cpos:Pos}{T id:String}{r:V->AQ->Hp->VK->Prop}
theorem Yxu(pa:PlainAttrs T)(slot:Slot T name id)(hty:typeOf (.builtin id)=pure (.type "method_descriptor"))(hm:MtR X id r)(ho:PE X o to)(ha:PA X (e::es) t)(hbase:attributeBase o name X.env (eval o X.env)=eval o X.env:=by rfl)(hfew:((backTo cpos (starEach (e::es) X.env)).all (λx=>!x.1)&&(backToKw cpos (keywordEach [] X.env)).all (λx=>x.1.isSome)
  &&decide ((e::es).length+([]:List Keyword).length+(if ([]:List Keyword).isEmpty then 0 else 1)<30))=true:=by rfl)(hline:(apos.endLine==cpos.line)=true:=by rfl)(hs:starEach (e::es) X.env=(false,eval e X.env)::starEach es X.env:=by rfl)(hplain:(backTo cpos (starEach es X.env)).any (·.1)=false:=by rfl):
 PE X (.Call (.Attribute o name apos) (e::es) [] cpos) (tBM X.K T r to t):=by
 intro pins s σ H Q I h;refine wpAny_Call_method_late hbase hfew hline rfl (thn (ho pins s σ H _ I h) λv s1 hx_=>?_);obtain⟨x,H1,I1,r1,ty,q1⟩:=hx_;obtain⟨h1,h2⟩:=Yab2 I1 r1 ty;refine⟨T,id,pa,slot,hty,h1,h2,?_⟩;have hA:=ha cpos pins s1 σ H1 _ I1 q1;rw[hs]at hA ⊢;refine Calls.callWith_builtin (by grind) (Calls.evalArgs_plain ?_);refine thn hA λus s2 hx_=>?_;obtain⟨vs,H2,I2,r2,q2⟩:=hx_;exact hm pins s2 σ H2 x vs v us Q I2 r1 r2 q2
end
def MtM(X:Cx)(id:String)(r:V->AQ->Hp->VK->Prop):Prop:=
 ∀(pins:AC) (s:Shared) (σ:St) (H:Hp) (x:V) (xs:AQ) (v:Value) (us:AD) (Q:VK),Inv X pins σ H s->RelV x v->Vals xs us->r x xs H Q->
  wpAny (model X.prog X.w) X.A (call (.builtin id) (v::us)) (EP X pins σ Q) X.xe s
theorem Vals.one:∀{x:V}{us:AD},Vals [x] us->∃u,us=[u]/\RelV x u
 :=by
  intro x us h
  cases h with
  | cons r t=>
    cases t;grind
theorem Vals.eraseIdx:∀{xs:AQ}{us:AD} (i:Nat),Vals xs us->Vals (xs.eraseIdx i) (us.eraseIdx i)
 | _,_,_,.nil=>.nil
 | _,_,0,.cons _ t=>t
 | _,_,i+1,.cons r t=>.cons r (Vals.eraseIdx i t)
section
variable {X:Cx}{pins:AC}{σ:St}{H:Hp}{s:Shared}{l b:Addr}{xs ys zs:AQ}
theorem Inv.lset{its its':AD}(I:Inv X pins σ H s)(hH:H l=some (.lst xs))(e:s.heap.get? l=some { cls:=.type "list",data:=.seq its.toArray n })(hf:f its.toArray=its'.toArray)(hv:Vals ys its')(hz:ys.length<=sizeLine):
 Inv X pins σ (upd H l (.lst ys)) { s with heap:=s.heap.update l (Obj.mapSeq f),toks:=t' }:=by
 have q:=PySem.IsL.update e f;rw[hf]at q;refine I.write (x:=l) (e:=l) (by rw[hH];exact trivial) (.inl rfl) (λb' u hb hu=>(Heap.get?_update_other s.heap (Obj.mapSeq f) (Ne.symm hb)).trans hu) ⟨_,q⟩ ?_;exact⟨hz,its',_,hv,q⟩
def Inv.lnew(I:Inv X pins σ H s)(hv:Vals ys its)(hz:ys.length<=sizeLine):
 Inv X pins σ (upd H (~~~s) (.lst ys)) { s with heap:=s.heap.push { cls:=.type "list",data:=.seq its.toArray },toks:=t' }:=
 I.laid (λ_ _ q=>qe _ q) (qu _) ⟨hz,its,0,hv,qp _ rfl⟩
def Inv.fresh(I:Inv X pins σ H s):H (~~~s)=none:=I.hok.fresh (qu _)
def Inv.lstM(I:Inv X pins σ H s)(hH:H l=some (.lst xs)):xs.length<=sizeLine/\∃(its:AD) (n:Nat),Vals xs its/\xs.length=its.length/\s.heap.get? l=some { cls:=.type "list",data:=.seq its.toArray n }:=by
 obtain⟨z,its,n,r,e⟩:=I.hok l _ hH;exact⟨z,its,n,r,r.length,e⟩
theorem y4g(h:n<=sizeLine):Builtin.List.listTooLong n=false:=by
 unfold Builtin.List.listTooLong;grind
def y8c:V->AQ->Hp->VK->Prop:=λx vs H Q=>∃l xs y,x=.ref l/\vs=[y]/\H l=some (.lst xs)/\xs.length<sizeLine/\Q .non (upd H l (.lst (xs++[y])))
theorem Yrb:MtM X "list.append" y8c:=by
 intro pins s σ H x vs v us Q I rx rv h;obtain⟨l,xs,y,rfl,rfl,hH,hz,q⟩:=h;cases rx;obtain⟨u,rfl,ru⟩:=rv.one;obtain⟨z,its,n,r,hl,e⟩:=I.lstM hH;refine call_meets F.slot_list_append ⟨_,e,rfl⟩ F.entry_list_append (F.args_list_append_2 _ _) (PySem.list_append l its.toArray n u (by grind)) ⟨e,?_⟩;refine⟨.non,_,I.lset (its':=its++[u]) hH e (by simp) (r.append (.cons ru .nil)) ?_,rfl,q⟩;grind
def Yab3:V->AQ->Hp->VK->Prop:=λx vs H Q=>∃l xs i k y,x=.ref l/\vs=[.int i]/\H l=some (.lst xs)/\-(2^63)<=i/\i<2^63/\seqIndex? i xs.length=some k/\xs[k]?=some y/\Q y (upd H l (.lst (xs.eraseIdx k)))
theorem y4h:MtM X "list.pop" Yab3:=by
 intro pins s σ H x vs v us Q I rx rv h;obtain⟨l,xs,i,k,y,rfl,rfl,hH,h1,h2,hk,hy,q⟩:=h;cases rx;obtain⟨u,rfl,ru⟩:=rv.one;obtain⟨t,rfl⟩:=ru;obtain⟨z,its,n,r,hl,e⟩:=I.lstM hH;obtain⟨w,hw,rw'⟩:=r.get hy
 refine call_meets F.slot_list_pop ⟨_,e,rfl⟩ F.entry_list_pop (F.args_list_pop_2 _ _)
  (MeetsSeq.list_pop_at l its.toArray n i t k w (fitsIndex_both h1 h2) (by grind) (by grind) (by grind)) ⟨e,?_⟩
 refine⟨y,_,I.lset (its':=its.eraseIdx k) hH e ?_ (r.eraseIdx k) ?_,rw',q⟩
 ·grind
 grind
end
end L2
namespace Att
open PySem PySem.W PySem.Calls PyProof.Rows
theorem Ylm:∀(ns:AH) (vs:AD),WellAll P h vs (ns.map WData.int)->IntsAre vs ns:=by
 intro ns
 induction ns with
 | nil=>
   intro vs w;rw[List.map_nil]at w;cases w;exact .nil
 | cons n ns ih=>
   intro vs w;rw[Qa]at w
   cases w with
   | cons a b=>
     cases a;exact .cons _ _ (ih _ b)
theorem Yzz{l:OpenLaw}(hn:l.most=some n)(hpre:l.row.toRowW.claim.pre args=true)(hwl:WellAll P h vals args):
 ∃a vs ns,vals=[Value.ref a]/\args=[WData.list (ns.map WData.int)]/\h.get? a=some { cls:=.type "list",data:=.seq vs.toArray }/\IntsAre vs ns/\ns.length<=n:=by
 have hsh:WShape.hasAll [] args [.list .int]=true:=(pre_splitW hpre).1;have hc:l.pre.holds [] { args:=args }=true:=(pre_splitW hpre).2;obtain⟨d,r,rfl,h1,h2⟩:=hasAllW_cons hsh;obtain rfl:=hasAllW_nil h2;obtain⟨xs,rfl,h3⟩:=hasW_list h1;obtain⟨ns,rfl⟩:=items_int h3
 have hlen:ns.length<=n:=by
  unfold OpenLaw.pre at hc
  have h4:(WTm.not (.lt (.lit (.int (n:Int))) (.len (.arg 0)))).holds [] { args:=[.list (ns.map .int)] }=true:=by
   have h4:=(holds_andW hc).1;grind
  have h5:=condW_of h4 (w_not (w_lt w_lit (w_len_list (w_arg rfl))));grind
 cases hwl with
 | cons w1 w2=>
   cases w2
   cases w1 with
   | list ho hall=>exact⟨_,_,ns,rfl,rfl,ho,Ylm ns _ hall,hlen⟩
theorem Yz0(l:OpenLaw)(args:List WData):l.row.toRowW.claim.post args (.bool true) args=true:=
 postW_of (r:=l.row.toRowW) (X:=(true==true))
  (show WShape.has [] (.bool true) .bool=true by first|rfl|decide|simp[WShape.has,WShape.arms,WShape.armsAll])
  (show(WTm.eq .res (.lit (.bool true))).value [] { args:=args,res:=some (.bool true),after:=args }=some (.bool (true==true)) from w_eq_bool (w_res rfl) w_lit) rfl
def attach_call{l:OpenLaw}(hn:l.most=some n)(hdf:d.params.defaults=[])(call:∀(w:World) (s₀ s₁:Shared) (mg mb:AE) (fa:Addr) (o:Obj) (pm cd doc:Value) (a:Addr) (vs:AD) (ns:AH),
  Ground q loose [] XP w s₀ mg mb s₁.heap->YP w s₁.heap->
  s₁.heap.get? fa=some o->o.data=.func (docDef d.name d.params d.body d.scope pm cd doc)->s₁.heap.CodeRec cd d.name->mg d.name=some (.ref fa)->
  s₁.heap.get? a=some { cls:=.type "list",data:=.seq vs.toArray }->IntsAre vs ns->ns.length<=n->s₁.gens=#[]->
  codeAny (model l.prog w) callerA (.call (.ref fa) ⟨[.ref a],[]⟩) (λr s'=>r=.ok (.ret (.bool true))/\OldK s₁.heap s'.heap/\s'.os=s₁.os/\AllBare s'.gens) s₁):
 WalkO q loose XP YP l.row.toRowW d [] (λf vs=>PySem.call f vs):=by
 intro w s₀ s₁ mg mb G Y fa o pm cd doc dV kV ho hd hcd hD hmg hg args vals as hpre hlay hrd hwl hlo;obtain rfl:dV=.none:=Dflts.none hD hdf;obtain rfl:kV=.none:=Dflts.noKw hD;obtain⟨a,vs,ns,rfl,rfl,hobj,hints,hlen⟩:=Yzz hn hpre hwl;refine enter_call (codeAny_mono (call w s₀ s₁ mg mb fa o pm cd doc a vs ns G Y ho (fd_plain hd) hcd hmg hobj hints hlen hg) λr s' hq=>?_);obtain⟨rfl,h2,h3,h4⟩:=hq;exact⟨.inl ⟨.bool true,.bool true,[],rfl,λ_=>rfl,.bool true,Yz0 l _,λ_=>⟨List.Pairwise.nil,λ_ hm=>(nomatch hm)⟩⟩,h2,h3,h4⟩
end Att
namespace L2
open PySem PySem.Spec PyProof.Rows
theorem Ygb:∀{vs:AD}{ns:AH},IntsAre vs ns->Vals (ns.map V.int) vs
 | _,_,.nil=>.nil
 | _,_,.cons n t h=>.cons ⟨t,rfl⟩ (Ygb h)
def Only(H:Hp):Prop:=∀b,H b=none\/∃o xs,H b=some (.frz o (.lst xs))
theorem y4i{K:W.Frag}(KX:K.In s₁.heap)(hns:s₁.heap.Ns mainGlobals mg)(hb:s₁.heap.Ns builtinsNs mb)(hbb:∀x:Str,x≠"__name__"->mb x=bootBuiltins x)(hlim:s₁.heap.NoLimit)(hg:s₁.gens=#[])(ha:s₁.heap.get? a=some { cls:=.type "list",data:=.seq vs.toArray })(hi:IntsAre vs ns)(hl:ns.length<=sizeLine)(hr:Room k callerA)(F:∀base:Heap,K.In base->base.Ns mainGlobals mg->FnOk P w K mg base CX k fa fd [x] sp)(hbind:∀(s:Shared) (u:Value),BindsTo s fd ⟨[u],[]⟩ [(x,u)])(hsp:∀H:Hp,Only H->SqL K H a (ns.map V.int)->sp [.ref a] H (λv _=>v=.bl true) λ_ _ _=>False)(hCX:∀H e s',CX [] H s₁ (λ_ _ _=>False) e s'->False):
 codeAny (model P w) callerA (.call (.ref fa) ⟨[.ref a],[]⟩) (λr s'=>r=.ok (.ret (.bool true))/\OldK s₁.heap s'.heap/\s'.os=s₁.os/\AllBare s'.gens) s₁:=by
 have rv:=Ygb hi;have lenV:=hi.length
 have core:∀H:Hp,Only H->SqL K H a (ns.map V.int)->HOk P w H s₁.heap->(∀b,H b≠none->b=a)->(H a≠none->K.lookup a=none)->
  codeAny (model P w) callerA (.call (.ref fa) ⟨[.ref a],[]⟩) (λr s'=>r=.ok (.ret (.bool true))/\OldK s₁.heap s'.heap/\s'.os=s₁.os/\AllBare s'.gens) s₁:=by
  intro H hO hS hok hA hK;have base_of:∀{b:Addr}{o:Obj},s₁.heap.get? b=some o->H b=none->(hidT s₁.heap H).get? b=some o:=λe n=>y33 e n
  have noA:∀{b:Addr}{o:Obj}{es:Array DictEntry}{ep:Nat},s₁.heap.get? b=some o->o.data=.dict es ep->H b=none:=λ{b o es ep} e d=>by
   grind
  have nsK:∀{b:Addr}{m:AE},s₁.heap.Ns b m->(hidT s₁.heap H).Ns b m:=λ{b m} ⟨o,es,ep,e,d,r⟩=>⟨o,es,ep,base_of e (noA e d),d,r⟩
  have hKb:K.In (hidT s₁.heap H):=λb o e=>base_of (KX b o e) (by
   grind)
  have hM:Mod K mg (hidT s₁.heap H):=⟨hKb,nsK hns,⟨mb,nsK hb,hbb⟩,let ⟨mc,h1,h2⟩:=hlim;⟨mc,nsK h1,h2⟩⟩
  have e0:Env0 P w K mg (hidT s₁.heap H) callerA [] s₁ H:=⟨rfl,hM,λb o e=>y7t e,Nat.le_of_eq (Yzh _ _),trivial,λb hb=>absurd (show b∈([]:List Addr) from hb) (by simp),hok,.of_eq hg⟩
  refine codeAny_mono ((F _ hKb (nsK hns)).run callerA [] s₁ H ⟨[.ref a],[]⟩ [.ref a] [.ref a] _ _ hr e0 (hbind s₁ (.ref a)) (.cons rfl .nil) (hsp H hO hS)) λr s' h=>?_
  cases r with
  | error e=>exact(hCX H e s' h).elim
  | ok fl=>
    cases fl with
    | next=>exact False.elim h
    | brk=>exact False.elim h
    | cont=>exact False.elim h
    | ret u=>
      obtain⟨v,H',os,bare,un,hok',r',q⟩:=h;have q':v=.bl true:=q;subst q';obtain rfl:u=Value.bool true:=r';refine⟨rfl,OldK.of_keep λb o e=>?_,os,bare⟩
      cases q:H b with
      | none=>exact un.keep b o e q (by intro z;exact absurd (show b∈([]:List Addr) from z) (by simp)) (by simp)
      | some u=>
        rcases hO b with z|⟨ob,xs,z⟩
        ·grind
        ·have z2:=un.frzs b ob _ z
         obtain⟨e1,_⟩:=hok b _ z;obtain⟨e2,_⟩:=hok' b _ z2;grind
 cases hk:K.lookup a with
 | some o=>
   have e:=KX a o hk;rw[ha]at e;cases e;refine core (λ_=>none) (λ_=>.inl rfl) (.inr ⟨_,vs.toArray,_,hk,rfl,rfl,rfl,by grind,by grind⟩) (λb u z=>by grind) (λb z=>absurd rfl z) λz=>absurd rfl z
 | none=>
   refine core (λb=>if b=a then some (.frz { cls:=.type "list",data:=.seq vs.toArray } (.lst (ns.map V.int)))else none) (λb=>?_) (.inl (.inr ⟨{ cls:=.type "list",data:=.seq vs.toArray },if_pos rfl⟩)) (λb u z=>?_) (λb z=>?_) λ_=>hk
   ·grind
   ·by_cases hb:b=a
    ·have z':=(if_pos hb).symm.trans z
     cases z';subst hb;exact⟨ha,by grind,vs,_,rv,ha⟩
    grind
   grind
def walk_of{l:W.OpenLaw}{K:Params->W.Frag}{CX:World->CXT}{sp:World->Sp}(hn:l.most=some n)(hn2:n<=sizeLine)(hdf:d.params.defaults=[])(hr:Room k callerA)(hY:∀(w:World) (h:Heap),YP w h->(K w.params).In h)(F:∀(w:World) (mg:AE) (fa:Addr) (h:Heap),(K w.params).In h->h.Ns mainGlobals mg->mg d.name=some (.ref fa)->
  ∃fd:FuncData,(∀(s:Shared) (u:Value),BindsTo s fd ⟨[u],[]⟩ [(x,u)])/\
   ∀base:Heap,(K w.params).In base->base.Ns mainGlobals mg->FnOk l.prog w (K w.params) mg base (CX w) k fa fd [x] (sp w))(hsp:∀(w:World) (H:Hp) (a:Addr) (ns:AH),ns.length<=n->Only H->SqL (K w.params) H a (ns.map V.int)->sp w [.ref a] H (λv _=>v=.bl true) λ_ _ _=>False)(hCX:∀(w:World) (H:Hp) (s:Shared) (e:Value) (s':Shared),CX w [] H s (λ_ _ _=>False) e s'->False):
 W.WalkO q loose XP YP l.row.toRowW d [] (λf vs=>PySem.call f vs):=by
 refine Att.attach_call hn hdf λw s₀ s₁ mg mb fa o pm cd doc a vs ns G Y ho hd hcd hmg hobj hints hlen hg=>?_;have KX:=hY w _ Y;obtain⟨fd,hb,hF⟩:=F w mg fa _ KX G.T.g hmg;exact y4i KX G.T.g G.T.b G.T.builtins G.T.nolimit hg hobj hints (Qg hlen hn2) hr hF hb (λH hO hS=>hsp w H a ns hlen hO hS) λH e s'=>hCX w H s₁ e s'
def defArgs(s:Stmt):Arguments:=match s with
 | .FunctionDef _ a _ _ _ _ _ _ _ _=>a
 | _=>{ posonlyargs:=[],args:=[],vararg:=none,kwonlyargs:=[],kw_defaults:=[],kwarg:=none,defaults:=[] }
def defBody(s:Stmt):List Stmt:=match s with
 | .FunctionDef _ _ b _ _ _ _ _ _ _=>b
 | _=>[]
def defScope(s:Stmt):Scope:=match s with
 | .FunctionDef _ _ _ _ _ _ sc _ _ _=>sc
 | _=>{ kind:=.function,names:=[],isGenerator:=false,isCoroutine:=false }
abbrev CX0:CXT:=λ_ _ _ _ _ _=>False
abbrev E0:XK:=λ_ _ _=>False
def Yafj:Yzq CX0 X E0:=λ_ _ _ _ _ _ _ h=>h.elim
structure Fun(K:W.Frag)(x qual:Str)(st:Stmt)(f:Addr)(fd:FuncData):Prop where
 ex:∃(oc:Value) (od:Option Addr) (kV doc pm:Value) (an:Option Addr) (cdv ct:Value) (osl:Array (Option Value)),
  fd=W.fnOf x qual (defArgs st) (defBody st) (defScope st) .none kV doc pm an cdv ct/\K.lookup f=some ⟨oc,od,.func fd,osl⟩/\W.codeIn K cdv qual=true
 kp:W.keepIn K (.ref f)=true
section
variable {P:Program}{w:World}{K:W.Frag}{mg:AE}{base:Heap}
def Fun.ok{st:Stmt}(F:Fun K x qual st f fd)(S:FnScope N ps (defScope st))(len:∀vs H Q E,sp vs H Q E->vs.length=ps.length)(hbody:∀(cdv:Value) (A:Around) (outer:List Env) (s:Shared) (H:Hp) (vs:AQ) (Q:VK) (E:XK),Room k (A.deeper (envOfC qual (defScope st) (~~~s) f cdv))->sp vs H Q E->
  ∃t,PSs (cxOf CX0 P w K mg base N qual (defScope st) f cdv A outer s H E).nox (defBody st) t/\t { nx:=λ_ H'=>Q .non H',rt:=Q } (start N vs) H):FnOk P w K mg base CX0 (k+1) f fd ps sp:=by
 obtain⟨oc,od,kV,doc,pm,an,cdv,ct,osl,rfl,lk,hcd⟩:=F.ex;refine Yabr lk hcd S len λA outer s H vs Q E hr hsp=>?_;obtain⟨t,h,q⟩:=hbody cdv A outer s H vs Q E hr hsp;exact⟨t,h.nox,q⟩
def Fun.binds{st:Stmt}(F:Fun K x qual st f fd)(h:∀(kV doc pm:Value) (an:Option Addr) (cdv ct:Value) (us:AD),us.length=ps.length->bindArgs (W.fnOf x qual (defArgs st) (defBody st) (defScope st) .none kV doc pm an cdv ct) ⟨us,[]⟩=pure (ps.zip us)):Binds K fd ps []:=by
 obtain⟨oc,od,kV,doc,pm,an,cdv,ct,osl,rfl,lk,hcd⟩:=F.ex;exact .all (h kV doc pm an cdv ct)
def y6v{st:Stmt}{kV doc pm cdv ct:Value}(l:K.lookup f=some ⟨oc,od,.func (W.fnOf x qual (defArgs st) (defBody st) (defScope st) .none kV doc pm an cdv ct),osl⟩)(c:W.codeIn K cdv qual=true)(k:W.keepIn K (.ref f)=true):Fun K x qual st f (W.fnOf x qual (defArgs st) (defBody st) (defScope st) .none kV doc pm an cdv ct):=⟨⟨oc,od,kV,doc,pm,an,cdv,ct,osl,rfl,l,c⟩,k⟩
end
def Same(H H':Hp):Prop:=∀b o,H b=some o->H' b=some o
def Same.refl(H:Hp):Same H H:=λ_ _ h=>h
def Same.trans(a:Same H H1)(b:Same H1 H2):Same H H2:=λc o h=>b c o (a c o h)
def Same.free(e:Same H H')(h:H' l=Option.none):H l=Option.none:=by
 cases q:H l with
 | none=>rfl
 | some o=>
   rw[e l o q]at h;cases h
def Same.seq{K:W.Frag}(e:Same H H')(h:SqL K H a xs):SqL K H' a xs:=by
 rcases h with(h|⟨o,h⟩)|h
 ·exact .inl (.inl (e _ _ h))
 ·exact .inl (.inr ⟨o,e _ _ h⟩)
 ·exact .inr h
def clOf(env:Env):List (Str×NameKind)->List (Str×Addr)->List (Str×Addr)
 | [],cs=>cs
 | (n,k)::r,cs=>if (k==NameKind.free)=true then (match env.cells.lookup n with|some c=>clOf env r ((n,c)::cs)|none=>clOf env r cs)else clOf env r cs
theorem Ygc(h:∀x∈scope.names,x.2=NameKind.free->∃c,env.cells.lookup x.1=some c):closureFor scope env=pure (clOf env scope.names []):=by
 have key:∀(l:List (Str×NameKind)) (cs:List (Str×Addr)),(∀x∈l,x.2=NameKind.free->∃c,env.cells.lookup x.1=some c)->
  (forIn l cs fun(x:Str×NameKind) (r:List (Str×Addr))=>if (x.2==NameKind.free)=true then (do let c <-cellOf env x.1;pure (ForInStep.yield ((x.1,c)::r)))else pure (ForInStep.yield r))=(pure (clOf env l cs):Sem (List (Str×Addr))):=by
  intro l
  induction l with
  | nil=>intro cs _;rfl
  | cons x l ih=>
    intro cs hl;obtain⟨n,k⟩:=x;have ht:=λy hy=>hl y (qg _ hy);rw[List.forIn_cons];by_cases hk:k=NameKind.free
    ·subst hk
     obtain⟨c,hc⟩:=hl (n,NameKind.free) qh rfl;have hc':env.cells.lookup n=some c:=hc
     have e1:cellOf env n=pure c:=by unfold cellOf;rw[hc']
     have hff:(NameKind.free==NameKind.free)=true:=rfl;show(if (NameKind.free==NameKind.free)=true then (do let c <-cellOf env n;pure (ForInStep.yield ((n,c)::cs)))else pure (ForInStep.yield cs))>>=_=_;rw[if_pos hff,e1,pure_bind,pure_bind];show forIn l ((n,c)::cs) _=_;rw[ih _ ht];show _=pure (if (NameKind.free==NameKind.free)=true then (match env.cells.lookup n with|some c=>clOf env l ((n,c)::cs)|none=>clOf env l cs)else clOf env l cs);grind
    ·have hb:(k==NameKind.free)=false:=by grind
     show(if (k==NameKind.free)=true then _ else pure (ForInStep.yield cs))>>=_=_;rw[if_neg (by grind),pure_bind];show forIn l cs _=_;rw[ih _ ht];show _=pure (if (k==NameKind.free)=true then (match env.cells.lookup n with|some c=>clOf env l ((n,c)::cs)|none=>clOf env l cs)else clOf env l cs);grind
 have:=key scope.names [] h;unfold closureFor;grind
theorem Yk4:∀(l:List (Str×NameKind)) (cs:List (Str×Addr)),(∀x c,(x,c)∈cs->env.cells.lookup x=some c)->∀x c,(x,c)∈clOf env l cs->env.cells.lookup x=some c
 | [],cs,h,x,c,e=>h x c e
 | (n,k)::r,cs,h,x,c,e=>by
   unfold clOf at e
   split at e
   ·split at e
    ·rename_i d hd
     refine Yk4 r _ (λy b hy=>?_) x c e;grind
    ·exact Yk4 r cs h x c e
   ·exact Yk4 r cs h x c e
theorem Ygz:∀(l:List (Str×NameKind)) (cs:List (Str×Addr)) (p:Str×Addr),p∈cs->p∈clOf env l cs
 | [],_,_,h=>h
 | (n,k)::r,cs,p,h=>by
   unfold clOf
   split
   ·split
    ·exact Ygz r _ p (qg _ h)
    ·exact Ygz r _ p h
   ·exact Ygz r _ p h
theorem Yii:∀(l:List (Str×NameKind)) (cs:List (Str×Addr)) (x:Str) (c:Addr),(x,NameKind.free)∈l->env.cells.lookup x=some c->(x,c)∈clOf env l cs
 | (n,k)::r,cs,x,c,h,hc=>by
   rcases qt h with q|q
   ·cases q
    unfold clOf;rw[if_pos (show(NameKind.free==NameKind.free)=true from rfl),hc];exact Ygz r _ _ qh
   ·unfold clOf
    split
    ·split
     ·exact Yii r _ x c q hc
     ·exact Yii r _ x c q hc
    ·exact Yii r _ x c q hc
theorem Yij{cl:List (Str×Addr)}(h:(x,c)∈cl):∃d,cl.lookup x=some d:=by
 induction cl with
 | nil=>cases h
 | cons p r ih=>
   obtain⟨n,b⟩:=p;rw[List.lookup_cons]
   cases e:(x==n)with
   | true=>grind
   | false=>
     grind
structure CompSc(XN:AL)(xsc:Scope)(N:AL)(src:List AN)(sc:Scope):Prop where
 kind:sc.kind=.function
 xkind:xsc.kind=.function
 cellU:∀y∈sc.names,y.2=NameKind.cell->sc.names.lookup y.1=some NameKind.cell
 names:∀y∈sc.names,y.2=NameKind.local->sc.names.lookup y.1=some NameKind.local
 len:src.length=N.length
 nd:N.Nodup
 cap:∀(i j:Nat) (x:Str),N[i]?=some x->src[i]?=some (some j)->XN[j]?=some x/\sc.names.lookup x=some NameKind.free
 fr:∀y∈sc.names,y.2=NameKind.free->xsc.names.lookup y.1=some NameKind.cell\/xsc.names.lookup y.1=some NameKind.free
def capB(XN:AL)(sc:Scope):AL->List AN->Bool
 | [],[]=>true
 | x::N,none::src=>capB XN sc N src
 | x::N,some j::src=>decide (XN[j]?=some x)&&decide (sc.names.lookup x=some NameKind.free)&&capB XN sc N src
 | _,_=>false
theorem Yo8:∀{N:AL}{src:List AN},capB XN sc N src=true->src.length=N.length
 | [],[],_=>rfl
 | _::N,none::src,h=>by
   have:=Yo8 (N:=N) (src:=src) h;simp[this]
 | _::N,some j::src,h=>by
   replace h:(decide (XN[j]?=some _)&&decide (sc.names.lookup _=some NameKind.free)&&capB XN sc N src)=true:=h;simp only[Qb]at h;have:=Yo8 (N:=N) (src:=src) h.2;simp[this]
 | [],_::_,h=>Bool.noConfusion h
 | _::_,[],h=>Bool.noConfusion h
theorem Yo9:∀{N:AL}{src:List AN},capB XN sc N src=true->∀(i j:Nat) (x:Str),N[i]?=some x->src[i]?=some (some j)->XN[j]?=some x/\sc.names.lookup x=some NameKind.free
 | [],[],_,i,j,x,h,_=>by simp at h
 | _::N,none::src,h,i,j,x,h1,h2=>by
   cases i with
   | zero=>simp at h2
   | succ i=>exact Yo9 (N:=N) (src:=src) h i j x (by simpa using h1) (by simpa using h2)
 | y::N,some k::src,h,i,j,x,h1,h2=>by
   replace h:(decide (XN[k]?=some y)&&decide (sc.names.lookup y=some NameKind.free)&&capB XN sc N src)=true:=h;simp only[Qb,wm]at h
   cases i with
   | zero=>
     simp at h1 h2;subst h1;subst h2;exact h.1
   | succ i=>exact Yo9 (N:=N) (src:=src) h.2 i j x (by simpa using h1) (by simpa using h2)
 | [],_::_,h,_,_,_,_,_=>Bool.noConfusion h
 | _::_,[],h,_,_,_,_,_=>Bool.noConfusion h
def Yab4(XN:AL)(xsc:Scope)(N:AL)(src:List AN)(sc:Scope):Bool:=
 decide (sc.kind=.function)&&decide (xsc.kind=.function)&&sc.names.all (λy=>decide (y.2=NameKind.cell->sc.names.lookup y.1=some NameKind.cell))&&sc.names.all (λy=>decide (y.2=NameKind.local->sc.names.lookup y.1=some NameKind.local))&&
  decide N.Nodup&&capB XN sc N src&&sc.names.all (λy=>decide (y.2=NameKind.free->xsc.names.lookup y.1=some NameKind.cell\/xsc.names.lookup y.1=some NameKind.free))
def Yad(h:Yab4 XN xsc N src sc=true):CompSc XN xsc N src sc:=by
 unfold Yab4 at h;simp only[Qb,wm,List.all_eq_true]at h;obtain⟨⟨⟨⟨⟨⟨h1,h2⟩,h3⟩,h4⟩,h5⟩,h6⟩,h7⟩:=h;exact⟨h1,h2,h3,h4,Yo8 h6,h5,Yo9 h6,h7⟩
abbrev Ya4(X:Cx)(scope:Scope)(N:AL)(cl:List (Str×Addr))(C:Addr)(fp:List Addr)(s:Shared)(H:Hp):Cx where
 prog:=X.prog
 w:=X.w
 K:=X.K
 mg:=X.mg
 base:=X.base
 A:=X.A
 N:=N
 s₀:=s
 H₀:=H
 env:=compEnvC scope cl C X.env
 outer:=X.stack
 stack:=X.stack
 ex:=fp
 fn:=λx=>scope.names.lookup x==some NameKind.cell
 calm:=X.calm
 pn:=[]
 xe:=λ_ _=>False
def capσ(src:List AN)(σ:St):St:=src.map λo=>o.bind λj=>(σ[j]?).join
def PIfs(X:Cx)(ifs:AM)(t:TT):Prop:=
 ∀(pins:AC) (s:Shared) (σ:St) (H:Hp) (Q:Bool->Hp->Prop),Inv X pins σ H s->t σ H Q->
  wpAny (model X.prog X.w) X.A (forIn ifs true λc r=>if r=true then do let ok <-isTrue c X.env (eval c X.env);pure (ForInStep.yield ok)else pure (ForInStep.yield r)) (TP X pins σ Q) X.xe s
def tYes:TT:=λ_ H Q=>Q true H
def y8d:PIfs X [] tYes:=λ_ _ _ H _ I h=>wpAny_tests_nil ⟨H,I,h⟩
def tLC(wi:TI)(src:List AN)(g:TG)(ti:TT)(te:TE):TE:=λσ H Q=>wi σ H λJ H1=>∀p,H1 p=none->
 ∃W:Nat->Nat->St->Hp->Prop,(∃m,W 0 m (capσ src σ) (upd H1 p (.lst [])))/\∀i m σ1 H2,W i m σ1 H2->
  (J.stop i H2/\Q (.ref p) H2)\/
  (J.go i H2/\∀x H3,J.yld i H2 x H3->g x σ1 H3 λσ4 H4=>ti σ4 H4 λb H5=>if b=true then te σ4 H5 λv H6=>∃xs,H6 p=some (.lst xs)/\xs.length<sizeLine/\∃m',m'<m/\W (i+1) m' σ4 (upd H6 p (.lst (xs++[v])))else ∃m',m'<m/\W (i+1) m' σ4 H5)
section
variable {prog:Program}{w:World}{A:Around}{R:Result->Shared->Prop}{s:Shared}{X:Cx}{elt tg iter:Expr}{ifs:AM}{scope:Scope}{pos:Pos}{wi:TI}{g:TG}{ti:TT}{te:TE}{N:AL}{src:List AN}
theorem Yhd(I:Nat->Shared->Prop)(turn:∀n s,I n s->wpAny (model prog w) A (pyNext it) (λr s₁=>match r with
  | none=>R (.ok .next) s₁
  | some v=>wpAny (model prog w) A (letOwnedTupleGo target it v) (λ_ s₁=>wpAny (model prog w) A (assign target env v) (λ_ s₂=>
   wpAny (model prog w) A (forIn ifs true λc r=>if r=true then do let ok <-isTrue c env (eval c env);pure (ForInStep.yield ok)else pure (ForInStep.yield r)) (λok s₃=>
    if ok=true then wpAny (model prog w) A (eval elt env) (λx s₄=>
     wpAny (model prog w) A (call (.builtin "list.append") [acc,x]) (λ_ s₅=>∃m,m<n/\I m s₅) (notedBy (model prog w) A env λe s'=>R (.error e) s') s₄) (notedBy (model prog w) A env λe s'=>R (.error e) s') s₃
    else ∃m,m<n/\I m s₃) (notedBy (model prog w) A env λe s'=>R (.error e) s') s₂) (notedBy (model prog w) A env λe s'=>R (.error e) s') s₁) (notedBy (model prog w) A env λe s'=>R (.error e) s') s₁) (notedBy (model prog w) A env λe s'=>R (.error e) s') s)(n:Nat)(h:I n s):
 codeAny (model prog w) A (.compLoop (.ListComp elt [⟨target,iter,ifs,0⟩] scope pos) 0 it acc env) R s:=by
 refine codeAny_loop rfl I (λn s hI=>?_) n h;show wpAny _ A ((compTurn (.ListComp elt [⟨target,iter,ifs,0⟩] scope pos) 0 it acc env).onRaise (λx=>do noteFrame x env;theTreesLotGoes x)) _ _ s;refine wpAny_noted ?_;rw[compTurn_list];refine wa (wpAny_standAt (wa (w5 (turn n s hI) (λr s₁ h₁=>?_) λ_ _ h'=>h')))
 cases r with
 | none=>exact wb h₁
 | some v=>
   refine wa (w5 h₁ (λ_ s₁ h₁=>?_) λ_ _ h'=>h');refine wa (w5 h₁ (λ_ s₂ h₂=>wa (w5 h₂ (λok s₃ h₃=>?_) λ_ _ h'=>h')) λ_ _ h'=>h')
   cases ok with
   | false=>exact wb ⟨rfl,h₃⟩
   | true=>
     exact wa (wa (w5 h₃ (λx s₄ h₄=>wa (w5 h₄ (λ_ s₅ h₅=>wb (wb ⟨rfl,h₅⟩)) λ_ _ h'=>h')) λ_ _ h'=>h'))
theorem Yhw(h:scope.names.lookup x=some NameKind.free)(hk:env.kindOf x=some NameKind.cell\/env.kindOf x=some NameKind.free):
 (relabel scope env).names.lookup x=some NameKind.cell\/(relabel scope env).names.lookup x=some NameKind.free:=by
 unfold relabel;show List.lookup x (scope.names.map _)=_\/List.lookup x (scope.names.map _)=_;generalize scope.names=l at h
 induction l with
 | nil=>cases h
 | cons p r ih=>
   grind
theorem Yln(h:(relabel scope env).names.lookup x=some NameKind.cell\/(relabel scope env).names.lookup x=some NameKind.free):
 (x,NameKind.free)∈scope.names\/(x,NameKind.cell)∈scope.names:=by
 unfold relabel at h
 change List.lookup x (scope.names.map _)=_\/List.lookup x (scope.names.map _)=_ at h
 revert h
 generalize scope.names=l;intro h
 induction l with
 | nil=>grind
 | cons p r ih=>
   grind
theorem Yck:∀(names:List (Str×NameKind)) (n:Nat) (acc:List (Str×Addr)),cellsFrom n names acc=cellsFrom n names []++acc
 | [],_,_=>rfl
 | (x,k)::r,n,acc=>by
   unfold cellsFrom
   split
   ·rw[Yck r (n+1) ((x,n)::acc),Yck r (n+1) [(x,n)],jc];rfl
   ·exact Yck r n acc
theorem Yfm:∀(names:List (Str×NameKind)) (n:Nat) (x:Str) (c:Addr),(x,c)∈cellsFrom n names []->(x,NameKind.cell)∈names
 | [],_,_,_,h=>(nomatch h)
 | (y,k)::r,n,x,c,h=>by
   unfold cellsFrom at h
   split at h
   ·rename_i hk
    rw[Yck]at h;rcases qv h with h|h
    ·exact qg _ (Yfm r _ x c h)
    grind
   ·exact qg _ (Yfm r n x c h)
theorem Yob{own cl:List (Str×Addr)}:(own++cl).lookup x=(own.lookup x).or (cl.lookup x):=by grind
theorem Ybd{own cl:List (Str×Addr)}(h:(own++cl).lookup x=some c):own.lookup x=some c\/(own.lookup x=none/\cl.lookup x=some c):=by
 rw[Yob]at h
 simp_all
theorem Yt4(h:Q (newEnv scope (~~~s) globals (cellsFrom (~~~s+1) scope.names []++cl) qual none .none (some outer) bt) { s with heap:=pushCells (s.heap.push { cls:=.type "dict",data:=.dict #[] }) scope.names }):
 wpAny M A (newFunctionEnv scope globals cl [] qual none .none (some outer) bt) Q E s:=by
 simp only[newFunctionEnv,Option.isSome_some,if_true];refine wa (wpAny_alloc ?_);refine wa (wpAny_layCells _ (λname kind cells=>by grind) _ _ _ _ ?_);rw[show({ s with heap:=s.heap.push { cls:=.type "dict",data:=.dict #[] } }:Shared).heap.objs.size= ~~~s+1 from ww ..,Yck];rw[List.forIn_nil];exact wa (wb (wb h))
theorem Yxv{σ:St}(S:CompSc X.N X.env.scope N src scope)(I:Inv X pins σ H s)(hf:∀b∈fp,FpOk X pins H b)(ho:∀b∈fp,∃o,s.heap.get? b=some o)(hn:h₁.Ns (~~~s) λ_=>none)(hk:∀b o,s.heap.get? b=some o->h₁.get? b=some o)(hc:CellsOk h₁ (~~~s+1) own)(ow:∀x c,(x,c)∈own->(x,NameKind.cell)∈scope.names)(has:∀x,scope.names.lookup x=some NameKind.cell->∃c,own.lookup x=some c):
 Inv (Ya4 X scope N (own++clOf X.env scope.names []) (~~~s) fp s H) [] (capσ src σ) H { s with heap:=h₁,toks:=tk }:=by
 have sub:∀x c,(clOf X.env scope.names []).lookup x=some c->X.env.cells.lookup x=some c:=λx c e=>Yk4 scope.names [] (λ_ _ z=>nomatch z) x c (PySem.mem_of_lookup e)
 have clt:∀x c,(clOf X.env scope.names []).lookup x=some c->c< ~~~s:=λx c e=>by
  obtain⟨v,q⟩:=I.cell x c (sub x c e);exact q.lt
 have owl:∀x c,own.lookup x=some c->(~~~s)<c:=λx c e=>(hc.empty x c (PySem.mem_of_lookup e)).2
 have nofree:∀x,scope.names.lookup x=some NameKind.free->own.lookup x=none:=λx hx=>by
  cases e:own.lookup x with
  | none=>rfl
  | some c=>
    have:=S.cellU _ (ow x c (PySem.mem_of_lookup e)) rfl;grind
 have fpl:∀b∈fp,b< ~~~s:=λb hb=>by
  obtain⟨o,e⟩:=ho b hb;exact ql e
 have nfs:∀b∈fp,b∉frs X.stack:=λb hb z=>by
  rcases qt (I.stkSub b z)with e|e
  ·exact(hf b hb).2.1 e
  ·exact(hf b hb).2.2.1 e
 refine⟨⟨I.ok.mod,S.kind,I.ok.glob,I.ok.blt,qu _,λx y c h1 h2=>?_,λx hx=>?_,λx c z e=>?_,I.ok.hd,I.ok.frames,.inl rfl,λb hb=>⟨qm (fpl b hb),λx c e=>?_⟩,
  I.bs,Qg I.ok.bsz I.sz,λb o e hb=>?_,nfs,I.stack,I.stkFree⟩,rfl,I.bare,Un.kept hk,⟨_,hn,λi x v h1 h2 h3=>?_⟩,λx c e=>?_,I.fresh,λx c e=>?_,λp hp=>(nomatch hp),I.hok.kept hk,?_⟩
 ·rcases Ybd h1 with h1|⟨_,h1⟩
  ·rcases Ybd h2 with h2|⟨_,h2⟩
   ·exact name_of_addr hc.apart (PySem.mem_of_lookup h1) (PySem.mem_of_lookup h2)
   grind
  ·rcases Ybd h2 with h2|⟨_,h2⟩
   ·grind
   ·exact I.ok.inj x y c (sub x c h1) (sub y c h2)
 ·show ∃c,(own++clOf X.env scope.names []).lookup x=some c
  rw[Yob]
  cases e:own.lookup x with
  | some c=>grind
  | none=>
    rcases Yln hx with hm|hm
    ·obtain⟨c,hc⟩:=I.ok.has x (S.fr _ hm rfl)
     exact Yij (Yii scope.names [] x c hm hc)
    ·obtain⟨c,hc⟩:=has x (S.cellU _ hm rfl)
     grind
 ·have z':scope.names.lookup x=some NameKind.cell:=by simpa using z
  obtain⟨d,hd⟩:=has x z';rcases Ybd e with e|⟨e,_⟩
  ·grind
  grind
 ·rcases Ybd e with e|⟨_,e⟩
  ·grind
  ·exact(hf b hb).2.2.2.2.1 x c (sub x c e)
 ·rcases(hf b hb).2.2.2.1 with z|z
  ·exact I.ok.noex b o e z
  ·exact absurd (Qc (ql e) (Qg I.ok.bsz z)) (Nat.lt_irrefl _)
 ·have hi:i<src.length:=by
   have:=(qo h2).1;unfold capσ at this;grind
  have hs:src[i]?=some src[i]:=qq hi;unfold capσ at h2;rw[Qh,hs]at h2;have h2':(src[i].bind λj=>(σ[j]?).join)=some v:=w6 h2;cases q:src[i]with
  | none=>grind
  | some j=>
    rw[q]at h2' hs;have h2'':(σ[j]?).join=some v:=h2';obtain⟨hx,hfr⟩:=S.cap i j x h1 hs;obtain⟨m,_,hl⟩:=I.loc;have hk2:X.env.kindOf x=some NameKind.cell\/X.env.kindOf x=some NameKind.free:=S.fr (x,NameKind.free) (PySem.mem_of_lookup hfr) rfl
    have hσ:σ[j]?=some (some v):=by
     grind
    obtain⟨u,r,l⟩:=hl j x v hx hσ (.inr hk2);refine⟨u,r,.inr ⟨Yhw hfr hk2,?_⟩⟩;rcases l with⟨z,_⟩|⟨_,c,hc,hcell⟩
    ·grind
    ·obtain⟨d,hd⟩:=Yij (Yii (env:=X.env) scope.names [] x c (PySem.mem_of_lookup hfr) hc)
     have e2:=sub x d hd;rw[hc]at e2;cases e2;refine⟨c,?_,hcell.keeps hk⟩;show(own++clOf X.env scope.names []).lookup x=some c;grind
 ·rcases Ybd e with e|⟨_,e⟩
  ·exact⟨_,(hc.empty x c (PySem.mem_of_lookup e)).1⟩
  ·obtain⟨v,q⟩:=I.cell x c (sub x c e)
   exact⟨v,q.keeps hk⟩
 ·rcases Ybd e with e|⟨_,e⟩
  ·exact I.hok.fresh (Nat.le_of_lt (owl x c e))
  ·exact I.freeC x c (sub x c e)
 ·unfold capσ
  rw[qf];exact S.len
def y4j{σ σ1:St}(I:Inv X pins σ H s)(hf:∀b∈fp,FpOk X pins H b)(J:Inv (Ya4 X scope N cl C fp s H) pn σ1 H' s'):Inv X pins σ H' s':=
 I.call' J.os J.base J.hok J.bare λb hb=>⟨(hf b hb).2.2.2.1,(hf b hb).2.1,(hf b hb).2.2.2.2.1,(hf b hb).2.2.2.2.2⟩
theorem Yrc{σ:St}{Q:VK}{R:Value->Addr->Result->Shared->Prop}(S:CompSc X.N X.env.scope N src scope)(hc:X.calm=true)(hg:∀cl C fp s H,PG (Ya4 X scope N cl C fp s H) tg g)(hi:∀cl C fp s H,PIfs (Ya4 X scope N cl C fp s H) ifs ti)(he:∀cl C fp s H,PE (Ya4 X scope N cl C fp s H) elt te)(I:Inv X pins σ H s)(T:Turn X.prog X.w X.K tg J fp it tn)(st:tn 0 s.heap)(hf:∀b∈fp,FpOk X pins H b)(h:∀p,H p=none->∃W:Nat->Nat->St->Hp->Prop,(∃m,W 0 m (capσ src σ) (upd H p (.lst [])))/\∀i m σ1 H2,W i m σ1 H2->
  (J.stop i H2/\Q (.ref p) H2)\/
  (J.go i H2/\∀x H3,J.yld i H2 x H3->g x σ1 H3 λσ4 H4=>ti σ4 H4 λb H5=>if b=true then te σ4 H5 λv H6=>∃xs,H6 p=some (.lst xs)/\xs.length<sizeLine/\∃m',m'<m/\W (i+1) m' σ4 (upd H6 p (.lst (xs++[v])))else ∃m',m'<m/\W (i+1) m' σ4 H5))(hR:∀(D C:Addr) (s':Shared) (H':Hp) (m:AE),Inv X pins σ H' s'->s'.heap.Ns C m->H' C=none->C≠X.env.locals->X.s₀.heap.objs.size<=C->(∀x c,X.env.cells.lookup x=some c->c≠C)->(∀p∈X.pn++pins,p.1≠C)->Q (.ref D) H'->R (.ref D) C (.ok .next) s'):
 wpAny (model X.prog X.w) X.A (newList []) (λacc s₃=>wpAny (model X.prog X.w) X.A (newFunctionEnv scope X.env.globals (clOf X.env scope.names []) [] X.env.qual none .none (some X.env)) (λcenv s₄=>
  codeAny (model X.prog X.w) X.A (.compStart (.ListComp elt [⟨tg,iter,ifs,0⟩] scope pos) 0 (.ref it) acc { cenv with scope:=relabel scope X.env }) (R acc cenv.locals) s₄) E s₃) E s:=by
 refine wg (Yt4 ?_);have hfree:H (~~~s)=none:=I.fresh;obtain⟨W,⟨m0,w0⟩,turn⟩:=h (~~~s) hfree;have I3:Inv X pins σ (upd H (~~~s) (.lst [])) { s with heap:=s.heap.push { cls:=.type "list",dict:=none,data:=.seq ([]:AD).toArray },toks:=s.toks }:=I.lnew (ys:=[]) (its:=[]) .nil (jb _);generalize hD:(~~~s)=Dd at *;generalize hH3:upd H Dd (.lst [])=H3 at *;have kp0:∀b o,s.heap.get? b=some o->(s.heap.push { cls:=.type "list",dict:=none,data:=.seq ([]:AD).toArray }).get? b=some o:=λb o e=>qe _ e
 have lt0:∀b o,s.heap.get? b=some o->b≠Dd:=λb o e=>by rw[<-hD];exact qm (ql e)
 generalize hs3:s.heap.push { cls:=.type "list",dict:=none,data:=.seq ([]:AD).toArray }=hp3 at *
 have f3:∀b∈fp,FpOk X pins H3 b:=λb hb=>by
  obtain⟨o,e,_⟩:=T.obj _ _ st b hb;refine⟨?_,(hf b hb).2⟩;rw[<-hH3,Yaa (lt0 b o e)];exact(hf b hb).1
 have ob3:∀b∈fp,∃o,hp3.get? b=some o:=λb hb=>by
  obtain⟨o,e,_⟩:=T.obj _ _ st b hb;exact⟨o,kp0 b o e⟩
 dsimp only;have hns₁:(pushCells (hp3.push { cls:=.type "dict",data:=.dict #[] }) scope.names).Ns hp3.objs.size (λ_=>none):=(Heap.Ns.new hp3 (.type "dict")).keeps (pushCells_keeps _ _);have old:∀b o,hp3.get? b=some o->(pushCells (hp3.push { cls:=.type "dict",data:=.dict #[] }) scope.names).get? b=some o:=λb o e=>pushCells_keeps _ _ b o (qe _ e);have cok:=cellsFrom_ok scope.names (hp3.push { cls:=.type "dict",data:=.dict #[] }) (hp3.objs.size+1) [] ⟨λ_ _ hm=>(nomatch hm),List.Pairwise.nil⟩ (by rw[ww];exact qu _);rw[ww]at cok;have chas:∀x,scope.names.lookup x=some NameKind.cell->∃c,(cellsFrom (hp3.objs.size+1) scope.names []).lookup x=some c:=λx hx=>Option.isSome_iff_exists.mp (PySem.W.cellsFrom_some _ _ _ (.inl hx));have cmem:∀x c,(x,c)∈cellsFrom (hp3.objs.size+1) scope.names []->(x,NameKind.cell)∈scope.names:=λx c h=>Yfm _ _ x c h;generalize cellsFrom (hp3.objs.size+1) scope.names []=own,pushCells (hp3.push { cls:=.type "dict",data:=.dict #[] }) scope.names=h₁ at *
 have I4:Inv (Ya4 X scope N (own++clOf X.env scope.names []) hp3.objs.size fp { s with heap:=hp3,toks:=s.toks } H3) [] (capσ src σ) H3 { s with heap:=h₁,toks:=s.toks }:=
  Yxv (s:={ s with heap:=hp3,toks:=s.toks }) (tk:=s.toks) S I3 f3 ob3 hns₁ old cok cmem chas
 have st4:tn 0 h₁:=T.keep _ _ _ st λb _ o e=>old b o (kp0 b o e);have hCl:hp3.objs.size≠X.env.locals:=Nat.ne_of_gt I3.lt
 have hCc:∀x c,X.env.cells.lookup x=some c->c≠hp3.objs.size:=λx c e=>by
  obtain⟨v,q⟩:=I3.cell x c e;exact qm q.lt
 have hCp:∀p∈X.pn++pins,p.1≠hp3.objs.size:=λp hp=>qm (ql (I3.pin p hp).1)
 have stat:∀{H':Hp},(∀b∈fp,H' b=none)->∀b∈fp,FpOk (Ya4 X scope N (own++clOf X.env scope.names []) hp3.objs.size fp { s with heap:=hp3,toks:=s.toks } H3) [] H' b:=λ{H'} hn b hb=>by
  obtain⟨e1,e2⟩:=I4.ok.exf b hb;exact⟨hn b hb,e1,I4.ok.exfs b hb,.inl hb,e2,λp hp=>nomatch hp⟩
 have loop:codeAny (model X.prog X.w) X.A (.compLoop (.ListComp elt [⟨tg,iter,ifs,0⟩] scope pos) 0 (.ref it) (.ref Dd) (compEnvC scope (own++clOf X.env scope.names []) hp3.objs.size X.env)) (R (.ref Dd) hp3.objs.size) { s with heap:=h₁,toks:=s.toks }:=by
  refine Yhd (λn s'=>∃i σ' H',Inv (Ya4 X scope N (own++clOf X.env scope.names []) hp3.objs.size fp { s with heap:=hp3,toks:=s.toks } H3) [] σ' H' s'/\tn i s'.heap/\(∀b∈fp,H' b=none)/\W i n σ' H') ?_ m0 ⟨0,_,H3,I4,st4,λb hb=>(f3 b hb).1,w0⟩;rintro n s3 ⟨i,σ3,H3',I3',st3,fr3,w3⟩;rcases turn i n σ3 H3' w3 with⟨stop,qn⟩|⟨go,step⟩
  ·refine thn (T.done (Ya4 X scope N (own++clOf X.env scope.names []) hp3.objs.size fp { s with heap:=hp3,toks:=s.toks } H3) rfl rfl rfl hc i [] s3 σ3 H3' _ I3' (stat fr3) st3 stop) λr s4 hx_=>?_
   obtain⟨hr,I5⟩:=hx_;subst hr;obtain⟨m,hm,_⟩:=I5.loc;exact hR Dd hp3.objs.size s4 H3' m (y4j I3 f3 I5) hm I5.free hCl (Qg I3.sz (qu _)) hCc hCp qn
  ·refine thn (T.item (Ya4 X scope N (own++clOf X.env scope.names []) hp3.objs.size fp { s with heap:=hp3,toks:=s.toks } H3) rfl rfl rfl hc i [] s3 σ3 H3' _ I3' (stat fr3) st3 go) λr s4 hx_=>?_
   obtain⟨u,hr,h4⟩:=hx_;subst hr;refine thn h4 λ_ s5 hx_=>?_;obtain⟨x,H5,I5,r5,y5,st5,fr5⟩:=hx_;have I5':=I5.pinned (stat fr5) (T.obj _ _ st5);have un:∀{α:Type}{t:Sem α}{Q':α->Shared->Prop}{E':AB}{s':Shared},wpAny (model X.prog X.w) X.A t Q' (λ_ _=>False) s'->wpAny (model X.prog X.w) X.A t Q' E' s':=λh=>w5 h (λ_ _ q=>q) λ_ _ f=>f.elim;refine un (thn (hg _ _ _ _ _ _ s5 σ3 H5 x u _ I5' r5 (step x H5 y5)) λ_ s6 hx_=>?_);obtain⟨σ6,H6,I6,q6⟩:=hx_;refine un (thn (hi _ _ _ _ _ _ s6 σ6 H6 _ I6 q6) λok s7 hx_=>?_);obtain⟨H7,I7,q7⟩:=hx_
   have again:∀{H8:Hp}{s8:Shared}{m':Nat},m'<n->Inv (Ya4 X scope N (own++clOf X.env scope.names []) hp3.objs.size fp { s with heap:=hp3,toks:=s.toks } H3) ([]++Yq1 fp s5.heap) σ6 H8 s8->W (i+1) m' σ6 H8->
    ∃m,m<n/\∃i σ' H',Inv (Ya4 X scope N (own++clOf X.env scope.names []) hp3.objs.size fp { s with heap:=hp3,toks:=s.toks } H3) [] σ' H' s8/\tn i s8.heap/\(∀b∈fp,H' b=none)/\W i m σ' H':=λ{H8 s8 m'} hm I8 w8=>by
    refine⟨m',hm,i+1,σ6,H8,I8.unpinned,T.keep _ _ _ st5 λb hb o e=>(I8.pin (b,o) (Qi _ (Qi _ (Ygx hb e)))).1,λb hb=>?_,w8⟩;obtain⟨o,e,d⟩:=T.obj _ _ st5 b hb;exact(I8.pin (b,o) (Qi _ (Qi _ (Ygx hb e)))).2.1
   cases ok with
   | false=>
     rw[if_neg qi]at q7 ⊢;obtain⟨m',hm,w7⟩:=q7;exact again hm I7 w7
   | true=>
     rw[if_pos rfl]at q7 ⊢;refine un (thn (he _ _ _ _ _ _ s7 σ6 H7 _ I7 q7) λy s8 hx_=>?_);obtain⟨v,H8,I8,r8,q8⟩:=hx_;obtain⟨xs,e8,z8,m',hm,w8⟩:=q8;refine un (thn (Yrb _ s8 σ6 H8 (.ref Dd) [v] (.ref Dd) [y] (λ_ H9=>H9=upd H8 Dd (.lst (xs++[v]))) I8 rfl (.cons r8 .nil) ⟨Dd,xs,v,rfl,rfl,e8,z8,rfl⟩) λ_ s9 hx_=>?_);obtain⟨_,H9,I9,_,q9⟩:=hx_;subst q9;exact again hm I9 w8
 exact codeAny_compStart_list loop (T.self _ _ _ _ _ st4 loop)
def y8f(S:CompSc X.N X.env.scope N src scope)(hc:X.calm=true)(hit:PI X tg iter wi)(hg:∀cl C fp s H,PG (Ya4 X scope N cl C fp s H) tg g)(hi:∀cl C fp s H,PIfs (Ya4 X scope N cl C fp s H) ifs ti)(he:∀cl C fp s H,PE (Ya4 X scope N cl C fp s H) elt te)(hs:∀x,foldedSetIterable iter X.env x=pure x:=by intro _;rfl):PE X (.ListComp elt [⟨tg,iter,ifs,0⟩] scope pos) (tLC wi src g ti te):=by
 intro pins s σ H Q I h;rw[eval_ListComp];have hcl:closureFor scope X.env=pure (clOf X.env scope.names []):=Ygc λy hy hf=>I.ok.has y.1 (S.fr y hy hf);refine wpAny_comprehension_free (use:=none) rfl hs hcl S.kind S.names ?_;refine thn (hit pins s σ H _ I h) λv s1 h1=>thn h1 λitv s2 hx_=>?_;obtain⟨it,fp,tn,J,H2,e,I2,T,st2,f2,q⟩:=hx_;subst e;refine Yrc (Q:=Q) (R:=λacc C=>compPost (model X.prog X.w) X.A X.xe none (EP X pins σ Q) acc C) S hc hg hi he I2 T st2 f2 q λD C s' H' m I' hm hC hCl hCs hCc hCp hq=>?_;refine⟨m,hm,λh' sb=>?_⟩;exact⟨.ref D,H',I'.turned (t':=s'.toks) (λb o hb e=>(sb.2 b hb).trans e) hC hCl (.inr hCs) hCc hCp,rfl,hq⟩
theorem y8g{py spos:Pos}(S:CompSc X.N X.env.scope N src scope)(hc:X.calm=true)(hit:PI X tg iter wi)(hg:∀cl C fp s H,PG (Ya4 X scope N cl C fp s H) tg g)(hi:∀cl C fp s H,PIfs (Ya4 X scope N cl C fp s H) ifs ti)(he:∀cl C fp s H,PE (Ya4 X scope N cl C fp s H) elt te)(hN:X.N.Nodup)(hy:X.N[i]?=some y)(hx:Loc X.env.scope y)(hsw:swapsWith (.ListComp elt [⟨tg,iter,ifs,0⟩] scope pos) (some (.Name y py)) spos.line X.env=pure true)(hf:X.fn y=true\/X.env.scope.names.lookup y=some .local:=by trivial)(hs:∀x,foldedSetIterable iter X.env x=pure x:=by intro _;rfl):PS X (.Assign [.Name y py] (.ListComp elt [⟨tg,iter,ifs,0⟩] scope pos) spos) (tAsg (tLC wi src g ti te) (Yxn i)):=by
 intro pins s σ H D I h;rw[exec_Assign_Name_used _ _ _ _ hsw];refine wa (wpAny_standAt (wa ?_));show wpAny _ X.A (do let _ <-comprehension (.ListComp elt [⟨tg,iter,ifs,0⟩] scope pos) scope X.env _ (newList []) false (eval iter X.env) (some (assign (.Name y py) X.env))) _ _ s;have hcl:closureFor scope X.env=pure (clOf X.env scope.names []):=Ygc λy hy hf=>I.ok.has y.1 (S.fr y hy hf);refine wa (w5 (wpAny_comprehension_free (use:=some (assign (.Name y py) X.env)) (Q:=λ_ s'=>SP X pins D .next s') rfl hs hcl S.kind S.names ?_) (λ_ s' hq=>wb (wb hq)) λ_ _ e=>e);refine thn (hit pins s σ H _ I h) λv s1 h1=>thn h1 λitv s2 hx_=>?_;obtain⟨it,fp,tn,J,H2,e,I2,T,st2,f2,q⟩:=hx_;subst e;refine Yrc (Q:=λx H1=>Yxn i x σ H1 D.nx) (R:=λacc C=>compPost (model X.prog X.w) X.A X.xe (some (assign (.Name y py) X.env)) (λ_ s'=>SP X pins D .next s') acc C) S hc hg hi he I2 T st2 f2 q λDd C s' H' m I' hm hC hCl hCs hCc hCp hq=>?_;show wpAny _ X.A (assign (.Name y py) X.env (.ref Dd)) _ _ s';refine wpAny_assign_Name (Yq0 I' hN hy hx (v:=.ref Dd) rfl (λs'' I'' hsb=>?_) hf);obtain⟨a,sb,ha⟩:=hsb
 have hCa:C≠a:=by
  grind
 refine⟨m,hm.sameBut sb hCa,λh' sb'=>?_⟩;exact⟨_,H',I''.turned (t':=s''.toks) (λb o hb e=>(sb'.2 b hb).trans e) hC hCl (.inr hCs) hCc hCp,hq⟩
end
end L2
namespace M
open PySem PySem.Spec PyProof.Rows L2
section
section
def Rise(xs:Array Nat):Prop:=xs.toList.Pairwise (·<·)
theorem Ypa(hr:Rise xs)(j:Nat):∀(fuel lo hi:Nat),lo<=hi->hi<=xs.size->hi-lo<=fuel->
 (∀(i:Nat) (h:i<xs.size),i<lo->xs[i]<j)->(∀(i:Nat) (h:i<xs.size),hi<=i->j<=xs[i])->
 SetTable.below.go xs j fuel lo hi<=xs.size/\(∀(i:Nat) (h:i<xs.size),i<SetTable.below.go xs j fuel lo hi->xs[i]<j)/\(∀(i:Nat) (h:i<xs.size),SetTable.below.go xs j fuel lo hi<=i->j<=xs[i])
 | 0,lo,hi,h1,h2,h3,h4,h5=>by
   have e:lo=hi:=by lia
   subst e;rw[SetTable.below.go];exact⟨h2,h4,h5⟩
 | fuel+1,lo,hi,h1,h2,h3,h4,h5=>by
   have mono:∀(i k:Nat) (hi:i<xs.size) (hk:k<xs.size),i<k->xs[i]<xs[k]:=λi k hi hk h=>by
    have:=List.pairwise_iff_getElem.mp hr i k (by simpa using hi) (by simpa using hk) h;simpa using this
   rw[SetTable.below.go];by_cases hl:lo<hi
   ·rw[if_pos hl]
    have hm:(lo+hi)/2<xs.size:=by lia
    have hg:xs.getD ((lo+hi)/2) j=xs[(lo+hi)/2]:=by simp[Array.getD,hm]
    dsimp only;rw[hg];by_cases hlt:xs[(lo+hi)/2]<j
    ·rw[if_pos hlt]
     refine Ypa hr j fuel _ _ (by lia) h2 (by lia) (λi hi' hh=>?_) h5;by_cases e:i=(lo+hi)/2
     ·subst e;exact hlt
     ·exact Nat.lt_trans (mono i _ hi' hm (by lia)) hlt
    ·rw[if_neg hlt]
     refine Ypa hr j fuel _ _ (by lia) (by lia) (by lia) h4 (λi hi' hh=>?_);by_cases e:i=(lo+hi)/2
     ·subst e;lia
     ·have:=mono _ i hm hi' (by lia)
      lia
   ·rw[if_neg hl]
    have e:lo=hi:=by lia
    subst e;exact⟨h2,h4,h5⟩
theorem Yoc(hr:Rise xs)(j:Nat):SetTable.below xs j<=xs.size/\(∀a∈xs.toList.take (SetTable.below xs j),a<j)/\(∀a∈xs.toList.drop (SetTable.below xs j),j<=a):=by
 obtain⟨h1,h2,h3⟩:=Ypa hr j xs.size 0 xs.size (jb _) (qu _) (by lia) (λi _ h=>absurd h (Nat.not_lt_zero _)) (λi h h'=>absurd h (by lia));have e:SetTable.below xs j=SetTable.below.go xs j xs.size 0 xs.size:=rfl;rw[e];refine⟨h1,λa ha=>?_,λa ha=>?_⟩
 ·obtain⟨i,hi,rfl⟩:=List.mem_iff_getElem.mp ha
  grind
 ·obtain⟨i,hi,rfl⟩:=List.mem_iff_getElem.mp ha
  grind
def Yik(xs:Array α)(p:Nat)(x:α):(SetTable.insertAt xs p x).toList=xs.toList.take p++x::xs.toList.drop p:=by
 unfold SetTable.insertAt;simp[Array.toList_extract,List.extract_eq_drop_take];exact List.take_of_length_le (by simp)
theorem Yt5(hr:Rise xs)(j:Nat)(hn:xs[SetTable.below xs j]?≠some j):Rise (SetTable.insertAt xs (SetTable.below xs j) j):=by
 obtain⟨h1,h2,h3⟩:=Yoc hr j;unfold Rise at hr ⊢;rw[Yik];generalize hp:SetTable.below xs j=p at h1 h2 h3 hn ⊢;rw[<-Array.getElem?_toList]at hn;generalize xs.toList=l at hr h2 h3 hn ⊢;have hr2:=hr;rw[<-List.take_append_drop p l,List.pairwise_append]at hr;obtain⟨r1,r2,r3⟩:=hr
 have hgt:∀a∈l.drop p,j<a:=by
  cases hd:l.drop p with
  | nil=>grind
  | cons b r=>
    rw[hd]at r2 h3
    have hb:l[p]?=some b:=by
     have:(l.drop p)[0]?=some b:=by rw[hd];rfl
     grind
    have hjb:j<b:=Nat.lt_of_le_of_ne (h3 b qh) (λz=>hn (by rw[hb,z]));intro a ha;rcases qt ha with rfl|ha
    ·exact hjb
    ·exact Nat.lt_trans hjb ((List.pairwise_cons.mp r2).1 a ha)
 rw[List.pairwise_append]
 simp_all
theorem Yz1{t:SetTable}(h:∀i,t.slot j≠.live i):t.place[SetTable.below t.place j]?≠some j:=λz=>by
 refine h (SetTable.below t.place j) ?_;unfold SetTable.slot;grind
theorem Yjn:∀(fuel:Nat) (p:SetTable.Probe) {j:Nat}{d:AN},(∀x,p.dummy=some x->∀i,t.slot x≠.live i)->
 SetTable.probe.go t ha h fuel p=some (.empty j d)->∀i,t.slot (d.getD j)≠.live i
 | 0,p,j,d,_,e=>by rw[SetTable.probe.go]at e;cases e
 | fuel+1,p,j,d,hd,e=>by
   rw[SetTable.probe.go]at e
   split at e
   ·rename_i hs
    cases e;intro i
    cases hp:p.dummy with
    | none=>grind
    | some x=>grind
   ·rename_i hs
    refine Yjn fuel _ (λx hx i=>?_) e
    have hx':x=p.j:=by
     unfold SetTable.advance at hx;grind
    grind
   ·split at e
    ·cases e
    ·refine Yjn fuel _ (λx hx i=>hd x ?_ i) e
     unfold SetTable.advance at hx;grind
def Tab(bt:Bool)(t:SetTable):Prop:=(bt=false->t.led=true)/\(t.plain=true->Rise t.place)
def Tab.standIn(h:Tab bt t)(n:Nat):Tab bt (t.standIn n):=⟨h.1,λz=>nomatch z⟩
def Tab.off(h:Tab bt t):Tab bt { t with plain:=false }:=⟨h.1,λz=>nomatch z⟩
def Tab.fresh:Tab bt (.fresh 0 0 (!bt)):=⟨λh=>by subst h;rfl,λ_=>.nil⟩
def Tab.layNew(h:Tab bt t)(es:Array (Int×Value))(hh:Int)(x:Value):Tab bt (PySem.layNew t es hh x).2.1:=by
 unfold PySem.layNew
 split
 ·rename_i slot wd hf
  dsimp only;unfold SetTable.orStandIn
  split
  ·refine⟨h.1,λz=>?_⟩
   refine Yt5 (h.2 z) slot (Yz1 ?_);unfold SetTable.freeSlot at hf
   split at hf
   ·rename_i j dummy hp
    cases hf;exact Yjn _ _ (λx hx=>by simp[SetTable.probeStart]at hx) hp
   ·cases hf
  ·exact⟨h.1,λz=>nomatch z⟩
 ·exact h.standIn _
theorem Ylo{led plain:Bool}(h:SetTable.laid mask finger moves led plain hs=some (t,o)):Rise t.place/\t.led=led/\t.plain=plain:=by
 unfold SetTable.laid at h;obtain⟨owner,_,h⟩:=qa h;cases h;refine⟨?_,rfl,rfl⟩;unfold Rise;show(((List.range (mask+1)).filterMap λj=>(owner.getD j none).map (j,·)).map (·.1)).Pairwise (·<·);rw[List.map_filterMap];refine List.Pairwise.filterMap _ (λa b hab x hx y hy=>?_) List.pairwise_lt_range
 simp_all
def Tab.relayAll(h:Tab bt t)(es:Array (Int×Value))(n:Nat):Tab bt (PySem.relayAll t es n).2.1:=by
 unfold PySem.relayAll
 split
 ·rename_i t' order hr
  obtain⟨h1,h2,h3⟩:=Ylo hr;dsimp only
  split
  ·exact⟨λz=>by rw[h2];exact h.1 z,λ_=>h1⟩
  ·exact h.standIn _
 ·exact h.standIn _
end
end
section
section
variable {prog:Program}{w:World}{A:Around}{E:AB}{s:Shared}
def kOf(e:Int×Value):Int:=match e.2 with
 | .int n _=>n
 | _=>0
abbrev byT(w:World):Bool:=w.params.followText "set-order"
def SetI(prog:Program)(w:World)(h:Heap)(a:Addr)(ns:AH):Prop:=
 ∃o es ep t,h.get? a=some o/\o.ExactSet/\o.data=.set es ep t/\ElemsOf (intKind prog w) es.toList/\es.toList.map kOf=ns/\ns.Nodup/\es.size<scanBound/\t.fits es.size=true/\Tab (byT w) t
def Yz2(h:(intKind prog w).is k e.2=true):kOf e=k:=by
 obtain⟨t,ht⟩:=Value.isInt_shape h;unfold kOf;rw[ht]
def Yg0(h:ElemsOf (intKind prog w) es)(he:e∈es):∃t,e=(hashInt (kOf e),.int (kOf e) t):=by
 obtain⟨⟨k,hk,hh⟩,_⟩:=h e he;have hk':=Yz2 hk;obtain⟨t,ht⟩:=Value.isInt_shape hk;refine⟨t,?_⟩;rw[hk'];exact Prod.ext hh ht
def SetI.at(x:SetI prog w h a ns)(e:∀o,h.get? a=some o->h'.get? a=some o):SetI prog w h' a ns:=
 let ⟨o,es,ep,t,ho,r⟩:=x
 ⟨o,es,ep,t,e o ho,r⟩
theorem SetI.len(x:SetI prog w h a ns):ns.length<scanBound:=by
 obtain⟨o,es,ep,t,ho,hex,hd,hel,hns,hnd,hb,_⟩:=x;grind
def Yhx{h:Heap}(ho:h.get? a=some o)(hd:o.data=.set es ep t)(es':Array (Int×Value))(t':SetTable):
 (h.update a (Obj.putSet es' t')).get? a=some { o with data:=.set es' (ep+1) t' }:=by
 have:=wy (Obj.putSet es' t') ho (by rw[putSet_of es' t' hd];rfl);rw[putSet_of es' t' hd]at this;exact this
def Yv4{g:Bool->Sem Unit}(hg:∀(b:Bool) (s₁:Shared) (Q':Unit->Shared->Prop),Q' () s₁->wpAny (model prog w) A (g b) Q' E s₁)(ho:s.heap.get? a=some o)(hex:o.ExactSet)(hd:o.data=.set es ep t)(hel1:ElemsOf (intKind prog w) es1.toList)(hms:(es1.toList.map kOf).Perm ms)(hnd:ms.Nodup)(hb1:es1.size<scanBound)(hf2:t2.fits es1.size=true)(ht2:Tab (byT w) t2)(h:∀h' ns',Heap.SameBut a s.heap h'->SetI prog w h' a ns'->ns'.Perm ms->R (some true) { s with heap:=h' }):
  wpAny (model prog w) A (do
   storeSet a es1 t2
   if (!wasDummy&&t2.tooFull)=true then do
       g (relayAll t2 es1 (SetTable.grown es1.size)).2.2
       storeSet a (relayAll t2 es1 (SetTable.grown es1.size)).1 (relayAll t2 es1 (SetTable.grown es1.size)).2.1
       pure (some true)
    else pure (some true)) R E s:=by
  refine wa (wpAny_storeSet_of ho hd ?_ (fits_of_scanBound hb1));have ho1:=Yhx ho hd es1 t2;have hsb1:=wv s.heap a (Obj.putSet es1 t2)
  split
  ·have hp:=relayAll_perm t2 es1 (SetTable.grown es1.size)
   have hfr:=relayAll_fits t2 es1 (SetTable.grown es1.size);have htr:=ht2.relayAll es1 (SetTable.grown es1.size);generalize hRl:relayAll t2 es1 (SetTable.grown es1.size)=Rl at hp hfr htr ⊢;obtain⟨es2,t3,gave2⟩:=Rl;dsimp only at hp hfr htr ⊢;have hel2:ElemsOf (intKind prog w) es2.toList:=hel1.perm hp
   have hsz:es2.size=es1.size:=by rw[<-qj,hp.length_eq,qj]
   have hb2:es2.size<scanBound:=by rw[hsz];exact hb1
   have hp2:=(hp.map kOf).trans hms;refine wa (hg _ _ _ ?_);refine wa (wpAny_storeSet_of ho1 rfl ?_ (fits_of_scanBound hb2));have ho2:=Yhx ho1 rfl es2 t3;exact wb (h _ _ (hsb1.trans (wv _ a _)) ⟨_,es2,_,t3,ho2,hex,rfl,hel2,rfl,hp2.nodup_iff.mpr hnd,hb2,hfr,htr⟩ hp2)
  ·exact wb (h _ _ hsb1 ⟨_,es1,_,t2,ho1,hex,rfl,hel1,rfl,hms.nodup_iff.mpr hnd,hb1,hf2,ht2⟩ hms)
theorem Yz3(hS:SetI prog w s.heap a ns)(hroom:ns.length+1<scanBound)(h:∀h' ns',Heap.SameBut a s.heap h'->SetI prog w h' a ns'->ns'.Perm (if k∈ns then ns else ns++[k])->Q (!decide (k∈ns)) { s with heap:=h' }):
 wpAny (model prog w) A (setAddHashed a (.int k u) (hashInt k)) Q E s:=by
 have hS0:=hS;obtain⟨o,es,ep,t,ho,hex,hd,hel,hns,hnd,hb,hf,ht⟩:=hS;have hkey:(intKind prog w).is k (.int k u)=true:=intKind_is _ _ _ _;have hsc:(Value.int k u).scannable=true:=rfl
 have hsz:es.size=ns.length:=by grind
 unfold setAddHashed setAddHashedIn;refine wc (wa (wj ho hd hf ?_));dsimp only;rw[byScan_of hsc hb hel];simp only[↓reduceIte];unfold setAddByScan;refine wa ?_;refine wa (wpAny_rule ?_);refine wa (wpAny_setScan_of (knd:=intKind prog w) (k:=k) hkey ho hd hf hel ?_)
 cases hr:List.findIdx? (λe=>(intKind prog w).is k e.2) es.toList with
 | some j=>
   dsimp only;obtain⟨hj,hpj,_⟩:=List.findIdx?_eq_some_iff_getElem.mp hr
   have hk:k∈ns:=by
    rw[<-hns,<-Yz2 hpj];grind
   refine wb (wb ?_)
   have e:s={ s with heap:=s.heap }:=by cases s;rfl
   have:=h s.heap ns (Heap.SameBut.refl a s.heap) hS0 (by grind)
   simp_all
 | none=>
   dsimp only
   have hk:k∉ns:=λhk=>by
    rw[<-hns]at hk;obtain⟨e,he,hke⟩:=qw hk;have h1:=List.findIdx?_eq_none_iff.mp hr e he;obtain⟨t',ht'⟩:=Yg0 hel he;rw[ht',hke]at h1;have h2:(intKind prog w).is k (.int k t')=true:=intKind_is _ _ _ _;grind
   have hgw:∀(b:Bool) {s₁:Shared}{Q':Unit->Shared->Prop},Q' () s₁->wpAny (model prog w) A (match b with|true=>rule "set.scan.the-table-gave-way" | false=>pure ()) Q' E s₁:=
    λb s₁ Q' hq=>by cases b<;>first|exact wb hq|exact wpAny_rule hq
   have hperm:=layNew_perm t es (hashInt k) (.int k u);have hfits:=layNew_fits t es (hashInt k) (.int k u);have htab:=ht.layNew es (hashInt k) (.int k u)
   show wpAny (model prog w) A (do
    let (es,t,wasDummy,gave):=PySem.layNew t es (hashInt k) (.int k u)
    _) _ _ _
   generalize hL:layNew t es (hashInt k) (.int k u)=L at hperm hfits htab ⊢;obtain⟨es1,t1,wasDummy,gave⟩:=L;dsimp only at hperm hfits htab ⊢;rw[Array.toList_push]at hperm;have hel1:ElemsOf (intKind prog w) es1.toList:=(hel.push (knd:=intKind prog w) (k:=k) hkey hsc).perm hperm
   have hb1':es1.size<scanBound:=by rw[<-qj,hperm.length_eq,qx,qj];simp;lia
   have hms:(es1.toList.map kOf).Perm (ns++[k]):=by
    have:=hperm.map kOf;rw[wt,hns]at this;exact this
   have hnd1:(ns++[k]).Nodup:=by
    grind
   have hend:∀h' ns',Heap.SameBut a s.heap h'->SetI prog w h' a ns'->ns'.Perm (ns++[k])->Q true { s with heap:=h' }:=by
    grind
   refine wa (hgw _ ?_)
   split
   ·refine wa ?_
    rw[hashByValue_scannable 8 hsc];refine wb ?_;refine Yv4 ?_ ho hex hd hel1 hms hnd1 hb1' ?_ ?_ ?_
    ·intro b s₁ Q' hq;cases b<;>first|exact wb hq|exact wpAny_rule hq
    ·split
     ·exact hfits
     ·exact SetTable.fits_plain_off hfits
    ·split
     ·exact htab
     ·exact htab.off
    ·intro h' ns' hsb hS' hp;dsimp only;exact wb (hend h' ns' hsb hS' hp)
   ·refine wa (wb ?_)
    simp only[↓reduceIte];refine Yv4 ?_ ho hex hd hel1 hms hnd1 hb1' hfits htab ?_
    ·intro b s₁ Q' hq;cases b<;>first|exact wb hq|exact wpAny_rule hq
    ·intro h' ns' hsb hS' hp;dsimp only;exact wb (hend h' ns' hsb hS' hp)
end
def ddup:AH->AH->AH
 | acc,[]=>acc
 | acc,k::r=>ddup (if k∈acc then acc else acc++[k]) r
theorem Yrd:∀(r a b:AH),a.Perm b->(ddup a r).Perm (ddup b r)
 | [],_,_,h=>h
 | k::r,a,b,h=>by
   rw[ddup,ddup];refine Yrd r _ _ ?_;grind
section
variable {prog:Program}{w:World}{A:Around}{R:Result->Shared->Prop}{I:Addr}{fp wr:List Addr}{G:Array GenState->Array GenState->Prop}{n:Nat}{P:Nat->Value->Prop}{St:Nat->Shared->Prop}
theorem Yv5(W:WalksS prog w A.in1 I fp wr G n P St)(S:Addr)(hSf:S∉fp)(ms:AH)(hn:ms.length=n)(hval:∀i v,P i v->∃t,v=.int (ms.getD i 0) t)(hb:n+1<scanBound):
 ∀(k i:Nat) (s:Shared) (ns:AH),n-i=k->i<=n->St i s->ns.length<=i->SetI prog w s.heap S ns->
  (∀s' ns',Moved (S::wr) G s s'->SetI prog w s'.heap S ns'->ns'.Perm (ddup ns (ms.drop i))->R (.ok (.ret .none)) s')->
  codeAny (model prog w) A (.builtin "set.update.loop" ⟨[.ref S,.ref I],[]⟩) R s:=by
 have hSw:S∉wr:=λh=>hSf (W.sub _ h);have hsub:∀b∈wr,b∈S::wr:=λb hb=>qg _ hb;intro k
 induction k with
 | zero=>
   intro i s ns hk hi hst hl hS hR
   have hin:i=n:=by lia
   subst hin;refine wz F.entry_set_update_loop ?_;rw[jf F.plain_set_update_loop _];show wpAny _ A.in1 (pyNext (.ref I)>>=_) _ _ s;refine wa (W.done s _ _ hst λs' hm=>?_);show wpAny _ A.in1 (ret Value.none) _ _ s';refine wb (hR s' ns (hm.mono hsub) (hS.at λo e=>hm.heap S _ hSw e) ?_);rw[List.drop_of_length_le (by lia),ddup]
 | succ k ih=>
   intro i s ns hk hi hst hl hS hR
   have hlt:i<n:=by lia
   refine wz F.entry_set_update_loop ?_;rw[jf F.plain_set_update_loop _];show wpAny _ A.in1 (pyNext (.ref I)>>=_) _ _ s;refine wa (W.item i s _ _ hlt hst λv s' hP hst' hm=>?_);obtain⟨t,rfl⟩:=hval i v hP;have hS':SetI prog w s'.heap S ns:=hS.at λo e=>hm.heap S _ hSw e;generalize hx:ms.getD i 0=x
   have hdrop:ms.drop i=x::ms.drop (i+1):=by
    rw[List.drop_eq_getElem_cons (by lia),<-hx,Qk,qq (by lia)];rfl
   show wpAny _ A.in1 (holding [Value.int x t] (setAdd S (.int x t))>>=_) _ _ s';refine wa (wc ?_);unfold setAdd;refine wc ?_;refine wa ((intKind prog w).pyHash (k:=x) (intKind_is _ _ _ _) ?_);refine Yz3 (s:={ s' with toks:=s'.toks+1 }) hS' (by lia) λh' ns' hsb hS2 hp=>?_
   have hl2:ns'.length<=i+1:=by
    rw[hp.length_eq];grind
   refine wb ⟨je F.plain_set_update_loop _,ih (i+1) _ ns' (by lia) hlt (W.frame _ s' _ _ hst' (Nat.le_succ _) λb hb o e=>?_) hl2 hS2 λs'' ns'' hm'' hS'' hp''=>?_⟩
   ·rw[hsb.2 b (λh:b=S=>hSf (by grind))];exact e
   ·refine hR s'' ns'' (Moved.trans W.gtrans ((hm.mono hsub).then_heap (Nat.le_succ _) λb o hb e=>?_) hm'') hS'' ?_
    ·rw[hsb.2 b (λh:b=S=>hb (by grind))];exact e
    ·rw[hdrop,ddup]
     exact hp''.trans (Yrd _ _ _ hp)
end
end
section
section
variable {prog:Program}{w:World}{A:Around}{E:AB}{s:Shared}
def Ypb:isSubtype (.type "tuple") (.type "set")=pure false:=by rw[isSubtype_type];kernel_rfl
def Yhy:isSubtype (.type "tuple") (.type "frozenset")=pure false:=by rw[isSubtype_type];kernel_rfl
theorem Yf7(ft:TypeCalled T newId initId)(hct:checkTypeCall T ⟨args,[]⟩=pure ())(entryI:entryFor table initId=some Bi)(hnew:codeAny (model prog w) A.in1 (.call (.builtin newId) ⟨.type T::args,[]⟩) (wants Q₁ E) s)(hnext:∀obj s₁,Q₁ obj s₁->s₁.TypeIs obj T/\(∀(A':Around) (E':AB) (Q':Unit->Shared->Prop),Q' () s₁->wpAny (model prog w) A' (checkBuiltinCall initId ⟨obj::args,[]⟩) Q' E' s₁)/\
  wpAny (model prog w) A.in1.in1 (Bi ⟨obj::args,[]⟩)
   (λfin s'=>match fin with|.done f=>wants (λr s₂=>r=.none/\Q obj s₂) E (.ok f) s'|.again c'=>c'.quiet=true/\codeAny (model prog w) A.in1 c' (wants (λr s₂=>r=.none/\Q obj s₂) E) s')
   (λe s'=>wants (λr s₂=>r=.none/\Q obj s₂) E (.error e) s') s₁):
 wpAny (model prog w) A (call (.type T) args) Q E s:=by
 obtain⟨c,tl,hmro⟩:=ft.mro;have hmade:=ft.made;have hsub:=ft.sub;refine wpAny_call (codeAny_of_tree ?_);show wpAny _ _ (callAny (.type T) _) _ _ _;refine wb ⟨Code.quiet_builtin _ (by decide +kernel),wz F.entry_type_call ?_⟩;rw[Around.under_plain (weight_type_call_type T args []) rfl];have h1:=ft.notType;have h2:=ft.canCreate
 repeat (any_goals (first|assumption|wp_step))
 refine codeAny_mono hnew λr s₁ hr=>?_
 cases r with
 | error e=>exact hr
 | ok fl=>
   cases fl with
   | ret obj=>
     obtain⟨hT,hok,hsi⟩:=hnext _ _ hr;have hli:=ft.init.lookup;have hbi:=ft.init.bind obj
     repeat (any_goals (first|assumption|wp_step))
     refine codeAny_mono (codeAny_call_builtin ft.init.plain entryI (hok _ _ _ hsi)) λr₂ s₂ hr₂=>?_
     cases r₂ with
     | error e=>exact hr₂
     | ok fl₂=>
       cases fl₂ with
       | ret r=>
         obtain⟨rfl,hq⟩:=hr₂
         repeat (any_goals (first|assumption|wp_step))
       | _=>exact hr₂.elim
   | _=>exact hr.elim
abbrev emS(w:World):Obj:={ cls:=.type "set",dict:=none,data:=.set #[] 0 (.fresh 0 0 (!byT w)) }
def Yre(a:Value)(h:Q₁ (.ref (~~~s)) { s with heap:=s.heap.push (emS w) }):
 codeAny (model prog w) A (.call (.builtin "set.__new__") ⟨[.type "set",a],[]⟩) (wants Q₁ E) s:=by
 refine codeAny_of_tree ?_;show wpAny _ A.in1 (do checkBuiltinCall "set.__new__" ⟨[.type "set",a],[]⟩;again (.builtin "set.__new__" ⟨[.type "set",a],[]⟩)) _ _ s;refine wa (wpAny_of_eq (F.newCall_set_1 a) (wb ⟨je F.plain_set_new _,wz F.entry_set_new ?_⟩));rw[jf F.plain_set_new _];unfold Builtin.«set.__new__» Builtin.Frozenset.newClass;have hsub:=sub_set_self;obtain⟨hp,g,d,tk,os⟩:=s;dsimp only
 wp_walk
 refine wpAny_askSetting (wb ?_);dsimp only;simp only[newObj];refine wa (wpAny_alloc (wb ?_));exact wb h
set_option maxRecDepth 100000 in
theorem Ypc{l:Addr}{items:Array Value}{ms:AH}{Q:AB}(hh:A.handled=none)(hl:s.heap.IsList l items)(hi:IntsAre items.toList ms)(hb:items.size+1<scanBound)(h:∀(h':Heap) (tk:Nat) ns,SetI prog w h' (~~~s) ns->ns.Perm (ddup [] ms)->
  (∀b o,b< ~~~s->s.heap.get? b=some o->h'.get? b=some o)->Q (.ref (~~~s)) { s with heap:=h',toks:=tk }):
 wpAny (model prog w) A (call (.type "set") [.ref l]) Q E s:=by
 refine Yf7 (Q₁:=λobj s₁=>obj=.ref (~~~s)/\s₁={ s with heap:=s.heap.push (emS w) }) F.called_set (F.typeCall_set_1 _) F.entry_set_init (Yre _ ⟨rfl,rfl⟩) ?_;rintro obj s₁ ⟨rfl,rfl⟩;have hS:(s.heap.push (emS w)).get? (~~~s)=some (emS w):=qp _ rfl
 have hT:Shared.TypeIs { s with heap:=s.heap.push (emS w) } (.ref (~~~s)) "set":=⟨_,hS,rfl⟩
 refine⟨hT,λA' E' Q' hq=>check_set_init_1 hT hq,?_⟩;obtain⟨ol,hol,hcl,nl,hdl⟩:=hl;obtain⟨ocls,odict,odata,oslots⟩:=ol;simp only at hcl hdl;subst hcl;subst hdl;have hol':(s.heap.push (emS w)).get? l=some { cls:=.type "list",dict:=odict,data:=.seq items nl,slots:=oslots }:=qe _ hol;have hsls:=F.sub_list_set;have hslf:=F.sub_list_frozenset
 have hne:(Value.type "list"==Value.type "dict")=false:=by decide
 have hl1:(s.heap.push (emS w)).IsList l items:=⟨_,hol',rfl,nl,rfl⟩
 unfold Builtin.«set.__init__» noKeywords Builtin.Frozenset.updateFrom;generalize hPI:pyIter=PI
 wp_walk
 subst hPI;refine wpAny_pyIter_list hl1 ?_;refine wa (wpAny_runValue ?_);have hlS:l< ~~~s:=ql hol
 have hh3:A.in1.in1.in1.handled=none:=by simp[hh]
 have hneI:l≠(s.heap.push (emS w)).objs.size:=by
  rw[ww];grind
 have hSf:(~~~s)∉[(s.heap.push (emS w)).objs.size,l]:=by
  rw[ww];grind
 have hlen:ms.length=items.size:=by have:=IntsAre.length hi;grind
 have hval:∀(i:Nat) (v:Value),items[i]?=some v->∃t,v=.int (ms.getD i 0) t:=λi v hv=>
  IntsAre.int_at hi i v (by grind)
 refine Yv5 ((Walks.list hh3 _ l hneI items).toS) (~~~s) hSf ms hlen hval hb (items.size-0) 0 _ [] (by lia) (jb _)
  ⟨⟨_,qp _ rfl,rfl,rfl⟩,(hl1.push _)⟩ (qu _) ?hS0 ?hR
 case hS0=>
  have hget:((s.heap.push (emS w)).push { cls:=.type "list_iterator",data:=.fields #[.ref l,.int 0 0] }).get? (~~~s)=some (emS w):=qe _ hS;exact⟨emS w,#[],0,_,hget,⟨rfl,rfl,rfl⟩,rfl,λe he=>by simp at he,rfl,.nil,by decide,rfl,.fresh⟩
 case hR=>
  intro s' ns' hm hS' hp';obtain⟨h',g',d',tk',os'⟩:=s';have eg:g'=s.gens:=hm.gens;have ed:d'=s.drawn:=hm.drawn;have eo:os'=s.os:=hm.os;subst eg;subst ed;subst eo;show wpAny _ _ _ _ _ _;refine wb ?_;show wpAny _ _ (ret Value.none) _ _ _;refine wb ⟨rfl,h h' tk' ns' hS' hp' λb o hb e=>?_⟩;have hb1:b≠(~~~s):=qm hb
  have hb2:b≠(s.heap.push (emS w)).objs.size:=by
   rw[ww];grind
  exact hm.heap b o (by grind) (qe _ (qe _ e))
set_option maxRecDepth 100000 in
theorem Yne{l:Addr}{items:Array Value}{ms:AH}{Q:AB}(hh:A.handled=none)(hl:s.heap.IsTuple l items)(hi:IntsAre items.toList ms)(hb:items.size+1<scanBound)(h:∀(h':Heap) (tk:Nat) ns,SetI prog w h' (~~~s) ns->ns.Perm (ddup [] ms)->
  (∀b o,b< ~~~s->s.heap.get? b=some o->h'.get? b=some o)->Q (.ref (~~~s)) { s with heap:=h',toks:=tk }):
 wpAny (model prog w) A (call (.type "set") [.ref l]) Q E s:=by
 refine Yf7 (Q₁:=λobj s₁=>obj=.ref (~~~s)/\s₁={ s with heap:=s.heap.push (emS w) }) F.called_set (F.typeCall_set_1 _) F.entry_set_init (Yre _ ⟨rfl,rfl⟩) ?_;rintro obj s₁ ⟨rfl,rfl⟩;have hS:(s.heap.push (emS w)).get? (~~~s)=some (emS w):=qp _ rfl
 have hT:Shared.TypeIs { s with heap:=s.heap.push (emS w) } (.ref (~~~s)) "set":=⟨_,hS,rfl⟩
 refine⟨hT,λA' E' Q' hq=>check_set_init_1 hT hq,?_⟩;obtain⟨ol,hol,hcl,nl,hdl⟩:=hl;obtain⟨ocls,odict,odata,oslots⟩:=ol;simp only at hcl hdl;subst hcl;subst hdl;have hol':(s.heap.push (emS w)).get? l=some { cls:=.type "tuple",dict:=odict,data:=.seq items nl,slots:=oslots }:=qe _ hol;have hsls:=Ypb;have hslf:=Yhy
 have hne:(Value.type "tuple"==Value.type "dict")=false:=by decide
 have hl1:(s.heap.push (emS w)).IsTuple l items:=⟨_,hol',rfl,nl,rfl⟩
 unfold Builtin.«set.__init__» noKeywords Builtin.Frozenset.updateFrom;generalize hPI:pyIter=PI
 wp_walk
 subst hPI;refine wpAny_pyIter_tuple hl1 ?_;refine wa (wpAny_runValue ?_);have hlS:l< ~~~s:=ql hol
 have hh3:A.in1.in1.in1.handled=none:=by simp[hh]
 have hneI:l≠(s.heap.push (emS w)).objs.size:=by
  rw[ww];grind
 have hSf:(~~~s)∉[(s.heap.push (emS w)).objs.size,l]:=by
  rw[ww];grind
 have hlen:ms.length=items.size:=by have:=IntsAre.length hi;grind
 have hval:∀(i:Nat) (v:Value),items[i]?=some v->∃t,v=.int (ms.getD i 0) t:=λi v hv=>
  IntsAre.int_at hi i v (by grind)
 refine Yv5 ((Walks.tuple hh3 _ l hneI items).toS) (~~~s) hSf ms hlen hval hb (items.size-0) 0 _ [] (by lia) (jb _)
  ⟨⟨_,qp _ rfl,rfl,rfl⟩,(⟨_,qe _ hol',rfl,nl,rfl⟩)⟩ (qu _) ?hS0 ?hR
 case hS0=>
  have hget:((s.heap.push (emS w)).push { cls:=.type "tuple_iterator",data:=.fields #[.ref l,.int 0 0] }).get? (~~~s)=some (emS w):=qe _ hS;exact⟨emS w,#[],0,_,hget,⟨rfl,rfl,rfl⟩,rfl,λe he=>by simp at he,rfl,.nil,by decide,rfl,.fresh⟩
 case hR=>
  intro s' ns' hm hS' hp';obtain⟨h',g',d',tk',os'⟩:=s';have eg:g'=s.gens:=hm.gens;have ed:d'=s.drawn:=hm.drawn;have eo:os'=s.os:=hm.os;subst eg;subst ed;subst eo;show wpAny _ _ _ _ _ _;refine wb ?_;show wpAny _ _ (ret Value.none) _ _ _;refine wb ⟨rfl,h h' tk' ns' hS' hp' λb o hb e=>?_⟩;have hb1:b≠(~~~s):=qm hb
  have hb2:b≠(s.heap.push (emS w)).objs.size:=by
   rw[ww];grind
  exact hm.heap b o (by grind) (qe _ (qe _ e))
end
end
section
theorem Yjo{α:Type}{l:List α}(h:i<l.length):(l[i]::l.eraseIdx i).Perm l:=by
 rw[Ql]
 have e:l=l.take i++l[i]::l.drop (i+1):=by
  simp_all
 conv=>rhs;rw[e]
 exact List.perm_middle.symm
theorem Yz4(next:Nat->Nat):∀(fuel k:Nat) (left:List α) (out:Array α),left.length=fuel->(pickOrder.go next fuel k left out).toList.Perm (out.toList++left)
 | 0,k,left,out,h=>by
   rw[pickOrder.go]
   simp_all
 | fuel+1,k,left,out,h=>by
   rw[pickOrder.go];have hlt:next k%left.length<left.length:=Nat.mod_lt _ (by lia);rw[qq hlt];dsimp only;refine(Yz4 next fuel (k+1) _ _ (by grind)).trans ?_;rw[Array.toList_push,jc];exact(Yjo hlt).append_left _
def Yrf(next:Nat->Nat)(xs:Array α):(pickOrder next xs).toList.Perm xs.toList:=by
 have:=Yz4 next xs.size 0 xs.toList #[] (by simp);simpa [pickOrder]using this
section
variable {prog:Program}{w:World}{A:Around}{E:AB}
theorem Yxw(hn:0<n)(h:∀i d',i<n->Q i { s with drawn:=d' }):wpAny (model prog w) A (choose src n) Q E s:=by
 intro Γ p hΓ;unfold choose;rw[Sem.wp_choose];refine⟨by lia,?_⟩;rw[Sem.wp_pure];exact h _ _ (Nat.mod_lt _ hn)
theorem Yjp:∀(n:Nat) (xs:List α) (s:Shared) (Q:List α->Shared->Prop),xs.length=n->(∀ys d',ys.Perm xs->Q ys { s with drawn:=d' })->wpAny (model prog w) A (drawOrder n xs) Q E s
 | 0,xs,s,Q,h,hQ=>by
   rw[List.length_eq_zero_iff.mp h]at hQ ⊢;show wpAny _ _ (pure _) _ _ _;exact wb (hQ [] s.drawn .nil)
 | n+1,[],s,Q,h,hQ=>by simp at h
 | n+1,x::xs,s,Q,h,hQ=>by
   show wpAny _ _ (_>>=_) _ _ _;refine wa (Yxw (by simp) λi d' hi=>?_);rw[qq hi];dsimp only;refine wa (Yjp n _ _ _ (by grind) λys d2 hp=>?_);refine wb (hQ _ d2 ((hp.cons _).trans ?_));exact Yjo hi
end
end
section
set_option maxRecDepth 100000
def Yv6:Manifest.owners.lookup (String.ofList ['r','o','t','a','r','e','t','i','_','t','e','s'].reverse)=some Manifest.sig_set_iterator:=by kernel_rfl
theorem slot_si_next:Slot "set_iterator" "__next__" "set_iterator.__next__":=
 .of (owner:="set_iterator") (n:="__next__") (by rw[typeLookup_type,builtinLookup_eq_fast];kernel_rfl) (by decide +kernel) (by decide +kernel) (by decide +kernel)
  (by first|exact .inl (by decide +kernel)|exact .inr (by decide +kernel)) (by rw[isSubtype_type];kernel_rfl)
def Ydu:entryFor table "set_iterator.__next__"=some Builtin.«set_iterator.__next__»:=entryFor_of_tree (by kernel_rfl)
def Yep(a:Value):argsOk "set_iterator.__next__" ⟨[a],[]⟩:=by
 unfold argsOk;rw[signature?_of (id:="set_iterator.__next__") (n:=['_','_','t','x','e','n','_','_']) (o:=['r','o','t','a','r','e','t','i','_','t','e','s']) (by kernel_rfl) Yv6];kernel_rfl
theorem Ykc:Slot "set_iterator" "__iter__" "set_iterator.__iter__":=
 .of (owner:="set_iterator") (n:="__iter__") (by rw[typeLookup_type,builtinLookup_eq_fast];kernel_rfl) (by decide +kernel) (by decide +kernel) (by decide +kernel)
  (by first|exact .inl (by decide +kernel)|exact .inr (by decide +kernel)) (by rw[isSubtype_type];kernel_rfl)
def Yrg(a:Value):argsOk "set_iterator.__iter__" ⟨[a],[]⟩:=by
 unfold argsOk;rw[signature?_of (id:="set_iterator.__iter__") (n:=['_','_','r','e','t','i','_','_']) (o:=['r','o','t','a','r','e','t','i','_','t','e','s']) (by kernel_rfl) Yv6];kernel_rfl
theorem Ypd:entryFor table "set_iterator.__iter__"=some Builtin.«dict_keyiterator.__iter__»:=
 entryFor_alias (id':="dict_keyiterator.__iter__") (by kernel_rfl) (by first|rfl|decide +kernel|(unfold String.splitOn;simp +decide [String.splitOnAux])) (by decide +kernel) (by kernel_rfl)
theorem Ynf:entryFor table "set.__iter__"=some Builtin.«frozenset.__iter__»:=
 entryFor_alias (id':="frozenset.__iter__") (by kernel_rfl) (by first|rfl|decide +kernel|(unfold String.splitOn;simp +decide [String.splitOnAux])) (by decide +kernel) (by kernel_rfl)
def SIt(h:Heap)(I:Addr)(first:Value)(i:Nat)(a:Addr)(n ep:Nat):Prop:=∃o,h.get? I=some o/\o.cls=.type "set_iterator"/\o.data=.fields #[first,.int i 0,.ref a,.int n 0,.int ep 0]
def SAt(h:Heap)(a:Addr)(es:Array (Int×Value))(ep:Nat)(t:SetTable):Prop:=∃o,h.get? a=some o/\o.ExactSet/\o.data=.set es ep t/\t.fits es.size=true
def SIt.at(x:SIt h I f i a n ep)(e:∀o,h.get? I=some o->h'.get? I=some o):SIt h' I f i a n ep:=let ⟨o,ho,r⟩:=x;⟨o,e o ho,r⟩
def SAt.at(x:SAt h a es ep t)(e:∀o,h.get? a=some o->h'.get? a=some o):SAt h' a es ep t:=let ⟨o,ho,r⟩:=x;⟨o,e o ho,r⟩
def SIt.typeIs{s:Shared}(x:SIt s.heap I f i a n ep):s.TypeIs (.ref I) "set_iterator":=let ⟨o,ho,hc,_⟩:=x;⟨o,ho,hc⟩
section
variable {prog:Program}{w:World}{A:Around}{E:AB}{s:Shared}
def Yz5(hit:SIt s.heap I f i a n ep)(h:Q (.ref I) s):wpAny (model prog w) A (pyIter (.ref I)) Q E s:=by
 refine wpAny_pyIter_slot hit.typeIs Ykc (we Ykc hit.typeIs Ypd ?_ (Yrg _));show wpAny _ _ (ret (.ref I)) _ _ s;exact wb ⟨_,rfl,"set_iterator",_,hit.typeIs,slot_si_next.lookup,h⟩
def y8h{sl i ep nx:Nat}(hit:SIt s.heap I (.int sl 0) i a es.size ep)(ha:SAt s.heap a es ep t)(hn:∀(A':Around) (Q':Option (Value×Nat)->Shared->Prop) (E':AB),Q' (some (x,nx)) s->wpAny (model prog w) A' (setNext a sl i ep) Q' E' s)(hQ:∀h',SIt h' I (.int nx 0) (i+1) a es.size ep->Heap.SameBut I s.heap h'->Q (some x) { s with heap:=h' }):wpAny (model prog w) A (pyNext (.ref I)) Q E s:=by
 obtain⟨o,ho,hc,hd⟩:=id hit;obtain⟨oa,hoa,hexa,hda,hfa⟩:=ha;unfold pyNext;refine wa (ji (wpAny_callSpecial?_slot (name:=Str.ofString "__next__") hit.typeIs slot_si_next (we slot_si_next hit.typeIs Ydu ?_ (Yep _))));show wpAny _ _ (fieldsOf (.ref I)>>=_) _ _ s;refine wa (wpAny_fieldsOf ho hd ?_);show wpAny _ _ (setEntries a>>=_) _ _ s;refine wa (wpAny_setEntries_of hoa hda hfa ?_);rw[if_neg (by simp)];show wpAny _ _ (setNext a sl i ep>>=_) _ _ s;refine wa (hn _ _ _ ?_);show wpAny _ _ (setField (.ref I) 0 (rawInt nx)>>=_) _ _ s;refine wa (wpAny_setField ho hd (by simp) ?_);have ho1:=wy (Obj.mapFields (·.setIfInBounds 0 (rawInt nx))) ho (Obj.isFreed_of_fields (jh hd _));have hd1:=jh hd (·.setIfInBounds 0 (rawInt nx));show wpAny _ _ (setField (.ref I) 1 (rawInt (i+1))>>=_) _ _ _;refine wa (wpAny_setField (s:={ s with heap:=s.heap.update I (Obj.mapFields (·.setIfInBounds 0 (rawInt nx))) }) ho1 hd1 (by simp) (wb ⟨x,rfl,wb (hQ _ ?_ ((wv ..).trans (wv ..)))⟩))
 exact⟨_,wy _ ho1 (Obj.isFreed_of_fields (jh hd1 _)),(Obj.cls_mapFields ..).trans ((Obj.cls_mapFields ..).trans hc),by
  rw[jh hd1];simp[rawInt]⟩
def y8i{sl i ep:Nat}(hh:A.handled=none)(hit:SIt s.heap I (.int sl 0) i a es.size ep)(ha:SAt s.heap a es ep t)(hn:∀(A':Around) (Q':Option (Value×Nat)->Shared->Prop) (E':AB),Q' none s->wpAny (model prog w) A' (setNext a sl i ep) Q' E' s)(hQ:∀h',Heap.ExtBut I s.heap h'->Q none { s with heap:=h' }):wpAny (model prog w) A (pyNext (.ref I)) Q E s:=by
 obtain⟨o,ho,hc,hd⟩:=id hit;obtain⟨oa,hoa,hexa,hda,hfa⟩:=ha;unfold pyNext;refine wa (ji (wpAny_callSpecial?_slot (name:=Str.ofString "__next__") hit.typeIs slot_si_next (we slot_si_next hit.typeIs Ydu ?_ (Yep _))));show wpAny _ _ (fieldsOf (.ref I)>>=_) _ _ s;refine wa (wpAny_fieldsOf ho hd ?_);show wpAny _ _ (setEntries a>>=_) _ _ s;refine wa (wpAny_setEntries_of hoa hda hfa ?_);rw[if_neg (by simp)];show wpAny _ _ (setNext a sl i ep>>=_) _ _ s;refine wa (hn _ _ _ ?_);show wpAny _ _ (setField (.ref I) 2 .none>>=_) _ _ s;refine wa (wpAny_setField ho hd (by simp) ?_);show wpAny _ _ (newExc (.type "StopIteration") []>>=_) _ _ _;refine wa ?_;simp only[newExc,newTuple];refine wa (wg ?_ (by size_fits));refine wa (m:=firstArgMember _ _) (wpAny_of_eq (a:=Value.none) (by first|rfl|(simp only[firstArgMember];rfl)) ?_);refine wg ?_ (by size_fits);simp only[raiseNew];refine wa (wpAny_handled ?_)
 first|rw[show A.in1.handled=none from hh]|rw[hh]
 refine wa (wb (wpAny_throw ?_));refine wa (wpAny_isInstance (T:="StopIteration") (b:=true) ⟨_,qp _ rfl,rfl⟩ isSubtype_stop ?_);exact wb (hQ _ (((wv ..).extBut.push _).push _))
def y4k{i j ep:Nat}(hit:SIt s.heap I (.ref T) i a es.size ep)(ha:SAt s.heap a es ep t)(hT:s.heap.IsTuple T pl)(hp:pl[i]?=some (.int j tk))(he:es[j]?=some e)(hQ:∀h',SIt h' I (.ref T) (i+1) a es.size ep->Heap.SameBut I s.heap h'->Q (some e.2) { s with heap:=h' }):wpAny (model prog w) A (pyNext (.ref I)) Q E s:=by
 obtain⟨o,ho,hc,hd⟩:=id hit;obtain⟨oa,hoa,hexa,hda,hfa⟩:=ha;obtain⟨ot,hot,_,nt,hdt⟩:=hT;unfold pyNext;refine wa (ji (wpAny_callSpecial?_slot (name:=Str.ofString "__next__") hit.typeIs slot_si_next (we slot_si_next hit.typeIs Ydu ?_ (Yep _))));show wpAny _ _ (fieldsOf (.ref I)>>=_) _ _ s;refine wa (wpAny_fieldsOf ho hd ?_);show wpAny _ _ (setEntries a>>=_) _ _ s;refine wa (wpAny_setEntries_of hoa hda hfa ?_);rw[if_neg (by simp)];show wpAny _ _ (seqItems? (.ref T)>>=_) _ _ s;refine wa (wpAny_seqItems hot hdt ?_);simp only[w9,hp];show wpAny _ _ (setNextDrawn a j ep>>=_) _ _ s;refine wa ?_;unfold setNextDrawn;refine wa (wj hoa hda hfa ?_);dsimp only;rw[if_neg (by simp)];show wpAny _ _ (match es[j]? with|some (_,x)=>pure x|_=>unsupported "internal:set_iterator") _ _ s;rw[he];refine wb ?_;show wpAny _ _ (setField (.ref I) 1 (rawInt (i+1))>>=_) _ _ _;refine wa (wpAny_setField ho hd (by simp) (wb ⟨e.2,rfl,wb (hQ _ ?_ (wv ..))⟩))
 exact⟨_,wy _ ho (Obj.isFreed_of_fields (jh hd _)),(Obj.cls_mapFields ..).trans hc,by
  rw[jh hd];simp[rawInt]⟩
def y4l(hh:A.handled=none)(hit:SIt s.heap I (.ref T) i a es.size ep)(ha:SAt s.heap a es ep t)(hT:s.heap.IsTuple T pl)(hp:pl[i]?=none)(hQ:∀h',Heap.ExtBut I s.heap h'->Q none { s with heap:=h' }):wpAny (model prog w) A (pyNext (.ref I)) Q E s:=by
 obtain⟨o,ho,hc,hd⟩:=id hit;obtain⟨oa,hoa,hexa,hda,hfa⟩:=ha;obtain⟨ot,hot,_,nt,hdt⟩:=hT;unfold pyNext;refine wa (ji (wpAny_callSpecial?_slot (name:=Str.ofString "__next__") hit.typeIs slot_si_next (we slot_si_next hit.typeIs Ydu ?_ (Yep _))));show wpAny _ _ (fieldsOf (.ref I)>>=_) _ _ s;refine wa (wpAny_fieldsOf ho hd ?_);show wpAny _ _ (setEntries a>>=_) _ _ s;refine wa (wpAny_setEntries_of hoa hda hfa ?_);rw[if_neg (by simp)];show wpAny _ _ (seqItems? (.ref T)>>=_) _ _ s;refine wa (wpAny_seqItems hot hdt ?_);simp only[w9,hp];show wpAny _ _ (setField (.ref I) 0 (rawInt 0)>>=_) _ _ s;refine wa (wpAny_setField ho hd (by simp) ?_);have ho1:=wy (Obj.mapFields (·.setIfInBounds 0 (rawInt 0))) ho (Obj.isFreed_of_fields (jh hd _));have hd1:=jh hd (·.setIfInBounds 0 (rawInt 0));show wpAny _ _ (setField (.ref I) 2 .none>>=_) _ _ _;refine wa (wpAny_setField (s:={ s with heap:=s.heap.update I (Obj.mapFields (·.setIfInBounds 0 (rawInt 0))) }) ho1 hd1 (by simp) ?_);show wpAny _ _ (newExc (.type "StopIteration") []>>=_) _ _ _;refine wa ?_;simp only[newExc,newTuple];refine wa (wg ?_ (by size_fits));refine wa (m:=firstArgMember _ _) (wpAny_of_eq (a:=Value.none) (by first|rfl|(simp only[firstArgMember];rfl)) ?_);refine wg ?_ (by size_fits);simp only[raiseNew];refine wa (wpAny_handled ?_)
 first|rw[show A.in1.handled=none from hh]|rw[hh]
 refine wa (wb (wpAny_throw ?_));refine wa (wpAny_isInstance (T:="StopIteration") (b:=true) ⟨_,qp _ rfl,rfl⟩ isSubtype_stop ?_);exact wb (hQ _ ((((wv ..).trans (wv ..)).extBut.push _).push _))
end
end
section
set_option maxRecDepth 100000
section
variable {prog:Program}{w:World}{A:Around}{E:AB}{s:Shared}
def Yd7(h:Q (byT w) s):wpAny (model prog w) A setsByText Q E s:=by
 unfold setsByText;exact wa (wpAny_askSetting (wb h))
def Yrh(hb:byT w=true)(ha:SAt s.heap a es ep t)(h:Q (((pickOrder (w.params.setOrder a ep) es)[i]?).map λe=>(e.2,sl)) s):wpAny (model prog w) A (setNext a sl i ep) Q E s:=by
 obtain⟨oa,hoa,hexa,hda,hfa⟩:=ha;unfold setNext;refine wa (wj hoa hda hfa ?_);dsimp only;refine wa (Yd7 ?_);rw[if_pos hb,if_neg (by simp)];refine wa (m:=setWalk a) ?_;unfold setWalk;refine wa (wj hoa hda hfa ?_);dsimp only;refine wa (Yd7 ?_);rw[if_pos hb];refine wa (wpAny_askSetting (wb ?_));exact wb h
theorem Yri(hb:byT w=false)(hd:(!t.plain&&decide (es.size > 1))=false)(hl:t.led=true)(ha:SAt s.heap a es ep t)(hp:SetTable.below t.place sl=i)(h:Q (match es[i]?,t.place[i]? with|some (_,x),some j=>some (x,j+1)|_,_=>none) s):wpAny (model prog w) A (setNext a sl g ep) Q E s:=by
 obtain⟨oa,hoa,hexa,hda,hfa⟩:=ha;unfold setNext;refine wa (wj hoa hda hfa ?_);dsimp only;refine wa (Yd7 ?_);rw[if_neg (by grind)];show wpAny _ _ (if (!t.plain&&decide (es.size > 1))=true then _ else _) _ _ _;rw[if_neg (show ¬((!t.plain&&decide (es.size > 1))=true) by grind)];show wpAny _ _ ((if (!t.led&&!es.isEmpty)=true then unsupported "set:maker-not-led" else pure ())>>=_) _ _ _;rw[if_neg (by rw[hl];simp)];refine wa (wb ?_);rw[hp];exact wb h
def Yhl(pl:Array Nat):Nat->Nat
 | 0=>0
 | i+1=>pl.getD i 0+1
theorem Yv7(hr:Rise pl)(hi:i<=pl.size):SetTable.below pl (Yhl pl i)=i:=by
 obtain⟨h1,h2,h3⟩:=Yoc hr (Yhl pl i);generalize hp:SetTable.below pl (Yhl pl i)=p at h1 h2 h3
 have mono:∀(i k:Nat) (hi:i<pl.size) (hk:k<pl.size),i<k->pl[i]<pl[k]:=λi k hi hk h=>by
  have:=List.pairwise_iff_getElem.mp hr i k (by grind) (by grind) h;grind
 have e1:∀k (hk:k<pl.size),k<p->pl[k]<Yhl pl i:=λk hk hkp=>h2 _ (by
  rw[List.mem_iff_getElem]
  grind)
 have e2:∀k (hk:k<pl.size),p<=k->Yhl pl i<=pl[k]:=λk hk hkp=>h3 _ (by
  rw[List.mem_iff_getElem]
  exact⟨k-p,by simp;lia,by
   simp_all⟩)
 rcases Nat.lt_trichotomy p i with h|h|h
 ·have hk:p<pl.size:=by lia
  have:=e2 p hk (qu _)
  cases i with
  | zero=>lia
  | succ j=>
    have hj:j<pl.size:=by lia
    simp only[Yhl,Array.getD,hj,dite_true]at this;by_cases e:p=j
    ·subst e;exact absurd this (by simp)
    ·have:=mono p j hk hj (by lia)
     simp at *;lia
 ·exact h
 ·have hk:i<pl.size:=by lia
  have:=e1 i hk h
  cases i with
  | zero=>simp[Yhl]at this
  | succ j=>
    have hj:j<pl.size:=by lia
    have h':=mono j (j+1) hj hk (by lia);simp only[Yhl,Array.getD,hj,dite_true]at this;simp at *;lia
def PInt(vals:AH)(i:Nat)(v:Value):Prop:=∃k t,vals[i]?=some k/\v=.int k t
theorem Ylp{es:Array (Int×Value)}(hel:ElemsOf (intKind prog w) es.toList)(he:e∈es.toList):∃t,e.2=.int (kOf e) t:=by
 obtain⟨t,ht⟩:=Yg0 hel he;grind
theorem y4m(hS:SetI prog w s.heap a ns)(hQ:∀(h':Heap) (d':Drawn) (I:Addr) (fp:List Addr) (vals:AH) (St:Nat->Heap->Prop),(∀b o,s.heap.get? b=some o->h'.get? b=some o)->(~~~s)<=I->I∈fp->
  (∀b∈fp,b<h'.objs.size/\(b=a\/(~~~s)<=b))->vals.Perm ns->(∀A':Around,A'.handled=none->Walks prog w A' I fp [I] ns.length (PInt vals) St)->St 0 h'->
  (∀(i:Nat) (s':Shared),St i s'.heap->s'.TypeIs (.ref I) "set_iterator")->Q (.ref I) { s with heap:=h',drawn:=d' }):
 wpAny (model prog w) A (pyIter (.ref a)) Q E s:=by
 obtain⟨o,es,ep,t,ho,hex,hd,hel,hns,hnd,hb,hf,ht⟩:=hS
 have hT:s.TypeIs (.ref a) "set":=⟨o,ho,hex.1⟩
 have hlen:ns.length=es.size:=by grind
 have hlt:a< ~~~s:=ql ho
 have hsa:SAt s.heap a es ep t:=⟨o,ho,hex,hd,hf⟩
 have hps:t.place.size=es.size:=by
  simp only[SetTable.fits,Qb,beq_iff_eq]at hf;exact hf.1
 refine wpAny_pyIter_slot hT F.slot_set_iter (we F.slot_set_iter hT Ynf ?_ (F.args_set_iter_1 _));unfold Builtin.«frozenset.__iter__»;show wpAny _ _ (Builtin.Frozenset.sizeOf a>>=_) _ _ s;unfold Builtin.Frozenset.sizeOf;refine wa (wa (wpAny_setEntries_of ho hd hf (wb ?_)));refine wa ?_;unfold setDrawn;refine wa (wj ho hd hf ?_);dsimp only;refine wa (Yd7 (wb ?_))
 have plain:∀(vals:AH) (st:Nat->Nat) (xv:Nat->Value),vals.Perm ns->st 0=0->(∀i,i<es.size->PInt vals i (xv i))->
  (∀(s':Shared) (A':Around) (i:Nat) (E':AB),SAt s'.heap a es ep t->i<es.size->∀Q':Option (Value×Nat)->Shared->Prop,Q' (some (xv i,st (i+1))) s'->wpAny (model prog w) A' (setNext a (st i) i ep) Q' E' s')->
  (∀(s':Shared) (A':Around) (E':AB),SAt s'.heap a es ep t->∀Q':Option (Value×Nat)->Shared->Prop,Q' none s'->wpAny (model prog w) A' (setNext a (st es.size) es.size ep) Q' E' s')->
  wpAny (model prog w) A.in1 (do
   let x <-newFields "set_iterator" [rawInt 0,rawInt 0,.ref a,rawInt es.size,rawInt (<-setEpoch a)]
   ret x) (λfin s'=>∃v,fin=.done (.ret v)/\∃T' r,s'.TypeIs v T'/\typeLookup (.type T') "__next__"=pure (some r)/\Q v s') E s:=by
  intro vals st xv hp h0 hx hi hn;refine wa (wpAny_setEpoch_of ho hd hf ?_);refine wa (wg ?_);refine wb ⟨_,rfl,"set_iterator",_,⟨_,qp _ rfl,rfl⟩,slot_si_next.lookup,?_⟩
  have key:=hQ (s.heap.push { cls:=.type "set_iterator",data:=.fields #[rawInt 0,rawInt 0,.ref a,rawInt es.size,rawInt ep] }) s.drawn (~~~s) [~~~s,a] vals
   (λi h=>SIt h (~~~s) (.int (st i) 0) i a es.size ep/\SAt h a es ep t) (λb o e=>qe _ e) (qu _) (by simp) (λb hb=>by
    rw[ww]
    grind) hp (λA' hA'=>{
    sub:=λb hb=>by grind
    frame:=λi h h' st' hk=>⟨st'.1.at λo e=>hk _ (by simp) o e,st'.2.at λo e=>hk a (by simp) o e⟩
    item:=λi s' Q' E' hlt' st' hQ'=>by
     refine y8h st'.1 st'.2 (x:=xv i) (nx:=st (i+1)) (λA2 Q2 E2 hq=>hi s' A2 i E2 st'.2 (by lia) Q2 hq) λh' hit' hs'=>?_;exact hQ' _ h' s'.toks (hx i (by lia)) ⟨hit',st'.2.at λo e=>hs'.extBut a o (λz=>by grind) e⟩ λb o hb e=>hs'.extBut b o (λz=>hb (by simp[z])) e
    done:=λs' Q' E' st' hQ'=>by
     rw[hlen]at st';exact y8i hA' st'.1 st'.2 (λA2 Q2 E2 hq=>hn s' A2 E2 st'.2 Q2 hq) λh' he'=>hQ' h' s'.toks λb o hb e=>he' b o (λz=>hb (by simp[z])) e
    self:=λi s' Q' E' st' hQ'=>Yz5 st'.1 hQ' }) ⟨⟨_,qp _ rfl,rfl,by rw[h0];rfl⟩,hsa.at λo e=>qe _ e⟩ (λi s' st'=>st'.1.typeIs)
  exact key
 have hdr:∀b:Bool,(!t.plain&&decide (es.size > 1))=b->wpAny (model prog w) A.in1 (if (!byT w&&b)=true then do
  let first <-newTuple ((<-drawOrder es.size (List.range es.size)).map fun(i:Nat)=>rawInt i)
  let x <-newFields "set_iterator" [first,rawInt 0,.ref a,rawInt es.size,rawInt (<-setEpoch a)]
  ret x
  else do
   let x <-newFields "set_iterator" [rawInt 0,rawInt 0,.ref a,rawInt es.size,rawInt (<-setEpoch a)]
   ret x) (λfin s'=>∃v,fin=.done (.ret v)/\∃T' r,s'.TypeIs v T'/\typeLookup (.type T') "__next__"=pure (some r)/\Q v s') E s:=by
  intro b hbd
  cases hbt:byT w with
  | true=>
    rw[if_neg (by simp)];generalize hor:pickOrder (w.params.setOrder a ep) es=ord
    have hpm:ord.toList.Perm es.toList:=by rw[<-hor];exact Yrf _ _
    have hos:ord.size=es.size:=by
     have:=hpm.length_eq;grind
    refine plain (ord.toList.map kOf) (λ_=>0) (λi=>(ord.getD i (0,.none)).2) (by grind) rfl (λi hi=>?_) (λs' A' i E' ha hi Q' hq=>?_) (λs' A' E' ha Q' hq=>?_)
    ·have hi':i<ord.size:=by lia
     obtain⟨u,hu⟩:=Ylp hel (hpm.mem_iff.mp (show ord[i]∈ord.toList by simp));refine⟨kOf ord[i],u,by simp[hi'],?_⟩
     simp_all
    ·have hi':i<ord.size:=by lia
     refine Yrh hbt ha ?_
     simp_all
    ·refine Yrh hbt ha ?_
     grind
  | false=>
    have hled:=ht.1 hbt
    cases b with
    | false=>
      rw[if_neg (by simp)]
      have hrise:Rise t.place:=by
       cases hpl:t.plain with
       | true=>exact ht.2 hpl
       | false=>
         rw[hpl]at hbd
         have h1:t.place.toList.length<=1:=by
          grind
         unfold Rise
         match t.place.toList,h1 with
         | [],_=>exact .nil
         | [x],_=>simp
      refine plain ns (Yhl t.place) (λi=>(es.getD i (0,.none)).2) .rfl rfl (λi hi=>?_) (λs' A' i E' ha hi Q' hq=>?_) (λs' A' E' ha Q' hq=>?_)
      ·obtain⟨u,hu⟩:=Ylp hel (show es[i]∈es.toList by simp)
       refine⟨kOf es[i],u,by grind,?_⟩
       simp_all
      ·refine Yri hbt hbd hled ha (Yv7 hrise (by lia)) ?_
       have hi2:i<t.place.size:=by lia
       rw[Array.getElem?_eq_getElem hi,Array.getElem?_eq_getElem hi2];simp only[Array.getD,hi,hi2,dite_true,Yhl]at hq;exact hq
      ·refine Yri hbt hbd hled ha (Yv7 hrise (by lia)) ?_
       grind
    | true=>
      rw[if_pos (by simp)];refine wa (Yjp es.size (List.range es.size) s _ (by simp) λys d' hp=>?_);simp only[newTuple]
      have hyl:ys.length=es.size:=by rw[hp.length_eq];simp
      refine wa (wg ?_ (by show(ys.map fun(i:Nat)=>rawInt i).toArray.size<=sizeLine;rw[qk,qf,hyl];exact fits_of_scanBound hb));have ho1:((s.heap.push { cls:=.type "tuple",data:=.seq (ys.map fun(i:Nat)=>rawInt i).toArray })).get? a=some o:=qe _ ho;refine wa (wpAny_setEpoch_of (s:={ s with heap:=s.heap.push { cls:=.type "tuple",data:=.seq (ys.map fun(i:Nat)=>rawInt i).toArray },drawn:=d' }) ho1 hd hf ?_);refine wa (wg ?_);refine wb ⟨_,rfl,"set_iterator",_,⟨_,qp _ rfl,rfl⟩,slot_si_next.lookup,?_⟩
      have hmem:∀j∈ys,j<es.size:=λj hj=>by grind
      have hvp:(ys.map λj=>kOf (es.getD j (0,.none))).Perm ns:=by
       rw[<-hns];refine(hp.map _).trans ?_
       have:(List.range es.size).map (λj=>kOf (es.getD j (0,.none)))=es.toList.map kOf:=by
        refine List.ext_getElem (by simp) λi h1 h2=>?_
        have hi:i<es.size:=by grind
        simp[Array.getD,hi]
       rw[this]
      generalize hH:s.heap.push { cls:=.type "tuple",data:=.seq (ys.map fun(i:Nat)=>rawInt i).toArray }=H at ho1 ⊢
      have hHs:H.objs.size= ~~~s+1:=by rw[<-hH,ww]
      have hT0:H.IsTuple (~~~s) (ys.map fun(i:Nat)=>rawInt i).toArray:=⟨_,by rw[<-hH];exact qp _ rfl,rfl,_,rfl⟩
      have keepH:∀b o,s.heap.get? b=some o->H.get? b=some o:=λb o e=>by rw[<-hH];exact qe _ e
      have haI:a≠H.objs.size:=λz=>by grind
      have hTI:(~~~s)≠H.objs.size:=by grind
      exact hQ (H.push { cls:=.type "set_iterator",data:=.fields #[.ref (~~~s),rawInt 0,.ref a,rawInt es.size,rawInt ep] }) d' H.objs.size [H.objs.size,a,~~~s] (ys.map λj=>kOf (es.getD j (0,.none)))
       (λi h=>SIt h H.objs.size (.ref (~~~s)) i a es.size ep/\SAt h a es ep t/\h.IsTuple (~~~s) (ys.map fun(i:Nat)=>rawInt i).toArray) (λb o e=>qe _ (keepH b o e)) (by lia) (by simp) (λb hb=>by
        rw[ww]
        grind) hvp (λA' hA'=>{
        sub:=λb hb=>by grind
        frame:=λi h h' st' hk=>⟨st'.1.at λo e=>hk _ (by simp) o e,st'.2.1.at λo e=>hk a (by simp) o e,st'.2.2.at λo e=>hk _ (by simp) o e⟩
        item:=λi s' Q' E' hlt' st' hQ'=>by
         have hi:i<ys.length:=by lia
         have hj:=hmem ys[i] (List.getElem_mem hi);refine y4k st'.1 st'.2.1 st'.2.2 (j:=ys[i]) (tk:=0) (e:=es[ys[i]]) (by simp[hi,rawInt]) (Array.getElem?_eq_getElem hj) λh' hit' hs'=>?_;refine hQ' _ h' s'.toks ?_ ⟨hit',st'.2.1.at λo e=>hs'.extBut a o haI e,st'.2.2.at λo e=>hs'.extBut _ o hTI e⟩ λb o hb e=>hs'.extBut b o (λz=>hb (by simp[z])) e;obtain⟨u,hu⟩:=Ylp hel (show es[ys[i]]∈es.toList by simp);exact⟨kOf es[ys[i]],u,by simp[hi,Array.getD,hj],hu⟩
        done:=λs' Q' E' st' hQ'=>by
         rw[hlen]at st';exact y4l hA' st'.1 st'.2.1 st'.2.2 (by simp[hyl]) λh' he'=>hQ' h' s'.toks λb o hb e=>he' b o (λz=>hb (by simp[z])) e
        self:=λi s' Q' E' st' hQ'=>Yz5 st'.1 hQ' }) ⟨⟨_,qp _ rfl,rfl,rfl⟩,⟨o,qe _ ho1,hex,hd,hf⟩,hT0.push _⟩ (λi s' st'=>st'.1.typeIs)
 exact hdr _ rfl
end
end
section
inductive D where
 | non|bl (b:Bool)|int (i:Int)|str (x:Str)|tup (l:List D)|lst (l:List D)
 | scr (ns:AH)
 | dct (t:Bool) (ks vs:List D)
 | obj (c:Str) (ks:AL) (vs:List D)
 | adr (a:Addr)
abbrev AR:=List D
mutual
def toPy:D->PyData
 | .non=>.none
 | .bl b=>.bool b
 | .int i=>.int i
 | .str x=>.str x
 | .tup l=>.tuple (Yd8 l)
 | .lst l=>.list (Yd8 l)
 | .scr ns=>.list (ns.map PyData.int)
 | .dct _ _ _=>.none
 | .obj _ _ _=>.none
 | .adr _=>.none
def Yd8:AR->List PyData
 | []=>[]
 | d::l=>toPy d::Yd8 l
end
def eqD(d e:D):Bool:=PyData.eqv (toPy d) (toPy e)
def eqL(l m:AR):Bool:=PyData.eqvAll (Yd8 l) (Yd8 m)
def numV:V->Option Int
 | .int i=>some i
 | .bl b=>some (if b then 1 else 0)
 | _=>none
def Yfn:AQ->Option AH
 | []=>some []
 | x::r=>(numV x).bind λi=>(Yfn r).map (i::·)
def Yab5(ks:AH):Int:=reduceHash (Builtin.Tuple.tupleHashOf (ks.map hashInt))
def DtOk(a:Addr)(nks:List (List Int×Addr))(vxs:AQ)(ep:Nat)(h:Heap):Prop:=
 (a==sysModules)=false/\∃us o es,Vals vxs us/\h.get? a=some o/\o.ExactDict/\o.data=.dict es ep/\es.toList=(nks.zip us).map λp=>(⟨Yab5 p.1.1,.ref p.1.2,p.2⟩:DictEntry)
def dTo(a:Addr)(nks:List (List Int×Addr))(vxs:AQ)(ep:Nat):HO:=.ext (DtOk a nks vxs ep)
def Dc(t:Bool)(G H:Hp)(a:Addr)(kxs vxs:AQ):Prop:=
 (t=false/\∃kvs:List (Key×V),H a=some (.dK kvs)/\(kvs.map (·.1)).Nodup/\kxs=kvs.map (λp=>kV p.1)/\vxs=kvs.map (·.2))\/
 (t=true/\∃(nks:List (List Int×Addr)) (ep:Nat),H a=some (dTo a nks vxs ep)/\nks.length=vxs.length/\(nks.map (·.1)).Nodup/\kxs=nks.map (λp=>V.ref p.2)/\∀p∈nks,∃ys,G p.2=some (.tup ys)/\Yfn ys=some p.1)
mutual
def Rp(K:W.Frag)(G:Hp):D->V->Prop
 | .non,v=>v=V.non
 | .bl b,v=>v=V.bl b
 | .int i,v=>v=V.int i
 | .str x,v=>v=V.str x/\PyData.strOk x=true
 | .tup l,v=>∃a xs,v=V.ref a/\G a=some (HO.tup xs)/\RpL K G l xs
 | .lst l,v=>∃a xs,v=V.ref a/\Rd G a (HO.lst xs)/\RpL K G l xs
 | .scr ns,v=>∃a,v=V.ref a/\SqL K G a (ns.map V.int)
 | .dct t ks vs,v=>∃a kxs vxs,v=V.ref a/\Dc t G G a kxs vxs/\RpL K G ks kxs/\RpL K G vs vxs
 | .obj c ks vs,v=>∃a C dx xs,v=V.ref a/\W.nsIn K mainGlobals c=some (some (.ref C))/\G a=some (HO.ins C dx (ks.zip xs))/\xs.length=ks.length/\RpL K G vs xs
 | .adr a,v=>v=V.ref a
def RpL(K:W.Frag)(G:Hp):AR->AQ->Prop
 | [],xs=>xs=[]
 | d::l,xs=>∃x r,xs=x::r/\Rp K G d x/\RpL K G l r
end
variable {K:W.Frag}
def Ybo(h:Same G G')(r:Rd G a u):Rd G' a u:=by
 rcases r with r|⟨o,r⟩
 ·exact .inl (h _ _ r)
 ·exact .inr ⟨o,h _ _ r⟩
def Dc.mono(g:Same G G')(h:∀o,H a=some o->H' a=some o)(d:Dc t G H a kxs vxs):Dc t G' H' a kxs vxs:=by
 rcases d with⟨e,kvs,h1,h2⟩|⟨e,nks,ep,h1,h2,h3,h4,h5⟩
 ·exact .inl ⟨e,kvs,h _ h1,h2⟩
 ·refine .inr ⟨e,nks,ep,h _ h1,h2,h3,h4,λp hp=>?_⟩
  obtain⟨ys,q1,q2⟩:=h5 p hp;exact⟨ys,g _ _ q1,q2⟩
theorem Dc.someT(d:Dc t G H a kxs vxs):∃o,H a=some o/\∀xs,o≠.tup xs:=by
 rcases d with⟨_,kvs,h1,_⟩|⟨_,nks,ep,h1,_⟩
 ·grind
 ·exact⟨_,h1,λxs z=>by cases z⟩
theorem Dc.some(d:Dc t G H a kxs vxs):∃o,H a=some o/\∀xs,o≠.lst xs:=by
 rcases d with⟨_,kvs,h1,_⟩|⟨_,nks,ep,h1,_⟩
 ·grind
 ·exact⟨_,h1,λxs z=>by cases z⟩
mutual
theorem Rp.mono{G G':Hp}(h:Same G G'):∀{d:D}{v:V},Rp K G d v->Rp K G' d v
 | .non,_,r=>by rw[Rp]at r ⊢;exact r
 | .bl _,_,r=>by rw[Rp]at r ⊢;exact r
 | .int _,_,r=>by rw[Rp]at r ⊢;exact r
 | .str _,_,r=>by rw[Rp]at r ⊢;exact r
 | .tup l,_,r=>by
   rw[Rp]at r ⊢;obtain⟨a,xs,e,g,q⟩:=r;exact⟨a,xs,e,h _ _ g,RpL.mono h q⟩
 | .lst l,_,r=>by
   rw[Rp]at r ⊢;obtain⟨a,xs,e,g,q⟩:=r;exact⟨a,xs,e,Ybo h g,RpL.mono h q⟩
 | .scr ns,_,r=>by
   rw[Rp]at r ⊢;obtain⟨a,e,g⟩:=r;exact⟨a,e,h.seq g⟩
 | .dct t ks vs,_,r=>by
   rw[Rp]at r ⊢;obtain⟨a,kxs,vxs,e,g,q1,q2⟩:=r;exact⟨a,kxs,vxs,e,g.mono h λo=>h _ o,RpL.mono h q1,RpL.mono h q2⟩
 | .obj c ks vs,_,r=>by
   rw[Rp]at r ⊢;obtain⟨a,C,dx,xs,e,n,g,l,q⟩:=r;exact⟨a,C,dx,xs,e,n,h _ _ g,l,RpL.mono h q⟩
 | .adr _,_,r=>by rw[Rp]at r ⊢;exact r
theorem RpL.mono{G G':Hp}(h:Same G G'):∀{l:AR}{xs:AQ},RpL K G l xs->RpL K G' l xs
 | [],_,r=>by rw[RpL]at r ⊢;exact r
 | d::l,_,r=>by
   rw[RpL]at r ⊢;obtain⟨x,xs,e,g,q⟩:=r;exact⟨x,xs,e,Rp.mono h g,RpL.mono h q⟩
end
section
variable {G:Hp}
theorem RpL.length:∀{l:AR}{xs:AQ},RpL K G l xs->xs.length=l.length
 | [],_,r=>by rw[RpL]at r;subst r;rfl
 | d::l,_,r=>by
   rw[RpL]at r;obtain⟨x,xs,rfl,_,q⟩:=r;simp[RpL.length q]
theorem RpL.get:∀{l:AR}{xs:AQ}{i:Nat}{d:D},RpL K G l xs->l[i]?=some d->∃x,xs[i]?=some x/\Rp K G d x
 | [],_,_,_,_,e=>by simp at e
 | d::l,_,0,_,r,e=>by
   rw[RpL]at r;obtain⟨x,xs,rfl,g,q⟩:=r;simp at e;subst e;exact⟨x,rfl,g⟩
 | d::l,_,i+1,_,r,e=>by
   rw[RpL]at r;obtain⟨x,xs,rfl,g,q⟩:=r;obtain⟨y,h1,h2⟩:=RpL.get (i:=i) q (by simpa using e);exact⟨y,by simpa using h1,h2⟩
def RpL.nil:RpL K G [] []:=by rw[RpL]
theorem RpL.cons(h:Rp K G d x)(q:RpL K G l xs):RpL K G (d::l) (x::xs):=by rw[RpL];grind
theorem RpL.append:∀{l m:AR}{xs ys:AQ},RpL K G l xs->RpL K G m ys->RpL K G (l++m) (xs++ys)
 | [],_,_,_,r,q=>by rw[RpL]at r;subst r;exact q
 | d::l,m,_,ys,r,q=>by
   rw[RpL]at r;obtain⟨x,xs,rfl,g,r⟩:=r;exact .cons g (RpL.append r q)
def RpL.one(h:Rp K G d x):RpL K G [d] [x]:=.cons h .nil
theorem RpL.take:∀{l:AR}{xs:AQ} (n:Nat),RpL K G l xs->RpL K G (l.take n) (xs.take n)
 | _,_,0,_=>by rw[List.take_zero,List.take_zero];exact .nil
 | [],_,_+1,r=>by rw[RpL]at r;subst r;exact .nil
 | d::l,_,n+1,r=>by
   rw[RpL]at r;obtain⟨x,xs,rfl,g,r⟩:=r;exact .cons g (RpL.take n r)
theorem RpL.drop:∀{l:AR}{xs:AQ} (n:Nat),RpL K G l xs->RpL K G (l.drop n) (xs.drop n)
 | _,_,0,r=>r
 | [],_,_+1,r=>by rw[RpL]at r;subst r;exact .nil
 | d::l,_,n+1,r=>by
   rw[RpL]at r;obtain⟨x,xs,rfl,g,r⟩:=r;exact RpL.drop n r
theorem RpL.reverse:∀{l:AR}{xs:AQ},RpL K G l xs->RpL K G l.reverse xs.reverse
 | [],_,r=>by rw[RpL]at r;subst r;exact .nil
 | d::l,_,r=>by
   rw[RpL]at r;obtain⟨x,xs,rfl,g,r⟩:=r;rw[List.reverse_cons,List.reverse_cons];exact r.reverse.append (.one g)
theorem RpL.ints:∀(ns:AH),RpL K G (ns.map D.int) (ns.map V.int)
 | []=>.nil
 | n::ns=>.cons (by rw[Rp]) (RpL.ints ns)
end
structure Gr(H G H' G':Hp):Prop where
 h:Same H H'
 g:Same G G'
 s:Same G' H'
 n:∀a,G a=none->G' a≠none->H a=none
def Gr.refl(s:Same G H):Gr H G H G:=⟨Same.refl _,Same.refl _,s,λ_ h h'=>absurd h h'⟩
def Gr.trans(a:Gr H G H1 G1)(b:Gr H1 G1 H2 G2):Gr H G H2 G2:=
 ⟨a.h.trans b.h,a.g.trans b.g,b.s,λx h h'=>by
  by_cases e:G1 x=none
  ·exact a.h.free (b.n x e h')
  ·exact a.n x h e⟩
theorem Gr.new(s:Same G H)(hp:H p=none)(o:HO):Gr H G (upd H p o) (upd G p o):=by
 have gp:G p=none:=s.free hp;refine⟨λb u e=>?_,λb u e=>?_,λb u e=>?_,λb h h'=>?_⟩
 ·rw[Yaa (Yy e hp)];exact e
 ·rw[Yaa (Yy e gp)];exact e
 ·by_cases q:b=p
  ·subst q;rw[Yt]at e ⊢;exact e
  ·rw[Yaa q]at e ⊢;exact s _ _ e
 ·by_cases q:b=p
  ·grind
  ·rw[Yaa q]at h';grind
def Gr.hid(s:Same G H)(hp:H p=none)(o:HO):Gr H G (upd H p o) G:=by
 have gp:G p=none:=s.free hp;refine⟨λb u e=>?_,Same.refl _,λb u e=>?_,λb h h'=>absurd h h'⟩
 ·rw[Yaa (Yy e hp)];exact e
 ·rw[Yaa (Yy e gp)];exact s _ _ e
theorem Gr.show(g:Gr H G H' G')(hp:H p=none)(gp:G' p=none)(e:H' p=some o):Gr H G H' (upd G' p o):=by
 refine⟨g.h,λb u q=>?_,λb u q=>?_,λb h h'=>?_⟩
 ·have:=g.g b u q
  rw[Yaa (Yy this gp)];exact this
 ·by_cases z:b=p
  ·subst z;rw[Yt]at q;grind
  ·rw[Yaa z]at q;exact g.s b u q
 ·by_cases z:b=p
  ·grind
  ·rw[Yaa z]at h';exact g.n b h h'
def Ct(K:W.Frag)(G H:Hp):D->V->Prop
 | .non,v=>v=V.non
 | .bl b,v=>v=V.bl b
 | .int i,v=>v=V.int i
 | .str x,v=>v=V.str x/\PyData.strOk x=true
 | .tup l,v=>∃a xs,v=V.ref a/\(H a=some (HO.tup xs)/\G a=some (HO.tup xs))/\RpL K G l xs
 | .lst l,v=>∃a xs,v=V.ref a/\Rd H a (HO.lst xs)/\RpL K G l xs
 | .scr ns,v=>∃a,v=V.ref a/\SqL K H a (ns.map V.int)
 | .dct t ks vs,v=>∃a kxs vxs,v=V.ref a/\Dc t G H a kxs vxs/\RpL K G ks kxs/\RpL K G vs vxs
 | .obj c ks vs,v=>∃a C dx xs,v=V.ref a/\W.nsIn K mainGlobals c=some (some (.ref C))/\G a=some (HO.ins C dx (ks.zip xs))/\xs.length=ks.length/\RpL K G vs xs
 | .adr a,v=>v=V.ref a
def Ct.of(s:Same G H)(r:Rp K G d v):Ct K G H d v:=by
 cases d<;>rw[Rp]at r<;>rw[Ct]
 ·exact r
 ·exact r
 ·exact r
 ·exact r
 ·obtain⟨a,xs,e,g,q⟩:=r
  exact⟨a,xs,e,⟨s _ _ g,g⟩,q⟩
 ·obtain⟨a,xs,e,g,q⟩:=r
  exact⟨a,xs,e,Ybo s g,q⟩
 ·obtain⟨a,e,g⟩:=r
  exact⟨a,e,s.seq g⟩
 ·obtain⟨a,kxs,vxs,e,g,q1,q2⟩:=r
  exact⟨a,kxs,vxs,e,g.mono (Same.refl _) λo=>s _ o,q1,q2⟩
 ·exact r
 ·exact r
def Ct.rp(s:Same G H)(r:Ct K G H d v):Rp K H d v:=by
 cases d<;>rw[Ct]at r<;>rw[Rp]
 ·exact r
 ·exact r
 ·exact r
 ·exact r
 ·obtain⟨a,xs,e,g,q⟩:=r
  exact⟨a,xs,e,g.1,q.mono s⟩
 ·obtain⟨a,xs,e,g,q⟩:=r
  exact⟨a,xs,e,g,q.mono s⟩
 ·exact r
 ·obtain⟨a,kxs,vxs,e,g,q1,q2⟩:=r
  exact⟨a,kxs,vxs,e,g.mono s λ_ z=>z,q1.mono s,q2.mono s⟩
 ·obtain⟨a,C,dx,xs,e,n,g,l,q⟩:=r
  exact⟨a,C,dx,xs,e,n,s _ _ g,l,q.mono s⟩
 ·exact r
def Ct.grow(g:Gr H G H' G')(r:Ct K G H d v):Ct K G' H' d v:=by
 cases d<;>rw[Ct]at r<;>rw[Ct]
 ·exact r
 ·exact r
 ·exact r
 ·exact r
 ·obtain⟨a,xs,e,h,q⟩:=r
  exact⟨a,xs,e,⟨g.h _ _ h.1,g.g _ _ h.2⟩,q.mono g.g⟩
 ·obtain⟨a,xs,e,h,q⟩:=r
  exact⟨a,xs,e,Ybo g.h h,q.mono g.g⟩
 ·obtain⟨a,e,h⟩:=r
  exact⟨a,e,g.h.seq h⟩
 ·obtain⟨a,kxs,vxs,e,h,q1,q2⟩:=r
  exact⟨a,kxs,vxs,e,h.mono g.g λo=>g.h _ o,q1.mono g.g,q2.mono g.g⟩
 ·obtain⟨a,C,dx,xs,e,n,h,l,q⟩:=r
  exact⟨a,C,dx,xs,e,n,g.g _ _ h,l,q.mono g.g⟩
 ·exact r
def CtL(K:W.Frag)(G H:Hp):AR->AQ->Prop
 | [],xs=>xs=[]
 | d::l,xs=>∃x r,xs=x::r/\Ct K G H d x/\CtL K G H l r
inductive B where
 | sh (d:D)|ow (l:AR)|od (t:Bool) (ks vs:AR)
abbrev AT:=Option B
abbrev Ro:=List AT
abbrev AY:=Ro->Option AR
abbrev AX:=Ro->Option D
abbrev AW:=Ro->Option Bool
abbrev AV:=D->Ro->Option Ro
structure SR(K:W.Frag)(H0 G0:Hp)(σ:L2.St)(H G:Hp)(ρ:Ro):Prop where
 gr:Gr H0 G0 H G
 len:σ.length=ρ.length
 sh:∀(i:Nat) d,ρ[i]?=some (some (B.sh d))->∃v,σ[i]?=some (some v)/\Rp K G d v
 ow:∀(i:Nat) l,ρ[i]?=some (some (B.ow l))->∃a xs,σ[i]?=some (some (V.ref a))/\G a=none/\H0 a=none/\H a=some (.lst xs)/\RpL K G l xs
 ap:∀(i j:Nat) l l' a b,ρ[i]?=some (some (B.ow l))->ρ[j]?=some (some (B.ow l'))->i≠j->σ[i]?=some (some (V.ref a))->σ[j]?=some (some (V.ref b))->a≠b
 od:∀(i:Nat) t ks vs,ρ[i]?=some (some (B.od t ks vs))->∃a kxs vxs,σ[i]?=some (some (V.ref a))/\G a=none/\H0 a=none/\Dc t G H a kxs vxs/\RpL K G ks kxs/\RpL K G vs vxs
 apd:∀(i j:Nat) t ks vs t' ks' vs' a b,ρ[i]?=some (some (B.od t ks vs))->ρ[j]?=some (some (B.od t' ks' vs'))->i≠j->σ[i]?=some (some (V.ref a))->σ[j]?=some (some (V.ref b))->a≠b
section
variable {H0 G0 H G H' G':Hp}{σ:L2.St}{ρ:Ro}
def SR.mkSh(g:Gr H0 G0 H G)(len:σ.length=ρ.length)(sh:∀(i:Nat) d,ρ[i]?=some (some (B.sh d))->∃v,σ[i]?=some (some v)/\Rp K G d v)(no:∀(i:Nat) l,ρ[i]?≠some (some (B.ow l)))(no':∀(i:Nat) t ks vs,ρ[i]?≠some (some (B.od t ks vs))):SR K H0 G0 σ H G ρ:=
 ⟨g,len,sh,λi l h=>absurd h (no i l),λi j l l' a b h=>absurd h (no i l),λi t ks vs h=>absurd h (no' i t ks vs),λi j t ks vs t' ks' vs' a b h=>absurd h (no' i t ks vs)⟩
theorem Ylq(g:Gr H G H' G')(h:H a=some o)(n:G a=none):G' a=none:=by
 cases q:G' a with
 | none=>rfl
 | some o=>
   have:=g.n a n (by grind);grind
def SR.grow(s:SR K H0 G0 σ H G ρ)(g:Gr H G H' G'):SR K H0 G0 σ H' G' ρ:=by
 refine⟨s.gr.trans g,s.len,λi d e=>?_,λi l e=>?_,s.ap,λi t ks vs e=>?_,s.apd⟩
 ·obtain⟨v,h1,h2⟩:=s.sh i d e
  exact⟨v,h1,h2.mono g.g⟩
 ·obtain⟨a,xs,h1,h2,h3,h4,h5⟩:=s.ow i l e
  exact⟨a,xs,h1,Ylq g h4 h2,h3,g.h _ _ h4,h5.mono g.g⟩
 ·obtain⟨a,kxs,vxs,h1,h2,h3,h4,h5,h6⟩:=s.od i t ks vs e
  obtain⟨o,h7,_⟩:=h4.some;exact⟨a,kxs,vxs,h1,Ylq g h7 h2,h3,h4.mono g.g λo=>g.h _ o,h5.mono g.g,h6.mono g.g⟩
def SR.seen(s:SR K H0 G0 σ H G ρ):Same G H:=s.gr.s
theorem Yp{α:Type}{l:List α}{x y:α}(h:(l.set i x)[j]?=some y):(j=i/\y=x/\i<l.length)\/(j≠i/\l[j]?=some y):=by grind
def SR.set_sh(s:SR K H0 G0 σ H G ρ)(i:Nat)(r:Rp K G d v):SR K H0 G0 (σ.set i (some v)) H G (ρ.set i (some (.sh d))):=by
 refine⟨s.gr,by simp[s.len],λj e h=>?_,λj l h=>?_,λj k l l' a b h1 h2 h3 h4 h5=>?_,λj t ks vs h=>?_,λj k t ks vs t' ks' vs' a b h1 h2 h3 h4 h5=>?_⟩
 ·rcases Yp h with⟨rfl,e1,hl⟩|⟨hj,h⟩
  ·cases e1
   exact⟨v,by rw[List.getElem?_set_self (by rw[s.len];exact hl)],r⟩
  ·obtain⟨w,q1,q2⟩:=s.sh j e h
   exact⟨w,by rw[Qf (Ne.symm hj)];exact q1,q2⟩
 ·rcases Yp h with⟨rfl,e1,hl⟩|⟨hj,h⟩
  ·cases e1
  ·obtain⟨a,xs,q1,q2⟩:=s.ow j l h
   exact⟨a,xs,by rw[Qf (Ne.symm hj)];exact q1,q2⟩
 ·rcases Yp h1 with⟨rfl,e1,_⟩|⟨hj,h1⟩
  ·cases e1
  ·rcases Yp h2 with⟨rfl,e1,_⟩|⟨hk,h2⟩
   ·cases e1
   ·rw[Qf (Ne.symm hj)]at h4
    rw[Qf (Ne.symm hk)]at h5;exact s.ap j k l l' a b h1 h2 h3 h4 h5
 ·rcases Yp h with⟨rfl,e1,hl⟩|⟨hj,h⟩
  ·cases e1
  ·obtain⟨a,kxs,vxs,q1,q2⟩:=s.od j t ks vs h
   exact⟨a,kxs,vxs,by rw[Qf (Ne.symm hj)];exact q1,q2⟩
 ·rcases Yp h1 with⟨rfl,e1,_⟩|⟨hj,h1⟩
  ·cases e1
  ·rcases Yp h2 with⟨rfl,e1,_⟩|⟨hk,h2⟩
   ·cases e1
   ·rw[Qf (Ne.symm hj)]at h4
    rw[Qf (Ne.symm hk)]at h5;exact s.apd j k t ks vs t' ks' vs' a b h1 h2 h3 h4 h5
def SR.set_ow(s:SR K H0 G0 σ H G ρ)(i:Nat)(g:Gr H G H' G')(hp:H p=none)(gp:G' p=none)(e:H' p=some (.lst xs))(r:RpL K G' l xs):SR K H0 G0 (σ.set i (some (.ref p))) H' G' (ρ.set i (some (.ow l))):=by
 have s':=s.grow g
 have np:∀(j:Nat) l a,ρ[j]?=some (some (B.ow l))->σ[j]?=some (some (V.ref a))->a≠p:=λj l a h1 h2 z=>by
  obtain⟨b,ys,q1,_,_,q4,_⟩:=s.ow j l h1;rw[h2]at q1;cases q1;rw[z,hp]at q4;cases q4
 refine⟨s'.gr,by simp[s.len],λj e h=>?_,λj l h=>?_,λj k l l' a b h1 h2 h3 h4 h5=>?_,λj t ks vs h=>?_,λj k t ks vs t' ks' vs' a b h1 h2 h3 h4 h5=>?_⟩
 ·rcases Yp h with⟨rfl,e1,hl⟩|⟨hj,h⟩
  ·cases e1
  ·obtain⟨w,q1,q2⟩:=s'.sh j e h
   exact⟨w,by rw[Qf (Ne.symm hj)];exact q1,q2⟩
 ·rcases Yp h with⟨rfl,e1,hl⟩|⟨hj,h⟩
  ·cases e1
   exact⟨p,xs,by rw[List.getElem?_set_self (by rw[s.len];exact hl)],gp,s.gr.h.free hp,e,r⟩
  ·obtain⟨a,xs,q1,q2⟩:=s'.ow j l h
   exact⟨a,xs,by rw[Qf (Ne.symm hj)];exact q1,q2⟩
 ·rcases Yp h1 with⟨rfl,e1,hl⟩|⟨hj,h1n⟩
  ·rcases Yp h2 with⟨rfl,e2,_⟩|⟨hk,h2⟩
   ·exact absurd rfl h3
   ·rw[List.getElem?_set_self (by rw[s.len];exact hl)]at h4
    cases h4;rw[Qf (Ne.symm hk)]at h5;exact Ne.symm (np k l' b h2 h5)
  ·rcases Yp h2 with⟨rfl,e2,hl⟩|⟨hk,h2⟩
   ·rw[List.getElem?_set_self (by rw[s.len];exact hl)]at h5
    cases h5;rw[Qf (Ne.symm hj)]at h4;exact np j l a h1n h4
   ·rw[Qf (Ne.symm hj)]at h4
    rw[Qf (Ne.symm hk)]at h5;exact s.ap j k l l' a b h1n h2 h3 h4 h5
 ·rcases Yp h with⟨rfl,e1,hl⟩|⟨hj,h⟩
  ·cases e1
  ·obtain⟨a,kxs,vxs,q1,q2⟩:=s'.od j t ks vs h
   exact⟨a,kxs,vxs,by rw[Qf (Ne.symm hj)];exact q1,q2⟩
 ·rcases Yp h1 with⟨rfl,e1,_⟩|⟨hj,h1⟩
  ·cases e1
  ·rcases Yp h2 with⟨rfl,e1,_⟩|⟨hk,h2⟩
   ·cases e1
   ·rw[Qf (Ne.symm hj)]at h4
    rw[Qf (Ne.symm hk)]at h5;exact s.apd j k t ks vs t' ks' vs' a b h1 h2 h3 h4 h5
theorem SR.set_od(s:SR K H0 G0 σ H G ρ)(i:Nat)(g:Gr H G H' G')(hp:H p=none)(gp:G' p=none)(e:Dc t G' H' p kxs vxs)(r1:RpL K G' ks kxs)(r2:RpL K G' vs vxs):SR K H0 G0 (σ.set i (some (.ref p))) H' G' (ρ.set i (some (.od t ks vs))):=by
 have s':=s.grow g
 have np:∀(j:Nat) t ks vs a,ρ[j]?=some (some (B.od t ks vs))->σ[j]?=some (some (V.ref a))->a≠p:=λj t ks vs a h1 h2 z=>by
  obtain⟨b,kxs,vxs,q1,_,_,q4,_⟩:=s.od j t ks vs h1;rw[h2]at q1;cases q1;obtain⟨o,q5,_⟩:=q4.some;grind
 refine⟨s'.gr,by simp[s.len],λj e h=>?_,λj l h=>?_,λj k l l' a b h1 h2 h3 h4 h5=>?_,λj t ks vs h=>?_,λj k t ks vs t' ks' vs' a b h1 h2 h3 h4 h5=>?_⟩
 ·rcases Yp h with⟨rfl,e1,hl⟩|⟨hj,h⟩
  ·cases e1
  ·obtain⟨w,q1,q2⟩:=s'.sh j e h
   grind
 ·rcases Yp h with⟨rfl,e1,hl⟩|⟨hj,h⟩
  ·cases e1
  ·obtain⟨a,xs,q1,q2⟩:=s'.ow j l h
   grind
 ·rcases Yp h1 with⟨rfl,e1,_⟩|⟨hj,h1⟩
  ·cases e1
  ·rcases Yp h2 with⟨rfl,e1,_⟩|⟨hk,h2⟩
   ·cases e1
   ·rw[Qf (Ne.symm hj)]at h4
    rw[Qf (Ne.symm hk)]at h5;exact s.ap j k l l' a b h1 h2 h3 h4 h5
 ·rcases Yp h with⟨rfl,e1,hl⟩|⟨hj,h⟩
  ·cases e1
   exact⟨p,kxs,vxs,by rw[List.getElem?_set_self (by rw[s.len];exact hl)],gp,s.gr.h.free hp,e,r1,r2⟩
  ·obtain⟨a,kxs,vxs,q1,q2⟩:=s'.od j t ks vs h
   grind
 ·rcases Yp h1 with⟨rfl,e1,hl⟩|⟨hj,h1n⟩
  ·grind
  ·rcases Yp h2 with⟨rfl,e2,hl⟩|⟨hk,h2⟩
   ·grind
   ·rw[Qf (Ne.symm hj)]at h4
    rw[Qf (Ne.symm hk)]at h5;exact s.apd j k t ks vs t' ks' vs' a b h1n h2 h3 h4 h5
theorem SR.mut(s:SR K H0 G0 σ H G ρ)(hi:ρ[i]?=some (some (B.ow l)))(ha:σ[i]?=some (some (V.ref a)))(r:RpL K G l' ys):SR K H0 G0 σ (upd H a (.lst ys)) G (ρ.set i (some (.ow l'))):=by
 obtain⟨a',xs,q1,q2,q3,q4,q5⟩:=s.ow i l hi;rw[ha]at q1;cases q1;have hl:i<ρ.length:=(qo hi).1;refine⟨⟨λb o e=>?_,s.gr.g,λb o e=>?_,s.gr.n⟩,by simp[s.len],λj e h=>?_,λj m h=>?_,λj k m m' b c h1 h2 h3 h4 h5=>?_,λj t ks vs h=>?_,λj k t ks vs t' ks' vs' b c h1 h2 h3 h4 h5=>?_⟩
 ·rw[Yaa (Yy e q3)];exact s.gr.h b o e
 ·rw[Yaa (Yy e q2)];exact s.gr.s b o e
 ·rcases Yp h with⟨rfl,e1,_⟩|⟨hj,h⟩
  ·cases e1
  ·exact s.sh j e h
 ·rcases Yp h with⟨rfl,e1,_⟩|⟨hj,h⟩
  ·cases e1
   exact⟨a,ys,ha,q2,q3,Yt,r⟩
  ·obtain⟨b,zs,p1,p2,p3,p4,p5⟩:=s.ow j m h
   exact⟨b,zs,p1,p2,p3,by rw[Yaa (s.ap j i m l b a h hi hj p1 ha)];exact p4,p5⟩
 ·have old:∀(j:Nat) m,(ρ.set i (some (.ow l')))[j]?=some (some (B.ow m))->∃m',ρ[j]?=some (some (B.ow m')):=λj m h=>by
   grind
  obtain⟨n1,e1⟩:=old j m h1;obtain⟨n2,e2⟩:=old k m' h2;exact s.ap j k n1 n2 b c e1 e2 h3 h4 h5
 ·rcases Yp h with⟨rfl,e1,_⟩|⟨hj,h⟩
  ·cases e1
  ·obtain⟨b,kxs,vxs,p1,p2,p3,p4,p5⟩:=s.od j t ks vs h
   refine⟨b,kxs,vxs,p1,p2,p3,p4.mono (Same.refl _) λo q=>?_,p5⟩;obtain⟨o',q',nl⟩:=p4.some;rw[q]at q';cases q';rw[Yaa (λz=>by grind)];exact q
 ·rcases Yp h1 with⟨rfl,e1,_⟩|⟨hj,h1⟩
  ·cases e1
  ·rcases Yp h2 with⟨rfl,e1,_⟩|⟨hk,h2⟩
   ·cases e1
   ·exact s.apd j k t ks vs t' ks' vs' b c h1 h2 h3 h4 h5
theorem SR.mutd(s:SR K H0 G0 σ H G ρ)(hi:ρ[i]?=some (some (B.od t ks vs)))(ha:σ[i]?=some (some (V.ref a)))(d:Dc t' G (upd H a o) a kxs vxs)(r1:RpL K G ks' kxs)(r2:RpL K G vs' vxs):SR K H0 G0 σ (upd H a o) G (ρ.set i (some (.od t' ks' vs'))):=by
 obtain⟨a',kxs0,vxs0,q1,q2,q3,q4,q5,q6⟩:=s.od i t ks vs hi;rw[ha]at q1;cases q1;obtain⟨o0,q7,nl⟩:=q4.some;have hl:i<ρ.length:=(qo hi).1;refine⟨⟨λb o e=>?_,s.gr.g,λb o e=>?_,s.gr.n⟩,by simp[s.len],λj e h=>?_,λj m h=>?_,λj k m m' b c h1 h2 h3 h4 h5=>?_,λj ta ka va h=>?_,λj k ta ka va tb kb vb b c h1 h2 h3 h4 h5=>?_⟩
 ·rw[Yaa (Yy e q3)];exact s.gr.h b o e
 ·rw[Yaa (Yy e q2)];exact s.gr.s b o e
 ·rcases Yp h with⟨rfl,e1,_⟩|⟨hj,h⟩
  ·cases e1
  ·exact s.sh j e h
 ·rcases Yp h with⟨rfl,e1,_⟩|⟨hj,h⟩
  ·cases e1
  ·obtain⟨b,zs,p1,p2,p3,p4,p5⟩:=s.ow j m h
   exact⟨b,zs,p1,p2,p3,by rw[Yaa (λz=>by grind)];exact p4,p5⟩
 ·rcases Yp h1 with⟨rfl,e1,_⟩|⟨hj,h1⟩
  ·cases e1
  ·rcases Yp h2 with⟨rfl,e1,_⟩|⟨hk,h2⟩
   ·cases e1
   ·exact s.ap j k m m' b c h1 h2 h3 h4 h5
 ·rcases Yp h with⟨rfl,e1,_⟩|⟨hj,h⟩
  ·grind
  ·obtain⟨b,kx,vx,p1,p2,p3,p4,p5⟩:=s.od j ta ka va h
   exact⟨b,kx,vx,p1,p2,p3,p4.mono (Same.refl _) λo q=>by rw[Yaa (s.apd j i _ _ _ _ _ _ b a h hi hj p1 ha)];exact q,p5⟩
 ·have old:∀(j:Nat) t2 k2 v2,(ρ.set i (some (.od t' ks' vs')))[j]?=some (some (B.od t2 k2 v2))->∃t3 k3 v3,ρ[j]?=some (some (B.od t3 k3 v3)):=λj t2 k2 v2 h=>by
   grind
  obtain⟨t1,k1,v1,e1⟩:=old j _ _ _ h1;obtain⟨t2,k2,v2,e2⟩:=old k _ _ _ h2;exact s.apd j k t1 k1 v1 t2 k2 v2 b c e1 e2 h3 h4 h5
theorem SR.freezeT(s:SR K H0 G0 σ H G ρ)(hi:ρ[i]?=some (some (B.ow l))):∃G',SR K H0 G0 σ H G' (ρ.set i (some (.sh (.lst l))))/\∀b ys,G' b=some (.tup ys)->G b=some (.tup ys):=by
 obtain⟨a,xs,q1,q2,q3,q4,q5⟩:=s.ow i l hi;have hl:i<ρ.length:=(qo hi).1
 have sm:Same G (upd G a (.lst xs)):=λb o e=>by rw[Yaa (Yy e q2)];exact e
 refine⟨upd G a (.lst xs),?_,λb ys e=>by
  by_cases z:b=a
  ·subst z;rw[Yt]at e;cases e
  ·rw[Yaa z]at e;exact e⟩
 refine⟨⟨s.gr.h,s.gr.g.trans sm,λb o e=>?_,λb h h'=>?_⟩,by simp[s.len],λj e h=>?_,λj m h=>?_,λj k m m' b c h1 h2 h3 h4 h5=>?_,λj t ks vs h=>?_,λj k t ks vs t' ks' vs' b c h1 h2 h3 h4 h5=>?_⟩
 ·by_cases z:b=a
  ·subst z;rw[Yt]at e;grind
  ·rw[Yaa z]at e;exact s.gr.s b o e
 ·by_cases z:b=a
  ·grind
  ·rw[Yaa z]at h';exact s.gr.n b h h'
 ·rcases Yp h with⟨rfl,e1,_⟩|⟨hj,h⟩
  ·cases e1
   exact⟨_,q1,by rw[Rp];exact⟨a,xs,rfl,.inl Yt,q5.mono sm⟩⟩
  ·obtain⟨v,p1,p2⟩:=s.sh j e h
   exact⟨v,p1,p2.mono sm⟩
 ·rcases Yp h with⟨rfl,e1,_⟩|⟨hj,h⟩
  ·cases e1
  ·obtain⟨b,zs,p1,p2,p3,p4,p5⟩:=s.ow j m h
   exact⟨b,zs,p1,by rw[Yaa (s.ap j i m l b a h hi hj p1 q1)];exact p2,p3,p4,p5.mono sm⟩
 ·rcases Yp h1 with⟨rfl,e1,_⟩|⟨hj,h1⟩
  ·cases e1
  ·rcases Yp h2 with⟨rfl,e1,_⟩|⟨hk,h2⟩
   ·cases e1
   ·exact s.ap j k m m' b c h1 h2 h3 h4 h5
 ·rcases Yp h with⟨rfl,e1,_⟩|⟨hj,h⟩
  ·cases e1
  ·obtain⟨b,kxs,vxs,p1,p2,p3,p4,p5,p6⟩:=s.od j t ks vs h
   obtain⟨o',q',nl⟩:=p4.some;exact⟨b,kxs,vxs,p1,by rw[Yaa (λz=>by grind)];exact p2,p3,p4.mono sm λ_ z=>z,p5.mono sm,p6.mono sm⟩
 ·rcases Yp h1 with⟨rfl,e1,_⟩|⟨hj,h1⟩
  ·cases e1
  ·rcases Yp h2 with⟨rfl,e1,_⟩|⟨hk,h2⟩
   ·cases e1
   ·exact s.apd j k t ks vs t' ks' vs' b c h1 h2 h3 h4 h5
def SR.freeze(s:SR K H0 G0 σ H G ρ)(hi:ρ[i]?=some (some (B.ow l))):∃G',SR K H0 G0 σ H G' (ρ.set i (some (.sh (.lst l)))):=by
 obtain⟨G',h,_⟩:=s.freezeT hi;exact⟨G',h⟩
theorem SR.freezedT(s:SR K H0 G0 σ H G ρ)(hi:ρ[i]?=some (some (B.od t ks vs))):∃G',SR K H0 G0 σ H G' (ρ.set i (some (.sh (.dct t ks vs))))/\∀b ys,G' b=some (.tup ys)->G b=some (.tup ys):=by
 obtain⟨a,kxs,vxs,q1,q2,q3,q4,q5,q6⟩:=s.od i t ks vs hi;obtain⟨o,q7,nl⟩:=q4.some;have hl:i<ρ.length:=(qo hi).1
 have sm:Same G (upd G a o):=λb o e=>by rw[Yaa (Yy e q2)];exact e
 obtain⟨oT,q8,nt⟩:=q4.someT;rw[q7]at q8;cases q8
 refine⟨upd G a o,?_,λb ys e=>by
  by_cases z:b=a
  ·subst z;rw[Yt]at e;grind
  ·rw[Yaa z]at e;exact e⟩
 refine⟨⟨s.gr.h,s.gr.g.trans sm,λb o' e=>?_,λb h h'=>?_⟩,by simp[s.len],λj e h=>?_,λj m h=>?_,λj k m m' b c h1 h2 h3 h4 h5=>?_,λj t ks vs h=>?_,λj k t ks vs t' ks' vs' b c h1 h2 h3 h4 h5=>?_⟩
 ·by_cases z:b=a
  ·subst z;rw[Yt]at e;grind
  ·rw[Yaa z]at e;exact s.gr.s b o' e
 ·by_cases z:b=a
  ·grind
  ·rw[Yaa z]at h';exact s.gr.n b h h'
 ·rcases Yp h with⟨rfl,e1,_⟩|⟨hj,h⟩
  ·cases e1
   refine⟨_,q1,?_⟩;rw[Rp];refine⟨a,kxs,vxs,rfl,q4.mono sm λo' z=>?_,q5.mono sm,q6.mono sm⟩;rw[q7]at z;rw[Yt];exact z
  ·obtain⟨v,p1,p2⟩:=s.sh j e h
   exact⟨v,p1,p2.mono sm⟩
 ·rcases Yp h with⟨rfl,e1,_⟩|⟨hj,h⟩
  ·cases e1
  ·obtain⟨b,zs,p1,p2,p3,p4,p5⟩:=s.ow j m h
   exact⟨b,zs,p1,by rw[Yaa (λz=>by grind)];exact p2,p3,p4,p5.mono sm⟩
 ·rcases Yp h1 with⟨rfl,e1,_⟩|⟨hj,h1⟩
  ·cases e1
  ·rcases Yp h2 with⟨rfl,e1,_⟩|⟨hk,h2⟩
   ·cases e1
   ·exact s.ap j k m m' b c h1 h2 h3 h4 h5
 ·rcases Yp h with⟨rfl,e1,_⟩|⟨hj,h⟩
  ·cases e1
  ·obtain⟨b,kx,vx,p1,p2,p3,p4,p5,p6⟩:=s.od j t ks vs h
   exact⟨b,kx,vx,p1,by rw[Yaa (s.apd j i _ _ _ _ _ _ b a h hi hj p1 q1)];exact p2,p3,p4.mono sm λ_ z=>z,p5.mono sm,p6.mono sm⟩
 ·rcases Yp h1 with⟨rfl,e1,_⟩|⟨hj,h1⟩
  ·cases e1
  ·rcases Yp h2 with⟨rfl,e1,_⟩|⟨hk,h2⟩
   ·cases e1
   ·exact s.apd j k t ks vs t' ks' vs' b c h1 h2 h3 h4 h5
def SR.freezed(s:SR K H0 G0 σ H G ρ)(hi:ρ[i]?=some (some (B.od t ks vs))):∃G',SR K H0 G0 σ H G' (ρ.set i (some (.sh (.dct t ks vs)))):=by
 obtain⟨G',h,_⟩:=s.freezedT hi;exact⟨G',h⟩
def Le(ρ ρ':Ro):Prop:=ρ.length=ρ'.length/\∀(i:Nat) b,ρ[i]?=some (some b)->ρ'[i]?=some (some b)
def SR.le(s:SR K H0 G0 σ H G ρ')(h:Le ρ ρ'):SR K H0 G0 σ H G ρ:=
 ⟨s.gr,s.len.trans h.1.symm,λi d e=>s.sh i d (h.2 i _ e),λi l e=>s.ow i l (h.2 i _ e),λi j l l' a b e1 e2=>s.ap i j l l' a b (h.2 i _ e1) (h.2 j _ e2),
  λi t ks vs e=>s.od i t ks vs (h.2 i _ e),λi j t ks vs t' ks' vs' a b e1 e2=>s.apd i j t ks vs t' ks' vs' a b (h.2 i _ e1) (h.2 j _ e2)⟩
theorem SR.rebase(s:SR K H0 G0 σ H G ρ):∃H1,SR K H1 G σ H G ρ/\∀σ' H' G' ρ',SR K H1 G σ' H' G' ρ'->SR K H0 G0 σ' H' G' ρ':=by
 classical
 let own:Addr->Prop:=λa=>∃(i:Nat),((∃l:AR,ρ[i]?=some (some (B.ow l)))\/(∃t ks vs,ρ[i]?=some (some (B.od t ks vs))))/\σ[i]?=some (some (V.ref a))
 have h0:∀a,own a->H0 a=none:=λa hx_=>by
  obtain⟨i,e1,e2⟩:=hx_;rcases e1 with⟨l,e1⟩|⟨t,ks,vs,e1⟩
  ·obtain⟨b,xs,q1,_,q3,_⟩:=s.ow i l e1
   grind
  ·obtain⟨b,kxs,vxs,q1,_,q3,_⟩:=s.od i t ks vs e1
   grind
 have back:∀a,(if own a then (none:Option HO)else H a)=none->H0 a=none:=λa h=>by
  by_cases o:own a
  ·exact h0 a o
  ·rw[if_neg o]at h;exact s.gr.h.free h
 refine⟨λa=>if own a then none else H a,⟨⟨λb o e=>?_,Same.refl _,s.gr.s,λ_ h h'=>absurd h h'⟩,s.len,s.sh,λi l e=>?_,s.ap,λi t ks vs e=>?_,s.apd⟩,λσ' H' G' ρ' t=>⟨⟨λb o e=>?_,s.gr.g.trans t.gr.g,t.gr.s,λb h h'=>?_⟩,t.len,t.sh,λi l e=>?_,t.ap,λi t1 ks vs e=>?_,t.apd⟩⟩
 ·simp_all
 ·obtain⟨a,xs,q1,q2,q3,q4,q5⟩:=s.ow i l e
  exact⟨a,xs,q1,q2,if_pos ⟨i,.inl ⟨l,e⟩,q1⟩,q4,q5⟩
 ·obtain⟨a,kxs,vxs,q1,q2,q3,q4⟩:=s.od i t ks vs e
  exact⟨a,kxs,vxs,q1,q2,if_pos ⟨i,.inr ⟨t,ks,vs,e⟩,q1⟩,q4⟩
 ·refine t.gr.h b o ?_
  have z:¬own b:=λz=>by grind
  show(if own b then none else H b)=some o;rw[if_neg z];exact s.gr.h b o e
 ·by_cases z:G b=none
  ·exact back b (t.gr.n b z h')
  ·exact s.gr.n b h z
 ·obtain⟨a,xs,q1,q2,q3,q4,q5⟩:=t.ow i l e
  grind
 ·obtain⟨a,kxs,vxs,q1,q2,q3,q4⟩:=t.od i t1 ks vs e
  grind
end
def tOf(K:W.Frag)(f:AX):TE:=λσ H Q=>∃ρ d H0 G0 G,f ρ=some d/\SR K H0 G0 σ H G ρ/\∀v H' G',Gr H G H' G'->Rp K G' d v->Q v H'
def tCof(K:W.Frag)(f:AX):TE:=λσ H Q=>∃ρ d H0 G0 G,f ρ=some d/\SR K H0 G0 σ H G ρ/\∀v H' G',Gr H G H' G'->Ct K G' H' d v->Q v H'
def tCAof(K:W.Frag)(f:AY):TA:=λσ H Q=>∃ρ l H0 G0 G,f ρ=some l/\SR K H0 G0 σ H G ρ/\∀vs H' G',Gr H G H' G'->CtL K G' H' l vs->Q vs H'
def tFof(K:W.Frag)(f:AY):TE:=λσ H Q=>∃ρ l H0 G0 G,f ρ=some l/\SR K H0 G0 σ H G ρ/\∀p xs H' G',Gr H G H' G'->H p=none->G' p=none->H' p=some (.lst xs)->RpL K G' l xs->Q (.ref p) H'
def tTof(K:W.Frag)(f:AW):TT:=λσ H Q=>∃ρ b H0 G0 G,f ρ=some b/\SR K H0 G0 σ H G ρ/\∀H' G',Gr H G H' G'->Q b H'
def tAof(K:W.Frag)(f:AY):TA:=λσ H Q=>∃ρ l H0 G0 G,f ρ=some l/\SR K H0 G0 σ H G ρ/\∀vs H' G',Gr H G H' G'->RpL K G' l vs->Q vs H'
def Wk(K:W.Frag)(J:It)(G':Hp)(ds:AR):Prop:=ds.length<=sizeLine/\∀(i:Nat) H2 G2,Same G' G2->Same G2 H2->
 (∀d,ds[i]?=some d->J.go i H2/\∀y H3,J.yld i H2 y H3->∃G3,Gr H2 G2 H3 G3/\Rp K G3 d y)/\(ds.length<=i->J.stop i H2)
def tIof(K:W.Frag)(f:AY):TI:=λσ H R=>∃ρ ds H0 G0 G,f ρ=some ds/\SR K H0 G0 σ H G ρ/\∀J H' G',Gr H G H' G'->Wk K J G' ds->R J H'
inductive Out where
 | nx (ρ:Ro)|rt (d:D)|bk (ρ:Ro)|ct (ρ:Ro)
abbrev AU:=Ro->Option Out
def Cont(K:W.Frag)(H0 G0:Hp)(F:Ends):Out->Prop
 | .nx ρ'=>∀σ' H' G',SR K H0 G0 σ' H' G' ρ'->F.nx σ' H'
 | .rt d=>∀v H' G',Gr H0 G0 H' G'->Rp K G' d v->F.rt v H'
 | .bk ρ'=>∀σ' H' G',SR K H0 G0 σ' H' G' ρ'->F.bk σ' H'
 | .ct ρ'=>∀σ' H' G',SR K H0 G0 σ' H' G' ρ'->F.ct σ' H'
def sOf(K:W.Frag)(f:AU):TS:=λF σ H=>∃ρ out H0 G0 G,f ρ=some out/\SR K H0 G0 σ H G ρ/\Cont K H0 G0 F out
def gOf(K:W.Frag)(gt:AV):TG:=λv σ H Q=>∃d ρ ρ' H0 G0 G,gt d ρ=some ρ'/\SR K H0 G0 σ H G ρ/\Rp K G d v/\∀σ',SR K H0 G0 σ' H G ρ'->Q σ' H
abbrev ME(X:Cx)(e:Expr)(f:AX):Prop:=PE X e (tOf X.K f)
abbrev MC(X:Cx)(e:Expr)(f:AX):Prop:=PE X e (tCof X.K f)
abbrev MCA(X:Cx)(es:AM)(f:AY):Prop:=PA X es (tCAof X.K f)
abbrev MF(X:Cx)(e:Expr)(f:AY):Prop:=PE X e (tFof X.K f)
abbrev MT(X:Cx)(e:Expr)(f:AW):Prop:=PT X e (tTof X.K f)
abbrev MA(X:Cx)(es:AM)(f:AY):Prop:=PA X es (tAof X.K f)
abbrev MI(X:Cx)(tg iter:Expr)(f:AY):Prop:=PI X tg iter (tIof X.K f)
abbrev MS(X:Cx)(st:Stmt)(f:AU):Prop:=PS X st (sOf X.K f)
abbrev MB(X:Cx)(sts:List Stmt)(f:AU):Prop:=PSs X sts (sOf X.K f)
abbrev MG(X:Cx)(tg:Expr)(gt:AV):Prop:=PG X tg (gOf X.K gt)
section
variable {X:Cx}
def PE.imp(h:PE X e t)(i:∀σ H Q,t' σ H Q->t σ H Q):PE X e t':=λpins s σ H Q I hw=>h pins s σ H Q I (i σ H Q hw)
def PT.imp(h:PT X e t)(i:∀σ H Q,t' σ H Q->t σ H Q):PT X e t':=λpins s σ H Q I hw=>h pins s σ H Q I (i σ H Q hw)
def PA.imp(h:PA X es t)(i:∀σ H Q,t' σ H Q->t σ H Q):PA X es t':=λpos pins s σ H Q I hw=>h pos pins s σ H Q I (i σ H Q hw)
def PS.imp{st:Stmt}(h:PS X st t)(i:∀F σ H,t' F σ H->t F σ H):PS X st t':=λpins s σ H F I hw=>h pins s σ H F I (i F σ H hw)
def PSs.imp{st:List Stmt}(h:PSs X st t)(i:∀F σ H,t' F σ H->t F σ H):PSs X st t':=λpins s σ H F I hw=>h pins s σ H F I (i F σ H hw)
def PI.imp(h:PI X tg e t)(i:∀σ H R,t' σ H R->t σ H R):PI X tg e t':=λpins s σ H R I hw=>h pins s σ H R I (i σ H R hw)
def PG.imp(h:PG X e t)(i:∀v σ H Q,t' v σ H Q->t v σ H Q):PG X e t':=λpins s σ H v u Q I r hw=>h pins s σ H v u Q I r (i v σ H Q hw)
variable {H0 G0 H G:Hp}{σ:L2.St}{ρ:Ro}
def tOf.at(e:f ρ=some d)(s:SR K H0 G0 σ H G ρ)(h:∀v H' G',Gr H G H' G'->Rp K G' d v->SR K H0 G0 σ H' G' ρ->Q v H'):tOf K f σ H Q:=
 ⟨ρ,d,H0,G0,G,e,s,λv H' G' g r=>h v H' G' g r (s.grow g)⟩
def tCof.at(e:f ρ=some d)(s:SR K H0 G0 σ H G ρ)(h:∀v H' G',Gr H G H' G'->Ct K G' H' d v->SR K H0 G0 σ H' G' ρ->Q v H'):tCof K f σ H Q:=
 ⟨ρ,d,H0,G0,G,e,s,λv H' G' g r=>h v H' G' g r (s.grow g)⟩
def tCAof.at(e:f ρ=some l)(s:SR K H0 G0 σ H G ρ)(h:∀vs H' G',Gr H G H' G'->CtL K G' H' l vs->SR K H0 G0 σ H' G' ρ->Q vs H'):tCAof K f σ H Q:=
 ⟨ρ,l,H0,G0,G,e,s,λv H' G' g r=>h v H' G' g r (s.grow g)⟩
def ME.mc(h:ME X e f):MC X e f:=PE.imp h λσ H Q ⟨ρ,d,H0,G0,G,e,s,h⟩=>⟨ρ,d,H0,G0,G,e,s,λv H' G' g r=>h v H' G' g (.of g.s r)⟩
def tTof.at(e:f ρ=some b)(s:SR K H0 G0 σ H G ρ)(h:∀H' G',Gr H G H' G'->SR K H0 G0 σ H' G' ρ->Q b H'):tTof K f σ H Q:=
 ⟨ρ,b,H0,G0,G,e,s,λH' G' g=>h H' G' g (s.grow g)⟩
def tAof.at(e:f ρ=some l)(s:SR K H0 G0 σ H G ρ)(h:∀vs H' G',Gr H G H' G'->RpL K G' l vs->SR K H0 G0 σ H' G' ρ->Q vs H'):tAof K f σ H Q:=
 ⟨ρ,l,H0,G0,G,e,s,λv H' G' g r=>h v H' G' g r (s.grow g)⟩
end
end
section
variable {K:W.Frag}
noncomputable def b2{α:Type}(fa fb:AX)(g:D->D->Option α):Ro->Option α:=λρ=>(fa ρ).bind λx=>(fb ρ).bind λy=>g x y
def b1{α:Type}(fa:AX)(g:D->Option α):Ro->Option α:=λρ=>(fa ρ).bind g
theorem Ylr(h:b2 fa fb g ρ=some r):∃x y,fa ρ=some x/\fb ρ=some y/\g x y=some r:=by
 unfold b2 at h;obtain⟨x,h1,h⟩:=qa h;obtain⟨y,h2,h⟩:=qa h;grind
theorem Ycl(h:b1 fa g ρ=some r):∃x,fa ρ=some x/\g x=some r:=by
 unfold b1 at h;obtain⟨x,h1,h⟩:=qa h;grind
def Sem2(K:W.Frag)(r:R2)(g:D->D->Option D):Prop:=∀(x y:V) (dx dy d:D) (H G:Hp) (Q:VK),g dx dy=some d->Same G H->Ct K G H dx x->Ct K G H dy y->(∀v H' G',Gr H G H' G'->Rp K G' d v->Q v H')->r x y H Q
def Yhe(K:W.Frag)(r:R2)(g:D->D->Option Bool):Prop:=∀(x y:V) (dx dy:D) (b:Bool) (H G:Hp) (Q:VK),g dx dy=some b->Same G H->Ct K G H dx x->Ct K G H dy y->Q (.bl b) H->r x y H Q
def SemC(K:W.Frag)(r:AQ->Hp->VK->Prop)(g:AR->Option D):Prop:=∀(vs:AQ) (ds:AR) (d:D) (H G:Hp) (Q:VK),g ds=some d->Same G H->CtL K G H ds vs->(∀v H' G',Gr H G H' G'->Rp K G' d v->Q v H')->r vs H Q
def SemF(K:W.Frag)(r:AQ->Hp->VK->Prop)(g:AR->Option AR):Prop:=∀(vs:AQ) (ds l:AR) (H G:Hp) (Q:VK),g ds=some l->Same G H->CtL K G H ds vs->
 (∀p xs H' G',Gr H G H' G'->H p=none->G' p=none->H' p=some (.lst xs)->RpL K G' l xs->Q (.ref p) H')->r vs H Q
section
variable {X:Cx}{a b c e:Expr}{es:AM}{fa fb fc f:AX}{ga:AY}{pos:Pos}
noncomputable def getV(i:Nat):AX:=λρ=>match ρ[i]? with
 | some (some (B.sh d))=>some d
 | _=>none
def getO(i:Nat):AY:=λρ=>match ρ[i]? with
 | some (some (B.ow l))=>some l
 | _=>none
theorem Yrj(h:getV i ρ=some d):ρ[i]?=some (some (B.sh d)):=by
 unfold getV at h;grind
theorem Ygd(h:getO i ρ=some l):ρ[i]?=some (some (B.ow l)):=by
 unfold getO at h;grind
noncomputable def getC(i:Nat):AX:=λρ=>match ρ[i]? with
 | some (some (B.sh d))=>some d
 | some (some (B.ow l))=>some (.lst l)
 | some (some (B.od t ks vs))=>some (.dct t ks vs)
 | _=>none
noncomputable def kD(d:D):AX:=λ_=>some d
def Yk5(h:PE X e t)(ht:∀σ H Q,Q v H->t σ H Q)(hr:∀G,Rp X.K G d v):ME X e (kD d):=
 PE.imp h λσ H Q hx_=>by
  obtain⟨ρ,d',H0,G0,G,e,s,h⟩:=hx_;cases e;exact ht σ H Q (h v H G (.refl s.seen) (hr G))
def y6w{j}:ME X (.Constant (.int i) j pos) (kD (.int i)):=Yk5 (v:=.int i) Yaay (λ_ _ _ q=>q) λ_=>by rw[Rp]
def Yafk{j}:ME X (.Constant (.bool k) j pos) (kD (.bl k)):=Yk5 (v:=.bl k) Yae1 (λ_ _ _ q=>q) λ_=>by rw[Rp]
def Yab8{j}:ME X (.Constant .none j pos) (kD .non):=Yk5 (v:=.non) Yaaz (λ_ _ _ q=>q) λ_=>by rw[Rp]
def y6x(hr:Sem2 K r g)(h:tOf K (b2 fa fb g) σ H Q):tOp r (tCof K fa) (tCof K fb) σ H Q:=by
 obtain⟨ρ,d,H0,G0,G,e,s,h⟩:=h;obtain⟨dx,dy,h1,h2,h3⟩:=Ylr e;exact tCof.at h1 s λv H1 G1 g1 r1 s1=>tCof.at h2 s1 λu H2 G2 g2 r2 s2=>hr v u dx dy d H2 G2 Q h3 s2.seen (r1.grow g2) r2 λw H' G' g3 r3=>h w H' G' ((g1.trans g2).trans g3) r3
def y8j(hr:Yhe K r g)(h:tTof K (b2 fa fb g) σ H Q):Yabl (tOp r (tCof K fa) (tCof K fb)) σ H Q:=by
 obtain⟨ρ,d,H0,G0,G,e,s,h⟩:=h;obtain⟨dx,dy,h1,h2,h3⟩:=Ylr e;exact tCof.at h1 s λv H1 G1 g1 r1 s1=>tCof.at h2 s1 λu H2 G2 g2 r2 s2=>hr v u dx dy d H2 G2 _ h3 s2.seen (r1.grow g2) r2 ⟨d,rfl,h H2 G2 (g1.trans g2)⟩
def mB(f:AW):AX:=λρ=>(f ρ).map D.bl
theorem Yt6{f:AW}(h:mB f ρ=some d):∃b,f ρ=some b/\d=.bl b:=by
 unfold mB at h;obtain⟨b,h1,h2⟩:=qc h;grind
def y4n(hr:Yhe K r g)(h:tOf K (mB (b2 fa fb g)) σ H Q):tOp r (tCof K fa) (tCof K fb) σ H Q:=by
 obtain⟨ρ,d,H0,G0,G,e,s,h⟩:=h;obtain⟨b,eb,rfl⟩:=Yt6 e;obtain⟨dx,dy,h1,h2,h3⟩:=Ylr eb;exact tCof.at h1 s λv H1 G1 g1 r1 s1=>tCof.at h2 s1 λu H2 G2 g2 r2 s2=>hr v u dx dy b H2 G2 _ h3 s2.seen (r1.grow g2) r2 (h _ H2 G2 (g1.trans g2) (by rw[Rp]))
def Yod(ho:OpR X (binaryOp op) r)(hr:Sem2 X.K r g)(ha:MC X a fa)(hb:MC X b fb):ME X (.BinOp a op b pos) (b2 fa fb g):=PE.imp (y38 ho ha hb) λ_ _ _ h=>y6x hr h
def Yoe(ho:OpR X (compareOp op) r)(hr:Yhe X.K r g)(ha:MC X a fa)(hb:MC X b fb)(hm:behindInMarks op b=false):ME X (.Compare a [op] [b] pos) (mB (b2 fa fb g)):=PE.imp (y70 ho ha hb hm) λ_ _ _ h=>y4n hr h
def Ye9(ho:OpR X (compareOp op) r)(hr:Yhe X.K r g)(ha:MC X a fa)(hb:MC X b fb)(hm:behindInMarks op b=false):MT X (.Compare a [op] [b] pos) (b2 fa fb g):=PT.imp (y71 ho ha hb hm) λ_ _ _ h=>y8j hr h
def y8k(hi:IxR X r)(hr:Sem2 X.K r g)(ha:MC X a fa)(hb:MC X b fb)(hs:Ye1 b):ME X (.Subscript a b pos) (b2 fa fb g):=PE.imp (Yafi hi ha hb hs) λ_ _ _ h=>y6x hr h
def i2(C:Int->Int->Bool)(g:Int->Int->Int):D->D->Option D
 | .int i,.int j=>if C i j=true then some (.int (g i j))else none
 | _,_=>none
def i2b(g:Int->Int->Bool):D->D->Option Bool
 | .int i,.int j=>some (g i j)
 | _,_=>none
def Yv8(hC:∀i j,Cb i j=true->C i j):Sem2 K (rI C λi j=>.int (g i j)) (i2 Cb g):=by
 intro x y dx dy d H G Q h s rx ry q;unfold i2 at h
 split at h
 ·split at h
  ·rename_i i j hc
   cases h;rw[Ct]at rx ry;subst rx;subst ry;exact⟨i,j,rfl,rfl,hC i j hc,q _ H G (.refl s) (by rw[Rp])⟩
  ·cases h
 ·cases h
def Yz6:Sem2 K (rI0 λi j=>.int (g i j)) (i2 (λ_ _=>true) g):=by
 intro x y dx dy d H G Q h s rx ry q;unfold i2 at h
 split at h
 ·split at h
  ·rename_i i j hc
   cases h;rw[Ct]at rx ry;subst rx;subst ry;exact⟨i,j,rfl,rfl,q _ H G (.refl s) (by rw[Rp])⟩
  ·cases h
 ·cases h
def Ype:Yhe K (rI0 λi j=>.bl (g i j)) (i2b g):=by
 intro x y dx dy d H G Q h s rx ry q;unfold i2b at h
 split at h
 ·rename_i i j
  cases h;rw[Ct]at rx ry;subst rx;subst ry;exact⟨i,j,rfl,rfl,q⟩
 ·cases h
def addI:D->D->Option D:=i2 (λ_ _=>true) λi j=>i+j
def subI:D->D->Option D:=i2 (λ_ _=>true) λi j=>i-j
def mulI:D->D->Option D:=i2 (λi j=>(decide (-(2^64)<i)&&decide (i<2^64))||(decide (-(2^64)<j)&&decide (j<2^64))) λi j=>i*j
def divI:D->D->Option D:=i2 (λ_ j=>decide (0<j)&&decide (j<1073741824)) λi j=>i/j
def modI:D->D->Option D:=i2 (λ_ j=>decide (0<j)) λi j=>i%j
def ltI:=i2b λi j=>decide (i<j)
def leI:=i2b λi j=>decide (i<=j)
def gtI:=i2b λi j=>decide (j<i)
mutual
def dep:D->Nat
 | .tup l=>depL l+1
 | .lst l=>depL l+1
 | .scr _=>1
 | .dct _ _ _=>1000
 | .obj _ _ _=>1000
 | .adr _=>1000
 | _=>0
def depL:AR->Nat
 | []=>0
 | d::l=>max (dep d) (depL l)
end
mutual
theorem Yfa:∀d:D,(toPy d).depth<=dep d
 | .non=>by simp[toPy,PyData.depth,dep]
 | .bl b=>by simp[toPy,PyData.depth,dep]
 | .int b=>by simp[toPy,PyData.depth,dep]
 | .str b=>by simp[toPy,PyData.depth,dep]
 | .tup l=>by have:=Yd9 l;simp[toPy,PyData.depth,dep];lia
 | .lst l=>by have:=Yd9 l;simp[toPy,PyData.depth,dep];lia
 | .scr ns=>by rw[toPy,PyData.depth,dep,W.ke_depthAll];grind
 | .dct _ _ _=>by simp[toPy,PyData.depth,dep]
 | .obj _ _ _=>by simp[toPy,PyData.depth,dep]
 | .adr _=>by simp[toPy,PyData.depth,dep]
theorem Yd9:∀l:AR,PyData.depthAll (Yd8 l)<=depL l
 | []=>by simp[Yd8,PyData.depthAll,depL]
 | d::l=>by have h1:=Yfa d;have h2:=Yd9 l;simp[Yd8,PyData.depthAll,depL];lia
end
section
variable {pins:AC}{σ:L2.St}{H:Hp}{s:Shared}
mutual
theorem Ydv(I:Inv X pins σ H s):∀{d:D}{v:V}{u:Value},dep d<=100->Rp X.K H d v->RelV v u->∃as,Reads s.heap u (toPy d) as/\(toPy d).canLay0=true
 | .non,v,u,_,r,q=>by
   rw[Rp]at r;subst r;cases q;exact⟨_,by rw[toPy];exact .none,by simp[toPy,PyData.canLay0]⟩
 | .bl b,v,u,_,r,q=>by
   rw[Rp]at r;subst r;cases q;exact⟨_,by rw[toPy];exact .bool b,by simp[toPy,PyData.canLay0]⟩
 | .int i,v,u,_,r,q=>by
   rw[Rp]at r;subst r;obtain⟨t,rfl⟩:=q;exact⟨_,by rw[toPy];exact .int i t,by simp[toPy,PyData.canLay0]⟩
 | .str x,v,u,_,r,q=>by
   rw[Rp]at r;obtain⟨rfl,hx⟩:=r;obtain⟨t,rfl⟩:=q;exact⟨_,by rw[toPy];exact .str x t,by simp[toPy,PyData.canLay0,hx]⟩
 | .tup l,v,u,hd,r,q=>by
   rw[Rp]at r;obtain⟨a,xs,rfl,g,rl⟩:=r;cases q
   obtain⟨_,its,rv,ht⟩:=(show ObjOk X.prog X.w H s.heap a (.tup xs) from I.hok a _ g)
   obtain⟨o,h1,h2,n,h3⟩:=ht;obtain⟨as,q,hc⟩:=Yls I (by simp only[dep]at hd;lia) rl rv;exact⟨_,by rw[toPy];exact .tuple h1 h2 h3 (by simpa using q),by simpa [toPy,PyData.canLay0]using hc⟩
 | .lst l,v,u,hd,r,q=>by
   rw[Rp]at r;obtain⟨a,xs,rfl,g,rl⟩:=r;cases q;obtain⟨its,rv,pl,_⟩:=I.list (.inl g);obtain⟨o,h1,h2,n,h3⟩:=pl.isList;obtain⟨as,q,hc⟩:=Yls I (by simp only[dep]at hd;lia) rl rv;exact⟨_,by rw[toPy];exact .list h1 h2 h3 (by simpa using q),by simpa [toPy,PyData.canLay0]using hc⟩
 | .dct _ _ _,v,u,hd,r,q=>by simp[dep]at hd
 | .obj _ _ _,v,u,hd,r,q=>by simp[dep]at hd
 | .adr _,v,u,hd,r,q=>by simp[dep]at hd
 | .scr ns,v,u,_,r,q=>by
   rw[Rp]at r;obtain⟨a,rfl,g⟩:=r;cases q;obtain⟨its,rv,pl,_⟩:=I.list g;exact⟨_,by rw[toPy];exact W.reads_of_ints pl.isList (Ygy rv),by rw[toPy];simp[PyData.canLay0,W.ke_canLayAll0]⟩
theorem Yls(I:Inv X pins σ H s):∀{l:AR}{xs:AQ}{us:AD},depL l<=100->RpL X.K H l xs->Vals xs us->∃as,ReadsAll s.heap us (Yd8 l) as/\PyData.canLayAll0 (Yd8 l)=true
 | [],xs,us,_,r,q=>by
   rw[RpL]at r;subst r;cases q;exact⟨_,by rw[Yd8];exact .nil,by simp[Yd8,PyData.canLayAll0]⟩
 | d::l,xs,us,hd,r,q=>by
   rw[RpL]at r;obtain⟨x,xs,rfl,r1,r2⟩:=r;rw[depL]at hd
   cases q with
   | cons q1 q2=>
     obtain⟨as,h1,h2⟩:=Ydv I (by lia) r1 q1;obtain⟨bs,h3,h4⟩:=Yls I (by lia) r2 q2;exact⟨_,by rw[Yd8];exact .cons h1 h3,by simp[Yd8,PyData.canLayAll0,h2,h4]⟩
end
end
theorem Yfb(l:AR)(d:D):((Yd8 l).any λy=>PyData.eqv y (toPy d))=l.any λy=>eqD y d:=by
 induction l with
 | nil=>simp[Yd8]
 | cons e l ih=>
   rw[Yd8,List.any_cons,List.any_cons,ih];rfl
def eqM(neg:Bool):D->D->Option Bool:=λd e=>if dep d<=60/\dep e<=60 then some (if neg then !eqD d e else eqD d e)else none
def rEqD(K:W.Frag)(neg:Bool):R2:=λx y H Q=>∃d e,Rp K H d x/\Rp K H e y/\(dep d<=60/\dep e<=60)/\Q (.bl (if neg then !eqD d e else eqD d e)) H
theorem y6y(hu:X.A.units+64<cLine):OpR X (compareOp .Eq) (rEqD X.K false):=by
 intro pins s σ H x y v u Q I rx ry h;obtain⟨d,e,r1,r2,hd,q⟩:=h;obtain⟨as,h1,h2⟩:=Ydv I (by lia) r1 rx;obtain⟨bs,h3,h4⟩:=Ydv I (by lia) r2 ry;exact SeqAt.eqOverData X.prog X.w X.A X.xe s v u _ _ as bs _ h1 h3 h2 h4 (by have:=Yfa d;grind) ⟨.bl _,H,I,rfl,by exact q⟩
theorem y6z(hu:X.A.units+64<cLine):OpR X (compareOp .NotEq) (rEqD X.K true):=by
 intro pins s σ H x y v u Q I rx ry h;obtain⟨d,e,r1,r2,hd,q⟩:=h;obtain⟨as,h1,h2⟩:=Ydv I (by lia) r1 rx;obtain⟨bs,h3,h4⟩:=Ydv I (by lia) r2 ry;exact SeqAt.neOverData X.prog X.w X.A X.xe s v u _ _ as bs _ h1 h3 h2 h4 (by have:=Yfa d;grind) ⟨.bl _,H,I,rfl,by exact q⟩
theorem Ypf:Yhe K (rEqD K neg) (eqM neg):=by
 intro x y dx dy b H G Q h s rx ry q;unfold eqM at h
 split at h
 ·cases h
  exact⟨dx,dy,rx.rp s,ry.rp s,by assumption,q⟩
 ·cases h
def Yn:D->Option AR
 | .tup l=>some l
 | .lst l=>some l
 | .scr ns=>some (ns.map D.int)
 | _=>none
def inD(d:D)(l:AR):Bool:=l.any λy=>eqD y d
def inM(neg:Bool):D->D->Option Bool:=λd c=>(Yn c).bind λl=>if depL l<=60/\dep d<=60 then some (if neg then !inD d l else inD d l)else none
def rInD(K:W.Frag)(neg:Bool):R2:=λx y H Q=>∃d c l,Rp K H d x/\Rp K H c y/\Yn c=some l/\(depL l<=60/\dep d<=60)/\Q (.bl (if neg then !inD d l else inD d l)) H
theorem Yaw{c:D}(h:Yn c=some l):c=.tup l\/c=.lst l\/∃ns,c=.scr ns/\l=ns.map D.int:=by
 cases c with
 | tup m=>cases h;grind
 | lst m=>cases h;grind
 | scr ns=>cases h;grind
 | non=>cases h
 | bl _=>cases h
 | int _=>cases h
 | str _=>cases h
 | dct _ _ _=>cases h
 | obj _ _ _=>cases h
 | adr _=>cases h
theorem Yjq:∀ns:AH,Yd8 (ns.map D.int)=ns.map PyData.int
 | []=>by simp[Yd8]
 | n::ns=>by simp[Yd8,toPy,Yjq ns]
theorem y60(hu:X.A.units+64<cLine):OpR X (compareOp .In) (rInD X.K false):=by
 intro pins s σ H x y v u Q I rx ry h;obtain⟨d,c,l,r1,r2,hc,hd,q⟩:=h;obtain⟨as,h1,h2⟩:=Ydv I (by lia) r1 rx
 have hdc:dep c<=61:=by
  rcases Yaw hc with rfl|rfl|⟨ns,rfl,rfl⟩
  ·rw[dep];lia
  ·rw[dep];lia
  ·rw[dep];lia
 obtain⟨bs,h3,h4⟩:=Ydv I (by lia) r2 ry;have hdd:=Yfa d;have hdl:=Yd9 l;rcases Yaw hc with rfl|rfl|⟨ns,rfl,rfl⟩
 ·rw[toPy]at h3 h4
  exact SeqAt.in_tuple_reads h3 h1 (by simpa [PyData.canLay0]using h4) h2 (by lia) ⟨.bl _,H,I,rfl,by rw[Yfb];exact q⟩
 ·rw[toPy]at h3 h4
  exact SeqAt.in_list_reads h3 h1 (by simpa [PyData.canLay0]using h4) h2 (by lia) ⟨.bl _,H,I,rfl,by rw[Yfb];exact q⟩
 ·rw[toPy,<-Yjq]at h3 h4
  exact SeqAt.in_list_reads h3 h1 (by simpa [PyData.canLay0]using h4) h2 (by lia) ⟨.bl _,H,I,rfl,by rw[Yfb];exact q⟩
theorem Yz7(hu:X.A.units+64<cLine):OpR X (compareOp .NotIn) (rInD X.K true):=by
 intro pins s σ H x y v u Q I rx ry h;obtain⟨d,c,l,r1,r2,hc,hd,q⟩:=h;obtain⟨as,h1,h2⟩:=Ydv I (by lia) r1 rx
 have hdc:dep c<=61:=by
  rcases Yaw hc with rfl|rfl|⟨ns,rfl,rfl⟩
  ·rw[dep];lia
  ·rw[dep];lia
  ·rw[dep];lia
 obtain⟨bs,h3,h4⟩:=Ydv I (by lia) r2 ry;have hdd:=Yfa d;have hdl:=Yd9 l;rcases Yaw hc with rfl|rfl|⟨ns,rfl,rfl⟩
 ·rw[toPy]at h3 h4
  exact SeqAt.notIn_tuple_reads h3 h1 (by simpa [PyData.canLay0]using h4) h2 (by lia) ⟨.bl _,H,I,rfl,by rw[Yfb];exact q⟩
 ·rw[toPy]at h3 h4
  exact SeqAt.notIn_list_reads h3 h1 (by simpa [PyData.canLay0]using h4) h2 (by lia) ⟨.bl _,H,I,rfl,by rw[Yfb];exact q⟩
 ·rw[toPy,<-Yjq]at h3 h4
  exact SeqAt.notIn_list_reads h3 h1 (by simpa [PyData.canLay0]using h4) h2 (by lia) ⟨.bl _,H,I,rfl,by rw[Yfb];exact q⟩
theorem Yt7:Yhe K (rInD K neg) (inM neg):=by
 intro x y dx dy b H G Q h s rx ry q;unfold inM at h;obtain⟨l,h1,h⟩:=qa h
 split at h
 ·cases h
  exact⟨dx,dy,l,rx.rp s,ry.rp s,h1,by assumption,q⟩
 ·cases h
end
end
section
variable {K:W.Frag}
section
variable {X:Cx}{a b c e:Expr}{es:AM}{fa fb f:AX}{fc fd:AW}{ga:AY}{pos:Pos}{rest:AM}
def truD:D->Option Bool
 | .non=>some false
 | .bl b=>some b
 | .int i=>some (i != 0)
 | .tup l=>some (!l.isEmpty)
 | .lst l=>some (!l.isEmpty)
 | .scr ns=>some (!ns.isEmpty)
 | .str _=>none
 | .dct _ _ _=>none
 | .obj _ _ _=>none
 | .adr _=>none
theorem y8l(h:truD d=some k)(r:Ct X.K G H d v):TruV X.K v H k:=by
 cases d with
 | non=>rw[Ct]at r;subst r;cases h;rfl
 | bl b=>rw[Ct]at r;subst r;cases h;rfl
 | int i=>rw[Ct]at r;subst r;cases h;rfl
 | str x=>cases h
 | dct _ _ _=>cases h
 | obj _ _ _=>cases h
 | adr _=>cases h
 | tup l=>
   rw[Ct]at r;obtain⟨a,xs,rfl,g,rl⟩:=r;cases h;refine .inr (.inl ⟨xs,.inl (.inl g.1),?_⟩);have:=rl.length;grind
 | lst l=>
   rw[Ct]at r;obtain⟨a,xs,rfl,g,rl⟩:=r;cases h;refine .inl ⟨xs,.inl g,?_⟩;have:=rl.length;grind
 | scr ns=>
   rw[Ct]at r;obtain⟨a,rfl,g⟩:=r;cases h;refine .inl ⟨_,g,?_⟩;cases ns<;>simp
def andT(fc fd:AW):AW:=λρ=>(fc ρ).bind λk=>if k=true then fd ρ else some false
def orT(fc fd:AW):AW:=λρ=>(fc ρ).bind λk=>if k=true then some true else fd ρ
def notT(fc:AW):AW:=λρ=>(fc ρ).map (!·)
abbrev MW(X:Cx)(e:Expr)(f:AW):Prop:=PW X e (tTof X.K f)
def PW.imp(h:PW X e t)(i:∀σ H Q,t' σ H Q->t σ H Q):PW X e t':=λwhole pins s σ H Q I hw=>h whole pins s σ H Q I (i σ H Q hw)
theorem y8n(h:tTof K (andT fc fd) σ H Q):tAnd (tTof K fc) (tTof K fd) σ H Q:=by
 obtain⟨ρ,k,H0,G0,G,e,s,h⟩:=h;unfold andT at e;obtain⟨k1,h1,e⟩:=qa e;refine tTof.at h1 s λH1 G1 g1 s1=>?_
 cases k1 with
 | true=>
   rw[if_pos rfl]at e ⊢;exact tTof.at e s1 λH2 G2 g2 _=>h H2 G2 (g1.trans g2)
 | false=>
   grind
theorem Yach(h:tTof K (orT fc fd) σ H Q):tOr (tTof K fc) (tTof K fd) σ H Q:=by
 obtain⟨ρ,k,H0,G0,G,e,s,h⟩:=h;unfold orT at e;obtain⟨k1,h1,e⟩:=qa e;refine tTof.at h1 s λH1 G1 g1 s1=>?_
 cases k1 with
 | false=>
   rw[if_neg qi]at e ⊢;exact tTof.at e s1 λH2 G2 g2 _=>h H2 G2 (g1.trans g2)
 | true=>
   grind
def blD:D->Option Bool
 | .bl b=>some b
 | _=>none
def Yv9(h:blD d=some k):d=.bl k:=by cases d<;>simp[blD]at h;subst h;rfl
def andV(fa fb:AX):AX:=λρ=>(b1 fa blD ρ).bind λk=>if k=true then fb ρ else some (.bl false)
def notV(fa:AX):AX:=λρ=>(b1 fa blD ρ).map λk=>.bl (!k)
def ifV(fc:AW)(fa fb:AX):AX:=λρ=>(fc ρ).bind λk=>if k=true then fa ρ else fb ρ
def Yt8:D->Bool
 | .non=>true
 | _=>false
theorem Ywa(r:Ct K G H d v):decide (v=V.non)=Yt8 d:=by
 cases d with
 | non=>rw[Ct]at r;subst r;rfl
 | bl _=>rw[Ct]at r;subst r;rfl
 | int _=>rw[Ct]at r;subst r;rfl
 | str _=>rw[Ct]at r;obtain⟨rfl,_⟩:=r;rfl
 | tup _=>rw[Ct]at r;obtain⟨_,_,rfl,_⟩:=r;rfl
 | lst _=>rw[Ct]at r;obtain⟨_,_,rfl,_⟩:=r;rfl
 | scr _=>rw[Ct]at r;obtain⟨_,rfl,_⟩:=r;rfl
 | dct _ _ _=>rw[Ct]at r;obtain⟨_,_,_,rfl,_⟩:=r;rfl
 | obj _ _ _=>rw[Ct]at r;obtain⟨_,_,_,_,rfl,_⟩:=r;rfl
 | adr _=>rw[Ct]at r;subst r;rfl
def isN(neg:Bool):D->D->Option Bool:=λd e=>if Yt8 e then some (if neg then !Yt8 d else Yt8 d)else none
theorem y8p:Yhe K (λx y H Q=>y=.non/\Q (.bl (decide (x=.non))) H) (isN false):=by
 intro x y dx dy b H G Q h s rx ry q;unfold isN at h
 split at h
 ·rename_i hn
  cases h;cases dy<;>simp[Yt8]at hn;rw[Ct]at ry;exact⟨ry,by rw[Ywa rx];exact q⟩
 ·cases h
theorem Ywb:Yhe K (λx y H Q=>y=.non/\Q (.bl (!decide (x=.non))) H) (isN true):=by
 intro x y dx dy b H G Q h s rx ry q;unfold isN at h
 split at h
 ·rename_i hn
  cases h;cases dy<;>simp[Yt8]at hn;rw[Ct]at ry;exact⟨ry,by rw[Ywa rx];exact q⟩
 ·cases h
def ixD:D->D->Option D
 | c,.int i=>(Yn c).bind λl=>atI l i
 | _,_=>none
def Yz8(r:RpL K G l xs)(h:atI l i=some d):∃x,atI xs i=some x/\Rp K G d x:=by
 unfold atI at h ⊢;rw[r.length];obtain⟨j,h1,h2⟩:=qa h;obtain⟨x,h3,h4⟩:=r.get h2;exact⟨x,by rw[h1];exact h3,h4⟩
def Yacn:Sem2 X.K (rIx X.K) ixD:=by
 intro x y dx dy d H G Q h s rx ry q;unfold ixD at h
 split at h
 ·rename_i c i
  obtain⟨l,h1,h2⟩:=qa h;rw[Ct]at ry;subst ry;rcases Yaw h1 with rfl|rfl|⟨ns,rfl,rfl⟩
  ·rw[Ct]at rx
   obtain⟨p,xs,rfl,g,rl⟩:=rx;obtain⟨v,h3,h4⟩:=Yz8 rl h2;exact .inr (.inl ⟨p,xs,i,v,rfl,rfl,.inl (.inl g.1),h3,q v H G (.refl s) h4⟩)
  ·rw[Ct]at rx
   obtain⟨p,xs,rfl,g,rl⟩:=rx;obtain⟨v,h3,h4⟩:=Yz8 rl h2;exact .inl ⟨p,xs,i,v,rfl,rfl,.inl g,h3,q v H G (.refl s) h4⟩
  ·rw[Ct]at rx
   obtain⟨p,rfl,g⟩:=rx;obtain⟨v,h3,h4⟩:=Yz8 (G:=G) (K:=X.K) (.ints ns) h2;exact .inl ⟨p,_,i,v,rfl,rfl,g,h3,q v H G (.refl s) h4⟩
 ·cases h
def Yz9(ha:MC X a fa)(hb:MC X b fb)(hs:Ye1 b:=by intro _ _;rfl):ME X (.Subscript a b pos) (b2 fa fb ixD):=y8k Yab1 Yacn ha hb hs
def intD:D->Option Int
 | .int i=>some i
 | _=>none
def optI(f:Option AX):Ro->Option (Option Int):=λρ=>match f with
 | none=>some none
 | some f=>(b1 f intD ρ).map some
def cutD(l:AR)(lo hi:Option Int):AR:=(l.drop (HT.sIx l.length 0 lo)).take (HT.sIx l.length l.length hi-HT.sIx l.length 0 lo)
def lstD:D->Option AR
 | .lst l=>some l
 | .scr ns=>some (ns.map D.int)
 | _=>none
def Yrk(h:lstD d=some l)(r:Ct K G H d v):∃p xs,v=.ref p/\SqL K H p xs/\RpL K G l xs:=by
 cases d with
 | lst m=>
   cases h;rw[Ct]at r;obtain⟨p,xs,e,g,q⟩:=r;exact⟨p,xs,e,.inl g,q⟩
 | scr ns=>
   cases h;rw[Ct]at r;obtain⟨p,e,g⟩:=r;exact⟨p,_,e,g,.ints ns⟩
 | non=>cases h
 | bl _=>cases h
 | int _=>cases h
 | str _=>cases h
 | tup _=>cases h
 | dct _ _ _=>cases h
 | obj _ _ _=>cases h
 | adr _=>cases h
def slF(fa:AX)(lo hi:Option AX):AY:=λρ=>(b1 fa lstD ρ).bind λl=>(optI lo ρ).bind λi=>(optI hi ρ).bind λj=>some (cutD l i j)
abbrev tO(K:W.Frag)(f:Option AX):TO:=match f with
 | none=>Yzx
 | some f=>Yaby (tCof K f)
def y4o{f:Option AX}(e:optI f ρ=some i)(s:SR K H0 G0 σ H G ρ)(h:∀H' G',Gr H G H' G'->SR K H0 G0 σ H' G' ρ->Q i H'):tO K f σ H Q:=by
 cases f with
 | none=>
   cases e;exact h H G (.refl s.seen) s
 | some f=>
   obtain⟨k,h1,rfl⟩:=qc e;obtain⟨d,h2,h3⟩:=Ycl h1
   refine tCof.at h2 s λv H1 G1 g1 r1 s1=>⟨k,?_,h H1 G1 g1 s1⟩
   cases d<;>simp[intD]at h3;subst h3;rw[Ct]at r1;exact r1
def Yafv:PO X none (tO X.K none):=y78
def lF(f:AY):AX:=λρ=>(f ρ).map D.lst
def MF.me(h:MF X e g):ME X e (lF g):=PE.imp h λσ H Q hx_=>by
 obtain⟨ρ,d,H0,G0,G,e,s,h⟩:=hx_;obtain⟨l,h1,rfl⟩:=qc e
 exact⟨ρ,l,H0,G0,G,h1,s,λp xs H' G' g hp gp e' r=>h _ H' _ (g.show hp gp e') (by
  rw[Rp];refine⟨p,xs,rfl,.inl Yt,r.mono λb o q=>?_⟩
  rw[Yaa (Yy q gp)];exact q)⟩
def aNil:AY:=λ_=>some []
def Ye(f:AX)(g:AY):AY:=λρ=>(f ρ).bind λd=>(g ρ).map (d::·)
def y0a:MA X [] aNil:=PA.imp Yhk λσ H Q hx_=>by
 obtain⟨ρ,l,H0,G0,G,e,s,h⟩:=hx_;cases e;exact h [] H G (.refl s.seen) .nil
def Yt9(ha:ME X e f)(hr:MA X es ga)(hs:starEach (e::es) X.env=(false,eval e X.env)::starEach es X.env:=by rfl):MA X (e::es) (Ye f ga):=PA.imp (Ydm ha hr hs) λσ H Q hx_=>by
 obtain⟨ρ,l,H0,G0,G,e,s,h⟩:=hx_;unfold Ye at e;obtain⟨d,h1,e⟩:=qa e;obtain⟨l',h2,rfl⟩:=qc e;exact tOf.at h1 s λv H1 G1 g1 r1 s1=>tAof.at h2 s1 λvs H2 G2 g2 r2 _=>h (v::vs) H2 G2 (g1.trans g2) (.cons (r1.mono g2.g) r2)
def Yhz:MCA X [] aNil:=PA.imp Yhk λσ H Q hx_=>by
 obtain⟨ρ,l,H0,G0,G,e,s,h⟩:=hx_;cases e;exact h [] H G (.refl s.seen) rfl
def Yfo(ha:MC X e f)(hr:MCA X es ga)(hs:starEach (e::es) X.env=(false,eval e X.env)::starEach es X.env:=by rfl):MCA X (e::es) (Ye f ga):=PA.imp (Ydm ha hr hs) λσ H Q hx_=>by
 obtain⟨ρ,l,H0,G0,G,e,s,h⟩:=hx_;unfold Ye at e;obtain⟨d,h1,e⟩:=qa e;obtain⟨l',h2,rfl⟩:=qc e;exact tCof.at h1 s λv H1 G1 g1 r1 s1=>tCAof.at h2 s1 λvs H2 G2 g2 r2 _=>h (v::vs) H2 G2 (g1.trans g2) ⟨v,vs,rfl,r1.grow g2,r2⟩
def cap6:Nat:=1000000
theorem Yea(h:n<=cap6):n<=sizeLine:=Qg h (by rw[jj];decide)
def dTup(ga:AY):AX:=λρ=>(ga ρ).bind λl=>if l.length<=cap6 then some (.tup l)else none
def dLst(ga:AY):AY:=λρ=>(ga ρ).bind λl=>if l.length<=cap6 then some l else none
theorem y61(h:MA X es ga):MF X (.List es pos) (dLst ga):=PE.imp (Yabp h) λσ H Q hx_=>by
 obtain⟨ρ,d,H0,G0,G,e,s,h⟩:=hx_;unfold dLst at e;obtain⟨l,h1,e⟩:=qa e
 split at e
 ·cases e
  refine tAof.at h1 s λvs H1 G1 g1 r1 s1=>⟨by rw[r1.length];exact Yea (by assumption),λp hp=>?_⟩
  exact h p vs _ G1 (g1.trans (.hid s1.seen hp (.lst vs))) (g1.h.free hp) (s1.seen.free hp) Yt r1
 ·cases e
def cC(ga:AY)(g:AR->Option D):AX:=λρ=>(ga ρ).bind g
def cF(ga:AY)(g:AR->Option AR):AY:=λρ=>(ga ρ).bind g
def y62(hr:SemC K r g)(h:tOf K (cC ga g) σ H Q):tCB r (tCAof K ga) σ H Q:=by
 obtain⟨ρ,d,H0,G0,G,e,s,h⟩:=h;unfold cC at e;obtain⟨l,h1,h2⟩:=qa e;exact tCAof.at h1 s λvs H1 G1 g1 r1 s1=>hr vs l d H1 G1 Q h2 s1.seen r1 λv H' G' g2 r2=>h v H' G' (g1.trans g2) r2
def y0b(hr:SemF K r g)(h:tFof K (cF ga g) σ H Q):tCB r (tCAof K ga) σ H Q:=by
 obtain⟨ρ,d,H0,G0,G,e,s,h⟩:=h;unfold cF at e;obtain⟨l,h1,h2⟩:=qa e;exact tCAof.at h1 s λvs H1 G1 g1 r1 s1=>hr vs l d H1 G1 Q h2 s1.seen r1 λp xs H' G' g2 hp gp e' r2=>h p xs H' G' (g1.trans g2) (g1.h.free hp) gp e' r2
section
variable {x:Str}{p:Pos}{id T:String}{r:AQ->Hp->VK->Prop}{g:AR->Option D}{gf:AR->Option AR}
end
def spOf(K:W.Frag)(n:Nat)(fn:AR->Option D):Sp:=λvs H Q _=>vs.length=n/\∃ds d G,Same G H/\RpL K G ds vs/\fn ds=some d/\∀v H' G',Gr H G H' G'->Rp K G' d v->Q v H'
theorem y8s{p:Pos}(F:FnOk X.prog X.w X.K X.mg X.base CX0 k fa' fd' ps (spOf X.K n fn))(hr:Room k X.A)(hg:Gl X x)(hm:X.mg x=some (.ref fa'))(hk:W.keepIn X.K (.ref fa')=true)(hb:Binds X.K fd' ps [])(ha:MA X (e::es) ga)(hdb:Ndb x:=by decide)(he:starEach (e::es) X.env=(false,eval e X.env)::starEach es X.env:=by rfl)(hpl:(backTo pos (starEach es X.env)).any (·.1)=false:=by rfl)(hl:∀ρ l,ga ρ=some l->l.length=n):ME X (.Call (.Name x p) (e::es) [] pos) (cC ga fn):=
 PE.imp (y73 (E:=E0) F hr hg hm hk hb .nil Yafj ha hdb he hpl) λσ H Q hx_=>by
  obtain⟨ρ,d,H0,G0,G,e,s,h⟩:=hx_;unfold cC at e;obtain⟨l,h1,h2⟩:=qa e;refine tAof.at h1 s λvs H1 G1 g1 r1 s1=>?_;rw[ja];exact⟨by rw[r1.length];grind,l,d,G1,s1.seen,r1,h2,λv H' G' g2 r2=>h v H' G' (g1.trans g2) r2⟩
def y4s(h:aNil ρ=some l):l.length=0:=by cases h;rfl
theorem Yfc(hg:∀ρ l,g ρ=some l->l.length=n):∀ρ l,Ye f g ρ=some l->l.length=n+1:=λρ l h=>by
 unfold Ye at h;obtain⟨d,h1,e⟩:=qa h;obtain⟨l',h2,rfl⟩:=qc e;grind
def lenC:AR->Option D
 | [c]=>(Yn c).map λl=>.int l.length
 | _=>none
def Ywc{c:D}(h:Yn c=some l)(r:Ct K G H c v):∃p xs,v=.ref p/\(SqL K H p xs\/SqT K H p xs)/\RpL K G l xs:=by
 rcases Yaw h with rfl|rfl|⟨ns,rfl,rfl⟩
 ·rw[Ct]at r
  obtain⟨p,xs,rfl,g,rl⟩:=r;exact⟨p,xs,rfl,.inr (.inl (.inl g.1)),rl⟩
 ·rw[Ct]at r
  obtain⟨p,xs,rfl,g,rl⟩:=r;exact⟨p,xs,rfl,.inl (.inl g),rl⟩
 ·rw[Ct]at r
  obtain⟨p,rfl,g⟩:=r;exact⟨p,_,rfl,.inl g,.ints ns⟩
theorem Yjr(h:RpL K G [d] vs):∃v,vs=[v]/\Rp K G d v:=by
 rw[RpL]at h;obtain⟨x,r,rfl,h1,h2⟩:=h;rw[RpL]at h2;grind
theorem Ycz(h:CtL K G H [d] vs):∃v,vs=[v]/\Ct K G H d v:=by
 obtain⟨x,r,rfl,h1,h2⟩:=h;cases (show r=[] from h2);grind
def Yc0:SemC X.K (λxs H Q=>∃p ys,xs=[.ref p]/\(SqL X.K H p ys\/SqT X.K H p ys)/\Q (.int ys.length) H) lenC:=by
 intro vs ds d H G Q h s r q
 match ds,h,r with
 | [c],h,r=>
   obtain⟨l,h1,rfl⟩:=qc h;obtain⟨v,rfl,rv⟩:=Ycz r;obtain⟨p,xs,rfl,h2,rl⟩:=Ywc (K:=X.K) h1 rv;exact⟨p,xs,rfl,h2,q _ H G (.refl s) (by rw[Rp,rl.length])⟩
def Yrl:AR->Option AR
 | [c]=>Yn c
 | _=>none
def Yk6:SemF X.K (λxs H Q=>∃p ys,xs=[.ref p]/\(SqL X.K H p ys\/SqT X.K H p ys)/\∀l,H l=none->Q (.ref l) (upd H l (.lst ys))) Yrl:=by
 intro vs ds l H G Q h s r q
 match ds,h,r with
 | [c],h,r=>
   obtain⟨v,rfl,rv⟩:=Ycz r;obtain⟨p,xs,rfl,h2,rl⟩:=Ywc (K:=X.K) h rv;exact⟨p,xs,rfl,h2,λm hm=>q m xs _ G (.hid s hm _) hm (s.free hm) Yt rl⟩
def tupC:AR->Option D
 | [c]=>(Yn c).map D.tup
 | _=>none
theorem Ybp:SemC X.K (λxs H Q=>∃p ys,xs=[.ref p]/\((SqL X.K H p ys/\∀l,H l=none->Q (.ref l) (upd H l (.tup ys)))\/(SqT X.K H p ys/\Q (.ref p) H))) tupC:=by
 intro vs ds d H G Q h s r q
 match ds,h,r with
 | [c],h,r=>
   obtain⟨l,h1,rfl⟩:=qc h;obtain⟨v,rfl,rv⟩:=Ycz r;rcases Yaw h1 with rfl|rfl|⟨ns,rfl,rfl⟩
   ·rw[Ct]at rv
    obtain⟨p,xs,rfl,g,rl⟩:=rv;exact⟨p,xs,rfl,.inr ⟨.inl (.inl g.1),q _ H G (.refl s) (by rw[Rp];grind)⟩⟩
   ·rw[Ct]at rv
    obtain⟨p,xs,rfl,g,rl⟩:=rv;refine⟨p,xs,rfl,.inl ⟨.inl g,λm hm=>q _ _ _ (.new s hm (.tup xs)) ?_⟩⟩;rw[Rp];exact⟨m,xs,rfl,Yt,rl.mono (Gr.new s hm (.tup xs)).g⟩
   ·rw[Ct]at rv
    obtain⟨p,rfl,g⟩:=rv;refine⟨p,_,rfl,.inl ⟨g,λm hm=>q _ _ _ (.new s hm (.tup _)) ?_⟩⟩;rw[Rp];exact⟨m,_,rfl,Yt,.ints ns⟩
end
end
section
variable {K:W.Frag}
section
variable {X:Cx}{e:Expr}{f:AX}{gl:AY}{pos pos':Pos}{st:Stmt}{sts:List Stmt}{fs gs:AU}
def sNil:AU:=λρ=>some (.nx ρ)
noncomputable def sSeq(f g:AU):AU:=λρ=>(f ρ).bind fun
 | .nx ρ'=>g ρ'
 | o=>some o
def Yacp:MB X [] sNil:=PSs.imp y7w λF σ H hx_=>by
 obtain⟨ρ,out,H0,G0,G,e,s,h⟩:=hx_;cases e;exact h σ H G s
def frz1(i:Nat)(ρ:Ro):Ro:=match ρ[i]? with
 | some (some (B.ow l))=>ρ.set i (some (.sh (.lst l)))
 | some (some (B.od t ks vs))=>ρ.set i (some (.sh (.dct t ks vs)))
 | _=>ρ
theorem SR.frz1(s:SR K H0 G0 σ H G ρ)(i:Nat):∃G',SR K H0 G0 σ H G' (M.frz1 i ρ):=by
 unfold M.frz1
 split
 ·rename_i l hl
  exact s.freeze hl
 ·rename_i t ks vs hl
  exact s.freezed hl
 grind
def frz(is:AG)(ρ:Ro):Ro:=is.foldl (λr i=>frz1 i r) ρ
theorem SR.frz:∀(is:AG) {G:Hp}{ρ:Ro},SR K H0 G0 σ H G ρ->∃G',SR K H0 G0 σ H G' (M.frz is ρ)
 | [],G,_,s=>⟨G,s⟩
 | i::is,_,ρ,s=>by
   obtain⟨G',s'⟩:=s.frz1 i;exact SR.frz is s'
theorem SR.frz1T(s:SR K H0 G0 σ H G ρ)(i:Nat):∃G',SR K H0 G0 σ H G' (M.frz1 i ρ)/\∀b ys,G' b=some (.tup ys)->G b=some (.tup ys):=by
 unfold M.frz1
 split
 ·rename_i l hl
  exact s.freezeT hl
 ·rename_i t ks vs hl
  exact s.freezedT hl
 grind
theorem SR.frzT:∀(is:AG) {G:Hp}{ρ:Ro},SR K H0 G0 σ H G ρ->∃G',SR K H0 G0 σ H G' (M.frz is ρ)/\∀b ys,G' b=some (.tup ys)->G b=some (.tup ys)
 | [],G,_,s=>⟨G,s,λ_ _ h=>h⟩
 | i::is,_,ρ,s=>by
   obtain⟨G',s',h1⟩:=s.frz1T i;obtain⟨G2,s2,h2⟩:=SR.frzT is s';exact⟨G2,s2,λb ys e=>h1 b ys (h2 b ys e)⟩
def wF(is:AG)(f:AU):AU:=λρ=>f (frz is ρ)
def sSet(i:Nat)(f:AX):AU:=λρ=>(f ρ).map λd=>.nx (ρ.set i (some (.sh d)))
def sOwn(i:Nat)(f:AY):AU:=λρ=>(f ρ).map λl=>.nx (ρ.set i (some (.ow l)))
def Yacs(h:sOf K (sSet i f) F σ H):tAsg (tOf K f) (Yxn i) F σ H:=by
 obtain⟨ρ,out,H0,G0,G,e,s,h⟩:=h;obtain⟨d,h1,rfl⟩:=qc e;exact tOf.at h1 s λv H1 G1 g1 r1 s1=>h _ H1 G1 (s1.set_sh i r1)
def Yact(h:sOf K (sOwn i gl) F σ H):tAsg (tFof K gl) (Yxn i) F σ H:=by
 obtain⟨ρ,out,H0,G0,G,e,s,h⟩:=h;obtain⟨l,h1,rfl⟩:=qc e;exact⟨ρ,l,H0,G0,G,h1,s,λp xs H' G' g hp gp e' r=>h _ H' G' (s.set_ow i g hp gp e' r)⟩
theorem y63(i:Nat)(hN:X.N.Nodup)(he:ME X e f)(hi:X.N[i]?=some x:=by rfl)(hx:Loc X.env.scope x:=by trivial)(hs:swapsWith e (some (.Name x pos')) pos.line X.env=pure false:=by rfl)(hf:X.fn x=true\/X.env.scope.names.lookup x=some .local:=by trivial):MS X (.Assign [.Name x pos'] e pos) (sSet i f):=PS.imp (Yn7 hN hi hx he hs hf) λ_ _ _ h=>Yacs h
noncomputable def sRet(f:AX):AU:=λρ=>(f ρ).map .rt
def sIf(c:AW)(f g:AU):AU:=λρ=>(c ρ).bind λk=>if k=true then f ρ else g ρ
def sInc(i:Nat)(f:AX):AU:=λρ=>(getV i ρ).bind λx=>(f ρ).bind λy=>(i2 (λ_ _=>true) (λa b=>a+b) x y).map λz=>.nx (ρ.set i (some (.sh z)))
def sMut(i:Nat)(f:AX)(g:AR->D->Option AR):AU:=λρ=>(getO i ρ).bind λl=>(f ρ).bind λd=>(g l d).map λl'=>.nx (ρ.set i (some (.ow l')))
theorem Ywd(s:SR K H0 G0 σ H G ρ)(h:getO i ρ=some l):∃a xs,σ[i]?=some (some (V.ref a))/\H a=some (.lst xs)/\RpL K G l xs/\G a=none:=by
 obtain⟨a,xs,h1,h2,h3,h4,h5⟩:=s.ow i l (Ygd h);grind
def appD(l:AR)(d:D):Option AR:=if l.length<cap6 then some (l++[d])else none
def y0f(hz:ds.length<=sizeLine)(h:∀(i:Nat) H2 G2,Same G' G2->Same G2 H2->(∀d,ds[i]?=some d->J.go i H2/\∀y H3,J.yld i H2 y H3->H3=H2/\Rp K G2 d y)/\(ds.length<=i->J.stop i H2)):Wk K J G' ds:=
 ⟨hz,λi H2 G2 s1 s2=>⟨λd hd=>⟨((h i H2 G2 s1 s2).1 d hd).1,λy H3 q=>by
  obtain⟨rfl,r⟩:=((h i H2 G2 s1 s2).1 d hd).2 y H3 q
  exact⟨G2,.refl s2,r⟩⟩,(h i H2 G2 s1 s2).2⟩⟩
variable {tg:Expr}
def iSeq(K:W.Frag)(tl:TE):TI:=λσ H R=>tl σ H λx H1=>∃a xs,x=.ref a/\((SqL K H1 a xs/\(xs.length<=sizeLine->R (Itl K a) H1))\/(SqT K H1 a xs/\(xs.length<=sizeLine->R (Itt K a) H1)))
theorem Yacx(hl:PE X l tl):PI X tg l (iSeq X.K tl):=by
 intro pins s σ H R I h;refine thn (hl pins s σ H _ I h) λv s1 hx_=>?_;obtain⟨x,H1,I1,r1,q1⟩:=hx_;obtain⟨a,xs,e,q1⟩:=q1;subst e;cases r1;rcases q1 with⟨hq,q⟩|⟨hq,q⟩
 ·obtain⟨its,rv,p,hz⟩:=I1.list hq
  refine wpAny_pyIter_list p.isList ?_;refine⟨~~~s1,[~~~s1],_,_,H1,rfl,I1.kept (t':=s1.toks) λb o e=>qe _ e,Yzj a _,⟨_,qp _ rfl,rfl,rfl⟩,λb hb=>?_,q hz⟩
  have e:b= ~~~s1:=by grind
  subst e;exact I1.fpOk (qu _) (I1.hok.fresh (qu _))
 ·obtain⟨its,rv,p,hz⟩:=I1.tuple hq
  refine wpAny_pyIter_tuple (show s1.heap.IsTuple a its.toArray from p) ?_;refine⟨~~~s1,[~~~s1],_,_,H1,rfl,I1.kept (t':=s1.toks) λb o e=>qe _ e,Yxo a _,⟨_,qp _ rfl,rfl,rfl⟩,λb hb=>?_,q hz⟩
  have e:b= ~~~s1:=by grind
  subst e;exact I1.fpOk (qu _) (I1.hok.fresh (qu _))
def rngD(a n:Int):AR:=(List.range (n-a).toNat).map λi=>.int (a+(i:Nat))
def Ylt(a n:Int):(rngD a n).length=(n-a).toNat:=by simp[rngD]
theorem y64(hz:(n-a).toNat<=sizeLine):Wk K (Itr a (n-a).toNat) G' (rngD a n):=
 y0f (by rw[Ylt];exact hz) λi H2 G2 _ _=>⟨λd hd=>by
  unfold rngD at hd;rw[Qh]at hd;obtain⟨j,h1,rfl⟩:=qc hd
  have hj:i<(n-a).toNat:=by
   grind
  rw[List.getElem?_range hj]at h1;cases h1
  exact⟨hj,λy H3 q=>⟨q.1,by rw[Rp];exact q.2⟩⟩,λhi=>by rw[Ylt]at hi;exact hi⟩
def rng1:AR->Option AR
 | [.int n]=>if decide (-(cap6:Int)<=n)&&decide (n<=cap6)then some (rngD 0 n)else none
 | _=>none
def rng2:AR->Option AR
 | [.int a,.int n]=>if decide (-(cap6:Int)<=a)&&decide (a<=cap6)&&decide (-(cap6:Int)<=n)&&decide (n<=cap6)then some (rngD a n)else none
 | _=>none
theorem y0g(h:rng1 l=some ds):∃n:Int,l=[.int n]/\-1000000<=n/\n<=1000000/\ds=rngD 0 n:=by
 unfold rng1 at h
 split at h
 ·rename_i n
  split at h
  ·rename_i hc
   cases h;simp only[Qb,wm]at hc
   have hcap:(cap6:Int)=1000000:=by decide
   grind
  ·cases h
 ·cases h
theorem y0h(h:rng2 l=some ds):∃a n:Int,l=[.int a,.int n]/\-1000000<=a/\a<=1000000/\-1000000<=n/\n<=1000000/\ds=rngD a n:=by
 unfold rng2 at h
 split at h
 ·rename_i a n
  split at h
  ·rename_i hc
   cases h;simp only[Qb,wm]at hc
   have hcap:(cap6:Int)=1000000:=by decide
   grind
  ·cases h
 ·cases h
def gSet(i:Nat):AV:=λd ρ=>some (ρ.set i (some (.sh d)))
def Ypg(i j:Nat):AV:=λd ρ=>match d with
 | .tup [a,b]=>some ((ρ.set i (some (.sh a))).set j (some (.sh b)))
 | _=>none
def forM(gt:AV)(fb:AU):AR->AU
 | [],ρ=>some (.nx ρ)
 | d::ds,ρ=>(gt d ρ).bind λρ1=>(fb ρ1).bind fun
   | .nx ρ2=>forM gt fb ds ρ2
   | .ct ρ2=>forM gt fb ds ρ2
   | .bk ρ2=>some (.nx ρ2)
   | .rt d=>some (.rt d)
def sFor(gl:AY)(gt:AV)(fb:AU):AU:=λρ=>(gl ρ).bind λds=>forM gt fb ds ρ
theorem Yh0:∀(ds:AR) (ρ:Ro) (out:Out),forM gt fb ds ρ=some out->(∃ρ',out=.nx ρ')\/∃d,out=.rt d
 | [],ρ,out,h=>by cases h;grind
 | d::ds,ρ,out,h=>by
   rw[forM]at h;obtain⟨ρ1,h1,h⟩:=qa h;obtain⟨o,h2,h⟩:=qa h
   cases o with
   | nx ρ2=>exact Yh0 ds ρ2 out h
   | ct ρ2=>exact Yh0 ds ρ2 out h
   | bk ρ2=>grind
   | rt d=>grind
def Ybs(fc:AW)(fb:AU):Nat->AU
 | 0,_=>none
 | n+1,ρ=>(fc ρ).bind λk=>if k=true then (fb ρ).bind fun
  | .nx ρ2=>Ybs fc fb n ρ2
  | .ct ρ2=>Ybs fc fb n ρ2
  | .bk ρ2=>some (.nx ρ2)
  | .rt d=>some (.rt d)
  else some (.nx ρ)
def capR(src:List AN)(ρ:Ro):Ro:=src.map λo=>o.bind λj=>match ρ[j]? with
 | some (some (B.sh d))=>some (.sh d)
 | _=>none
def SR.cap(s:SR K H0 G0 σ H G ρ)(src:List AN):SR K H G (capσ src σ) H G (capR src ρ):=by
 have noow:∀(i:Nat) l,(capR src ρ)[i]?≠some (some (B.ow l)):=λi l h=>by
  unfold capR at h;rw[Qh]at h;obtain⟨o,h1,h2⟩:=qc h;obtain⟨j,rfl,h3⟩:=qa h2
  split at h3<;>cases h3
 have nood:∀(i:Nat) t ks vs,(capR src ρ)[i]?≠some (some (B.od t ks vs)):=λi t ks vs h=>by
  unfold capR at h;rw[Qh]at h;obtain⟨o,h1,h2⟩:=qc h;obtain⟨j,rfl,h3⟩:=qa h2
  split at h3<;>cases h3
 refine SR.mkSh (.refl s.seen) (by simp[capσ,capR]) (λi d h=>?_) noow nood;unfold capR at h;rw[Qh]at h;obtain⟨o,h1,h2⟩:=qc h;obtain⟨j,rfl,h3⟩:=qa h2
 split at h3
 ·rename_i d' hd
  cases h3;obtain⟨v,q1,q2⟩:=s.sh j _ hd;refine⟨v,?_,q2⟩;unfold capσ;rw[Qh,h1];show some ((σ[j]?).join)=some (some v);rw[q1];rfl
 ·cases h3
def Yen(gt:AV)(fc:AW)(fe:AX)(ρ:Ro):AR->Option AR
 | []=>some []
 | d::ds=>(gt d ρ).bind λρ1=>(fc ρ1).bind λk=>if k=true then (fe ρ1).bind λv=>(Yen gt fc fe ρ ds).map (v::·)else Yen gt fc fe ρ ds
def Ybq(gl:AY)(src:List AN)(gt:AV)(fc:AW)(fe:AX):AY:=λρ=>(gl ρ).bind λds=>Yen gt fc fe (capR src ρ) ds
def tY:AW:=λ_=>some true
def y8w(h:tTof K tY σ H Q):tYes σ H Q:=by
 obtain⟨ρ,k,H0,G0,G,e,s,h⟩:=h;cases e;exact h H G (.refl s.seen)
def Yac0:PIfs X [] (tTof X.K tY):=λpins s σ H Q I h=>y8d pins s σ H Q I (y8w h)
def Yav(h:src[i]?=some none):∀ρ d ρ1,gSet i d (capR src ρ)=some ρ1->Le (capR src ρ) ρ1:=λρ d ρ1 e=>by
 cases e;refine⟨by simp,λj b hb=>?_⟩;by_cases hj:j=i
 ·subst hj
  unfold capR at hb;rw[Qh,h]at hb;cases hb
 ·rw[Qf (Ne.symm hj)];exact hb
theorem y0k(hle:∀ρ d ρ1,gt d (capR src ρ)=some ρ1->Le (capR src ρ) ρ1)(h:tFof K (Ybq gl src gt fc fe) σ H Q):tLC (tIof K gl) src (gOf K gt) (tTof K fc) (tOf K fe) σ H Q:=by
 obtain⟨ρ,l,H0,G0,G,e,s,h⟩:=h;unfold Ybq at e;obtain⟨ds,h1,h2⟩:=qa e;refine⟨ρ,ds,H0,G0,G,h1,s,λJ H1 G1 g1 wk p hp=>?_⟩;have s1:=s.grow g1;have sc:=s1.cap src;have gp:G1 p=none:=s1.seen.free hp
 refine⟨λi m σ' H'=>m=ds.length-i/\i<=ds.length/\∃G' done xs rest,SR K H1 G1 σ' H' G' (capR src ρ)/\H' p=some (.lst xs)/\G' p=none/\RpL K G' done xs/\xs.length<=i/\Yen gt fc fe (capR src ρ) (ds.drop i)=some rest/\done++rest=l,
  ⟨_,rfl,jb _,G1,[],[],l,sc.grow (Gr.hid s1.seen hp _),Yt,gp,.nil,jb _,h2,rfl⟩,?_⟩
 rintro i m σ' H' ⟨rfl,hi,G',done,xs,rest,s',hx,gx,rx,hl,e',hd⟩;have W:=wk.2 i H' G' s'.gr.g s'.seen;by_cases hlt:i<ds.length
 ·have hdi:ds[i]?=some ds[i]:=qq hlt
  obtain⟨go,yl⟩:=W.1 _ hdi;rw[List.drop_eq_getElem_cons hlt,Yen]at e';obtain⟨ρ1,e1,e'⟩:=qa e';obtain⟨k,e2,e'⟩:=qa e';refine .inr ⟨go,λx H2 y=>?_⟩;obtain⟨G2,g2,r2⟩:=yl x H2 y
  have keep:∀{Ha Ga Hb Gb:Hp},Gr Ha Ga Hb Gb->Ha p=some (.lst xs)->Ga p=none->Hb p=some (.lst xs)/\Gb p=none:=λ{Ha Ga Hb Gb} g e1 e2=>by
   refine⟨g.h _ _ e1,?_⟩
   cases q:Gb p with
   | none=>rfl
   | some o=>
     have:=g.n p e2 (by rw[q];exact λz=>nomatch z);rw[e1]at this;cases this
  obtain⟨hx2,gx2⟩:=keep g2 hx gx;refine⟨_,capR src ρ,ρ1,H1,G1,G2,e1,s'.grow g2,r2,λσ3 s3=>?_⟩;refine tTof.at e2 s3 λH4 G4 g4 s4=>?_;obtain⟨hx4,gx4⟩:=keep g4 hx2 gx2;have le:=hle ρ _ ρ1 e1
  cases k with
  | false=>
    rw[if_neg qi]at e' ⊢;exact⟨ds.length-(i+1),by lia,rfl,hlt,G4,done,xs,rest,s4.le le,hx4,gx4,(rx.mono g2.g).mono g4.g,by lia,e',hd⟩
  | true=>
    rw[if_pos rfl]at e' ⊢;obtain⟨v,e3,e'⟩:=qa e';obtain⟨rest',e4,rfl⟩:=qc e';refine tOf.at e3 s4 λw H5 G5 g5 r5 s5=>?_;obtain⟨hx5,gx5⟩:=keep g5 hx4 gx4;have hz:=wk.1;refine⟨xs,hx5,by lia,ds.length-(i+1),by lia,rfl,hlt,G5,done++[v],xs++[w],rest',?_,Yt,gx5,(((rx.mono g2.g).mono g4.g).mono g5.g).append (.one r5),by simp;lia,e4,by simpa using hd⟩;have s6:=s5.le le
    have noow:∀(i:Nat) l,(capR src ρ)[i]?≠some (some (B.ow l)):=λi l h=>by
     unfold capR at h;rw[Qh]at h;obtain⟨o,h1,h2⟩:=qc h;obtain⟨j,rfl,h3⟩:=qa h2
     split at h3<;>cases h3
    have nood:∀(i:Nat) t ks vs,(capR src ρ)[i]?≠some (some (B.od t ks vs)):=λi t ks vs h=>by
     unfold capR at h;rw[Qh]at h;obtain⟨o,h1,h2⟩:=qc h;obtain⟨j,rfl,h3⟩:=qa h2
     split at h3<;>cases h3
    refine SR.mkSh ⟨λb o q=>?_,s6.gr.g,λb o q=>?_,s6.gr.n⟩ s6.len s6.sh noow nood
    ·rw[Yaa (Yy q hp)];exact s6.gr.h b o q
    ·rw[Yaa (Yy q gx5)];exact s6.gr.s b o q
 ·have ei:i=ds.length:=by lia
  subst ei;rw[List.drop_length,Yen]at e';cases e';rw[ja]at hd;subst hd;exact .inl ⟨W.2 (qu _),h p xs H' G' (g1.trans s'.gr) (g1.h.free hp) gx hx rx⟩
section
variable {elt iter:Expr}{ifs:AM}{scope:Scope}{N:AL}{src:List AN}{gt:AV}{fc:AW}{fe:AX}
def y8x(S:CompSc X.N X.env.scope N src scope)(hc:X.calm=true)(hit:MI X tg iter gl)(hg:∀cl C fp s H,MG (Ya4 X scope N cl C fp s H) tg gt)(hi:∀cl C fp s H,PIfs (Ya4 X scope N cl C fp s H) ifs (tTof X.K fc))(he:∀cl C fp s H,ME (Ya4 X scope N cl C fp s H) elt fe)(hle:∀ρ d ρ1,gt d (capR src ρ)=some ρ1->Le (capR src ρ) ρ1)(hs:∀x,foldedSetIterable iter X.env x=pure x:=by intro _;rfl):MF X (.ListComp elt [⟨tg,iter,ifs,0⟩] scope pos) (Ybq gl src gt fc fe):=
 PE.imp (y8f S hc hit hg hi he hs) λ_ _ _ h=>y0k hle h
theorem y8y(i:Nat){py spos:Pos}(hN:X.N.Nodup)(S:CompSc X.N X.env.scope N src scope)(hc:X.calm=true)(hit:MI X tg iter gl)(hg:∀cl C fp s H,MG (Ya4 X scope N cl C fp s H) tg gt)(hi:∀cl C fp s H,PIfs (Ya4 X scope N cl C fp s H) ifs (tTof X.K fc))(he:∀cl C fp s H,ME (Ya4 X scope N cl C fp s H) elt fe)(hle:∀ρ d ρ1,gt d (capR src ρ)=some ρ1->Le (capR src ρ) ρ1)(hsw:swapsWith (.ListComp elt [⟨tg,iter,ifs,0⟩] scope pos) (some (.Name y py)) spos.line X.env=pure true:=by rfl)(hy:X.N[i]?=some y:=by rfl)(hx:Loc X.env.scope y:=by trivial)(hf:X.fn y=true\/X.env.scope.names.lookup y=some .local:=by trivial)(hs:∀x,foldedSetIterable iter X.env x=pure x:=by intro _;rfl):MS X (.Assign [.Name y py] (.ListComp elt [⟨tg,iter,ifs,0⟩] scope pos) spos) (sOwn i (Ybq gl src gt fc fe)):=
 PS.imp (y8g S hc hit hg hi he hN hy hx hsw hf hs) λF σ H h=>by
  obtain⟨ρ,out,H0,G0,G,e,s,h⟩:=h;obtain⟨l,h1,rfl⟩:=qc e;exact y0k hle ⟨ρ,l,H0,G0,G,h1,s,λp xs H' G' g hp gp e' r=>h _ H' G' (s.set_ow i g hp gp e' r)⟩
end
def Yr(n:Nat)(ds:AR):Ro:=ds.map (λd=>some (.sh d))++List.replicate (n-ds.length) none
noncomputable def runB(k n:Nat)(fb:AU)(ds:AR):Option D:=if ds.length=k then (fb (Yr n ds)).bind fun
 | .rt d=>some d
 | .nx _=>some .non
 | _=>none
 else none
theorem SR.start(s:Same G H)(r:RpL K G ds vs):SR K H G (start N vs) H G (Yr N.length ds):=by
 have hl:=r.length
 have noow:∀(i:Nat) l,(Yr N.length ds)[i]?≠some (some (B.ow l)):=λi l h=>by
  unfold Yr at h;grind
 have nood:∀(i:Nat) t ks vs,(Yr N.length ds)[i]?≠some (some (B.od t ks vs)):=λi t ks vs h=>by
  unfold Yr at h;grind
 refine SR.mkSh (.refl s) (by simp[L2.start,Yr,hl]) (λi d h=>?_) noow nood;unfold Yr at h;rw[List.getElem?_append]at h
 split at h
 ·rename_i hi
  rw[Qh]at h;obtain⟨d',h1,h2⟩:=qc h;cases h2;obtain⟨v,h3,h4⟩:=r.get h1;refine⟨v,?_,h4⟩;unfold L2.start;grind
 grind
section
variable {P:Program}{w:World}{mg:AE}{base:Heap}
def y0l{f:Addr}(F:Fun K x qual st f fd)(S:FnScope N ps (defScope st))(hn:N.length=n)(hm:ps.length=m)(hb:∀(cdv:Value) (A:Around) (outer:List Env) (s:Shared) (H:Hp) (E:XK),Room k (A.deeper (envOfC qual (defScope st) (~~~s) f cdv))->MB (cxOf CX0 P w K mg base N qual (defScope st) f cdv A outer s H E).nox (defBody st) fb):
 FnOk P w K mg base CX0 (k+1) f fd ps (spOf K m (runB m n fb)):=by
 refine F.ok S (λvs H Q E h=>by rw[h.1,hm]) λcdv A outer s H vs Q E hr h=>?_;obtain⟨hl,ds,d,G,sm,r,e,q⟩:=h;refine⟨_,hb cdv A outer s H E hr,?_⟩;unfold runB at e
 split at e
 ·rename_i hds
  obtain⟨o,h1,h2⟩:=qa e;refine⟨Yr n ds,o,H,G,G,h1,by rw[<-hn];exact SR.start sm r,?_⟩
  cases o with
  | rt d'=>cases h2;exact λv H' G' g r'=>q v H' G' g r'
  | nx ρ=>cases h2;exact λσ' H' G' s'=>q .non H' G' s'.gr (by rw[Rp])
  | bk ρ=>cases h2
  | ct ρ=>cases h2
 ·cases e
end
end
end
section
variable {K:W.Frag}
def Okf(P:Program)(w:World)(K:W.Frag)(mg:AE)(base:Heap)(k n:Nat)(x:Str)(ps:AL)(fn:AR->Option D):Prop:=
 ∃a fd,FnOk P w K mg base CX0 k a fd ps (spOf K n fn)/\Binds K fd ps []/\W.keepIn K (.ref a)=true/\mg x=some (.ref a)
def Yac1{st:Stmt}(F:Fun K x q st a fd)(b:Binds K fd ps [])(hm:mg x=some (.ref a))(h:FnOk P w K mg base CX0 k a fd ps (spOf K n fn)):Okf P w K mg base k n x ps fn:=⟨a,fd,h,b,F.kp,hm⟩
section
variable {X:Cx}{a b e:Expr}{es:AM}{fa fb:AX}{ga:AY}{pos:Pos}
def negI:D->Option D
 | .int i=>some (.int (-i))
 | _=>none
def catD:D->D->Option AR
 | .lst a,.lst b=>if a.length+b.length<=cap6 then some (a++b)else none
 | _,_=>none
def Yafy:R2:=λx y H Q=>∃l b xs zs,x=.ref l/\y=.ref b/\Rd H l (.lst xs)/\Rd H b (.lst zs)/\xs.length+zs.length<=sizeLine/\∀p,H p=none->Q (.ref p) (upd H p (.lst (xs++zs)))
theorem y8z:OpR X (binaryOp .Add) Yafy:=by
 intro pins s σ H x y v u Q I rx ry h;obtain⟨l,b,xs,zs,rfl,rfl,hH,hB,hz,q⟩:=h;cases rx;cases ry;obtain⟨z,its,n,r,e⟩:=hH.ok I.hok;obtain⟨z2,its2,n2,r2,e2⟩:=hB.ok I.hok;have hl:=r.length;have hl2:=r2.length;refine PySem.P.add_list e e2 ?_ (by grind)
 have ea:its.toArray++its2.toArray=(its++its2).toArray:=by simp
 rw[ea];exact⟨.ref _,_,I.lnew (t':=s.toks) (r.append r2) (by grind),rfl,q _ I.fresh⟩
def Yil:D->String
 | .non=>"NoneType"
 | .bl _=>"bool"
 | .int _=>"int"
 | .str _=>"str"
 | .tup _=>"tuple"
 | .lst _=>"list"
 | .scr _=>"list"
 | .dct _ _ _=>"dict"
 | .obj _ _ _=>"dict"
 | .adr _=>"dict"
def y4v:D->Bool
 | .scr _=>false
 | .dct t _ _=>!t
 | .obj _ _ _=>false
 | .adr _=>false
 | _=>true
def isiD(T:String)(d:D):Option Bool:=if y4v d=true then some (Yil d==T||(T=="int"&&Yil d=="bool"))else none
def y80(hn:y4v d=true)(r:Ct K G H d v):TyOf K H v (.type (Yil d)):=by
 cases d<;>rw[Ct]at r
 ·subst r;exact .non
 ·subst r;exact .bl _
 ·subst r;exact .int _
 ·obtain⟨rfl,_⟩:=r;exact .str _
 ·obtain⟨a,xs,rfl,g,_⟩:=r;exact .tup g.1
 ·obtain⟨a,xs,rfl,g,_⟩:=r
  rcases g with g|⟨o,g⟩
  ·exact .lst g
  ·exact .frz g
 ·cases hn
 ·rename_i t _ _
  cases t with
  | true=>cases hn
  | false=>
    obtain⟨a,_,_,rfl,g,_⟩:=r;rcases g with⟨_,_,g,_⟩|⟨g,_⟩
    ·exact .dK g
    ·cases g
 ·cases hn
 ·cases hn
def Kit(T:String):Prop:=∀(K:W.Frag) (d:D),W.kitOne K (.type (Yil d)) (.type T)=some (Yil d==T||(T=="int"&&Yil d=="bool"))
def y0m:Kit "tuple":=λK d=>by cases d<;>rfl
def y4w(hk:Kit T):Ydt X (.builtin "isinstance") (λxs H Q=>∃x d G,xs=[x,.ty T]/\y4v d=true/\Ct X.K G H d x/\Q (.bl (Yil d==T||(T=="int"&&Yil d=="bool"))) H):=by
 intro pins s σ H xs us Q I r h;obtain⟨x,d,G,rfl,hn,rx,q⟩:=h;obtain⟨u,w',rfl,r1,r2⟩:=Yxr r;cases (show w'=Value.type T from r2)
 exact Yzp I r1 (y80 hn rx) (hk X.K d) λtk=>⟨.bl _,H,I.tok tk,rfl,q⟩
end
end
section
variable {K:W.Frag}
def insI(a:Int):AH->AH
 | []=>[a]
 | b::l=>if a<=b then a::b::l else b::insI a l
def Yc1:AH->AH
 | []=>[]
 | a::l=>insI a (Yc1 l)
theorem Ylu(a:Int):∀l:AH,(insI a l).Perm (a::l)
 | []=>.refl _
 | b::l=>by
   rw[insI]
   split
   ·exact .refl _
   ·exact((Ylu a l).cons b).trans (.swap a b l)
theorem Yaz:∀l:AH,(Yc1 l).Perm l
 | []=>.refl _
 | a::l=>(Ylu a _).trans ((Yaz l).cons a)
theorem Ylv(a:Int):∀l:AH,l.Pairwise (·<=·)->(insI a l).Pairwise (·<=·)
 | [],_=>by simp[insI]
 | b::l,h=>by
   rw[insI]
   split
   ·rename_i hab
    refine List.pairwise_cons.mpr ⟨λx hx=>?_,h⟩;rcases qt hx with rfl|hx
    ·exact hab
    ·exact Int.le_trans hab ((List.pairwise_cons.mp h).1 x hx)
   ·rename_i hab
    refine List.pairwise_cons.mpr ⟨λx hx=>?_,Ylv a l (List.pairwise_cons.mp h).2⟩;rcases qt ((Ylu a l).mem_iff.mp hx)with rfl|hx
    ·lia
    simp_all
theorem Ya5:∀l:AH,(Yc1 l).Pairwise (·<=·)
 | []=>.nil
 | a::l=>Ylv a _ (Ya5 l)
section
variable {prog:Program}{w:World}{A:Around}{E:AB}{s:Shared}
theorem Yxx(hl:s.heap.IsList l vs.toArray)(h2:vs.length<2)(h:Q (.ref (~~~s+1)) { s with heap:=sortedAll s.heap vs vs.toArray }):wpAny (model prog w) A (call (.builtin "sorted") [.ref l]) Q E s:=by
 refine Calls.call_function_entry kind_sorted plain_sorted entry_sorted (args_sorted1 _) ?_;unfold Builtin.«sorted»;refine wa (m:=checkCount "sorted" 1 1 _) (wb ?_);refine wa (collect_list hl ?_ (by rw[jj];lia));refine wa (wpAny_newList ?_ (by rw[jj];lia))
 have hsz:((s.heap.push (seqObj "list" #[] 0)).update (~~~s) (Obj.mapSeq (·++vs.toArray))).objs.size= ~~~s+1:=by
  simp_all
 have hoL:(((s.heap.push (seqObj "list" #[] 0)).update (~~~s) (Obj.mapSeq (·++vs.toArray))).push (seqObj "list" vs.toArray 0)).get? (~~~s+1)=some (seqObj "list" vs.toArray 0):=by
  rw[<-hsz];exact qp _ rfl
 show wpAny _ _ _ _ _ { s with heap:=((s.heap.push (seqObj "list" #[] 0)).update (~~~s) (Obj.mapSeq (·++vs.toArray))).push (seqObj "list" vs.toArray 0) };rw[hsz];refine wa (wc (we slot_list_sort ⟨_,hoL,rfl⟩ entry_list_sort ?body (args_list_sort _)))
 case body=>
  rw[list_sort_plain];generalize hS:({ s with heap:=((s.heap.push (seqObj "list" #[] 0)).update (~~~s) (Obj.mapSeq (·++vs.toArray))).push (seqObj "list" vs.toArray 0) }:Shared)=S at *
  have hoS:S.heap.get? (~~~s+1)=some (seqObj "list" vs.toArray 0):=by grind
  have ha:(~~~s)+1<S.heap.objs.size:=ql hoS;refine wa (listItems_at hoS rfl ?_);refine wa (listUpdate_at hoS rfl ?_ (by rw[qk,jj];lia) (jb _))
  obtain⟨e1,ho1⟩:∃e1,(S.heap.update (~~~s+1) (Obj.mapSeq λ_=>#[])).get? (~~~s+1)=some (seqObj "list" #[] e1):=⟨_,get?_update_seq hoS (λ_=>#[])⟩
  refine wa (seqEpoch_at ho1 rfl ?_);refine wa (wpAny_newTuple ?_ (by show vs.length<=_;rw[jj];lia));refine wa (wpAny_newList ?_ (jb _));refine wc ?_
  have ho6:(((S.heap.update (~~~s+1) (Obj.mapSeq λ_=>#[])).push (seqObj "tuple" vs.toArray 0)).push (seqObj "list" #[] 0)).get? (~~~s+1)=some (seqObj "list" #[] e1):=by
   rw[Heap.get?_push_ne _ _ _ (by rw[size_push',Heap.size_update];grind),Heap.get?_push_ne _ _ _ (by rw[Heap.size_update];grind)];exact ho1
  show wpAny (model prog w) _ _ _ _ { S with heap:=((S.heap.update (~~~s+1) (Obj.mapSeq λ_=>#[])).push (seqObj "tuple" vs.toArray 0)).push (seqObj "list" #[] 0) };dsimp only
  have hlt:vs.toArray.size<2:=by grind
  rw[if_pos hlt,if_pos hlt];refine wa (wb ?_);rw[StateT.run_pure];refine wa (wb ?_);dsimp only;refine wa (seqEpoch_at ho6 rfl ?_);refine wa (listUpdate_at ho6 rfl ?_ (hsz2:=by grind));simp only[bne_self_eq_false,Bool.false_eq_true,if_false]
  have hout:(arrOf (SortSt.mk' general' (vs.toArray.zip vs.toArray) #[] 7 none)).map (·.2)=vs.toArray:=by
   grind
  refine wb ⟨_,rfl,wb ⟨_,rfl,?_⟩⟩;have hh:=h;unfold sortedAll sortedHeap at hh;rw[<-hS,hout];exact hh
def plt(j:Int)(q:Bool)(i:Int)(p:Bool):Bool:=if j=i then (!q&&p)else decide (j<i)
theorem y81(hb:IsTup s.heap b #[.int i t,.bool p])(hc:IsTup s.heap c #[.int j u,.bool q])(h:R (plt j q i p) s):
 wpAny (model prog w) A (keyLt' (tuples' true) (.ref c) (.ref b)) R E s:=by
 obtain⟨ob,h1,_,n1,d1⟩:=hb;obtain⟨oc,h2,_,n2,d2⟩:=hc;refine W.kat_lt h2 d2 h1 d1 ?_;show W.KatLex prog w A true false R [(.int j u,.int i t),(.bool q,.bool p)] 0 s;unfold plt at h;refine W.kat_cons (SeqAt.EqAt.int_int j u i t prog w _ _ (W.kat_go (λe=>W.kat_yes (W.kat_cons (SeqAt.EqAt.bool_bool q p prog w _ _ (W.kat_go (λe2=>W.kat_yes (W.kat_nil ?_)) λe2=>W.kat_no (W.kat_one _ _ (lt_bool ?_)))))) λe=>W.kat_no ?_))
 ·simp_all
 ·have e':j=i:=by simpa using e
  rw[if_pos e']at h;show R _ s
  cases p<;>cases q<;>first|exact h|simp at e2
 ·have e':¬j=i:=by simpa using e
  rw[if_neg e']at h;exact oneLt_int h
theorem Yxy(h:cmp 1 0 (λk s'=>if k=true then G #[1,0] s' else G #[0,1] s') S):(W.kas_sort 2).kasWp cmp G S:=by
 show cmp 1 0 (λk s'=>W.KasT.kasWp cmp _ G s') S
 have e:∀(k:Bool) (s':Shared),(if k=true then G #[1,0] s' else G #[0,1] s')=W.KasT.kasWp cmp (W.KasT.bind (W.KasT.bind (if k=true then W.KasT.ret 1 else W.kas_asc (List.toArray (List.range 2)) 0 2)
  λn=>if (n==2)=true then W.KasT.ret (n,List.toArray (List.range 2))else if n > 1 then .ask ((List.toArray (List.range 2)).getD 0 0) ((List.toArray (List.range 2)).getD (n-1) 0) λc=>if c=true then .ret (n,List.toArray (List.range 2))else W.kas_descPart n 2 (W.kas_rev (List.toArray (List.range 2)) 0 n)
   else W.kas_descPart n 2 (List.toArray (List.range 2))) λr=>if r.1<2 then W.kas_bin (2-max r.1 1) r.2 (max r.1 1)else .ret r.2) G s':=λk s'=>by cases k<;>rfl
 simp_all
theorem Yxz(hl:s.heap.IsList l #[.ref b,.ref c])(hb:IsTup s.heap b #[.int i t,.bool p])(hc:IsTup s.heap c #[.int j u,.bool q])(h:Q (.ref (~~~s+1)) { s with heap:=sortedAll s.heap [.ref b,.ref c] (if plt j q i p=true then #[.ref c,.ref b]else #[.ref b,.ref c]) }):wpAny (model prog w) A (call (.builtin "sorted") [.ref l]) Q E s:=by
 generalize hvs:[Value.ref b,Value.ref c]=vs at *;have hl':s.heap.IsList l vs.toArray:=hl
 have hlen:vs.length=2:=by grind
 refine Calls.call_function_entry kind_sorted plain_sorted entry_sorted (args_sorted1 _) ?_;unfold Builtin.«sorted»;refine wa (m:=checkCount "sorted" 1 1 _) (wb ?_);refine wa (collect_list hl' ?_ (by rw[jj];lia));refine wa (wpAny_newList ?_ (by rw[jj];lia))
 have hsz:((s.heap.push (seqObj "list" #[] 0)).update (~~~s) (Obj.mapSeq (·++vs.toArray))).objs.size= ~~~s+1:=by
  simp_all
 have hoL:(((s.heap.push (seqObj "list" #[] 0)).update (~~~s) (Obj.mapSeq (·++vs.toArray))).push (seqObj "list" vs.toArray 0)).get? (~~~s+1)=some (seqObj "list" vs.toArray 0):=by
  rw[<-hsz];exact qp _ rfl
 have keep0:∀b o,s.heap.get? b=some o->(((s.heap.push (seqObj "list" #[] 0)).update (~~~s) (Obj.mapSeq (·++vs.toArray))).push (seqObj "list" vs.toArray 0)).get? b=some o:=λb o q=>by
  have hlt:b< ~~~s:=ql q;rw[Heap.get?_push_ne _ _ _ (by grind),Heap.get?_update_ne _ _ _ _ (qm hlt),Heap.get?_push_ne _ _ _ (qm hlt)];exact q
 show wpAny _ _ _ _ _ { s with heap:=((s.heap.push (seqObj "list" #[] 0)).update (~~~s) (Obj.mapSeq (·++vs.toArray))).push (seqObj "list" vs.toArray 0) };rw[hsz];refine wa (wc (we slot_list_sort ⟨_,hoL,rfl⟩ entry_list_sort ?body (args_list_sort _)))
 case body=>
  rw[list_sort_plain];generalize hS:({ s with heap:=((s.heap.push (seqObj "list" #[] 0)).update (~~~s) (Obj.mapSeq (·++vs.toArray))).push (seqObj "list" vs.toArray 0) }:Shared)=S at *
  have hoS:S.heap.get? (~~~s+1)=some (seqObj "list" vs.toArray 0):=by grind
  have keepS:∀b o,s.heap.get? b=some o->S.heap.get? b=some o:=by grind
  have ha:(~~~s)+1<S.heap.objs.size:=ql hoS;refine wa (listItems_at hoS rfl ?_);refine wa (listUpdate_at hoS rfl ?_ (by rw[qk,jj];lia) (jb _))
  obtain⟨e1,ho1⟩:∃e1,(S.heap.update (~~~s+1) (Obj.mapSeq λ_=>#[])).get? (~~~s+1)=some (seqObj "list" #[] e1):=⟨_,get?_update_seq hoS (λ_=>#[])⟩
  refine wa (seqEpoch_at ho1 rfl ?_);refine wa (wpAny_newTuple ?_ (by show vs.length<=_;rw[jj];lia));refine wa (wpAny_newList ?_ (jb _));refine wc ?_
  have ho6:(((S.heap.update (~~~s+1) (Obj.mapSeq λ_=>#[])).push (seqObj "tuple" vs.toArray 0)).push (seqObj "list" #[] 0)).get? (~~~s+1)=some (seqObj "list" #[] e1):=by
   rw[Heap.get?_push_ne _ _ _ (by rw[size_push',Heap.size_update];grind),Heap.get?_push_ne _ _ _ (by rw[Heap.size_update];grind)];exact ho1
  have keep6:∀b o,s.heap.get? b=some o->(((S.heap.update (~~~s+1) (Obj.mapSeq λ_=>#[])).push (seqObj "tuple" vs.toArray 0)).push (seqObj "list" #[] 0)).get? b=some o:=λb o q=>by
   have hlt:b< ~~~s:=ql q;refine qe _ (qe _ ?_);rw[Heap.get?_update_ne _ _ _ _ (qm (Nat.lt_succ_of_lt hlt))];grind
  generalize hS6:({ S with heap:=((S.heap.update (~~~s+1) (Obj.mapSeq λ_=>#[])).push (seqObj "tuple" vs.toArray 0)).push (seqObj "list" #[] 0) }:Shared)=S6
  have ho7:S6.heap.get? (~~~s+1)=some (seqObj "list" #[] e1):=by grind
  have tb:IsTup S6.heap b #[.int i t,.bool p]:=by
   obtain⟨o,a1,a2⟩:=hb;exact⟨o,by grind,a2⟩
  have tc:IsTup S6.heap c #[.int j u,.bool q]:=by
   obtain⟨o,a1,a2⟩:=hc;exact⟨o,by grind,a2⟩
  dsimp only
  have hn2:¬vs.toArray.size<2:=by grind
  rw[if_neg hn2,if_neg hn2]
  have kt:W.KatTups S6.heap vs [.int i t,.int j u]:=by
   obtain⟨ob,b1,b2,n1,b3⟩:=tb;obtain⟨oc,c1,c2,n2,c3⟩:=tc;rw[<-hvs];exact .cons b1 b2 b3 rfl (.cons c1 c2 c3 rfl .nil)
  refine wa (W.kat_kind (T:=.type "int") kt (Nat.lt_succ_of_lt (Nat.lt_succ_self 0)) (λv hv=>?_) (by decide) ?_)
  ·rcases qt hv with rfl|hv
   ·exact .of_pure rfl
   ·rcases qt hv with rfl|hv
    ·exact .of_pure rfl
    ·cases hv
  have hcmp:wpAny (model prog w) A.in1.in1 (keyLt' (tuples' true) (vs.getD 1 Value.none) (vs.getD 0 Value.none)) (λk s'=>k=plt j q i p/\s'=S6) (λ_ _=>False) S6:=by
   rw[<-hvs];exact y81 tb tc ⟨rfl,rfl⟩
  refine wa (w5 (W.kat_run (ks:=vs) (vs:=vs) (κ:=tuples' true) (G:=λpm s'=>s'=S6/\pm=if plt j q i p=true then #[1,0]else #[0,1])
   (Q:=λst' s'=>s'=S6/\failedOf st'=none/\(arrOf st').map (·.2)=if plt j q i p=true then #[.ref c,.ref b]else #[.ref b,.ref c]) rfl (by lia) (by lia) (λpm st' s' a1 a2 a3 a4=>?_) ?_) ?_ λ_ _ e=>e)
  ·obtain⟨rfl,rfl⟩:=a4
   refine⟨rfl,a3,?_⟩;rw[W.kat_snds rfl a2,<-hvs];grind
  ·rw[hlen]
   refine Yxy ?_;refine w5 hcmp (λk s' hk=>?_) λ_ _ x=>x;grind
  rintro⟨⟨⟩,st'⟩ s' ⟨rfl,hf,hout⟩;dsimp only;refine wa (seqEpoch_at ho7 rfl ?_);refine wa (listUpdate_at ho7 rfl ?_ (jb _) (by rw[hout,jj];grind));rw[hf];simp only[bne_self_eq_false,Bool.false_eq_true,if_false];refine wb ⟨_,rfl,wb ⟨_,rfl,?_⟩⟩;have hh:=h;unfold sortedAll sortedHeap at hh;grind
end
def intsD:AR->Option AH
 | []=>some []
 | .int i::l=>(intsD l).map (i::·)
 | _=>none
def prI:D->Option (Int×Bool)
 | .tup [.int j,.bl q]=>some (j,q)
 | _=>none
def y65(e d:D):Option Bool:=(prI e).bind λx=>(prI d).map λy=>plt x.1 x.2 y.1 y.2
def Yjs{α:Type}{x:α}{P:Prop}(h:none=some x):P:=by cases h
def Ywe(h:prI d=some x):d=.tup [.int x.1,.bl x.2]:=by
 cases d with
 | tup l=>cases l with
   | nil=>exact Yjs h
   | cons a l=>cases a with
     | int j=>cases l with
       | nil=>exact Yjs h
       | cons b l=>cases b with
         | bl q=>cases l with
           | nil=>exact w6 h ▸ rfl
           | cons _ _=>exact Yjs h
         | _=>exact Yjs h
     | _=>exact Yjs h
 | _=>exact Yjs h
def Yx0(l:AR):Option AR:=match intsD l with
 | some ns=>if ns.length<64 then some ((Yc1 ns).map D.int)else none
 | none=>match l with
   | [d]=>some [d]
   | [d,e]=>(y65 e d).map λk=>if k=true then [e,d]else [d,e]
   | _=>none
def Ykl:AR->Option AR
 | [.lst l]=>Yx0 l
 | _=>none
theorem Yd1:∀{l:AR}{ns:AH},intsD l=some ns->l=ns.map D.int
 | [],ns,h=>by cases h;rfl
 | .int i::l,ns,h=>by
   rw[intsD]at h;obtain⟨m,h1,rfl⟩:=qc h;rw[Yd1 h1];rfl
 | .non::l,ns,h=>by simp[intsD]at h
 | .bl _::l,ns,h=>by simp[intsD]at h
 | .str _::l,ns,h=>by simp[intsD]at h
 | .tup _::l,ns,h=>by simp[intsD]at h
 | .lst _::l,ns,h=>by simp[intsD]at h
 | .scr _::l,ns,h=>by simp[intsD]at h
 | .dct _ _ _::l,ns,h=>by simp[intsD]at h
 | .obj _ _ _::l,ns,h=>by simp[intsD]at h
 | .adr _::l,ns,h=>by simp[intsD]at h
theorem Yg1:∀{ns:AH}{xs:AQ},RpL K G (ns.map D.int) xs->xs=ns.map V.int
 | [],xs,h=>by rw[List.map_nil,RpL]at h;exact h
 | n::ns,xs,h=>by
   rw[Qa,RpL]at h;obtain⟨x,r,rfl,h1,h2⟩:=h;rw[Rp]at h1;rw[h1,Yg1 h2];rfl
def y0n(H:Hp)(x:V)(i:Int)(p:Bool):Prop:=∃a,x=.ref a/\H a=some (.tup [.int i,.bl p])
def Yac6:AQ->Hp->VK->Prop:=λvs H Q=>∃a xs,vs=[.ref a]/\Rd H a (.lst xs)/\
 ((∃ns:AH,xs=ns.map V.int/\ns.length<64/\∀p,H p=none->Q (.ref p) (upd H p (.lst ((Yc1 ns).map V.int))))\/
  (xs.length<2/\∀p,H p=none->Q (.ref p) (upd H p (.lst xs)))\/
  (∃x y i p j q,xs=[x,y]/\y0n H x i p/\y0n H y j q/\∀r,H r=none->Q (.ref r) (upd H r (.lst (if plt j q i p=true then [y,x]else [x,y])))))
theorem Ydf:Ydt X (.builtin "sorted") Yac6:=by
 intro pins s σ H xs us Q I r h;obtain⟨a,ys,rfl,hr,h⟩:=h;obtain⟨u,rfl,ru⟩:=Yhc r;cases ru;obtain⟨its,rv,pl,hz⟩:=I.list (.inl hr)
 have fin:∀(out:Array Value) (zs:AQ),Vals zs out.toList->zs.length<=sizeLine->Q (.ref (~~~s+1)) (upd H (~~~s+1) (.lst zs))->EP X pins σ Q (.ref (~~~s+1)) { s with heap:=sortedAll s.heap its out }:=λout zs hv hz' hq=>by
  obtain⟨e,he⟩:=sortedAll_at s.heap its out;exact⟨.ref (~~~s+1),_,I.laid (t':=s.toks) (λb o q=>sortedAll_old q) (Nat.le_succ _) (show ObjOk X.prog X.w _ _ _ (.lst zs) from⟨hz',out.toList,e,hv,by simp_all⟩),rfl,hq⟩
 have fr:H (~~~s+1)=none:=I.hok.fresh (Nat.le_succ _);have hl:=rv.length;rcases h with⟨ns,rfl,h64,q⟩|⟨h2,q⟩|⟨x,y,i,p,j,k,rfl,px,py,q⟩
 ·have hI:=Ygy rv
  refine sorted_ints pl.isList hI (by grind) λout ns' h1 h2 h3=>?_;have e:ns'=Yc1 ns:=W.ksm_same (h2.trans (Yaz ns).symm) h3 (Ya5 ns);subst e;have hn:(Yc1 ns).length=ns.length:=(Yaz ns).length_eq;exact fin out _ (Ygb h1) (by grind) (q _ fr)
 ·refine Yxx pl.isList (by lia) ?_
  grind
 ·obtain⟨b,rfl,hb⟩:=px
  obtain⟨c,rfl,hc⟩:=py;obtain⟨u1,u2,rfl,r1,r2⟩:=Yxr rv;cases r1;cases r2
  obtain⟨_,ib,vb,tb⟩:=(show ObjOk X.prog X.w H s.heap b (.tup [.int i,.bl p]) from I.hok b _ hb)
  obtain⟨_,ic,vc,tc⟩:=(show ObjOk X.prog X.w H s.heap c (.tup [.int j,.bl k]) from I.hok c _ hc)
  obtain⟨w1,w2,rfl,⟨t,rfl⟩,w2e⟩:=Yxr vb;cases w2e;obtain⟨w3,w4,rfl,⟨t',rfl⟩,w4e⟩:=Yxr vc;cases w4e;refine Yxz (by simpa using pl.isList) (by simpa using tb) (by simpa using tc) ?_;refine fin _ (if plt j k i p=true then [.ref c,.ref b]else [.ref b,.ref c]) ?_ (by grind) (q _ fr);cases plt j k i p
  ·grind
  ·exact .cons rfl (.cons rfl .nil)
def Yrm(s:Same G H)(e:d=.tup [.int i,.bl p])(r:Rp K G d v):y0n H v i p:=by
 subst e;rw[Rp]at r;obtain⟨a,xs,rfl,g,rl⟩:=r;rw[RpL]at rl;obtain⟨x,r',rfl,h1,h2⟩:=rl;obtain⟨y,rfl,h3⟩:=Yjr h2;rw[Rp]at h1;rw[Rp]at h3;subst h1;subst h3;exact⟨a,rfl,s _ _ g⟩
def Yua(h:y65 e d=some k):∃j q i p,e=.tup [.int j,.bl q]/\d=.tup [.int i,.bl p]/\k=plt j q i p:=by
 obtain⟨x,h1,h2⟩:=qa h;obtain⟨y,h3,h4⟩:=qc h2;exact⟨x.1,x.2,y.1,y.2,Ywe h1,Ywe h3,h4.symm⟩
theorem Yeb:SemF K Yac6 Ykl:=by
 intro vs ds l H G Q h s r q;unfold Ykl at h
 split at h
 ·rename_i m
  obtain⟨v,rfl,rv⟩:=Ycz r;rw[Ct]at rv;obtain⟨a,xs,rfl,g,rl⟩:=rv;refine⟨a,xs,rfl,g,?_⟩;unfold Yx0 at h
  split at h
  ·rename_i ns hns
   split at h
   ·rename_i h64
    cases h;cases Yd1 hns;refine .inl ⟨ns,Yg1 rl,h64,λp hp=>?_⟩;exact q p _ _ G (.hid s hp _) hp (s.free hp) Yt (.ints _)
   ·cases h
  ·split at h
   ·cases h
    refine .inr (.inl ⟨by rw[rl.length];grind,λp hp=>?_⟩);exact q p _ _ G (.hid s hp _) hp (s.free hp) Yt rl
   ·rename_i d e
    obtain⟨k,h1,rfl⟩:=qc h;obtain⟨j,y,i,x,rfl,rfl,rfl⟩:=Yua h1;rw[RpL]at rl;obtain⟨v1,r1,rfl,p1,rl⟩:=rl;obtain⟨v2,rfl,p2⟩:=Yjr rl;refine .inr (.inr ⟨v1,v2,i,x,j,y,rfl,Yrm s rfl p1,Yrm s rfl p2,λp hp=>?_⟩);refine q p _ _ G (.hid s hp _) hp (s.free hp) Yt ?_;cases plt j y i x
    ·exact .cons p1 (.one p2)
    ·exact .cons p2 (.one p1)
   ·cases h
 ·cases h
end
section
variable {K:W.Frag}
section
variable {X:Cx}{e:Expr}{f fb:AX}{pos pos':Pos}
def blsD:AR->Option AJ
 | []=>some []
 | .bl b::l=>(blsD l).map (b::·)
 | _=>none
theorem Yrn:∀{l:AR}{bs:AJ},blsD l=some bs->l=bs.map D.bl
 | [],bs,h=>by cases h;rfl
 | .bl i::l,bs,h=>by
   rw[blsD]at h;obtain⟨m,h1,rfl⟩:=qc h;rw[Yrn h1];rfl
 | .non::l,ns,h=>by simp[blsD]at h
 | .int _::l,ns,h=>by simp[blsD]at h
 | .str _::l,ns,h=>by simp[blsD]at h
 | .tup _::l,ns,h=>by simp[blsD]at h
 | .lst _::l,ns,h=>by simp[blsD]at h
 | .scr _::l,ns,h=>by simp[blsD]at h
 | .dct _ _ _::l,ns,h=>by simp[blsD]at h
 | .obj _ _ _::l,ns,h=>by simp[blsD]at h
 | .adr _::l,ns,h=>by simp[blsD]at h
theorem y0o:∀{bs:AJ}{xs:AQ},RpL K G (bs.map D.bl) xs->xs=bs.map V.bl
 | [],xs,h=>by rw[List.map_nil,RpL]at h;exact h
 | n::ns,xs,h=>by
   rw[Qa,RpL]at h;obtain⟨x,r,rfl,h1,h2⟩:=h;rw[Rp]at h1;rw[h1,y0o h2];rfl
theorem Yph:∀{bs:AJ}{us:AD},Vals (bs.map V.bl) us->us=bs.map Value.bool
 | [],us,h=>by cases h;rfl
 | b::bs,us,h=>by
   cases h with
   | cons r t=>
     cases (show _=Value.bool b from r);rw[Yph t];rfl
theorem y0p(bs:AJ):((List.range bs.length).any λi=>bs.getD i false)=bs.any id:=by
 induction bs with
 | nil=>rfl
 | cons b bs ih=>
   rw[qr,List.range_succ_eq_map,List.any_cons,List.any_map,List.any_cons];grind
theorem y0q(bs:AJ):((List.range bs.length).all λi=>bs.getD i false)=bs.all id:=by
 induction bs with
 | nil=>rfl
 | cons b bs ih=>
   rw[qr,List.range_succ_eq_map,List.all_cons,List.all_map,List.all_cons];grind
def rBls(g:AJ->V):AQ->Hp->VK->Prop:=λvs H Q=>∃(a:Addr) (bs:AJ),vs=[.ref a]/\Rd H a (.lst (bs.map V.bl))/\Q (g bs) H
def Yro(A:Around)(prog:Program)(w:World)(bs:AJ):TruthOf prog w A (λi v=>((bs.map Value.bool).toArray)[i]?=some v) (λi=>bs.getD i false):=λi v s Q E hP hQ=>by
 have hP':(bs.map Value.bool)[i]?=some v:=by simpa using hP
 rw[Qh]at hP';obtain⟨b,h1,rfl⟩:=qc hP';refine wpAny_truthy_bool ?_
 have:bs.getD i false=b:=by simp[h1]
 rw[<-this];exact hQ
def Yrp{pins:AC}{σ:L2.St}{H:Hp}{its:AD}(hh:A.handled=none)(hl:s.heap.IsList a its.toArray)(h:∀s₂,s₂={ s with heap:=s.heap.push { cls:=.type "list_iterator",data:=.fields #[.ref a,.int 0 0] } }->Walks X.prog X.w A (~~~s) [~~~s,a] [~~~s] its.toArray.size (λi v=>its.toArray[i]?=some v) (λi h=>h.IsListIter (~~~s) a i/\h.IsList a its.toArray)->
  (s₂.heap.IsListIter (~~~s) a 0/\s₂.heap.IsList a its.toArray)->Q (.ref (~~~s)) s₂):wpAny (model X.prog X.w) A (pyIter (.ref a)) Q E s:=by
 have hne:a≠(~~~s):=by
  obtain⟨o,ho,_⟩:=hl;exact qm (ql ho)
 refine wpAny_pyIter_list hl (h _ rfl (Walks.list hh _ a hne _) ⟨⟨_,qp _ rfl,rfl,rfl⟩,?_⟩);obtain⟨o,ho,r⟩:=hl;exact⟨o,qe _ ho,r⟩
theorem Ykd{σ:L2.St}(I:Inv X pins σ H s)(k:∀b u,b∉[~~~s]->(s.heap.push o).get? b=some u->h'.get? b=some u):Inv X pins σ H { s with heap:=h',toks:=tk }:=
 I.kept λb u q=>k b u (by
  intro z
  have e:b= ~~~s:=by simpa using z
  exact absurd (ql q) (by grind)) (qe _ q)
def Ylw(hc:X.calm=true):Ydt X (.builtin "any") (rBls λbs=>.bl (bs.any id)):=by
 intro pins s σ H xs us Q I r h;obtain⟨a,bs,rfl,hr,q⟩:=h;obtain⟨u,rfl,ru⟩:=Yhc r;cases ru;obtain⟨its,rv,pl,hz⟩:=I.list (.inl hr);cases Yph rv;refine call_any_walk (Yrp (X:=X) (pins:=pins) (σ:=σ) (H:=H) (show X.A.in1.handled=none from I.ok.hd hc) pl.isList λs₂ e W st=>?_);subst e;refine⟨_,_,_,_,_,_,λi=>bs.getD i false,rfl,W,st,Yro _ _ _ bs,λh' tk k=>⟨.bl _,H,(show Inv X pins σ H { s with heap:=h',toks:=tk } from Ykd I k),?_,q⟩⟩;show Value.bool _=Value.bool _;rw[qk,qf,y0p]
def y0r(hc:X.calm=true):Ydt X (.builtin "all") (rBls λbs=>.bl (bs.all id)):=by
 intro pins s σ H xs us Q I r h;obtain⟨a,bs,rfl,hr,q⟩:=h;obtain⟨u,rfl,ru⟩:=Yhc r;cases ru;obtain⟨its,rv,pl,hz⟩:=I.list (.inl hr);cases Yph rv;refine call_all_walk (Yrp (X:=X) (pins:=pins) (σ:=σ) (H:=H) (show X.A.in1.handled=none from I.ok.hd hc) pl.isList λs₂ e W st=>?_);subst e;refine⟨_,_,_,_,_,_,λi=>bs.getD i false,rfl,W,st,Yro _ _ _ bs,λh' tk k=>⟨.bl _,H,(show Inv X pins σ H { s with heap:=h',toks:=tk } from Ykd I k),?_,q⟩⟩;show Value.bool _=Value.bool _;rw[qk,qf,y0q]
def anyC:AR->Option D
 | [.lst l]=>(blsD l).map λbs=>.bl (bs.any id)
 | _=>none
def allC:AR->Option D
 | [.lst l]=>(blsD l).map λbs=>.bl (bs.all id)
 | _=>none
def y0s{gd:AJ->D}(hm:∀ds d,m ds=some d->∃l bs,ds=[.lst l]/\blsD l=some bs/\d=gd bs)(hg:∀G bs,Rp K G (gd bs) (g bs)):SemC K (rBls g) m:=by
 intro vs ds d H G Q h s r q;obtain⟨l,bs,rfl,h1,rfl⟩:=hm ds d h;obtain⟨v,rfl,rv⟩:=Ycz r;rw[Ct]at rv;obtain⟨a,xs,rfl,g',rl⟩:=rv;cases Yrn h1;cases y0o rl;exact⟨a,bs,rfl,g',q _ H G (.refl s) (hg G bs)⟩
theorem Yub:SemC K (rBls λbs=>.bl (bs.any id)) anyC:=y0s (gd:=λbs=>.bl (bs.any id)) (λds d h=>by
 unfold anyC at h
 split at h
 ·obtain⟨bs,h1,rfl⟩:=qc h
  grind
 ·cases h) λG bs=>by rw[Rp]
theorem y82:SemC K (rBls λbs=>.bl (bs.all id)) allC:=y0s (gd:=λbs=>.bl (bs.all id)) (λds d h=>by
 unfold allC at h
 split at h
 ·obtain⟨bs,h1,rfl⟩:=qc h
  grind
 ·cases h) λG bs=>by rw[Rp]
def y0t(i:Nat)(fi f:AX)(g:AR->D->D->Option AR):AU:=λρ=>(f ρ).bind λd=>(getO i ρ).bind λl=>(fi ρ).bind λk=>(g l k d).map λl'=>.nx (ρ.set i (some (.ow l')))
end
end
section
variable {K:W.Frag}
section
variable {prog:Program}{w:World}{A:Around}{E:AB}{s:Shared}
def Yjt(hit:s.heap.IsTupleIter it t i)(ht:s.heap.IsTuple t items)(hx:items[i]?=some x)(hQ:∀h',h'.IsTupleIter it t (i+1)->Heap.SameBut it s.heap h'->Q x { s with heap:=h' }):
 wpAny (model prog w) A (Builtin.SmallTypes.nextOf (.ref it)) Q E s:=by
 obtain⟨o,ho,hc,hd⟩:=id hit;obtain⟨ol,hol,_,nl,hdl⟩:=ht;unfold Builtin.SmallTypes.nextOf
 refine wa (wpAny_callSpecial?_slot (name:=Str.ofString "__next__") hit.typeIs F.slot_tuple_iterator_next
  (we F.slot_tuple_iterator_next hit.typeIs F.entry_tuple_iterator_next ?_ (F.args_tuple_iterator_next_1 _)))
 show wpAny _ _ (field (.ref it) 0>>=_) _ _ s;refine wa (wpAny_field ho hd (x:=.ref t) rfl ?_);show wpAny _ _ (if (Value.ref t==Value.none)=true then _ else _) _ _ s;rw[if_neg (show ¬((Value.ref t==Value.none)=true) from qi)];show wpAny _ _ (field (.ref it) 1>>=_) _ _ s;refine wa (wpAny_field ho hd (x:=.int i 0) rfl ?_);show wpAny _ _ (seqItems? (.ref t)>>=_) _ _ s;refine wa (wpAny_seqItems hol hdl ?_);simp only[w9,hx];refine wa (wpAny_setField ho hd (by simp) (wb ⟨x,rfl,wb (hQ _ ?_ (wv ..))⟩))
 exact⟨_,wy _ ho (Obj.isFreed_of_fields (jh hd _)),(Obj.cls_mapFields ..).trans hc,by
  rw[jh hd];simp[rawInt]⟩
def Ykm(hh:A.handled=none)(hit:s.heap.IsTupleIter it l i)(hl:s.heap.IsTuple l items)(hx:items[i]?=none)(hE:∀h' e,Heap.ExtBut it s.heap h'->(∃o,h'.get? e=some o/\o.cls=.type "StopIteration")->E (.ref e) { s with heap:=h' }):
 wpAny (model prog w) A (Builtin.SmallTypes.nextOf (.ref it)) Q E s:=by
 obtain⟨o,ho,hc,hd⟩:=id hit;obtain⟨ol,hol,_,nl,hdl⟩:=hl;unfold Builtin.SmallTypes.nextOf
 refine wa (wpAny_callSpecial?_slot (name:=Str.ofString "__next__") hit.typeIs F.slot_tuple_iterator_next
  (we F.slot_tuple_iterator_next hit.typeIs F.entry_tuple_iterator_next ?_ (F.args_tuple_iterator_next_1 _)))
 show wpAny _ _ (field (.ref it) 0>>=_) _ _ s;refine wa (wpAny_field ho hd (x:=.ref l) rfl ?_);show wpAny _ _ (if (Value.ref l==Value.none)=true then _ else _) _ _ s;rw[if_neg (show ¬((Value.ref l==Value.none)=true) from qi)];show wpAny _ _ (field (.ref it) 1>>=_) _ _ s;refine wa (wpAny_field ho hd (x:=.int i 0) rfl ?_);show wpAny _ _ (seqItems? (.ref l)>>=_) _ _ s;refine wa (wpAny_seqItems hol hdl ?_);simp only[w9,hx];refine wa (wpAny_rule (wa (wpAny_setField ho hd (by simp) ?_)));show wpAny _ _ (newExc (.type "StopIteration") []>>=_) _ _ _;refine wa ?_;simp only[newExc,newTuple];refine wa (wg ?_ (by size_fits));refine wa (m:=firstArgMember _ _) (wpAny_of_eq (a:=Value.none) (by first|rfl|(simp only[firstArgMember];rfl)) ?_);refine wg ?_ (by size_fits);simp only[raiseNew];refine wa (wpAny_handled ?_)
 first|rw[show A.in1.handled=none from hh]|rw[hh]
 refine wa (wb (wpAny_throw ?_));exact hE _ _ (((wv ..).extBut.push _).push _) ⟨_,qp _ rfl,rfl⟩
def Ylx{i:Nat}{Q:AB}(he:IsEnum s.heap e it i old)(hit:s.heap.IsTupleIter it l i)(hl:s.heap.IsTuple l items)(hx:items[i]?=some x)(hne:e≠it)(hQ:∀h',IsEnumOut h' e it ((i:Int)+1) x (~~~s)->h'.IsTupleIter it l (i+1)->
  h'.get? (~~~s)=some { cls:=.type "tuple",data:=.seq #[.int i s.toks,x] }->h'.objs.size= ~~~s+1->
  (∀b o,b≠e->b≠it->s.heap.get? b=some o->h'.get? b=some o)->Q (.ref (~~~s)) { s with heap:=h',toks:=s.toks+1 }):
 wpAny (model prog w) A (Builtin.«enumerate.__next__» ⟨[.ref e],[]⟩) (λfin s'=>∃v,fin=.done (.ret v)/\Q v s') E s:=by
 obtain⟨hp,g,d,tk,os⟩:=s;show wpAny _ _ (field (.ref e) 2>>=_) _ _ _;refine wa (wpAny_field he rfl (x:=.ref it) rfl ?_);refine wa (Yjt hit hl hx λh₁ hit₁ hs₁=>?_);replace hs₁:Heap.SameBut it hp h₁:=hs₁;have he₁:IsEnum h₁ e it i old:=(hs₁.2 e hne).trans he;show wpAny _ _ (field (.ref e) 3>>=_) _ _ ⟨h₁,g,d,tk,os⟩;refine wa (wpAny_field he₁ rfl (x:=rawInt i) rfl ?_);show wpAny _ _ (field (.ref e) 4>>=_) _ _ ⟨h₁,g,d,tk,os⟩;refine wa (wpAny_field he₁ rfl (x:=.none) rfl ?_);show wpAny _ _ (mkInt i>>=_) _ _ ⟨h₁,g,d,tk,os⟩;refine wa (wpAny_mkInt ?_);show wpAny _ _ (setField (.ref e) 3 (rawInt ((i:Int)+1))>>=_) _ _ ⟨h₁,g,d,tk+1,os⟩;refine wa (wpAny_setField_rec he₁ (by simp) λh₂ he₂ hs₂=>?_);replace hs₂:Heap.SameBut e h₁ h₂:=hs₂;replace he₂:IsEnum h₂ e it ((i:Int)+1) old:=he₂;show wpAny _ _ (setField (.ref e) 4 .none>>=_) _ _ ⟨h₂,g,d,tk+1,os⟩;refine wa (wpAny_setField_rec he₂ (by simp) λh₃ he₃ hs₃=>?_);replace hs₃:Heap.SameBut e h₂ h₃:=hs₃;replace he₃:IsEnum h₃ e it ((i:Int)+1) old:=he₃;show wpAny _ _ (newTuple [.int i tk,x]>>=_) _ _ ⟨h₃,g,d,tk+1,os⟩;refine wa (wpAny_newTuple ?_);have he₄:IsEnum (h₃.push { cls:=.type "tuple",data:=.seq #[.int i tk,x] }) e it ((i:Int)+1) old:=qe _ he₃;generalize hh₄:h₃.push { cls:=.type "tuple",data:=.seq #[.int i tk,x] }=h₄ at he₄
 have hsz:h₃.objs.size=hp.objs.size:=by rw[hs₃.1,hs₂.1,hs₁.1]
 have hel:e<hp.objs.size:=ql he
 have ht₄:h₄.get? hp.objs.size=some { cls:=.type "tuple",data:=.seq #[.int i tk,x] }:=by rw[<-hh₄,<-hsz];exact qp _ rfl
 have hz₄:h₄.objs.size=hp.objs.size+1:=by rw[<-hh₄,ww,hsz]
 have hk₄:∀b o,b≠e->b≠it->hp.get? b=some o->h₄.get? b=some o:=λb o hbe hbi hb=>by
  rw[<-hh₄];exact qe _ (hs₃.extBut b o hbe (hs₂.extBut b o hbe (hs₁.extBut b o hbi hb)))
 have hit₄:h₄.IsTupleIter it l (i+1):=by
  rw[<-hh₄];obtain⟨o,ho,r⟩:=(hit₁.at λo q=>hs₃.extBut it o (Ne.symm hne) (hs₂.extBut it o (Ne.symm hne) q));exact⟨o,qe _ ho,r⟩
 show wpAny _ _ (Builtin.SmallTypes.ownedTupleIsFree (.ref e)>>=_) _ _ ⟨h₄,g,d,tk+1,os⟩;rw[hsz];clear hh₄ he₃ hs₃ he₂ hs₂ he₁ hs₁ hit₁ hsz h₃ h₂ h₁;refine wa ?_
 ·unfold Builtin.SmallTypes.ownedTupleIsFree
  refine wa (wpAny_field he₄ rfl (x:=.none) rfl (wb ?_));simp only[if_true];refine wa (wpAny_rule ?_);refine wa (wpAny_field he₄ rfl (x:=old) rfl ?_);refine wa (wpAny_setField_rec he₄ (by simp) λh₅ he₅ hs₅=>?_);replace hs₅:Heap.SameBut e h₄ h₅:=hs₅;replace he₅:IsEnum h₅ e it ((i:Int)+1) x:=he₅;show wpAny _ _ (Builtin.SmallTypes.ownedTupleHandOut (.ref e) (.ref hp.objs.size)>>=_) _ _ ⟨h₅,g,d,tk+1,os⟩;refine wa ?_
  ·unfold Builtin.SmallTypes.ownedTupleHandOut
   refine wa (wpAny_setField_rec he₅ (by simp) λh₆ he₆ hs₆=>?_);replace hs₆:Heap.SameBut e h₅ h₆:=hs₆;replace he₆:IsEnumOut h₆ e it ((i:Int)+1) x hp.objs.size:=he₆;refine wpAny_setField_rec he₆ (by simp) λh₇ he₇ hs₇=>?_;replace hs₇:Heap.SameBut e h₆ h₇:=hs₇;replace he₇:IsEnumOut h₇ e it ((i:Int)+1) x hp.objs.size:=he₇;refine wa (wpAny_letGo (wb ⟨_,rfl,hQ h₇ he₇ ?_ ?_ ?_ ?_⟩))
   ·exact hit₄.at λo q=>hs₇.extBut it o (Ne.symm hne) (hs₆.extBut it o (Ne.symm hne) (hs₅.extBut it o (Ne.symm hne) q))
   ·exact hs₇.extBut _ _ (Nat.ne_of_gt hel) (hs₆.extBut _ _ (Nat.ne_of_gt hel) (hs₅.extBut _ _ (Nat.ne_of_gt hel) ht₄))
   ·rw[hs₇.1,hs₆.1,hs₅.1,hz₄]
   ·exact λb o hbe hbi hb=>hs₇.extBut b o hbe (hs₆.extBut b o hbe (hs₅.extBut b o hbe (hk₄ b o hbe hbi hb)))
def Yju{i:Nat}(he:IsEnum s.heap e it i old)(hit:s.heap.IsTupleIter it l i)(hl:s.heap.IsTuple l items)(hx:items[i]?=some x)(hne:e≠it)(hQ:∀h',IsEnumOut h' e it ((i:Int)+1) x (~~~s)->h'.IsTupleIter it l (i+1)->
  h'.get? (~~~s)=some { cls:=.type "tuple",data:=.seq #[.int i s.toks,x] }->h'.objs.size= ~~~s+1->
  (∀b o,b≠e->b≠it->s.heap.get? b=some o->h'.get? b=some o)->Q (some (.ref (~~~s))) { s with heap:=h',toks:=s.toks+1 }):
 wpAny (model prog w) A (pyNext (.ref e)) Q E s:=by
 have hT:s.TypeIs (.ref e) "enumerate":=⟨_,he,rfl⟩
 unfold pyNext
 exact wa (ji (wpAny_callSpecial?_slot (name:=Str.ofString "__next__") hT F.slot_enumerate_next
  (we F.slot_enumerate_next hT F.entry_enumerate_next
   (Ylx he hit hl hx hne λh' a b c d k=>wb (hQ h' a b c d k)) (F.args_enumerate_next_1 _))))
def Ykn{i:Nat}(hh:A.handled=none)(he:IsEnum s.heap e it i old)(hit:s.heap.IsTupleIter it l i)(hl:s.heap.IsTuple l items)(hx:items[i]?=none)(hQ:∀h',Heap.ExtBut it s.heap h'->Q none { s with heap:=h' }):wpAny (model prog w) A (pyNext (.ref e)) Q E s:=by
 have hT:s.TypeIs (.ref e) "enumerate":=⟨_,he,rfl⟩
 unfold pyNext
 refine wa (ji (wpAny_callSpecial?_slot (name:=Str.ofString "__next__") hT F.slot_enumerate_next
  (we F.slot_enumerate_next hT F.entry_enumerate_next ?_ (F.args_enumerate_next_1 _))))
 show wpAny _ _ (field (.ref e) 2>>=_) _ _ _;refine wa (wpAny_field he rfl (x:=.ref it) rfl ?_);refine wa (Ykm hh hit hl hx λh' x he' hx'=>?_);obtain⟨o,ho,hc⟩:=hx';refine wa (wpAny_isInstance (T:="StopIteration") (b:=true) ⟨o,ho,hc⟩ isSubtype_stop ?_);exact wb (hQ _ he')
def Yly(l:Addr)(items:Array Value)(n:Nat)(dct:Option Addr)(sl:Array (Option Value)):
 Meets (Builtin.«enumerate.__new__» ⟨[.type "enumerate",.ref l],[]⟩) (λ_ R s=>s.heap.get? l=some { cls:=.type "tuple",dict:=dct,data:=.seq items n,slots:=sl }/\
  R (.ok (.ret (.ref (s.heap.push { cls:=.type "tuple_iterator",data:=.fields #[.ref l,.int 0 0] }).objs.size)))
   { s with heap:=(s.heap.push { cls:=.type "tuple_iterator",data:=.fields #[.ref l,.int 0 0] }).push { cls:=.type "enumerate",data:=.fields #[.none,.bool false,.ref (~~~s),rawInt 0,.none,.none] } }):=
 .of_wp λprog w A R s h=>by
  obtain⟨hp,g,d,tk,os⟩:=s;obtain⟨hl,h⟩:=h;have hsub:=sub_enumerate
  have hL:Heap.IsTuple (Shared.heap ⟨hp,g,d,tk,os⟩) l items:=⟨_,hl,rfl,n,rfl⟩
  wp_walk using PySem.AutoSeq1.wpAny_loadPart' hl
  refine wpAny_stack_any λst=>wb ?_
  split
  ·rename_i c _ _ _ _ _
   cases (c==Value.type "enumerate")
   ·wp_walk using PySem.AutoSeq1.wpAny_loadPart' hl,wpAny_pyIter_tuple hL
    exact⟨_,rfl,h⟩
   ·wp_walk using PySem.AutoSeq1.wpAny_loadPart' hl,wpAny_pyIter_tuple hL
    exact⟨_,rfl,h⟩
  ·wp_walk using PySem.AutoSeq1.wpAny_loadPart' hl,wpAny_pyIter_tuple hL
   exact⟨_,rfl,h⟩
theorem Yhf(hL:s.heap.IsTuple l items)(h:∀h',IsEnum h' (~~~s+1) (~~~s) 0 .none->h'.IsTupleIter (~~~s) l 0->h'.objs.size= ~~~s+2->
  (∀b o,s.heap.get? b=some o->h'.get? b=some o)->Q (.ref (~~~s+1)) { s with heap:=h' }):
 wpAny (model prog w) A (call (.type "enumerate") [.ref l]) Q E s:=by
 obtain⟨⟨c,dct,dt,sl⟩,hl,hc,n,hd⟩:=hL;replace hc:c=.type "tuple":=hc;replace hd:dt=.seq items n:=hd;subst hc hd
 refine callType_new F.called_enumerate (by decide) (F.typeCall_enumerate_1 _) (F.newCall_enumerate_1 _) (λobj=>F.args_object_init_2 obj _) F.entry_enumerate_new
  (Yly l items n dct sl) ⟨hl,?_⟩
 have hz:(s.heap.push { cls:=.type "tuple_iterator",data:=.fields #[.ref l,.int 0 0] }).objs.size= ~~~s+1:=ww ..;show _/\_;rw[hz]
 have he:IsEnum ((s.heap.push { cls:=.type "tuple_iterator",data:=.fields #[.ref l,.int 0 0] }).push
  { cls:=.type "enumerate",data:=.fields #[.none,.bool false,.ref (~~~s),rawInt 0,.none,.none] }) (~~~s+1) (~~~s) 0 .none:=by
  have:=qp (s.heap.push { cls:=.type "tuple_iterator",data:=.fields #[.ref l,.int 0 0] })
   (o:={ cls:=.type "enumerate",data:=.fields #[.none,.bool false,.ref (~~~s),rawInt 0,.none,.none] }) rfl
  grind
 refine⟨⟨_,he,rfl⟩,h _ he ⟨_,qe _ (qp _ rfl),rfl,rfl⟩ (by simp_all) λb o x=>qe _ (qe _ x)⟩
end
theorem Yim{σ:L2.St}{ch:List Addr}{T:Addr}(I:Inv X pins σ H s)(hf:∀b∈ch,FpOk X pins H b)(k:∀b u,b∉ch->s.heap.get? b=some u->h'.get? b=some u)(hT:(~~~s)<=T)(new:ObjOk X.prog X.w (upd H T o) h' T o):Inv X pins σ (upd H T o) { s with heap:=h',toks:=t' }:=by
 have fr:H T=none:=I.hok.fresh hT
 have nch:∀b u,H b=some u->b∉ch:=λb u e z=>by rw[(hf b z).1]at e;cases e
 refine I.step (g':=s.gens) (d':=s.drawn) (ch:=ch) (λb hb=>?_) (λb u _ _ hc e _=>k b u hc e) (λb u _ _ hc e _=>⟨u.slots,k b u hc e⟩) (λb u _ e n=>?_)
  (λb u hc e=>⟨u,k b u hc e⟩) (λb xs e=>?_) (λb u xs e=>?_) (λb ps e=>⟨#[],?_⟩) (λm hm=>?_) (λb u e=>?_) I.bare
 ·obtain⟨_,f1,_,f3,f4,f5⟩:=hf b hb
  grind
 ·rw[Yaa (qm (Qc (ql e) hT))];exact n
 ·rw[Yaa (Yy e fr)];exact e
 ·rw[Yaa (Yy e fr)];exact e
 ·rw[Yaa (Yy e fr),e];simp
 ·obtain⟨ob,es,ep,ho,r⟩:=hm
  exact⟨ob,es,ep,k _ ob (λz=>(hf _ z).2.1 rfl) ho,r⟩
 ·by_cases hb:b=T
  ·subst hb;rw[Yt]at e;grind
  ·rw[Yaa hb]at e
   refine(I.hok b u e).stay (λc v hc q=>k c v ?_ q) (λc q=>by rw[Yaa (Yy q fr)];exact q) λc xs q=>by rw[Yaa (Yy q fr)];exact q
   grind
def IteL(K:W.Frag)(a:Addr):It:=
 ⟨λi H=>∃xs x,SqL K H a xs/\xs[i]?=some x,λi H x H'=>∃y p,(∀xs,SqL K H a xs->xs[i]?=some y)/\H p=none/\x=.ref p/\H'=upd H p (.tup [.int i,y]),λi H=>∃xs,SqL K H a xs/\xs.length<=i⟩
def IteT(K:W.Frag)(a:Addr):It:=
 ⟨λi H=>∃xs x,SqT K H a xs/\xs[i]?=some x,λi H x H'=>∃y p,(∀xs,SqT K H a xs->xs[i]?=some y)/\H p=none/\x=.ref p/\H'=upd H p (.tup [.int i,y]),λi H=>∃xs,SqT K H a xs/\xs.length<=i⟩
section
variable {elts:AM}{x1:Nat}{pt:Pos}
theorem Yx1(a it e:Addr)(hei:e≠it):Turn P w K (.Tuple elts x1 pt) (IteL K a) [e,it] e (λi h=>(∃old,IsEnum h e it i old)/\h.IsListIter it a i) where
 mem:=by simp
 obj:=λi h st b hb=>by
  obtain⟨⟨old,he⟩,hit⟩:=st;rcases qt hb with rfl|hb
  ·grind
  ·have z:b=it:=by grind
   subst z;obtain⟨o,q,c,d⟩:=hit;grind
 keep:=λi h h' st k=>by
  obtain⟨⟨old,he⟩,hit⟩:=st;exact⟨⟨old,k e (by simp) _ he⟩,hit.at λo q=>k it (by simp) o q⟩
 item:=by
  intro X hP hw hK hc i pins s σ H E I hf st hg;subst hP hw hK;obtain⟨xs,x,hq,hx⟩:=hg;obtain⟨its,rv,p,hz⟩:=I.list hq;obtain⟨u,hu,ru⟩:=rv.get hx;obtain⟨⟨old,he⟩,hit⟩:=st;refine wpAny_pyNext_enum_item he hit p.isList (x:=u) (by grind) hei λh' ho hit' hT hsz hk=>?_;refine⟨_,rfl,wpAny_letOwnedTupleGo_enum ho λh2 he2 hs2=>?_⟩;have fr:H (~~~s)=none:=I.fresh
  have hne:∀b∈[e,it],b≠(~~~s):=λb hb z=>by
   rcases qt hb with rfl|hb
   ·grind
   ·have z2:b=it:=by grind
    subst z2;obtain⟨o,q,_⟩:=hit;exact absurd (ql q) (by grind)
  have kk:∀b o,b∉[e,it]->s.heap.get? b=some o->h2.get? b=some o:=λb o hb q=>by
   have h1:b≠e:=λz=>hb (by simp[z]);have h3:b≠it:=λz=>hb (by simp[z]);exact(hs2.2 b h1).trans (hk b o h1 h3 q)
  have tT:h2.get? (~~~s)=some { cls:=.type "tuple",data:=.seq #[.int i s.toks,u] }:=(hs2.2 _ (Ne.symm (hne e (by simp)))).trans hT;refine⟨.ref (~~~s),upd H (~~~s) (.tup [.int i,x]),(show Inv X pins σ _ { s with heap:=h2,toks:=s.toks+1 } from Yim (s:=s) (t':=s.toks+1) I hf kk (qu _) ?_),rfl,⟨x,~~~s,λys hy=>by rw[I.list_inj hy hq];exact hx,fr,rfl,rfl⟩,⟨⟨_,by simpa using he2⟩,hit'.at λo q=>(hs2.2 it (Ne.symm hei)).trans q⟩,λb hb=>?_⟩
  ·exact⟨by rw[jj];grind,[.int i s.toks,u],.cons ⟨_,rfl⟩ (.cons ru .nil),_,tT,rfl,0,rfl⟩
  ·rw[Yaa (hne b hb)];exact(hf b hb).1
 done:=by
  intro X hP hw hK hc i pins s σ H E I hf st hg;subst hP hw hK;obtain⟨xs,hq,hx⟩:=hg;obtain⟨its,rv,p,hz⟩:=I.list hq;obtain⟨⟨old,he⟩,hit⟩:=st;obtain⟨f0,f1,f2,f3,f4,f5⟩:=hf it (by simp);have hl:=rv.length
  exact wpAny_pyNext_enum_end (I.ok.hd hc) he hit p.isList (by simp;lia) λh' eb=>⟨rfl,I.turned (t':=s.toks) (λb o hb e=>eb b o hb e) f0 f1 f3 f4 f5⟩
 self:=λ_ _ _ _ _ st h=>let ⟨⟨_,he⟩,_⟩:=st;wpAny_pyIter_enum he h
theorem Yx2(a it e:Addr)(hei:e≠it):Turn P w K (.Tuple elts x1 pt) (IteT K a) [e,it] e (λi h=>(∃old,IsEnum h e it i old)/\h.IsTupleIter it a i) where
 mem:=by simp
 obj:=λi h st b hb=>by
  obtain⟨⟨old,he⟩,hit⟩:=st;rcases qt hb with rfl|hb
  ·grind
  ·have z:b=it:=by grind
   subst z;obtain⟨o,q,c,d⟩:=hit;grind
 keep:=λi h h' st k=>by
  obtain⟨⟨old,he⟩,hit⟩:=st;exact⟨⟨old,k e (by simp) _ he⟩,hit.at λo q=>k it (by simp) o q⟩
 item:=by
  intro X hP hw hK hc i pins s σ H E I hf st hg;subst hP hw hK;obtain⟨xs,x,hq,hx⟩:=hg;obtain⟨its,rv,p,hz⟩:=I.tuple hq;obtain⟨u,hu,ru⟩:=rv.get hx;obtain⟨⟨old,he⟩,hit⟩:=st;refine Yju he hit (show s.heap.IsTuple a its.toArray from p) (x:=u) (by grind) hei λh' ho hit' hT hsz hk=>?_;refine⟨_,rfl,wpAny_letOwnedTupleGo_enum ho λh2 he2 hs2=>?_⟩;have fr:H (~~~s)=none:=I.fresh
  have hne:∀b∈[e,it],b≠(~~~s):=λb hb z=>by
   rcases qt hb with rfl|hb
   ·grind
   ·have z2:b=it:=by grind
    subst z2;obtain⟨o,q,_⟩:=hit;exact absurd (ql q) (by grind)
  have kk:∀b o,b∉[e,it]->s.heap.get? b=some o->h2.get? b=some o:=λb o hb q=>by
   have h1:b≠e:=λz=>hb (by simp[z]);have h3:b≠it:=λz=>hb (by simp[z]);exact(hs2.2 b h1).trans (hk b o h1 h3 q)
  have tT:h2.get? (~~~s)=some { cls:=.type "tuple",data:=.seq #[.int i s.toks,u] }:=(hs2.2 _ (Ne.symm (hne e (by simp)))).trans hT;refine⟨.ref (~~~s),upd H (~~~s) (.tup [.int i,x]),(show Inv X pins σ _ { s with heap:=h2,toks:=s.toks+1 } from Yim (s:=s) (t':=s.toks+1) I hf kk (qu _) ?_),rfl,⟨x,~~~s,λys hy=>by rw[I.tuple_inj hy hq];exact hx,fr,rfl,rfl⟩,⟨⟨_,by simpa using he2⟩,hit'.at λo q=>(hs2.2 it (Ne.symm hei)).trans q⟩,λb hb=>?_⟩
  ·exact⟨by rw[jj];grind,[.int i s.toks,u],.cons ⟨_,rfl⟩ (.cons ru .nil),_,tT,rfl,0,rfl⟩
  ·rw[Yaa (hne b hb)];exact(hf b hb).1
 done:=by
  intro X hP hw hK hc i pins s σ H E I hf st hg;subst hP hw hK;obtain⟨xs,hq,hx⟩:=hg;obtain⟨its,rv,p,hz⟩:=I.tuple hq;obtain⟨⟨old,he⟩,hit⟩:=st;obtain⟨f0,f1,f2,f3,f4,f5⟩:=hf it (by simp);have hl:=rv.length
  exact Ykn (I.ok.hd hc) he hit (show s.heap.IsTuple a its.toArray from p) (by simp;lia) λh' eb=>⟨rfl,I.turned (t':=s.toks) (λb o hb e=>eb b o hb e) f0 f1 f3 f4 f5⟩
 self:=λ_ _ _ _ _ st h=>let ⟨⟨_,he⟩,_⟩:=st;wpAny_pyIter_enum he h
variable {X:Cx}{pos:Pos}
def Yafz(K:W.Frag)(ta:TA):TI:=λσ H R=>ta σ H λvs H1=>∃a xs,vs=[.ref a]/\((SqL K H1 a xs/\(xs.length<=sizeLine->R (IteL K a) H1))\/(SqT K H1 a xs/\(xs.length<=sizeLine->R (IteT K a) H1)))
theorem y83(hg:Gl X "enumerate")(hm:X.mg "enumerate"=none)(ha:PA X [l] ta)(hs:starEach [l] X.env=[(false,eval l X.env)]:=by rfl):PI X (.Tuple elts x1 pt) (.Call (.Name "enumerate" p) [l] [] pos) (Yafz X.K ta):=by
 intro pins s σ H R I h;refine Call_ (Ykb I hg hm boot_enumerate (PyProof.Rows.callWith_type1 (thn (ha pos pins s σ H _ I h) λus s1 hx_=>?_) hs rfl));obtain⟨vs,H1,I1,r1,q1⟩:=hx_;obtain⟨a,xs,rfl,q⟩:=q1;obtain⟨u,rfl,ru⟩:=Yhc r1;cases ru
 have fin:∀(h':Heap),h'.objs.size= ~~~s1+2->(∀b o,s1.heap.get? b=some o->h'.get? b=some o)->∀b∈[~~~s1+1,~~~s1],FpOk X pins H1 b:=λh' hz hk b hb=>by
  have hb':(~~~s1)<=b:=by
   grind
  exact I1.fpOk hb' (I1.hok.fresh hb')
 rcases q with⟨hq,q⟩|⟨hq,q⟩
 ·obtain⟨its,rv,pl,hz⟩:=I1.list hq
  refine call_enumerate_list pl.isList λh' he hit hsz hk=>wpAny_pyIter_enum (s:={ s1 with heap:=h' }) he ?_;exact⟨_,[~~~s1+1,~~~s1],_,_,H1,rfl,I1.kept (t':=s1.toks) hk,Yx1 a (~~~s1) _ (Nat.succ_ne_self _),⟨⟨_,he⟩,hit⟩,fin h' hsz hk,q hz⟩
 ·obtain⟨its,rv,pl,hz⟩:=I1.tuple hq
  refine Yhf (show s1.heap.IsTuple a its.toArray from pl) λh' he hit hsz hk=>wpAny_pyIter_enum (s:={ s1 with heap:=h' }) he ?_;exact⟨_,[~~~s1+1,~~~s1],_,_,H1,rfl,I1.kept (t':=s1.toks) hk,Yx2 a (~~~s1) _ (Nat.succ_ne_self _),⟨⟨_,he⟩,hit⟩,fin h' hsz hk,q hz⟩
def Ylz(l:AR):AR:=(List.range l.length).map λi:Nat=>.tup [.int (i:Int),l.getD i .non]
def Yl0(c:D):Option AR:=(Yn c).map Ylz
theorem Yl1{i:Nat}(h:(Ylz l)[i]?=some d):∃e,l[i]?=some e/\d=.tup [.int i,e]:=by
 unfold Ylz at h;grind
def Ycf(l:AR):(Ylz l).length=l.length:=by simp[Ylz]
def Gr.newTup(s:Same G H)(hp:H p=none)(i:Nat)(r:Rp K G d x):∃G3,Gr H G (upd H p (.tup [.int i,x])) G3/\Rp K G3 (.tup [.int i,d]) (.ref p):=by
 refine⟨_,Gr.new s hp (.tup [.int i,x]),?_⟩;rw[Rp];exact⟨p,_,rfl,Yt,.cons (by rw[Rp]) (.one (r.mono (Gr.new s hp _).g))⟩
end
end
section
variable {K:W.Frag}
def Yng(k:Int):Value->Bool
 | .int i _=>i==k
 | .bool b=>(if b then 1 else 0)==k
 | _=>false
theorem Yc2(h:Yng k v=true):(∃t,v=.int k t)\/∃b:Bool,v=.bool b/\k=if b then 1 else 0:=by
 cases v with
 | int i t=>
   have e:i=k:=by simpa [Yng]using h
   grind
 | bool b=>
   have e:(if b then (1:Int)else 0)=k:=by simpa [Yng]using h
   grind
 | _=>simp[Yng]at h
theorem Yuc(h:Q (hashInt (if b then 1 else 0)) { s with toks:=s.toks+1 }):
 wpAny (model prog w) A (pyHash (.bool b)) Q E s:=by
 have hr:=rawHash_range (if b then 1 else 0);have hT:s.TypeIs (.bool b) "bool":=rfl;unfold pyHash
 first|unfold pyHashByItsType|skip
 have hv:[Value.bool b].any Value.onHeap=false:=rfl;refine wa ?_;rw[cRoomFor,if_neg (by grind)];refine wb ?_;refine wa (wpAny_specialOf hT F.slot_bool_hash.lookup ?_);show wpAny _ _ (if (some (Value.builtin "int.__hash__")==some Value.none)=true then _ else _) Q E s;rw[if_neg (by grind)];refine wa (wpAny_specialOf hT F.slot_bool_hash.lookup ?_);show wpAny _ _ (callSpecialIfBoundUnlessNone? (.bool b) "__hash__" _>>=_) Q E s
 refine wa (wpAny_callSpecialIfBoundUnlessNone?_slot hT F.slot_bool_hash
  (we F.slot_bool_hash hT entry_int_hash
   (show wpAny _ _ (do ret (<-mkInt (rawHash (if b then 1 else 0)))) _ _ s from wpAny_ret_mkInt ?_) (args_int_hash _)))
 show wpAny _ _ (if (decide (-(2:Int)^63<=rawHash (if b then 1 else 0))&&decide (rawHash (if b then 1 else 0)<2^63))=true then _ else _) Q E _;rw[if_pos (by grind)];exact wb h
def Yax(prog:Program)(w:World):KeyKind prog w Int where
 is:=Yng
 hash:=hashInt
 inj:=λv a b ha hb=>by
  rcases Yc2 ha with⟨t,rfl⟩|⟨c,rfl,rfl⟩
  ·have e:a=b:=by simpa [Yng]using hb
   exact e
  ·have e:(if c then (1:Int)else 0)=b:=by simpa [Yng]using hb
   exact e
 byValue:=λk v h=>by
  rcases Yc2 h with⟨t,rfl⟩|⟨c,rfl,rfl⟩<;>rfl
 pyHash:=λhv h=>by
  rcases Yc2 hv with⟨t,rfl⟩|⟨c,rfl,rfl⟩
  ·exact wpAny_pyHash_int h
  ·exact Yuc h
 eqBool:=λ{A E s a b u v Q} hu hv h=>by
  rcases Yc2 hu with⟨t,rfl⟩|⟨c,rfl,rfl⟩
  ·rcases Yc2 hv with⟨t',rfl⟩|⟨c',rfl,rfl⟩
   ·exact wpAny_eqBool_int (by grind)
   ·exact SeqAt.EqAt.int_bool a t c' _ _ _ _ (by grind)
  ·rcases Yc2 hv with⟨t',rfl⟩|⟨c',rfl,rfl⟩
   ·exact SeqAt.EqAt.bool_int c b t' _ _ _ _ (by grind)
   ·refine SeqAt.EqAt.bool_bool c c' _ _ _ _ ?_
    have e:(c==c')=decide ((if c=true then (1:Int)else 0)=if c'=true then 1 else 0):=by grind
    grind
 «strs»:=λk x t v h=>by simp[Yng]at h
def Yac7(h:numV x=some i)(r:RelV x u):(Yax P w).is i u=true:=by
 cases x<;>simp[numV]at h
 ·subst h
  cases (show u=Value.bool _ from r);simp[Yax,Yng]
 ·subst h
  obtain⟨t,rfl⟩:=(show ∃t,u=Value.int _ t from r)
  simp[Yax,Yng]
theorem Ywf:∀{xs:AQ}{ks:AH}{us:AD},Yfn xs=some ks->Vals xs us->ItemsAre (Yax P w) ks us
 | [],ks,us,h,r=>by
   cases h;cases r;exact .nil
 | x::xs,ks,us,h,r=>by
   rw[Yfn]at h;obtain⟨i,h1,h⟩:=qa h;obtain⟨l,h2,rfl⟩:=qc h
   cases r with
   | cons r1 r2=>exact .cons (Yac7 h1 r1) (Ywf h2 r2)
def Yh1(ok:HOk P w H h)(e:H b=some (.tup ys))(n:Yfn ys=some ks):(tupleKind (Yax P w)).is h ks b:=by
 obtain⟨_,its,r,o,h1,h2,k,h3⟩:=(show ObjOk P w H h b (.tup ys) from ok b _ e)
 exact⟨o,its.toArray,k,h1,h2,h3,by simpa using Ywf n r⟩
abbrev zipX(nks:List (List Int×Addr))(us:AD):List (List Int×Addr×Value):=(nks.zip us).map λp=>(p.1.1,p.1.2,p.2)
theorem y0u(h:us.length=nks.length):(zipX nks us).map (·.1)=nks.map (·.1):=by
 unfold zipX;rw[Qe];have e:((λx:List Int×Addr×Value=>x.1) ∘ λp:(List Int×Addr)×Value=>(p.1.1,p.1.2,p.2))=λp=>p.1.1:=rfl;rw[e]
 have:nks=(nks.zip us).map (·.1):=by rw[List.map_fst_zip (by lia)]
 conv=>rhs;rw[this]
 simp
def Yac8(ok:HOk P w H h)(sm:Same G H)(e:H a=some (dTo a nks vxs ep))(hl:nks.length=vxs.length)(hn:(nks.map (·.1)).Nodup)(hk:∀p∈nks,∃ys,G p.2=some (.tup ys)/\Yfn ys=some p.1):(a==sysModules)=false/\∃us,Vals vxs us/\us.length=nks.length/\h.DictOfH (tupleKind (Yax P w)) a (zipX nks us):=by
 obtain⟨⟨hs,us,o,es,r,h1,h2,h3,h4⟩,_⟩:=(show ObjOk P w H h a (dTo a nks vxs ep) from ok a _ e)
 have hu:us.length=nks.length:=by rw[hl,r.length]
 refine⟨hs,us,r,hu,o,es,ep,h1,h2,h3,?_,λx hx=>?_,by rw[y0u hu];exact hn⟩
 ·rw[h4]
  unfold zipX;rw[Qe];rfl
 ·obtain⟨p,hp,rfl⟩:=qw hx
  obtain⟨ys,q1,q2⟩:=hk p.1 (List.of_mem_zip hp).1;exact Yh1 ok (sm _ _ q1) q2
def Yab{α β:Type}[DecidableEq α]:List α->List β->α->Option β
 | k::ks,v::vs,x=>if k=x then some v else Yab ks vs x
 | _,_,_=>none
theorem Yl2(k:AH):∀(nks:List (List Int×Addr)) (us:AD),(atKey (zipX nks us) k).map (·.2)=Yab (nks.map (·.1)) us k
 | [],us=>by cases us<;>simp[zipX,atKey,Yab]
 | p::nks,[]=>by simp[zipX,atKey,Yab]
 | p::nks,u::us=>by
   have ih:=Yl2 k nks us;by_cases e:p.1=k
   ·simp[zipX,atKey,Yab,List.find?_cons,e]
   ·simp only[zipX,List.zip_cons_cons,Qa,atKey,List.find?_cons,e,decide_false,Yab,if_false]
    exact ih
theorem Yrr[DecidableEq α](x:α):∀{ks:List α}{vxs:AQ}{us:AD},Vals vxs us->RelO (Yab ks vxs x) (Yab ks us x)
 | [],_,_,_=>True.intro
 | k::ks,_,_,.nil=>True.intro
 | k::ks,_,_,.cons r t=>by
   by_cases e:k=x
   ·simp only[Yab,if_pos e];exact r
   ·simp only[Yab,if_neg e];exact Yrr x t
theorem Yl3[DecidableEq α](x:α):∀{ks:List α}{vs:AR}{vxs:AQ},RpL K G vs vxs->(∀d,Yab ks vs x=some d->∃v,Yab ks vxs x=some v/\Rp K G d v)/\(Yab ks vs x=none->Yab ks vxs x=none)
 | [],_,_,_=>⟨λd h=>by simp[Yab]at h,λ_=>by simp[Yab]⟩
 | k::ks,[],_,r=>by
   rw[RpL]at r;subst r;exact⟨λd h=>by simp[Yab]at h,λ_=>by simp[Yab]⟩
 | k::ks,d::vs,_,r=>by
   rw[RpL]at r;obtain⟨y,r',rfl,r1,r2⟩:=r;by_cases e:k=x
   ·simp only[Yab,if_pos e]
    grind
   ·simp only[Yab,if_neg e]
    exact Yl3 x r2
def setK{α β:Type}[DecidableEq α]:List α->List β->α->β->List β
 | k::ks,v::vs,x,y=>if k=x then y::vs else v::setK ks vs x y
 | _,vs,_,_=>vs
theorem Yec[DecidableEq α](x:α)(y:β):∀(ks:List α) (vs:List β),(setK ks vs x y).length=vs.length
 | [],vs=>by cases vs<;>simp[setK]
 | k::ks,[]=>by simp[setK]
 | k::ks,v::vs=>by
   simp only[setK]
   split
   ·simp
   ·simp[Yec x y ks vs]
theorem Yrs[DecidableEq α](x:α)(ry:RelV y u):∀{ks:List α}{vxs:AQ}{us:AD},Vals vxs us->Vals (setK ks vxs x y) (setK ks us x u)
 | [],_,_,.nil=>by simp[setK];exact .nil
 | [],_,_,.cons r t=>by simp[setK];exact .cons r t
 | k::ks,_,_,.nil=>by simp[setK];exact .nil
 | k::ks,_,_,.cons r t=>by
   simp only[setK]
   split
   ·exact .cons ry t
   ·exact .cons r (Yrs x ry t)
theorem Ypi[DecidableEq α](x:α)(ry:Rp K G d y):∀{ks:List α}{vs:AR}{vxs:AQ},RpL K G vs vxs->RpL K G (setK ks vs x d) (setK ks vxs x y)
 | [],[],_,r=>by simpa [setK]using r
 | [],_::_,_,r=>by
   rw[RpL]at r;obtain⟨z,r',rfl,r1,r2⟩:=r;simp only[setK];exact .cons r1 r2
 | k::ks,[],_,r=>by
   rw[RpL]at r;subst r;simp[setK];exact .nil
 | k::ks,e::vs,_,r=>by
   rw[RpL]at r;obtain⟨z,r',rfl,r1,r2⟩:=r;simp only[setK]
   split
   ·exact .cons ry r2
   ·exact .cons r1 (Ypi x ry r2)
theorem Yl4{b:Addr}:∀{nks:List (List Int×Addr)}{us:AD},us.length=nks.length->(nks.map (·.1)).Nodup->k∈nks.map (·.1)->(zipX nks us).map (putAt k u)=zipX nks (setK (nks.map (·.1)) us k u)
 | [],us,_,_,h=>by simp at h
 | p::nks,[],hl,_,_=>by simp at hl
 | p::nks,v::us,hl,hn,hm=>by
   rw[Qa,List.nodup_cons]at hn;by_cases e:p.1=k
   ·have hnot:k∉nks.map (·.1):=by grind
    simp only[zipX,List.zip_cons_cons,Qa,setK,e,if_true]
    congr 1
    ·simp[putAt,e]
    ·refine(Qj λx hx=>?_).trans (List.map_id _)
     obtain⟨q,hq,rfl⟩:=qw hx;have:¬q.1.1=k:=λz=>hnot (List.mem_map.mpr ⟨q.1,(List.of_mem_zip hq).1,z⟩);simp[putAt,this]
   ·have hm':k∈nks.map (·.1):=by
     grind
    have ih:=Yl4 (k:=k) (b:=b) (u:=u) (nks:=nks) (us:=us) (by grind) hn.2 hm';simp only[zipX,List.zip_cons_cons,Qa,setK,e,if_false]
    congr 1
    ·simp[putAt,e]
theorem Yc3[DecidableEq α]:∀{ks:List α}{vs:List β},vs.length=ks.length->(Yab ks vs x=none↔x∉ks)
 | [],_,_=>by simp[Yab]
 | k::ks,[],h=>by simp at h
 | k::ks,v::vs,h=>by
   by_cases e:k=x
   ·simp[Yab,e]
   ·have e':¬x=k:=λz=>e z.symm
    simp only[Yab,e,if_false,List.mem_cons,e',false_or];exact Yc3 (by simpa using h)
end
section
open Sem (wp)
variable {K:W.Frag}
def y0v:typeLookup (.type "list_reverseiterator") "__len__"=pure none:=by rw[typeLookup_type,builtinLookup_eq_fast];kernel_rfl
def y4x:typeLookup (.type "list_reverseiterator") "__length_hint__"=pure (some (.builtin "list_reverseiterator.__length_hint__")):=by rw[typeLookup_type,builtinLookup_eq_fast];kernel_rfl
set_option maxRecDepth 100000 in
theorem Yx3{prog:Program}{w:World}{A:Around}{s:Shared}{R:Result->Shared->Prop}{I:Addr}{fp wr:List Addr}{G:Array GenState->Array GenState->Prop}{n:Nat}{P:Nat->Value->Prop}{St:Nat->Shared->Prop}(W:WalksS prog w A.in1 I fp wr G n P St)(hT:∀i s,St i s->s.TypeIs (.ref I) "list_reverseiterator")(S:Addr)(res:Value)(c₀:Nat)(hst:St 0 s)(hSf:S∉fp)(hI:I∈fp)(hS:s.heap.get? S=some { cls:=.type "list",data:=.seq #[] c₀ })(hR:∀s' acc' c',Moved (S::wr) G s s'->s'.heap.get? S=some { cls:=.type "list",dict:=none,data:=.seq acc' c',slots:=#[] }->ItemsOf P acc' n->R (.ok (.ret res)) s')(hn:n<=sizeLine):
 wpAny (model prog w) A.in1 (Builtin.List.listExtendWith (.ref S) (.ref I) res)
  (λfin s'=>match fin with|.done f=>R (.ok f) s'|.again c'=>c'.quiet=true/\codeAny (model prog w) A c' R s') (λe s'=>R (.error e) s') s:=by
 have hSI:S≠I:=λe=>hSf (e ▸ hI)
 have h1:Builtin.List.listSameRef (.ref S) (.ref I)=false:=by simp[Builtin.List.listSameRef,hSI]
 unfold Builtin.List.listExtendWith;refine wa (wpAny_typeOf (hT 0 _ hst) ?_);rw[if_neg (by rw[h1];decide)];refine wa (W.self 0 _ _ _ hst ?_);refine wa (wc ?_);unfold Builtin.List.listLengthHint;refine wa (wpAny_specialOf (hT 0 _ hst) y0v ?_);show wpAny _ A.in1 (specialOf (Value.ref I) (Str.ofString "__length_hint__")>>=_) _ _ _;refine wa (wpAny_specialOf (hT 0 _ hst) y4x ?_)
 (generalize hid:("list_reverseiterator.__length_hint__":String)=id0;(fail_if_success (clear hid id0));wp_delta;rw[show splitId id0=some ("list_reverseiterator","__length_hint__") from by subst hid;decide +kernel];subst hid)
 refine wa (wpAny_isInstance (b:=true) (hT 0 _ hst) (by rw[isSubtype_type];kernel_rfl) ?_);refine wb ?_;rw[if_neg (by decide)];exact wb ⟨je F.plain_extend_loop _,codeAny_extend_loopS W hn _ hSf _ n 0 _ _ _ rfl (jb _) hst hS (ItemsOf.nil P) hR⟩
section
variable {prog:Program}{w:World}{A:Around}{E:AB}{s:Shared}{I:Addr}{fp wr:List Addr}{G:Array GenState->Array GenState->Prop}{n:Nat}{P:Nat->Value->Prop}{St:Nat->Shared->Prop}
theorem Yud(W:WalksS prog w A.in1 I fp wr G n P St)(hT:∀i s,St i s->s.TypeIs (.ref I) "list_reverseiterator")(hst:St 0 s)(hfp:∀b∈fp,b< ~~~s)(hI:I∈fp)(hQ:∀s' acc,Moved wr G s s'->ItemsOf P acc n->Q acc.toList s')(hn:n<=sizeLine):wpAny (model prog w) A (collect (.ref I)) Q E s:=by
 have hSf:(~~~s)∉fp:=λhm=>Nat.lt_irrefl _ (hfp _ hm);unfold collect;refine wa (wpAny_runValue (wz F.entry_proto_collect ?_));rw[jf F.plain_proto_collect _];show wpAny _ A.in1 (newList []>>=λl=>again (.builtin "list.__iadd__" ⟨[l,.ref I],[]⟩)) _ _ s;refine wa (wg ?_);refine wb ⟨je F.plain_list_iadd _,wz F.entry_list_iadd ?_⟩;rw[jf F.plain_list_iadd _];have hst₁:=W.frame 0 s (s.heap.push { cls:=.type "list",data:=.seq ([]:AD).toArray }) s.toks hst (qu _) λb _ o e=>qe _ e;have hS₁:(s.heap.push { cls:=.type "list",data:=.seq ([]:AD).toArray }).get? (~~~s)=some { cls:=.type "list",data:=.seq ([]:AD).toArray }:=qp _ rfl;show wpAny _ A.in1 (Builtin.List.listExtendWith (.ref (~~~s)) (.ref I) (.ref (~~~s))) _ _ _
 refine w5 (Yx3 (A:=A) (R:=λr s'=>r=.ok (.ret (.ref (~~~s)))/\∃acc' c',Moved (~~~s::wr) G { s with heap:=s.heap.push { cls:=.type "list",data:=.seq ([]:AD).toArray } } s'/\s'.heap.get? (~~~s)=some { cls:=.type "list",dict:=none,data:=.seq acc' c',slots:=#[] }/\ItemsOf P acc' n)
  W hT _ _ 0 hst₁ hSf hI hS₁ (λs' acc' c' a b c=>⟨rfl,acc',c',a,b,c⟩) hn) (λfin s' h=>?_) (λe s' h=>?_)
 ·have fin':∀s' acc' c',Moved (~~~s::wr) G { s with heap:=s.heap.push { cls:=.type "list",data:=.seq ([]:AD).toArray } } s'->s'.heap.get? (~~~s)=some { cls:=.type "list",dict:=none,data:=.seq acc' c',slots:=#[] }->ItemsOf P acc' n->
   wpAny (model prog w) A (match Value.ref (~~~s) with
    | Value.ref a=>do
      match (<-load a).data with
       | Data.seq xs _=>pure xs.toList
       | _=>unsupported "internal:collect"
    | _=>unsupported "internal:collect") Q E s':=λs' acc' c' hm hS' hacc=>by
   show wpAny _ A (load (~~~s)>>=_) _ _ s';refine wa (wpAny_load hS' ?_);exact wb (hQ s' acc' (Moved.drop_new (o:={ cls:=.type "list",data:=.seq ([]:AD).toArray }) (tk:=s.toks) hm (qu _)) hacc)
  cases fin with
  | done f=>
    grind
  | again c'=>exact⟨h.1,codeAny_mono h.2 λr s'' hr=>by grind⟩
 grind
set_option maxRecDepth 100000 in
theorem Yin{Q₁:AB}(W:WalksS prog w A.in1.in1 I fp wr G n P St)(hT:∀i s,St i s->s.TypeIs (.ref I) "list_reverseiterator")(hst:St 0 s)(hfp:∀b∈fp,b< ~~~s)(hI:I∈fp)(h:∀s' acc,Moved wr G s s'->ItemsOf P acc n->Q₁ (.ref s'.heap.objs.size) { s' with heap:=s'.heap.push { cls:=.type "tuple",data:=.seq acc } })(hsz:n<=sizeLine):
 codeAny (model prog w) A (.call (.builtin "tuple.__new__") ⟨[.type "tuple",.ref I],[]⟩) (wants Q₁ E) s:=by
 refine codeAny_of_tree ?_;show wpAny _ A.in1 (do checkBuiltinCall "tuple.__new__" ⟨[.type "tuple",.ref I],[]⟩;again (.builtin "tuple.__new__" ⟨[.type "tuple",.ref I],[]⟩)) _ _ s;refine wa (wpAny_of_eq (F.newCall_tuple_1 _) (wb ⟨je F.plain_tuple_new _,wz F.entry_tuple_new ?_⟩));rw[jf F.plain_tuple_new _];have hsub:=sub_tuple_self;have hinit:=init_tuple_lookup;have hmh:=madeHere_tuple;have hTI:=hT 0 s hst
 wp_walk using wpAny_typeOf hTI,Yud (hn:=hsz) W hT hst hfp hI
 intro s' acc hm hacc;show wpAny _ _ (Builtin.Tuple.tupleExact acc.toList.toArray>>=λv=>ret v) _ _ _;unfold Builtin.Tuple.tupleExact;refine wa (wg ?_ (by show acc.toList.toArray.size<=sizeLine;simp only[Array.toArray_toList];rw[hacc.1];exact hsz));refine wb ?_
 simp_all
theorem Yko(W:WalksS prog w A.in1.in1.in1 I fp wr G n P St)(hT:∀i s,St i s->s.TypeIs (.ref I) "list_reverseiterator")(hst:St 0 s)(hfp:∀b∈fp,b< ~~~s)(hI:I∈fp)(hQ:∀s' acc,Moved wr G s s'->ItemsOf P acc n->Q (.ref s'.heap.objs.size) { s' with heap:=s'.heap.push { cls:=.type "tuple",data:=.seq acc } })(hsz:n<=sizeLine):
 wpAny (model prog w) A (call (.type "tuple") [.ref I]) Q E s:=by
 refine callType_codes (Q₁:=λobj s₁=>s₁.TypeIs obj "tuple"/\Q obj s₁) F.called_tuple (F.typeCall_tuple_1 _) F.entry_object_init
  (Yin (hsz:=hsz) W hT hst hfp hI λs' acc hm hacc=>⟨⟨_,qp _ rfl,rfl⟩,hQ s' acc hm hacc⟩) λobj s₁ h₁=>?_
 exact⟨h₁.1,F.args_object_init_2 obj _,object_init_meets F.called_tuple.init.lookup F.called_tuple.made (by decide) prog w A.in1 _ s₁ ⟨h₁.1,rfl,h₁.2⟩⟩
end
theorem y0w{items acc:Array Value}(h:ItemsOf (λi v=>items[items.size-1-i]?=some v) acc items.size):acc.toList=items.toList.reverse:=by
 obtain⟨h1,h2⟩:=h;apply List.ext_getElem?;grind
theorem Yke:∀{xs:AQ}{us:AD},Vals xs us->Vals xs.reverse us.reverse
 | _,_,.nil=>.nil
 | _,_,.cons r t=>by
   rw[List.reverse_cons,List.reverse_cons];exact(Yke t).append (.cons r .nil)
section
variable {X:Cx}{e:Expr}{ta:TA}{p p2 pos pos2:Pos}
def y4y{σ:L2.St}(I:Inv X pins σ H s)(hg2:Gl X "reversed")(hm2:X.mg "reversed"=none)(ha:PA X [e] ta)(h:ta σ H q)(hs:starEach [e] X.env=[(false,eval e X.env)])(k:∀vs H1 s1,Inv X pins σ H1 s1->q vs H1->∃a xs its,vs=[.ref a]/\SqL X.K H1 a xs/\Vals xs its/\s1.heap.IsList a its.toArray/\Q (.ref (~~~s1)) { s1 with heap:=s1.heap.push (revObj a ((its.toArray.size:Int)-1)) }):
 wpAny (model X.prog X.w) X.A (eval (.Call (.Name "reversed" p2) [e] [] pos2) X.env) Q X.xe s:=by
 refine Call_ (Ykb I hg2 hm2 boot_reversed (PyProof.Rows.callWith_type1 (thn (ha pos2 pins s σ H _ I h) λus s1 hx_=>?_) hs rfl));obtain⟨vs,H1,I1,r1,q1⟩:=hx_;obtain⟨a,xs,its,rfl,hq,rv,pl,z⟩:=k vs H1 s1 I1 q1;obtain⟨u,rfl,ru⟩:=Yhc r1;cases ru;exact call_reversed_list pl z
def Yaf0(K:W.Frag)(ta:TA):TE:=λσ H Q=>ta σ H λvs H1=>∃a xs,vs=[.ref a]/\SqL K H1 a xs/\∀l,H1 l=none->Q (.ref l) (upd H1 l (.tup xs.reverse))
theorem y0x(hc:X.calm=true)(hg:Gl X "tuple")(hm:X.mg "tuple"=none)(hg2:Gl X "reversed")(hm2:X.mg "reversed"=none)(ha:PA X [e] ta)(hs:starEach [e] X.env=[(false,eval e X.env)]:=by rfl)(he:starEach [.Call (.Name "reversed" p2) [e] [] pos2] X.env=[(false,eval (.Call (.Name "reversed" p2) [e] [] pos2) X.env)]:=by rfl):
 PE X (.Call (.Name "tuple" p) [.Call (.Name "reversed" p2) [e] [] pos2] [] pos) (Yaf0 X.K ta):=by
 intro pins s σ H Q I h;refine wpAny_Call_Name_kw (Ykb I hg hm boot_tuple ?_ (by decide) (by decide));refine PyProof.Rows.callWith_type1 ?_ he rfl;rw[he];refine Calls.spliced_cons (y4y I hg2 hm2 ha h hs λvs H1 s1 I1 q1=>?_);obtain⟨a,xs,rfl,hq,q⟩:=q1;obtain⟨its,rv,pl,hz⟩:=I1.list hq;refine⟨a,xs,its,rfl,hq,rv,pl.isList,Calls.spliced_nil ?_⟩
 have hne:a≠(~~~s1):=by
  obtain⟨o,ho,_⟩:=pl.isList;exact qm (ql ho)
 have hlt:a< ~~~s1:=by
  obtain⟨o,ho,_⟩:=pl.isList;exact ql ho
 have hl:=rv.length;refine Yko (Walks.listRev (show X.A.in1.in1.in1.handled=none from I1.ok.hd hc) (~~~s1) a hne its.toArray).toS (λi s st=>st.2.1.typeIs) ⟨jb _,⟨_,qp _ rfl,rfl,by simp[revObj]⟩,pl.isList.push _⟩ (λb hb=>?_) (by simp) (λs' acc' hm' hacc=>?_) (by grind)
 ·show b<(s1.heap.push _).objs.size
  rw[ww];grind
 ·have hsz:(s1.heap.push (revObj a ((its.toArray.size:Int)-1))).objs.size= ~~~s1+1:=ww ..
  have kp:∀b u,s1.heap.get? b=some u->s'.heap.get? b=some u:=λb u qb=>by
   have hb:b< ~~~s1:=ql qb;refine hm'.heap b u (λz=>?_) (qe _ qb);grind
  have ev:acc'.toList=its.reverse:=by simpa using y0w hacc
  have I2:Inv X pins σ H1 s':=by
   have e:=Moved.eq_with hm';rw[e];exact I1.kept (t':=s'.toks) kp
  refine⟨.ref s'.heap.objs.size,upd H1 s'.heap.objs.size (.tup xs.reverse),?_,rfl,q _ (I2.hok.fresh (qu _))⟩
  have ea:acc'=acc'.toList.toArray:=by simp
  exact I2.laid (t':=s'.toks) (λb o e=>qe _ e) (qu _) (show ObjOk X.prog X.w _ _ _ (.tup xs.reverse) from⟨by grind,acc'.toList,by rw[ev];exact Yke rv,by rw[<-ea];exact IsTup.new _ _⟩)
def revF(f:AX):AY:=λρ=>(b1 f lstD ρ).map List.reverse
variable {f:AX}
end
end
section
variable {K:W.Frag}
section
variable {X:Cx}{e ie:Expr}{f fb:AX}{pos:Pos}
def rIns:V->AQ->Hp->VK->Prop:=λx vs H Q=>∃l xs i y,x=.ref l/\vs=[.int i,y]/\H l=some (.lst xs)/\0<=i/\i<=xs.length/\xs.length<sizeLine/\Q .non (upd H l (.lst (xs.take i.toNat++y::xs.drop i.toNat)))
theorem y0z:MtM X "list.insert" rIns:=by
 intro pins s σ H x vs v us Q I rx rv h;obtain⟨l,xs,i,y,rfl,rfl,hH,h0,hi,hz,q⟩:=h;cases rx;obtain⟨u1,u2,rfl,⟨t,rfl⟩,r2⟩:=Yxr rv;obtain⟨z,its,n,r,hl,e⟩:=I.lstM hH;have hn:=jj
 have hfit:¬(!Builtin.List.listFitsIndex i)=true:=by
  unfold Builtin.List.listFitsIndex;grind
 refine call_meets F.slot_list_insert ⟨_,e,rfl⟩ F.entry_list_insert (F.args_list_insert_3 _ _ _) (AutoSeq1.list_insert_list_int_val_1 l its.toArray n i t u2 hfit (by grind)) ⟨e,?_⟩
 have hk:¬i<0:=by lia
 have hm:min i.toNat its.length=i.toNat:=by lia
 refine⟨.non,_,I.lset (its':=its.take i.toNat++u2::its.drop i.toNat) hH e ?_ ((r.take _).append (.cons r2 (r.drop _))) ?_,rfl,q⟩
 ·grind
 grind
def insD(l:AR)(k d:D):Option AR:=(intD k).bind λi=>if decide (0<=i)&&decide (i<=l.length)&&decide (l.length<cap6)then some (l.take i.toNat++d::l.drop i.toNat)else none
def rExt:V->AQ->Hp->VK->Prop:=λx vs H Q=>∃l b xs zs,x=.ref l/\vs=[.ref b]/\H l=some (.lst xs)/\Rd H b (.lst zs)/\xs.length+zs.length<=sizeLine/\Q .non (upd H l (.lst (xs++zs)))
theorem Yac9:MtM X "list.extend" rExt:=by
 intro pins s σ H x vs v us Q I rx rv h;obtain⟨l,b,xs,zs,rfl,rfl,hH,hB,hz,q⟩:=h;cases rx;obtain⟨u,rfl,ru⟩:=rv.one;cases ru;obtain⟨z,its,n,r,hl,e⟩:=I.lstM hH;obtain⟨z2,its2,n2,r2,e2⟩:=hB.ok I.hok;have hl2:=r2.length
 have hsz:its.toArray.size+its2.toArray.size<=sizeLine:=by grind
 have hlong:¬(!its.toArray.isEmpty&&Builtin.List.listTooLong (its.toArray.size+its2.toArray.size))=true:=by
  rw[y4g hsz,Bool.and_false];grind
 refine call_meets F.slot_list_extend ⟨_,e,rfl⟩ F.entry_list_extend (F.args_list_extend_2 _ _)
  (AutoSeq1.list_extend_list_list_0 l its.toArray n b its2.toArray n2 hlong (by grind) (by lia)) ⟨e,e2,?_⟩
 refine⟨.non,_,I.lset (its':=its++its2) hH e (by simp) (r.append r2) ?_,rfl,q⟩;grind
def extD(l:AR)(d:D):Option AR:=match d with
 | .lst m=>if l.length+m.length<=cap6 then some (l++m)else none
 | _=>none
end
end
section
variable {K:W.Frag}
def SE(w:World):List DictEntry->List (Str×Str)->Prop:=Paired λe p=>e.hash=PyData.keyHash w.params p.1/\(∃t,e.key=.str p.1 t)/\(∃t,e.val=.str p.2 t)/\PyData.strOk p.2=true
def GD(K:W.Frag)(w:World)(mg:AE)(x:Str)(kvs:List (Str×Str)):Prop:=∃p o es ep,mg x=some (.ref p)/\K.lookup p=some o/\o.ExactDict/\o.data=.dict es ep/\SE w es.toList kvs
theorem y02:∀{l:List DictEntry}{kvs:List (Str×Str)},SE w l kvs->kvs.lookup k=some v->∃e t,l.find? (λe=>(PySem.strKind P w).is k e.key)=some e/\e.val=.str v t
 | _,_,.nil,h=>by simp at h
 | _,_,.cons (a:=e) (b:=p) r t,h=>by
   obtain⟨_,⟨t1,h1⟩,⟨t2,h2⟩,_⟩:=r;obtain⟨a,b⟩:=p;by_cases q:a=k
   ·subst q
    simp at h;subst h;exact⟨e,t2,by simp[List.find?_cons,h1,PySem.strKind,Value.isStrOf],h2⟩
   ·have q':¬k=a:=λz=>q z.symm
    simp[List.lookup_cons,q']at h
    have hn:(k==a)=false:=by grind
    obtain⟨e',t',h3,h4⟩:=y02 (P:=P) t (by simpa [List.lookup_cons,hn]using h);refine⟨e',t',?_,h4⟩;rw[List.find?_cons]
    have:(PySem.strKind P w).is k e.key=false:=by
     rw[h1];show(a==k)=false;simpa using q
    grind
theorem y03:∀{l:List DictEntry}{kvs:List (Str×Str)},SE w l kvs->∀e∈l,∃k,(PySem.strKind P w).is k e.key=true/\e.hash=(PySem.strKind P w).hash k
 | _,_,.nil,e,h=>by cases h
 | _,_,.cons (b:=p) r t,e,h=>by
   rcases qt h with rfl|h
   ·obtain⟨h0,⟨t1,h1⟩,_⟩:=r
    exact⟨p.1,by rw[h1];simp[PySem.strKind,Value.isStrOf],h0⟩
   ·exact y03 t e h
theorem Yada:∀{l:List DictEntry}{kvs:List (Str×Str)},SE w l kvs->kvs.lookup k=some v->PyData.strOk v=true
 | _,_,.nil,h=>by simp at h
 | _,_,.cons (b:=p) r t,h=>by
   obtain⟨_,_,_,h1⟩:=r;obtain⟨a,b⟩:=p;by_cases q:k=a
   ·grind
   ·have hn:(k==a)=false:=by simpa using q
    exact Yada t (by simpa [List.lookup_cons,hn]using h)
section
variable {X:Cx}{ke:Expr}{fk:AX}{pos px:Pos}{x:Str}
def y04(kvs:List (Str×Str)):D->Option D
 | .str k=>(kvs.lookup k).map D.str
 | _=>none
end
def Gr.updHid(g:Gr H G H2 G2)(hp:H p=none)(gp:G2 p=none)(o:HO):Gr H G (upd H2 p o) G2:=
 ⟨λb u e=>by rw[Yaa (Yy e hp)];exact g.h b u e,g.g,λb u e=>by rw[Yaa (Yy e gp)];exact g.s b u e,g.n⟩
def tK(x:Str):TE:=λ_ H Q=>Q (.str x) H
structure MP(X:Cx)(pos:Pos)(keys:List (Option Expr))(values:AM)(ks:AL)(fs:List AX):Prop where
 len:ks.length=fs.length
 pps:PPs X pos keys values ((ks.zip fs).map λp=>(tK p.1,tOf X.K p.2))
 all:keys.all (·.isSome)=true
 kv:keys.length=values.length
 kk:keys.length=ks.length
end
section
variable {K:W.Frag}
def numD:D->Option Int
 | .int i=>some i
 | .bl b=>some (if b then 1 else 0)
 | _=>none
def y40:AR->Option AH
 | []=>some []
 | d::l=>(numD d).bind λi=>(y40 l).map (i::·)
def nKey:D->Option AH
 | .tup l=>y40 l
 | _=>none
def Yhg:AR->Option (List AH)
 | []=>some []
 | d::l=>(nKey d).bind λk=>(Yhg l).map (k::·)
def Yadb(h:numD d=some i)(r:Rp K G d v):numV v=some i:=by
 cases d<;>simp[numD]at h
 ·subst h
  rw[Rp]at r;subst r;rfl
 ·subst h
  rw[Rp]at r;subst r;rfl
theorem Yue:∀{l:AR}{xs:AQ}{k:AH},y40 l=some k->RpL K G l xs->Yfn xs=some k
 | [],xs,k,h,r=>by
   cases h;rw[RpL]at r;subst r;rfl
 | d::l,xs,k,h,r=>by
   rw[y40]at h;obtain⟨i,h1,h⟩:=qa h;obtain⟨m,h2,rfl⟩:=qc h;rw[RpL]at r;obtain⟨x,q,rfl,r1,r2⟩:=r;rw[Yfn,Yadb h1 r1,Yue h2 r2];rfl
def Yrt(h:nKey d=some k)(r:Ct K G H d v):∃b ys,v=.ref b/\H b=some (.tup ys)/\G b=some (.tup ys)/\Yfn ys=some k:=by
 cases d with
 | tup l=>
   rw[Ct]at r;obtain⟨b,ys,rfl,⟨g1,g2⟩,rl⟩:=r;exact⟨b,ys,rfl,g1,g2,Yue h rl⟩
 | _=>cases h
theorem Ypj:∀{ks:AR}{kn:List AH}{nks:List (List Int×Addr)},Yhg ks=some kn->RpL K G ks (nks.map λp=>V.ref p.2)->(∀p∈nks,∃ys,G p.2=some (.tup ys)/\Yfn ys=some p.1)->nks.map (·.1)=kn
 | [],kn,nks,h,r,_=>by
   cases h;rw[RpL]at r;simpa using r
 | d::ks,kn,nks,h,r,hk=>by
   rw[Yhg]at h;obtain⟨k,h1,h⟩:=qa h;obtain⟨m,h2,rfl⟩:=qc h;rw[RpL]at r;obtain⟨x,q,e,r1,r2⟩:=r
   cases nks with
   | nil=>cases e
   | cons p nks=>
     rw[Qa]at e;injection e with e1 e2;subst e1 e2;have ih:=Ypj h2 r2 λp hp=>hk p (qg _ hp);obtain⟨ys,g,n⟩:=hk p qh
     cases d with
     | tup l=>
       rw[Rp]at r1;obtain⟨a,xs,e3,g',rl⟩:=r1;injection e3 with e3;subst e3;rw[g]at g';cases g';rw[Yue h1 rl]at n;grind
     | _=>cases h1
structure DtH(H:Hp)(a:Addr)(nks:List (List Int×Addr))(vxs:AQ):Prop where
 at':∃ep,H a=some (dTo a nks vxs ep)
 len:nks.length=vxs.length
 nd:(nks.map (·.1)).Nodup
 keys:∀p∈nks,∃ys,H p.2=some (.tup ys)/\Yfn ys=some p.1
section
variable {X:Cx}
def Ywg{σ:L2.St}(I:Inv X pins σ H s)(d:DtH H a nks vxs):
 (a==sysModules)=false/\∃us,Vals vxs us/\us.length=nks.length/\s.heap.DictOfH (tupleKind (Yax X.prog X.w)) a (zipX nks us):=by
 obtain⟨ep,e⟩:=d.at';exact Yac8 I.hok (Same.refl H) e d.len d.nd d.keys
def Yadc:R2:=λx y H Q=>∃a b nks vxs ys k v,x=.ref a/\y=.ref b/\DtH H a nks vxs/\H b=some (.tup ys)/\Yfn ys=some k/\Yab (nks.map (·.1)) vxs k=some v/\Q v H
def y84(r:Vals vxs us)(hf:Yab (nks.map (·.1)) vxs k=some z):∃p,atKey (zipX nks us) k=some p/\RelV z p.2:=by
 have h1:=Yrr k (ks:=nks.map (·.1)) r;rw[hf,<-Yl2 k nks us]at h1
 cases h:atKey (zipX nks us) k with
 | none=>rw[h]at h1;exact h1.elim
 | some p=>rw[h]at h1;exact⟨p,rfl,h1⟩
theorem Yaf1(hu:X.A.units+64<cLine):IxR X Yadc:=by
 intro value slice pins s σ H x y v u Q I rx ry h hs;obtain⟨a,b,nks,vxs,ys,k,z,rfl,rfl,dt,eb,nk,hf,q⟩:=h;cases rx;cases ry;obtain⟨hsm,us,r,hl,dd⟩:=Ywg I dt;have key:=Yh1 (P:=X.prog) (w:=X.w) I.hok eb nk;obtain⟨p,hp,rz⟩:=y84 r hf;exact tail_any dd.typeIs PySem.F.slot_dict_getitem.lookup (wpAny_getItem_heap (knd:=tupleKind (Yax X.prog X.w)) (by show X.A.in1.units<cLine;grind) key dd hp ⟨z,H,I.tok _,rz,q⟩) hs
def y85(neg:Bool):R2:=λx y H Q=>∃a b nks vxs ys k,x=.ref b/\y=.ref a/\DtH H a nks vxs/\H b=some (.tup ys)/\Yfn ys=some k/\Q (.bl (decide (k∈nks.map (·.1))!=neg)) H
theorem Yuf(hl:us.length=nks.length):(atKey (zipX nks us) k).isSome=decide (k∈nks.map (·.1)):=by
 have h1:=Yl2 k nks us;have h2:=Yc3 (x:=k) (ks:=nks.map (·.1)) (vs:=us) (by grind)
 cases h:atKey (zipX nks us) k with
 | none=>
   grind
 | some p=>
   grind
theorem y66(hu:X.A.units+64<cLine):OpR X (compareOp .In) (y85 false):=by
 intro pins s σ H x y v u Q I rx ry h;obtain⟨a,b,nks,vxs,ys,k,rfl,rfl,dt,eb,nk,q⟩:=h;cases rx;cases ry;obtain⟨hsm,us,r,hl,dd⟩:=Ywg I dt;have key:=Yh1 (P:=X.prog) (w:=X.w) I.hok eb nk;refine wpAny_in_heap (knd:=tupleKind (Yax X.prog X.w)) (by show X.A.in1.units<cLine;grind) key hsm dd ⟨.bl (decide (k∈nks.map (·.1))!=false),H,I.tok _,?_,q⟩;rw[Yuf hl,Bool.bne_false];rfl
theorem y05(hu:X.A.units+64<cLine):OpR X (compareOp .NotIn) (y85 true):=by
 intro pins s σ H x y v u Q I rx ry h;obtain⟨a,b,nks,vxs,ys,k,rfl,rfl,dt,eb,nk,q⟩:=h;cases rx;cases ry;obtain⟨hsm,us,r,hl,dd⟩:=Ywg I dt;have key:=Yh1 (P:=X.prog) (w:=X.w) I.hok eb nk;refine wpAny_notIn_heap (knd:=tupleKind (Yax X.prog X.w)) (by show X.A.in1.units<cLine;grind) key hsm dd ⟨.bl (decide (k∈nks.map (·.1))!=true),H,I.tok _,?_,q⟩;rw[Yuf hl,Bool.bne_true];rfl
def Yru(hd:(a==sysModules)=false)(r:Vals vxs us)(dd:h'.DictOfH (tupleKind (Yax P w)) a (zipX nks us)):
 ∃ep,∀H',ObjOk P w H' h' a (dTo a nks vxs ep):=by
 obtain⟨o,es,ep,h1,h2,h3,h4,_⟩:=dd;refine⟨ep,λH'=>⟨⟨hd,us,o,es,r,h1,h2,h3,?_⟩,⟨o,h1⟩,λh1 h2 f k=>?_⟩⟩
 ·rw[h4]
  unfold zipX;rw[Qe];rfl
 ·obtain⟨hd,us,o,es,r,e1,e2⟩:=f
  exact⟨hd,us,o,es,r,k o e1,e2⟩
def putT(nks:List (List Int×Addr))(vxs:AQ)(k:AH)(b:Addr)(v:V):List (List Int×Addr)×AQ:=
 if k∈nks.map (·.1)then (nks,setK (nks.map (·.1)) vxs k v)else (nks++[(k,b)],vxs++[v])
def Yaf2:V->V->V->Hp->(Hp->Prop)->Prop:=λo i v H Q=>∃a b nks vxs ys k,o=.ref a/\i=.ref b/\DtH H a nks vxs/\H b=some (.tup ys)/\Yfn ys=some k/\vxs.length<cap6/\∀ep,Q (upd H a (dTo a (putT nks vxs k b v).1 (putT nks vxs k b v).2 ep))
theorem y06(r:Vals xs us)(q:RelV v u):Vals (xs++[v]) (us++[u]):=by
 induction r with
 | nil=>exact .cons q .nil
 | cons a _ ih=>exact .cons a ih
theorem Yadd(hu:X.A.units+64<cLine):PSet X Yaf2:=by
 intro pins s σ H o i v ov iv u Q I ro ri rv h;obtain⟨a,b,nks,vxs,ys,k,rfl,rfl,dt,eb,nk,hl,q⟩:=h;cases ro;cases ri;obtain⟨hsm,us,r,hl',dd⟩:=Ywg I dt;have key:=Yh1 (P:=X.prog) (w:=X.w) I.hok eb nk
 have hz:(zipX nks us).length<=sizeLine:=by
  have:(zipX nks us).length<=nks.length:=by grind
  have h6:=Yea (n:=nks.length) (by rw[dt.len];lia);lia
 refine wpAny_setItem_heap (knd:=tupleKind (Yax X.prog X.w)) (hsz:=hz) (by show X.A.in1.units<cLine;grind) key dd λh' dd' same=>?_;have hs:=Yuf (k:=k) hl';obtain⟨ep0,e0⟩:=dt.at'
 have new:∃ep,∀H',ObjOk X.prog X.w H' h' a (dTo a (putT nks vxs k b v).1 (putT nks vxs k b v).2 ep):=by
  unfold putT;by_cases hm:k∈nks.map (·.1)
  ·rw[if_pos hm]
   rw[wn hm]at hs
   have e:storedH (zipX nks us) k b u=zipX nks (setK (nks.map (·.1)) us k u):=by
    unfold storedH;rw[if_pos hs];exact Yl4 (b:=b) hl' dt.nd hm
   rw[e]at dd';exact Yru hsm (Yrs k rv r) dd'
  ·rw[if_neg hm]
   rw[wo hm]at hs
   have e:storedH (zipX nks us) k b u=zipX (nks++[(k,b)]) (us++[u]):=by
    unfold storedH;rw[if_neg (by grind)];unfold zipX;rw[List.zip_append hl'.symm,wt];rfl
   rw[e]at dd';exact Yru hsm (y06 r rv) dd'
 obtain⟨ep,new⟩:=new;exact⟨_,Ylk I (by rw[e0];exact True.intro) same (let ⟨q,_,_,hq,_⟩:=dd';⟨q,hq⟩) (new _),q ep⟩
end
def y86(sm:Same G H)(d:Dc true G H a kxs vxs):∃nks,DtH H a nks vxs/\kxs=nks.map (λp=>V.ref p.2)/\∀p∈nks,∃ys,G p.2=some (.tup ys)/\Yfn ys=some p.1:=by
 rcases d with⟨h,_⟩|⟨_,nks,ep,h1,h2,h3,h4,h5⟩
 ·cases h
 ·exact⟨nks,⟨⟨ep,h1⟩,h2,h3,λp hp=>let ⟨ys,q1,q2⟩:=h5 p hp;⟨ys,sm _ _ q1,q2⟩⟩,h4,h5⟩
def getT:D->D->Option D
 | .dct true ks vs,k=>(Yhg ks).bind λkn=>(nKey k).bind λx=>Yab kn vs x
 | _,_=>none
def y41:Sem2 K Yadc getT:=by
 intro x y dx dy d H G Q h s rx ry q;unfold getT at h
 split at h
 ·rename_i ks vs k
  obtain⟨kn,h1,h⟩:=qa h;obtain⟨z,h2,h3⟩:=qa h;rw[Ct]at rx;obtain⟨a,kxs,vxs,rfl,dc,r1,r2⟩:=rx;obtain⟨nks,dt,rfl,hk⟩:=y86 s dc;obtain⟨b,ys,rfl,g1,g2,n⟩:=Yrt h2 ry;have e:=Ypj h1 r1 hk;subst e;obtain⟨v,f1,f2⟩:=(Yl3 z r2).1 d h3;exact⟨a,b,nks,vxs,ys,z,v,rfl,rfl,dt,g1,n,f1,q v H G (.refl s) f2⟩
 ·cases h
def hasT(neg:Bool):D->D->Option Bool
 | k,.dct true ks _=>(Yhg ks).bind λkn=>(nKey k).map λx=>decide (x∈kn)!=neg
 | _,_=>none
def Ypk:Yhe K (y85 neg) (hasT neg):=by
 intro x y dx dy b H G Q h s rx ry q;unfold hasT at h
 split at h
 ·rename_i k ks vs
  obtain⟨kn,h1,h⟩:=qa h;obtain⟨z,h2,rfl⟩:=qc h;rw[Ct]at ry;obtain⟨a,kxs,vxs,rfl,dc,r1,r2⟩:=ry;obtain⟨nks,dt,rfl,hk⟩:=y86 s dc;obtain⟨b,ys,rfl,g1,g2,n⟩:=Yrt h2 rx;have e:=Ypj h1 r1 hk;subst e;exact⟨a,b,nks,vxs,ys,z,rfl,rfl,dt,g1,n,q⟩
 ·cases h
section
variable {X:Cx}{a b e:Expr}{fa fb f:AX}{pos:Pos}
def putD(ks vs:AR)(k d:D):Option (List D×AR):=(Yhg ks).bind λkn=>(nKey k).bind λx=>if vs.length<cap6 then some (if x∈kn then (ks,setK kn vs x d)else (ks++[k],vs++[d]))else none
def y42(i:Nat):Ro->Option (List D×AR):=λρ=>match ρ[i]? with
 | some (some (B.od true ks vs))=>some (ks,vs)
 | _=>none
theorem Yx4(h:y42 i ρ=some l):ρ[i]?=some (some (B.od true l.1 l.2)):=by
 unfold y42 at h;grind
def sPut(i:Nat)(fi f:AX):AU:=λρ=>(f ρ).bind λd=>(y42 i ρ).bind λl=>(fi ρ).bind λk=>(putD l.1 l.2 k d).map λl'=>.nx (ρ.set i (some (.od true l'.1 l'.2)))
theorem RpL.snoc(r:Rp K G d y):∀{l:AR}{xs:AQ},RpL K G l xs->RpL K G (l++[d]) (xs++[y])
 | [],_,h=>by
   rw[RpL]at h;subst h;exact .cons r .nil
 | e::l,_,h=>by
   rw[RpL]at h;obtain⟨x,q,rfl,r1,r2⟩:=h;exact .cons r1 (RpL.snoc r r2)
theorem y43(hu:A.units+64<cLine)(h:wpAny (model prog w) A (evalPairs (pairTrees [some ke] [ve] env pos)) (λvs s1=>∃(b:Addr) (n:AH) (u:Value),vs=[(.ref b,u)]/\(tupleKind (Yax prog w)).is s1.heap n b/\s1.heap.DictOfH (tupleKind (Yax prog w)) (~~~s) []/\
  ∀h' t,h'.DictOfH (tupleKind (Yax prog w)) (~~~s) [(n,b,u)]->Heap.SameBut (~~~s) s1.heap h'->Q (.ref (~~~s)) { s1 with heap:=h',toks:=t }) E
  { s with heap:=s.heap.push { cls:=.type "dict",data:=.dict #[] } }):
 wpAny (model prog w) A (eval (.Dict [some ke] [ve] pos) env) Q E s:=by
 have hsh:=zip_pairTrees [some ke] [ve] env pos rfl rfl;rw[arm_eval_Dict,hsh,dictDisplay_pairs (pairTrees [some ke] [ve] env pos) (λz=>by cases z) (by show 1<17;lia)];refine wa (wpAny_standAt (wa ?_));unfold subDict;refine wa (wpAny_alloc ?_);refine wa (wc ?_);rw[if_pos (by show 1<=15;lia)];refine wa (w5 h (λvs s1 h1=>?_) λ_ _ e=>e);obtain⟨b,n,u,rfl,key,dd,q⟩:=h1;refine wc ?_;rw[List.forIn_cons];refine wa (wa (wa (wpAny_dictSet_heap (knd:=tupleKind (Yax prog w)) (hsz:=by grind) (by show A.units<cLine;lia) key dd λh' dd' same=>wb ?_)));show wpAny _ _ (forIn ([]:List (Value×Value)) PUnit.unit _) _ _ _;rw[List.forIn_nil];refine wb (wb (wb (wb ?_)));exact q h' _ dd' same
theorem Yadg(r:VV [(x,y)] ws):∃kv u,ws=[(kv,u)]/\RelV x kv/\RelV y u:=by
 cases r with
 | cons r t=>
   cases t;grind
def Yadh(trs:List (TE×TE)):TE:=λσ H Q=>∀p ep,H p=none->Yzv trs σ (upd H p (dTo p [] [] ep)) λps H2=>H2 p=some (dTo p [] [] ep)/\∃b ys n v,ps=[(V.ref b,v)]/\H2 b=some (.tup ys)/\Yfn ys=some n/\∀ep',Q (.ref p) (upd H2 p (dTo p [(n,b)] [v] ep'))
def y44(hu:X.A.units+64<cLine)(h:PPs X pos [some ke] [ve] trs):PE X (.Dict [some ke] [ve] pos) (Yadh trs):=by
 intro pins s σ H Q I q;have hn:=I.hok.fresh (qu (~~~s));have hd:(~~~s==sysModules)=false:=beq_eq_false_iff_ne.mpr (Ne.symm (qm I.big));obtain⟨ep0,new0⟩:=Yru (P:=X.prog) (w:=X.w) (h':=s.heap.push { cls:=.type "dict",data:=.dict #[] }) (nks:=[]) (vxs:=[]) (us:=[]) hd .nil (Heap.DictOfH.new s.heap);have I1:=I.laid (a:= ~~~s) (o:=dTo (~~~s) [] [] ep0) (h':=s.heap.push { cls:=.type "dict",data:=.dict #[] }) (t':=s.toks) (λ_ _ q=>qe _ q) (qu _) (new0 _);refine y43 hu (thn (h pins _ σ _ _ I1 (q _ _ hn)) λws s2 hx_=>?_);obtain⟨ps,H2,I2,rel,e,b,ys,n,v,ep,eb,nk,q2⟩:=hx_;subst ep;obtain⟨kv,u,rfl,r1,r2⟩:∃kv u,ws=[(kv,u)]/\RelV (.ref b) kv/\RelV v u:=Yadg rel;obtain rfl:kv=Value.ref b:=r1;have key:=Yh1 (P:=X.prog) (w:=X.w) I2.hok eb nk;obtain⟨_,us,r0,_,dd⟩:=Yac8 (P:=X.prog) (w:=X.w) (nks:=[]) (vxs:=[]) I2.hok (Same.refl H2) e rfl List.nodup_nil (λp hp=>by cases hp);refine⟨b,n,u,rfl,key,by simpa [zipX]using dd,λh' t dd' same=>?_⟩;obtain⟨ep1,new1⟩:=Yru (nks:=[(n,b)]) (vxs:=[v]) hd (us:=[u]) (.cons r2 .nil) dd';exact⟨.ref (~~~s),_,Ylk I2 (by rw[e];exact True.intro) same (let ⟨q,_,_,hq,_⟩:=dd';⟨q,hq⟩) (new1 _),rfl,q2 ep1⟩
def y07(i:Nat)(fk fv:AX):AU:=λρ=>(fk ρ).bind λk=>(fv ρ).bind λv=>(nKey k).map λ_=>.nx (ρ.set i (some (.od true [k] [v])))
end
end
section
def Yx5:AM->Option AH
 | []=>some []
 | .Constant (.int i) _ _::es=>(Yx5 es).map (i::·)
 | _=>none
def Yrv(ns:AH):AY:=λ_=>if ns.length<=cap6 then some (ns.map D.int)else none
def y08:AH->AY
 | []=>aNil
 | n::ns=>Ye (kD (.int n)) (y08 ns)
theorem Ywh(ρ:Ro):∀ns:AH,y08 ns ρ=some (ns.map D.int)
 | []=>rfl
 | n::ns=>by rw[y08,Ye,Ywh ρ ns];rfl
theorem y09:∀{es:AM}{ns:AH},Yx5 es=some ns->MA X es (y08 ns)
 | [],ns,h=>by
   cases h;exact y0a
 | e::es,ns,h=>by
   unfold Yx5 at h
   split at h
   ·grind
   ·rename_i i j p es' e1
    cases e1;obtain⟨m,h1,rfl⟩:=qc h;exact Yt9 y6w (y09 h1)
   ·cases h
theorem y9b(ns:AH)(h:Yx5 es=some ns:=by decide +kernel):MF X (.List es pos) (Yrv ns):=by
 have:=y61 (pos:=pos) (y09 (X:=X) h)
 have e:dLst (y08 ns)=Yrv ns:=by
  funext ρ
  unfold dLst Yrv;rw[Ywh];simp
 grind
end
section
section
variable {X:Cx}{a b c e:Expr}{fa fb fc:AX}{pos:Pos}{st:Stmt}
def ch3(fa fb fc:AX)(g g':D->D->Option Bool):AW:=λρ=>
 (fa ρ).bind λx=>(fb ρ).bind λy=>(g x y).bind λk=>if k=true then (fc ρ).bind λz=>g' y z else some false
theorem y45(h:ch3 fa fb fc g g' ρ=some k):
 ∃x y,fa ρ=some x/\fb ρ=some y/\((g x y=some false/\k=false)\/(g x y=some true/\∃z,fc ρ=some z/\g' y z=some k)):=by
 unfold ch3 at h;obtain⟨x,h1,h⟩:=qa h;obtain⟨y,h2,h⟩:=qa h;obtain⟨q,h3,h⟩:=qa h;refine⟨x,y,h1,h2,?_⟩
 cases q with
 | false=>
   grind
 | true=>
   rw[if_pos rfl]at h;obtain⟨z,h4,h⟩:=qa h;grind
end
end
section
section
variable {X:Cx}{e:Expr}{f:AX}{fc:AW}{gl:AY}{K:W.Frag}
def Yadi:D->Bool
 | .non|.bl _|.int _|.str _=>true
 | _=>false
def scal(d:D):Option D:=if Yadi d=true then some d else none
def Rp.scal(h:Yadi d=true)(r:Rp K G d v):Rp K G' d v:=by
 cases d<;>first|(rw[Rp]at r ⊢;exact r)|cases h
def Gr.back(s:Same G H)(g:Gr H G1 H' G'):Gr H G H' G:=⟨g.h,Same.refl _,s.trans g.h,λ_ h h'=>absurd h h'⟩
def Yx6(is:AG)(f:AX):AX:=λρ=>(f (frz is ρ)).bind scal
mutual
def plB:D->Bool
 | .non=>true
 | .bl _=>true
 | .int _=>true
 | .str _=>true
 | .tup l=>plBL l
 | .lst _=>false
 | .scr _=>false
 | .dct _ _ _=>false
 | .obj _ _ _=>false
 | .adr _=>false
def plBL:AR->Bool
 | []=>true
 | d::l=>plB d&&plBL l
end
mutual
theorem Rp.plain{G G':Hp}(hG:∀b ys,G b=some (HO.tup ys)->G' b=some (HO.tup ys)):∀{d:D}{v:V},plB d=true->Rp K G d v->Rp K G' d v
 | .non,_,_,r=>by rw[Rp]at r ⊢;exact r
 | .bl _,_,_,r=>by rw[Rp]at r ⊢;exact r
 | .int _,_,_,r=>by rw[Rp]at r ⊢;exact r
 | .str _,_,_,r=>by rw[Rp]at r ⊢;exact r
 | .tup l,_,h,r=>by
   rw[Rp]at r ⊢;rw[plB]at h;obtain⟨a,xs,e,g,q⟩:=r;exact⟨a,xs,e,hG _ _ g,RpL.plain hG h q⟩
 | .lst _,_,h,_=>by rw[plB]at h;cases h
 | .scr _,_,h,_=>by rw[plB]at h;cases h
 | .dct _ _ _,_,h,_=>by rw[plB]at h;cases h
 | .obj _ _ _,_,h,_=>by rw[plB]at h;cases h
 | .adr _,_,h,_=>by rw[plB]at h;cases h
theorem RpL.plain{G G':Hp}(hG:∀b ys,G b=some (HO.tup ys)->G' b=some (HO.tup ys)):∀{l:AR}{xs:AQ},plBL l=true->RpL K G l xs->RpL K G' l xs
 | [],_,_,r=>by rw[RpL]at r ⊢;exact r
 | d::l,_,h,r=>by
   rw[RpL]at r ⊢;rw[plBL,Qb]at h;obtain⟨x,xs,e,g,q⟩:=r;exact⟨x,xs,e,Rp.plain hG h.1 g,RpL.plain hG h.2 q⟩
end
def Ynh(is:AG)(f:AX):AX:=λρ=>(f (frz is ρ)).bind λd=>if plB d=true then some d else none
end
end
section
def zK(ns:AH)(vxs:AQ):List (Key×V):=(ns.zip vxs).map λp=>(Sum.inl p.1,p.2)
def Yge(n:Int)(v:V)(ns:AH)(vxs:AQ):zK (n::ns) (v::vxs)=(Sum.inl n,v)::zK ns vxs:=rfl
theorem Yadj:∀{kvs:List (Key×V)}{ns:AH},kvs.map (λp=>kV p.1)=ns.map V.int->kvs=zK ns (kvs.map (·.2))
 | [],ns,h=>by
   cases ns with
   | nil=>rfl
   | cons n ns=>cases h
 | (k,v)::kvs,[],h=>by cases h
 | (k,v)::kvs,n::ns,h=>by
   rw[Qa,Qa]at h;injection h with h1 h2
   cases k with
   | inl i=>
     have:i=n:=by simp[kV]at h1;exact h1
     subst this;rw[Qa,Yge,<-Yadj h2]
   | inr x=>cases h1
theorem Ywi(i:Int):∀(ns:AH) (vxs:AQ),valV (zK ns vxs) (Sum.inl i)=Yab ns vxs i
 | [],vxs=>by simp[zK,Yab,valV]
 | n::ns,[]=>by simp[zK,Yab,valV]
 | n::ns,v::vxs=>by
   rw[Yge,Yab];by_cases h:n=i
   ·rw[if_pos h,Yk2 (by simp[h])]
   ·rw[if_neg h,Yk3 (by simpa using h)]
    exact Ywi i ns vxs
theorem Ygf:∀(ns:AH) (vxs:AQ),ns.length=vxs.length->(zK ns vxs).map (·.1)=ns.map Sum.inl
 | [],vxs,_=>rfl
 | n::ns,[],h=>by simp at h
 | n::ns,v::vxs,h=>by
   rw[Yge,Qa,Qa,Ygf ns vxs (by simpa using h)]
theorem y1a(ns:AH)(vxs:AQ)(h:ns.length=vxs.length):(zK ns vxs).length=ns.length:=by
 have:=congrArg List.length (Ygf ns vxs h);grind
theorem y67(i:Int):∀(ns:AH) (vxs:AQ),ns.length=vxs.length->((zK ns vxs).any λkv=>decide (kv.1=Sum.inl i))=decide (i∈ns)
 | [],vxs,_=>by simp[zK]
 | n::ns,[],h=>by simp at h
 | n::ns,v::vxs,h=>by
   rw[Yge,List.any_cons,y67 i ns vxs (by simpa using h)];grind
theorem y68(i:Int)(y:V):∀(ns:AH) (vxs:AQ),ns.length=vxs.length->ns.Nodup->(zK ns vxs).map (λkv=>if kv.1=Sum.inl i then (kv.1,y)else kv)=zK ns (setK ns vxs i y)
 | [],vxs,_,_=>by simp[zK]
 | n::ns,[],h,_=>by simp at h
 | n::ns,v::vxs,h,hn=>by
   obtain⟨h1,h2⟩:=List.nodup_cons.mp hn
   have hl:ns.length=vxs.length:=by simpa using h
   rw[Yge,Qa,setK];by_cases e:n=i
   ·subst e
    rw[if_pos rfl,if_pos rfl,Yge]
    have:(zK ns vxs).map (λkv=>if kv.1=Sum.inl n then (kv.1,y)else kv)=zK ns vxs:=by
     refine(Qj λkv hkv=>?_).trans (List.map_id _);rw[if_neg]
     ·rfl
     ·intro z
      have:kv.1∈(zK ns vxs).map (·.1):=List.mem_map_of_mem hkv;rw[Ygf ns vxs hl,z]at this;grind
    rw[this]
   ·rw[if_neg (by simpa using e),if_neg e,Yge,y68 i y ns vxs hl h2]
def y9e(i:Int)(y:V):∀(ns:AH) (vxs:AQ),ns.length=vxs.length->zK (ns++[i]) (vxs++[y])=zK ns vxs++[(Sum.inl i,y)]:=λns vxs h=>by
 unfold zK;rw[List.zip_append h,wt];rfl
def putI(ns:AH)(vxs:AQ)(i:Int)(y:V):List Int×AQ:=if i∈ns then (ns,setK ns vxs i y)else (ns++[i],vxs++[y])
def y69(h:ns.length=vxs.length)(hn:ns.Nodup)(i:Int)(y:V):putK (zK ns vxs) (Sum.inl i) y=zK (putI ns vxs i y).1 (putI ns vxs i y).2:=by
 unfold putK putI;rw[y67 i ns vxs h];by_cases e:i∈ns
 ·rw[if_pos (wn e),if_pos e]
  exact y68 i y ns vxs h hn
 ·rw[if_neg (by simpa using e),if_neg e,y9e i y ns vxs h]
variable {K:W.Frag}
theorem Yni(hn:intsD ks=some ns)(d:Dc false G H a kxs vxs)(r:RpL K G ks kxs):H a=some (.dK (zK ns vxs))/\ns.Nodup/\ns.length=vxs.length/\kxs=ns.map V.int:=by
 cases Yd1 hn;have e:=Yg1 r;rcases d with⟨_,kvs,h1,h2,h3,h4⟩|⟨h,_⟩
 ·rw[e]at h3
  have hz:=Yadj h3.symm;rw[<-h4]at hz
  have hl:ns.length=vxs.length:=by
   have:=congrArg List.length h3;grind
  refine⟨by grind,?_,hl,e⟩;rw[hz,Ygf ns vxs hl]at h2;grind
 ·cases h
theorem y1b(h:H a=some (.dK (zK ns vxs)))(hn:ns.Nodup)(hl:ns.length=vxs.length):Dc false G H a (ns.map V.int) vxs:=by
 refine .inl ⟨rfl,zK ns vxs,h,by rw[Ygf ns vxs hl];grind,?_,?_⟩
 ·have:=congrArg (List.map kV) (Ygf ns vxs hl)
  rw[Qe,Qe]at this;exact(this.trans (Qj λ_ _=>rfl)).symm
 ·unfold zK
  rw[Qe];have:(λp:Int×V=>((Sum.inl p.1,p.2):Key×V).2)=λp=>p.2:=rfl;show vxs=(ns.zip vxs).map λp:Int×V=>p.2;clear h hn this
  induction ns generalizing vxs with
  | nil=>cases vxs with
    | nil=>rfl
    | cons=>simp at hl
  | cons n ns ih=>cases vxs with
    | nil=>simp at hl
    | cons v vxs=>simp;grind
def getI:D->D->Option D
 | .dct false ks vs,.int i=>(intsD ks).bind λns=>Yab ns vs i
 | _,_=>none
def hasI(neg:Bool):D->D->Option Bool
 | .int i,.dct false ks _=>(intsD ks).map λns=>decide (i∈ns)!=neg
 | _,_=>none
def rIxI:R2:=λx y H Q=>∃a z,x=.ref a/\DGet H a y (some z)/\Q z H
def rInI(neg:Bool):R2:=λx y H Q=>∃a o,y=.ref a/\DGet H a x o/\Q (.bl (o.isSome != neg)) H
def y48:Sem2 K rIxI getI:=by
 intro x y dx dy d H G Q h s rx ry q;unfold getI at h
 split at h
 ·rename_i ks vs i
  obtain⟨ns,h1,h⟩:=qa h;rw[Ct]at rx;rw[Ct]at ry;subst ry;obtain⟨a,kxs,vxs,rfl,dc,r1,r2⟩:=rx;obtain⟨e1,e2,e3,e4⟩:=Yni h1 dc r1;obtain⟨v,f1,f2⟩:=(Yl3 i r2).1 d h;refine⟨a,v,rfl,?_,q v H G (.refl s) f2⟩;have:=DGet.k (k:=Sum.inl i) e1;rw[Ywi,f1]at this;exact this
 ·cases h
theorem Yx7{vxs:AQ}{i:Int}(hl:ns.length=vxs.length):(Yab ns vxs i).isSome=decide (i∈ns):=by
 cases h:Yab ns vxs i with
 | none=>
   have:=(Yc3 (x:=i) (ks:=ns) (vs:=vxs) hl.symm).mp h;simp[this]
 | some v=>
   have:i∈ns:=Classical.byContradiction λz=>by
    rw[(Yc3 (x:=i) (ks:=ns) (vs:=vxs) hl.symm).mpr z]at h;cases h
   simp[this]
def Ypl:Yhe K (rInI neg) (hasI neg):=by
 intro x y dx dy b H G Q h s rx ry q;unfold hasI at h
 split at h
 ·rename_i i ks vs
  obtain⟨ns,h1,rfl⟩:=qc h;rw[Ct]at rx;rw[Ct]at ry;subst rx;obtain⟨a,kxs,vxs,rfl,dc,r1,r2⟩:=ry;obtain⟨e1,e2,e3,e4⟩:=Yni h1 dc r1;refine⟨a,Yab ns vxs i,rfl,?_,?_⟩
  ·have:=DGet.k (k:=Sum.inl i) e1
   rw[Ywi]at this;exact this
  ·rw[Yx7 e3]
   exact q
 ·cases h
section
variable {X:Cx}
theorem Yaf3(hu:X.A.units+64<cLine):IxR X rIxI:=by
 intro value slice pins s σ H x y v u Q I rx ry h hs;obtain⟨a,z,rfl,g,q⟩:=h;cases rx;exact tail_any (Yt2 I g) PySem.F.slot_dict_getitem.lookup (Yzs (by lia) I g ry λw' s3 I3 rw'=>⟨z,H,I3,rw',q⟩) hs
theorem y7a(hu:X.A.units+64<cLine):OpR X (compareOp .In) (rInI false):=by
 intro pins s σ H x y v u Q I rx ry h;obtain⟨a,o,rfl,g,q⟩:=h;cases ry
 exact d_in (by lia) I g rx λs3 I3=>⟨.bl (o.isSome != false),H,I3,by simp;rfl,q⟩
theorem Yrw(hu:X.A.units+64<cLine):OpR X (compareOp .NotIn) (rInI true):=by
 intro pins s σ H x y v u Q I rx ry h;obtain⟨a,o,rfl,g,q⟩:=h;cases ry
 exact y75 (by lia) I g rx λs3 I3=>⟨.bl (o.isSome != true),H,I3,by simp;rfl,q⟩
def Yadk:V->V->V->Hp->(Hp->Prop)->Prop:=λo i v H Q=>∃a H',o=.ref a/\DPut H a i v H'/\Q H'
theorem Yadl(hu:X.A.units+64<cLine):PSet X Yadk:=by
 intro pins s σ H o i v ov iv u Q I ro ri rv h;obtain⟨a,H',rfl,g,q⟩:=h;cases ro
 exact Yzu (by lia) I g ri rv λs4 I4=>⟨_,I4,q⟩
variable {a b e f':Expr}{fa fb f fz:AX}{pos:Pos}
def Yug(i:Nat):AU:=λρ=>some (.nx (ρ.set i (some (.od false [] []))))
def Ykp(i:Nat):Ro->Option (List D×AR):=λρ=>match ρ[i]? with
 | some (some (B.od false ks vs))=>some (ks,vs)
 | _=>none
theorem Yof(h:Ykp i ρ=some l):ρ[i]?=some (some (B.od false l.1 l.2)):=by
 unfold Ykp at h;grind
def Yuh(ks vs:AR)(k d:D):Option (List D×AR):=(intsD ks).bind λns=>match k with
 | .int i=>if vs.length<cap6 then some (if i∈ns then (ks,setK ns vs i d)else (ks++[k],vs++[d]))else none
 | _=>none
def Yui(i:Nat)(fi f:AX):AU:=λρ=>(f ρ).bind λd=>(Ykp i ρ).bind λl=>(fi ρ).bind λk=>(Yuh l.1 l.2 k d).map λl'=>.nx (ρ.set i (some (.od false l'.1 l'.2)))
def Ypm:D->D->D->Option D
 | .dct false ks vs,.int i,z=>(intsD ks).map λns=>(Yab ns vs i).getD z
 | _,_,_=>none
def b3{α:Type}(fa fb fc:AX)(g:D->D->D->Option α):Ro->Option α:=λρ=>(fa ρ).bind λx=>(fb ρ).bind λy=>(fc ρ).bind λz=>g x y z
theorem Yx8(h:Ypm x y z=some d):∃ks vs i ns,x=.dct false ks vs/\y=.int i/\intsD ks=some ns/\d=(Yab ns vs i).getD z:=by
 unfold Ypm at h
 split at h
 ·obtain⟨ns,h1,h2⟩:=qc h
  grind
 ·cases h
end
set_option maxRecDepth 100000
section
variable {prog:Program}{w:World}{A:Around}{E:AB}{s:Shared}{X:Cx}{e:Expr}{f:AX}{p pos:Pos}
def Ypn:isSubtype (.type "dict") (.type "dict")=pure true:=by rw[isSubtype_type];kernel_rfl
def PIn(vals:AH)(i:Nat)(v:Value):Prop:=∃k t,vals[i]?=some k/\v=.int k t
theorem y9j:∀{acc:AD},acc.length=vals.length->(∀(j:Nat) v,acc[j]?=some v->PIn vals j v)->IntsAre acc vals:=by
 induction vals with
 | nil=>
   intro acc h _;rw[List.length_eq_zero_iff.mp h];exact .nil
 | cons k r ih=>
   intro acc h hp
   match acc,h with
   | v::acc,h=>
     obtain⟨k',t,e1,e2⟩:=hp 0 v rfl;simp at e1;subst e1;subst e2;refine .cons _ t (ih (by simpa using h) λj v hj=>?_);obtain⟨k',t,e1,e2⟩:=hp (j+1) v (by simpa using hj);exact⟨k',t,by simpa using e1,e2⟩
theorem Yrx{ns:AH}(hh:A.handled=none)(hd:(a==sysModules)=false)(hS:s.heap.DictOf (Yah prog w) a kvs)(hk:kvs.map (·.1)=ns.map Sum.inl)(hl:ns.length<=1000)(hQ:∀(h':Heap) (tk:Nat) (acc:AD),~~~s<=h'.objs.size->(∀b o,s.heap.get? b=some o->h'.get? b=some o)->IntsAre acc ns->Q acc { s with heap:=h',toks:=tk }):
 wpAny (model prog w) A (collect (.ref a)) Q E s:=by
 obtain⟨o,es,ep,ho,hex,hdat,hrest⟩:=id hS;have hlt:a< ~~~s:=ql ho
 have hlen:kvs.length=ns.length:=by have:=congrArg List.length hk;grind
 unfold collect;refine wa (wpAny_runValue (wz F.entry_proto_collect ?_));rw[jf F.plain_proto_collect _];show wpAny _ A.in1 (newList []>>=λl=>again (.builtin "list.__iadd__" ⟨[l,.ref a],[]⟩)) _ _ s;refine wa (wg ?_);refine wb ⟨je F.plain_list_iadd _,wz F.entry_list_iadd ?_⟩;rw[jf F.plain_list_iadd _];generalize hH:s.heap.push { cls:=.type "list",data:=.seq ([]:AD).toArray }=H
 have hHs:H.objs.size= ~~~s+1:=by rw[<-hH,ww]
 have keepH:∀b o,s.heap.get? b=some o->H.get? b=some o:=λb o e=>by rw[<-hH];exact qe _ e
 have hL:H.get? (~~~s)=some { cls:=.type "list",data:=.seq ([]:AD).toArray }:=by rw[<-hH];exact qp _ rfl
 have hoH:=keepH a o ho
 have hT:Shared.TypeIs { s with heap:=H } (.ref a) "dict":=⟨o,hoH,hex.1⟩
 have hSI:(~~~s)≠a:=λz=>by grind
 have h1:Builtin.List.listSameRef (.ref (~~~s)) (.ref a)=false:=by simp[Builtin.List.listSameRef,hSI]
 show wpAny _ A.in1 (Builtin.List.listExtendWith (.ref (~~~s)) (.ref a) (.ref (~~~s))) _ _ _;unfold Builtin.List.listExtendWith;refine wa (wpAny_typeOf hT ?_)
 have h2:(Value.type "dict"==Value.type "list")=false:=by decide
 have h3:(Value.type "dict"==Value.type "tuple")=false:=by decide
 simp only[h1,h2,h3,Bool.or_false,Bool.false_eq_true,if_false]
 have hat:H.DictAt (Yah prog w) a kvs ep:=⟨o,es,hoH,hex,hdat,hrest⟩
 refine wa (wpAny_pyIter_dict (s:={ s with heap:=H }) hd hat ?_);generalize hO:({ cls:=.type "dict_keyiterator",data:=.fields #[.ref a,.int 0 0,.int kvs.length 0,.int ep 0] }:Obj)=itO;have hoI:(H.push itO).get? a=some o:=qe _ hoH
 have hT':Shared.TypeIs { s with heap:=H.push itO } (.ref a) "dict":=⟨o,hoI,hex.1⟩
 refine wa (wc ?_);unfold Builtin.List.listLengthHint;refine wa (wpAny_specialOf hT' F.slot_dict_len.lookup ?_)
 (generalize hid:("dict.__len__":String)=id0;(fail_if_success (clear hid id0));wp_delta;rw[show splitId id0=some ("dict","__len__") from by subst hid;decide +kernel];subst hid)
 refine wa (wpAny_isInstance (b:=true) hT' Ypn ?_);show wpAny _ A.in1 (typeOf (Value.ref a)>>=_) _ _ _;refine wa (wpAny_typeOf hT' ?_);refine wb ?_;rw[if_pos (by decide)];refine wa (wpAny_rule ?_)
 have haI:a≠H.objs.size:=λz=>by grind
 have hSf:(~~~s)∉[H.objs.size,a]:=λhm=>by
  grind
 have hS₁:(H.push itO).get? (~~~s)=some { cls:=.type "list",data:=.seq ([]:AD).toArray }:=qe _ hL;refine wa ?_;show wpAny _ A.in1 (updateSeq (~~~s) (·.push .none)>>=λ_=>updateSeq (~~~s) (·.pop)) _ _ _;refine wa (wpAny_updateSeq hS₁ rfl ?_);have hS₂:=wy (Obj.mapSeq (·.push Value.none)) hS₁ rfl;refine wpAny_updateSeq hS₂ rfl ?_;have hS₃:=wy (Obj.mapSeq (·.pop)) hS₂ rfl
 have oth:∀b o,b≠(~~~s)->(H.push itO).get? b=some o->
  (((H.push itO).update (~~~s) (Obj.mapSeq (·.push Value.none))).update (~~~s) (Obj.mapSeq (·.pop))).get? b=some o:=
  λb o hb e=>(Heap.get?_update_other _ _ (Ne.symm hb)).trans ((Heap.get?_update_other _ _ (Ne.symm hb)).trans e)
 have W:=(Walks.dictKeys (prog:=prog) (w:=w) (knd:=Yah prog w) (A:=A.in1) hh H.objs.size a haI kvs ep).toS
 have hst:(H.push itO).IsKeyIter H.objs.size a 0 kvs.length ep/\(H.push itO).DictAt (Yah prog w) a kvs ep:=⟨⟨_,qp _ (by rw[<-hO];rfl),by rw[<-hO],by grind⟩,hat.at' λo e=>qe _ e⟩
 refine wb ⟨je F.plain_extend_loop _,codeAny_extend_loopS W (by rw[jj,hlen];lia) _ hSf _ kvs.length 0 _ _ _ rfl (jb _)
  (W.frame 0 ({ s with heap:=H.push itO }:Shared) _ s.toks hst (qu _) λb hb o e=>oth b o (λh=>hSf (h ▸ hb)) e) hS₃ (ItemsOf.nil _) λs' acc' c' hm hS' hacc=>?_⟩
 show wpAny _ A (load (~~~s)>>=_) _ _ s';refine wa (wpAny_load hS' ?_);have eg:s'.gens=s.gens:=hm.gens;have ed:s'.drawn=s.drawn:=hm.drawn;have eo:s'.os=s.os:=hm.os
 have es':s'={ s with heap:=s'.heap,toks:=s'.toks }:=by
  obtain⟨a1,a2,a3,a4,a5⟩:=s';grind
 rw[es'];refine wb (hQ s'.heap s'.toks acc'.toList (Nat.le_of_lt (ql hS')) (λb ob e=>?_) (y9j (by rw[qj,hacc.1,hlen]) λj v hj=>?_))
 ·have hb:b< ~~~s:=ql e
  refine hm.heap b ob (λhm'=>?_) (oth b ob (qm hb) (qe _ (keepH b ob e)));grind
 ·obtain⟨k,x,e1,e2⟩:=hacc.2 j v (by grind)
  have hkj:(kvs.map (·.1))[j]?=some k:=by grind
  rw[hk,Qh]at hkj;obtain⟨n,hn,rfl⟩:=qc hkj;have e2':Ytw (Sum.inl n) v=true:=e2;rcases Ya7 e2' with⟨i,t,h1,h2⟩|⟨x,t,h1,h2⟩
  ·injection h1 with h1
   exact⟨n,t,hn,by rw[h2,h1]⟩
  ·cases h1
theorem Yuj{ns:AH}(hh:A.handled=none)(hd:(a==sysModules)=false)(hS:s.heap.DictOf (Yah prog w) a kvs)(hk:kvs.map (·.1)=ns.map Sum.inl)(h64:ns.length<64)(hQ:∀(h':Heap) (tk e:Nat) (p:Addr) (out:Array Value) (ns':AH),(∀b o,s.heap.get? b=some o->h'.get? b=some o)->(~~~s)<=p->h'.get? p=some (seqObj "list" out e)->IntsAre out.toList ns'->ns'.Perm ns->ns'.Pairwise (·<=·)->
  Q (.ref p) { s with heap:=h',toks:=tk }):wpAny (model prog w) A (call (.builtin "sorted") [.ref a]) Q E s:=by
 refine Calls.call_function_entry kind_sorted plain_sorted entry_sorted (args_sorted1 _) ?_;unfold Builtin.«sorted»;refine wa (m:=checkCount "sorted" 1 1 _) (wb ?_);refine wa (Yrx (A:=A.in1) hh hd hS hk (by lia) λh' tk acc hle keep hI=>?_);have hl:acc.length=ns.length:=IntsAre.length hI
 have h64':acc.length<64:=by grind
 refine wa (wpAny_newList ?_ (by rw[jj];lia));have hoL:(h'.push (seqObj "list" acc.toArray 0)).get? h'.objs.size=some (seqObj "list" acc.toArray 0):=qp _ rfl;show wpAny _ _ _ _ _ { s with heap:=h'.push (seqObj "list" acc.toArray 0),toks:=tk };refine wa (wc (we slot_list_sort ⟨_,hoL,rfl⟩ entry_list_sort (list_sort_tree (s:={ s with heap:=h'.push (seqObj "list" acc.toArray 0),toks:=tk }) hoL hI h64' λout ns' a1 a2 a3=>⟨_,rfl,?_⟩) (args_list_sort _)));obtain⟨e,he⟩:=sortedHeap_at (n:=0) (out:=out) hoL;refine wb ⟨_,rfl,hQ _ tk e h'.objs.size out ns' (λb o eb=>?_) hle he a1 a2 a3⟩;have hb:=ql (keep b o eb);rw[sortedHeap_old (qm hb) (by rw[size_push'];grind)];exact qe _ (keep b o eb)
def y1c:AQ->Hp->VK->Prop:=λxs H Q=>∃a kvs ns,xs=[.ref a]/\Rd H a (.dK kvs)/\kvs.map (·.1)=ns.map Sum.inl/\ns.length<64/\∀p,H p=none->Q (.ref p) (upd H p (.lst ((Yc1 ns).map V.int)))
theorem Yl5(hc:X.calm=true):Ydt X (.builtin "sorted") y1c:=by
 intro pins s σ H xs us Q I r h;obtain⟨a,kvs,ns,rfl,hq,hk,hl,q⟩:=h;obtain⟨u,rfl,rx⟩:=Yhc r;cases rx;have hh:X.A.handled=none:=I.ok.hd hc;obtain⟨z,hd,vs,rel,dd⟩:=Yq9 I.hok hq
 have hkv:vs.map (·.1)=ns.map Sum.inl:=by
  rw[<-hk];clear hk dd z hq
  induction rel with
  | nil=>rfl
  | cons r _ ih=>grind
 refine Yuj hh hd dd hkv hl λh' tk e p out ns' keep hp he hI hpm hs=>?_;have en:ns'=Yc1 ns:=W.ksm_same (hpm.trans (Yaz ns).symm) hs (Ya5 ns);subst en;have hn:(Yc1 ns).length=ns.length:=(Yaz ns).length_eq;exact⟨.ref p,_,Inv.laid (t':=tk) I keep hp (show ObjOk X.prog X.w _ _ _ (.lst ((Yc1 ns).map V.int)) from⟨by rw[qf,hn,jj];lia,out.toList,e,Ygb hI,by simp_all⟩),rfl,q _ (I.hok.fresh hp)⟩
def Yh2:AR->Option AR
 | [.dct false ks _]=>(intsD ks).bind λns=>if ns.length<64 then some ((Yc1 ns).map D.int)else none
 | _=>none
def Yog:SemF K y1c Yh2:=by
 intro vs ds l H G Q h s r q;unfold Yh2 at h
 split at h
 ·rename_i ks ws
  obtain⟨v,rfl,rv⟩:=Ycz r;obtain⟨ns,h1,h⟩:=qa h
  split at h
  ·rename_i h64
   cases h;rw[Ct]at rv;obtain⟨a,kxs,vxs,rfl,dc,rk,rv⟩:=rv;obtain⟨e1,e2,e3,e4⟩:=Yni h1 dc rk;exact⟨a,_,ns,rfl,.inl e1,Ygf ns vxs e3,h64,λp hp=>q p _ _ G (.hid s hp _) hp (s.free hp) Yt (.ints _)⟩
  ·cases h
 ·cases h
def nr1{α:Sort _}{a b:α}(h:a=b):a=b:=h
@[simp] theorem ap_b3(fa fb fc:AX)(g:D->D->D->Option α):b3 fa fb fc g ρ=(fa ρ).bind λx=>(fb ρ).bind λy=>(fc ρ).bind λz=>g x y z:=nr1 rfl
@[simp] theorem ap_sNewD(i:Nat):Yug i ρ=some (.nx (ρ.set i (some (.od false [] [])))):=nr1 rfl
@[simp] theorem ap_sPutI(i:Nat)(fi f:AX):Yui i fi f ρ=(f ρ).bind λd=>(Ykp i ρ).bind λl=>(fi ρ).bind λk=>(Yuh l.1 l.2 k d).map λl'=>.nx (ρ.set i (some (.od false l'.1 l'.2))):=nr1 rfl
@[simp] theorem Yfp(ks vs:AR)(i:Int):getI (.dct false ks vs) (.int i)=(intsD ks).bind λns=>Yab ns vs i:=nr1 rfl
@[simp] theorem Ypo(neg:Bool)(ks vs:AR)(i:Int):hasI neg (.int i) (.dct false ks vs)=(intsD ks).map λns=>decide (i∈ns)!=neg:=nr1 rfl
@[simp] theorem Yl6(ks vs:AR)(i:Int)(z:D):Ypm (.dct false ks vs) (.int i) z=(intsD ks).map λns=>(Yab ns vs i).getD z:=nr1 rfl
@[simp] theorem Yfd(ks vs:AR)(i:Int)(d:D):Yuh ks vs (.int i) d=(intsD ks).bind λns=>if vs.length<cap6 then some (if i∈ns then (ks,setK ns vs i d)else (ks++[.int i],vs++[d]))else none:=nr1 rfl
@[simp] theorem Yl7(ks vs:AR):Yh2 [.dct false ks vs]=(intsD ks).bind λns=>if ns.length<64 then some ((Yc1 ns).map D.int)else none:=nr1 rfl
@[simp] theorem gOI0(ks vs:AR)(r:Ro):Ykp 0 (some (.od false ks vs)::r)=some (ks,vs):=nr1 rfl
@[simp] theorem gOIs(n:Nat)(b:AT)(r:Ro):Ykp (n+1) (b::r)=Ykp n r:=by simp[Ykp]
@[simp] theorem gC0d(t:Bool)(ks vs:AR)(r:Ro):getC 0 (some (.od t ks vs)::r)=some (.dct t ks vs):=nr1 rfl
end
end
section
section
variable {X:Cx}{a b e:Expr}{fa fb f:AX}{pos:Pos}{K:W.Frag}
def shrI:D->D->Option D:=i2 (λ_ j=>decide (0<=j)) λi j=>i/2^j.toNat
def minC:AR->Option D
 | [.int i,.int j]=>some (.int (if j<i then j else i))
 | _=>none
def y1d(r:CtL K G H [.int i,.int j] vs):vs=[.int i,.int j]:=by
 obtain⟨x,r,rfl,h1,h2⟩:=r;obtain⟨y,r,rfl,h3,h4⟩:=h2;cases (show r=[] from h4);rw[Ct]at h1;rw[Ct]at h3;rw[h1,h3]
def y1e:SemC K (λxs H Q=>∃i j,xs=[.int i,.int j]/\Q (.int (if j<i then j else i)) H) minC:=by
 intro vs ds d H G Q h s r q;unfold minC at h
 split at h
 ·rename_i i j
  cases h;exact⟨i,j,y1d r,q _ H G (.refl s) (by rw[Rp])⟩
 ·cases h
def nr2{α:Sort _}{a b:α}(h:a=b):a=b:=h
@[simp] theorem minC_ints(i j:Int):minC [.int i,.int j]=some (.int (if j<i then j else i)):=nr2 rfl
def y1f(i:Int)(j:Nat):shrI (.int i) (.int (j:Int))=some (.int (i/2^j)):=by
 simp[shrI,i2]
def popD(l:AR)(k:D):Option AR:=(intD k).bind λi=>if decide (0<=i)&&decide (i<l.length)&&decide (l.length<=cap6)then some (l.eraseIdx i.toNat)else none
def RpL.eraseIdx(r:RpL K G l xs)(k:Nat):RpL K G (l.eraseIdx k) (xs.eraseIdx k):=by
 rw[Ql,Ql];exact(r.take k).append (r.drop (k+1))
end
end
section
set_option maxRecDepth 100000
section
variable {prog:Program}{w:World}{A:Around}{E:AB}{s:Shared}
def y1g:typeLookup (.type "list") "keys"=pure none:=by rw[typeLookup_type,builtinLookup_eq_fast];kernel_rfl
theorem y1h(ho:s.heap.get? a=some o)(h1:o.cls=.type "list")(h2:o.dict=none)(h3:o.data=.seq its n)(hh:A.handled=none)(hQ:∀h' tk,(∀b ob,s.heap.get? b=some ob->h'.get? b=some ob)->Q none { s with heap:=h',toks:=tk }):
 wpAny (model prog w) A (getAttr? (.ref a) "keys") Q E s:=by
 obtain⟨c,dc,dat,sl⟩:=o;simp only at h1 h2 h3;subst h1 h2 h3;obtain⟨hp,g,d,tk,os⟩:=s
 have hT:∀tk',(⟨hp,g,d,tk',os⟩:Shared).TypeIs (.ref a) "list":=λ_=>⟨_,ho,rfl⟩
 have q1:=sub_AttributeError;have q2:=F.slot_list_getattribute.lookup;have q3:=F.slot_list_getattribute.bind (.ref a);have q4:=am_list_getattr_none;have q5:∀t,Meets (Builtin.«object.__getattribute__» ⟨[.ref a,.str "keys" t],[]⟩) _:=λt=>meets_getattribute_miss_list a its n sl "keys" t y1g (by decide);unfold getAttr? getAttrBy? getAttrBy
 repeat (any_goals (first
  | assumption
  | exact hT _
  | ((with_reducible show wpAny _ _ (call (.builtin "list.__getattribute__") _ _) _ _ _)
     refine call_meets F.slot_list_getattribute (hT _) am_entry_list_getattribute (F.args_list_getattribute_2 _ _) (q5 _) ⟨ho,hh,λh' tk' e new=>?_⟩)
  | wp_step))
 obtain⟨t',u',he⟩:=new.there;show wpAny _ _ (getattributeRaised _ _ _ _ _ _ _) _ _ _;unfold getattributeRaised
 repeat (any_goals (first
  | assumption
  | wp_step))
 exact hQ _ _ new.keeps
def PrAt(h:Heap)(u:Value)(p:Int×Value):Prop:=∃t tk o n,u=.ref t/\h.get? t=some o/\o.cls=.type "tuple"/\o.data=.seq #[.int p.1 tk,p.2] n
def y5a(h:Heap):AD->List (Int×Value)->Prop
 | [],[]=>True
 | u::us,p::ps=>PrAt h u p/\y5a h us ps
 | _,_=>False
def Yio(kvs:List (Key×Value)):List (Int×Value)->List (Key×Value)
 | []=>kvs
 | p::ps=>Yio (stored kvs (Sum.inl p.1) p.2) ps
theorem Yx9(kvs:List (Key×Value))(k:Key)(v:Value):(stored kvs k v).length<=kvs.length+1:=by
 unfold stored;grind
def Yip:entryFor table "dict.update.loop"=some Builtin.«dict.update.loop»:=entryFor_of_tree (by kernel_rfl)
theorem Ydg:plainId "dict.update.loop"=true:=by decide +kernel
def OldH(h0 h:Heap):Prop:=∀b o,h0.get? b=some o->h.get? b=some o
theorem OldH.but(hd:h0.get? d=none)(o:OldH h0 h)(e:Heap.SameBut d h h'):OldH h0 h':=λb ob q=>by
 rw[e.2 b λz=>by grind];exact o b ob q
def IsListIter.but(x:h.IsListIter it L i)(e:Heap.SameBut d h h')(hd:it≠d):h'.IsListIter it L i:=by
 obtain⟨o,ho,r⟩:=x;exact⟨o,by rw[e.2 it hd];exact ho,r⟩
theorem dul{items:AD}(hh:A.handled=none)(hd0:h0.get? d=none)(hi0:h0.get? it=none)(hdi:d≠it)(hL:h0.IsList L items.toArray):
 ∀(ps:List (Int×Value)) (i:Nat) (c:Int) (kvs:List (Key×Value)) (s:Shared),y5a h0 (items.drop i) ps->kvs.length+ps.length<=sizeLine->s.heap.IsListIter it L i->OldH h0 s.heap->s.heap.DictOf (Yah prog w) d kvs->
 (∀h' tk,OldH h0 h'->h'.DictOf (Yah prog w) d (Yio kvs ps)->R (.ok (.ret .none)) { s with heap:=h',toks:=tk })->
 codeAny (model prog w) A (.builtin "dict.update.loop" ⟨[.ref d,.ref it,.int c 0,.none],[]⟩) R s:=by
 intro ps
 induction ps with
 | nil=>
   intro i c kvs s hp hz hit ho hd hR;have hL':s.heap.IsList L items.toArray:=let ⟨o,e,r⟩:=hL;⟨o,ho _ _ e,r⟩
   have hx:items.toArray[i]?=none:=by
    cases hdr:items.drop i with
    | nil=>simpa using hdr
    | cons u us=>rw[hdr]at hp;exact hp.elim
   refine wz Yip ?_;rw[jf Ydg _];show wpAny _ A.in1 (pyNext (.ref it)>>=_) _ _ s;refine wa (wpAny_pyNext_list_end (A:=A.in1) hh hit hL' hx λh' hs=>?_);show wpAny _ A.in1 (Builtin.Dict.addKeywords d []>>=_) _ _ _;refine wa (wb (wb (hR h' s.toks (λb ob q=>hs b ob (λz=>by grind) (ho b ob q)) (hd.extBut hs hdi))))
 | cons p ps ih=>
   intro i c kvs s hp hz hit ho hd hR;have hL':s.heap.IsList L items.toArray:=let ⟨o,e,r⟩:=hL;⟨o,ho _ _ e,r⟩
   cases hdr:items.drop i with
   | nil=>rw[hdr]at hp;exact hp.elim
   | cons u us=>
     rw[hdr]at hp;obtain⟨⟨t,tk,ob,n,rfl,ht,hc,hdat⟩,hp⟩:=hp
     have hx:items.toArray[i]?=some (.ref t):=by
      have:=congrArg List.head? hdr;simpa [List.head?_drop]using this
     have hus:us=items.drop (i+1):=by
      have:=congrArg List.tail hdr;simpa using this.symm
     refine wz Yip ?_;rw[jf Ydg _];show wpAny _ A.in1 (pyNext (.ref it)>>=_) _ _ s;refine wa (wpAny_pyNext_list_item hit hL' hx λh1 hi1 hs1=>?_);have ho1:=OldH.but hi0 ho hs1;have hd1:=hd.sameBut hs1 hdi;have ht1:=ho1 _ _ ht
     have hT:(Shared.TypeIs { s with heap:=h1 } (.ref t) "tuple"):=⟨ob,ht1,hc⟩
     show wpAny _ A.in1 (holding [Value.ref t] _>>=_) _ _ _;refine wa (wc (wa (wpAny_tryCatch ?_)));unfold Builtin.Dict.pairItems;refine wa (wpAny_typeOf hT ?_);rw[if_pos (by decide)];refine wa (wpAny_seqItems ht1 hdat (wb ?_));show wpAny _ A.in1 (holding [Value.int p.1 tk,p.2] (dictSet d (.int p.1 tk) p.2)) _ _ _;refine wc (wpAny_dictSet_pairs (s:={ s with heap:=h1 }) (knd:=Yah prog w) (k:=Sum.inl p.1) (Yt0 (k:=.inl p.1) (u:=.int p.1 tk) ⟨tk,rfl⟩) hd1 (λh2 hd2 hs2=>?_) (by grind));refine wb ⟨je Ydg _,?_⟩;refine ih (i+1) (c+1) _ _ (by grind) ?_ (IsListIter.but hi1 hs2 (Ne.symm hdi)) (OldH.but hd0 ho1 hs2) hd2 λh' tk' o' d'=>hR h' tk' o' d';have:=Yx9 kvs (Sum.inl p.1) p.2;grind
theorem Yl8(hh:A.handled=none)(hL:PlainL s.heap L its.toArray)(hp:y5a s.heap its ps)(hz:ps.length<=sizeLine)(hQ:∀h' tk,OldH s.heap h'->h'.DictOf (Yah prog w) (~~~s) (Yio [] ps)->Q (.ref (~~~s)) { s with heap:=h',toks:=tk }):
 wpAny (model prog w) A (call (.type "dict") [.ref L]) Q E s:=by
 generalize hO:({ cls:=.type "dict",data:=.dict #[] }:Obj)=dO;refine callType_codes (Q₁:=λobj s₁=>obj=.ref (~~~s)/\s₁={ s with heap:=s.heap.push dO }) F.kt_called_dict (F.kt_typeCall_dict_1 _) F.entry_dict_init (kt_code_dict_new _ ⟨rfl,by rw[hO]⟩) ?_;rintro obj s₁ ⟨rfl,rfl⟩
 have hnew:(s.heap.push dO).DictOf (Yah prog w) (~~~s) []:=by rw[<-hO];exact Heap.DictOf.new s.heap
 refine⟨hnew.typeIs,F.args_dict_init_2 _ _,?_⟩;unfold Builtin.«dict.__init__»;refine wa ?_;unfold Builtin.Dict.selfAndRest;refine wa (wpAny_notOrdered_dict hnew.typeIs ?_);show wpAny _ _ (pure (~~~s,[Value.ref L])) _ _ _;refine wb ?_;show wpAny _ _ (Builtin.Dict.updateFrom "dict.__init__" (~~~s) (.ref L) [] .none) _ _ _;unfold Builtin.Dict.updateFrom;obtain⟨o,n,e,h1,h2,h3⟩:=hL;have e':(s.heap.push dO).get? L=some o:=qe _ e
 have hT:Shared.TypeIs { s with heap:=s.heap.push dO } (.ref L) "list":=⟨o,e',h1⟩
 refine wa (wpAny_typeOf hT ?_);rw[if_pos (by decide)];refine wa (y1h (A:=A.in1.in1) (s:={ s with heap:=s.heap.push dO }) e' h1 h2 h3 (by simp[hh]) λh' tk keep=>?_);rw[if_pos (by rfl)];refine wa (wpAny_rule (wa ?_))
 have hL':h'.IsList L its.toArray:=⟨o,keep _ _ e',h1,n,h3⟩
 refine wpAny_pyIter_list (s:={ s with heap:=h',toks:=tk }) hL' ?_;have old1:OldH s.heap h':=λb ob q=>keep _ _ (qe _ q);obtain⟨od,es,ep,hod,hrest⟩:=id hnew;have hd':=keep _ _ hod;have hlt:(~~~s)<h'.objs.size:=ql hd';generalize hI:({ cls:=.type "list_iterator",data:=.fields #[.ref L,.int 0 0] }:Obj)=iO;refine wb ⟨je Ydg _,?_⟩;refine dul (h0:=s.heap) (by simp[hh]) (Heap.get?_none_of_le (qu _)) (Heap.get?_none_of_le (Nat.le_of_lt hlt)) (qm hlt) ⟨o,e,h1,n,h3⟩ ps 0 0 [] _ (by grind) (by grind) ?_ (λb ob q=>qe _ (old1 b ob q)) ⟨od,es,ep,qe _ hd',hrest⟩ λh2 tk2 o2 d2=>?_
 ·exact⟨iO,qp _ (by rw[<-hI];rfl),by rw[<-hI],by grind⟩
 grind
end
def Ywj(H:Hp):AQ->List (Int×V)->Prop
 | [],[]=>True
 | x::xs,q::qs=>(∃b,x=.ref b/\H b=some (.tup [.int q.1,q.2]))/\Ywj H xs qs
 | _,_=>False
def Yfe(kvs:List (Key×V)):List (Int×V)->List (Key×V)
 | []=>kvs
 | q::qs=>Yfe (putK kvs (Sum.inl q.1) q.2) qs
def QP:List (Int×V)->List (Int×Value)->Prop
 | [],[]=>True
 | q::qs,p::ps=>(q.1=p.1/\RelV q.2 p.2)/\QP qs ps
 | _,_=>False
theorem QP.length:∀{qs:List (Int×V)}{ps:List (Int×Value)},QP qs ps->ps.length=qs.length
 | [],[],_=>rfl
 | q::qs,p::ps,h=>by rw[qr,qr,QP.length h.2]
 | [],_::_,h=>h.elim
 | _::_,[],h=>h.elim
theorem Ywk:∀{qs:List (Int×V)}{ps:List (Int×Value)}{kvs:List (Key×V)}{vs:List (Key×Value)},QP qs ps->KV kvs vs->KV (Yfe kvs qs) (Yio vs ps)
 | [],[],_,_,_,r=>r
 | q::qs,p::ps,kvs,vs,h,r=>by
   obtain⟨⟨h1,h2⟩,h⟩:=h;rw[Yfe,Yio,<-h1];exact Ywk h (r.put (Sum.inl q.1) h2)
 | [],_::_,_,_,h,_=>h.elim
 | _::_,[],_,_,h,_=>h.elim
theorem Yjv:∀(qs:List (Int×V)) (kvs:List (Key×V)),(Yfe kvs qs).length<=kvs.length+qs.length
 | [],kvs=>by rw[Yfe];simp
 | q::qs,kvs=>by
   rw[Yfe,qr];have h1:=Yjv qs (putK kvs (Sum.inl q.1) q.2);have h2:=Yhu kvs (Sum.inl q.1) q.2;lia
section
variable {X:Cx}
theorem Yry{σ:L2.St}(I:Inv X pins σ H s):∀{ys:AQ}{its:AD}{qs:List (Int×V)},Ywj H ys qs->Vals ys its->∃ps,y5a s.heap its ps/\QP qs ps
 | [],its,[],_,r=>by
   cases r;exact⟨[],trivial,trivial⟩
 | y::ys,its,q::qs,h,r=>by
   obtain⟨⟨b,rfl,hb⟩,h⟩:=h
   cases r with
   | cons r1 r2=>
     cases r1;obtain⟨ps,h1,h2⟩:=Yry I h r2;obtain⟨its2,rv,⟨o,e,hc,n,hd⟩,_⟩:=I.tuple (xs:=[.int q.1,q.2]) (.of hb)
     cases rv with
     | cons ra rb=>
       cases rb with
       | cons rc rd=>
         cases rd;obtain⟨t,rfl⟩:=ra;exact⟨(q.1,_)::ps,⟨⟨b,t,o,n,rfl,e,hc,hd⟩,h1⟩,⟨⟨rfl,rc⟩,h2⟩⟩
 | [],_,_::_,h,_=>h.elim
 | _::_,_,[],h,_=>h.elim
def Yadp(K:W.Frag):AQ->Hp->VK->Prop:=λxs H Q=>∃a ys qs,xs=[.ref a]/\SqL K H a ys/\Ywj H ys qs/\qs.length<cap6/\∀p,H p=none->Q (.ref p) (upd H p (.dK (Yfe [] qs)))
theorem Yoh(hc:X.calm=true):Ydt X (.type "dict") (Yadp X.K):=by
 intro pins s σ H xs us Q I r h;obtain⟨a,ys,qs,rfl,hq,hv,hl,q⟩:=h;obtain⟨u,rfl,rx⟩:=Yhc r;cases rx;have hh:X.A.handled=none:=I.ok.hd hc;obtain⟨its,rv,pl,hz⟩:=I.list hq;obtain⟨ps,h1,h2⟩:=Yry I hv rv;have hcap:cap6=1000000:=rfl
 have hps:ps.length<=sizeLine:=by rw[h2.length,jj];lia
 refine Yl8 hh pl h1 hps λh' tk old dd=>?_;refine⟨.ref (~~~s),_,I.laid (t':=tk) (λb o e=>old b o e) (qu _) (Yzt ?_ (beq_eq_false_iff_ne.mpr (Ne.symm (qm I.big))) (Ywk h2 .nil) dd),rfl,q _ (I.hok.fresh (qu _))⟩;have:=Yjv qs [];rw[jj];grind
end
def Ydq:AR->Option (List (Int×D))
 | []=>some []
 | .tup [.int i,v]::l=>(Ydq l).map ((i,v)::·)
 | _=>none
def pairsOf:D->Option (List (Int×D))
 | .lst l=>Ydq l
 | _=>none
def putG{α:Type}(ns:AH)(vs:List α)(i:Int)(y:α):List Int×List α:=if i∈ns then (ns,setK ns vs i y)else (ns++[i],vs++[y])
def dctG{α:Type}(ns:AH)(vs:List α):List (Int×α)->List Int×List α
 | []=>(ns,vs)
 | p::ps=>dctG (putG ns vs p.1 p.2).1 (putG ns vs p.1 p.2).2 ps
theorem Yoi(h:ns.Nodup):(putG ns vs i y).1.Nodup:=by
 unfold putG;grind
def Ypp(h:ns.length=vs.length):(putG ns vs i y).1.length=(putG ns vs i y).2.length:=by
 unfold putG
 split
 ·rw[Yec];exact h
 ·simp[h]
variable {K:W.Frag}
def DQ(K:W.Frag)(G:Hp):List (Int×D)->List (Int×V)->Prop
 | [],[]=>True
 | d::ds,q::qs=>(d.1=q.1/\Rp K G d.2 q.2)/\DQ K G ds qs
 | _,_=>False
theorem DQ.length:∀{ds:List (Int×D)}{qs:List (Int×V)},DQ K G ds qs->qs.length=ds.length
 | [],[],_=>rfl
 | q::qs,p::ps,h=>by rw[qr,qr,DQ.length h.2]
 | [],_::_,h=>h.elim
 | _::_,[],h=>h.elim
theorem Yl9(s:Same G H):∀{l:AR}{ps:List (Int×D)}{xs:AQ},Ydq l=some ps->RpL K G l xs->∃qs,Ywj H xs qs/\DQ K G ps qs
 | [],ps,xs,e,r=>by
   rw[Ydq]at e;cases e;rw[RpL]at r;subst r;exact⟨[],trivial,trivial⟩
 | d::l,ps,xs,e,r=>by
   unfold Ydq at e
   split at e
   case h_1 he=>cases he
   case h_2 i v l' he=>
    injection he with he1 he2;subst he1 he2;obtain⟨ps',h1,rfl⟩:=qc e;rw[RpL]at r;obtain⟨x,xr,rfl,rx,rr⟩:=r;obtain⟨qs,h2,h3⟩:=Yl9 s h1 rr;rw[Rp]at rx;obtain⟨b,ys,rfl,hb,ry⟩:=rx;rw[RpL]at ry;obtain⟨y1,yr,rfl,r1,ry⟩:=ry;rw[RpL]at ry;obtain⟨y2,yr,rfl,r2,ry⟩:=ry;rw[RpL]at ry;subst ry;rw[Rp]at r1;subst r1;exact⟨(i,y2)::qs,⟨⟨b,rfl,s _ _ hb⟩,h2⟩,⟨⟨rfl,r2⟩,h3⟩⟩
   grind
def Yiq:∀{ps:List (Int×D)}{qs:List (Int×V)}{ns:AH}{ds:AR}{vxs:AQ},DQ K G ps qs->ns.Nodup->ns.length=vxs.length->RpL K G ds vxs->
 ∃vx',Yfe (zK ns vxs) qs=zK (dctG ns ds ps).1 vx'/\(dctG ns ds ps).1.Nodup/\(dctG ns ds ps).1.length=vx'.length/\RpL K G (dctG ns ds ps).2 vx'
 | [],[],ns,ds,vxs,_,h1,h2,h3=>⟨vxs,rfl,h1,h2,h3⟩
 | d::ps,q::qs,ns,ds,vxs,h,h1,h2,h3=>by
   obtain⟨⟨e,r⟩,h⟩:=h;rw[Yfe,y69 h2 h1,dctG]
   have e1:(putI ns vxs q.1 q.2).1=(putG ns ds d.1 d.2).1:=by
    unfold putI putG;rw[e]
    split<;>rfl
   rw[e1];refine Yiq h (Yoi h1) ?_ ?_
   ·rw[<-e1]
    exact Ypp (vs:=vxs) h2
   ·unfold putI putG
    rw[e]
    split
    ·exact Ypi q.1 r h3
    ·exact RpL.snoc r h3
 | [],_::_,_,_,_,h,_,_,_=>h.elim
 | _::_,[],_,_,_,h,_,_,_=>h.elim
section
variable {X:Cx}{e:Expr}{f:AX}{pos:Pos}{prog:Program}{w:World}{A:Around}{E:AB}{s:Shared}
def sDct(i:Nat)(f:AX):AU:=λρ=>((f ρ).bind pairsOf).bind λps=>if ps.length<cap6 then some (.nx (ρ.set i (some (.od false ((dctG [] [] ps).1.map D.int) (dctG [] [] ps).2))))else none
@[simp] theorem y9k(i:Nat):sDct i f ρ=((f ρ).bind pairsOf).bind λps=>if ps.length<cap6 then some (.nx (ρ.set i (some (.od false ((dctG [] [] ps).1.map D.int) (dctG [] [] ps).2))))else none:=nr1 rfl
@[simp] theorem pairsOf_lst(l:AR):pairsOf (.lst l)=Ydq l:=nr1 rfl
def Yrz:Int:=4238894112
theorem y1i(h:Q Yrz { s with toks:=s.toks+1 }):wpAny (model prog w) A (pyHash .none) Q E s:=by
 have hT:s.TypeIs .none "NoneType":=rfl;unfold pyHash pyHashByItsType;have hv:[Value.none].any Value.onHeap=false:=rfl;refine wa ?_;rw[cRoomFor,if_neg (by grind)];refine wb (wa (wpAny_specialOf hT F.slot_NoneType_hash.lookup ?_));show wpAny _ _ (if (some (Value.builtin "NoneType.__hash__")==some Value.none)=true then _ else _) Q E s;rw[if_neg (by decide)];refine wa (wpAny_specialOf hT F.slot_NoneType_hash.lookup ?_);show wpAny _ _ (callSpecialIfBoundUnlessNone? .none "__hash__" _>>=_) Q E s
 refine wa (wpAny_callSpecialIfBoundUnlessNone?_slot hT F.slot_NoneType_hash
  (we F.slot_NoneType_hash hT F.entry_NoneType_hash
   (show wpAny _ _ (do ret (<-mkInt Yrz)) _ _ s from wpAny_ret_mkInt ?_) (F.args_NoneType_hash_1 _)))
 show wpAny _ _ (if (decide (-(2:Int)^63<=Yrz)&&decide (Yrz<2^63))=true then _ else _) Q E _;rw[if_pos (by decide)];exact wb h
theorem y5b(ho:s.heap.get? d=some o)(hd:o.data=.dict es ep)(hn:∀e∈es,e.hash≠Yrz)(h:Q none { s with toks:=s.toks+1 }):
 wpAny (model prog w) A (dictGet d .none) Q E s:=by
 have hpl:placesWithHash es.size (λi=>es[i]?.map (·.hash)) Yrz=[]:=by
  unfold placesWithHash
  simp_all
 unfold dictGet;refine wc (wa (y1i (wa ?_)));unfold dictFind;refine wc (wa (wpAny_dictEntries (s:={ s with toks:=s.toks+1 }) ho hd ?_));dsimp only;rw[hpl];show wpAny _ _ (if ([Value.none].all carriedByValue)=true then _ else _) _ _ _;rw[if_pos (by rfl)];exact wb (wb h)
def Yoj(ns:AH):Bool:=ns.all λn=>decide (-1000000000<n/\n<1000000000)
theorem y1j:∀{es:List DictEntry},Pairs (Yah prog w) es kvs->∀e∈es,∃kv∈kvs,(Yah prog w).is kv.1 e.key=true:=by
 intro es h
 induction h with
 | nil=>grind
 | cons h1 _ _ ih=>
   grind
theorem y9l{ns:AH}(hm:s.heap.DictOf (Yah prog w) d kvs)(hk:kvs.map (·.1)=ns.map Sum.inl)(hs:Yoj ns=true)(h:Q none { s with toks:=s.toks+1 }):
 wpAny (model prog w) A (dictGet d .none) Q E s:=by
 obtain⟨o,es,ep,ho,_,hd,hk1,hp,_⟩:=hm;refine y5b ho hd (λe he=>?_) h;obtain⟨k,k1,k2⟩:=hk1 e he;obtain⟨kv,k3,k4⟩:=y1j hp e (by grind);have ek:k=kv.1:=(Yah prog w).inj _ _ _ k1 k4;have hmem:kv.1∈kvs.map (·.1):=List.mem_map_of_mem k3;rw[hk]at hmem;obtain⟨n,hn,en⟩:=qw hmem;have hsm:=List.all_eq_true.mp hs n hn;simp only[wm]at hsm;rw[k2,ek,<-en];show hashInt n≠Yrz;intro z
 have:hashInt n=n\/hashInt n=-2:=by
  have e0:((2^61-1:Nat):Int)=2305843009213693951:=by decide
  have e:(n.natAbs:Int)%((2^61-1:Nat):Int)=(n.natAbs:Int):=Int.emod_eq_of_lt (by lia) (by rw[e0];lia)
  have e2:(if n<0 then -(n.natAbs:Int)else (n.natAbs:Int))=n:=by split<;>lia
  have e3:rawHash n=if (n==-1)=true then -2 else n:=by
   unfold rawHash;grind
  unfold hashInt;grind
 unfold Yrz at z;lia
theorem Ywl{ns:AH}(hd:(d==sysModules)=false)(hm:s.heap.DictOf (Yah prog w) d kvs)(hk:kvs.map (·.1)=ns.map Sum.inl)(hs:Yoj ns=true)(h:Q false { s with toks:=s.toks+1 }):wpAny (model prog w) A (contains (.ref d) .none) Q E s:=by
 have hT:=hm.typeIs;unfold contains;refine wc (wa (wpAny_specialOf hT slot_dict_contains.lookup ?_));show wpAny _ _ (if (some (Value.builtin "dict.__contains__")==some Value.none)=true then _ else _) _ _ _;rw[if_neg (by decide)];refine wa (wpAny_callSpecialUnlessNone?_slot (name:=Str.ofString "__contains__") hT slot_dict_contains (we slot_dict_contains hT entry_dict_contains ?_ (args_dict_contains _ _)));show wpAny _ _ (dictGet d .none>>=_) _ _ s;refine wa (y9l hm hk hs ?_);show wpAny _ _ (Builtin.Dict.pendingKey? d .none>>=_) _ _ _;exact wa (wpAny_pendingKey_other hd (wb ⟨_,rfl,wpAny_truthy_bool h⟩))
end
def hasN(neg:Bool):D->D->Option Bool
 | .int i,.dct false ks vs=>hasI neg (.int i) (.dct false ks vs)
 | .non,.dct false ks _=>(intsD ks).bind λns=>if Yoj ns=true then some (false != neg)else none
 | _,_=>none
def rInN(neg:Bool):R2:=λx y H Q=>rInI neg x y H Q\/(x=.non/\∃a kvs ns,y=.ref a/\H a=some (.dK kvs)/\kvs.map (·.1)=ns.map Sum.inl/\Yoj ns=true/\Q (.bl (false != neg)) H)
def Ywm:Yhe K (rInN neg) (hasN neg):=by
 intro x y dx dy b H G Q h s rx ry q;unfold hasN at h
 split at h
 ·exact .inl (Ypl x y _ _ b H G Q h s rx ry q)
 ·rename_i ks vs
  obtain⟨ns,h1,h⟩:=qa h
  split at h
  case isFalse=>cases h
  rename_i hsm;injection h with h;subst h;rw[Ct]at rx;rw[Ct]at ry;subst rx;obtain⟨a,kxs,vxs,rfl,dc,r1,r2⟩:=ry;obtain⟨e1,e2,e3,e4⟩:=Yni h1 dc r1;exact .inr ⟨rfl,a,_,ns,rfl,e1,Ygf ns vxs e3,hsm,q⟩
 ·cases h
section
variable {X:Cx}
theorem y1k{vs:List (Key×Value)}(rel:KV kvs vs):vs.map (·.1)=kvs.map (·.1):=by
 induction rel with
 | nil=>rfl
 | cons r _ ih=>grind
def Yadr(hu:X.A.units+64<cLine):OpR X (compareOp .In) (rInN false):=by
 intro pins s σ H x y v u Q I rx ry h;rcases h with h|⟨rfl,a,kvs,ns,rfl,ha,hk,hs,q⟩
 ·exact y7a hu pins s σ H x y v u Q I rx ry h
 ·cases rx
  cases ry;obtain⟨z,hd,vs,rel,dd⟩:=y74 I.hok ha;show wpAny _ _ (do return Value.bool (<-contains (.ref a) .none)) _ _ s;refine wa (Ywl hd dd ((y1k rel).trans hk) hs (wb ?_));exact⟨.bl (false != false),H,I.tok _,rfl,q⟩
def y9m(hu:X.A.units+64<cLine):OpR X (compareOp .NotIn) (rInN true):=by
 intro pins s σ H x y v u Q I rx ry h;rcases h with h|⟨rfl,a,kvs,ns,rfl,ha,hk,hs,q⟩
 ·exact Yrw hu pins s σ H x y v u Q I rx ry h
 ·cases rx
  cases ry;obtain⟨z,hd,vs,rel,dd⟩:=y74 I.hok ha;show wpAny _ _ (do return Value.bool (!(<-contains (.ref a) .none))) _ _ s;refine wa (Ywl hd dd ((y1k rel).trans hk) hs (wb ?_));exact⟨.bl (false != true),H,I.tok _,rfl,q⟩
variable {a b e f':Expr}{fa fb f fz:AX}{pos:Pos}
@[simp] theorem Yk7(neg:Bool)(ks vs:AR)(i:Int):hasN neg (.int i) (.dct false ks vs)=(intsD ks).map λns=>decide (i∈ns)!=neg:=nr1 rfl
@[simp] theorem y5c(neg:Bool)(ks vs:AR):hasN neg .non (.dct false ks vs)=(intsD ks).bind λns=>if Yoj ns=true then some (false != neg)else none:=nr1 rfl
end
end
section
end
section
section
variable {prog:Program}{w:World}{A:Around}{E:AB}{s:Shared}
theorem Yuk{lo hi:Option Int}(ht:IsTup s.heap t items)(hs:s.heap.IsSliceOf sl vl vu .none)(pl:IsPart vl lo)(pu:IsPart vu hi)(h0:HT.sIx items.size 0 lo=0)(h1:HT.sIx items.size items.size hi=items.size)(h:Q (.ref t) s):wpAny (model prog w) A (getItem (.ref t) (.ref sl)) Q E s:=by
 obtain⟨os,hos,hcs,hds⟩:=id hs
 have hTs:s.TypeIs (.ref sl) "slice":=⟨os,hos,hcs⟩
 unfold getItem
 try with_reducible refine wc ?_
 first|refine wa (wb ?_)|skip
 refine wa (wpAny_sequenceKey ht.typeIs (by decide) ?_);refine wa (wpAny_callSpecial?_slot (name:=Str.ofString "__getitem__") ht.typeIs PyProof.Rows.slot_tuple_getitem (we PyProof.Rows.slot_tuple_getitem ht.typeIs entry_tuple_getitem ?_ (args_tuple_getitem _ _)));show wpAny _ _ (Builtin.Tuple.tupleItemsOf (.ref t)>>=_) _ _ s;refine wa (tupleItemsOf_ ht ?_);refine wa (wpAny_typeOf hTs ?_);rw[if_pos (by decide)];refine wa (HT.sliceApplied_gen hs pl pu ?_);show wpAny _ _ (if (((HT.sIx items.size 0 lo:Nat):Int)==0&&(1:Int)==1&&(HT.sIx items.size items.size hi-HT.sIx items.size 0 lo)==items.size)=true then _ else _) _ _ s;rw[if_pos (by rw[h0,h1];simp)];refine wa ?_;unfold Builtin.Tuple.tupleIsExact;refine wa (wpAny_typeOf ht.typeIs (wb ?_));rw[if_pos (by decide)];exact wa (wpAny_rule (wb ⟨_,rfl,wb h⟩))
end
section
variable {X:Cx}
def rSlW(K:W.Frag):V->Option Int->Option Int->Hp->VK->Prop:=λx lo hi H Q=>∃a xs,x=.ref a/\SqT K H a xs/\HT.sIx xs.length 0 lo=0/\HT.sIx xs.length xs.length hi=xs.length/\Q (.ref a) H
theorem y5d:SlR X (rSlW X.K):=by
 intro pins s σ H x v vl vu lo hi sl Q I rx hs pl pu h;obtain⟨a,xs,rfl,hx,h0,h1,q⟩:=h;cases rx;obtain⟨its,r,ht,hz⟩:=I.tuple hx
 have hlen:its.toArray.size=xs.length:=by rw[qk];exact r.length.symm
 refine⟨"tuple",_,PyProof.Rows.slot_tuple_getitem.lookup,ht.typeIs,Yuk ht hs pl pu (by grind) (by grind) ?_⟩;exact⟨.ref a,H,I,rfl,q⟩
def cutC(i j:Option Int):D->Option D
 | .lst l=>some (.lst (cutD l i j))
 | .tup l=>some (.tup (cutD l i j))
 | _=>none
def slD(fa:AX)(lo hi:Option AX):AX:=λρ=>(fa ρ).bind λd=>(optI lo ρ).bind λi=>(optI hi ρ).bind λj=>cutC i j d
variable {a e:Expr}{fa f:AX}{pos:Pos}
@[simp] theorem ap_slD(lo hi:Option AX):slD fa lo hi ρ=(fa ρ).bind λd=>(optI lo ρ).bind λi=>(optI hi ρ).bind λj=>cutC i j d:=nr1 rfl
@[simp] theorem cutC_tup(i j:Option Int)(l:AR):cutC i j (.tup l)=some (.tup (cutD l i j)):=nr1 rfl
end
end
section
set_option maxRecDepth 100000
section
variable {prog:Program}{w:World}{A:Around}{E:AB}{s:Shared}
def Yh3:isSubtype (.type "set") (.type "set")=pure true:=by rw[isSubtype_type];kernel_rfl
theorem y9o:∀{acc:AD},acc.length=vals.length->(∀(j:Nat) v,acc[j]?=some v->PInt vals j v)->IntsAre acc vals:=by
 induction vals with
 | nil=>
   intro acc h _;rw[List.length_eq_zero_iff.mp h];exact .nil
 | cons k r ih=>
   intro acc h hp
   match acc,h with
   | v::acc,h=>
     obtain⟨k',t,e1,e2⟩:=hp 0 v rfl;simp at e1;subst e1;subst e2;refine .cons _ t (ih (by simpa using h) λj v hj=>?_);obtain⟨k',t,e1,e2⟩:=hp (j+1) v (by grind);exact⟨k',t,by grind,e2⟩
theorem Yul(hh:A.handled=none)(hS:SetI prog w s.heap a ns)(hQ:∀(h':Heap) (d':Drawn) (tk:Nat) (acc:AD) (vals:AH),~~~s<=h'.objs.size->(∀b o,s.heap.get? b=some o->h'.get? b=some o)->IntsAre acc vals->vals.Perm ns->Q acc { s with heap:=h',drawn:=d',toks:=tk }):
 wpAny (model prog w) A (collect (.ref a)) Q E s:=by
 obtain⟨o,es,ep,t,ho,hex,hd,_⟩:=id hS;have hlt:a< ~~~s:=ql ho;have hlen:=hS.len;unfold collect;refine wa (wpAny_runValue (wz F.entry_proto_collect ?_));rw[jf F.plain_proto_collect _];show wpAny _ A.in1 (newList []>>=λl=>again (.builtin "list.__iadd__" ⟨[l,.ref a],[]⟩)) _ _ s;refine wa (wg ?_);refine wb ⟨je F.plain_list_iadd _,wz F.entry_list_iadd ?_⟩;rw[jf F.plain_list_iadd _];generalize hH:s.heap.push { cls:=.type "list",data:=.seq ([]:AD).toArray }=H
 have hHs:H.objs.size= ~~~s+1:=by rw[<-hH,ww]
 have keepH:∀b o,s.heap.get? b=some o->H.get? b=some o:=λb o e=>by rw[<-hH];exact qe _ e
 have hL:H.get? (~~~s)=some { cls:=.type "list",data:=.seq ([]:AD).toArray }:=by rw[<-hH];exact qp _ rfl
 have hoH:=keepH a o ho
 have hT:Shared.TypeIs { s with heap:=H } (.ref a) "set":=⟨o,hoH,hex.1⟩
 have hSI:(~~~s)≠a:=λz=>by grind
 have h1:Builtin.List.listSameRef (.ref (~~~s)) (.ref a)=false:=by simp[Builtin.List.listSameRef,hSI]
 show wpAny _ A.in1 (Builtin.List.listExtendWith (.ref (~~~s)) (.ref a) (.ref (~~~s))) _ _ _;unfold Builtin.List.listExtendWith;refine wa (wpAny_typeOf hT ?_)
 have h2:(Value.type "set"==Value.type "list")=false:=by decide
 have h3:(Value.type "set"==Value.type "tuple")=false:=by decide
 simp only[h1,h2,h3,Bool.or_false,Bool.false_eq_true,if_false];refine wa (y4m (s:={ s with heap:=H }) (hS.at λo e=>keepH a o e) λh' d' I fp vals St keep hI hIf hfp hp hW hst hty=>?_);have ho':=keep a o hoH
 have hT':Shared.TypeIs { s with heap:=h',drawn:=d' } (.ref a) "set":=⟨o,ho',hex.1⟩
 refine wa (wc ?_);unfold Builtin.List.listLengthHint;refine wa (wpAny_specialOf hT' F.slot_set_len.lookup ?_)
 (generalize hid:("set.__len__":String)=id0;(fail_if_success (clear hid id0));wp_delta;rw[show splitId id0=some ("set","__len__") from by subst hid;decide +kernel];subst hid)
 refine wa (wpAny_isInstance (b:=true) hT' Yh3 ?_);show wpAny _ A.in1 (typeOf (Value.ref a)>>=_) _ _ _;refine wa (wpAny_typeOf hT' ?_);refine wb ?_;rw[if_pos (by decide)];refine wa (wpAny_rule ?_)
 have hSf:(~~~s)∉fp:=λhm=>by
  grind
 have hS₁:h'.get? (~~~s)=some { cls:=.type "list",data:=.seq ([]:AD).toArray }:=keep _ _ hL;refine wa ?_;show wpAny _ A.in1 (updateSeq (~~~s) (·.push .none)>>=λ_=>updateSeq (~~~s) (·.pop)) _ _ _;refine wa (wpAny_updateSeq hS₁ rfl ?_);have hS₂:=wy (Obj.mapSeq (·.push Value.none)) hS₁ rfl;refine wpAny_updateSeq hS₂ rfl ?_;have hS₃:=wy (Obj.mapSeq (·.pop)) hS₂ rfl
 have oth:∀b o,b≠(~~~s)->h'.get? b=some o->
  ((h'.update (~~~s) (Obj.mapSeq (·.push Value.none))).update (~~~s) (Obj.mapSeq (·.pop))).get? b=some o:=
  λb o hb e=>(Heap.get?_update_other _ _ (Ne.symm hb)).trans ((Heap.get?_update_other _ _ (Ne.symm hb)).trans e)
 have W:=(hW A.in1 hh).toS
 refine wb ⟨je F.plain_extend_loop _,codeAny_extend_loopS W (fits_of_scanBound hlen) _ hSf _ ns.length 0 _ _ _ rfl (jb _)
  (W.frame 0 ({ s with heap:=h',drawn:=d' }:Shared) _ s.toks hst (qu _) λb hb o e=>oth b o (λh=>hSf (h ▸ hb)) e) hS₃ (ItemsOf.nil _) λs' acc' c' hm hS' hacc=>?_⟩
 show wpAny _ A (load (~~~s)>>=_) _ _ s';refine wa (wpAny_load hS' ?_);have eg:s'.gens=s.gens:=hm.gens;have ed:s'.drawn=d':=hm.drawn;have eo:s'.os=s.os:=hm.os
 have es':s'={ s with heap:=s'.heap,drawn:=d',toks:=s'.toks }:=by
  obtain⟨a1,a2,a3,a4,a5⟩:=s';grind
 rw[es'];refine wb (hQ s'.heap d' s'.toks acc'.toList vals (Nat.le_of_lt (ql hS')) (λb ob e=>?_) (y9o (by rw[qj,hacc.1,hp.length_eq]) λj v hj=>hacc.2 j v (by grind)) hp);have hb:b< ~~~s:=ql e;refine hm.heap b ob (λhm'=>?_) (oth b ob (qm hb) (keep b ob (keepH b ob e)));grind
theorem Yya(hh:A.handled=none)(hS:SetI prog w s.heap a ns)(h64:ns.length<64)(hQ:∀(h':Heap) (d':Drawn) (tk e:Nat) (p:Addr) (out:Array Value) (ns':AH),(∀b o,s.heap.get? b=some o->h'.get? b=some o)->(~~~s)<=p->h'.get? p=some (seqObj "list" out e)->IntsAre out.toList ns'->ns'.Perm ns->ns'.Pairwise (·<=·)->
  Q (.ref p) { s with heap:=h',drawn:=d',toks:=tk }):wpAny (model prog w) A (call (.builtin "sorted") [.ref a]) Q E s:=by
 refine Calls.call_function_entry kind_sorted plain_sorted entry_sorted (args_sorted1 _) ?_;unfold Builtin.«sorted»;refine wa (m:=checkCount "sorted" 1 1 _) (wb ?_);refine wa (Yul (A:=A.in1) hh hS λh' d' tk acc vals hle keep hI hp=>?_);have hl:acc.length=vals.length:=IntsAre.length hI
 have h64':acc.length<64:=by rw[hl,hp.length_eq];exact h64
 refine wa (wpAny_newList ?_ (by rw[jj];lia));have hoL:(h'.push (seqObj "list" acc.toArray 0)).get? h'.objs.size=some (seqObj "list" acc.toArray 0):=qp _ rfl;show wpAny _ _ _ _ _ { s with heap:=h'.push (seqObj "list" acc.toArray 0),drawn:=d',toks:=tk };refine wa (wc (we slot_list_sort ⟨_,hoL,rfl⟩ entry_list_sort (list_sort_tree (s:={ s with heap:=h'.push (seqObj "list" acc.toArray 0),drawn:=d',toks:=tk }) hoL hI h64' λout ns' a1 a2 a3=>⟨_,rfl,?_⟩) (args_list_sort _)));obtain⟨e,he⟩:=sortedHeap_at (n:=0) (out:=out) hoL;refine wb ⟨_,rfl,hQ _ d' tk e h'.objs.size out ns' (λb o eb=>?_) hle he a1 (a2.trans hp) a3⟩;have hb:=ql (keep b o eb);rw[sortedHeap_old (qm hb) (by rw[size_push'];grind)];exact qe _ (keep b o eb)
end
def setO(P:Program)(w:World)(p:Addr)(ms:AH):HO:=.ext λh=>SetI P w h p ms
theorem Yum(x:SetI P w h p ms):ObjOk P w H h p (setO P w p ms):=by
 refine⟨x,?_,λh1 h2 e k=>e.at k⟩;obtain⟨o,_,_,_,ho,_⟩:=x;grind
section
variable {X:Cx}{pins:AC}{σ:L2.St}{H:Hp}{s:Shared}{e:Expr}{f:AX}{p p2 pos pos2:Pos}
def _root_.L2.Inv.dr(I:Inv X pins σ H s)(d':Drawn):Inv X pins σ H { s with drawn:=d' }:=⟨I.ok,I.os,I.bare,I.base,I.loc,I.cell,I.free,I.freeC,I.pin,I.hok,I.len⟩
def Yr0(r:Vals (ns.map V.int) us):IntsAre us ns:=Ygy r
def Yaf4(K:W.Frag)(P:Program)(w:World):AQ->Hp->VK->Prop:=λxs H Q=>∃a ns,xs=[.ref a]/\(SqL K H a (ns.map V.int)\/SqT K H a (ns.map V.int))/\ns.length<4000/\∀p ms,H p=none->ms.Perm (ddup [] ns)->Q (.ref p) (upd H p (setO P w p ms))
theorem Yr1(hc:X.calm=true):Ydt X (.type "set") (Yaf4 X.K X.prog X.w):=by
 intro pins s σ H xs us Q I r h;obtain⟨a,ns,rfl,hq,hl,q⟩:=h;obtain⟨u,rfl,rx⟩:=Yhc r;cases rx;have hh:X.A.handled=none:=I.ok.hd hc;have hsb:scanBound=4096:=rfl;rcases hq with hq|hq
 ·obtain⟨its,rv,pl,hz⟩:=I.list hq
  have hlen:=rv.length;rw[qf]at hlen;refine Ypc hh pl.isList (by simpa using Yr0 rv) (by grind) λh' tk ms hS hp hk=>?_;exact⟨.ref (~~~s),_,I.laid (t':=tk) (λb o e=>hk b o (ql e) e) (qu _) (Yum hS),rfl,q _ ms (I.hok.fresh (qu _)) hp⟩
 ·obtain⟨its,rv,pl,hz⟩:=I.tuple hq
  have hlen:=rv.length;rw[qf]at hlen;refine Yne hh pl (by simpa using Yr0 rv) (by grind) λh' tk ms hS hp hk=>?_;exact⟨.ref (~~~s),_,I.laid (t':=tk) (λb o e=>hk b o (ql e) e) (qu _) (Yum hS),rfl,q _ ms (I.hok.fresh (qu _)) hp⟩
def Yadt(P:Program)(w:World):AQ->Hp->VK->Prop:=λxs H Q=>∃a ms,xs=[.ref a]/\H a=some (setO P w a ms)/\ms.length<64/\∀p,H p=none->Q (.ref p) (upd H p (.lst ((Yc1 ms).map V.int)))
theorem Yyb(hc:X.calm=true):Ydt X (.builtin "sorted") (Yadt X.prog X.w):=by
 intro pins s σ H xs us Q I r h;obtain⟨a,ms,rfl,hq,hl,q⟩:=h;obtain⟨u,rfl,rx⟩:=Yhc r;cases rx;have hh:X.A.handled=none:=I.ok.hd hc;have hS:SetI X.prog X.w s.heap a ms:=(show ObjOk X.prog X.w H s.heap a (setO X.prog X.w a ms) from I.hok a _ hq).1;refine Yya hh hS hl λh' d' tk e p out ns' keep hp he hI hpm hs=>?_;have en:ns'=Yc1 ms:=W.ksm_same (hpm.trans (Yaz ms).symm) hs (Ya5 ms);subst en;have hn:(Yc1 ms).length=ms.length:=(Yaz ms).length_eq;refine⟨.ref p,_,Inv.laid (t':=tk) (I.dr d') keep hp (show ObjOk X.prog X.w _ _ _ (.lst ((Yc1 ms).map V.int)) from⟨by rw[qf,hn,jj];lia,out.toList,e,Ygb hI,by simp_all⟩),rfl,q _ (I.hok.fresh hp)⟩
def Ypq(h:a.Perm b):Yc1 a=Yc1 b:=W.ksm_same (((Yaz a).trans h).trans (Yaz b).symm) (Ya5 a) (Ya5 b)
def nr0{α:Sort _}{a b:α}(h:a=b):a=b:=h
end
end
section
def lcgN(m:Nat):Nat->Nat->Nat
 | 0,i=>i
 | k+1,i=>lcgN m k ((i*5+1)%m)
theorem Yk8(m:Nat):∀(a b i:Nat),lcgN m (a+b) i=lcgN m b (lcgN m a i)
 | 0,b,i=>by rw[Nat.zero_add];rfl
 | a+1,b,i=>by rw[Nat.succ_add];exact Yk8 m a b _
def y9p(m:Nat):Nat->Nat->AG
 | 0,_=>[]
 | k+1,i=>i::y9p m k ((i*5+1)%m)
theorem Yr2:∀{k i:Nat},j∈y9p m k i->∃a,a<k/\lcgN m a i=j
 | 0,_,h=>(nomatch h)
 | k+1,i,h=>by
   rcases qt h with rfl|h
   ·exact⟨0,by lia,rfl⟩
   ·obtain⟨a,ha,e⟩:=Yr2 h
    exact⟨a+1,by lia,e⟩
def cycB(m:Nat):Bool:=(List.range m).all (λj=>(y9p m m 0).contains j)&&lcgN m m 0==0
def sizes:AG:=[8,16,32,64,128]
theorem y9q:sizes.all cycB=true:=by decide +kernel
theorem Yadu(hm:m∈sizes)(hi:i<m)(hj:j<m):∃k,k<m/\lcgN m k i=j:=by
 have h:=List.all_eq_true.mp y9q m hm;unfold cycB at h;rw[Qb]at h;obtain⟨h1,h2⟩:=h
 have h2':lcgN m m 0=0:=by grind
 have at0:∀x,x<m->∃a,a<m/\lcgN m a 0=x:=λx hx=>by
  have:=List.all_eq_true.mp h1 x (List.mem_range.mpr hx);exact Yr2 (by grind)
 obtain⟨a,ha,rfl⟩:=at0 i hi;obtain⟨b,hb,rfl⟩:=at0 j hj;by_cases hab:a<=b
 ·refine⟨b-a,by lia,?_⟩
  rw[<-Yk8,Nat.add_sub_cancel' hab]
 ·refine⟨m-a+b,by lia,?_⟩
  rw[<-Yk8,show a+(m-a+b)=m+b by lia,Yk8,h2']
section
variable {mask:Nat}{owner:Array AN}
theorem Yma(fuel i p:Nat):(∃j,SetTable.layClean.free mask owner (fuel+1) i p=some j/\owner.getD j (some 0)=none)\/
 (owner.getD i (some 0)≠none/\SetTable.layClean.free mask owner (fuel+1) i p=SetTable.layClean.free mask owner fuel ((i*5+1+p/32)%(mask+1)) (p/32)):=by
 rw[SetTable.layClean.free]
 cases e:(List.range (SetTable.runEnd mask i+1-i)).find? (λk=>(owner.getD (i+k) (some 0)).isNone)with
 | some k=>
   simp_all
 | none=>
   right;refine⟨λz=>?_,rfl⟩;have:=List.find?_eq_none.mp e 0 (List.mem_range.mpr (by unfold SetTable.runEnd;split<;>lia));grind
theorem Yr3:∀(k fuel i:Nat),k<fuel->owner.getD (lcgN (mask+1) k i) (some 0)=none->∃j,SetTable.layClean.free mask owner fuel i 0=some j/\owner.getD j (some 0)=none
 | k,0,_,h,_=>absurd h (Nat.not_lt_zero _)
 | k,fuel+1,i,h,hf=>by
   rcases Yma (mask:=mask) (owner:=owner) fuel i 0 with h1|⟨h1,h2⟩
   ·exact h1
   ·cases k with
    | zero=>exact absurd hf h1
    | succ k=>
      rw[h2];exact Yr3 k fuel _ (by lia) hf
theorem y1l(hm:mask+1∈sizes)(hi:i<mask+1)(hp:p<1024)(hf:∃j,j<mask+1/\owner.getD j (some 0)=none):∃j,SetTable.layClean.free mask owner (SetTable.turns mask) i p=some j/\owner.getD j (some 0)=none:=by
 obtain⟨j,hj,ho⟩:=hf;have e:SetTable.turns mask=mask+13+1+1:=rfl;rw[e];rcases Yma (mask:=mask) (owner:=owner) (mask+13+1) i p with h1|⟨_,h2⟩
 ·exact h1
 ·rw[h2]
  generalize (i*5+1+p/32)%(mask+1)=i1;rcases Yma (mask:=mask) (owner:=owner) (mask+13) i1 (p/32)with h1|⟨_,h3⟩
  ·exact h1
  ·rw[h3,show p/32/32=0 by lia]
   obtain⟨k,hk,e2⟩:=Yadu hm (i:=(i1*5+1+0)%(mask+1)) (Nat.mod_lt _ (by lia)) hj;exact Yr3 k _ _ (by lia) (by rw[e2];exact ho)
end
theorem Yk9{α β:Type}{f g:α->Option β}:∀{l:List α},(∀x∈l,f x=g x)->l.filterMap f=l.filterMap g
 | [],_=>rfl
 | x::l,h=>by
   have ih:=Yk9 (l:=l) λy hy=>h y (qg _ hy);grind
theorem y7b{f g:Nat->AN}(hf:f j=none)(hg:g j=some k):∀{l:AG},l.Nodup->j∈l->(∀x∈l,x≠j->g x=f x)->(l.filterMap g).Perm (k::l.filterMap f)
 | [],_,hj,_=>(nomatch hj)
 | x::l,hn,hj,he=>by
   obtain⟨hx,hn⟩:=List.nodup_cons.mp hn;by_cases e:x=j
   ·subst e
    have:l.filterMap g=l.filterMap f:=Yk9 λy hy=>he y (qg _ hy) λz=>hx (z ▸ hy);grind
   ·have hj':j∈l:=by
     grind
    have ih:=y7b hf hg hn hj' λy hy=>he y (qg _ hy);grind
theorem Ywn(hm:mask+1∈sizes):∀(hs:AH) (owner:Array AN) (k:Nat),owner.size=mask+1->((List.range (mask+1)).filterMap λj=>owner.getD j none).Perm (List.range k)->k+hs.length<=mask->(∀h∈hs,0<=h/\h<1024)->
 ∃owner',(hs.foldl (init:=some (owner,k)) λacc h=>do
  let (owner,k) <-acc
  let j <-SetTable.layClean.free mask owner (SetTable.turns mask) (SetTable.bits h%(mask+1)) (SetTable.bits h)
  pure (owner.setIfInBounds j (some k),k+1))=some (owner',k+hs.length)/\owner'.size=mask+1/\((List.range (mask+1)).filterMap λj=>owner'.getD j none).Perm (List.range (k+hs.length))
 | [],owner,k,h1,h2,_,_=>⟨owner,rfl,h1,h2⟩
 | h::hs,owner,k,h1,h2,h3,h4=>by
   have hb:SetTable.bits h<1024:=by
    obtain⟨a,b⟩:=h4 h qh;unfold SetTable.bits;lia
   have hfree:∃j,j<mask+1/\owner.getD j (some 0)=none:=Classical.byContradiction λhno=>by
    have hl:=h2.length_eq;rw[List.length_range]at hl
    have all:∀j∈List.range (mask+1),(owner.getD j none).isSome=true:=λj hj=>by
     have hj':=qy hj;have:owner.getD j (some 0)≠none:=λz=>hno ⟨j,hj',z⟩
     have hj2:j<owner.size:=by lia
     simp only[Array.getD,hj2,dif_pos]at this ⊢;exact Option.isSome_iff_ne_none.mpr this
    have:((List.range (mask+1)).filterMap λj=>owner.getD j none).length=(List.range (mask+1)).length:=by
     generalize List.range (mask+1)=l at all
     simp_all
    grind
   obtain⟨j,hj,ho⟩:=y1l hm (owner:=owner) (i:=SetTable.bits h%(mask+1)) (p:=SetTable.bits h) (Nat.mod_lt _ (by lia)) hb hfree
   have hjs:j<owner.size:=Classical.byContradiction λz=>by
    grind
   have honone:owner.getD j none=none:=by
    grind
   have hp:=y7b (f:=λx=>owner.getD x none) (g:=λx=>(owner.setIfInBounds j (some k)).getD x none) (j:=j) (k:=k) honone (by simp_all) (l:=List.range (mask+1)) List.nodup_range (List.mem_range.mpr (by lia)) λx hx hne=>by
    have hx':=qy hx
    have hx2:x<owner.size:=by lia
    simp[Array.getD,hx2,Array.getElem_setIfInBounds,Ne.symm hne]
   have hp2:((List.range (mask+1)).filterMap λx=>(owner.setIfInBounds j (some k)).getD x none).Perm (List.range (k+1)):=by
    grind
   obtain⟨owner',e1,e2,e3⟩:=Ywn hm hs (owner.setIfInBounds j (some k)) (k+1) (by grind) hp2 (by grind) λx hx=>h4 x (qg _ hx);refine⟨owner',?_,e2,?_⟩
   ·grind
   grind
theorem Yr4{led plain:Bool}(hm:mask+1∈sizes)(hs:Array Int)(hn:hs.size<=mask)(h64:∀h∈hs.toList,0<=h/\h<1024):∃t o,SetTable.laid mask finger moves led plain hs=some (t,o)/\o.toList.Perm (List.range hs.size)/\t.place.size=hs.size/\t.dummies=#[]/\t.mask=mask/\t.plain=plain:=by
 have hinit:((List.range (mask+1)).filterMap λj=>(Array.replicate (mask+1) (none:AN)).getD j none)=[]:=by
  simp_all
 obtain⟨owner,e1,e2,e3⟩:=Ywn hm hs.toList (Array.replicate (mask+1) none) 0 (by simp) (by grind) (by grind) h64
 have hlc:SetTable.layClean mask hs=some owner:=by
  unfold SetTable.layClean;grind
 have h2:((List.range (mask+1)).filterMap λj=>(owner.getD j none).map (j,·)).map (·.2)=(List.range (mask+1)).filterMap λj=>owner.getD j none:=by
  rw[List.map_filterMap];refine Yk9 λj _=>?_;cases owner.getD j none<;>rfl
 refine⟨_,_,by unfold SetTable.laid;rw[hlc];rfl,?_,?_,rfl,rfl,rfl⟩
 ·grind
 ·have:=e3.length_eq
  grind
def Yeq(xs:Array α)(p:Nat):(SetTable.eraseAt xs p).toList=xs.toList.eraseIdx p:=by
 unfold SetTable.eraseAt;rw[Array.toList_append,Ql];simp[Array.toList_extract,List.extract_eq_take_drop];exact List.take_of_length_le (by simp)
theorem Yyc(h:Rise xs)(p:Nat):Rise (SetTable.eraseAt xs p):=by
 unfold Rise at h ⊢;rw[Yeq];grind
def Ygg(h:p<xs.size):(SetTable.eraseAt xs p).size=xs.size-1:=by
 rw[<-qj,Yeq,List.length_eraseIdx_of_lt (by simpa using h)];simp
theorem Ypr(xs:Array α)(p:Nat)(x:α):(SetTable.insertAt xs p x).size=xs.size+1:=by
 rw[<-qj,Yik,qx,qr,List.length_take,List.length_drop];simp;lia
section
variable {prog:Program}{w:World}{A:Around}{E:AB}{s:Shared}
theorem Yun(hS:SetI prog w s.heap a ns)(h:∀h' ns',Heap.SameBut a s.heap h'->SetI prog w h' a ns'->ns'.Perm (ns.erase k)->Q (decide (k∈ns)) { s with heap:=h' }):
 wpAny (model prog w) A (setDiscardHashed a (.int k u) (hashInt k)) Q E s:=by
 have hS0:=hS;obtain⟨o,es,ep,t,ho,hex,hd,hel,hns,hnd,hb,hf,ht⟩:=hS;have hkey:(intKind prog w).is k (.int k u)=true:=intKind_is _ _ _ _;have hsc:(Value.int k u).scannable=true:=rfl;unfold setDiscardHashed setFind setFindIn;refine wa ?_;refine wa (wj ho hd hf ?_);dsimp only;rw[byScan_of hsc hb hel];simp only[↓reduceIte];refine wa (wpAny_rule ?_);refine wa (wpAny_setScan_of (knd:=intKind prog w) (k:=k) hkey ho hd hf hel ?_)
 cases hr:List.findIdx? (λe=>(intKind prog w).is k e.2) es.toList with
 | none=>
   dsimp only
   have hk:k∉ns:=λhk=>by
    rw[<-hns]at hk;obtain⟨e,he,hke⟩:=qw hk;have h1:=List.findIdx?_eq_none_iff.mp hr e he;obtain⟨t',ht'⟩:=Yg0 hel he;rw[ht',hke]at h1;have h2:(intKind prog w).is k (.int k t')=true:=intKind_is _ _ _ _;grind
   refine wb (wb ?_)
   have e:s={ s with heap:=s.heap }:=by cases s;rfl
   have:=h s.heap ns (Heap.SameBut.refl a s.heap) hS0 (by grind)
   simp_all
 | some j=>
   dsimp only;obtain⟨hj,hpj,_⟩:=List.findIdx?_eq_some_iff_getElem.mp hr
   have hjs:j<es.size:=by grind
   have hkj:kOf es.toList[j]=k:=Yz2 hpj
   have hk:k∈ns:=by
    grind
   refine wb ?_;dsimp only;refine wa (wj ho hd hf ?_);dsimp only;rw[Nat.zero_add]
   have hb':(SetTable.eraseAt es j).size<scanBound:=by rw[Ygg hjs];lia
   refine wa (wpAny_storeSet_of ho hd ?_ (fits_of_scanBound hb'));have ho1:=Yhx ho hd (SetTable.eraseAt es j) (t.drop j);have hsb1:=wv s.heap a (Obj.putSet (SetTable.eraseAt es j) (t.drop j));refine wa (wpAny_point (wb ?_));have hf':=hf;unfold SetTable.fits at hf';simp only[Qb,beq_iff_eq,wm]at hf'
   have hpl:j<t.place.size:=by lia
   have hdrop:t.drop j={ t with place:=SetTable.eraseAt t.place j,dummies:=SetTable.insertAt t.dummies (SetTable.below t.dummies t.place[j]) t.place[j] }:=by
    unfold SetTable.drop;grind
   have hlen:j<ns.length:=by grind
   have hnj:ns[j]=k:=by
    grind
   have hperm:(ns.eraseIdx j).Perm (ns.erase k):=by
    have p1:=Yjo hlen;grind
   have hnew:SetI prog w (s.heap.update a (Obj.putSet (SetTable.eraseAt es j) (t.drop j))) a (ns.eraseIdx j):=by
    refine⟨_,SetTable.eraseAt es j,_,t.drop j,ho1,hex,rfl,λe he=>?_,?_,hnd.sublist (List.eraseIdx_sublist _ _),hb',?_,?_⟩
    ·rw[Yeq]at he
     exact hel e (List.mem_of_mem_eraseIdx he)
    ·rw[Yeq,<-hns,Ql,Ql,wt,List.map_take,List.map_drop]
    ·rw[hdrop]
     unfold SetTable.fits;unfold SetTable.fill at hf' ⊢;simp only[Qb,beq_iff_eq,wm,Ygg hpl,Ygg hjs,Ypr]at hf' ⊢;lia
    ·rw[hdrop]
     exact⟨ht.1,λz=>Yyc (ht.2 z) j⟩
   grind
theorem y5f(ho:s.heap.get? a=some o)(hd:o.data=.set es ep t)(hf:t.fits es.size=true)(ht:Tab (byT w) t)(h:∀(r:Array (Int×Value)) (d':Drawn),r.toList.Perm es.toList->Q r { s with drawn:=d' }):wpAny (model prog w) A (setWalk a) Q E s:=by
 unfold setWalk;refine wa (wj ho hd hf ?_);dsimp only;refine wa (Yd7 ?_);by_cases hb:byT w=true
 ·rw[if_pos hb]
  refine wa (wpAny_askSetting (wb ?_));exact h _ s.drawn (Yrf _ _)
 ·rw[if_neg hb]
  have hb':byT w=false:=by grind
  show wpAny _ _ (if (!t.plain&&decide (es.size > 1))=true then _ else _) _ _ _;by_cases hdr:(!t.plain&&decide (es.size > 1))=true
  ·rw[if_pos hdr]
   refine wa (Yjp _ _ _ _ (by simp) λys d' hp=>wb ?_);grind
  ·rw[if_neg hdr]
   show wpAny _ _ ((if (!t.led&&decide (es.size > 1))=true then unsupported "set:maker-not-led" else pure ())>>=_) _ _ _;rw[if_neg (by rw[ht.1 hb'];simp)];exact wa (wb (wb (h es s.drawn (.refl _))))
def Yyd(h:∀a∈as,∃ns,SetI prog w s.heap a ns)(hq:Q true s):wpAny (model prog w) A (setsQuiet as) Q E s:=by
 unfold setsQuiet;refine wa (wpAny_forIn_list _ (λrest b s'=>b.1=none/\s'=s/\∀a∈rest,∃ns,SetI prog w s.heap a ns) _ ?_ ?_ as _ ⟨rfl,rfl,h⟩)
 ·rintro a rest b s' ⟨hb,rfl,hr⟩
  obtain⟨ns,o,es,ep,t,ho,hex,hd,hel,_,_,_,hf,_⟩:=hr a qh;refine wa (m:=setEntries a) ?_;unfold setEntries;refine wa (wj ho hd hf (wb ?_));refine wa (MeetsSeq2.wpAny_forIn_array _ (λrest b s''=>b.1=none/\s''=s'/\∀e∈rest,e∈es.toList) _ ?_ ?_ es _ ⟨rfl,rfl,λe he=>he⟩)
  ·rintro⟨hh,x⟩ rest2 b2 s2 ⟨hb2,rfl,hr2⟩
   obtain⟨t',ht'⟩:=Yg0 hel (hr2 _ qh);have hx:=congrArg Prod.snd ht';dsimp only at hx;rw[hx];exact wb ⟨rfl,rfl,λe he=>hr2 e (qg _ he)⟩
  ·rintro b2 s2 ⟨hb2,rfl,_⟩
   obtain⟨b2a,b2b⟩:=b2;subst hb2;exact wb ⟨rfl,rfl,λa ha=>hr a (qg _ ha)⟩
 ·rintro b s' ⟨hb,rfl,_⟩
  obtain⟨ba,bb⟩:=b;subst hb;exact wb hq
theorem Yuo(hO:SetI prog w s.heap o ns)(hF:SetI prog w s.heap f ms)(h:∀(r:Array (Int×Value)) (h':Heap) (d':Drawn),Heap.SameBut f s.heap h'->SetI prog w h' f ms->ElemsOf (intKind prog w) r.toList->(r.toList.map kOf).Perm ns->Q r { s with heap:=h',drawn:=d' }):
 wpAny (model prog w) A (setWalkUnseen o [f] (some f)) Q E s:=by
 have hO0:=hO;obtain⟨oo,es,ep,t,ho,hex,hd,hel,hns,hnd,hb,hf,ht⟩:=hO
 have hwalk:wpAny (model prog w) A (setWalk o) Q E s:=y5f ho hd hf ht λr d' hp=>by
  have e:s={ s with heap:=s.heap }:=by cases s;rfl
  exact h r s.heap d' (Heap.SameBut.refl f s.heap) hF (hel.perm hp) (by grind)
 unfold setWalkUnseen;refine wa (wj ho hd hf ?_);dsimp only;refine wa (Yd7 ?_)
 split
 ·exact hwalk
 ·refine wa (Yyd (λa ha=>?_) ?_)
  ·grind
  ·rw[if_neg (by simp)]
   refine wa (wpAny_rule ?_);have hF0:=hF;obtain⟨of,ef,epf,tf,hof,hexf,hdf,helf,hnsf,hndf,hbf,hff,htf⟩:=hF;refine wa (wj hof hdf hff ?_);dsimp only
   split
   ·have hff':({ tf with led:=tf.led&&t.led,plain:=tf.plain&&t.plain }:SetTable).fits ef.size=true:=by
     unfold SetTable.fits SetTable.fill at hff ⊢;exact hff
    refine wa (wpAny_storeSet_of hof hdf ?_ (fits_of_scanBound hbf));have ho1:=Yhx hof hdf ef { tf with led:=tf.led&&t.led,plain:=tf.plain&&t.plain };refine wb (h es _ s.drawn (wv s.heap f _) ⟨_,ef,_,_,ho1,hexf,rfl,helf,hnsf,hndf,hbf,hff',⟨λz=>?_,λz=>?_⟩⟩ hel (by rw[hns]))
    ·show(tf.led&&t.led)=true
     rw[htf.1 z,ht.1 z];rfl
    ·have z':(tf.plain&&t.plain)=true:=z
     rw[Qb]at z';exact htf.2 z'.1
   ·refine wb ?_
    exact h es s.heap s.drawn (Heap.SameBut.refl f s.heap) hF0 hel (by rw[hns])
def SetI.nodup(x:SetI prog w h a ns):ns.Nodup:=by
 obtain⟨_,_,_,_,_,_,_,_,_,hnd,_⟩:=x;exact hnd
def SetI.type(x:SetI prog w s.heap a ns):s.TypeIs (.ref a) "set":=by
 obtain⟨o,_,_,_,ho,hex,_⟩:=x;exact⟨o,ho,hex.1⟩
def SetI.but(x:SetI prog w h a ns)(hne:a≠f)(sb:Heap.SameBut f h h'):SetI prog w h' a ns:=x.at λo e=>(sb.2 a hne).trans e
theorem y5g(hF:SetI prog w s.heap f ms)(hroom:ms.length+1<scanBound)(h:∀h' ms',Heap.SameBut f s.heap h'->SetI prog w h' f ms'->(∀x,x∈ms'↔¬(x∈ms↔x=k))->ms'.length<=ms.length+1->Q () { s with heap:=h' }):
 wpAny (model prog w) A (holding [.int k u] (do
  if !(<-setDiscardHashed f (.int k u) (hashInt k))then
   let _ <-setAddHashed f (.int k u) (hashInt k))) Q E s:=by
 have hnd:=hF.nodup;refine wc (wa (Yun hF λh1 ms1 sb1 hF1 hp1=>?_));by_cases hk:k∈ms
 ·rw[wn hk]
  refine wb (h h1 ms1 sb1 hF1 (λx=>?_) ?_)
  ·grind
  ·rw[hp1.length_eq]
   grind
 ·rw[wo hk]
  rw[List.erase_of_not_mem hk]at hp1;have hk1:k∉ms1:=λz=>hk (hp1.mem_iff.mp z);refine wa (Yz3 (s:={ s with heap:=h1 }) hF1 (by rw[hp1.length_eq];exact hroom) λh2 ms2 sb2 hF2 hp2=>?_);rw[if_neg hk1]at hp2;refine wb (h h2 ms2 (sb1.trans sb2) hF2 (λx=>?_) ?_)
  ·grind
  ·rw[hp2.length_eq,qx,hp1.length_eq]
   grind
def Yps(hO:SetI prog w s.heap o ns)(h:Q true s):wpAny (model prog w) A (Builtin.Frozenset.isAnySet (.ref o)) Q E s:=by
 unfold Builtin.Frozenset.isAnySet;exact wa (wpAny_isInstance (b:=true) hO.type Yh3 (wb h))
theorem y9r{id:String}(hne:o≠f)(hO:SetI prog w s.heap o ns)(hF:SetI prog w s.heap f ms)(hroom:ms.length+ns.length+1<scanBound)(h:∀h' d' ms',Heap.SameBut f s.heap h'->SetI prog w h' f ms'->(∀x,x∈ms'↔¬(x∈ms↔x∈ns))->Q () { s with heap:=h',drawn:=d' }):
 wpAny (model prog w) A (Builtin.Frozenset.symmetricDifferenceUpdate id f (.ref o)) Q E s:=by
 unfold Builtin.Frozenset.symmetricDifferenceUpdate
 have h1:(Value.ref o==Value.ref f)=false:=by simp[hne]
 rw[if_neg (by grind)];refine wa (wpAny_typeOf hO.type ?_)
 have h2:(Value.type "set"==Value.type "dict")=false:=by decide
 rw[if_neg (by grind)];refine wa (Yps hO ?_);rw[if_pos rfl];refine wa (wb ?_);refine wa (m:=Builtin.Frozenset.addrOf (.ref o)) (wb ?_);have hO0:=hO;obtain⟨oo,es,ep,t,ho,hex,hd,hel,hns,hnd,hb,hf,ht⟩:=hO0;refine wa (m:=setEpoch o) ?_;unfold setEpoch;refine wa (wj ho hd hf (wb ?_));dsimp only;refine wc ?_;refine wa (Yuo hO hF λr h' d' sb hF' helr hpr=>?_);have hndr:(r.toList.map kOf).Nodup:=hpr.nodup_iff.mpr hO.nodup
 refine wa (w5 (MeetsSeq2.wpAny_forIn_array _ (λrest _ s'=>∃done h2 ms2,s'={ s with heap:=h2,drawn:=d' }/\Heap.SameBut f s.heap h2/\SetI prog w h2 f ms2/\(∀x,x∈ms2↔¬(x∈ms↔x∈done))/\r.toList.map kOf=done++rest.map kOf/\ms2.length<=ms.length+done.length/\∀e∈rest,e∈r.toList)
  (λ_ s'=>∃h2 ms2,s'={ s with heap:=h2,drawn:=d' }/\Heap.SameBut f s.heap h2/\SetI prog w h2 f ms2/\(∀x,x∈ms2↔¬(x∈ms↔x∈ns))) ?_ ?_ r _ ⟨[],h',ms,rfl,sb,hF',by simp,by simp,by simp,λe he=>he⟩) (λ_ s' hs=>?_) λ_ _ e=>e)
 ·rintro x rest _ s' ⟨done,h2,ms2,rfl,sb2,hF2,hm2,hd2,hl2,hr2⟩
  have hx:=hr2 x qh;obtain⟨tk,hxe⟩:=Yg0 helr hx
  have hlen:ms2.length+1<scanBound:=by
   have e1:=congrArg List.length hd2;have e2:=hpr.length_eq;grind
  have hkd:kOf x∉done:=λz=>by
   grind
  rw[hxe];dsimp only;have hkx:kOf (hashInt (kOf x),Value.int (kOf x) tk)=kOf x:=rfl;refine wa (y5g (s:={ s with heap:=h2,drawn:=d' }) hF2 hlen λh3 ms3 sb3 hF3 hm3 hl3=>?_);have hO3:=(hO.but hne sb2).but hne sb3;have hoo:h3.get? o=some oo:=((sb2.trans sb3).2 o hne).trans ho;refine wa (m:=Builtin.Frozenset.unchanged id o ep) ?_;unfold Builtin.Frozenset.unchanged setEpoch;refine wa (wa (wj (s:={ s with heap:=h3,drawn:=d' }) hoo hd hf (wb ?_)));rw[if_neg (by simp)];refine wb (wb ⟨done++[kOf x],h3,ms3,rfl,sb2.trans sb3,hF3,λy=>?_,?_,?_,λe he=>hr2 e (qg _ he)⟩)
  ·grind
  ·grind
  grind
 ·grind
 ·obtain⟨h2,ms2,rfl,sb2,hF2,hm2⟩:=hs
  exact wb (h h2 d' ms2 sb2 hF2 hm2)
theorem Yye(h:0<=k/\k<1024):0<=hashInt k/\hashInt k<1024:=by
 have e:rawHash k=k:=by
  unfold rawHash;grind
 unfold hashInt;grind
theorem y9s:(List.range 64).all (λn=>decide (SetTable.sizeAbove (n*2)∈sizes)&&decide (n<SetTable.sizeAbove (n*2))&&decide (SetTable.sizeAbove (n*2)<=128))=true:=by decide +kernel
theorem y5h{es:Array (Int×Value)}{o:Array Nat}(hp:o.toList.Perm (List.range es.size)):(o.filterMap (es[·]?)).toList.Perm es.toList:=by
 have h1:(o.filterMap (es[·]?)).toList=o.toList.filterMap (es.toList[·]?):=by simp
 rw[h1]
 have h2:(List.range es.size).filterMap (es.toList[·]?)=es.toList:=by
  have:∀l:List (Int×Value),(List.range l.length).filterMap (l[·]?)=l:=λl=>by
   rw[Yk9 (g:=λi=>some (l.getD i (0,.none))) λi hi=>?_]
   ·show List.filterMap (some ∘ λi=>l.getD i (0,.none)) _=_
    rw[List.filterMap_eq_map];refine List.ext_getElem (by simp) λi h1 h2=>?_;simp[h2]
   grind
  grind
 grind
abbrev obS(ep:Nat)(t:SetTable):Obj:={ cls:=.type "set",dict:=none,data:=.set #[] ep t }
theorem y5i(hf:s.heap.get? f=some (obS ep (.fresh 0 0 led)))(hn:n<64)(h:∀h' ep' t',Heap.SameBut f s.heap h'->h'.get? f=some (obS ep' t')->t'.mask+1∈sizes->n<=t'.mask->t'.place=#[]->t'.dummies=#[]->t'.led=led->t'.plain=true->Q () { s with heap:=h' }):wpAny (model prog w) A (setRoomFor f n) Q E s:=by
 have hfit:(SetTable.fresh 0 0 led).fits (#[]:Array (Int×Value)).size=true:=rfl;unfold setRoomFor;refine wa (wj hf rfl hfit ?_);dsimp only;by_cases hr:21<=n*5
 ·have e:(SetTable.fresh 0 0 led).roomFor n=some (n*2):=by
   unfold SetTable.roomFor SetTable.fresh SetTable.fill;grind
  rw[e];dsimp only;have hok:=List.all_eq_true.mp y9s n (List.mem_range.mpr hn);simp only[Qb,wm]at hok;obtain⟨⟨k1,k2⟩,k3⟩:=hok;unfold setRelay;refine wa (wj hf rfl hfit ?_);dsimp only;rw[if_neg (by rw[jj];lia)]
  have hm:SetTable.sizeAbove (n*2)-1+1=SetTable.sizeAbove (n*2):=by lia
  obtain⟨t',o',e1,e2,e3,e4,e5,e6⟩:=Yr4 (mask:=SetTable.sizeAbove (n*2)-1) (finger:=0) (moves:=(SetTable.fresh 0 0 led).movedTo (SetTable.sizeAbove (n*2)-1)) (led:=led) (plain:=true) (by grind) #[] (jb _) (λh hh=>by simp at hh)
  have hre:(SetTable.fresh 0 0 led).relaid ((#[]:Array (Int×Value)).map (·.1)) (n*2)=some (t',o'):=by
   unfold SetTable.relaid;rw[show(#[]:Array (Int×Value)).map (·.1)=#[] by simp];exact e1
  rw[hre]
  have ho':o'=#[]:=by
   simp_all
  subst ho';have hl:=Ylo e1;refine wa (wb ?_);refine wpAny_storeSet_of hf rfl ?_ (by simp);have h1:=Yhx hf rfl (#[]:Array (Int×Value)) t';exact h _ _ t' (wv s.heap f _) h1 (by grind) (by rw[e5];lia) (by grind) e4 hl.2.1 e6
 ·have e:(SetTable.fresh 0 0 led).roomFor n=none:=by
   unfold SetTable.roomFor SetTable.fresh SetTable.fill;grind
  rw[e];refine wb ?_
  have e:s={ s with heap:=s.heap }:=by cases s;rfl
  rw[e];exact h s.heap ep _ (Heap.SameBut.refl f s.heap) hf (show 8∈sizes by decide) (show n<=7 by lia) rfl rfl rfl rfl
theorem Yadv{id:String}(hO:SetI prog w s.heap o ns)(hk:∀k∈ns,0<=k/\k<1024)(hl:ns.length<64)(h:∀h' ms,(∀b x,s.heap.get? b=some x->h'.get? b=some x)->SetI prog w h' (~~~s) ms->ms.Perm ns->Q (.ref (~~~s)) { s with heap:=h' }):
 wpAny (model prog w) A (Builtin.Frozenset.newFrom id (.type "set") (.ref o)) Q E s:=by
 unfold Builtin.Frozenset.newFrom newSet;refine wa (wa (Yd7 ?_));dsimp only;simp only[newObj];refine wa (wpAny_alloc (wb ?_))
 have hlt:o< ~~~s:=by
  obtain⟨oo,_,_,_,ho,_⟩:=hO;exact ql ho
 generalize hH:s.heap.push _=H
 have keep:∀b x,s.heap.get? b=some x->H.get? b=some x:=λb x e=>by rw[<-hH];exact qe _ e
 have hf0:H.get? (~~~s)=some { cls:=.type "set",dict:=none,data:=.set #[] 0 (.fresh 0 0 (!byT w)) }:=by rw[<-hH];exact qp _ rfl
 generalize hf:(~~~s)=f at *;have hne:o≠f:=qm hlt;have hO1:SetI prog w H o ns:=hO.at λx e=>keep o x e;refine wa (m:=Builtin.Frozenset.addrOf (.ref f)) (wb ?_);refine wa (wc ?_);unfold Builtin.Frozenset.updateFrom;refine wa (Yps (s:={ s with heap:=H }) hO1 ?_);rw[if_pos rfl];refine wa (m:=Builtin.Frozenset.addrOf (.ref o)) (wb ?_);unfold Builtin.Frozenset.merge;have hO2:=hO1;obtain⟨oo,es,ep,t,ho,hex,hd,hel,hns,hnd,hb,hft,ht⟩:=hO2
 have hsz:es.size=ns.length:=by grind
 refine wa (m:=setEpoch o) ?_;unfold setEpoch;refine wa (wj (s:={ s with heap:=H }) ho hd hft (wb ?_));dsimp only;unfold setMerge
 have h1:(f==o)=false:=by grind
 rw[if_neg (by grind)];refine wa (wj (s:={ s with heap:=H }) ho hd hft ?_);dsimp only;by_cases hemp:es.isEmpty=true
 ·rw[if_pos hemp]
  refine wb (wb (h H [] keep ⟨_,#[],_,_,hf0,⟨rfl,rfl,rfl⟩,rfl,λe he=>by simp at he,rfl,.nil,by decide,rfl,.fresh⟩ ?_));grind
 ·rw[if_neg hemp]
  refine wa (y5i (s:={ s with heap:=H }) hf0 (by lia) λh' ep' t' sb hf' m1 m2 p1 p2 l1 l2=>?_)
  have hfit':t'.fits (#[]:Array (Int×Value)).size=true:=by
   unfold SetTable.fits SetTable.fill;grind
  refine wa (wj (s:={ s with heap:=h' }) hf' rfl hfit' ?_);dsimp only
  have keep':∀b x,s.heap.get? b=some x->h'.get? b=some x:=λb x e=>by
   have hb:b≠f:=λz=>by
    have:=ql e;grind
   exact(sb.2 b hb).trans (keep b x e)
  have keep2:∀(es':Array (Int×Value)) (t2:SetTable) b x,s.heap.get? b=some x->(h'.update f (Obj.putSet es' t2)).get? b=some x:=λes' t2 b x e=>by
   have hb:b≠f:=λz=>by
    have:=ql e;grind
   exact((wv h' f _).2 b hb).trans (keep' b x e)
  have hfill:t'.fill=0:=by
   unfold SetTable.fill;grind
  unfold SetTable.road;rw[hfill,if_neg (by simp)]
  have hled:byT w=false->(t'.led&&t.led)=true:=λz=>by
   rw[l1,ht.1 z,z];rfl
  by_cases hm:(t'.mask==t.mask&&t.dummies.isEmpty)=true
  ·rw[if_pos hm]
   dsimp only;refine wpAny_storeSet_of (s:={ s with heap:=h' }) hf' rfl ?_ (fits_of_scanBound hb);have hg:=Yhx hf' rfl es { t with finger:=t'.finger,led:=t'.led&&t.led,moves:=t'.moves,plain:=t'.plain&&t.plain };refine wb (h _ ns (keep2 _ _) ⟨_,es,_,_,hg,⟨rfl,rfl,rfl⟩,rfl,hel,hns,hnd,hb,hft,hled,λz=>?_⟩ (.refl _));have z':(t'.plain&&t.plain)=true:=z;rw[Qb]at z';exact ht.2 z'.2
  ·rw[if_neg hm]
   dsimp only
   obtain⟨t2,o2,e1,e2,e3,e4,e5,e6⟩:=Yr4 (mask:=t'.mask) (finger:=t'.finger) (moves:=t'.moves) (led:=t'.led&&t.led) (plain:=t'.plain&&t.plain) m1 (es.map (·.1)) (by grind) (λx hx=>by
    rw[Array.toList_map]at hx;obtain⟨e,he,rfl⟩:=qw hx;obtain⟨tk,het⟩:=Yg0 hel he
    have hke:kOf e∈ns:=by grind
    have:=Yye (hk _ hke)
    grind)
   rw[e1];have hlr:=Ylo e1
   have e2':o2.toList.Perm (List.range es.size):=by grind
   have hp:=y5h e2'
   have hsz2:(o2.filterMap (es[·]?)).size=es.size:=by rw[<-qj,hp.length_eq,qj]
   have hbe:((o2.filterMap (es[·]?)).size != es.size)=false:=by grind
   refine wa ?_;show wpAny _ _ (if ((o2.filterMap (es[·]?)).size != es.size)=true then _ else _) _ _ _;rw[if_neg (by grind)];refine wb ?_;dsimp only
   have hb2:(o2.filterMap (es[·]?)).size<scanBound:=by grind
   refine wpAny_storeSet_of (s:={ s with heap:=h' }) hf' rfl ?_ (fits_of_scanBound hb2);have hg:=Yhx hf' rfl (o2.filterMap (es[·]?)) t2
   have hpk:((o2.filterMap (es[·]?)).toList.map kOf).Perm ns:=by grind
   refine wb (h _ _ (keep2 _ _) ⟨_,_,_,t2,hg,⟨rfl,rfl,rfl⟩,rfl,hel.perm hp,rfl,hpk.nodup_iff.mpr hnd,hb2,?_,⟨λz=>by grind,λ_=>hlr.1⟩⟩ hpk);unfold SetTable.fits SetTable.fill;grind
theorem Yyf:entryFor table "set.__xor__"=some Builtin.«frozenset.__xor__»:=
 entryFor_alias (id':="frozenset.__xor__") (by kernel_rfl) (by first|rfl|decide +kernel|(unfold String.splitOn;simp +decide [String.splitOnAux])) (by decide +kernel) (by kernel_rfl)
theorem y5j(hA:SetI prog w s.heap a ns)(hB:SetI prog w s.heap b ms)(hk:∀k∈ms,0<=k/\k<1024)(hl:ms.length<64)(hl2:ns.length<64)(h:∀h' d' rs,(∀c x,s.heap.get? c=some x->h'.get? c=some x)->SetI prog w h' (~~~s) rs->(∀x,x∈rs↔¬(x∈ms↔x∈ns))->Q (.ref (~~~s)) { s with heap:=h',drawn:=d' }):
 wpAny (model prog w) A (binaryOp .BitXor (.ref a) (.ref b)) Q E s:=by
 refine wpAny_binaryOp_same (op:=.BitXor) (T:="set") hA.type hB.type F.fills_set_xor F.slot_set_xor (we F.slot_set_xor hA.type Yyf ?_ (F.args_set_xor_2 _ _));refine wa (m:=Builtin.Frozenset.slot1 "__xor__" ⟨[.ref a,.ref b],[]⟩) (wpAny_of_eq (a:=(Value.ref a,Value.ref b)) rfl ?_);dsimp only;refine wa (wa (Yps hA ?_));refine Yps hB ?_;rw[if_neg (by decide)];rw[if_neg qi];refine wa (m:=Builtin.Frozenset.addrOf (.ref a)) (wb ?_);generalize (toString "frozenset."++toString "__xor__":String)=id;refine wa ?_;refine wa (m:=Builtin.Frozenset.baseOf a) ?_;unfold Builtin.Frozenset.baseOf;refine wa (wpAny_isInstance (b:=true) hA.type Yh3 (wb ?_));refine wa (m:=Builtin.Frozenset.newFrom id (.type "set") (.ref b)) ?_;refine Yadv hB hk hl λh1 rs k1 hR hp=>?_
 have hlt:a< ~~~s:=by
  obtain⟨oo,_,_,_,ho,_⟩:=hA;exact ql ho
 have hsb:scanBound=4096:=rfl;refine wa (m:=Builtin.Frozenset.addrOf (.ref (~~~s))) (wb ?_);refine wa (wc (y9r (s:={ s with heap:=h1 }) (qm hlt) (hA.at λx e=>k1 a x e) hR (by rw[hp.length_eq,hsb];lia) λh2 d' rs2 sb hR2 hm=>?_));refine wb (wb ⟨_,rfl,(λz=>nomatch z),h h2 d' rs2 (λc x e=>?_) hR2 λx=>?_⟩)
 ·have hc:c≠(~~~s):=qm (ql e)
  exact(sb.2 c hc).trans (k1 c x e)
 ·rw[hm,hp.mem_iff]
end
end
section
section
variable {X:Cx}{pins:AC}{σ:L2.St}{H:Hp}{s:Shared}
def rXor(P:Program)(w:World):V->V->Hp->VK->Prop:=λx y H Q=>∃a b ns ms,x=.ref a/\y=.ref b/\H a=some (setO P w a ns)/\H b=some (setO P w b ms)/\(∀k∈ms,0<=k/\k<1024)/\ms.length<64/\ns.length<64/\
 ∀p rs,H p=none->rs.Nodup->(∀x,x∈rs↔¬(x∈ms↔x∈ns))->Q (.ref p) (upd H p (setO P w p rs))
def op_xor:OpR X (binaryOp .BitXor) (rXor X.prog X.w):=by
 intro pins s σ H x y v u Q I rx ry h;obtain⟨a,b,ns,ms,rfl,rfl,hA,hB,hk,hl,hl2,q⟩:=h;cases rx;cases ry;have hSA:SetI X.prog X.w s.heap a ns:=(show ObjOk X.prog X.w H s.heap a (setO X.prog X.w a ns) from I.hok a _ hA).1;have hSB:SetI X.prog X.w s.heap b ms:=(show ObjOk X.prog X.w H s.heap b (setO X.prog X.w b ms) from I.hok b _ hB).1;refine y5j hSA hSB hk hl hl2 λh' d' rs keep hR hm=>?_;exact⟨.ref (~~~s),_,Inv.laid (t':=s.toks) (I.dr d') keep (qu _) (Yum hR),rfl,q _ rs (I.hok.fresh (qu _)) hR.nodup hm⟩
end
theorem memD:∀(l acc:AH) (x:Int),x∈ddup acc l↔x∈acc\/x∈l
 | [],acc,x=>by simp[ddup]
 | k::l,acc,x=>by
   rw[ddup,memD];grind
theorem nodD:∀(l acc:AH),acc.Nodup->(ddup acc l).Nodup
 | [],_,h=>h
 | k::l,acc,h=>by
   rw[ddup];refine nodD l _ ?_;grind
def xorI(a b:AH):AH:=(ddup [] b).filter (λx=>!(a.contains x))++(ddup [] a).filter (λx=>!(b.contains x))
theorem Ywo:x∈xorI a b↔¬(x∈b↔x∈a):=by
 unfold xorI;rw[List.mem_append,List.mem_filter,List.mem_filter,memD,memD];grind
theorem Ypt(a b:AH):(xorI a b).Nodup:=by
 unfold xorI;rw[List.nodup_append];refine⟨(nodD b [] .nil).filter _,(nodD a [] .nil).filter _,λx hx y hy z=>?_⟩;subst z
 have h1:=(qz hx)
 have h2:=(qz hy)
 rw[memD]at h2;grind
def y1m(l m:AR):Option AR:=(intsD l).bind λa=>(intsD m).bind λb=>
 if a.length<4000/\b.length<4000/\(ddup [] a).length<64/\(ddup [] b).length<64/\(b.all λk=>decide (0<=k/\k<1024))=true/\(xorI a b).length<64 then some ((Yc1 (xorI a b)).map D.int)else none
section
variable {X:Cx}{e e2:Expr}{f f2:AX}{p p2 p3 pos pos2 pos3 pos4:Pos}
def Yjw(f f2:AX):AY:=λρ=>(b1 f Yn ρ).bind λl=>(b1 f2 Yn ρ).bind λm=>y1m l m
@[simp] theorem ap_xorsetF:Yjw f f2 ρ=((f ρ).bind Yn).bind λl=>((f2 ρ).bind Yn).bind λm=>y1m l m:=nr0 rfl
end
end
section
set_option maxRecDepth 100000
end
section
set_option maxRecDepth 100000
section
variable {prog:Program}{w:World}{A:Around}{E:AB}{s:Shared}
structure SetQ(w:World)(h:Heap)(a:Addr)(us:List (Int×Addr)):Prop where
 ex:∃o es ep t,h.get? a=some o/\o.ExactSet/\o.data=.set es ep t/\es.toList=us.map (λu=>(u.1,Value.ref u.2))/\t.fits es.size=true/\t.mask=7/\t.dummies=#[]/\t.place.toList=us.map (λu=>SetTable.bits u.1%8)/\Tab (byT w) t
end
end
section
set_option maxRecDepth 100000
end
section
end
section
set_option maxRecDepth 100000
def advM(mask:Nat)(p:SetTable.Probe):SetTable.Probe:=SetTable.advance { mask:=mask,place:=#[],dummies:=#[],finger:=0,led:=false,moves:=0,plain:=false } p
def itP(mask:Nat):Nat->SetTable.Probe->SetTable.Probe
 | 0,p=>p
 | k+1,p=>itP mask k (advM mask p)
def stP(mask i perturb:Nat):SetTable.Probe:={ j:=i,more:=SetTable.runEnd mask i-i,i,perturb,dummy:=none }
def Way(mask:Nat)(occ:Nat->Prop)(p:SetTable.Probe)(j:Nat):Prop:=∃k,(itP mask k p).j=j/\∀m,m<k->occ (itP mask m p).j
abbrev hSt(mask:Nat)(h:Int):SetTable.Probe:=stP mask (SetTable.bits h%(mask+1)) (SetTable.bits h)
section
variable {t:SetTable}{hA:Nat->Int}{h:Int}
structure Clean(t:SetTable)(n:Nat):Prop where
 hs:t.mask+1∈sizes
 dm:t.dummies=#[]
 rise:Rise t.place
 le:∀j∈t.place.toList,j<=t.mask
 sz:t.place.size=n
 room:n<=t.mask
end
end
section
set_option maxRecDepth 100000
def bI(b:Bool):Int:=if b then 1 else 0
def bH(bs:AJ):Int:=Yab5 (bs.map bI)
def TupB(h:Heap)(u:Addr)(bs:AJ):Prop:=bs.length<=4/\∃o n,h.get? u=some o/\o.cls=.type "tuple"/\o.data=.seq (bs.map Value.bool).toArray n
structure SetB(w:World)(h:Heap)(S:Addr)(us:List (Addr×AJ)):Prop where
 ex:∃o es ep t,h.get? S=some o/\o.ExactSet/\o.data=.set es ep t/\es.toList.Perm (us.map λu=>(bH u.2,Value.ref u.1))/\t.fits es.size=true/\Clean t es.size/\Tab (byT w) t/\es.size*5<t.mask*3/\∀q∈es.toList.zip t.place.toList,Way t.mask (·∈t.place.toList) (hSt t.mask q.1.1) q.2
 keys:(us.map (·.2)).Nodup
 tups:∀u∈us,TupB h u.1 u.2
 few:us.length<=24
end
section
set_option maxRecDepth 100000
section
variable {n:Nat}{key:Nat->Nat}{cmp:Nat->Nat->(Bool->Shared->Prop)->Shared->Prop}{s:Shared}
variable (hinj:∀i j,i<n->j<n->key i=key j->i=j) (hc:∀i j (C:Bool->Shared->Prop),i<n->j<n->C (decide (key i<key j)) s->cmp i j C s)
include hinj hc
omit hinj hc in
omit hinj hc in
omit hinj hc in
end
end
section
section
variable {X:Cx}{e:Expr}{f:AX}{p p2 pos pos2:Pos}
def Yr5:D->D->Option D
 | .tup a,.tup b=>if a.length+b.length<=cap6 then some (.tup (a++b))else none
 | _,_=>none
def Yaf5(K:W.Frag):R2:=λx y H Q=>∃a b xs ys,x=.ref a/\y=.ref b/\SqT K H a xs/\SqT K H b ys/\xs.length+ys.length<=sizeLine/\
 (xs=[]->Q (.ref b) H)/\(xs≠[]->ys=[]->Q (.ref a) H)/\(xs≠[]->ys≠[]->∀p,H p=none->Q (.ref p) (upd H p (.tup (xs++ys))))
def y9t:OpR X (binaryOp .Add) (Yaf5 X.K):=by
 intro pins s σ H x y v u Q I rx ry h;obtain⟨a,b,xs,ys,rfl,rfl,ha,hb,hz,q0,q1,q2⟩:=h;by_cases hx:xs=[]
 ·cases rx
  cases ry;obtain⟨its,r1,p1,_⟩:=I.tuple ha;obtain⟨its2,r2,p2,_⟩:=I.tuple hb;have he:its=[]:=r1.nil_iff.mpr hx;obtain⟨⟨cls,dd,data,sl⟩,ho,hc,n,hd⟩:=p1;obtain⟨⟨cls2,dd2,data2,sl2⟩,ho2,hc2,n2,hd2⟩:=p2;simp only at hc hd hc2 hd2;subst hc hd hc2 hd2
  exact concat_meets ⟨_,ho,rfl⟩ ⟨_,ho2,rfl⟩ noFill_tuple_add seq_tuple_add PySem.F.slot_tuple_add PySem.F.entry_tuple_add (PySem.F.args_tuple_add_2 _ _)
   (tuple_addW0 a b its.toArray its2.toArray n n2 dd dd2 sl sl2 (by simp[he])) ⟨ho,ho2,⟨.ref b,H,I,rfl,q0 hx⟩⟩
 ·exact y8a pins s σ H _ _ _ _ Q I rx ry ⟨a,b,xs,ys,rfl,rfl,ha,hb,hx,hz,q1 hx,q2 hx⟩
@[simp] theorem tcatD_tup(a b:AR):Yr5 (.tup a) (.tup b)=if a.length+b.length<=cap6 then some (.tup (a++b))else none:=nr0 rfl
end
end
section
set_option maxRecDepth 100000
end
section
structure ZE(X:Cx)(e:Expr)(f:AX):Prop where
 un:ME X e f
structure ZC(X:Cx)(e:Expr)(f:AX):Prop where
 un:MC X e f
structure ZCA(X:Cx)(es:AM)(f:AY):Prop where
 un:MCA X es f
structure ZF(X:Cx)(e:Expr)(f:AY):Prop where
 un:MF X e f
structure ZT(X:Cx)(e:Expr)(f:AW):Prop where
 un:MT X e f
structure ZW(X:Cx)(e:Expr)(f:AW):Prop where
 un:MW X e f
structure ZA(X:Cx)(es:AM)(f:AY):Prop where
 un:MA X es f
structure ZI(X:Cx)(tg iter:Expr)(f:AY):Prop where
 un:MI X tg iter f
structure ZS(X:Cx)(st:Stmt)(f:AU):Prop where
 un:MS X st f
structure ZB(X:Cx)(sts:List Stmt)(f:AU):Prop where
 un:MB X sts f
structure ZG(X:Cx)(tg:Expr)(gt:AV):Prop where
 un:MG X tg gt
structure ZIfs(X:Cx)(K:W.Frag)(ifs:AM)(f:AW):Prop where
 un:PIfs X ifs (tTof K f)
structure ZO(X:Cx)(e:Option Expr)(f:Option AX):Prop where
 un:PO X e (tO X.K f)
structure ZP(X:Cx)(pos:Pos)(keys:List (Option Expr))(values:AM)(ks:AL)(fs:List AX):Prop where
 un:MP X pos keys values ks fs
section
variable {K:W.Frag}{X:Cx}{H0 G0 H G:Hp}{σ:L2.St}{ρ:Ro}{a b c e:Expr}{es:AM}{fa fb fc f:AX}{ga:AY}{pos:Pos}
def Yd(h:ZE X e f):ZC X e f:=⟨ME.mc h.un⟩
theorem Yg(i:Nat)(hN:X.N[i]?=some x:=by rfl)(hv:Vis X.env.scope x:=by trivial)(hd:Ndb x:=by decide)(hcd:Ncd x:=by decide):ZE X (.Name x pos) (getV i):=⟨
 PE.imp (Yig hN hv hd hcd) λσ H Q hx_=>by
  obtain⟨ρ,d,H0,G0,G,e,s,h⟩:=hx_;obtain⟨v,h1,h2⟩:=s.sh i d (Yrj e)
  exact⟨v,h1,h v H G (.refl s.seen) h2⟩⟩
theorem Yc(i:Nat)(hN:X.N[i]?=some x:=by rfl)(hv:Vis X.env.scope x:=by trivial)(hd:Ndb x:=by decide)(hcd:Ncd x:=by decide):ZC X (.Name x pos) (getC i):=⟨
 PE.imp (Yig hN hv hd hcd) λσ H Q hx_=>by
  obtain⟨ρ,d,H0,G0,G,e,s,h⟩:=hx_;unfold getC at e
  split at e
  ·rename_i d' hd'
   cases e;obtain⟨v,h1,h2⟩:=s.sh i _ hd';exact⟨v,h1,h v H G (.refl s.seen) (.of s.seen h2)⟩
  ·rename_i l hl
   cases e;obtain⟨a,xs,h1,h2,h3,h4,h5⟩:=s.ow i l hl;exact⟨_,h1,h _ H G (.refl s.seen) (by rw[Ct];exact⟨a,xs,rfl,.inl h4,h5⟩)⟩
  ·rename_i t ks vs hl
   cases e;obtain⟨a,kxs,vxs,h1,h2,h3,h4,h5⟩:=s.od i t ks vs hl;exact⟨_,h1,h _ H G (.refl s.seen) (by rw[Ct];exact⟨a,kxs,vxs,rfl,h4,h5⟩)⟩
  ·cases e⟩
def Yj{j}:ZE X (.Constant (.int i) j pos) (kD (.int i)):=⟨y6w ⟩
def Ydr{j}:ZE X (.Constant (.bool k) j pos) (kD (.bl k)):=⟨Yafk ⟩
def Yat{j}:ZE X (.Constant .none j pos) (kD .non):=⟨Yab8 ⟩
theorem Yz{j}(hx:PyData.strOk x=true:=by decide +kernel):ZE X (.Constant (.str x) j pos) (kD (.str x)):=⟨Yk5 (v:=.str x) Yaa0 (λ_ _ _ q=>q) λ_=>by rw[Rp];grind⟩
def Ymb(ha:ZC X a fa)(hb:ZC X b fb):ZE X (.BinOp a .Sub b pos) (b2 fa fb subI):=⟨have ha:=ha.un;have hb:=hb.un;Yod Yabe Yz6 ha hb⟩
def y1o(ha:ZC X a fa)(hb:ZC X b fb):ZE X (.BinOp a .Mult b pos) (b2 fa fb mulI):=⟨have ha:=ha.un;have hb:=hb.un;Yod Yabf (Yv8 λi j h=>by
 simp only[Bool.or_eq_true,Qb,wm]at h
 exact h) ha hb⟩
def Yfq(ha:ZC X a fa)(hb:ZC X b fb):ZE X (.BinOp a .FloorDiv b pos) (b2 fa fb divI):=⟨have ha:=ha.un;have hb:=hb.un;Yod y7z (Yv8 λi j h=>by
 simp only[Qb,wm]at h
 exact h) ha hb⟩
def Yba(ha:ZC X a fa)(hb:ZC X b fb):ZE X (.BinOp a .Mod b pos) (b2 fa fb modI):=⟨have ha:=ha.un;have hb:=hb.un;Yod Yabg (Yv8 λi j h=>wq h) ha hb⟩
def Ywp(ha:ZC X a fa)(hb:ZC X b fb):ZT X (.Compare a [.Lt] [b] pos) (b2 fa fb ltI):=⟨have ha:=ha.un;have hb:=hb.un;Ye9 Yabj Ype ha hb (Yih _)⟩
def Yadw(ha:ZC X a fa)(hb:ZC X b fb):ZT X (.Compare a [.Gt] [b] pos) (b2 fa fb gtI):=⟨have ha:=ha.un;have hb:=hb.un;Ye9 Yafd Ype ha hb (Yih _)⟩
def Yhm(hu:X.A.units+64<cLine)(ha:ZC X a fa)(hb:ZC X b fb):ZE X (.Compare a [.Eq] [b] pos) (mB (b2 fa fb (eqM false))):=⟨have ha:=ha.un;have hb:=hb.un;Yoe (y6y hu) Ypf ha hb (Yih _)⟩
def Ywq(hu:X.A.units+64<cLine)(ha:ZC X a fa)(hb:ZC X b fb):ZE X (.Compare a [.NotEq] [b] pos) (mB (b2 fa fb (eqM true))):=⟨have ha:=ha.un;have hb:=hb.un;Yoe (y6z hu) Ypf ha hb (Yih _)⟩
def Yds(hu:X.A.units+64<cLine)(ha:ZC X a fa)(hb:ZC X b fb):ZT X (.Compare a [.Eq] [b] pos) (b2 fa fb (eqM false)):=⟨have ha:=ha.un;have hb:=hb.un;Ye9 (y6y hu) Ypf ha hb (Yih _)⟩
def Ymc(hu:X.A.units+64<cLine)(ha:ZC X a fa)(hb:ZC X b fb):ZT X (.Compare a [.NotEq] [b] pos) (b2 fa fb (eqM true)):=⟨have ha:=ha.un;have hb:=hb.un;Ye9 (y6z hu) Ypf ha hb (Yih _)⟩
def Yadx(hu:X.A.units+64<cLine)(ha:ZC X a fa)(hb:ZC X b fb)(hm:behindInMarks .In b=false:=by with_unfolding_all rfl):ZE X (.Compare a [.In] [b] pos) (mB (b2 fa fb (inM false))):=⟨have ha:=ha.un;have hb:=hb.un;Yoe (y60 hu) Yt7 ha hb hm⟩
def y1p(hu:X.A.units+64<cLine)(ha:ZC X a fa)(hb:ZC X b fb)(hm:behindInMarks .In b=false:=by with_unfolding_all rfl):ZT X (.Compare a [.In] [b] pos) (b2 fa fb (inM false)):=⟨have ha:=ha.un;have hb:=hb.un;Ye9 (y60 hu) Yt7 ha hb hm⟩
def y1q(hu:X.A.units+64<cLine)(ha:ZC X a fa)(hb:ZC X b fb)(hm:behindInMarks .NotIn b=false:=by with_unfolding_all rfl):ZT X (.Compare a [.NotIn] [b] pos) (b2 fa fb (inM true)):=⟨have ha:=ha.un;have hb:=hb.un;Ye9 (Yz7 hu) Yt7 ha hb hm⟩
end
section
variable {K:W.Frag}{X:Cx}{a b c e tg elt iter ie ke:Expr}{es rest ifs elts:AM}{fa fb f fe fk:AX}{fc fd:AW}{ga gl:AY}{pos p pos' pt p2 pos2 px:Pos}{x:Str}{id T:String}{r:AQ->Hp->VK->Prop}{g:AR->Option D}{gf:AR->Option AR}{st:Stmt}{sts:List Stmt}{fs gs:AU}{scope:Scope}{N:AL}{src:List AN}{gt:AV}{P:Program}{w:World}{mg:AE}{base:Heap}{x1:Nat}{ta:TA}
def Ybv(ha:ZC X a fa)(he:∀whole,isTrue a X.env whole=(do let v <-whole;standAt a.pos;holding [v] (truthy v)):=by intro _;rfl):ZT X a (b1 fa truD):=⟨have ha:=ha.un;
 PT.imp (y4a ha he) λσ H Q hx_=>by
  obtain⟨ρ,k,H0,G0,G,e,s,h⟩:=hx_;obtain⟨d,h1,h2⟩:=Ycl e
  exact tCof.at h1 s λv H1 G1 g1 r1 s1=>⟨k,y8l h2 r1,h H1 G1 g1⟩⟩
def Yfr(ha:ZT X a fc):ZW X (.BoolOp .And [a] pos) fc:=⟨have ha:=ha.un;y7v ha⟩
def y1r(ha:ZT X a fc):ZW X (.BoolOp .Or [a] pos) fc:=⟨have ha:=ha.un;Yaa1 ha⟩
def Yh4(ha:ZT X a fc)(hb:ZW X (.BoolOp .And (b::rest) pos) fd):ZW X (.BoolOp .And (a::b::rest) pos) (andT fc fd):=⟨have ha:=ha.un;have hb:=hb.un;PW.imp (Yaa2 ha hb) λ_ _ _ h=>y8n h⟩
def y7c(ha:ZT X a fc)(hb:ZW X (.BoolOp .Or (b::rest) pos) fd):ZW X (.BoolOp .Or (a::b::rest) pos) (orT fc fd):=⟨have ha:=ha.un;have hb:=hb.un;PW.imp (Yae2 ha hb) λ_ _ _ h=>Yach h⟩
def Yup(ha:ZT X a fc):ZT X (.UnaryOp .Not a pos) (notT fc):=⟨have ha:=ha.un;PT.imp (Yaa3 ha) λσ H Q hx_=>by
 obtain⟨ρ,k,H0,G0,G,e,s,h⟩:=hx_;obtain⟨k1,h1,rfl⟩:=qc e
 exact tTof.at h1 s λH1 G1 g1 _=>h H1 G1 g1⟩
def Yla(ha:ZE X a fa):ZE X (.BoolOp .And [a] pos) fa:=⟨have ha:=ha.un;Yaa4 ha⟩
def Ypu(ha:ZE X a fa)(hb:ZE X (.BoolOp .And (b::rest) pos) fb):ZE X (.BoolOp .And (a::b::rest) pos) (andV fa fb):=⟨have ha:=ha.un;have hb:=hb.un;PE.imp (Yaa5 ha hb) λσ H Q hx_=>by
 obtain⟨ρ,d,H0,G0,G,e,s,h⟩:=hx_;unfold andV at e;obtain⟨k,h1,e⟩:=qa e;obtain⟨d1,h2,h3⟩:=Ycl h1;cases Yv9 h3
 refine tOf.at h2 s λv H1 G1 g1 r1 s1=>⟨k,by rw[Rp]at r1;exact r1,?_⟩
 cases k with
 | true=>
   rw[if_pos rfl]at e ⊢;exact tOf.at e s1 λw H2 G2 g2 r2 _=>h w H2 G2 (g1.trans g2) r2
 | false=>
   rw[if_neg qi]at e ⊢;cases e
   exact h _ H1 G1 g1 (by rw[Rp])⟩
def y1s(ha:ZE X a fa):ZE X (.UnaryOp .Not a pos) (notV fa):=⟨have ha:=ha.un;PE.imp (Yaa6 ha) λσ H Q hx_=>by
 obtain⟨ρ,d,H0,G0,G,e,s,h⟩:=hx_;obtain⟨k,h1,rfl⟩:=qc e;obtain⟨d1,h2,h3⟩:=Ycl h1;cases Yv9 h3
 exact tOf.at h2 s λv H1 G1 g1 r1 s1=>⟨k,by rw[Rp]at r1;exact r1,h _ H1 G1 g1 (by rw[Rp])⟩⟩
def Ywr(hc:ZT X c fc)(ha:ZE X a fa)(hb:ZE X b fb):ZE X (.IfExp c a b pos) (ifV fc fa fb):=⟨have hc:=hc.un;have ha:=ha.un;have hb:=hb.un;PE.imp (y34 hc ha hb) λσ H Q hx_=>by
 obtain⟨ρ,d,H0,G0,G,e,s,h⟩:=hx_;unfold ifV at e;obtain⟨k,h1,e⟩:=qa e;refine tTof.at h1 s λH1 G1 g1 s1=>?_
 cases k with
 | true=>
   rw[if_pos rfl]at e ⊢;exact tOf.at e s1 λw H2 G2 g2 r2 _=>h w H2 G2 (g1.trans g2) r2
 | false=>
   rw[if_neg qi]at e ⊢
   exact tOf.at e s1 λw H2 G2 g2 r2 _=>h w H2 G2 (g1.trans g2) r2⟩
def Yws(ha:ZC X a fa)(hb:ZC X b fb):ZE X (.Compare a [.IsNot] [b] pos) (mB (b2 fa fb (isN true))):=⟨have ha:=ha.un;have hb:=hb.un;Yoe Yzn Ywb ha hb (Yih _)⟩
def Yuq(ha:ZC X a fa)(hb:ZC X b fb):ZT X (.Compare a [.Is] [b] pos) (b2 fa fb (isN false)):=⟨have ha:=ha.un;have hb:=hb.un;Ye9 Yabk y8p ha hb (Yih _)⟩
def Yer(ha:ZC X a fa)(hb:ZC X b fb):ZT X (.Compare a [.IsNot] [b] pos) (b2 fa fb (isN true)):=⟨have ha:=ha.un;have hb:=hb.un;Ye9 Yzn Ywb ha hb (Yih _)⟩
def Yl(ha:ZC X a fa)(hb:ZC X b fb)(hs:Ye1 b:=by intro _ _;rfl):ZE X (.Subscript a b pos) (b2 fa fb ixD):=⟨Yz9 ha.un hb.un hs⟩
def y1t{lo hi:Option Expr}(ha:ZC X a fa)(hl:ZO X lo fl)(hh:ZO X hi fh):ZF X (.Subscript a (.Slice lo hi none p2) pos) (slF fa fl fh):=⟨have ha:=ha.un;have hl:=hl.un;have hh:=hh.un;
 PE.imp (Yv3 Yzy ha hl hh) λσ H Q hx_=>by
  obtain⟨ρ,l,H0,G0,G,e,s,h⟩:=hx_;unfold slF at e;obtain⟨l0,h1,e⟩:=qa e;obtain⟨i,h2,e⟩:=qa e;obtain⟨j,h3,e⟩:=qa e;cases e;obtain⟨d,h4,h5⟩:=Ycl h1;refine tCof.at h4 s λv H1 G1 g1 r1 s1=>y4o h2 s1 λH2 G2 g2 s2=>y4o h3 s2 λH3 G3 g3 s3=>?_;have r3:=(r1.grow g2).grow g3;obtain⟨p,xs,rfl,g,rl⟩:=Yrk h5 r3;refine⟨p,xs,rfl,g,λq hq=>?_⟩;have hq0:H q=none:=g1.h.free (g2.h.free (g3.h.free hq));have gg:=((g1.trans g2).trans g3).trans (Gr.hid (p:=q) s3.seen hq (.lst (cutV xs i j)));refine h q _ _ G3 gg hq0 (s3.seen.free hq) Yt ?_;unfold cutD cutV;rw[rl.length]
  exact(rl.drop _).take _⟩
def Yr6 :ZO X none none:=⟨Yafv ⟩
def Yr7(h:ZC X e f):ZO X (some e) (some f):=⟨have h:=h.un;y79 h⟩
def Yai{g:AY}(h:ZF X e g):ZE X e (lF g):=⟨MF.me h.un⟩
def Yh :ZA X [] aNil:=⟨y0a ⟩
def Yb(ha:ZE X e f)(hr:ZA X es ga)(hs:starEach (e::es) X.env=(false,eval e X.env)::starEach es X.env:=by rfl):ZA X (e::es) (Ye f ga):=⟨Yt9 ha.un hr.un hs⟩
def Ys :ZCA X [] aNil:=⟨Yhz ⟩
def Yq(ha:ZC X e f)(hr:ZCA X es ga)(hs:starEach (e::es) X.env=(false,eval e X.env)::starEach es X.env:=by rfl):ZCA X (e::es) (Ye f ga):=⟨Yfo ha.un hr.un hs⟩
theorem Yu{x1}(h:ZA X es ga):ZE X (.Tuple es x1 pos) (dTup ga):=⟨have h:=h.un;PE.imp (Yabo h) λσ H Q hx_=>by
 obtain⟨ρ,d,H0,G0,G,e,s,h⟩:=hx_;unfold dTup at e;obtain⟨l,h1,e⟩:=qa e
 split at e
 ·cases e
  refine tAof.at h1 s λvs H1 G1 g1 r1 s1=>⟨by rw[r1.length];exact Yea (by assumption),λp hp=>?_⟩
  refine h _ _ _ (g1.trans (.new s1.seen hp (.tup vs))) ?_;rw[Rp];exact⟨p,vs,rfl,Yt,r1.mono (Gr.new s1.seen hp (.tup vs)).g⟩
 ·cases e⟩
def Ycm(h:ZA X es ga):ZF X (.List es pos) (dLst ga):=⟨y61 h.un⟩
theorem Yao(hc:Ydt X (.builtin id) r)(hr:SemC X.K r g)(hg:Gl X x)(hm:X.mg x=none)(hv:bootBuiltins x=some (.builtin id))(ha:ZCA X (e::es) ga)(hn:x≠"__name__":=by decide)(hdb:Ndb x:=by decide)(he:starEach (e::es) X.env=(false,eval e X.env)::starEach es X.env:=by rfl)(hpl:(backTo pos (starEach es X.env)).any (·.1)=false:=by rfl):ZE X (.Call (.Name x p) (e::es) [] pos) (cC ga g):=⟨have ha:=ha.un;
 PE.imp (Yk1 hc hg hm hv ha hn hdb he hpl) λ_ _ _ h=>y62 hr h⟩
theorem Yed(hc:Ydt X (.builtin id) r)(hr:SemF X.K r gf)(hg:Gl X x)(hm:X.mg x=none)(hv:bootBuiltins x=some (.builtin id))(ha:ZCA X (e::es) ga)(hn:x≠"__name__":=by decide)(hdb:Ndb x:=by decide)(he:starEach (e::es) X.env=(false,eval e X.env)::starEach es X.env:=by rfl)(hpl:(backTo pos (starEach es X.env)).any (·.1)=false:=by rfl):ZF X (.Call (.Name x p) (e::es) [] pos) (cF ga gf):=⟨have ha:=ha.un;
 PE.imp (Yk1 hc hg hm hv ha hn hdb he hpl) λ_ _ _ h=>y0b hr h⟩
theorem Yag(hc:Ydt X (.type T) r)(hr:SemC X.K r g)(hg:Gl X x)(hm:X.mg x=none)(hv:bootBuiltins x=some (.type T))(ha:ZCA X (e::es) ga)(hn:x≠"__name__":=by decide)(hdb:Ndb x:=by decide)(he:starEach (e::es) X.env=(false,eval e X.env)::starEach es X.env:=by rfl)(hpl:(backTo pos (starEach es X.env)).any (·.1)=false:=by rfl):ZE X (.Call (.Name x p) (e::es) [] pos) (cC ga g):=⟨have ha:=ha.un;
 PE.imp (Yd6 hc hg hm hv ha hn hdb he hpl) λ_ _ _ h=>y62 hr h⟩
theorem Yd2(hc:Ydt X (.type T) r)(hr:SemF X.K r gf)(hg:Gl X x)(hm:X.mg x=none)(hv:bootBuiltins x=some (.type T))(ha:ZCA X (e::es) ga)(hn:x≠"__name__":=by decide)(hdb:Ndb x:=by decide)(he:starEach (e::es) X.env=(false,eval e X.env)::starEach es X.env:=by rfl)(hpl:(backTo pos (starEach es X.env)).any (·.1)=false:=by rfl):ZF X (.Call (.Name x p) (e::es) [] pos) (cF ga gf):=⟨have ha:=ha.un;
 PE.imp (Yd6 hc hg hm hv ha hn hdb he hpl) λ_ _ _ h=>y0b hr h⟩
def Yac :ZB X [] sNil:=⟨Yacp ⟩
def Yi(h1:ZS X st fs)(h2:ZB X sts gs):ZB X (st::sts) (sSeq fs gs):=⟨have h1:=h1.un;have h2:=h2.un;PSs.imp (y35 h1 h2) λF σ H hx_=>by
 obtain⟨ρ,out,H0,G0,G,e,s,h⟩:=hx_;unfold sSeq at e;obtain⟨o,h3,e⟩:=qa e
 cases o with
 | nx ρ'=>exact⟨ρ,.nx ρ',H0,G0,G,h3,s,λσ' H' G' s'=>⟨ρ',out,H0,G0,G',e,s',h⟩⟩
 | rt d=>cases e;exact⟨ρ,.rt d,H0,G0,G,h3,s,h⟩
 | bk ρ'=>cases e;exact⟨ρ,.bk ρ',H0,G0,G,h3,s,h⟩
 | ct ρ'=>cases e;exact⟨ρ,.ct ρ',H0,G0,G,h3,s,h⟩⟩
def Ym(h1:ZS X st fs):ZB X [st] fs:=⟨have h1:=h1.un;y7x h1⟩
def Ydn(is:AG)(h:ZS X st fs):ZS X st (wF is fs):=⟨have h:=h.un;PS.imp h λF σ H hx_=>by
 obtain⟨ρ,out,H0,G0,G,e,s,h⟩:=hx_;obtain⟨G',s'⟩:=SR.frz is s
 exact⟨frz is ρ,out,H0,G0,G',e,s',h⟩⟩
theorem Yv(i:Nat)(hN:X.N.Nodup)(he:ZE X e f)(hi:X.N[i]?=some x:=by rfl)(hx:Loc X.env.scope x:=by trivial)(hs:swapsWith e (some (.Name x pos')) pos.line X.env=pure false:=by rfl)(hf:X.fn x=true\/X.env.scope.names.lookup x=some .local:=by trivial):ZS X (.Assign [.Name x pos'] e pos) (sSet i f):=⟨y63 i hN he.un hi hx hs hf⟩
theorem Ye2(i:Nat)(hN:X.N.Nodup)(he:ZF X e gl)(hi:X.N[i]?=some x:=by rfl)(hx:Loc X.env.scope x:=by trivial)(hs:swapsWith e (some (.Name x pos')) pos.line X.env=pure false:=by rfl)(hf:X.fn x=true\/X.env.scope.names.lookup x=some .local:=by trivial):ZS X (.Assign [.Name x pos'] e pos) (sOwn i gl):=⟨have he:=he.un;PS.imp (Yn7 hN hi hx he hs hf) λ_ _ _ h=>Yact h⟩
def Yo(he:ZE X e f):ZS X (.Return (some e) pos) (sRet f):=⟨have he:=he.un;PS.imp (Yaa7 he) λF σ H hx_=>by
 obtain⟨ρ,out,H0,G0,G,e,s,h⟩:=hx_;obtain⟨d,h1,rfl⟩:=qc e
 exact tOf.at h1 s λv H1 G1 g1 r1 s1=>h v H1 G1 s1.gr r1⟩
def Yaj{a b:List Stmt}(hc:ZT X c fc)(ha:ZB X a fs)(hb:ZB X b gs):ZS X (.If c a b pos) (sIf fc fs gs):=⟨have hc:=hc.un;have ha:=ha.un;have hb:=hb.un;PS.imp (Yae7 hc ha hb) λF σ H hx_=>by
 obtain⟨ρ,out,H0,G0,G,e,s,h⟩:=hx_;unfold sIf at e;obtain⟨k,h1,e⟩:=qa e;refine tTof.at h1 s λH1 G1 g1 s1=>?_
 cases k with
 | true=>
   rw[if_pos rfl]at e ⊢;exact⟨ρ,out,H0,G0,G1,e,s1,h⟩
 | false=>
   rw[if_neg qi]at e ⊢
   exact⟨ρ,out,H0,G0,G1,e,s1,h⟩⟩
theorem y9v(i:Nat)(hN:X.N.Nodup)(he:ZC X e f)(hi:X.N[i]?=some x:=by rfl)(hx:Loc X.env.scope x:=by trivial)(hf:X.fn x=true\/X.env.scope.names.lookup x=some .local:=by trivial):ZS X (.AugAssign (.Name x pos') .Add e pos) (sInc i f):=⟨have he:=he.un;PS.imp (Yaa9 hN hi hx he Yaba) λF σ H hx_=>by
 obtain⟨ρ,out,H0,G0,G,e,s,h⟩:=hx_;unfold sInc at e;obtain⟨dx,h1,e⟩:=qa e;obtain⟨dy,h2,e⟩:=qa e;obtain⟨dz,h3,rfl⟩:=qc e;obtain⟨v,hv,rv⟩:=s.sh i dx (Yrj h1);refine⟨v,hv,tCof.at h2 s λu H1 G1 g1 r1 s1=>?_⟩
 have h4:∃p q,dx=.int p/\dy=.int q/\dz=.int (p+q):=by
  unfold i2 at h3;grind
 obtain⟨p,q,rfl,rfl,rfl⟩:=h4;rw[Rp]at rv;rw[Ct]at r1
 exact⟨p,q,rv,r1,h _ H1 G1 (s1.set_sh i (by rw[Rp]))⟩⟩
abbrev Few(X:Cx)(c:Pos)(l:AM):Prop:=((backTo c (starEach l X.env)).all (λx=>!x.1)&&(backToKw c (keywordEach [] X.env)).all (λx=>x.1.isSome)&&decide (l.length+([]:List Keyword).length+(if ([]:List Keyword).isEmpty then 0 else 1)<30))=true
theorem Yd3(i:Nat){p2 apos cpos:Pos}(he:ZE X e f)(hN:X.N[i]?=some x:=by rfl)(hv:Vis X.env.scope x:=by trivial)(hd:Ndb x:=by decide)(hcd:Ncd x:=by decide)(hse:swapsWith (.Call (.Attribute (.Name x p2) "append" apos) [e] [] cpos) none pos.line X.env=pure false:=by rfl)(hs:starEach [e] X.env=[(false,eval e X.env)]:=by rfl)(hfew:Few X cpos [e]:=by rfl)(hline:(apos.endLine==cpos.line)=true:=by rfl)(hbase:attributeBase (.Name x p2) "append" X.env (eval (.Name x p2) X.env)=eval (.Name x p2) X.env:=by rfl):ZS X (.Expr (.Call (.Attribute (.Name x p2) "append" apos) [e] [] cpos) pos) (sMut i f appD):=⟨have he:=he.un;
 PS.imp (Ylj (Yxu PySem.F.plainAttrs_list PySem.F.slot_list_append PySem.F.type_list_append Yrb (Yig hN hv hd hcd) (Ydm he Yhk hs) hbase hfew hline hs rfl) hse) λF σ H hx_=>by
  obtain⟨ρ,out,H0,G0,G,e,s,h⟩:=hx_;unfold sMut at e;obtain⟨l,h1,e⟩:=qa e;obtain⟨d,h2,e⟩:=qa e;obtain⟨l',h3,rfl⟩:=qc e;unfold appD at h3
  split at h3
  ·rename_i hl
   cases h3;obtain⟨a,xs,ha,hH,hr,hG⟩:=Ywd s h1;refine⟨_,ha,.inl ⟨rfl,xs,SqL.of hH⟩,tOf.at h2 s λv H1 G1 g1 r1 s1=>?_⟩;refine⟨a,xs,v,rfl,rfl,g1.h _ _ hH,?_,h σ _ G1 (s1.mut (Ygd h1) ha ((hr.mono g1.g).append (.one r1)))⟩;rw[hr.length];exact Qc hl (Yea (qu _))
  ·cases h3⟩
theorem Yae(hl:ZE X l f):ZI X tg l (b1 f Yn):=⟨have hl:=hl.un;PI.imp (Yacx hl) λσ H R hx_=>by
 obtain⟨ρ,ds,H0,G0,G,e,s,h⟩:=hx_;obtain⟨c,h1,h2⟩:=Ycl e;refine tOf.at h1 s λv H1 G1 g1 r1 s1=>?_;rcases Yaw h2 with rfl|rfl|⟨ns,rfl,rfl⟩
 ·rw[Rp]at r1
  obtain⟨p,xs,rfl,g,rl⟩:=r1;refine⟨p,xs,rfl,.inr ⟨.inl (.inl (s1.seen _ _ g)),λhz=>h _ H1 G1 g1 (y0f (by rw[<-rl.length];exact hz) λi H2 G2 e1 e2=>⟨λd hd=>?_,λhi=>⟨xs,.inl (.inl (e2 _ _ (e1 _ _ g))),by rw[rl.length];exact hi⟩⟩)⟩⟩;obtain⟨x,hx,rx⟩:=rl.get hd;refine⟨⟨xs,x,.inl (.inl (e2 _ _ (e1 _ _ g))),hx⟩,λy H3 q=>⟨q.1,?_⟩⟩;have:=q.2 xs (.inl (.inl (e2 _ _ (e1 _ _ g))));rw[hx]at this;cases this;exact rx.mono e1
 ·rw[Rp]at r1
  obtain⟨p,xs,rfl,g,rl⟩:=r1;refine⟨p,xs,rfl,.inl ⟨.inl (Ybo s1.seen g),λhz=>h _ H1 G1 g1 (y0f (by rw[<-rl.length];exact hz) λi H2 G2 e1 e2=>⟨λd hd=>?_,λhi=>⟨xs,.inl (Ybo e2 (Ybo e1 g)),by rw[rl.length];exact hi⟩⟩)⟩⟩;obtain⟨x,hx,rx⟩:=rl.get hd;refine⟨⟨xs,x,.inl (Ybo e2 (Ybo e1 g)),hx⟩,λy H3 q=>⟨q.1,?_⟩⟩;have:=q.2 xs (.inl (Ybo e2 (Ybo e1 g)));rw[hx]at this;cases this;exact rx.mono e1
 ·rw[Rp]at r1
  obtain⟨p,rfl,g⟩:=r1;have rl:RpL X.K G1 (ns.map D.int) (ns.map V.int):=.ints ns;refine⟨p,_,rfl,.inl ⟨s1.seen.seq g,λhz=>h _ H1 G1 g1 (y0f (by grind) λi H2 G2 e1 e2=>⟨λd hd=>?_,λhi=>⟨_,e2.seq (e1.seq g),by grind⟩⟩)⟩⟩;obtain⟨x,hx,rx⟩:=rl.get hd;refine⟨⟨_,x,e2.seq (e1.seq g),hx⟩,λy H3 q=>⟨q.1,?_⟩⟩;have:=q.2 _ (e2.seq (e1.seq g));rw[hx]at this;cases this
  exact rx.mono e1⟩
theorem Yff(hg:Gl X "range")(hm:X.mg "range"=none)(ha:ZA X [a] ga)(hs:starEach [a] X.env=[(false,eval a X.env)]:=by rfl):ZI X tg (.Call (.Name "range" p) [a] [] pos) (cF ga rng1):=⟨have ha:=ha.un;
 PI.imp (Yzk hg hm ha hs) λσ H R hx_=>by
  obtain⟨ρ,ds,H0,G0,G,e,s,h⟩:=hx_;unfold cF at e;obtain⟨l,h1,h2⟩:=qa e;refine tAof.at h1 s λvs H1 G1 g1 r1 s1=>?_;obtain⟨n,rfl,c1,c2,rfl⟩:=y0g h2;obtain⟨v,rfl,rv⟩:=Yjr r1;rw[Rp]at rv;subst rv;refine⟨n,rfl,by lia,by lia,?_⟩;have:=h (Itr 0 (n-0).toNat) H1 G1 g1 (y64 (Yea (by unfold cap6;lia)))
  grind⟩
theorem Yyg(hg:Gl X "range")(hm:X.mg "range"=none)(ha:ZA X [a,b] ga)(hs:starEach [a,b] X.env=[(false,eval a X.env),(false,eval b X.env)]:=by rfl)(hs2:starEach [b] X.env=[(false,eval b X.env)]:=by rfl):ZI X tg (.Call (.Name "range" p) [a,b] [] pos) (cF ga rng2):=⟨have ha:=ha.un;
 PI.imp (Yzl hg hm ha hs hs2) λσ H R hx_=>by
  obtain⟨ρ,ds,H0,G0,G,e,s,h⟩:=hx_;unfold cF at e;obtain⟨l,h1,h2⟩:=qa e;refine tAof.at h1 s λvs H1 G1 g1 r1 s1=>?_;obtain⟨a,n,rfl,c1,c2,c3,c4,rfl⟩:=y0h h2;rw[RpL]at r1;obtain⟨x,r,rfl,rx,r1⟩:=r1;obtain⟨y,rfl,ry⟩:=Yjr r1;rw[Rp]at rx ry;subst rx;subst ry
  exact⟨a,n,rfl,⟨by lia,by lia,by lia,by lia⟩,h _ H1 G1 g1 (y64 (Qg (by lia:(n-a).toNat<=2000000) (by rw[jj];decide)))⟩⟩
theorem Yw(i:Nat)(hN:X.N.Nodup)(hi:X.N[i]?=some x:=by rfl)(hx:Loc X.env.scope x:=by trivial)(hf:X.fn x=true\/X.env.scope.names.lookup x=some .local:=by trivial):ZG X (.Name x pos) (gSet i):=⟨
 PG.imp (Ytz hN hi hx hf) λv σ H Q hx_=>by
  obtain⟨d,ρ,ρ',H0,G0,G,e,s,r,h⟩:=hx_;cases e
  exact h _ (s.set_sh i r)⟩
theorem Ypv(i j:Nat){x y:Str}{px py:Pos}{k:Nat}(hc:X.calm=true)(hN:X.N.Nodup)(hi:X.N[i]?=some x:=by rfl)(hj:X.N[j]?=some y:=by rfl)(hx:Loc X.env.scope x:=by trivial)(hy:Loc X.env.scope y:=by trivial)(hf:X.fn x=true\/X.env.scope.names.lookup x=some .local:=by trivial)(hf2:X.fn y=true\/X.env.scope.names.lookup y=some .local:=by trivial):ZG X (.Tuple [.Name x px,.Name y py] k pos) (Ypg i j):=⟨
 PG.imp (Yaa8 (n:=2) hc (Yvz (Ytz hN hi hx hf) (Yvz (Ytz hN hj hy hf2) y7y))) λv σ H Q hx_=>by
  obtain⟨d,ρ,ρ',H0,G0,G,e,s,r,h⟩:=hx_
  match d,e,r with
  | .tup [a,b],e,r=>
    cases e;rw[Rp]at r;obtain⟨p,xs,rfl,g,rl⟩:=r;rw[RpL]at rl;obtain⟨u,us,rfl,ru,rl⟩:=rl;obtain⟨w,rfl,rw'⟩:=Yjr rl
    exact⟨p,[u,w],rfl,.inl (.inl (s.seen _ _ g)),rfl,u,[w],rfl,w,[],rfl,rfl,h _ ((s.set_sh i ru).set_sh j rw')⟩⟩
theorem Ybe(hp:PassesOwn (model X.prog X.w) X.A X.env X.xe)(hc:X.calm=true)(hi:ZI X tg iter gl)(hg:ZG X tg gt)(hb:ZB X body fs)(hs:∀x,foldedSetIterable iter X.env x=pure x:=by intro _;rfl):ZS X (.For tg iter body [] pos) (sFor gl gt fs):=⟨have hi:=hi.un;have hg:=hg.un;have hb:=hb.un;
 PS.imp (Yabc hp hc hi hg hb hs) λF σ H hx_=>by
  obtain⟨ρ,out,H0,G0,G,e,s,h⟩:=hx_;unfold sFor at e;obtain⟨ds,h1,h2⟩:=qa e;refine⟨ρ,ds,H0,G0,G,h1,s,λJ H1 G1 g1 wk=>?_⟩;obtain⟨Hb,sb,back⟩:=(s.grow g1).rebase;have hout:=Yh0 ds ρ out h2;refine⟨λi m σ' H'=>m=ds.length-i/\i<=ds.length/\∃ρ' G',SR X.K Hb G1 σ' H' G' ρ'/\forM gt fs (ds.drop i) ρ'=some out,⟨_,rfl,jb _,ρ,G1,sb,h2⟩,?_⟩;rintro i m σ' H' ⟨rfl,hi,ρ',G',s',e'⟩;have W:=wk.2 i H' G' s'.gr.g s'.seen;by_cases hlt:i<ds.length
  ·have hd:ds[i]?=some ds[i]:=qq hlt
   obtain⟨go,yl⟩:=W.1 _ hd;rw[List.drop_eq_getElem_cons hlt,forM]at e';obtain⟨ρ1,e1,e'⟩:=qa e';obtain⟨o,e2,e'⟩:=qa e';refine .inr ⟨go,λσ' H'=>i+1<=ds.length/\∃ρ' G',SR X.K Hb G1 σ' H' G' ρ'/\forM gt fs (ds.drop (i+1)) ρ'=some out,λσ2 H2 q=>⟨ds.length-(i+1),by lia,rfl,q.1,q.2⟩,λx H2 y=>?_⟩;obtain⟨G2,g2,r2⟩:=yl x H2 y;refine⟨_,ρ',ρ1,Hb,G1,G2,e1,s'.grow g2,r2,λσ3 s3=>?_⟩;refine⟨ρ1,o,Hb,G1,G2,e2,s3,?_⟩
   cases o with
   | nx ρ2=>exact λσ4 H4 G4 s4=>⟨hlt,ρ2,G4,s4,e'⟩
   | ct ρ2=>exact λσ4 H4 G4 s4=>⟨hlt,ρ2,G4,s4,e'⟩
   | bk ρ2=>
     cases e';exact λσ4 H4 G4 s4=>h σ4 H4 G4 (back _ _ _ _ s4)
   | rt d=>
     cases e';refine λv H4 G4 g4 r4=>h v H4 G4 ?_ r4;have:=(back [] H4 G4 [] (SR.mkSh g4 rfl (λi d e=>(by simp at e)) (λi l e=>(by simp at e)) (λi t ks vs e=>(by simp at e)))).gr;exact this
  ·have ei:i=ds.length:=by lia
   subst ei;rw[List.drop_length,forM]at e';cases e'
   exact .inl ⟨W.2 (qu _),h σ' H' G' (back _ _ _ _ s')⟩⟩
def Yir(n:Nat)(hp:PassesOwn (model X.prog X.w) X.A X.env X.xe)(hc:ZT X c fc)(hb:ZB X body fs):ZS X (.While c body [] pos) (Ybs fc fs n):=⟨have hc:=hc.un;have hb:=hb.un;
 PS.imp (y36 hp hc hb) λF σ H hx_=>by
  obtain⟨ρ,out,H0,G0,G,e,s,h⟩:=hx_;refine⟨λm σ' H'=>∃ρ' G',SR X.K H0 G0 σ' H' G' ρ'/\Ybs fc fs m ρ'=some out,⟨n,ρ,G,s,e⟩,?_⟩;rintro m σ' H' ⟨ρ',G',s',e'⟩
  cases m with
  | zero=>cases e'
  | succ m=>
    rw[Ybs]at e';obtain⟨k,e1,e'⟩:=qa e';refine tTof.at e1 s' λH1 G1 g1 s1=>?_
    cases k with
    | false=>
      rw[if_neg qi]at e';cases e';exact h σ' H1 G1 s1
    | true=>
      rw[if_pos rfl]at e';obtain⟨o,e2,e'⟩:=qa e';refine⟨λσ' H'=>∃ρ' G',SR X.K H0 G0 σ' H' G' ρ'/\Ybs fc fs m ρ'=some out,λσ2 H2 q=>⟨m,Nat.lt_succ_self m,q⟩,?_⟩;refine⟨ρ',o,H0,G0,G1,e2,s1,?_⟩
      cases o with
      | nx ρ2=>exact λσ4 H4 G4 s4=>⟨ρ2,G4,s4,e'⟩
      | ct ρ2=>exact λσ4 H4 G4 s4=>⟨ρ2,G4,s4,e'⟩
      | bk ρ2=>cases e';exact h
      | rt d=>cases e';exact h⟩
def Ybw :ZIfs X X.K [] tY:=⟨Yac0 ⟩
def Yay(S:CompSc X.N X.env.scope N src scope)(hc:X.calm=true)(hit:ZI X tg iter gl)(hg:∀cl C fp s H,ZG (Ya4 X scope N cl C fp s H) tg gt)(hi:∀cl C fp s H,ZIfs (Ya4 X scope N cl C fp s H) X.K ifs fc)(he:∀cl C fp s H,ZE (Ya4 X scope N cl C fp s H) elt fe)(hle:∀ρ d ρ1,gt d (capR src ρ)=some ρ1->Le (capR src ρ) ρ1)(hs:∀x,foldedSetIterable iter X.env x=pure x:=by intro _;rfl):ZF X (.ListComp elt [⟨tg,iter,ifs,0⟩] scope pos) (Ybq gl src gt fc fe):=⟨y8x S hc hit.un (λcl C fp s H=>(hg cl C fp s H).un) (λcl C fp s H=>(hi cl C fp s H).un) (λcl C fp s H=>(he cl C fp s H).un) hle hs⟩
theorem Yg2(i:Nat){py spos:Pos}(hN:X.N.Nodup)(S:CompSc X.N X.env.scope N src scope)(hc:X.calm=true)(hit:ZI X tg iter gl)(hg:∀cl C fp s H,ZG (Ya4 X scope N cl C fp s H) tg gt)(hi:∀cl C fp s H,ZIfs (Ya4 X scope N cl C fp s H) X.K ifs fc)(he:∀cl C fp s H,ZE (Ya4 X scope N cl C fp s H) elt fe)(hle:∀ρ d ρ1,gt d (capR src ρ)=some ρ1->Le (capR src ρ) ρ1)(hsw:swapsWith (.ListComp elt [⟨tg,iter,ifs,0⟩] scope pos) (some (.Name y py)) spos.line X.env=pure true:=by rfl)(hy:X.N[i]?=some y:=by rfl)(hx:Loc X.env.scope y:=by trivial)(hf:X.fn y=true\/X.env.scope.names.lookup y=some .local:=by trivial)(hs:∀x,foldedSetIterable iter X.env x=pure x:=by intro _;rfl):ZS X (.Assign [.Name y py] (.ListComp elt [⟨tg,iter,ifs,0⟩] scope pos) spos) (sOwn i (Ybq gl src gt fc fe)):=⟨y8y i hN S hc hit.un (λcl C fp s H=>(hg cl C fp s H).un) (λcl C fp s H=>(hi cl C fp s H).un) (λcl C fp s H=>(he cl C fp s H).un) hle hsw hy hx hf hs⟩
def Yok{f:Addr}{fd:FuncData}{fb:AU}(F:Fun K x qual st f fd)(S:FnScope N ps (defScope st))(hn:N.length=n)(hm:ps.length=m)(hb:∀(cdv:Value) (A:Around) (outer:List Env) (s:Shared) (H:Hp) (E:XK),Room k (A.deeper (envOfC qual (defScope st) (~~~s) f cdv))->ZB (cxOf CX0 P w K mg base N qual (defScope st) f cdv A outer s H E).nox (defBody st) fb):FnOk P w K mg base CX0 (k+1) f fd ps (spOf K m (runB m n fb)):=y0l F S hn hm (λcdv A outer s H E hr=>(hb cdv A outer s H E hr).un)
theorem Yk(c:Okf X.prog X.w X.K X.mg X.base j n x ps fn)(hr:Room k X.A)(hg:Gl X x)(ha:ZA X (e::es) ga)(hl:∀ρ l,ga ρ=some l->l.length=n)(hj:j<=k:=by first|exact qu _|lia)(hdb:Ndb x:=by decide)(he:starEach (e::es) X.env=(false,eval e X.env)::starEach es X.env:=by rfl)(hpl:(backTo pos (starEach es X.env)).any (·.1)=false:=by rfl):ZE X (.Call (.Name x p) (e::es) [] pos) (cC ga fn):=⟨have ha:=ha.un;by
 obtain⟨a,fd,F,hb,hk,hm⟩:=c
 exact y8s F (hr.mono hj) hg hm hk hb ha hdb he hpl hl⟩
def Yc4(ha:ZC X a fa)(hb:ZC X b fb):ZE X (.BinOp a .Add b pos) (b2 fa fb addI):=⟨have ha:=ha.un;have hb:=hb.un;Yod Yabd Yz6 ha hb⟩
def Ymd(ha:ZC X a fa):ZE X (.UnaryOp .USub a pos) (b1 fa negI):=⟨have ha:=ha.un;PE.imp (Yafb Yabi ha) λσ H Q hx_=>by
 obtain⟨ρ,d,H0,G0,G,e,s,h⟩:=hx_;obtain⟨x,h1,h2⟩:=Ycl e;refine tCof.at h1 s λv H1 G1 g1 r1 s1=>?_;cases x<;>simp[negI]at h2;subst h2;rw[Ct]at r1
 exact⟨_,r1,h _ H1 G1 g1 (by rw[Rp])⟩⟩
def Yur(ha:ZC X a fa)(hb:ZC X b fb):ZF X (.BinOp a .Add b pos) (b2 fa fb catD):=⟨have ha:=ha.un;have hb:=hb.un;PE.imp (y38 y8z ha hb) λσ H Q hx_=>by
 obtain⟨ρ,l,H0,G0,G,e,s,h⟩:=hx_;obtain⟨dx,dy,h1,h2,h3⟩:=Ylr e;refine tCof.at h1 s λv H1 G1 g1 r1 s1=>tCof.at h2 s1 λu H2 G2 g2 r2 s2=>?_;unfold catD at h3
 split at h3
 ·rename_i l1 l2
  split at h3
  ·rename_i hz
   cases h3;have r1':=r1.grow g2;rw[Ct]at r1' r2;obtain⟨p,xs,rfl,gp,rl⟩:=r1';obtain⟨q,zs,rfl,gq,rm⟩:=r2;refine⟨p,q,xs,zs,rfl,rfl,gp,gq,by rw[rl.length,rm.length];exact Yea hz,λm hm=>?_⟩;exact h m _ _ G2 ((g1.trans g2).trans (.hid s2.seen hm _)) (g1.h.free (g2.h.free hm)) (s2.seen.free hm) Yt (rl.append rm)
  ·cases h3
 ·cases h3⟩
theorem y9w(ha:ZC X a fa)(hg:Gl X "isinstance")(hg2:Gl X tn)(hm:X.mg "isinstance"=none)(hm2:X.mg tn=none)(hv2:bootBuiltins tn=some (.type T))(hk:Kit T)(hv:bootBuiltins "isinstance"=some (.builtin "isinstance"):=by decide +kernel)(hn2:tn≠"__name__":=by decide)(hd2:(tn==("__debug__":Str))=false:=by decide)(hs:starEach [a,.Name tn p2] X.env=(false,eval a X.env)::starEach [.Name tn p2] X.env:=by rfl)(hs2:starEach [.Name tn p2] X.env=(false,eval (.Name tn p2) X.env)::starEach [] X.env:=by rfl)(hpl:(backTo pos (starEach [.Name tn p2] X.env)).any (·.1)=false:=by rfl):ZE X (.Call (.Name "isinstance" p) [a,.Name tn p2] [] pos) (mB (b1 fa (isiD T))):=⟨have ha:=ha.un;
 PE.imp (Yk1 (y4w hk) hg hm hv (Ydm ha (Ydm (y7u hg2 hm2 hv2 (v:=.ty T) rfl hn2 hd2) Yhk hs2) hs) (by decide) (by decide) hs hpl) λσ H Q hx_=>by
  obtain⟨ρ,d,H0,G0,G,e,s,h⟩:=hx_;obtain⟨k,ek,rfl⟩:=Yt6 e;obtain⟨x,h1,h2⟩:=Ycl ek;unfold isiD at h2
  split at h2
  ·cases h2
   exact tCof.at h1 s λv H1 G1 g1 r1 s1=>⟨v,x,G1,rfl,by assumption,r1,h _ H1 G1 g1 (by rw[Rp])⟩
  ·cases h2⟩
def Yfs(hg:Gl X "enumerate")(hm:X.mg "enumerate"=none)(hl:ZE X l f)(hs:starEach [l] X.env=[(false,eval l X.env)]:=by rfl):ZI X (.Tuple elts x1 pt) (.Call (.Name "enumerate" p) [l] [] pos) (b1 f Yl0):=⟨have hl:=hl.un;
 PI.imp (y83 hg hm (Yt9 hl y0a hs) hs) λσ H R hx_=>by
  obtain⟨ρ,ds,H0,G0,G,e,s,h⟩:=hx_;obtain⟨c,h1,h2⟩:=Ycl e;obtain⟨l,h3,rfl⟩:=qc h2;refine tAof.at (show Ye f aNil ρ=some [c] by simp[Ye,aNil,h1]) s λvs H1 G1 g1 r1 s1=>?_;obtain⟨v,rfl,rv⟩:=Yjr r1;rcases Yaw h3 with rfl|rfl|⟨ns,rfl,rfl⟩
  ·rw[Rp]at rv
   obtain⟨p,xs,rfl,g,rl⟩:=rv;refine⟨p,xs,rfl,.inr ⟨.inl (.inl (s1.seen _ _ g)),λhz=>h _ H1 G1 g1 ⟨by rw[Ycf,<-rl.length];exact hz,λi H2 G2 e1 e2=>⟨λd hd=>?_,λhi=>⟨xs,.inl (.inl (e2 _ _ (e1 _ _ g))),by rw[rl.length,<-Ycf l];exact hi⟩⟩⟩⟩⟩;obtain⟨d',hd',rfl⟩:=Yl1 hd;obtain⟨x,hx,rx⟩:=rl.get hd';refine⟨⟨xs,x,.inl (.inl (e2 _ _ (e1 _ _ g))),hx⟩,λy H3 q=>?_⟩;obtain⟨y',q',a1,a2,rfl,rfl⟩:=q;have:=a1 xs (.inl (.inl (e2 _ _ (e1 _ _ g))));rw[hx]at this;cases this;exact Gr.newTup e2 a2 i (rx.mono e1)
  ·rw[Rp]at rv
   obtain⟨p,xs,rfl,g,rl⟩:=rv;refine⟨p,xs,rfl,.inl ⟨.inl (Ybo s1.seen g),λhz=>h _ H1 G1 g1 ⟨by rw[Ycf,<-rl.length];exact hz,λi H2 G2 e1 e2=>⟨λd hd=>?_,λhi=>⟨xs,.inl (Ybo e2 (Ybo e1 g)),by rw[rl.length,<-Ycf l];exact hi⟩⟩⟩⟩⟩;obtain⟨d',hd',rfl⟩:=Yl1 hd;obtain⟨x,hx,rx⟩:=rl.get hd';refine⟨⟨xs,x,.inl (Ybo e2 (Ybo e1 g)),hx⟩,λy H3 q=>?_⟩;obtain⟨y',q',a1,a2,rfl,rfl⟩:=q;have:=a1 xs (.inl (Ybo e2 (Ybo e1 g)));rw[hx]at this;cases this;exact Gr.newTup e2 a2 i (rx.mono e1)
  ·rw[Rp]at rv
   obtain⟨p,rfl,g⟩:=rv;have rl:RpL X.K G1 (ns.map D.int) (ns.map V.int):=.ints ns;refine⟨p,_,rfl,.inl ⟨s1.seen.seq g,λhz=>h _ H1 G1 g1 ⟨by rw[Ycf,<-rl.length];exact hz,λi H2 G2 e1 e2=>⟨λd hd=>?_,λhi=>⟨_,e2.seq (e1.seq g),by rw[rl.length,<-Ycf];exact hi⟩⟩⟩⟩⟩;obtain⟨d',hd',rfl⟩:=Yl1 hd;obtain⟨x,hx,rx⟩:=rl.get hd';refine⟨⟨_,x,e2.seq (e1.seq g),hx⟩,λy H3 q=>?_⟩;obtain⟨y',q',a1,a2,rfl,rfl⟩:=q;have:=a1 _ (e2.seq (e1.seq g));rw[hx]at this;cases this
   exact Gr.newTup e2 a2 i (rx.mono e1)⟩
def Yyh(hc:X.calm=true)(hg:Gl X "tuple")(hm:X.mg "tuple"=none)(hg2:Gl X "reversed")(hm2:X.mg "reversed"=none)(ha:ZC X e f)(hs:starEach [e] X.env=[(false,eval e X.env)]:=by rfl)(he:starEach [.Call (.Name "reversed" p2) [e] [] pos2] X.env=[(false,eval (.Call (.Name "reversed" p2) [e] [] pos2) X.env)]:=by rfl):ZE X (.Call (.Name "tuple" p) [.Call (.Name "reversed" p2) [e] [] pos2] [] pos) (λρ=>(revF f ρ).map D.tup):=⟨have ha:=ha.un;
 PE.imp (y0x hc hg hm hg2 hm2 (Yfo ha Yhz hs) hs he) λσ H Q hx_=>by
  obtain⟨ρ,d0,H0,G0,G,e,s,h⟩:=hx_;obtain⟨l1,h0,rfl⟩:=qc e;obtain⟨l0,h1,rfl⟩:=qc h0;obtain⟨d,h2,h3⟩:=Ycl h1;refine tCAof.at (show Ye f aNil ρ=some [d] by simp[Ye,aNil,h2]) s λvs H1 G1 g1 r1 s1=>?_;obtain⟨v,rfl,rv⟩:=Ycz r1;obtain⟨q,xs,rfl,g,rl⟩:=Yrk h3 rv;refine⟨q,xs,rfl,g,λm hm'=>h _ _ _ (g1.trans (.new s1.seen hm' (.tup xs.reverse))) ?_⟩;rw[Rp]
  exact⟨m,_,rfl,Yt,rl.reverse.mono (Gr.new s1.seen hm' _).g⟩⟩
theorem Yyi(i:Nat){p2 apos cpos:Pos}(hb:ZE X ie fb)(he:ZE X e f)(hN:X.N[i]?=some x:=by rfl)(hv:Vis X.env.scope x:=by trivial)(hd:Ndb x:=by decide)(hcd:Ncd x:=by decide)(hse:swapsWith (.Call (.Attribute (.Name x p2) "insert" apos) [ie,e] [] cpos) none pos.line X.env=pure false:=by rfl)(hs:starEach [ie,e] X.env=(false,eval ie X.env)::starEach [e] X.env:=by rfl)(hs2:starEach [e] X.env=[(false,eval e X.env)]:=by rfl)(hfew:Few X cpos [ie,e]:=by rfl)(hline:(apos.endLine==cpos.line)=true:=by rfl)(hbase:attributeBase (.Name x p2) "insert" X.env (eval (.Name x p2) X.env)=eval (.Name x p2) X.env:=by rfl)(hpl:(backTo cpos (starEach [e] X.env)).any (·.1)=false:=by rfl):ZS X (.Expr (.Call (.Attribute (.Name x p2) "insert" apos) [ie,e] [] cpos) pos) (y0t i fb f insD):=⟨have hb:=hb.un;have he:=he.un;
 PS.imp (Ylj (Yxu PySem.F.plainAttrs_list PySem.F.slot_list_insert PySem.F.type_list_insert y0z (Yig hN hv hd hcd) (Ydm hb (Ydm he Yhk hs2) hs) hbase hfew hline hs hpl) hse) λF σ H hx_=>by
  obtain⟨ρ,out,H0,G0,G,e,s,h⟩:=hx_;unfold y0t at e;obtain⟨d,h1,e⟩:=qa e;obtain⟨l,h2,e⟩:=qa e;obtain⟨k,h3,e⟩:=qa e;obtain⟨l',h4,rfl⟩:=qc e;unfold insD at h4;obtain⟨n,h5,h4⟩:=qa h4
  split at h4
  ·rename_i hc
   cases h4;simp only[Qb,wm]at hc;obtain⟨⟨hc1,hc2⟩,hc3⟩:=hc;obtain⟨a,xs,ha,hH,hr,hG⟩:=Ywd s h2;refine⟨_,ha,.inl ⟨rfl,xs,SqL.of hH⟩,tOf.at h3 s λu H1 G1 g1 r1 s1=>tOf.at h1 s1 λv H2 G2 g2 r2 s2=>?_⟩;cases k<;>simp[intD]at h5;subst h5;rw[Rp]at r1;subst r1;have hr2:=(hr.mono g1.g).mono g2.g;refine⟨a,xs,_,v,rfl,rfl,g2.h _ _ (g1.h _ _ hH),hc1,by rw[hr.length];exact hc2,?_,h σ _ G2 (s2.mut (Ygd h2) ha ((hr2.take _).append (.cons r2 (hr2.drop _))))⟩;rw[hr.length];exact Qc hc3 (Yea (qu _))
  ·cases h4⟩
theorem Yyj(i:Nat){p2 apos cpos:Pos}(he:ZE X e f)(hN:X.N[i]?=some x:=by rfl)(hv:Vis X.env.scope x:=by trivial)(hd:Ndb x:=by decide)(hcd:Ncd x:=by decide)(hse:swapsWith (.Call (.Attribute (.Name x p2) "extend" apos) [e] [] cpos) none pos.line X.env=pure false:=by rfl)(hs:starEach [e] X.env=[(false,eval e X.env)]:=by rfl)(hfew:Few X cpos [e]:=by rfl)(hline:(apos.endLine==cpos.line)=true:=by rfl)(hbase:attributeBase (.Name x p2) "extend" X.env (eval (.Name x p2) X.env)=eval (.Name x p2) X.env:=by rfl):ZS X (.Expr (.Call (.Attribute (.Name x p2) "extend" apos) [e] [] cpos) pos) (sMut i f extD):=⟨have he:=he.un;
 PS.imp (Ylj (Yxu PySem.F.plainAttrs_list PySem.F.slot_list_extend PySem.F.type_list_extend Yac9 (Yig hN hv hd hcd) (Ydm he Yhk hs) hbase hfew hline hs rfl) hse) λF σ H hx_=>by
  obtain⟨ρ,out,H0,G0,G,e,s,h⟩:=hx_;unfold sMut at e;obtain⟨l,h1,e⟩:=qa e;obtain⟨d,h2,e⟩:=qa e;obtain⟨l',h3,rfl⟩:=qc e;unfold extD at h3
  split at h3
  ·rename_i m
   split at h3
   ·rename_i hl
    cases h3;obtain⟨a,xs,ha,hH,hr,hG⟩:=Ywd s h1;refine⟨_,ha,.inl ⟨rfl,xs,SqL.of hH⟩,tOf.at h2 s λv H1 G1 g1 r1 s1=>?_⟩;rw[Rp]at r1;obtain⟨b,zs,rfl,gb,rz⟩:=r1;refine⟨a,b,xs,zs,rfl,rfl,g1.h _ _ hH,Ybo s1.seen gb,?_,h σ _ G1 (s1.mut (Ygd h1) ha ((hr.mono g1.g).append rz))⟩;rw[hr.length,rz.length];exact Yea hl
   ·cases h3
  ·cases h3⟩
theorem y1u(g:GD X.K X.w X.mg x kvs)(hg:Gl X x)(hk:ZC X ke fk)(hs:NoSl ke:=by intro _ _;rfl)(hd:Ndb x:=by decide):ZE X (.Subscript (.Name x px) ke pos) (b1 fk (y04 kvs)):=⟨have hk:=hk.un;by
 obtain⟨p,o,es,ep,hm,hl,hx,hdt,hse⟩:=g;intro pins s σ H Q I ⟨ρ,d,H0,G0,G,e,sr,h⟩;obtain⟨dk,h1,h2⟩:=Ycl e;refine y76 PySem.F.slot_dict_getitem.lookup hs (Yzi I hg hm ?_ hd);refine thn (hk pins s σ H (fun(v':V) (H':Hp)=>∃k r,v'=.str k/\kvs.lookup k=some r/\Q (.str r) H') I (tCof.at h1 sr λv H1 G1 g1 r1 s1=>?_)) λiv s2 q0=>?_
 ·unfold y04 at h2
  split at h2
  ·rename_i k
   obtain⟨r,h3,rfl⟩:=qc h2;rw[Ct]at r1;exact⟨k,r,r1.1,h3,h _ H1 G1 g1 (by rw[Rp];exact⟨rfl,Yada hse h3⟩)⟩
  ·cases h2
 ·obtain⟨y,H2,I2,ry,k,r,rfl,h3,q⟩:=q0
  obtain⟨t,rfl⟩:=ry;have ho:s2.heap.get? p=some o:=I2.kIn p o hl;obtain⟨e',t',f1,f2⟩:=y02 (P:=X.prog) hse h3;refine⟨⟨o,ho,hx.1⟩,wpAny_getItem_of (knd:=PySem.strKind X.prog X.w) (k:=k) (f:=λk=>findBy (PySem.strKind X.prog X.w).is es k) (v:=.str r t') (by simp[PySem.strKind,Value.isStrOf]) ⟨o,es,ep,ho,hx,hdt,?_,λ_=>rfl⟩ ?_ ⟨.str r,H2,I2.tok _,⟨t',rfl⟩,q⟩⟩
  ·intro e'' he
   exact y03 hse e'' (by grind)
  ·show(es.find? λe=>(PySem.strKind X.prog X.w).is k e.key).map (·.val)=_
   grind⟩
def Yb7(hu:X.A.units+64<cLine)(ha:ZC X a fa)(hb:ZC X b fb)(hs:Ye1 b:=by intro _ _;rfl):ZE X (.Subscript a b pos) (b2 fa fb getT):=⟨have ha:=ha.un;have hb:=hb.un;y8k (Yaf1 hu) y41 ha hb hs⟩
def y1v(hu:X.A.units+64<cLine)(ha:ZC X a fa)(hb:ZC X b fb)(hm:behindInMarks .In b=false:=by with_unfolding_all rfl):ZE X (.Compare a [.In] [b] pos) (mB (b2 fa fb (hasT false))):=⟨have ha:=ha.un;have hb:=hb.un;Yoe (y66 hu) Ypk ha hb hm⟩
def y1w(hu:X.A.units+64<cLine)(ha:ZC X a fa)(hb:ZC X b fb)(hm:behindInMarks .In b=false:=by with_unfolding_all rfl):ZT X (.Compare a [.In] [b] pos) (b2 fa fb (hasT false)):=⟨have ha:=ha.un;have hb:=hb.un;Ye9 (y66 hu) Ypk ha hb hm⟩
def y5k(hu:X.A.units+64<cLine)(ha:ZC X a fa)(hb:ZC X b fb)(hm:behindInMarks .NotIn b=false:=by with_unfolding_all rfl):ZT X (.Compare a [.NotIn] [b] pos) (b2 fa fb (hasT true)):=⟨have ha:=ha.un;have hb:=hb.un;Ye9 (y05 hu) Ypk ha hb hm⟩
theorem y5l(hu:X.A.units+64<cLine)(i:Nat){p2 p3:Pos}(hb:ZC X ie fb)(he:ZE X e f)(hN:X.N[i]?=some x:=by rfl)(hv:Vis X.env.scope x:=by trivial)(hd:Ndb x:=by decide)(hcd:Ncd x:=by decide)(ha:∀v,assign (.Subscript (.Name x p2) ie p3) X.env v=(do
 let ov <-holding [v] (eval (.Name x p2) X.env)
 let iv <-holding [v,ov] (eval ie X.env)
 standAt p3
 holding [v,ov,iv] (setItem ov iv v)
 release [v,ov,iv] []):=by intro _;rfl)(hs:swapsWithSole [.Subscript (.Name x p2) ie p3] e pos.line X.env=pure false:=by rfl)(hw:swappedStores [.Subscript (.Name x p2) ie p3] e X.env=pure none:=by rfl)(h1:(assignEach [.Subscript (.Name x p2) ie p3] X.env).map (·.2)=[assign (.Subscript (.Name x p2) ie p3) X.env]:=by rfl):ZS X (.Assign [.Subscript (.Name x p2) ie p3] e pos) (sPut i fb f):=⟨have hb:=hb.un;have he:=he.un;
 PS.imp (y6t he (y6s (Yig hN hv hd hcd) hb (Yadd hu) ha) hs hw h1) λF σ H hx_=>by
  obtain⟨ρ,out,H0,G0,G,e,s,h⟩:=hx_;unfold sPut at e;obtain⟨d,h1,e⟩:=qa e;obtain⟨l,h2,e⟩:=qa e;obtain⟨k,h3,e⟩:=qa e;obtain⟨l',h4,rfl⟩:=qc e;obtain⟨ks,vs⟩:=l;unfold putD at h4;obtain⟨kn,h5,h4⟩:=qa h4;obtain⟨z,h6,h4⟩:=qa h4
  split at h4
  case isFalse=>cases h4
  rename_i hcap;have hod:=Yx4 h2;refine tOf.at h1 s λv H1 G1 g1 r1 s1=>?_;obtain⟨a0,_,_,ha0,_⟩:=s1.od i _ _ _ hod;refine⟨_,ha0,tCof.at h3 s1 λu H2 G2 g2 r2 s2=>?_⟩;obtain⟨a,kxs,vxs,ha,hG,hH0,dc,rk,rv⟩:=s2.od i _ _ _ hod;rw[ha0]at ha;cases ha;obtain⟨nks,dt,rfl,hk⟩:=y86 s2.seen dc;obtain⟨b,ys,rfl,b1,b2',n⟩:=Yrt h6 r2;have e:=Ypj h5 rk hk
  have hvl:vxs.length<cap6:=by rw[rv.length];exact hcap
  refine⟨a0,b,nks,vxs,ys,z,rfl,rfl,dt,b1,n,hvl,λep=>?_⟩
  have hne:a0≠b:=λz=>by grind
  have r1':=r1.mono g2.g;injection h4 with h4;subst e;refine h _ _ G2 (s2.mutd hod ha0 (kxs:=(putT nks vxs z b v).1.map (λp=>V.ref p.2)) (vxs:=(putT nks vxs z b v).2) ?_ ?_ ?_)
  ·refine .inr ⟨rfl,(putT nks vxs z b v).1,ep,Yt,?_,?_,rfl,?_⟩
   ·unfold putT
    split
    ·rw[Yec];exact dt.len
    ·simp[dt.len]
   ·unfold putT
    split
    ·exact dt.nd
    ·rename_i hm
     rw[wt,List.nodup_append];refine⟨dt.nd,by simp,λx hx y hy z'=>?_⟩;grind
   ·unfold putT
    grind
  ·rw[<-h4]
   unfold putT
   split
   ·exact rk
   ·rw[wt]
    refine RpL.snoc ?_ rk
    cases k with
    | tup l=>
      rw[Ct]at r2;obtain⟨b',ys',e,⟨g1,g2⟩,rl⟩:=r2;rw[Rp];grind
    | _=>cases h6
  ·rw[<-h4]
   unfold putT
   split
   ·exact Ypi z r1' rv
   ·exact RpL.snoc r1' rv⟩
theorem y5m(hu:X.A.units+64<cLine)(i:Nat){pos' dpos:Pos}(hN:X.N.Nodup)(hk:ZE X ke fk)(hv:ZE X ve fv)(hi:X.N[i]?=some x:=by rfl)(hx:Loc X.env.scope x:=by trivial)(hs:swapsWith (.Dict [some ke] [ve] dpos) (some (.Name x pos')) pos.line X.env=pure false:=by rfl)(hf:X.fn x=true\/X.env.scope.names.lookup x=some .local:=by trivial):ZS X (.Assign [.Name x pos'] (.Dict [some ke] [ve] dpos) pos) (y07 i fk fv):=⟨have hk:=hk.un;have hv:=hv.un;
 PS.imp (Yn7 hN hi hx (y44 hu (y4d hk hv y77)) hs hf) λF σ H hx_=>by
  obtain⟨ρ,out,H0,G0,G,e,s,h⟩:=hx_;unfold y07 at e;obtain⟨k,h1,e⟩:=qa e;obtain⟨v,h2,e⟩:=qa e;obtain⟨n,h3,rfl⟩:=qc e;intro p ep hp;have g0:Gr H G (upd H p (dTo p [] [] ep)) G:=Gr.hid s.seen hp _;refine tOf.at h1 (s.grow g0) λkv H1 G1 g1 r1 s1=>tOf.at h2 s1 λvv H2 G2 g2 r2 s2=>?_;have gp:G2 p=none:=Ylq (g1.trans g2) Yt (s.seen.free hp);have r1':=r1.mono g2.g;obtain⟨b,ys,rfl,b1,b2',nk⟩:=Yrt h3 (Ct.of g2.s r1');refine⟨(g1.trans g2).h _ _ Yt,b,ys,n,vv,rfl,b1,nk,λep'=>?_⟩;have g3:Gr H G (upd H2 p (dTo p [(n,b)] [vv] ep')) G2:=(g0.trans (g1.trans g2)).updHid hp gp _;refine h _ _ G2 (s.set_od i g3 hp gp (kxs:=[.ref b]) (vxs:=[vv]) (.inr ⟨rfl,[(n,b)],ep',Yt,rfl,by simp,rfl,λq hq=>?_⟩) (.cons r1' .nil) (.cons r2 .nil))
  grind⟩
def y5n(X:Cx)(pos' pos p1 p2:Pos)(x:Str)(i:Nat)(es:AM)(b:Expr)(fb:AX)(ns:AH)(hN:X.N.Nodup)(h:Yx5 es=some ns)(hi:X.N[i]?=some x)(hx:Loc X.env.scope x)(hf:X.fn x=true\/X.env.scope.names.lookup x=some .local)(hs:Ye1 b)(hb:ZC X b fb):ZS X (.Assign [.Name x pos'] (.Subscript (.List es p1) b p2) pos) (sSet i (b2 (lF (Yrv ns)) fb ixD)):=⟨have hb:=hb.un;
 y63 i hN (Yz9 (ME.mc (MF.me (y9b ns h))) hb hs) hi hx rfl hf⟩
end
section
variable {X:Cx}{a b c e:Expr}{fa fb fc:AX}{pos:Pos}{st:Stmt}
def y1x(ho:OpR X (compareOp op) r)(hr:Yhe X.K r g)(ho':OpR X (compareOp op') r')(hr':Yhe X.K r' g')(ha:ZC X a fa)(hb:ZC X b fb)(hc:ZC X c fc)(hm:lastMarks [op,op'] [b,c]=false:=by with_unfolding_all rfl):ZE X (.Compare a [op,op'] [b,c] pos) (mB (ch3 fa fb fc g g')):=⟨have ha:=ha.un;have hb:=hb.un;have hc:=hc.un;
 PE.imp (y39 ho ho' ha hb hc hm) λσ H Q h=>by
  obtain⟨ρ,d,H0,G0,G,e,s,h⟩:=h;obtain⟨k,ek,rfl⟩:=Yt6 e;obtain⟨x,y,h1,h2,h3⟩:=y45 ek;refine tCof.at h1 s λv H1 G1 g1 r1 s1=>tCof.at h2 s1 λu H2 G2 g2 r2 s2=>?_;rcases h3 with⟨h3,rfl⟩|⟨h3,z,h4,h5⟩
  ·exact hr v u x y false H2 G2 _ h3 s2.seen (r1.grow g2) r2 ⟨false,rfl,by rw[if_neg (by simp)];exact h _ H2 G2 (g1.trans g2) (by rw[Rp])⟩
  ·refine hr v u x y true H2 G2 _ h3 s2.seen (r1.grow g2) r2 ⟨true,rfl,?_⟩
   rw[if_pos rfl]
   exact tCof.at h4 s2 λw H3 G3 g3 r3 s3=>hr' u w y z k H3 G3 _ h5 s3.seen (r2.grow g3) r3 (h _ H3 G3 ((g1.trans g2).trans g3) (by rw[Rp]))⟩
end
section
variable {X:Cx}{e a b f':Expr}{f fa fb fz:AX}{fc:AW}{gl:AY}{K:W.Frag}{pos:Pos}
def Ywt(is:AG)(h:ZE X e f):ZE X e (Yx6 is f):=⟨have h:=h.un;PE.imp h λσ H Q hx_=>by
 obtain⟨ρ,d,H0,G0,G,e,s,h⟩:=hx_;unfold Yx6 at e;obtain⟨d',h1,e⟩:=qa e;unfold M.scal at e
 split at e
 ·rename_i hs
  cases e;obtain⟨G',s'⟩:=SR.frz is s;exact⟨frz is ρ,_,H0,G0,G',h1,s',λv H1 G1 g r=>h v H1 G (.back s.seen g) (r.scal hs)⟩
 ·cases e⟩
theorem Yr8(is:AG)(h:ZE X e f):ZE X e (Ynh is f):=⟨have h:=h.un;PE.imp h λσ H Q hq=>by
 obtain⟨ρ,d,H0,G0,G,e,s,h⟩:=hq;unfold Ynh at e;obtain⟨d',h1,e⟩:=qa e
 split at e
 case isFalse=>cases e
 rename_i hs;cases e;obtain⟨G',s',ht⟩:=SR.frzT is s;refine⟨frz is ρ,_,H0,G0,G',h1,s',λv H1 G1 g r=>?_⟩;refine h v H1 (λa=>if H a=none then G1 a else G a) ⟨g.h,λa o e=>?_,λa o e=>?_,λa h h'=>?_⟩ (r.plain (λb ys e=>?_) hs)
 ·have hH:H a≠none:=λz=>by rw[s.seen _ _ e]at z;cases z
  grind
 ·by_cases z:H a=none
  ·rw[if_pos z]at e;exact g.s _ _ e
  ·rw[if_neg z]at e;exact g.h _ _ (s.seen _ _ e)
 ·grind
 ·show(if H b=none then G1 b else G b)=some (HO.tup ys)
  by_cases z:H b=none
  ·grind
  ·rw[if_neg z]
   refine ht b ys ?_
   cases q:G' b with
   | none=>exact absurd (g.n b q (by grind)) z
   | some o=>
     have:=g.g _ _ q
     grind⟩
def Ylb(hu:X.A.units+64<cLine)(ha:ZC X a fa)(hb:ZC X b fb)(hs:Ye1 b:=by intro _ _;rfl):ZE X (.Subscript a b pos) (b2 fa fb getI):=⟨have ha:=ha.un;have hb:=hb.un;y8k (Yaf3 hu) y48 ha hb hs⟩
def y9x(hu:X.A.units+64<cLine)(ha:ZC X a fa)(hb:ZC X b fb)(hm:behindInMarks .In b=false:=by with_unfolding_all rfl):ZE X (.Compare a [.In] [b] pos) (mB (b2 fa fb (hasI false))):=⟨have ha:=ha.un;have hb:=hb.un;Yoe (y7a hu) Ypl ha hb hm⟩
def y5o(hu:X.A.units+64<cLine)(ha:ZC X a fa)(hb:ZC X b fb)(hm:behindInMarks .NotIn b=false:=by with_unfolding_all rfl):ZT X (.Compare a [.NotIn] [b] pos) (b2 fa fb (hasI true)):=⟨have ha:=ha.un;have hb:=hb.un;Ye9 (Yrw hu) Ypl ha hb hm⟩
theorem Ypw(i:Nat){pos' dpos:Pos}(hN:X.N.Nodup)(hi:X.N[i]?=some x:=by rfl)(hx:Loc X.env.scope x:=by trivial)(hs:swapsWith (.Dict [] [] dpos) (some (.Name x pos')) pos.line X.env=pure false:=by rfl)(hf:X.fn x=true\/X.env.scope.names.lookup x=some .local:=by trivial):ZS X (.Assign [.Name x pos'] (.Dict [] [] dpos) pos) (Yug i):=⟨
 PS.imp (Yn7 hN hi hx y4c hs hf) λF σ H hx_=>by
  obtain⟨ρ,out,H0,G0,G,e,s,h⟩:=hx_;cases e;intro p hp
  exact h _ _ G (s.set_od i (.hid s.seen hp _) hp (s.seen.free hp) (kxs:=[]) (vxs:=[]) (y1b (ns:=[]) (vxs:=[]) Yt .nil rfl) .nil .nil)⟩
theorem Ypx(hu:X.A.units+64<cLine)(i:Nat){p2 p3:Pos}(hb:ZC X ie fb)(he:ZE X e f)(hN:X.N[i]?=some x:=by rfl)(hv:Vis X.env.scope x:=by trivial)(hd:Ndb x:=by decide)(hcd:Ncd x:=by decide)(ha:∀v,assign (.Subscript (.Name x p2) ie p3) X.env v=(do
 let ov <-holding [v] (eval (.Name x p2) X.env)
 let iv <-holding [v,ov] (eval ie X.env)
 standAt p3
 holding [v,ov,iv] (setItem ov iv v)
 release [v,ov,iv] []):=by intro _;rfl)(hs:swapsWithSole [.Subscript (.Name x p2) ie p3] e pos.line X.env=pure false:=by rfl)(hw:swappedStores [.Subscript (.Name x p2) ie p3] e X.env=pure none:=by rfl)(h1:(assignEach [.Subscript (.Name x p2) ie p3] X.env).map (·.2)=[assign (.Subscript (.Name x p2) ie p3) X.env]:=by rfl):ZS X (.Assign [.Subscript (.Name x p2) ie p3] e pos) (Yui i fb f):=⟨have hb:=hb.un;have he:=he.un;
 PS.imp (y6t he (y6s (Yig hN hv hd hcd) hb (Yadl hu) ha) hs hw h1) λF σ H hx_=>by
  obtain⟨ρ,out,H0,G0,G,e,s,h⟩:=hx_;unfold Yui at e;obtain⟨d,h1,e⟩:=qa e;obtain⟨l,h2,e⟩:=qa e;obtain⟨k,h3,e⟩:=qa e;obtain⟨l',h4,rfl⟩:=qc e;obtain⟨ks,vs⟩:=l;unfold Yuh at h4;obtain⟨ns,h5,h4⟩:=qa h4
  obtain⟨j,rfl⟩:∃j,k=.int j:=by
   grind
  dsimp only at h4
  split at h4
  case isFalse=>cases h4
  rename_i hcap;have hod:=Yof h2;refine tOf.at h1 s λv H1 G1 g1 r1 s1=>?_;obtain⟨a0,_,_,ha0,_⟩:=s1.od i _ _ _ hod;refine⟨_,ha0,tCof.at h3 s1 λu H2 G2 g2 r2 s2=>?_⟩;obtain⟨a,kxs,vxs,ha,hG,hH0,dc,rk,rv⟩:=s2.od i _ _ _ hod;rw[ha0]at ha;cases ha;obtain⟨e1,e2,e3,e4⟩:=Yni h5 dc rk;rw[Ct]at r2;subst r2
  have hvl:vxs.length<cap6:=by rw[rv.length];exact hcap
  have hsl:(zK ns vxs).length<sizeLine:=by
   rw[y1a _ _ e3,e3,jj];have:cap6=1000000:=rfl;lia
  refine⟨a0,_,rfl,DPut.k (k:=Sum.inl j) (v:=v) e1 hsl,?_⟩;have r1':=r1.mono g2.g;injection h4 with h4;rw[y69 e3 e2];refine h _ _ G2 (s2.mutd hod ha0 (kxs:=(putI ns vxs j v).1.map V.int) (vxs:=(putI ns vxs j v).2) (y1b Yt ?_ ?_) ?_ ?_)
  ·unfold putI
   grind
  ·unfold putI
   split
   ·rw[Yec];exact e3
   ·simp[e3]
  ·rw[<-h4]
   unfold putI;rw[e4]at rk
   split
   ·exact rk
   ·rw[wt]
    exact RpL.snoc (by rw[Rp]) rk
  ·rw[<-h4]
   unfold putI
   split
   ·exact Ypi j r1' rv
   ·exact RpL.snoc r1' rv⟩
theorem Yr9(hu:X.A.units+64<cLine)(ho:ZC X o fa)(he:ZC X e1 fb)(hf:ZE X e2 fz)(m:M2 X o "get" apos e1 e2 cpos):ZE X (.Call (.Attribute o "get" apos) [e1,e2] [] cpos) (b3 fa fb fz Ypm):=⟨have ho:=ho.un;have he:=he.un;have hf:=hf.un;
 PE.imp (y4e (by lia) ho he hf m) λσ H Q hx_=>by
  obtain⟨ρ,d,H0,G0,G,e,s,h⟩:=hx_;unfold b3 at e;obtain⟨x,h1,e⟩:=qa e;obtain⟨y,h2,e⟩:=qa e;obtain⟨z,h3,e⟩:=qa e;obtain⟨ks,vs,i,ns,rfl,rfl,h5,rfl⟩:=Yx8 e;refine tCof.at h1 s λv H1 G1 g1 r1 s1=>?_;have r1c:=r1;rw[Ct]at r1c;obtain⟨a,kxs,vxs,rfl,dc,rk,rv⟩:=r1c;refine⟨a,rfl,.inl ⟨_,.inl (Yni h5 dc rk).1⟩,tCof.at h2 s1 λu H2 G2 g2 r2 s2=>tOf.at h3 s2 λw H3 G3 g3 r3 s3=>?_⟩;have r1g:=r1.grow (g2.trans g3);rw[Ct]at r1g;rw[Ct]at r2;subst r2;obtain⟨a',kxs',vxs',ea,dc',rk',rv'⟩:=r1g;cases ea;obtain⟨e1,e2,e3,e4⟩:=Yni h5 dc' rk';refine⟨Yab ns vxs' i,?_,h _ H3 G3 ((g1.trans g2).trans g3) ?_⟩
  ·have:=DGet.k (k:=Sum.inl i) e1
   rw[Ywi]at this;exact this
  ·cases hf:Yab ns vs i with
   | none=>
     rw[(Yl3 i rv').2 hf];exact r3
   | some d=>
     obtain⟨v,f1,f2⟩:=(Yl3 i rv').1 d hf
     grind⟩
def y1y(ha:ZC X a fa)(hb:ZC X b fb):ZE X (.BinOp a .RShift b pos) (b2 fa fb shrI):=⟨have ha:=ha.un;have hb:=hb.un;Yod Yabh (Yv8 (λ_ _ h=>wq h)) ha hb⟩
theorem y9y(i:Nat){p2 apos cpos:Pos}(he:ZE X e f)(hN:X.N[i]?=some x:=by rfl)(hv:Vis X.env.scope x:=by trivial)(hd:Ndb x:=by decide)(hcd:Ncd x:=by decide)(hse:swapsWith (.Call (.Attribute (.Name x p2) "pop" apos) [e] [] cpos) none pos.line X.env=pure false:=by rfl)(hs:starEach [e] X.env=[(false,eval e X.env)]:=by rfl)(hfew:Few X cpos [e]:=by rfl)(hline:(apos.endLine==cpos.line)=true:=by rfl)(hbase:attributeBase (.Name x p2) "pop" X.env (eval (.Name x p2) X.env)=eval (.Name x p2) X.env:=by rfl):ZS X (.Expr (.Call (.Attribute (.Name x p2) "pop" apos) [e] [] cpos) pos) (sMut i f popD):=⟨have he:=he.un;
 PS.imp (Ylj (Yxu PySem.F.plainAttrs_list PySem.F.slot_list_pop PySem.F.type_list_pop y4h (Yig hN hv hd hcd) (Ydm he Yhk hs) hbase hfew hline hs rfl) hse) λF σ H hx_=>by
  obtain⟨ρ,out,H0,G0,G,e,s,h⟩:=hx_;unfold sMut at e;obtain⟨l,h1,e⟩:=qa e;obtain⟨d,h2,e⟩:=qa e;obtain⟨l',h3,rfl⟩:=qc e;unfold popD at h3;obtain⟨n,h5,h3⟩:=qa h3
  split at h3
  ·rename_i hc
   cases h3;simp only[Qb,wm]at hc;obtain⟨⟨hc1,hc2⟩,hc3⟩:=hc;obtain⟨a,xs,ha,hH,hr,hG⟩:=Ywd s h1;refine⟨_,ha,.inl ⟨rfl,xs,SqL.of hH⟩,tOf.at h2 s λv H1 G1 g1 r1 s1=>?_⟩
   have h6:d=.int n:=by
    cases d<;>simp[intD]at h5;rw[h5]
   subst h6;rw[Rp]at r1;subst r1
   have hl:n.toNat<xs.length:=by rw[hr.length];lia
   have hcap:cap6<=1000000:=by decide
   refine⟨a,xs,n,n.toNat,xs[n.toNat],rfl,rfl,g1.h _ _ hH,by lia,by lia,?_,qq hl,h σ _ G1 (s1.mut (Ygd h1) ha (RpL.eraseIdx (hr.mono g1.g) _))⟩
   have e1:¬n<0:=by lia
   have e2:n<(xs.length:Int):=by grind
   simp[seqIndex?,e1,e2,hl]
  ·cases h3⟩
theorem y1z(hc:X.calm=true)(i:Nat){pos' p2 cpos:Pos}(hN:X.N.Nodup)(hg:Gl X "dict")(hm:X.mg "dict"=none)(ha:ZC X e f)(hi:X.N[i]?=some x:=by rfl)(hx:Loc X.env.scope x:=by trivial)(hst:starEach [e] X.env=[(false,eval e X.env)]:=by rfl)(hpl:(backTo cpos (starEach [] X.env)).any (·.1)=false:=by rfl)(hs:swapsWith (.Call (.Name "dict" p2) [e] [] cpos) (some (.Name x pos')) pos.line X.env=pure false:=by rfl)(hf:X.fn x=true\/X.env.scope.names.lookup x=some .local:=by trivial):ZS X (.Assign [.Name x pos'] (.Call (.Name "dict" p2) [e] [] cpos) pos) (sDct i f):=⟨have ha:=ha.un;
 PS.imp (Yn7 hN hi hx (Yd6 (Yoh hc) hg hm (by decide +kernel) (Yfo ha Yhz hst) (by decide) (by decide) hst hpl) hs hf) λF σ H hx_=>by
  obtain⟨ρ,out,H0,G0,G,e,s,h⟩:=hx_;unfold sDct at e;obtain⟨ps,h1,e⟩:=qa e;obtain⟨d,h2,h3⟩:=qa h1
  split at e
  case isFalse=>cases e
  rename_i hcap;cases e;refine tCAof.at (show Ye f aNil ρ=some [d] by simp[Ye,aNil,h2]) s λvs H1 G1 g1 r1 s1=>?_;obtain⟨v,rfl,rv⟩:=Ycz r1
  cases d with
  | lst l=>
    rw[Ct]at rv;obtain⟨a,xs,rfl,hq,rl⟩:=rv;obtain⟨qs,h4,h5⟩:=Yl9 s1.seen (show Ydq l=some ps from h3) rl;refine⟨a,xs,qs,rfl,.inl hq,h4,by rw[h5.length];exact hcap,λp hp=>?_⟩;obtain⟨vx',k1,k2,k3,k4⟩:=Yiq (ns:=[]) (ds:=[]) (vxs:=[]) h5 List.nodup_nil rfl .nil;exact h _ _ G1 (s1.set_od i (.hid s1.seen hp _) hp (s1.seen.free hp) (kxs:=(dctG [] [] ps).1.map V.int) (vxs:=vx') (y1b (by rw[<-k1];exact Yt) k2 k3) (.ints _) k4)
  | _=>cases h3⟩
def y9z(hu:X.A.units+64<cLine)(ha:ZC X a fa)(hb:ZC X b fb)(hm:behindInMarks .In b=false:=by with_unfolding_all rfl):ZT X (.Compare a [.In] [b] pos) (b2 fa fb (hasN false)):=⟨have ha:=ha.un;have hb:=hb.un;Ye9 (Yadr hu) Ywm ha hb hm⟩
def y5p(hu:X.A.units+64<cLine)(ha:ZC X a fa)(hb:ZC X b fb)(hm:behindInMarks .NotIn b=false:=by with_unfolding_all rfl):ZT X (.Compare a [.NotIn] [b] pos) (b2 fa fb (hasN true)):=⟨have ha:=ha.un;have hb:=hb.un;Ye9 (y9m hu) Ywm ha hb hm⟩
def Yis{lo hi:Option Expr}(ha:ZC X a fa)(hl:ZO X lo fl)(hh:ZO X hi fh):ZE X (.Subscript a (.Slice lo hi none p2) pos) (slD fa fl fh):=⟨have ha:=ha.un;have hl:=hl.un;have hh:=hh.un;
 PE.imp (Yv3 (SlR.or Yzy (SlR.or Yabz y5d)) ha hl hh) λσ H Q hx_=>by
  obtain⟨ρ,d,H0,G0,G,e,s,h⟩:=hx_;unfold slD at e;obtain⟨d0,h1,e⟩:=qa e;obtain⟨i,h2,e⟩:=qa e;obtain⟨j,h3,e⟩:=qa e;refine tCof.at h1 s λv H1 G1 g1 r1 s1=>y4o h2 s1 λH2 G2 g2 s2=>y4o h3 s2 λH3 G3 g3 s3=>?_;have r3:=(r1.grow g2).grow g3;have gg:=(g1.trans g2).trans g3;unfold cutC at e
  split at e
  ·rename_i l
   cases e;rw[Ct]at r3;obtain⟨p,xs,rfl,g,rl⟩:=r3;refine .inl ⟨p,xs,rfl,.inl g,λq hq=>?_⟩;refine h _ _ _ (gg.trans (Gr.new (p:=q) s3.seen hq (.lst (cutV xs i j)))) ?_;rw[Rp];refine⟨q,_,rfl,.inl Yt,?_⟩;unfold cutD cutV;rw[rl.length];exact((rl.drop _).take _).mono (Gr.new (p:=q) s3.seen hq _).g
  ·cases e
   rw[Ct]at r3;obtain⟨p,xs,rfl,⟨g,gG⟩,rl⟩:=r3;by_cases hw:HT.sIx xs.length 0 i=0/\HT.sIx xs.length xs.length j=xs.length
   ·refine .inr (.inr ⟨p,xs,rfl,.of g,hw.1,hw.2,h _ H3 G3 gg ?_⟩)
    rw[Rp];refine⟨p,xs,rfl,gG,?_⟩;unfold cutD;rw[<-rl.length,hw.1,hw.2,List.drop_zero,Nat.sub_zero,rl.length,List.take_length];exact rl
   ·refine .inr (.inl ⟨p,xs,rfl,.of g,hw,λq hq=>?_⟩)
    refine h _ _ _ (gg.trans (Gr.new (p:=q) s3.seen hq (.tup (cutV xs i j)))) ?_;rw[Rp];refine⟨q,_,rfl,Yt,?_⟩;unfold cutD cutV;rw[rl.length];exact((rl.drop _).take _).mono (Gr.new (p:=q) s3.seen hq _).g
  ·cases e⟩
end
def Yes(h:ZT X c f):ZIfs X X.K [c] f:=⟨have h:=h.un;λpins s σ H Q I hq=>wpAny_tests_one (h pins s σ H Q I hq)⟩
def Yit(h:ZW X e f):ZT X e f:=⟨PW.pt h.un⟩
end
section
section
variable {X:Cx}{e e2:Expr}{f f2:AX}{p p2 p3 pos pos2 pos3 pos4:Pos}
theorem Yol(hc:X.calm=true)(hg:Gl X "sorted")(hm:X.mg "sorted"=none)(hg2:Gl X "set")(hm2:X.mg "set"=none)(ha:ZC X e f)(ha2:ZC X e2 f2)(hs:starEach [e] X.env=[(false,eval e X.env)]:=by rfl)(hs2:starEach [e2] X.env=[(false,eval e2 X.env)]:=by rfl)(he:starEach [.BinOp (.Call (.Name "set" p2) [e] [] pos2) .BitXor (.Call (.Name "set" p3) [e2] [] pos3) pos4] X.env=[(false,eval (.BinOp (.Call (.Name "set" p2) [e] [] pos2) .BitXor (.Call (.Name "set" p3) [e2] [] pos3) pos4) X.env)]:=by rfl)(hpl:(backTo pos2 (starEach [] X.env)).any (·.1)=false:=by rfl)(hpl3:(backTo pos3 (starEach [] X.env)).any (·.1)=false:=by rfl)(hpl2:(backTo pos (starEach [] X.env)).any (·.1)=false:=by rfl):ZF X (.Call (.Name "sorted" p) [.BinOp (.Call (.Name "set" p2) [e] [] pos2) .BitXor (.Call (.Name "set" p3) [e2] [] pos3) pos4] [] pos) (Yjw f f2):=⟨have ha:=ha.un;have ha2:=ha2.un;
 PE.imp (Yk1 (Yyb hc) hg hm boot_sorted (Ydm (y38 op_xor (Yd6 (Yr1 hc) hg2 hm2 boot_set (Yfo ha Yhz hs) (by decide) (by decide) hs hpl) (Yd6 (Yr1 hc) hg2 hm2 boot_set (Yfo ha2 Yhz hs2) (by decide) (by decide) hs2 hpl3)) Yhk he) (by decide) (by decide) he hpl2) λσ H Q hq=>by
  obtain⟨ρ,l,H0,G0,G,e,s,h⟩:=hq;unfold Yjw at e;obtain⟨l1,h1,e⟩:=qa e;obtain⟨l2,h2,e⟩:=qa e;obtain⟨d1,i1,j1⟩:=Ycl h1;obtain⟨d2,i2,j2⟩:=Ycl h2;unfold y1m at e;obtain⟨a,ea,e⟩:=qa e;obtain⟨b,eb,e⟩:=qa e
  split at e
  case isFalse=>cases e
  rename_i hl;obtain⟨b1',b2',b3,b4,b5,b6⟩:=hl;cases e;cases Yd1 ea;cases Yd1 eb;refine tCAof.at (show Ye f aNil ρ=some [d1] by simp[Ye,aNil,i1]) s λvs H1 G1 g1 r1 s1=>?_;obtain⟨v,rfl,rv⟩:=Ycz r1;obtain⟨q,xs,rfl,hq,rl⟩:=Ywc (K:=X.K) j1 rv;cases Yg1 rl;refine⟨q,a,rfl,hq,b1',λm ns hm' hp=>?_⟩;have g2:=Gr.hid s1.seen hm' (setO X.prog X.w m ns);have s2:=s1.grow g2;refine tCAof.at (show Ye f2 aNil ρ=some [d2] by simp[Ye,aNil,i2]) s2 λvs2 H3 G3 g3 r3 s3=>?_;obtain⟨v2,rfl,rv2⟩:=Ycz r3;obtain⟨q2,xs2,rfl,hq2,rl2⟩:=Ywc (K:=X.K) j2 rv2;cases Yg1 rl2;refine⟨q2,b,rfl,hq2,b2',λm2 ms hm2' hp2=>?_⟩;have g4:=Gr.hid s3.seen hm2' (setO X.prog X.w m2 ms);have s4:=s3.grow g4;have hmA:upd H3 m2 (setO X.prog X.w m2 ms) m=some (setO X.prog X.w m ns):=g4.h _ _ (g3.h _ _ Yt);refine⟨m,m2,ns,ms,rfl,rfl,hmA,Yt,λk hk=>?_,by rw[hp2.length_eq];exact b4,by rw[hp.length_eq];exact b3,λr rs hr hnd hmem=>?_⟩
  ·have hk':k∈b:=by
    have:=hp2.mem_iff.mp hk;rw[memD]at this;grind
   grind
  have g5:=Gr.hid s4.seen hr (setO X.prog X.w r rs);have s5:=s4.grow g5
  have hperm:rs.Perm (xorI a b):=(List.perm_ext_iff_of_nodup hnd (Ypt a b)).mpr λx=>by
   rw[hmem,Ywo,hp.mem_iff,hp2.mem_iff,memD,memD];simp
  refine⟨r,rs,rfl,Yt,by rw[hperm.length_eq];exact b6,λz hz=>?_⟩;rw[Ypq hperm]
  exact h z _ _ G3 (((((g1.trans g2).trans g3).trans g4).trans g5).trans (.hid s5.seen hz _)) (((((g1.trans g2).trans g3).trans g4).trans g5).h.free hz) (s5.seen.free hz) Yt (.ints _)⟩
theorem Ypy(ha:ZC X a fa)(hb:ZC X b fb):ZE X (.BinOp a .Add b pos) (b2 fa fb Yr5):=⟨have ha:=ha.un;have hb:=hb.un;PE.imp (y38 y9t ha hb) λσ H Q hx_=>by
 obtain⟨ρ,l,H0,G0,G,e,s,h⟩:=hx_;obtain⟨dx,dy,h1,h2,h3⟩:=Ylr e;refine tCof.at h1 s λv H1 G1 g1 r1 s1=>tCof.at h2 s1 λu H2 G2 g2 r2 s2=>?_;unfold Yr5 at h3
 split at h3
 ·rename_i l1 l2
  split at h3
  ·rename_i hz
   cases h3;have r1':=r1.grow g2;rw[Ct]at r1';rw[Ct]at r2;obtain⟨p,xs,rfl,gp,rl⟩:=r1';obtain⟨q,zs,rfl,gq,rm⟩:=r2;refine⟨p,q,xs,zs,rfl,rfl,.of gp.1,.of gq.1,by rw[rl.length,rm.length];exact Yea hz,λhx=>?_,λ_ hy=>?_,λ_ _ m hm=>h _ _ _ ((g1.trans g2).trans (.new s2.seen hm (.tup (xs++zs)))) ?_⟩
   ·subst hx
    have:l1=[]:=List.eq_nil_of_length_eq_zero (by rw[<-rl.length];rfl);subst this;refine h _ _ G2 (g1.trans g2) ?_;rw[Qd,Rp];grind
   ·subst hy
    have:l2=[]:=List.eq_nil_of_length_eq_zero (by rw[<-rm.length];rfl);subst this;refine h _ _ G2 (g1.trans g2) ?_;rw[ja,Rp];grind
   ·rw[Rp]
    exact⟨m,_,rfl,Yt,(rl.append rm).mono (Gr.new s2.seen hm _).g⟩
  ·cases h3
 ·cases h3⟩
end
end
section
variable {K:W.Frag}
def Yaf6(K:W.Frag)(j:Nat)(x:Option (Option V))(H0 G0:Hp)(F:Ends):Out->Prop
 | .nx ρ'=>∀σ' H' G',SR K H0 G0 σ' H' G' ρ'->σ'[j]?=x->F.nx σ' H'
 | .rt _=>False
 | .bk ρ'=>∀σ' H' G',SR K H0 G0 σ' H' G' ρ'->σ'[j]?=x->F.bk σ' H'
 | .ct ρ'=>∀σ' H' G',SR K H0 G0 σ' H' G' ρ'->σ'[j]?=x->F.ct σ' H'
def sOfK(K:W.Frag)(j:Nat)(f:AU):TS:=λF σ H=>∃ρ out H0 G0 G,f ρ=some out/\SR K H0 G0 σ H G ρ/\Yaf6 K j σ[j]? H0 G0 F out
structure KS(j:Nat)(X:Cx)(st:Stmt)(f:AU):Prop where
 un:PS X st (sOfK X.K j f)
structure KB(j:Nat)(X:Cx)(sts:List Stmt)(f:AU):Prop where
 un:PSs X sts (sOfK X.K j f)
def sOfR(K:W.Frag)(j r:Nat)(fb:AU):TS:=λF σ H=>∃ρ ρ' l d H0 G0 G,fb ρ=some (.nx ρ')/\getO j ρ'=some l/\getV r (frz [r] ρ')=some d/\SR K H0 G0 σ H G ρ/\
 ∀v σ' H' G',SR K H0 G0 σ' H' G' (frz [r] ρ')->σ'[j]?=σ[j]?->Rp K G' d v->F.rt v H'
structure KR(j r:Nat)(X:Cx)(sts:List Stmt)(f:AU):Prop where
 un:PSs X sts (sOfR X.K j r f)
def sOfL(K:W.Frag)(gl:AY)(fb:AU):TS:=λF σ H=>∃ρ ρ' l H0 G0 G,fb ρ=some (.nx ρ')/\gl ρ'=some l/\SR K H0 G0 σ H G ρ/\
 ∀p xs H' G',Gr H0 G0 H' G'->H0 p=none->G' p=none->H' p=some (.lst xs)->RpL K G' l xs->F.rt (.ref p) H'
structure KL(gl:AY)(X:Cx)(sts:List Stmt)(f:AU):Prop where
 un:PSs X sts (sOfL X.K gl f)
def len1{us:AD}(h:us.length=1):∃a0,us=[a0]:=List.length_eq_one_iff.mp h
theorem len2{us:AD}(h:us.length=2):∃a0 a1,us=[a0,a1]:=by
 cases us with
 | nil=>cases h
 | cons a us=>
   obtain⟨b0,rfl⟩:=len1 (Nat.succ.inj h);grind
theorem len3{us:AD}(h:us.length=3):∃a0 a1 a2,us=[a0,a1,a2]:=by
 cases us with
 | nil=>cases h
 | cons a us=>
   obtain⟨b0,b1,rfl⟩:=len2 (Nat.succ.inj h);grind
theorem len4{us:AD}(h:us.length=4):∃a0 a1 a2 a3,us=[a0,a1,a2,a3]:=by
 cases us with
 | nil=>cases h
 | cons a us=>
   obtain⟨b0,b1,b2,rfl⟩:=len3 (Nat.succ.inj h);grind
theorem len5{us:AD}(h:us.length=5):∃a0 a1 a2 a3 a4,us=[a0,a1,a2,a3,a4]:=by
 cases us with
 | nil=>cases h
 | cons a us=>
   obtain⟨b0,b1,b2,b3,rfl⟩:=len4 (Nat.succ.inj h);grind
theorem len6{us:AD}(h:us.length=6):∃a0 a1 a2 a3 a4 a5,us=[a0,a1,a2,a3,a4,a5]:=by
 cases us with
 | nil=>cases h
 | cons a us=>
   obtain⟨b0,b1,b2,b3,b4,rfl⟩:=len5 (Nat.succ.inj h);grind
theorem len7{us:AD}(h:us.length=7):∃a0 a1 a2 a3 a4 a5 a6,us=[a0,a1,a2,a3,a4,a5,a6]:=by
 cases us with
 | nil=>cases h
 | cons a us=>
   obtain⟨b0,b1,b2,b3,b4,b5,rfl⟩:=len6 (Nat.succ.inj h);grind
end
end M
namespace M
open PySem L2
def nr{α:Sort _}{a b:α}(h:a=b):a=b:=h
section
variable {ρ:Ro}
@[simp] theorem y90(fa fb:AX)(g:D->D->Option α):b2 fa fb g ρ=(fa ρ).bind λx=>(fb ρ).bind λy=>g x y:=nr rfl
@[simp] theorem Yady(fa:AX)(g:D->Option α):b1 fa g ρ=(fa ρ).bind g:=nr rfl
@[simp] theorem ap_kD(d:D):kD d ρ=some d:=nr rfl
@[simp] theorem ap_mB(f:AW):mB f ρ=(f ρ).map D.bl:=nr rfl
@[simp] theorem ap_andT(f g:AW):andT f g ρ=(f ρ).bind λk=>if k=true then g ρ else some false:=nr rfl
@[simp] theorem ap_orT(f g:AW):orT f g ρ=(f ρ).bind λk=>if k=true then some true else g ρ:=nr rfl
@[simp] theorem ap_notT(f:AW):notT f ρ=(f ρ).map (!·):=nr rfl
@[simp] theorem ap_andV(f g:AX):andV f g ρ=((f ρ).bind blD).bind λk=>if k=true then g ρ else some (.bl false):=nr rfl
@[simp] theorem ap_notV(f:AX):notV f ρ=((f ρ).bind blD).map λk=>.bl (!k):=nr rfl
@[simp] theorem ap_ifV(c:AW)(f g:AX):ifV c f g ρ=(c ρ).bind λk=>if k=true then f ρ else g ρ:=nr rfl
@[simp] theorem ap_lF(f:AY):lF f ρ=(f ρ).map D.lst:=nr rfl
@[simp] theorem ap_aNil:aNil ρ=some []:=nr rfl
@[simp] theorem ap_aCons(f:AX)(g:AY):Ye f g ρ=(f ρ).bind λd=>(g ρ).map (d::·):=nr rfl
@[simp] theorem ap_dTup(f:AY):dTup f ρ=(f ρ).bind λl=>if l.length<=cap6 then some (.tup l)else none:=nr rfl
@[simp] theorem ap_dLst(f:AY):dLst f ρ=(f ρ).bind λl=>if l.length<=cap6 then some l else none:=nr rfl
@[simp] theorem ap_cC(f:AY)(g:AR->Option D):cC f g ρ=(f ρ).bind g:=nr rfl
@[simp] theorem ap_cF(f:AY)(g:AR->Option AR):cF f g ρ=(f ρ).bind g:=nr rfl
@[simp] theorem ap_slF(f:AX)(lo hi:Option AX):slF f lo hi ρ=((f ρ).bind lstD).bind λl=>(optI lo ρ).bind λi=>(optI hi ρ).bind λj=>some (cutD l i j):=nr rfl
@[simp] theorem ap_optN:optI none ρ=some none:=nr rfl
@[simp] theorem ap_optS(f:AX):optI (some f) ρ=((f ρ).bind intD).map some:=nr rfl
@[simp] theorem ap_sNil:sNil ρ=some (.nx ρ):=nr rfl
@[simp] theorem ap_sSet(i:Nat)(f:AX):sSet i f ρ=(f ρ).map λd=>.nx (ρ.set i (some (.sh d))):=nr rfl
@[simp] theorem ap_sOwn(i:Nat)(f:AY):sOwn i f ρ=(f ρ).map λl=>.nx (ρ.set i (some (.ow l))):=nr rfl
@[simp] theorem ap_sRet(f:AX):sRet f ρ=(f ρ).map .rt:=nr rfl
@[simp] theorem ap_sIf(c:AW)(f g:AU):sIf c f g ρ=(c ρ).bind λk=>if k=true then f ρ else g ρ:=nr rfl
@[simp] theorem y91(i:Nat)(f:AX)(g:AR->D->Option AR):sMut i f g ρ=(getO i ρ).bind λl=>(f ρ).bind λd=>(g l d).map λl'=>.nx (ρ.set i (some (.ow l'))):=nr rfl
@[simp] theorem y11(gl:AY)(gt:AV)(fb:AU):sFor gl gt fb ρ=(gl ρ).bind λds=>forM gt fb ds ρ:=nr rfl
@[simp] theorem ap_fComp(gl:AY)(src:List AN)(gt:AV)(fc:AW)(fe:AX):Ybq gl src gt fc fe ρ=(gl ρ).bind λds=>Yen gt fc fe (capR src ρ) ds:=nr rfl
@[simp] theorem Yadz(is:AG)(f:AU):wF is f ρ=f (frz is ρ):=nr rfl
@[simp] theorem ap_tY:tY ρ=some true:=nr rfl
@[simp] theorem ap_gSet(i:Nat)(d:D):gSet i d ρ=some (ρ.set i (some (.sh d))):=nr rfl
def y92(g:AU):Out->Option Out
 | .nx ρ'=>g ρ'
 | o=>some o
@[simp] theorem Yg3(g:AU)(ρ':Ro):y92 g (.nx ρ')=g ρ':=nr rfl
@[simp] theorem thenS_rt(g:AU)(d:D):y92 g (.rt d)=some (.rt d):=nr rfl
@[simp] theorem Ybx(f g:AU):sSeq f g ρ=(f ρ).bind (y92 g):=nr rfl
def endB:Out->Option D
 | .rt d=>some d
 | .nx _=>some .non
 | _=>none
@[simp] theorem endB_rt(d:D):endB (.rt d)=some d:=nr rfl
def y0(h:ds.length=k):runB k n fb ds=(fb (Yr n ds)).bind endB:=by
 unfold runB;rw[if_pos h];rfl
@[simp] theorem ap_lendE(is:AG)(f:AX):Yx6 is f ρ=(f (frz is ρ)).bind scal:=nr rfl
@[simp] theorem ap_ch3(fa fb fc:AX)(g g':D->D->Option Bool):ch3 fa fb fc g g' ρ=(fa ρ).bind λx=>(fb ρ).bind λy=>(g x y).bind λk=>if k=true then (fc ρ).bind λz=>g' y z else some false:=nr rfl
@[simp] theorem scal_int(i:Int):scal (.int i)=some (.int i):=nr rfl
@[simp] theorem scal_non:scal .non=some .non:=nr rfl
@[simp] theorem frz_nil:frz [] ρ=ρ:=nr rfl
@[simp] theorem frz_cons(i:Nat)(is:AG):frz (i::is) ρ=frz is (frz1 i ρ):=nr rfl
end
@[simp] theorem i2_int(C:Int->Int->Bool)(g:Int->Int->Int)(i j:Int):i2 C g (.int i) (.int j)=if C i j=true then some (.int (g i j))else none:=nr rfl
@[simp] theorem add_int'(i j:Int):addI (.int i) (.int j)=some (.int (i+j)):=nr rfl
@[simp] theorem sub_int'(i j:Int):subI (.int i) (.int j)=some (.int (i-j)):=nr rfl
def Ywu(h:-(2^64)<i/\i<2^64):mulI (.int i) (.int j)=some (.int (i*j)):=by
 simp only[mulI,i2];rw[if_pos];simp only[Bool.or_eq_true,Qb,wm];exact .inl h
@[simp] theorem y5q(h:0<j)(h':j<1073741824):divI (.int i) (.int j)=some (.int (i/j)):=by
 simp only[divI,i2];rw[if_pos];simp only[Qb,wm];exact⟨h,h'⟩
@[simp] theorem y12(h:0<j):modI (.int i) (.int j)=some (.int (i%j)):=by
 simp only[modI,i2];rw[if_pos];simp only[wm];exact h
@[simp] theorem lt_int'(i j:Int):ltI (.int i) (.int j)=some (decide (i<j)):=nr rfl
@[simp] theorem le_int'(i j:Int):leI (.int i) (.int j)=some (decide (i<=j)):=nr rfl
@[simp] theorem gt_int'(i j:Int):gtI (.int i) (.int j)=some (decide (j<i)):=nr rfl
@[simp] theorem blD_bl(b:Bool):blD (.bl b)=some b:=nr rfl
@[simp] theorem truD_bl(b:Bool):truD (.bl b)=some b:=nr rfl
@[simp] theorem truD_lst(l:AR):truD (.lst l)=some (!l.isEmpty):=nr rfl
@[simp] theorem truD_tup(l:AR):truD (.tup l)=some (!l.isEmpty):=nr rfl
@[simp] theorem itemsOf_tup(l:AR):Yn (.tup l)=some l:=nr rfl
@[simp] theorem itemsOf_lst(l:AR):Yn (.lst l)=some l:=nr rfl
@[simp] theorem itemsOf_scr(ns:AH):Yn (.scr ns)=some (ns.map D.int):=nr rfl
@[simp] theorem lenC_one(c:D):lenC [c]=(Yn c).map λl=>.int l.length:=nr rfl
@[simp] theorem tupC_one(c:D):tupC [c]=(Yn c).map D.tup:=nr rfl
@[simp] theorem listF_one(c:D):Yrl [c]=Yn c:=nr rfl
@[simp] theorem y93(c:D)(i:Int):ixD c (.int i)=(Yn c).bind λl=>atI l i:=nr rfl
@[simp] theorem lstD_lst(l:AR):lstD (.lst l)=some l:=nr rfl
@[simp] theorem intD_int(i:Int):intD (.int i)=some i:=nr rfl
@[simp] theorem negI_int(i:Int):negI (.int i)=some (.int (-i)):=nr rfl
@[simp] theorem y13(i j:Int):eqD (.int i) (.int j)=(i==j):=by simp[eqD,toPy,PyData.eqv]
@[simp] theorem y7d(i j:Bool):eqD (.bl i) (.bl j)=(i==j):=by simp[eqD,toPy,PyData.eqv]
@[simp] theorem y94(i j:Str):eqD (.str i) (.str j)=(i==j):=by simp[eqD,toPy,PyData.eqv]
@[simp] theorem y14(l m:AR):eqD (.tup l) (.tup m)=eqL l m:=by simp[eqD,eqL,toPy,PyData.eqv]
@[simp] theorem y95:eqL [] []=true:=by simp[eqL,Yd8,PyData.eqvAll]
@[simp] theorem y5r(a b:D)(l m:AR):eqL (a::l) (b::m)=(eqD a b&&eqL l m):=by simp[eqL,eqD,Yd8,PyData.eqvAll]
@[simp] theorem eqL_cn(b:D)(m:AR):eqL (b::m) []=false:=by simp[eqL,Yd8,PyData.eqvAll]
@[simp] theorem dep_int(i:Int):dep (.int i)=0:=by simp[dep]
@[simp] theorem dep_bl(i:Bool):dep (.bl i)=0:=by simp[dep]
@[simp] theorem dep_str(i:Str):dep (.str i)=0:=by simp[dep]
@[simp] theorem dep_non:dep .non=0:=by simp[dep]
@[simp] theorem dep_tup(l:AR):dep (.tup l)=depL l+1:=by simp[dep]
@[simp] theorem depL_nil:depL []=0:=by simp[depL]
@[simp] theorem y15(d:D)(l:AR):depL (d::l)=max (dep d) (depL l):=by simp[depL]
theorem Yom(h:dep d<=60)(h':dep e<=60):eqM neg d e=some (if neg then !eqD d e else eqD d e):=by
 unfold eqM;grind
theorem y7e(hc:Yn c=some l)(h:dep d<=60)(h':depL l<=60):inM neg d c=some (if neg then !inD d l else inD d l):=by
 unfold inM;grind
theorem Yme{α:Type}(enc:α->D)(p:α->Bool)(f:α->D):∀(l:List α),(∀a∈l,∃ρ1,gt (enc a) ρ=some ρ1/\fc ρ1=some (p a)/\(p a=true->fe ρ1=some (f a)))->
 Yen gt fc fe ρ (l.map enc)=some ((l.filter p).map f)
 | [],_=>rfl
 | a::l,h=>by
   obtain⟨ρ1,h1,h2,h3⟩:=h a qh;have ih:=Yme enc p f l λb hb=>h b (qg _ hb);rw[Qa,Yen,h1,qd,h2,qd];grind
@[simp] theorem atI_zero(a:α)(l:List α):atI (a::l) 0=some a:=by
 have:=Yhv (xs:=a::l) (j:=0) (v:=a) rfl;simpa using this
@[simp] theorem atI_one(a b:α)(l:List α):atI (a::b::l) 1=some b:=by
 have:=Yhv (xs:=a::b::l) (j:=1) (v:=b) rfl;simpa using this
def y7f{j:Nat}(hi:i=(j:Int))(h:l[j]?=some v):atI l i=some v:=by
 subst hi;exact Yhv h
theorem Ydb{α:Type}(enc:α->D)(I:List α->Ro->Prop):∀(l pre:List α) (ρ:Ro),I pre ρ->
 (∀q a r ρ,pre++l=q++a::r->I q ρ->∃ρ1 ρ2,gt (enc a) ρ=some ρ1/\fb ρ1=some (.nx ρ2)/\I (q++[a]) ρ2)->∃ρ',M.forM gt fb (l.map enc) ρ=some (.nx ρ')/\I (pre++l) ρ'
 | [],pre,ρ,h0,_=>⟨ρ,rfl,by grind⟩
 | a::l,pre,ρ,h0,hs=>by
   obtain⟨ρ1,ρ2,e1,e2,h2⟩:=hs pre a l ρ rfl h0;obtain⟨ρ',e3,h3⟩:=Ydb enc I l (pre++[a]) ρ2 h2 λq b r ρ e hI=>hs q b r ρ (by grind) hI;refine⟨ρ',?_,by grind⟩;rw[Qa,M.forM,e1,qd,e2,qd];exact e3
def Yh5(a n:Int):rngD a n=(List.range (n-a).toNat).map λi=>D.int (a+(i:Nat)):=rfl
theorem Yjx(h:-1000000<=n)(h':n<=1000000):rng1 [.int n]=some (rngD 0 n):=by
 have hcap:(cap6:Int)=1000000:=by decide
 simp only[rng1];rw[if_pos];simp only[Qb,wm];lia
theorem y96(h:-1000000<=n)(h':n<=1000000)(h2:-1000000<=a)(h3:a<=1000000):rng2 [.int a,.int n]=some (rngD a n):=by
 have hcap:(cap6:Int)=1000000:=by decide
 simp only[rng2];grind
theorem y97(h0:0<=i)(h:i<(l.length:Int)):∃v,v∈l/\atI l i=some v:=by
 have hk:i.toNat<l.length:=by lia
 exact⟨l[i.toNat],List.getElem_mem hk,y7f (j:=i.toNat) (by lia) (qq hk)⟩
def Ylc{i:Nat}(h:i<l.length):atI l (i:Int)=some l[i]:=Yhv (qq h)
theorem Yft(f:α->β)(l:List α)(i:Int):atI (l.map f) i=(atI l i).map f:=by
 unfold atI;rw[qf]
 cases ixN l.length i with
 | none=>rfl
 | some j=>
   grind
@[simp] theorem nat_eq_iff(x b:Nat):((x:Int)=(b:Int))↔x=b:=by lia
@[simp] theorem eqM_int(neg:Bool)(i j:Int):eqM neg (.int i) (.int j)=some (if neg then !decide (i=j)else decide (i=j)):=by
 rw[Yom (by simp) (by simp),y13];rfl
@[simp] theorem eqM_bl(neg:Bool)(i j:Bool):eqM neg (.bl i) (.bl j)=some (if neg then !(i==j)else i==j):=by
 rw[Yom (by simp) (by simp),y7d]
@[simp] theorem isN_non(neg:Bool):isN neg .non .non=some (if neg then false else true):=by cases neg<;>rfl
@[simp] theorem isN_int(neg:Bool)(i:Int):isN neg (.int i) .non=some (if neg then true else false):=by cases neg<;>rfl
@[simp] theorem isN_tup(neg:Bool)(l:AR):isN neg (.tup l) .non=some (if neg then true else false):=by cases neg<;>rfl
@[simp] theorem isN_bl(neg:Bool)(l:Bool):isN neg (.bl l) .non=some (if neg then true else false):=by cases neg<;>rfl
@[simp] theorem y5s{α:Type}(f:α->Bool):∀l:List α,blsD (l.map λa=>.bl (f a))=some (l.map f)
 | []=>rfl
 | a::l=>by rw[Qa,blsD,y5s f l];rfl
@[simp] theorem Yiu{α:Type}(f:α->Int):∀l:List α,intsD (l.map λa=>.int (f a))=some (l.map f)
 | []=>rfl
 | a::l=>by rw[Qa,intsD,Yiu f l];rfl
@[simp] theorem Ygh(l:AH):intsD (l.map D.int)=some l:=by simpa using Yiu id l
@[simp] theorem anyC_lst(l:AR):anyC [.lst l]=(blsD l).map λbs=>.bl (bs.any id):=nr rfl
@[simp] theorem allC_lst(l:AR):allC [.lst l]=(blsD l).map λbs=>.bl (bs.all id):=nr rfl
@[simp] theorem ap_sMut2(i:Nat)(fi f:AX)(g:AR->D->D->Option AR):y0t i fi f g ρ=(f ρ).bind λd=>(getO i ρ).bind λl=>(fi ρ).bind λk=>(g l k d).map λl'=>.nx (ρ.set i (some (.ow l'))):=nr rfl
@[simp] theorem ap_sInc(i:Nat)(f:AX):sInc i f ρ=(getV i ρ).bind λx=>(f ρ).bind λy=>(i2 (λ_ _=>true) (λa b=>a+b) x y).map λz=>.nx (ρ.set i (some (.sh z))):=nr rfl
@[simp] theorem enumD_of(c:D):Yl0 c=(Yn c).map Ylz:=nr rfl
@[simp] theorem cap6_eq:cap6=1000000:=nr rfl
@[simp] theorem gV0(d:D)(r:Ro):getV 0 (some (.sh d)::r)=some d:=nr rfl
@[simp] theorem gC0(d:D)(r:Ro):getC 0 (some (.sh d)::r)=some d:=nr rfl
@[simp] theorem gC0o(l:AR)(r:Ro):getC 0 (some (.ow l)::r)=some (.lst l):=nr rfl
@[simp] theorem gO0(l:AR)(r:Ro):getO 0 (some (.ow l)::r)=some l:=nr rfl
@[simp] theorem gVs(n:Nat)(b:AT)(r:Ro):getV (n+1) (b::r)=getV n r:=by simp[getV]
@[simp] theorem gCs(n:Nat)(b:AT)(r:Ro):getC (n+1) (b::r)=getC n r:=by simp[getC]
@[simp] theorem gOs(n:Nat)(b:AT)(r:Ro):getO (n+1) (b::r)=getO n r:=by simp[getO]
@[simp] theorem frz0o(l:AR)(r:Ro):frz1 0 (some (.ow l)::r)=some (.sh (.lst l))::r:=nr rfl
@[simp] theorem frz0s(d:D)(r:Ro):frz1 0 (some (.sh d)::r)=some (.sh d)::r:=nr rfl
@[simp] theorem frz_s(n:Nat)(b:AT)(r:Ro):frz1 (n+1) (b::r)=b::frz1 n r:=by
 unfold frz1;rw[List.getElem?_cons_succ]
 cases h:r[n]? with
 | none=>rfl
 | some o=>
   cases o with
   | none=>rfl
   | some b=>cases b<;>rfl
def y16(h:a.length+b.length<=1000000):catD (.lst a) (.lst b)=some (a++b):=if_pos h
def Ypz(h:l.length<1000000):appD l d=some (l++[d]):=if_pos h
def Ygi{r:Ro}{α:Type}{enc:α->D}(f:α->D){l:List α}(h:∀a∈l,fe (some (.sh (enc a))::r)=some (f a)):Yen (gSet 0) tY fe (none::r) (l.map enc)=some (l.map f):=by
 have:=Yme (gt:=gSet 0) (fc:=tY) (fe:=fe) (ρ:=none::r) enc (λ_=>true) f l λa ha=>⟨_,rfl,rfl,λ_=>h a ha⟩
 rw[List.filter_eq_self.mpr (λ_ _=>rfl)]at this;exact this
def Ymf{r:Ro}{α:Type}{enc:α->D}(p:α->Bool)(f:α->D){l:List α}(h1:∀a∈l,fc (some (.sh (enc a))::r)=some (p a))(h2:∀a∈l,p a=true->fe (some (.sh (enc a))::r)=some (f a)):
 Yen (gSet 0) fc fe (none::r) (l.map enc)=some ((l.filter p).map f):=
 Yme (gt:=gSet 0) enc p f l λa ha=>⟨_,rfl,h1 a ha,h2 a ha⟩
def y17{α:Type}(enc:α->D)(d:α)(l:List α):Ylz (l.map enc)=(List.range l.length).map λi=>.tup [.int i,enc (l.getD i d)]:=by
 unfold Ylz;rw[qf];refine Qj λi hi=>?_;have h:=qy hi;simp[h]
end M
namespace Bk
open PySem L2 M
abbrev Say:=Nat×Bool
abbrev BA:=List Say
abbrev AZ:=List BA
inductive Kd where
 | e|s|i|n
 deriving DecidableEq
inductive Rl where
 | ei (l:BA)
 | su (b:AG) (o:Bool)
 | im (b:AG) (h:AN)
 deriving DecidableEq
def kS:Kd->Str
 | .e=>Str.ofString "eithers"
 | .s=>Str.ofString "sums"
 | .i=>Str.ofString "ifs"
 | .n=>Str.ofString "nots"
def kdD(k:Kd):D:=.str (kS k)
abbrev nD(n:Nat):D:=.int n
def sayD(s:Say):D:=.tup [.int s.1,.bl s.2]
def optD:AN->D
 | none=>.non
 | some n=>.int n
def rlD:Rl->D
 | .ei l=>.tup (l.map sayD)
 | .su b o=>.tup [.tup (b.map nD),.bl o]
 | .im b h=>.tup [.tup (b.map nD),optD h]
def Ycn(k:Kd)(R:List Rl):D:=.tup [kdD k,.tup (R.map rlD)]
@[simp] theorem dep_kd(k:Kd):dep (kdD k)=0:=by simp[kdD]
@[simp] theorem dep_say(s:Say):dep (sayD s)=1:=by simp[sayD]
@[simp] theorem dep_opt(h:AN):dep (optD h)=0:=by cases h<;>simp[optD]
theorem Yad0:∀{k j:Kd},kS k=kS j->k=j:=by
 intro k j
 cases k<;>cases j<;>first|(intro _;rfl)|(intro h;exact absurd h (by decide +kernel))
@[simp] theorem Yad1(k j:Kd):eqD (kdD k) (kdD j)=decide (k=j):=by
 rw[kdD,kdD,y94];by_cases h:k=j
 ·simp[h]
 ·have h':¬kS k=kS j:=λe=>h (Yad0 e)
  simp[h,h']
theorem Ywv(neg:Bool)(k j:Kd):eqM neg (kdD k) (kdD j)=some (if neg then !decide (k=j)else decide (k=j)):=by
 rw[Yom (by simp) (by simp),Yad1]
@[simp] theorem eqM_e(neg:Bool)(k:Kd):eqM neg (kdD k) (.str (Str.ofString "eithers"))=some (if neg then !decide (k=.e)else decide (k=.e)):=Ywv neg k .e
@[simp] theorem eqM_s(neg:Bool)(k:Kd):eqM neg (kdD k) (.str (Str.ofString "sums"))=some (if neg then !decide (k=.s)else decide (k=.s)):=Ywv neg k .s
@[simp] theorem eqM_i(neg:Bool)(k:Kd):eqM neg (kdD k) (.str (Str.ofString "ifs"))=some (if neg then !decide (k=.i)else decide (k=.i)):=Ywv neg k .i
@[simp] theorem eqM_n(neg:Bool)(k:Kd):eqM neg (kdD k) (.str (Str.ofString "nots"))=some (if neg then !decide (k=.n)else decide (k=.n)):=Ywv neg k .n
@[simp] theorem Yad2(a b:Nat):eqD (nD a) (nD b)=decide (a=b):=by
 rw[nD,nD,y13];grind
@[simp] theorem y18(s t:Say):eqD (sayD s) (sayD t)=decide (s=t):=by
 obtain⟨a,p⟩:=s;obtain⟨b,q⟩:=t;have:=Yad2 a b;simp only[nD]at this;simp only[sayD,y14,y5r,this,y7d,y95,Bool.and_true];by_cases h1:a=b<;>by_cases h2:p=q<;>simp[h1,h2]
theorem Yus{α:Type}[DecidableEq α]{enc:α->D}(he:∀a b,eqD (enc a) (enc b)=decide (a=b))(s:α):∀l:List α,inD (enc s) (l.map enc)=decide (s∈l)
 | []=>by simp[inD]
 | t::l=>by
   have ih:=Yus he s l;unfold inD at ih ⊢;grind
theorem Yut:∀{l:AR},(∀d∈l,dep d<=n)->depL l<=n
 | [],_=>by simp
 | d::l,h=>by
   rw[y15];exact Nat.max_le.mpr ⟨h d qh,Yut λe he=>h e (qg _ he)⟩
theorem Yad3(s:Say)(l:BA)(neg:Bool)(hc:Yn c=some (l.map sayD)):inM neg (sayD s) c=some (if neg then !decide (s∈l)else decide (s∈l)):=by
 rw[y7e hc (by simp) (Yut λd hd=>by obtain⟨x,_,rfl⟩:=qw hd;simp),Yus y18];grind
theorem in_n(s:Nat)(l:AG)(neg:Bool)(hc:Yn c=some (l.map nD)):inM neg (nD s) c=some (if neg then !decide (s∈l)else decide (s∈l)):=by
 rw[y7e hc (by simp) (Yut λd hd=>by obtain⟨x,_,rfl⟩:=qw hd;simp),Yus Yad2]
@[simp] theorem ix_say0(s:Say):(Yn (sayD s)).bind (λl=>atI l 0)=some (.int s.1):=by simp[sayD]
@[simp] theorem ix_say1(s:Say):(Yn (sayD s)).bind (λl=>atI l 1)=some (.bl s.2):=by simp[sayD]
@[simp] theorem items_ei(l:BA):Yn (rlD (.ei l))=some (l.map sayD):=nr rfl
@[simp] theorem items_su(b:AG)(o:Bool):Yn (rlD (.su b o))=some [.tup (b.map nD),.bl o]:=nr rfl
@[simp] theorem items_im(b:AG)(h:AN):Yn (rlD (.im b h))=some [.tup (b.map nD),optD h]:=nr rfl
@[simp] theorem items_book(k:Kd)(R:List Rl):Yn (Ycn k R)=some [kdD k,.tup (R.map rlD)]:=nr rfl
def at'(ev:AJ)(n:Nat):Bool:=ev.getD n false
def y5t{ev:AJ}(h:n<ev.length):atI (ev.map D.bl) (n:Int)=some (.bl (at' ev n)):=by
 rw[Yft,Ylc h];simp[at',h]
def In(k:Kd)(n:Nat):Rl->Prop
 | .ei l=>k=.e/\∀s∈l,s.1<n
 | .su b _=>k=.s/\∀x∈b,x<n
 | .im b h=>(k=.i\/k=.n)/\(∀x∈b,x<n)/\∀x,h=some x->x<n
def slt(s t:Say):Prop:=s.1<t.1\/(s.1=t.1/\s.2=false/\t.2=true)
def Srt:Rl->Prop
 | .ei l=>l.length<=2/\l.Pairwise slt
 | .su b _=>b.Pairwise (·<·)
 | .im b _=>b.Pairwise (·<·)
def hd(ev:AJ)(w:Bool):AN->Bool
 | none=>false
 | some x=>at' ev x==w
def nth(R:List Rl)(i:Nat):Rl:=R.getD i (.ei [])
def so(k:Kd)(ev:AJ):Rl->Bool
 | .ei l=>l.any λs=>at' ev s.1==s.2
 | .su b o=>decide ((b.filter (at' ev)).length%2=1)==o
 | .im b h=>(b.any λx=>at' ev x != decide (k=.i))||hd ev (decide (k=.i)) h
end Bk
namespace Bk
def brk(k:Kd)(ev:AJ)(R:List Rl):AG:=(List.range R.length).filter λi=>!so k ev (nth R i)
end Bk
namespace Bk
open PySem L2 M
def y98(l:BA):D.tup (l.map sayD)=rlD (.ei l):=rfl
def sz:Rl->Nat
 | .ei l=>l.length
 | .su b _=>b.length
 | .im b _=>b.length
end Bk
namespace Bk
def bcs:Rl->AG
 | .ei l=>l.map (·.1)
 | .su b _=>b
 | .im b none=>b
 | .im b (some x)=>b++[x]
end Bk
namespace Bk
open PySem L2 M
def vd:Kd->Rl
 | .e=>.ei []
 | .s=>.su [] true
 | _=>.im [] none
end Bk
namespace M
open PySem PySem.Spec PyProof.Rows L2
section
variable {K:W.Frag}
end
section
end
section
variable {K:W.Frag}
section
variable {prog:Program}{w:World}{A:Around}{E:AB}{s:Shared}{X:Cx}{a e:Expr}{fa f:AX}{pos:Pos}
theorem Yyk(hl:s.heap.IsList l vs.toArray)(hi:IntsAre vs ns)(hb:ns.length<=2^24)(hk:k∈ns)(h:Q (.int (ns.idxOf k:Nat) s.toks) { s with toks:=s.toks+1 }):
 wpAny (model prog w) A (call (.builtin "list.index") [.ref l,.int k t]) Q E s:=by
 obtain⟨⟨cls,dd,data,sl⟩,ho,hc,n,hd⟩:=id hl;simp only at hc hd;subst hc hd;have hlen:=hi.length;have hj:ns.idxOf k<ns.length:=List.idxOf_lt_length_iff.mpr hk
 refine call_meets PySem.F.slot_list_index ⟨_,ho,rfl⟩ PySem.F.entry_list_index (PySem.F.args_list_index_2 _ _)
  (PySem.SeqAt.list_indexAt l vs.toArray n dd sl (.int k t) (isInt k) (ns.idxOf k) (by grind) (by lia) ?_ ?_) ⟨ho,λy hy=>(eq_isInt k t hi y (by grind)).at _ _,h⟩
 ·show isInt k vs[ns.idxOf k]=true
  rw[isInt_at k hi _ (by lia) hj];grind
 ·intro j hjs hlt
  show isInt k vs[j]=false;rw[isInt_at k hi j (by grind) (by lia)];exact ne_of_lt_idxOf hlt _
def rIdx(K:W.Frag):V->AQ->Hp->VK->Prop:=λx vs H Q=>∃(l:Addr) (ns:AH) (k:Int),x=.ref l/\vs=[.int k]/\SqL K H l (ns.map V.int)/\k∈ns/\Q (.int (ns.idxOf k:Nat)) H
def y5u:MtM X "list.index" (rIdx X.K):=by
 intro pins s σ H x vs v us Q I rx rv h;obtain⟨l,ns,k,rfl,rfl,hH,hk,q⟩:=h;cases rx;obtain⟨u,rfl,⟨t,rfl⟩⟩:=Yhc rv;obtain⟨its,r,pl,hz⟩:=I.list hH;exact Yyk pl.isList (Ygy r) (by rw[qf]at hz;exact hz) hk ⟨.int (ns.idxOf k:Nat),H,I.tok _,⟨_,rfl⟩,q⟩
def idxD:D->D->Option D
 | .lst l,.int k=>(intsD l).bind λns=>if k∈ns then some (.int (ns.idxOf k:Nat))else none
 | _,_=>none
theorem y19{apos cpos:Pos}(ha:ZC X a fa)(he:ZE X e f)(hs:starEach [e] X.env=[(false,eval e X.env)]:=by rfl)(hfew:Few X cpos [e]:=by rfl)(hline:(apos.endLine==cpos.line)=true:=by rfl)(hbase:attributeBase a "index" X.env (eval a X.env)=eval a X.env:=by rfl):
 ZE X (.Call (.Attribute a "index" apos) [e] [] cpos) (b2 fa f idxD):=⟨have ha:=ha.un;have he:=he.un;
 PE.imp (Yxu PySem.F.plainAttrs_list PySem.F.slot_list_index PySem.F.type_list_index y5u ha (Ydm he Yhk hs) hbase hfew hline hs rfl) λσ H Q hx_=>by
  obtain⟨ρ,d,H0,G0,G,e,s,h⟩:=hx_;obtain⟨dx,h1,e⟩:=qa e;obtain⟨dy,h2,h3⟩:=qa e
  cases dx<;>try cases h3
  rename_i l
  cases dy<;>try cases h3
  rename_i k;obtain⟨ns,h4,h5⟩:=qa h3;by_cases hk:k∈ns
  ·rw[if_pos hk]at h5
   cases h5;have:=Yd1 h4;subst this;refine tCof.at h1 s λv H1 G1 g1 r1 s1=>?_;rw[Ct]at r1;obtain⟨p,xs,rfl,g,rl⟩:=r1;have:=Yg1 rl;subst this;refine⟨.inl ⟨rfl,_,.inl g⟩,tOf.at h2 s1 λu H2 G2 g2 r2 s2=>?_⟩;rw[Rp]at r2;subst r2;refine⟨p,ns,k,rfl,rfl,.inl (g.imp (g2.h _ _) λq=>q.imp λo q=>g2.h _ _ q),hk,?_⟩;exact h _ H2 G2 (g1.trans g2) (by rw[Rp])
  grind⟩
def orD(f g:AX):AX:=λρ=>(f ρ).or (g ρ)
def y99(h1:ZE X e f)(h2:ZE X e g):ZE X e (orD f g):=⟨have h1:=h1.un;have h2:=h2.un;λpins s σ H Q I h=>by
 obtain⟨ρ,d,H0,G0,G,e0,s0,q⟩:=h;unfold orD at e0
 cases hf:f ρ with
 | some d'=>
   rw[hf]at e0;cases e0;exact h1 pins s σ H Q I ⟨ρ,_,H0,G0,G,hf,s0,q⟩
 | none=>
   rw[hf]at e0
   exact h2 pins s σ H Q I ⟨ρ,d,H0,G0,G,e0,s0,q⟩⟩
@[simp] theorem ap_orD(f g:AX):orD f g ρ=(f ρ).or (g ρ):=nr1 rfl
@[simp] theorem y5w(l:AH)(k:Int):idxD (.lst (l.map D.int)) (.int k)=if k∈l then some (.int (l.idxOf k:Nat))else none:=by
 show(intsD (l.map D.int)).bind _=_;rw[Ygh];rfl
end
end
section
set_option maxRecDepth 100000
section
variable {prog:Program}{w:World}{A:Around}{E:AB}{s:Shared}
abbrev KvT:=List Int×Addr×Value
def Yaf7(h:Heap)(u:Value)(p:KvT):Prop:=∃t o n,u=.ref t/\h.get? t=some o/\o.cls=.type "tuple"/\o.data=.seq #[.ref p.2.1,p.2.2] n
def Yww(h:Heap):AD->List KvT->Prop
 | [],[]=>True
 | u::us,p::ps=>Yaf7 h u p/\Yww h us ps
 | _,_=>False
theorem y2a{xs:List KvT}(h:k∉xs.map (·.1)):atKey xs k=none:=by
 refine atKey_none_of_get λj p e=>h ?_;grind
theorem dulT{items:AD}(hu:A.units+8<cLine)(hh:A.handled=none)(hd0:h0.get? d=none)(hi0:h0.get? it=none)(hdi:d≠it)(hL:h0.IsList L items.toArray):
 ∀(ps:List KvT) (i:Nat) (c:Int) (kvs:List KvT) (s:Shared),Yww h0 (items.drop i) ps->kvs.length+ps.length<=sizeLine->((kvs++ps).map (·.1)).Nodup->(∀h',OldH h0 h'->∀x∈kvs++ps,(tupleKind (Yax prog w)).is h' x.1 x.2.1)->
 s.heap.IsListIter it L i->OldH h0 s.heap->s.heap.DictOfH (tupleKind (Yax prog w)) d kvs->
 (∀h' tk,OldH h0 h'->h'.DictOfH (tupleKind (Yax prog w)) d (kvs++ps)->R (.ok (.ret .none)) { s with heap:=h',toks:=tk })->
 codeAny (model prog w) A (.builtin "dict.update.loop" ⟨[.ref d,.ref it,.int c 0,.none],[]⟩) R s:=by
 intro ps
 induction ps with
 | nil=>
   intro i c kvs s hp hz hnd hks hit ho hd hR;have hL':s.heap.IsList L items.toArray:=let ⟨o,e,r⟩:=hL;⟨o,ho _ _ e,r⟩
   have hx:items.toArray[i]?=none:=by
    cases hdr:items.drop i with
    | nil=>simpa using hdr
    | cons u us=>rw[hdr]at hp;exact hp.elim
   refine wz Yip ?_;rw[jf Ydg _];show wpAny _ A.in1 (pyNext (.ref it)>>=_) _ _ s;refine wa (wpAny_pyNext_list_end (A:=A.in1) hh hit hL' hx λh' hs=>?_);show wpAny _ A.in1 (Builtin.Dict.addKeywords d []>>=_) _ _ _;have old':OldH h0 h':=λb ob q=>hs b ob (λz=>by grind) (ho b ob q);obtain⟨o,es,ep,g1,g2,g3,g4,g5,g6⟩:=hd;rw[ja]at hR hks;refine wa (wb (wb (hR h' s.toks old' ⟨o,es,ep,hs _ _ hdi g1,g2,g3,g4,λx hx=>hks h' old' x hx,g6⟩)))
 | cons p ps ih=>
   intro i c kvs s hp hz hnd hks hit ho hd hR;have hL':s.heap.IsList L items.toArray:=let ⟨o,e,r⟩:=hL;⟨o,ho _ _ e,r⟩
   cases hdr:items.drop i with
   | nil=>rw[hdr]at hp;exact hp.elim
   | cons u us=>
     rw[hdr]at hp;obtain⟨⟨t,ob,n,rfl,ht,hc,hdat⟩,hp⟩:=hp
     have hx:items.toArray[i]?=some (.ref t):=by
      have:=congrArg List.head? hdr;simpa [List.head?_drop]using this
     have hus:us=items.drop (i+1):=by
      have:=congrArg List.tail hdr;simpa using this.symm
     refine wz Yip ?_;rw[jf Ydg _];show wpAny _ A.in1 (pyNext (.ref it)>>=_) _ _ s;refine wa (wpAny_pyNext_list_item hit hL' hx λh1 hi1 hs1=>?_);have ho1:=OldH.but hi0 ho hs1;obtain⟨o,es,ep,g1,g2,g3,g4,g5,g6⟩:=hd
     have hd1:h1.DictOfH (tupleKind (Yax prog w)) d kvs:=⟨o,es,ep,by rw[hs1.2 d hdi];exact g1,g2,g3,g4,λx hx=>hks h1 ho1 x (List.mem_append.mpr (.inl hx)),g6⟩
     have ht1:=ho1 _ _ ht
     have hT:(Shared.TypeIs { s with heap:=h1 } (.ref t) "tuple"):=⟨ob,ht1,hc⟩
     show wpAny _ A.in1 (holding [Value.ref t] _>>=_) _ _ _;refine wa (wc (wa (wpAny_tryCatch ?_)));unfold Builtin.Dict.pairItems;refine wa (wpAny_typeOf hT ?_);rw[if_pos (by decide)];refine wa (wpAny_seqItems ht1 hdat (wb ?_));show wpAny _ A.in1 (holding [Value.ref p.2.1,p.2.2] (dictSet d (.ref p.2.1) p.2.2)) _ _ _;have hlen:=qr (a:=p) (as:=ps)
     have hnew:p.1∉kvs.map (·.1):=λz=>by
      grind
     refine wc (wpAny_dictSet_heap (s:={ s with heap:=h1 }) (knd:=tupleKind (Yax prog w)) (k:=p.1) (a:=p.2.1) (xs:=kvs) (hsz:=by lia) (by show A.in1.units<cLine;grind) (hks h1 ho1 p (by simp)) hd1 λh2 hd2 hs2=>?_);rw[storedH_new (y2a hnew)]at hd2
     have e:kvs++p::ps=(kvs++[(p.1,p.2.1,p.2.2)])++ps:=by simp
     refine wb ⟨je Ydg _,?_⟩;refine ih (i+1) (c+1) _ _ (by grind) (by grind) (by grind) (λh' o'=>by grind) (IsListIter.but hi1 hs2 (Ne.symm hdi)) (OldH.but hd0 ho1 hs2) hd2 λh' tk' o' d'=>hR h' tk' o' (by grind)
theorem Ykq(hu:A.units+64<cLine)(hh:A.handled=none)(hL:PlainL s.heap L its.toArray)(hp:Yww s.heap its ps)(hz:ps.length<=sizeLine)(hnd:(ps.map (·.1)).Nodup)(hks:∀h',OldH s.heap h'->∀x∈ps,(tupleKind (Yax prog w)).is h' x.1 x.2.1)(hQ:∀h' tk,OldH s.heap h'->h'.DictOfH (tupleKind (Yax prog w)) (~~~s) ps->Q (.ref (~~~s)) { s with heap:=h',toks:=tk }):
 wpAny (model prog w) A (call (.type "dict") [.ref L]) Q E s:=by
 generalize hO:({ cls:=.type "dict",data:=.dict #[] }:Obj)=dO;refine callType_codes (Q₁:=λobj s₁=>obj=.ref (~~~s)/\s₁={ s with heap:=s.heap.push dO }) F.kt_called_dict (F.kt_typeCall_dict_1 _) F.entry_dict_init (kt_code_dict_new _ ⟨rfl,by rw[hO]⟩) ?_;rintro obj s₁ ⟨rfl,rfl⟩
 have hnew:(s.heap.push dO).DictOfH (tupleKind (Yax prog w)) (~~~s) []:=by rw[<-hO];exact Heap.DictOfH.new s.heap
 refine⟨hnew.typeIs,F.args_dict_init_2 _ _,?_⟩;unfold Builtin.«dict.__init__»;refine wa ?_;unfold Builtin.Dict.selfAndRest;refine wa (wpAny_notOrdered_dict hnew.typeIs ?_);show wpAny _ _ (pure (~~~s,[Value.ref L])) _ _ _;refine wb ?_;show wpAny _ _ (Builtin.Dict.updateFrom "dict.__init__" (~~~s) (.ref L) [] .none) _ _ _;unfold Builtin.Dict.updateFrom;obtain⟨o,n,e,h1,h2,h3⟩:=hL;have e':(s.heap.push dO).get? L=some o:=qe _ e
 have hT:Shared.TypeIs { s with heap:=s.heap.push dO } (.ref L) "list":=⟨o,e',h1⟩
 refine wa (wpAny_typeOf hT ?_);rw[if_pos (by decide)];refine wa (y1h (A:=A.in1.in1) (s:={ s with heap:=s.heap.push dO }) e' h1 h2 h3 (by simp[hh]) λh' tk keep=>?_);rw[if_pos (by rfl)];refine wa (wpAny_rule (wa ?_))
 have hL':h'.IsList L its.toArray:=⟨o,keep _ _ e',h1,n,h3⟩
 refine wpAny_pyIter_list (s:={ s with heap:=h',toks:=tk }) hL' ?_;have old1:OldH s.heap h':=λb ob q=>keep _ _ (qe _ q);obtain⟨od,es,ep,hod,hrest⟩:=id hnew;have hd':=keep _ _ hod;have hlt:(~~~s)<h'.objs.size:=ql hd';generalize hI:({ cls:=.type "list_iterator",data:=.fields #[.ref L,.int 0 0] }:Obj)=iO;refine wb ⟨je Ydg _,?_⟩;refine dulT (h0:=s.heap) ?_ (by simp[hh]) (Heap.get?_none_of_le (qu _)) (Heap.get?_none_of_le (Nat.le_of_lt hlt)) (qm hlt) ⟨o,e,h1,n,h3⟩ ps 0 0 [] _ (by grind) (by grind) (by grind) (by grind) ?_ (λb ob q=>qe _ (old1 b ob q)) ?_ λh2 tk2 o2 d2=>?_
 ·grind
 ·exact⟨iO,qp _ (by rw[<-hI];rfl),by rw[<-hI],by grind⟩
 ·obtain⟨r1,r2,r3,_,r5⟩:=hrest
  exact⟨od,es,ep,qe _ hd',r1,r2,r3,λx hx=>(nomatch hx),r5⟩
 grind
end
abbrev QvT:=(List Int×Addr)×V
def Yp0(H:Hp):AQ->List QvT->Prop
 | [],[]=>True
 | x::xs,q::qs=>(∃b ys,x=.ref b/\H b=some (.tup [.ref q.1.2,q.2])/\H q.1.2=some (.tup ys)/\Yfn ys=some q.1.1)/\Yp0 H xs qs
 | _,_=>False
theorem y2b:∀{qs:List QvT}{ps:List KvT},ps.map (λp=>(p.1,p.2.1))=qs.map (·.1)->zipX (qs.map (·.1)) (ps.map (·.2.2))=ps
 | [],[],_=>rfl
 | q::qs,p::ps,h=>by
   rw[Qa,Qa]at h;injection h with h1 h2;have ih:=y2b h2;unfold zipX at ih ⊢;rw[Qa,Qa,List.zip_cons_cons,Qa,ih,<-h1]
 | [],_::_,h=>by cases h
 | _::_,[],h=>by cases h
section
variable {X:Cx}
theorem Yon{σ:L2.St}(I:Inv X pins σ H s):∀{ys:AQ}{its:AD}{qs:List QvT},Yp0 H ys qs->Vals ys its->∃ps:List KvT,Yww s.heap its ps/\ps.map (λp=>(p.1,p.2.1))=qs.map (·.1)/\Vals (qs.map (·.2)) (ps.map (·.2.2))/\∀p∈ps,∃zs,H p.2.1=some (.tup zs)/\Yfn zs=some p.1
 | [],its,[],_,r=>by
   cases r;exact⟨[],trivial,rfl,.nil,λp hp=>(nomatch hp)⟩
 | y::ys,its,q::qs,h,r=>by
   obtain⟨⟨b,zs,rfl,hb,hk,hn⟩,h⟩:=h
   cases r with
   | cons r1 r2=>
     cases r1;obtain⟨ps,h1,h2,h3,h4⟩:=Yon I h r2;obtain⟨its2,rv,⟨o,e,hc,n,hd⟩,_⟩:=I.tuple (xs:=[.ref q.1.2,q.2]) (.of hb)
     cases rv with
     | cons ra rb=>
       cases rb with
       | cons rc rd=>
         cases rd;cases ra;refine⟨(q.1.1,q.1.2,_)::ps,⟨⟨b,o,n,rfl,e,hc,hd⟩,h1⟩,by grind,.cons rc h3,λp hp=>?_⟩;grind
 | [],_,_::_,h,_=>h.elim
 | _::_,_,[],h,_=>h.elim
def Yad5(K:W.Frag):AQ->Hp->VK->Prop:=λxs H Q=>∃a ys qs,xs=[.ref a]/\SqL K H a ys/\Yp0 H ys qs/\qs.length<cap6/\(qs.map (·.1.1)).Nodup/\∀p ep,H p=none->Q (.ref p) (upd H p (dTo p (qs.map (·.1)) (qs.map (·.2)) ep))
theorem Yyl(hu:X.A.units+64<cLine)(hc:X.calm=true):Ydt X (.type "dict") (Yad5 X.K):=by
 intro pins s σ H xs us Q I r h;obtain⟨a,ys,qs,rfl,hq,hv,hl,hnd,q⟩:=h;obtain⟨u,rfl,rx⟩:=Yhc r;cases rx;have hh:X.A.handled=none:=I.ok.hd hc;obtain⟨its,rv,pl,hz⟩:=I.list hq;obtain⟨ps,h1,h2,h3,h4⟩:=Yon I hv rv;have hcap:cap6=1000000:=rfl
 have hlen:ps.length=qs.length:=by
  have:=congrArg List.length h2;grind
 have hps:ps.length<=sizeLine:=by rw[hlen,jj];lia
 have hk:ps.map (·.1)=qs.map (·.1.1):=by
  have:=congrArg (List.map Prod.fst) h2;rw[Qe,Qe]at this;exact this
 have hd:(~~~s==sysModules)=false:=beq_eq_false_iff_ne.mpr (Ne.symm (qm I.big));refine Ykq hu hh pl h1 hps (by grind) (λh' old x hx=>?_) λh' tk old dd=>?_
 ·obtain⟨zs,e1,e2⟩:=h4 x hx
  exact Yh1 (P:=X.prog) (w:=X.w) (I.kept (t':=s.toks) (h':=h') λb o e=>old b o e).hok e1 e2
 ·rw[<-y2b h2]at dd
  obtain⟨ep,new⟩:=Yru hd h3 dd;exact⟨.ref (~~~s),_,I.laid (t':=tk) (λb o e=>old b o e) (qu _) (new _),rfl,q _ ep (I.hok.fresh (qu _))⟩
end
def Ykf:AR->Option (List (D×D))
 | []=>some []
 | .tup [k,v]::l=>(Ykf l).map ((k,v)::·)
 | _=>none
def Yp1:D->Option (List (D×D))
 | .lst l=>Ykf l
 | _=>none
variable {K:W.Frag}
theorem Yoo(s:Same G H):∀{l:AR}{ps:List (D×D)}{kn:List AH}{xs:AQ},Ykf l=some ps->Yhg (ps.map (·.1))=some kn->RpL K G l xs->
 ∃qs:List QvT,Yp0 H xs qs/\qs.map (·.1.1)=kn/\RpL K G (ps.map (·.1)) (qs.map λq=>V.ref q.1.2)/\RpL K G (ps.map (·.2)) (qs.map (·.2))/\qs.length=ps.length/\∀q∈qs,∃ys,G q.1.2=some (.tup ys)/\Yfn ys=some q.1.1
 | [],ps,kn,xs,e,ek,r=>by
   rw[Ykf]at e;cases e;rw[List.map_nil,Yhg]at ek;cases ek;rw[RpL]at r;subst r;exact⟨[],trivial,rfl,.nil,.nil,rfl,λq hq=>(nomatch hq)⟩
 | d::l,ps,kn,xs,e,ek,r=>by
   unfold Ykf at e
   split at e
   case h_1 he=>cases he
   case h_2 k v l' he=>
    injection he with he1 he2;subst he1 he2;obtain⟨ps',h1,rfl⟩:=qc e;rw[RpL]at r;obtain⟨x,xr,rfl,rx,rr⟩:=r;rw[Qa,Yhg]at ek;obtain⟨n,hn,ek⟩:=qa ek;obtain⟨kn',ek',rfl⟩:=qc ek;obtain⟨qs,h2,h3,h4,h5,h6,h7⟩:=Yoo s h1 ek' rr;rw[Rp]at rx;obtain⟨b,ys,rfl,hb,ry⟩:=rx;rw[RpL]at ry;obtain⟨y1,yr,rfl,r1,ry⟩:=ry;rw[RpL]at ry;obtain⟨y2,yr,rfl,r2,ry⟩:=ry;rw[RpL]at ry;subst ry;obtain⟨kb,zs,rfl,k1,k2,k3⟩:=Yrt (H:=H) hn (Ct.of s r1);refine⟨((n,kb),y2)::qs,⟨⟨b,zs,rfl,s _ _ hb,k1,k3⟩,h2⟩,by grind,.cons r1 h4,.cons r2 h5,by grind,λq hq=>?_⟩;grind
   grind
section
variable {X:Cx}{e:Expr}{f:AX}{pos:Pos}
def Yym(i:Nat)(f:AX):AU:=λρ=>((f ρ).bind Yp1).bind λps=>(Yhg (ps.map (·.1))).bind λkn=>if ps.length<cap6/\kn.Nodup then some (.nx (ρ.set i (some (.od true (ps.map (·.1)) (ps.map (·.2))))))else none
@[simp] theorem Ywx(i:Nat):Yym i f ρ=((f ρ).bind Yp1).bind λps=>(Yhg (ps.map (·.1))).bind λkn=>if ps.length<cap6/\kn.Nodup then some (.nx (ρ.set i (some (.od true (ps.map (·.1)) (ps.map (·.2))))))else none:=nr1 rfl
theorem y5x(hu:X.A.units+64<cLine)(hc:X.calm=true)(i:Nat){pos' p2 cpos:Pos}(hN:X.N.Nodup)(hg:Gl X "dict")(hm:X.mg "dict"=none)(ha:ZC X e f)(hi:X.N[i]?=some x:=by rfl)(hx:Loc X.env.scope x:=by trivial)(hst:starEach [e] X.env=[(false,eval e X.env)]:=by rfl)(hpl:(backTo cpos (starEach [] X.env)).any (·.1)=false:=by rfl)(hs:swapsWith (.Call (.Name "dict" p2) [e] [] cpos) (some (.Name x pos')) pos.line X.env=pure false:=by rfl)(hf:X.fn x=true\/X.env.scope.names.lookup x=some .local:=by trivial):ZS X (.Assign [.Name x pos'] (.Call (.Name "dict" p2) [e] [] cpos) pos) (Yym i f):=⟨have ha:=ha.un;
 PS.imp (Yn7 hN hi hx (Yd6 (Yyl hu hc) hg hm (by decide +kernel) (Yfo ha Yhz hst) (by decide) (by decide) hst hpl) hs hf) λF σ H hx_=>by
  obtain⟨ρ,out,H0,G0,G,e,s,h⟩:=hx_;unfold Yym at e;obtain⟨ps,h1,e⟩:=qa e;obtain⟨kn,hkn,e⟩:=qa e;obtain⟨d,h2,h3⟩:=qa h1
  split at e
  case isFalse=>cases e
  rename_i hcap;cases e;refine tCAof.at (show Ye f aNil ρ=some [d] by simp_all) s λvs H1 G1 g1 r1 s1=>?_;obtain⟨v,rfl,rv⟩:=Ycz r1
  cases d with
  | lst l=>
    rw[Ct]at rv;obtain⟨a,xs,rfl,hq,rl⟩:=rv;obtain⟨qs,k1,k2,k3,k4,k5,k6⟩:=Yoo s1.seen (show Ykf l=some ps from h3) hkn rl;refine⟨a,xs,qs,rfl,.inl hq,k1,by grind,by grind,λp ep hp=>?_⟩;refine h _ _ G1 (s1.set_od i (.hid s1.seen hp _) hp (s1.seen.free hp) (kxs:=qs.map λq=>V.ref q.1.2) (vxs:=qs.map (·.2)) (.inr ⟨rfl,qs.map (·.1),ep,Yt,by simp,by grind,by simp_all,λq hq=>?_⟩) k3 k4);grind
  | _=>cases h3⟩
end
end
section
set_option maxRecDepth 100000
section
variable {prog:Program}{w:World}{A:Around}{E:AB}{s:Shared}
def DRaw(h:Heap)(d:Addr)(es:Array DictEntry)(ep:Nat):Prop:=∃o,h.get? d=some o/\o.ExactDict/\o.data=.dict es ep
def DRaw.typeIs(hm:DRaw s.heap d es ep):s.TypeIs (.ref d) "dict":=by
 obtain⟨o,ho,hc,_⟩:=hm;exact⟨o,ho,hc.1⟩
theorem Ysa(hd:(d==sysModules)=false)(hm:DRaw s.heap d es ep)(hQ:Q (.ref (~~~s)) { s with heap:=s.heap.push { cls:=.type "dict_keyiterator",data:=.fields #[.ref d,.int 0 0,.int es.size 0,.int ep 0] } }):wpAny (model prog w) A (pyIter (.ref d)) Q E s:=by
 have hT:=hm.typeIs;obtain⟨o,ho,hc,hdat⟩:=hm;refine wpAny_pyIter_slot hT F.slot_dict_iter (we F.slot_dict_iter hT F.entry_dict_iter ?_ (F.args_dict_iter_1 _));unfold Builtin.«dict.__iter__»;refine wa ?_;unfold Builtin.Dict.dictSlotNone;refine wa (wpAny_notOrdered_dict hT ?_);show wpAny _ _ (pure (Value.ref d)) _ _ s;refine wb ?_;show wpAny _ _ (Builtin.Dict.showsAll d>>=_) _ _ s;unfold Builtin.Dict.showsAll;rw[if_neg (by grind)];refine wa (wb ?_);refine wa (wpAny_dictEntries ho hdat ?_);refine wa (wpAny_dictEpoch ho hdat ?_);refine wa (wg (wb ⟨_,rfl,"dict_keyiterator",_,⟨_,qp _ rfl,rfl⟩,F.slot_dict_keyiterator_next.lookup,?_⟩));simpa [rawInt]using hQ
theorem Yhn(hit:s.heap.IsKeyIter it d i es.size ep)(hm:DRaw s.heap d es ep)(hx:i<es.size)(hQ:∀h':Heap,h'.IsKeyIter it d (i+1) es.size ep->Heap.SameBut it s.heap h'->Q (some es[i].key) { s with heap:=h' }):wpAny (model prog w) A (pyNext (.ref it)) Q E s:=by
 obtain⟨o,ho,hc,hd⟩:=id hit;obtain⟨od,hod,hcd,hdd⟩:=hm;unfold pyNext
 refine wa (ji (wpAny_callSpecial?_slot (name:=Str.ofString "__next__") hit.typeIs F.slot_dict_keyiterator_next
  (we F.slot_dict_keyiterator_next hit.typeIs F.entry_dict_keyiterator_next ?_ (F.args_dict_keyiterator_next_1 _))))
 refine wa (wb ?_);refine wa ?_;refine wa ?_
 first|refine wa (wpAny_typeNameOfWhole_keyiter hit.typeIs (wb ?_))|refine wa (wpAny_typeNameOf_keyiter hit.typeIs (wb ?_))
 refine wa (wpAny_fieldsOf ho hd ?_)
 have hown:Builtin.Dict_items.ownsTuple "dict_keyiterator"=false:=by decide
 simp only[hown,Bool.false_eq_true,if_false];show wpAny _ _ (if (Value.ref d==Value.none)=true then _ else _) _ _ s;rw[if_neg (show ¬((Value.ref d==Value.none)=true) from qi)];refine wa (wb ?_);refine wa (wpAny_dictEntries hod hdd ?_);rw[if_neg (by simp)];refine wa (wb ?_);refine wa (wpAny_dictEpoch hod hdd ?_);rw[if_neg (by simp)];refine wb ?_;simp only[show ¬((i:Int)<0) from by lia,if_false,w9,Array.getElem?_eq_getElem hx];refine wa ?_
 first|refine wa (wpAny_typeNameOfWhole_keyiter hit.typeIs (wb ?_))|refine wa (wpAny_typeNameOf_keyiter hit.typeIs (wb ?_))
 refine wa (wpAny_isOneOf_keyiter hit.typeIs ?_);show wpAny _ _ (setField (.ref it) 1 (rawInt ((i:Int)+1))>>=_) _ _ s;refine wa (wpAny_setField ho hd (by simp) ?_)
 have hit':(s.heap.update it (Obj.mapFields (·.setIfInBounds 1 (rawInt ((i:Int)+1))))).IsKeyIter it d (i+1) es.size ep:=
  ⟨_,wy _ ho (Obj.isFreed_of_fields (jh hd _)),(Obj.cls_mapFields ..).trans hc,by rw[jh hd];simp[rawInt]⟩
 refine wa (wc ?_);refine wa (wpAny_isOneOf_keyiter (s:={ s with heap:=s.heap.update it (Obj.mapFields (·.setIfInBounds 1 (rawInt ((i:Int)+1)))) }) hit'.typeIs ?_);show wpAny _ _ (pure es[i].key) _ _ _;exact wb (wb ⟨_,rfl,wb (hQ _ hit' (wv ..))⟩)
theorem Yiv(hh:A.handled=none)(hit:s.heap.IsKeyIter it d i es.size ep)(hm:DRaw s.heap d es ep)(hge:es.size<=i)(hQ:∀h',Heap.ExtBut it s.heap h'->Q none { s with heap:=h' }):wpAny (model prog w) A (pyNext (.ref it)) Q E s:=by
 obtain⟨o,ho,hc,hd⟩:=id hit;obtain⟨od,hod,hcd,hdd⟩:=hm;unfold pyNext
 refine wa (ji (wpAny_callSpecial?_slot (name:=Str.ofString "__next__") hit.typeIs F.slot_dict_keyiterator_next
  (we F.slot_dict_keyiterator_next hit.typeIs F.entry_dict_keyiterator_next ?_ (F.args_dict_keyiterator_next_1 _))))
 refine wa (wb ?_);refine wa ?_;refine wa ?_
 first|refine wa (wpAny_typeNameOfWhole_keyiter hit.typeIs (wb ?_))|refine wa (wpAny_typeNameOf_keyiter hit.typeIs (wb ?_))
 refine wa (wpAny_fieldsOf ho hd ?_)
 have hown:Builtin.Dict_items.ownsTuple "dict_keyiterator"=false:=by decide
 simp only[hown,Bool.false_eq_true,if_false];show wpAny _ _ (if (Value.ref d==Value.none)=true then _ else _) _ _ s;rw[if_neg (show ¬((Value.ref d==Value.none)=true) from qi)];refine wa (wb ?_);refine wa (wpAny_dictEntries hod hdd ?_);rw[if_neg (by simp)];refine wa (wb ?_);refine wa (wpAny_dictEpoch hod hdd ?_);rw[if_neg (by simp)];refine wb ?_;simp only[show ¬((i:Int)<0) from by lia,if_false,w9,Array.getElem?_eq_none hge];refine wa ?_
 first|refine wa (wpAny_typeNameOfWhole_keyiter hit.typeIs (wb ?_))|refine wa (wpAny_typeNameOf_keyiter hit.typeIs (wb ?_))
 show wpAny _ _ (setField (.ref it) 0 .none>>=_) _ _ s;refine wa (wpAny_setField ho hd (by simp) ?_);show wpAny _ _ (newExc (.type "StopIteration") []>>=_) _ _ _;refine wa ?_;simp only[newExc,newTuple];refine wa (wg ?_ (by size_fits));refine wa (m:=firstArgMember _ _) (wpAny_of_eq (a:=Value.none) (by first|rfl|(simp only[firstArgMember];rfl)) ?_);refine wg ?_ (by size_fits);simp only[raiseNew];refine wa (wpAny_handled ?_);rw[show A.in1.handled=none from hh];refine wa (wb (wpAny_throw ?_));refine wa (wpAny_isInstance (T:="StopIteration") (b:=true) ⟨_,qp _ rfl,rfl⟩ isSubtype_stop ?_);exact wb (hQ _ (((wv ..).extBut.push _).push _))
end
def Itk(a:Addr)(nks:List (List Int×Addr))(vxs:AQ)(ep:Nat):It:=
 ⟨λi H=>H a=some (dTo a nks vxs ep)/\i<nks.length,λi H x H'=>H'=H/\∃p,nks[i]?=some p/\x=.ref p.2,λi H=>H a=some (dTo a nks vxs ep)/\nks.length<=i⟩
theorem Yp2(ok:HOk P w H h)(e:H a=some (dTo a nks vxs ep))(hl:nks.length=vxs.length):
 (a==sysModules)=false/\∃es:Array DictEntry,DRaw h a es ep/\es.size=nks.length/\∀(i:Nat) (hi:i<es.size) p,nks[i]?=some p->es[i].key=.ref p.2:=by
 obtain⟨⟨hs,us,o,es,r,h1,h2,h3,h4⟩,_⟩:=(show ObjOk P w H h a (dTo a nks vxs ep) from ok a _ e)
 have hu:us.length=nks.length:=by rw[hl,r.length]
 have hsz:es.size=nks.length:=by
  have:=congrArg List.length h4;grind
 refine⟨hs,es,⟨o,h1,h2,h3⟩,hsz,λi hi p hp=>?_⟩
 have hz:es.toList[i]?=some es[i]:=by simp[hi]
 grind
theorem y2c{K:W.Frag}(hl:nks.length=vxs.length)(a it:Addr):Turn P w K tg (Itk a nks vxs ep) [it] it (λi h=>h.IsKeyIter it a i nks.length ep) where
 mem:=by simp
 obj:=λi h st b hb=>by
  have e:b=it:=by grind
  subst e;obtain⟨o,e,c,d⟩:=st;grind
 keep:=λi h h' st k=>by
  obtain⟨o,e,r⟩:=st;exact⟨o,k it (by simp) o e,r⟩
 item:=by
  intro X hP hw hK hc i pins s σ H E I hf st hg;subst hP hw hK;obtain⟨hq,hx⟩:=hg;obtain⟨hsm,es,dr,hsz,hkey⟩:=Yp2 I.hok hq hl;obtain⟨f0,f1,f2,f3,f4,f5⟩:=hf it (by simp);have hp:nks[i]?=some nks[i]:=qq hx;rw[<-hsz]at st;refine Yhn st dr (by lia) λh' st' sb=>?_;have I1:Inv X pins σ H { s with heap:=h' }:=I.turned (t':=s.toks) (λb o hb e=>(sb.2 b hb).trans e) f0 f1 f3 f4 f5;obtain⟨o,e,c,d⟩:=id st';rw[hkey i (by lia) _ hp];rw[hsz]at st';exact⟨.ref nks[i].2,rfl,y37 (s:={ s with heap:=h' }) e c d (by decide) ⟨.ref nks[i].2,H,I1,rfl,⟨rfl,_,hp,rfl⟩,st',λb hb=>(hf b hb).1⟩⟩
 done:=by
  intro X hP hw hK hc i pins s σ H E I hf st hg;subst hP hw hK;obtain⟨hq,hx⟩:=hg;obtain⟨hsm,es,dr,hsz,hkey⟩:=Yp2 I.hok hq hl;obtain⟨f0,f1,f2,f3,f4,f5⟩:=hf it (by simp);rw[<-hsz]at st
  exact Yiv (I.ok.hd hc) st dr (by lia) λh' eb=>⟨rfl,I.turned (t':=s.toks) (λb o hb e=>eb b o hb e) f0 f1 f3 f4 f5⟩
 self:=λ_ _ _ _ _ st h=>wpAny_pyIter_keyiter st h
section
variable {X:Cx}{tg:Expr}
def Yad6(tl:TE):TI:=λσ H R=>tl σ H λx H1=>∃a nks vxs ep,x=.ref a/\H1 a=some (dTo a nks vxs ep)/\nks.length=vxs.length/\R (Itk a nks vxs ep) H1
theorem y5y(hl:PE X l tl):PI X tg l (Yad6 tl):=by
 intro pins s σ H R I h;refine thn (hl pins s σ H _ I h) λv s1 hx_=>?_;obtain⟨x,H1,I1,r1,q1⟩:=hx_;obtain⟨a,nks,vxs,ep,e,hq,hlen,q⟩:=q1;subst e;cases r1;obtain⟨hsm,es,dr,hsz,hkey⟩:=Yp2 I1.hok hq hlen;refine Ysa hsm dr ?_;rw[hsz];refine⟨~~~s1,[~~~s1],_,_,H1,rfl,I1.kept (t':=s1.toks) λb o e=>qe _ e,y2c hlen a _,⟨_,qp _ rfl,rfl,rfl⟩,λb hb=>?_,q⟩
 have e:b= ~~~s1:=by grind
 subst e;exact I1.fpOk (qu _) (I1.hok.fresh (qu _))
end
def Yjy:D->Option AR
 | .dct true ks _=>if ks.length<=cap6 then some ks else none
 | _=>none
section
variable {X:Cx}{tg:Expr}{f:AX}
theorem y2d(hl:ZE X l f):ZI X tg l (b1 f Yjy):=⟨have hl:=hl.un;PI.imp (y5y hl) λσ H R hx_=>by
 obtain⟨ρ,ds,H0,G0,G,e,s,h⟩:=hx_;obtain⟨c,h1,h2⟩:=Ycl e;refine tOf.at h1 s λv H1 G1 g1 r1 s1=>?_;unfold Yjy at h2
 split at h2
 case h_2=>cases h2
 rename_i ks vs
 split at h2
 case isFalse=>cases h2
 rename_i hcap;cases h2;rw[Rp]at r1;obtain⟨a,kxs,vxs,rfl,dc,rk,rv⟩:=r1;rcases dc with⟨z,_⟩|⟨_,nks,ep,d1,d2,d3,rfl,d5⟩
 ·cases z
 refine⟨a,nks,vxs,ep,rfl,s1.seen _ _ d1,d2,h _ H1 G1 g1 (y0f (Yea hcap) λi H2 G2 e1 e2=>⟨λd hd=>?_,λhi=>⟨e2 _ _ (e1 _ _ d1),?_⟩⟩)⟩
 ·obtain⟨x,hx,rx⟩:=rk.get hd
  have hlt:i<nks.length:=by
   grind
  refine⟨⟨e2 _ _ (e1 _ _ d1),hlt⟩,λy H3 q=>⟨q.1,?_⟩⟩;obtain⟨p,hp,rfl⟩:=q.2;rw[Qh,hp]at hx;cases hx;exact rx.mono e1
 ·have:=rk.length
  grind⟩
@[simp] theorem Yuu(ks vs:AR):Yjy (.dct true ks vs)=if ks.length<=cap6 then some ks else none:=nr1 rfl
end
end
section
set_option maxRecDepth 100000
section
variable {prog:Program}{w:World}{A:Around}{E:AB}{s:Shared}{X:Cx}
def DRaw.keep(hm:DRaw h d es ep)(k:∀o,h.get? d=some o->h'.get? d=some o):DRaw h' d es ep:=by
 obtain⟨o,ho,r⟩:=hm;exact⟨o,k o ho,r⟩
def Ysb{h h':Heap}(hm:h.IsKeyIter it d i n ep)(k:∀o,h.get? it=some o->h'.get? it=some o):h'.IsKeyIter it d i n ep:=by
 obtain⟨o,ho,r⟩:=hm;exact⟨o,k o ho,r⟩
theorem Yyn(hh:A.handled=none)(I d:Addr)(hne:d≠I)(es:Array DictEntry)(ep:Nat):
 Walks prog w A I [I,d] [I] es.size (λi v=>∃hi:i<es.size,v=es[i].key) (λi h=>h.IsKeyIter I d i es.size ep/\DRaw h d es ep) where
 sub:=λb hb=>by grind
 frame:=λ_ _ _ st hk=>⟨Ysb st.1 λo e=>hk I (by simp) o e,st.2.keep λo e=>hk d (by simp) o e⟩
 item:=λi s Q E hi st hQ=>Yhn st.1 st.2 hi λh' st' sb=>hQ _ h' s.toks ⟨hi,rfl⟩ ⟨st',st.2.keep λo e=>(sb.2 d hne).trans e⟩ λb o hb e=>(sb.2 b (by grind)).trans e
 done:=λs Q E st hQ=>Yiv hh st.1 st.2 (qu _) λh' eb=>hQ h' s.toks λb o hb e=>eb b o (by grind) e
 self:=λi s Q E st h=>wpAny_pyIter_keyiter st.1 h
theorem y50(lo:(d==sysModules)=false):W.KdlSrc prog w "dict" d d es.size (λi v=>∃hi:i<es.size,v=es[i].key) (λh=>DRaw h d es ep) where
 type:=λ_ hm=>hm.typeIs
 there:=λ_ hm=>⟨let ⟨_,ho,_⟩:=hm;ql ho,let ⟨_,ho,_⟩:=hm;ql ho⟩
 keep:=λ_ _ hm hk=>hm.keep λo e=>hk d (.inl rfl) o e
 notList:=by decide
 notTuple:=by decide
 hint:=λ_ _ _ _ hm hq=>W.kdl_hint_dict hm.typeIs hq
 iter:=λ_ s hh hm=>⟨_,_,(λ_ _ hq=>Ysa lo hm hq),Yyn hh _ d (by obtain⟨_,ho,_⟩:=hm;exact qm (ql ho)) es ep,⟨⟨_,qp _ rfl,rfl,rfl⟩,hm.keep λo e=>qe _ e⟩⟩
def y7g:AQ->Hp->VK->Prop:=λxs H Q=>∃a nks vxs ep,xs=[.ref a]/\H a=some (dTo a nks vxs ep)/\nks.length=vxs.length/\nks.length<=sizeLine/\∀l,H l=none->Q (.ref l) (upd H l (.lst (nks.map λp=>V.ref p.2)))
theorem Yop(hc:X.calm=true):Ydt X (.type "list") y7g:=by
 intro pins s σ H xs us Q I r h;obtain⟨a,nks,vxs,ep,rfl,hq,hl,hz,q⟩:=h;obtain⟨u,rfl,rx⟩:=Yhc r;cases rx;have hh:X.A.handled=none:=I.ok.hd hc;obtain⟨hsm,es,dr,hsz,hkey⟩:=Yp2 I.hok hq hl;refine W.kdl_call (y50 hsm) hh dr (by lia) λh' tk acc c kp e hit=>?_
 have hv:Vals (nks.map λp=>V.ref p.2) acc.toList:=by
  have hacc:acc.toList=nks.map λp=>Value.ref p.2:=by
   refine List.ext_getElem? λi=>?_;by_cases hi:i<es.size
   ·have hia:i<acc.size:=by rw[hit.1];exact hi
    have h1:acc[i]?=some acc[i]:=Array.getElem?_eq_getElem hia;obtain⟨_,e2⟩:=hit.2 i _ h1;grind
   ·rw[List.getElem?_eq_none (by rw[qj,hit.1];lia),List.getElem?_eq_none (by grind)]
  rw[hacc];clear hacc hkey hq hl hz hsz q
  induction nks with
  | nil=>exact .nil
  | cons p nks ih=>exact .cons rfl ih
 exact⟨.ref (~~~s),_,I.laid (t':=tk) kp (qu _) (show ObjOk X.prog X.w _ h' _ (.lst _) from⟨by grind,acc.toList,c,hv,by simpa using e⟩),rfl,q _ (I.hok.fresh (qu _))⟩
def Yiw:AR->Option AR
 | [.dct true ks _]=>if ks.length<=cap6 then some ks else none
 | _=>none
def Ysc:SemF X.K y7g Yiw:=by
 intro vs ds l H G Q h s r q;unfold Yiw at h
 split at h
 case h_2=>cases h
 rename_i ks vs0
 split at h
 case isFalse=>cases h
 rename_i hcap;cases h;obtain⟨v,rfl,rv⟩:=Ycz r;rw[Ct]at rv;obtain⟨a,kxs,vxs,rfl,dc,rk,rv⟩:=rv;rcases dc with⟨z,_⟩|⟨_,nks,ep,d1,d2,d3,rfl,d5⟩
 ·cases z
 have hlen:=rk.length;simp at hlen;exact⟨a,nks,vxs,ep,rfl,d1,d2,by rw[hlen];exact Yea hcap,λm hm=>q m _ _ G (.hid s hm _) hm (s.free hm) Yt rk⟩
@[simp] theorem Yyo(ks vs:AR):Yiw [.dct true ks vs]=if ks.length<=cap6 then some ks else none:=nr1 rfl
end
end
section
set_option maxRecDepth 100000
theorem Ysd:∀{ms:AH}{wx:AQ}{mv:List (Key×Value)}{kvs:List (Key×V)}{vs:List (Key×Value)},ms.length=wx.length->KV (zK ms wx) mv->KV kvs vs->KV (Yfe kvs (ms.zip wx)) (merged vs mv)
 | [],[],mv,kvs,vs,_,h,r=>by
   cases h;exact r
 | m::ms,x::wx,mv,kvs,vs,hl,h,r=>by
   rw[Yge]at h
   cases h with
   | cons h1 h2=>
     rename_i q mv;obtain⟨e1,e2⟩:=h1;have e1':q.1=Sum.inl m:=e1.symm;show KV (Yfe (putK kvs (Sum.inl m) x) (ms.zip wx)) (merged (stored vs q.1 q.2) mv);rw[e1'];exact Ysd (by simpa using hl) h2 (r.put (Sum.inl m) e2)
 | [],_::_,_,_,_,h,_,_=>by simp at h
 | _::_,[],_,_,_,h,_,_=>by simp at h
section
variable {X:Cx}
def rUpd:V->AQ->Hp->VK->Prop:=λx vs H Q=>∃(d o:Addr) (kvs:List (Key×V)) (ms:AH) (wx:AQ),x=.ref d/\vs=[.ref o]/\d≠o/\H d=some (.dK kvs)/\H o=some (.dK (zK ms wx))/\ms.length=wx.length/\kvs.length+wx.length<cap6/\Q .non (upd H d (.dK (Yfe kvs (ms.zip wx))))
theorem y2e:MtM X "dict.update" rUpd:=by
 intro pins s σ H x vs v us Q I rx rv h;obtain⟨d,o,kvs,ms,wx,rfl,rfl,hne,hd,ho,hl,hz,q⟩:=h;cases rx;obtain⟨u,rfl,ru⟩:=Yhc rv;cases ru
 obtain⟨z1,lo1,dv,r1,dd⟩:=(show ObjOk X.prog X.w H s.heap d (.dK kvs) from I.hok d _ hd)
 obtain⟨z2,lo2,ov,r2,od⟩:=(show ObjOk X.prog X.w H s.heap o (.dK (zK ms wx)) from I.hok o _ ho)
 have l1:dv.length=kvs.length:=r1.length.symm
 have l2:ov.length=wx.length:=by
  have:=r2.length;rw[y1a _ _ hl]at this;lia
 have hcap:cap6=1000000:=rfl
 have hzl:(ms.zip wx).length=wx.length:=by grind
 refine call_meetsIn PySem.F.slot_dict_update dd.typeIs PySem.F.entry_dict_update (PySem.F.args_dict_update_2 _ _) (meets_dict_update (Yah X.prog X.w) d o hne lo2) ⟨dv,ov,dd,od,by rw[l1,l2,jj];lia,λh' dd' _ same=>?_⟩;have hn:=Yjv (ms.zip wx) kvs;refine⟨.non,_,Ylk (t':=s.toks) I (by rw[hd];exact True.intro) same (let ⟨q,_,_,hq,_⟩:=dd';⟨q,hq⟩) (Yzt (by rw[jj];lia) lo1 (Ysd hl r2 r1) dd'),rfl,q⟩
end
variable {K:W.Frag}
theorem y7h:∀{ms:AH}{ds:AR}{wx:AQ},ms.length=wx.length->RpL K G ds wx->DQ K G (ms.zip ds) (ms.zip wx)
 | [],ds,wx,hl,r=>by
   have:wx=[]:=List.eq_nil_of_length_eq_zero (by grind);subst this;exact trivial
 | m::ms,ds,wx,hl,r=>by
   cases wx with
   | nil=>simp at hl
   | cons x wx=>
     cases ds with
     | nil=>
       rw[RpL]at r;cases r
     | cons d ds=>
       rw[RpL]at r;obtain⟨y,q,e,r1,r2⟩:=r;injection e with e1 e2;subst e1 e2;exact⟨⟨rfl,r1⟩,y7h (by grind) r2⟩
section
variable {X:Cx}{e:Expr}{f:AX}{pos:Pos}
def updD(l:List D×AR):D->Option (List D×AR)
 | .dct false ks vs=>(intsD l.1).bind λns=>(intsD ks).bind λms=>if l.2.length+vs.length<cap6 then some ((dctG ns l.2 (ms.zip vs)).1.map D.int,(dctG ns l.2 (ms.zip vs)).2)else none
 | _=>none
def sUpd(i:Nat)(f:AX):AU:=λρ=>(Ykp i ρ).bind λl=>(f ρ).bind λd=>(updD l d).map λl'=>.nx (ρ.set i (some (.od false l'.1 l'.2)))
theorem Yoq(i:Nat){p2 apos cpos:Pos}(he:ZE X e f)(hN:X.N[i]?=some x:=by rfl)(hv:Vis X.env.scope x:=by trivial)(hd:Ndb x:=by decide)(hcd:Ncd x:=by decide)(hse:swapsWith (.Call (.Attribute (.Name x p2) "update" apos) [e] [] cpos) none pos.line X.env=pure false:=by rfl)(hs:starEach [e] X.env=[(false,eval e X.env)]:=by rfl)(hfew:Few X cpos [e]:=by rfl)(hline:(apos.endLine==cpos.line)=true:=by rfl)(hbase:attributeBase (.Name x p2) "update" X.env (eval (.Name x p2) X.env)=eval (.Name x p2) X.env:=by rfl):
 ZS X (.Expr (.Call (.Attribute (.Name x p2) "update" apos) [e] [] cpos) pos) (sUpd i f):=⟨have he:=he.un;
 PS.imp (Ylj (Yxu PySem.F.plainAttrs_dict PySem.F.slot_dict_update PySem.F.type_dict_update y2e (Yig hN hv hd hcd) (Ydm he Yhk hs) hbase hfew hline hs rfl) hse) λF σ H hx_=>by
  obtain⟨ρ,out,H0,G0,G,e,s,h⟩:=hx_;unfold sUpd at e;obtain⟨l,h1,e⟩:=qa e;obtain⟨d,h2,e⟩:=qa e;obtain⟨l',h3,rfl⟩:=qc e;unfold updD at h3
  split at h3
  case h_2=>cases h3
  rename_i ks vs;obtain⟨ns,h4,h3⟩:=qa h3;obtain⟨ms,h5,h3⟩:=qa h3
  split at h3
  case isFalse=>cases h3
  rename_i hcap;cases h3;have hod:=Yof h1;obtain⟨a0,kx0,vx0,ha0,_,_,dc0,rk0,_⟩:=s.od i _ _ _ hod;obtain⟨q1,_,_,_⟩:=Yni h4 dc0 rk0;refine⟨_,ha0,.inr (.inr (.inl ⟨rfl,.inl ⟨_,q1⟩⟩)),tOf.at h2 s λv H1 G1 g1 r1 s1=>?_⟩;obtain⟨a,kxs,vxs,ha,hG,hH0,dc,rk,rv⟩:=s1.od i _ _ _ hod;rw[ha0]at ha;cases ha;obtain⟨e1,e2,e3,e4⟩:=Yni h4 dc rk;rw[Rp]at r1;obtain⟨b,kx2,vx2,rfl,dc2,rk2,rv2⟩:=r1;obtain⟨f1,f2,f3,f4⟩:=Yni h5 dc2 rk2
  have hne:a0≠b:=λz=>by grind
  have hl1:=rv.length;have hl2:=rv2.length;obtain⟨vx',k1,k2,k3,k4⟩:=Yiq (y7h f3 rv2) e2 e3 rv;refine⟨a0,b,zK ns vxs,ms,vx2,rfl,rfl,hne,e1,s1.seen _ _ f1,f3,by rw[y1a _ _ e3];lia,?_⟩
  exact h σ _ G1 (s1.mutd hod ha0 (kxs:=(dctG ns l.2 (ms.zip vs)).1.map V.int) (vxs:=vx') (y1b (by rw[<-k1];exact Yt) k2 k3) (.ints _) k4)⟩
@[simp] theorem y2g(i:Nat):sUpd i f ρ=(Ykp i ρ).bind λl=>(f ρ).bind λd=>(updD l d).map λl'=>.nx (ρ.set i (some (.od false l'.1 l'.2))):=nr1 rfl
end
end
section
open Sem (wp)
variable {K:W.Frag}
end
section
structure FunD(K:W.Frag)(x:Str)(st:Stmt)(f:Addr)(fd:FuncData)(T:Addr):Prop where
 ex:∃(oc:Value) (od:Option Addr) (kV doc pm:Value) (an:Option Addr) (cdv ct:Value) (osl:Array (Option Value)),
  fd=W.fnOf x x (defArgs st) (defBody st) (defScope st) (.ref T) kV doc pm an cdv ct/\K.lookup f=some ⟨oc,od,.func fd,osl⟩/\W.codeIn K cdv x=true
 kp:W.keepIn K (.ref f)=true
 df:∃(oc:Value) (od:Option Addr) (i:Int) (t n:Nat) (osl:Array (Option Value)),K.lookup T=some ⟨oc,od,.seq #[.int i t] n,osl⟩
section
variable {P:Program}{w:World}{K:W.Frag}{mg:AE}{base:Heap}
def okfD{st:Stmt}(F:FunD K x st f fd T)(hg:mg x=some (.ref f))(S:FnScope N ps (defScope st))(hn:N.length=n)(hm:ps.length=m)(hbd:∀(kV doc pm:Value) (an:Option Addr) (cdv ct:Value) (us:AD) (i:Int) (t:Nat),us.length=ps.length->∃c:Option (Array Value)->Sem (List (Str×Value)),bindArgs (W.fnOf x x (defArgs st) (defBody st) (defScope st) (.ref T) kV doc pm an cdv ct) ⟨us,[]⟩=seqItems? (.ref T)>>=c/\c (some #[.int i t])=pure (ps.zip us))(hb:∀(cdv:Value) (A:Around) (outer:List Env) (s:Shared) (H:Hp) (E:XK),Room k (A.deeper (envOfC x (defScope st) (~~~s) f cdv))->ZB (cxOf CX0 P w K mg base N x (defScope st) f cdv A outer s H E).nox (defBody st) fb):Okf P w K mg base (k+1) m x ps (runB m n fb):=by
 obtain⟨oc,od,kV,doc,pm,an,cdv,ct,osl,rfl,lk,hcd⟩:=F.ex;refine⟨f,_,Yabr lk hcd S (λvs H Q E h=>by rw[h.1,hm]) λA outer s H vs Q E hr h=>?_,λs us hK hl=>?_,F.kp,hg⟩
 ·obtain⟨hl,ds,d,G,sm,r,e,q⟩:=h
  refine⟨_,((hb cdv A outer s H E hr).un).nox,?_⟩;unfold runB at e
  split at e
  ·rename_i hds
   obtain⟨o,h1,h2⟩:=qa e;refine⟨Yr n ds,o,H,G,G,h1,by rw[<-hn];exact SR.start sm r,?_⟩
   cases o with
   | rt d'=>cases h2;exact λv H' G' g r'=>q v H' G' g r'
   | nx ρ=>cases h2;exact λσ' H' G' s'=>q .non H' G' s'.gr (by rw[Rp])
   | bk ρ=>cases h2
   | ct ρ=>cases h2
  ·cases e
 ·rw[ja]at hl ⊢
  obtain⟨_,_,i,t,_,_,ho⟩:=F.df;obtain⟨c,h1,h2⟩:=hbd kV doc pm an cdv ct us i t hl;exact BindsTo.of_defaults (T:=T) rfl (hK _ _ ho) rfl h1 h2
end
end
section
end
section
variable {K:W.Frag}
section
variable {X:Cx}{e:Expr}{f:AX}{pos:Pos}
def dctF(f:AX):AX:=λρ=>((f ρ).bind pairsOf).bind λps=>if ps.length<cap6 then some (.dct false ((dctG [] [] ps).1.map D.int) (dctG [] [] ps).2)else none
@[simp] theorem ap_dctF:dctF f ρ=((f ρ).bind pairsOf).bind λps=>if ps.length<cap6 then some (.dct false ((dctG [] [] ps).1.map D.int) (dctG [] [] ps).2)else none:=nr1 rfl
end
end
section
section
variable {X:Cx}{e:Expr}{f:AX}{pos:Pos}
theorem y2h(hc:X.calm=true){p2 cpos:Pos}(hg:Gl X "dict")(hm:X.mg "dict"=none)(ha:ZC X e f)(hst:starEach [e] X.env=[(false,eval e X.env)]:=by rfl)(hpl:(backTo cpos (starEach [] X.env)).any (·.1)=false:=by rfl):
 ZE X (.Call (.Name "dict" p2) [e] [] cpos) (dctF f):=⟨have ha:=ha.un;
 PE.imp (Yd6 (Yoh hc) hg hm (by decide +kernel) (Yfo ha Yhz hst) (by decide) (by decide) hst hpl) λσ H Q hx_=>by
  obtain⟨ρ,out,H0,G0,G,e,s,h⟩:=hx_;unfold dctF at e;obtain⟨ps,h1,e⟩:=qa e;obtain⟨d,h2,h3⟩:=qa h1
  split at e
  case isFalse=>cases e
  rename_i hcap;cases e;refine tCAof.at (show Ye f aNil ρ=some [d] by simp_all) s λvs H1 G1 g1 r1 s1=>?_;obtain⟨v,rfl,rv⟩:=Ycz r1
  cases d with
  | lst l=>
    rw[Ct]at rv;obtain⟨a,xs,rfl,hq,rl⟩:=rv;obtain⟨qs,h4,h5⟩:=Yl9 s1.seen (show Ydq l=some ps from h3) rl;refine⟨a,xs,qs,rfl,.inl hq,h4,by rw[h5.length];exact hcap,λp hp=>?_⟩;obtain⟨vx',k1,k2,k3,k4⟩:=Yiq (ns:=[]) (ds:=[]) (vxs:=[]) h5 List.nodup_nil rfl .nil;have gn:=Gr.new (p:=p) s1.seen hp (.dK (Yfe [] qs));refine h _ _ _ (g1.trans gn) ?_;rw[Rp];exact⟨p,(dctG [] [] ps).1.map V.int,vx',rfl,y1b (by rw[<-k1];exact Yt) k2 k3,.ints _,k4.mono gn.g⟩
  | _=>cases h3⟩
end
end
section
variable {K:W.Frag}
end
section
end
end M
namespace Lw
open PySem PySem.Spec PyProof.Rows L2 M
def top(i:Nat):Stmt:=PySem.Challenge.pw_duskbook_k65_whole_less_to_break.main.body.getD i (.Pass ⟨0,0,0,0⟩)
def gt_EXCHANGED_KINDS:List (Str×Str):=[((Str.ofString "eithers"),(Str.ofString "eithers")),((Str.ofString "sums"),(Str.ofString "sums")),((Str.ofString "ifs"),(Str.ofString "nots")),((Str.ofString "nots"),(Str.ofString "ifs"))]
set_option maxHeartbeats 4000000
def Fq(K:W.Frag)(mg:AE)(x:Str)(i:Nat):Prop:=∃a fd,Fun K x x (top i) a fd/\mg x=some (.ref a)
def Fk(K:W.Frag)(x:Str)(i:Nat):Prop:=∃a fd,W.nsIn K mainGlobals x=some (some (.ref a))/\Fun K x x (top i) a fd
def Fk.on{K:W.Frag}(F:Fk K x i)(X:K.In h)(G:h.Ns mainGlobals mg):Fq K mg x i:=by
 obtain⟨a,fd,n,f⟩:=F;exact⟨a,fd,f,W.mg_of X G n⟩
def fk_mk{K:W.Frag}{kV doc pm cdv ct:Value}(a:W.nsIn K mainGlobals x=some (some (.ref f)))(l:K.lookup f=some ⟨oc,od,.func (W.fnOf x x (defArgs (top i)) (defBody (top i)) (defScope (top i)) .none kV doc pm an cdv ct),osl⟩)(c:W.codeIn K cdv x=true)(k:W.keepIn K (.ref f)=true):Fk K x i:=⟨_,_,a,y6v l c k⟩
def FqD(K:W.Frag)(mg:AE)(x:Str)(i:Nat):Prop:=∃a fd T,FunD K x (top i) a fd T/\mg x=some (.ref a)
def FkD(K:W.Frag)(x:Str)(i:Nat):Prop:=∃a fd T,W.nsIn K mainGlobals x=some (some (.ref a))/\FunD K x (top i) a fd T
def FkD.on{K:W.Frag}(F:FkD K x i)(X:K.In h)(G:h.Ns mainGlobals mg):FqD K mg x i:=by
 obtain⟨a,fd,T,n,f⟩:=F;exact⟨a,fd,T,f,W.mg_of X G n⟩
def fkd_mk{K:W.Frag}{kV doc pm cdv ct:Value}{t n:Nat}(a:W.nsIn K mainGlobals x=some (some (.ref f)))(l:K.lookup f=some ⟨oc,od,.func (W.fnOf x x (defArgs (top i)) (defBody (top i)) (defScope (top i)) (.ref T) kV doc pm an cdv ct),osl⟩)(c:W.codeIn K cdv x=true)(k:W.keepIn K (.ref f)=true)(t:K.lookup T=some ⟨oc',od',.seq #[.int j t] n,osl'⟩):FkD K x i:=⟨_,_,_,a,⟨_,_,_,_,_,_,_,_,_,rfl,l,c⟩,k,_,_,_,_,_,_,t⟩
theorem fns{N ps:AL}{sc:Scope}(a:sc.kind=.function:=by rfl)(b:sc.isCoroutine=false:=by rfl)(c:sc.isGenerator=false:=by rfl)(d:N.Nodup:=by decide +kernel)(e:N.take ps.length=ps:=by rfl)(f:∀x∈ps,sc.names.lookup x=some .local\/sc.names.lookup x=some .cell:=by decide +kernel)(g:∀y∈sc.names,y.2≠.free:=by decide +kernel):FnScope N ps sc:=⟨a,b,c,d,e,f,g⟩
def Bnd(x:Str)(i:Nat)(ps:AL):Prop:=∀(kV doc pm:Value) (an:Option Addr) (cdv ct:Value) (us:AD),us.length=ps.length->bindArgs (W.fnOf x x (defArgs (top i)) (defBody (top i)) (defScope (top i)) .none kV doc pm an cdv ct) ⟨us,[]⟩=pure (ps.zip us)
def okfn{K:W.Frag}{i k n m:Nat}(F:Fq K mg x i)(S:FnScope N ps (defScope (top i)))(hb:∀{f:Addr}{cdv:Value}{A:Around}{outer:List Env}{s:Shared}{H:Hp}{E:XK},Room k (A.deeper (envOfC x (defScope (top i)) (~~~s) f cdv))->ZB (cxOf CX0 P w K mg base N x (defScope (top i)) f cdv A outer s H E).nox (defBody (top i)) fb)(hn:N.length=n:=by rfl)(hm:ps.length=m:=by rfl)(B:Bnd x i ps:=by(intro _ _ _ _ _ _ us hl;first|(obtain⟨_,rfl⟩:=len1 hl;rfl)|(obtain⟨_,_,rfl⟩:=len2 hl;rfl)|(obtain⟨_,_,_,rfl⟩:=len3 hl;rfl)|(obtain⟨_,_,_,_,rfl⟩:=len4 hl;rfl)|(obtain⟨_,_,_,_,_,rfl⟩:=len5 hl;rfl)|(obtain⟨_,_,_,_,_,_,rfl⟩:=len6 hl;rfl)|(obtain⟨_,_,_,_,_,_,_,rfl⟩:=len7 hl;rfl))):Okf P w K mg base (k+1) m x ps (runB m n fb):=by
 obtain⟨a,fd,f,h⟩:=F;exact Yac1 f (f.binds B) h (Yok (k:=k) f S hn hm λ_ _ _ _ _ _ hr=>hb hr)
def Yaf8{K:W.Frag}(F:FqD K mg "outcome" i)(S:FnScope N ["book","hands","start"] (defScope (top i)))(hb:∀{f:Addr}{cdv:Value}{A:Around}{outer:List Env}{s:Shared}{H:Hp}{E:XK},Room k (A.deeper (envOfC "outcome" (defScope (top i)) (~~~s) f cdv))->ZB (cxOf CX0 P w K mg base N "outcome" (defScope (top i)) f cdv A outer s H E).nox (defBody (top i)) fb)(hn:N.length=n:=by rfl)(hB:i=58:=by rfl):Okf P w K mg base (k+1) 3 "outcome" ["book","hands","start"] (runB 3 n fb):=by
 subst hB;obtain⟨a,fd,T,f,h⟩:=F;refine okfD f h S hn rfl (λ_ _ _ _ _ _ us _ _ hl=>?_) λ_ _ _ _ _ _ hr=>hb hr;obtain⟨_,_,_,rfl⟩:=len3 hl;exact⟨_,rfl,rfl⟩
def aL1:∀ρ l,Ye f0 aNil ρ=some l->l.length=1:=Yfc λ_ _ h=>y4s h
def aL2:∀ρ l,Ye f0 (Ye f1 aNil) ρ=some l->l.length=2:=Yfc aL1
def aL3:∀ρ l,Ye f0 (Ye f1 (Ye f2 aNil)) ρ=some l->l.length=3:=Yfc aL2
def aL4:∀ρ l,Ye f0 (Ye f1 (Ye f2 (Ye f3 aNil))) ρ=some l->l.length=4:=Yfc aL3
def aL5:∀ρ l,Ye f0 (Ye f1 (Ye f2 (Ye f3 (Ye f4 aNil)))) ρ=some l->l.length=5:=Yfc aL4
def aL6:∀ρ l,Ye f0 (Ye f1 (Ye f2 (Ye f3 (Ye f4 (Ye f5 aNil))))) ρ=some l->l.length=6:=Yfc aL5
structure Bl(K:W.Frag)(w:World)(mg:AE):Prop where
 Len:mg "len"=none
 Range:mg "range"=none
 List:mg "list"=none
 Tuple:mg "tuple"=none
 Sorted:mg "sorted"=none
 Any:mg "any"=none
 All:mg "all"=none
 Isinstance:mg "isinstance"=none
 Enumerate:mg "enumerate"=none
 Reversed:mg "reversed"=none
 Set:mg "set"=none
 Min:mg "min"=none
 Dict:mg "dict"=none
 g_EXCHANGED_KINDS:GD K w mg "EXCHANGED_KINDS" gt_EXCHANGED_KINDS
 f1:Fq K mg "contrary" 1
 f2:Fq K mg "led_to" 2
 f3:Fq K mg "traced" 3
 f4:Fq K mg "ways_from" 4
 f7:Fq K mg "exchanged_rule" 7
 f8:Fq K mg "exchanged" 8
 f10:Fq K mg "beacons_with" 10
 f12:Fq K mg "both_added" 12
 f13:Fq K mg "pairs_added" 13
 f14:Fq K mg "cleared" 14
 f15:Fq K mg "reduced" 15
 f17:Fq K mg "either_holds" 17
 f18:Fq K mg "sum_holds" 18
 f19:Fq K mg "if_holds" 19
 f20:Fq K mg "rule_holds" 20
 f21:Fq K mg "beacons_in" 21
 f22:Fq K mg "is_void" 22
 f23:Fq K mg "without" 23
 f25:Fq K mg "is_place" 25
 f26:Fq K mg "body_is_known" 26
 f27:Fq K mg "is_step" 27
 f28:Fq K mg "step_to_more" 28
 f29:Fq K mg "derived_in_full" 29
 f31:Fq K mg "is_broken" 31
 f33:Fq K mg "sayings_of" 33
 f34:Fq K mg "lead_to_one_another" 34
 f35:Fq K mg "clash_found" 35
 f36:Fq K mg "cross_found" 36
 f37:Fq K mg "late_found" 37
 f38:Fq K mg "storms_paper" 38
 f39:Fq K mg "free_saying" 39
 f40:Fq K mg "truths_made" 40
 f41:Fq K mg "plan_row" 41
 f42:Fq K mg "either_outcome" 42
 f44:Fq K mg "replaced" 44
 f45:Fq K mg "ahead_of" 45
 f47:Fq K mg "places_to_none" 47
 f48:Fq K mg "places_to_beacon" 48
 f49:Fq K mg "some_of" 49
 f50:Fq K mg "facts_beside" 50
 f51:Fq K mg "if_outcome" 51
 f53:Fq K mg "last_beacon" 53
 f54:Fq K mg "storms_places" 54
 f55:Fq K mg "sum_rows" 55
 f56:Fq K mg "sum_outcome" 56
 f58:FqD K mg "outcome" 58
 f60:Fq K mg "_law_cell" 60
 f61:Fq K mg "_law_mixed" 61
 f62:Fq K mg "_law_hands" 62
 f64:Fq K mg "_law_rule" 64
 f65:Fq K mg "_law_hand" 65
 f66:Fq K mg "_law_handed" 66
 f67:Fq K mg "_law_kept" 67
section
variable {P:Program}{w:World}{K:W.Frag}{mg:AE}{base:Heap}
def Yuv:FnScope ["saying"] ["saying"] (defScope (top 1)):=fns
def Yor:AU:=(sRet (dTup (Ye (b2 (getC 0) (kD (.int 0)) ixD) (Ye (notV (b2 (getC 0) (kD (.int 1)) ixD)) aNil))))
def Ycg:AR->Option D:=runB 1 1 Yor
def Yee(bl:Bl K w mg):Okf P w K mg base 1 1 "contrary" ["saying"] Ycg:=by
 refine okfn bl.f1 Yuv λhr=>?_;exact(Ym (Yo (Yu (Yb (Yl (Yc 0) (Yd Yj)) (Yb (y1s (Yl (Yc 0) (Yd Yj))) Yh)))))
def sc_led_to:FnScope ["book","saying","against","led","rule","others"] ["book","saying"] (defScope (top 2)):=fns
theorem cs_led_to_0:CompSc ["book","saying","against","led","rule","others"] (defScope (top 2)) ["other","against"] [none,some 2] (fsc [(".0",.local),("other",.local),("against",.free)]):=Yad (by decide +kernel)
def Yh6:AW:=(b2 (getC 0) (getC 1) (eqM true))
def Yh7:AX:=(getV 0)
def Yef:AU:=(sIf (b2 (getC 2) (getC 4) (inM false)) (sSeq (sOwn 5 (Ybq (b1 (getV 4) Yn) [none,some 2] (gSet 0) (Yh6) (Yh7))) (sMut 3 (ifV (b1 (getC 5) truD) (b2 (getC 5) (kD (.int 0)) ixD) (getV 2)) appD)) sNil)
@[simp] def Yyp:AU:=(wF [3] (sRet (getV 3)))
@[simp] def Yyq:AU:=(sSeq (sFor (b1 (b2 (getC 0) (kD (.int 1)) ixD) Yn) (gSet 4) Yef) Yyp)
@[simp] def Yyr:AU:=(sSeq (sOwn 3 (dLst aNil)) Yyq)
def Ywy:AU:=(sSeq (sSet 2 (cC (Ye (getV 1) aNil) Ycg)) Yyr)
def Yld:AR->Option D:=runB 2 6 Ywy
def y2i(bl:Bl K w mg):Okf P w K mg base 2 2 "led_to" ["book","saying"] Yld:=by
 refine okfn bl.f2 sc_led_to λhr=>?_;exact(Yi (Yv 2 sc_led_to.nd (Yk (Yee bl) hr rfl (Yb (Yg 1) Yh) aL1)) (Yi (Ye2 3 sc_led_to.nd (Ycm Yh)) (Yi (Ybe jg rfl (Yae (Yl (Yc 0) (Yd Yj))) (Yw 4 sc_led_to.nd) (Ym (Yaj (y1p hr.units (Yc 2) (Yc 4)) (Yi (Yg2 5 sc_led_to.nd cs_led_to_0 rfl (Yae (Yg 4)) (λ_ _ _ _ _=>(Yw 0 cs_led_to_0.nd)) (λ_ _ _ _ _=>(Yes (Ymc hr.units (Yc 0) (Yc 1)))) (λ_ _ _ _ _=>(Yg 0)) (Yav (i:=0) rfl)) (Ym (Yd3 3 (Ywr (Ybv (Yc 5)) (Yl (Yc 5) (Yd Yj)) (Yg 2))))) Yac))) (Ym (Ydn [3] (Yo (Yg 3)))))))
def sc_traced:FnScope ["ahead","last","road","saying"] ["ahead","last"] (defScope (top 3)):=fns
def Yfu:AU:=(sSeq (sMut 2 (getV 3) appD) (sSet 3 (b2 (getC 0) (getC 3) getT)))
@[simp] def Yys:AU:=(sRet (λρ=>(revF (getC 2) ρ).map D.tup))
@[simp] def Yyt:AU:=(sSeq (Ybs (b2 (getC 3) (kD .non) (isN true)) Yfu 4000) Yys)
@[simp] def Yyu:AU:=(sSeq (sSet 3 (getV 1)) Yyt)
def Ywz:AU:=(sSeq (sOwn 2 (dLst aNil)) Yyu)
def Yet:AR->Option D:=runB 2 4 Ywz
def Ygj(bl:Bl K w mg):Okf P w K mg base 1 2 "traced" ["ahead","last"] Yet:=by
 refine okfn bl.f3 sc_traced λhr=>?_;exact(Yi (Ye2 2 sc_traced.nd (Ycm Yh)) (Yi (Yv 3 sc_traced.nd (Yg 1)) (Yi (Yir 4000 jg (Yer (Yc 3) (Yd Yat)) (Yi (Yd3 2 (Yg 3)) (Ym (Yv 3 sc_traced.nd (Yb7 hr.units (Yc 0) (Yc 3)))))) (Ym (Yo (Yyh rfl rfl bl.Tuple rfl bl.Reversed (Yc 2)))))))
def sc_ways_from:FnScope ["book","saying","ahead","reached","place","led"] ["book","saying"] (defScope (top 4)):=fns
def Ybk:AU:=(sIf (b2 (getC 5) (getC 2) (hasT true)) (sSeq (sPut 2 (getC 5) (b2 (getC 3) (getC 4) ixD)) (sMut 3 (getV 5) appD)) sNil)
def Yb5:AU:=(sSeq (sFor (b1 (cC (Ye (getV 0) (Ye (b2 (getC 3) (getC 4) ixD) aNil)) Yld) Yn) (gSet 5) Ybk) (sInc 4 (kD (.int 1))))
@[simp] def Yix:AU:=(wF [2] (sRet (getV 2)))
@[simp] def Yp3:AU:=(sSeq (Ybs (b2 (getC 4) (cC (Ye (getC 3) aNil) lenC) ltI) Yb5 4000) Yix)
@[simp] def Yp4:AU:=(sSeq (sSet 4 (kD (.int 0))) Yp3)
@[simp] def Yp5:AU:=(sSeq (sOwn 3 (dLst (Ye (getV 1) aNil))) Yp4)
def Ymg:AU:=(sSeq (y07 2 (getV 1) (kD .non)) Yp5)
def Yc5:AR->Option D:=runB 2 6 Ymg
def Yse(bl:Bl K w mg):Okf P w K mg base 3 2 "ways_from" ["book","saying"] Yc5:=by
 refine okfn bl.f4 sc_ways_from λhr=>?_;exact(Yi (y5m hr.units 2 sc_ways_from.nd (Yg 1) Yat) (Yi (Ye2 3 sc_ways_from.nd (Ycm (Yb (Yg 1) Yh))) (Yi (Yv 4 sc_ways_from.nd Yj) (Yi (Yir 4000 jg (Ywp (Yc 4) (Yd (Yao Yak Yc0 rfl bl.Len PySem.boot_len (Yq (Yc 3) Ys)))) (Yi (Ybe jg rfl (Yae (Yk (y2i bl) hr rfl (Yb (Yg 0) (Yb (Yl (Yc 3) (Yc 4)) Yh)) aL2)) (Yw 5 sc_ways_from.nd) (Ym (Yaj (y5k hr.units (Yc 5) (Yc 2)) (Yi (y5l hr.units 2 (Yc 5) (Yl (Yc 3) (Yc 4))) (Ym (Yd3 3 (Yg 5)))) Yac))) (Ym (y9v 4 sc_ways_from.nd (Yd Yj))))) (Ym (Ydn [2] (Yo (Yg 2))))))))
def Yjz:FnScope ["kind","rule"] ["kind","rule"] (defScope (top 7)):=fns
theorem cs_exchanged_rule_0:CompSc ["kind","rule"] (defScope (top 7)) ["saying"] [none] (fsc [(".0",.local),("saying",.local),("contrary",.globalImplicit)]):=Yad (by decide +kernel)
def Ycd:AX:=(cC (Ye (getV 0) aNil) Ycg)
@[simp] def Yiy:AU:=(sRet (getV 1))
@[simp] def Yiz:AU:=(sSeq (sIf (b2 (getC 0) (kD (.str "sums")) (eqM false)) (sRet (dTup (Ye (b2 (getC 1) (kD (.int 0)) ixD) (Ye (mB (b2 (b2 (getC 1) (kD (.int 1)) ixD) (mB (b2 (b2 (cC (Ye (b2 (getC 1) (kD (.int 0)) ixD) aNil) lenC) (kD (.int 2)) modI) (kD (.int 1)) (eqM false))) (eqM true))) aNil)))) sNil) Yiy)
def Yb8:AU:=(sSeq (sIf (b2 (getC 0) (kD (.str "eithers")) (eqM false)) (sRet (cC (Ye (lF (cF (Ye (lF (Ybq (b1 (getV 1) Yn) [none] (gSet 0) tY (Ycd))) aNil) Ykl)) aNil) tupC)) sNil) Yiz)
def Yb9:AR->Option D:=runB 2 2 Yb8
def Yj0(bl:Bl K w mg):Okf P w K mg base 2 2 "exchanged_rule" ["kind","rule"] Yb9:=by
 refine okfn bl.f7 Yjz λhr=>?_;exact(Yi (Yaj (Yds hr.units (Yc 0) (Yd Yz)) (Ym (Yo (Yag Yx Ybp rfl bl.Tuple boot_tuple (Yq (Yd (Yai (Yed Ydf Yeb rfl bl.Sorted boot_sorted (Yq (Yd (Yai (Yay cs_exchanged_rule_0 rfl (Yae (Yg 1)) (λ_ _ _ _ _=>(Yw 0 cs_exchanged_rule_0.nd)) (λ_ _ _ _ _=>Ybw) (λ_ _ _ _ _=>(Yk (Yee bl) hr rfl (Yb (Yg 0) Yh) aL1)) (Yav (i:=0) rfl)))) Ys)))) Ys)))) Yac) (Yi (Yaj (Yds hr.units (Yc 0) (Yd Yz)) (Ym (Yo (Yu (Yb (Yl (Yc 1) (Yd Yj)) (Yb (Ywq hr.units (Yd (Yl (Yc 1) (Yd Yj))) (Yd (Yhm hr.units (Yd (Yba (Yd (Yao Yak Yc0 rfl bl.Len PySem.boot_len (Yq (Yd (Yl (Yc 1) (Yd Yj))) Ys))) (Yd Yj))) (Yd Yj)))) Yh))))) Yac) (Ym (Yo (Yg 1)))))
def sc_exchanged:FnScope ["book","kind"] ["book"] (defScope (top 8)):=fns
theorem cs_exchanged_0:CompSc ["book","kind"] (defScope (top 8)) ["rule","kind"] [none,some 1] (fsc [(".0",.local),("rule",.local),("exchanged_rule",.globalImplicit),("kind",.free)]):=Yad (by decide +kernel)
def Ye3:AX:=(cC (Ye (getV 1) (Ye (getV 0) aNil)) Yb9)
def Ymh:AU:=(sSeq (sSet 1 (b2 (getC 0) (kD (.int 0)) ixD)) (sRet (dTup (Ye (b1 (getC 1) (y04 gt_EXCHANGED_KINDS)) (Ye (cC (Ye (lF (Ybq (b1 (b2 (getC 0) (kD (.int 1)) ixD) Yn) [none,some 1] (gSet 0) tY (Ye3))) aNil) tupC) aNil)))))
def Yeg:AR->Option D:=runB 1 2 Ymh
def Ysf(bl:Bl K w mg):Okf P w K mg base 3 1 "exchanged" ["book"] Yeg:=by
 refine okfn bl.f8 sc_exchanged λhr=>?_;exact(Yi (Yv 1 sc_exchanged.nd (Yl (Yc 0) (Yd Yj))) (Ym (Yo (Yu (Yb (y1u bl.g_EXCHANGED_KINDS rfl (Yc 1)) (Yb (Yag Yx Ybp rfl bl.Tuple boot_tuple (Yq (Yd (Yai (Yay cs_exchanged_0 rfl (Yae (Yl (Yc 0) (Yd Yj))) (λ_ _ _ _ _=>(Yw 0 cs_exchanged_0.nd)) (λ_ _ _ _ _=>Ybw) (λ_ _ _ _ _=>(Yk (Yj0 bl) hr rfl (Yb (Yg 1) (Yb (Yg 0) Yh)) aL2)) (Yav (i:=0) rfl)))) Ys)) Yh))))))
def Ymi:FnScope ["hands","start","hand"] ["hands","start","hand"] (defScope (top 10)):=fns
theorem cs_beacons_with_0:CompSc ["hands","start","hand"] (defScope (top 10)) ["beacon","hands","hand"] [none,some 0,some 2] (fsc [(".0",.local),("beacon",.local),("hand",.free),("hands",.free)]):=Yad (by decide +kernel)
def Yc6:AW:=(b2 (b2 (getC 1) (getC 0) ixD) (getC 2) (eqM false))
def Yc7:AX:=(getV 0)
def Yho:AU:=(sRet (lF (Ybq (cF (Ye (getV 1) (Ye (cC (Ye (getC 0) aNil) lenC) aNil)) rng2) [none,some 0,some 2] (gSet 0) (Yc6) (Yc7))))
def Yas:AR->Option D:=runB 3 3 Yho
def Ybb(bl:Bl K w mg):Okf P w K mg base 1 3 "beacons_with" ["hands","start","hand"] Yas:=by
 refine okfn bl.f10 Ymi λhr=>?_;exact(Ym (Yo (Yai (Yay cs_beacons_with_0 rfl (Yyg rfl bl.Range (Yb (Yg 1) (Yb (Yao Yak Yc0 rfl bl.Len PySem.boot_len (Yq (Yc 0) Ys)) Yh))) (λ_ _ _ _ _=>(Yw 0 cs_beacons_with_0.nd)) (λ_ _ _ _ _=>(Yes (Yds hr.units (Yd (Yl (Yc 1) (Yc 0))) (Yc 2)))) (λ_ _ _ _ _=>(Yg 0)) (Yav (i:=0) rfl)))))
def Yp6:FnScope ["rule","other"] ["rule","other"] (defScope (top 12)):=fns
def Ykg:AU:=(sRet (dTup (Ye (cC (Ye (lF (Yjw (b2 (getC 0) (kD (.int 0)) ixD) (b2 (getC 1) (kD (.int 0)) ixD))) aNil) tupC) (Ye (mB (b2 (b2 (getC 0) (kD (.int 1)) ixD) (b2 (getC 1) (kD (.int 1)) ixD) (eqM true))) aNil))))
def Yby:AR->Option D:=runB 2 2 Ykg
def Yi0(bl:Bl K w mg):Okf P w K mg base 1 2 "both_added" ["rule","other"] Yby:=by
 refine okfn bl.f12 Yp6 λhr=>?_;exact(Ym (Yo (Yu (Yb (Yag Yx Ybp rfl bl.Tuple boot_tuple (Yq (Yd (Yai (Yol rfl rfl bl.Sorted rfl bl.Set (Yd (Yl (Yc 0) (Yd Yj))) (Yd (Yl (Yc 1) (Yd Yj)))))) Ys)) (Yb (Ywq hr.units (Yd (Yl (Yc 0) (Yd Yj))) (Yd (Yl (Yc 1) (Yd Yj)))) Yh)))))
def Ynj:FnScope ["pair","other"] ["pair","other"] (defScope (top 13)):=fns
def Yi1:AU:=(sRet (dTup (Ye (cC (Ye (lF (Yjw (b2 (getC 0) (kD (.int 0)) ixD) (b2 (getC 1) (kD (.int 0)) ixD))) aNil) tupC) (Ye (cC (Ye (b2 (getC 0) (kD (.int 1)) ixD) (Ye (b2 (getC 1) (kD (.int 1)) ixD) aNil)) Yby) aNil))))
def Ydw:AR->Option D:=runB 2 2 Yi1
def Ynk(bl:Bl K w mg):Okf P w K mg base 2 2 "pairs_added" ["pair","other"] Ydw:=by
 refine okfn bl.f13 Ynj λhr=>?_;exact(Ym (Yo (Yu (Yb (Yag Yx Ybp rfl bl.Tuple boot_tuple (Yq (Yd (Yai (Yol rfl rfl bl.Sorted rfl bl.Set (Yd (Yl (Yc 0) (Yd Yj))) (Yd (Yl (Yc 1) (Yd Yj)))))) Ys)) (Yb (Yk (Yi0 bl) hr rfl (Yb (Yl (Yc 0) (Yd Yj)) (Yb (Yl (Yc 1) (Yd Yj)) Yh)) aL2) Yh)))))
def sc_cleared:FnScope ["pair","by_last","left"] ["pair","by_last"] (defScope (top 14)):=fns
def Ygk:AU:=(sSet 2 (cC (Ye (getV 2) (Ye (b2 (getC 1) (b2 (b2 (b2 (getC 2) (kD (.int 1)) ixD) (kD (.int 0)) ixD) (b1 (kD (.int 1)) negI) ixD) getI) aNil)) Ydw))
@[simp] def Yuw:AU:=(sRet (getV 2))
@[simp] def Yux:AU:=(sSeq (Ybs (andT (b1 (b2 (b2 (getC 2) (kD (.int 1)) ixD) (kD (.int 0)) ixD) truD) (b2 (b2 (b2 (b2 (getC 2) (kD (.int 1)) ixD) (kD (.int 0)) ixD) (b1 (kD (.int 1)) negI) ixD) (getC 1) (hasN false))) Ygk 4000) Yuw)
def Ysg:AU:=(sSeq (sSet 2 (getV 0)) Yux)
def Yfg:AR->Option D:=runB 2 3 Ysg
def Yyv(bl:Bl K w mg):Okf P w K mg base 3 2 "cleared" ["pair","by_last"] Yfg:=by
 refine okfn bl.f14 sc_cleared λhr=>?_;exact(Yi (Yv 2 sc_cleared.nd (Yg 0)) (Yi (Yir 4000 jg (Yit (Yh4 (Ybv (Yd (Yl (Yd (Yl (Yc 2) (Yd Yj))) (Yd Yj)))) (Yfr (y9z hr.units (Yd (Yl (Yd (Yl (Yd (Yl (Yc 2) (Yd Yj))) (Yd Yj))) (Yd (Ymd (Yd Yj))))) (Yc 1))))) (Ym (Yv 2 sc_cleared.nd (Yk (Ynk bl) hr rfl (Yb (Yg 2) (Yb (Ylb hr.units (Yc 1) (Yd (Yl (Yd (Yl (Yd (Yl (Yc 2) (Yd Yj))) (Yd Yj))) (Yd (Ymd (Yd Yj)))))) Yh)) aL2)))) (Ym (Yo (Yg 2)))))
def sc_reduced:FnScope ["book","by_last","void","place","rule","pair","beacons"] ["book"] (defScope (top 15)):=fns
theorem cs_reduced_0:CompSc ["book","by_last","void","place","rule","pair","beacons"] (defScope (top 15)) ["last","by_last"] [none,some 1] (fsc [(".0",.local),("last",.local),("by_last",.free)]):=Yad (by decide +kernel)
def Ydh:AU:=(sSeq (sSet 5 (Ynh [1] (cC (Ye (dTup (Ye (dTup (Ye (getV 3) aNil)) (Ye (getV 4) aNil))) (Ye (getV 1) aNil)) Yfg))) (sSeq (sSet 6 (b2 (b2 (getC 5) (kD (.int 1)) ixD) (kD (.int 0)) ixD)) (sIf (b1 (getC 6) truD) (Yui 1 (b2 (getC 6) (b1 (kD (.int 1)) negI) ixD) (getV 5)) (sIf (andT (b1 (b2 (b2 (getC 5) (kD (.int 1)) ixD) (kD (.int 1)) ixD) truD) (b2 (getC 2) (kD .non) (isN false))) (sSet 2 (b2 (getC 5) (kD (.int 0)) ixD)) sNil))))
def Ygl:AX:=(b2 (getC 1) (getC 0) getI)
@[simp] def Ymj:AU:=(wF [1] (sRet (dTup (Ye (lF (Ybq (b1 (lF (cF (Ye (getC 1) aNil) Yh2)) Yn) [none,some 1] (gSet 0) tY (Ygl))) (Ye (getV 2) aNil)))))
@[simp] def Ymk:AU:=(sSeq (sFor (b1 (b2 (getC 0) (kD (.int 1)) ixD) Yl0) (Ypg 3 4) Ydh) Ymj)
@[simp] def Yml:AU:=(sSeq (sSet 2 (kD .non)) Ymk)
def Ysh:AU:=(sSeq (Yug 1) Yml)
def Ygm:AR->Option D:=runB 1 7 Ysh
def Yyw(bl:Bl K w mg):Okf P w K mg base 4 1 "reduced" ["book"] Ygm:=by
 refine okfn bl.f15 sc_reduced λhr=>?_;exact(Yi (Ypw 1 sc_reduced.nd) (Yi (Yv 2 sc_reduced.nd Yat) (Yi (Ybe jg rfl (Yfs rfl bl.Enumerate (Yl (Yc 0) (Yd Yj))) (Ypv 3 4 rfl sc_reduced.nd) (Yi (Yv 5 sc_reduced.nd (Yr8 [1] (Yk (Yyv bl) hr rfl (Yb (Yu (Yb (Yu (Yb (Yg 3) Yh)) (Yb (Yg 4) Yh))) (Yb (Yg 1) Yh)) aL2))) (Yi (Yv 6 sc_reduced.nd (Yl (Yd (Yl (Yc 5) (Yd Yj))) (Yd Yj))) (Ym (Yaj (Ybv (Yc 6)) (Ym (Ypx hr.units 1 (Yd (Yl (Yc 6) (Yd (Ymd (Yd Yj))))) (Yg 5))) (Ym (Yaj (Yit (Yh4 (Ybv (Yd (Yl (Yd (Yl (Yc 5) (Yd Yj))) (Yd Yj)))) (Yfr (Yuq (Yc 2) (Yd Yat))))) (Ym (Yv 2 sc_reduced.nd (Yl (Yc 5) (Yd Yj)))) Yac))))))) (Ym (Ydn [1] (Yo (Yu (Yb (Yai (Yay cs_reduced_0 rfl (Yae (Yai (Yed (Yl5 rfl) Yog rfl bl.Sorted boot_sorted (Yq (Yc 1) Ys)))) (λ_ _ _ _ _=>(Yw 0 cs_reduced_0.nd)) (λ_ _ _ _ _=>Ybw) (λ_ _ _ _ _=>(Ylb hr.units (Yc 1) (Yc 0))) (Yav (i:=0) rfl))) (Yb (Yg 2) Yh)))))))))
def Ymm:FnScope ["rule","evening"] ["rule","evening"] (defScope (top 17)):=fns
theorem cs_either_holds_0:CompSc ["rule","evening"] (defScope (top 17)) ["saying","evening"] [none,some 1] (fsc [(".0",.local),("saying",.local),("evening",.free)]):=Yad (by decide +kernel)
def Yc8:AX:=(mB (b2 (b2 (getC 1) (b2 (getC 0) (kD (.int 0)) ixD) ixD) (b2 (getC 0) (kD (.int 1)) ixD) (eqM false)))
def Yhp:AU:=(sRet (cC (Ye (lF (Ybq (b1 (getV 0) Yn) [none,some 1] (gSet 0) tY (Yc8))) aNil) anyC))
def Ydc:AR->Option D:=runB 2 2 Yhp
def Ymn(bl:Bl K w mg):Okf P w K mg base 1 2 "either_holds" ["rule","evening"] Ydc:=by
 refine okfn bl.f17 Ymm λhr=>?_;exact(Ym (Yo (Yao (Ylw rfl) Yub rfl bl.Any boot_any (Yq (Yd (Yai (Yay cs_either_holds_0 rfl (Yae (Yg 0)) (λ_ _ _ _ _=>(Yw 0 cs_either_holds_0.nd)) (λ_ _ _ _ _=>Ybw) (λ_ _ _ _ _=>(Yhm hr.units (Yd (Yl (Yc 1) (Yd (Yl (Yc 0) (Yd Yj))))) (Yd (Yl (Yc 0) (Yd Yj))))) (Yav (i:=0) rfl)))) Ys))))
def sc_sum_holds:FnScope ["rule","evening","lit_ones"] ["rule","evening"] (defScope (top 18)):=fns
theorem cs_sum_holds_0:CompSc ["rule","evening","lit_ones"] (defScope (top 18)) ["beacon","evening"] [none,some 1] (fsc [(".0",.local),("beacon",.local),("evening",.free)]):=Yad (by decide +kernel)
def Ye4:AW:=(b1 (b2 (getC 1) (getC 0) ixD) truD)
def Ye5:AX:=(getV 0)
def Ymo:AU:=(sSeq (sOwn 2 (Ybq (b1 (b2 (getC 0) (kD (.int 0)) ixD) Yn) [none,some 1] (gSet 0) (Ye4) (Ye5))) (sRet (mB (b2 (mB (b2 (b2 (cC (Ye (getC 2) aNil) lenC) (kD (.int 2)) modI) (kD (.int 1)) (eqM false))) (b2 (getC 0) (kD (.int 1)) ixD) (eqM false)))))
def Yfv:AR->Option D:=runB 2 3 Ymo
def Ysi(bl:Bl K w mg):Okf P w K mg base 1 2 "sum_holds" ["rule","evening"] Yfv:=by
 refine okfn bl.f18 sc_sum_holds λhr=>?_;exact(Yi (Yg2 2 sc_sum_holds.nd cs_sum_holds_0 rfl (Yae (Yl (Yc 0) (Yd Yj))) (λ_ _ _ _ _=>(Yw 0 cs_sum_holds_0.nd)) (λ_ _ _ _ _=>(Yes (Ybv (Yd (Yl (Yc 1) (Yc 0)))))) (λ_ _ _ _ _=>(Yg 0)) (Yav (i:=0) rfl)) (Ym (Yo (Yhm hr.units (Yd (Yhm hr.units (Yd (Yba (Yd (Yao Yak Yc0 rfl bl.Len PySem.boot_len (Yq (Yc 2) Ys))) (Yd Yj))) (Yd Yj))) (Yd (Yl (Yc 0) (Yd Yj)))))))
def Yuy:FnScope ["rule","evening","lit"] ["rule","evening","lit"] (defScope (top 19)):=fns
theorem cs_if_holds_0:CompSc ["rule","evening","lit"] (defScope (top 19)) ["beacon","evening","lit"] [none,some 1,some 2] (fsc [(".0",.local),("beacon",.local),("evening",.free),("lit",.free)]):=Yad (by decide +kernel)
def Yfw:AX:=(mB (b2 (b2 (getC 1) (getC 0) ixD) (getC 2) (eqM true)))
def Yg4:AU:=(sSeq (sIf (b1 (cC (Ye (lF (Ybq (b1 (b2 (getC 0) (kD (.int 0)) ixD) Yn) [none,some 1,some 2] (gSet 0) tY (Yfw))) aNil) anyC) truD) (sRet (kD (.bl true))) sNil) (sRet (andV (mB (b2 (b2 (getC 0) (kD (.int 1)) ixD) (kD .non) (isN true))) (mB (b2 (b2 (getC 1) (b2 (getC 0) (kD (.int 1)) ixD) ixD) (getC 2) (eqM false))))))
def Yg5:AR->Option D:=runB 3 3 Yg4
def Yuz(bl:Bl K w mg):Okf P w K mg base 1 3 "if_holds" ["rule","evening","lit"] Yg5:=by
 refine okfn bl.f19 Yuy λhr=>?_;exact(Yi (Yaj (Ybv (Yd (Yao (Ylw rfl) Yub rfl bl.Any boot_any (Yq (Yd (Yai (Yay cs_if_holds_0 rfl (Yae (Yl (Yc 0) (Yd Yj))) (λ_ _ _ _ _=>(Yw 0 cs_if_holds_0.nd)) (λ_ _ _ _ _=>Ybw) (λ_ _ _ _ _=>(Ywq hr.units (Yd (Yl (Yc 1) (Yc 0))) (Yc 2))) (Yav (i:=0) rfl)))) Ys)))) (Ym (Yo Ydr)) Yac) (Ym (Yo (Ypu (Yws (Yd (Yl (Yc 0) (Yd Yj))) (Yd Yat)) (Yla (Yhm hr.units (Yd (Yl (Yc 1) (Yd (Yl (Yc 0) (Yd Yj))))) (Yc 2)))))))
def Yp7:FnScope ["kind","rule","evening"] ["kind","rule","evening"] (defScope (top 20)):=fns
@[simp] def Ynl:AU:=(sRet (cC (Ye (getV 1) (Ye (getV 2) (Ye (mB (b2 (getC 0) (kD (.str "ifs")) (eqM false))) aNil))) Yg5))
@[simp] def Ynm:AU:=(sSeq (sIf (b2 (getC 0) (kD (.str "sums")) (eqM false)) (sRet (cC (Ye (getV 1) (Ye (getV 2) aNil)) Yfv)) sNil) Ynl)
def Ydi:AU:=(sSeq (sIf (b2 (getC 0) (kD (.str "eithers")) (eqM false)) (sRet (cC (Ye (getV 1) (Ye (getV 2) aNil)) Ydc)) sNil) Ynm)
def Yeu:AR->Option D:=runB 3 3 Ydi
def Yp8(bl:Bl K w mg):Okf P w K mg base 2 3 "rule_holds" ["kind","rule","evening"] Yeu:=by
 refine okfn bl.f20 Yp7 λhr=>?_;exact(Yi (Yaj (Yds hr.units (Yc 0) (Yd Yz)) (Ym (Yo (Yk (Ymn bl) hr rfl (Yb (Yg 1) (Yb (Yg 2) Yh)) aL2))) Yac) (Yi (Yaj (Yds hr.units (Yc 0) (Yd Yz)) (Ym (Yo (Yk (Ysi bl) hr rfl (Yb (Yg 1) (Yb (Yg 2) Yh)) aL2))) Yac) (Ym (Yo (Yk (Yuz bl) hr rfl (Yb (Yg 1) (Yb (Yg 2) (Yb (Yhm hr.units (Yc 0) (Yd Yz)) Yh))) aL3)))))
def Yp9:FnScope ["kind","rule"] ["kind","rule"] (defScope (top 21)):=fns
theorem cs_beacons_in_0:CompSc ["kind","rule"] (defScope (top 21)) ["saying"] [none] (fsc [(".0",.local),("saying",.local)]):=Yad (by decide +kernel)
def Yeh:AX:=(b2 (getC 0) (kD (.int 0)) ixD)
@[simp] def Ynn:AU:=(sRet (lF (b2 (lF (cF (Ye (b2 (getC 1) (kD (.int 0)) ixD) aNil) Yrl)) (lF (dLst (Ye (b2 (getC 1) (kD (.int 1)) ixD) aNil))) catD)))
@[simp] def Yno:AU:=(sSeq (sIf (orT (b2 (getC 0) (kD (.str "sums")) (eqM false)) (b2 (b2 (getC 1) (kD (.int 1)) ixD) (kD .non) (isN false))) (sRet (lF (cF (Ye (b2 (getC 1) (kD (.int 0)) ixD) aNil) Yrl))) sNil) Ynn)
def Ydj:AU:=(sSeq (sIf (b2 (getC 0) (kD (.str "eithers")) (eqM false)) (sRet (lF (Ybq (b1 (getV 1) Yn) [none] (gSet 0) tY (Yeh)))) sNil) Yno)
def Yev:AR->Option D:=runB 2 2 Ydj
def Yqa(bl:Bl K w mg):Okf P w K mg base 1 2 "beacons_in" ["kind","rule"] Yev:=by
 refine okfn bl.f21 Yp9 λhr=>?_;exact(Yi (Yaj (Yds hr.units (Yc 0) (Yd Yz)) (Ym (Yo (Yai (Yay cs_beacons_in_0 rfl (Yae (Yg 1)) (λ_ _ _ _ _=>(Yw 0 cs_beacons_in_0.nd)) (λ_ _ _ _ _=>Ybw) (λ_ _ _ _ _=>(Yl (Yc 0) (Yd Yj))) (Yav (i:=0) rfl))))) Yac) (Yi (Yaj (Yit (y7c (Yds hr.units (Yc 0) (Yd Yz)) (y1r (Yuq (Yd (Yl (Yc 1) (Yd Yj))) (Yd Yat))))) (Ym (Yo (Yai (Yd2 Yeo Yk6 rfl bl.List boot_list (Yq (Yd (Yl (Yc 1) (Yd Yj))) Ys))))) Yac) (Ym (Yo (Yai (Yur (Yd (Yai (Yd2 Yeo Yk6 rfl bl.List boot_list (Yq (Yd (Yl (Yc 1) (Yd Yj))) Ys)))) (Yd (Yai (Ycm (Yb (Yl (Yc 1) (Yd Yj)) Yh))))))))))
def Yyx:FnScope ["kind","rule"] ["kind","rule"] (defScope (top 22)):=fns
def Ymp:AU:=(sRet (andV (mB (b2 (cC (Ye (cC (Ye (getV 0) (Ye (getV 1) aNil)) Yev) aNil) lenC) (kD (.int 0)) (eqM false))) (notV (cC (Ye (getV 0) (Ye (getV 1) (Ye (dTup aNil) aNil))) Yeu))))
def Yi2:AR->Option D:=runB 2 2 Ymp
def Yyy(bl:Bl K w mg):Okf P w K mg base 3 2 "is_void" ["kind","rule"] Yi2:=by
 refine okfn bl.f22 Yyx λhr=>?_;exact(Ym (Yo (Ypu (Yhm hr.units (Yd (Yao Yak Yc0 rfl bl.Len PySem.boot_len (Yq (Yd (Yk (Yqa bl) hr rfl (Yb (Yg 0) (Yb (Yg 1) Yh)) aL2)) Ys))) (Yd Yj)) (Yla (y1s (Yk (Yp8 bl) hr rfl (Yb (Yg 0) (Yb (Yg 1) (Yb (Yu Yh) Yh))) aL3))))))
def Yyz:FnScope ["beacons","beacon"] ["beacons","beacon"] (defScope (top 23)):=fns
theorem cs_without_0:CompSc ["beacons","beacon"] (defScope (top 23)) ["other","beacon"] [none,some 1] (fsc [(".0",.local),("other",.local),("beacon",.free)]):=Yad (by decide +kernel)
def Ygn:AW:=(b2 (getC 0) (getC 1) (eqM true))
def Ygo:AX:=(getV 0)
def Ysj:AU:=(sRet (cC (Ye (lF (Ybq (b1 (getV 0) Yn) [none,some 1] (gSet 0) (Ygn) (Ygo))) aNil) tupC))
def Yi3:AR->Option D:=runB 2 2 Ysj
def Yy0(bl:Bl K w mg):Okf P w K mg base 1 2 "without" ["beacons","beacon"] Yi3:=by
 refine okfn bl.f23 Yyz λhr=>?_;exact(Ym (Yo (Yag Yx Ybp rfl bl.Tuple boot_tuple (Yq (Yd (Yai (Yay cs_without_0 rfl (Yae (Yg 0)) (λ_ _ _ _ _=>(Yw 0 cs_without_0.nd)) (λ_ _ _ _ _=>(Yes (Ymc hr.units (Yc 0) (Yc 1)))) (λ_ _ _ _ _=>(Yg 0)) (Yav (i:=0) rfl)))) Ys))))
def Yu0:FnScope ["book","place"] ["book","place"] (defScope (top 25)):=fns
def Yos:AU:=(sRet (mB (ch3 (kD (.int 0)) (getC 1) (cC (Ye (b2 (getC 0) (kD (.int 1)) ixD) aNil) lenC) leI ltI)))
def Yg6:AR->Option D:=runB 2 2 Yos
def Yu1(bl:Bl K w mg):Okf P w K mg base 1 2 "is_place" ["book","place"] Yg6:=by
 refine okfn bl.f25 Yu0 λhr=>?_;exact(Ym (Yo (y1x Yafc Ype Yabj Ype (Yd Yj) (Yc 1) (Yd (Yao Yak Yc0 rfl bl.Len PySem.boot_len (Yq (Yd (Yl (Yc 0) (Yd Yj))) Ys))))))
def Ykr:FnScope ["rule","known"] ["rule","known"] (defScope (top 26)):=fns
theorem cs_body_is_known_0:CompSc ["rule","known"] (defScope (top 26)) ["beacon","known"] [none,some 1] (fsc [(".0",.local),("beacon",.local),("known",.free)]):=Yad (by decide +kernel)
def Ya6:AX:=(orD (mB (b2 (getC 0) (getC 1) (inM false))) (mB (b2 (getC 0) (getC 1) (hasI false))))
def Yei:AU:=(sRet (cC (Ye (lF (Ybq (b1 (b2 (getC 0) (kD (.int 0)) ixD) Yn) [none,some 1] (gSet 0) tY (Ya6))) aNil) allC))
def Ya1:AR->Option D:=runB 2 2 Yei
def Yf8(bl:Bl K w mg):Okf P w K mg base 1 2 "body_is_known" ["rule","known"] Ya1:=by
 refine okfn bl.f26 Ykr λhr=>?_;exact(Ym (Yo (Yao (y0r rfl) y82 rfl bl.All boot_all (Yq (Yd (Yai (Yay cs_body_is_known_0 rfl (Yae (Yl (Yc 0) (Yd Yj))) (λ_ _ _ _ _=>(Yw 0 cs_body_is_known_0.nd)) (λ_ _ _ _ _=>Ybw) (λ_ _ _ _ _=>(y99 (Yadx hr.units (Yc 0) (Yc 1)) (y9x hr.units (Yc 0) (Yc 1)))) (Yav (i:=0) rfl)))) Ys))))
def sc_is_step:FnScope ["book","known","place","rule"] ["book","known","place"] (defScope (top 27)):=fns
@[simp] def Yu2:AU:=(sRet (andV (mB (b2 (b2 (getC 3) (kD (.int 1)) ixD) (kD .non) (isN true))) (cC (Ye (getV 3) (Ye (getV 1) aNil)) Ya1)))
@[simp] def Yu3:AU:=(sSeq (sSet 3 (b2 (b2 (getC 0) (kD (.int 1)) ixD) (getC 2) ixD)) Yu2)
def Ymq:AU:=(sSeq (sIf (notT (b1 (cC (Ye (getV 0) (Ye (getV 2) aNil)) Yg6) truD)) (sRet (kD (.bl false))) sNil) Yu3)
def Yi4:AR->Option D:=runB 3 4 Ymq
def Yy1(bl:Bl K w mg):Okf P w K mg base 2 3 "is_step" ["book","known","place"] Yi4:=by
 refine okfn bl.f27 sc_is_step λhr=>?_;exact(Yi (Yaj (Yup (Ybv (Yd (Yk (Yu1 bl) hr rfl (Yb (Yg 0) (Yb (Yg 2) Yh)) aL2)))) (Ym (Yo Ydr)) Yac) (Yi (Yv 3 sc_is_step.nd (Yl (Yd (Yl (Yc 0) (Yd Yj))) (Yc 2))) (Ym (Yo (Ypu (Yws (Yd (Yl (Yc 3) (Yd Yj))) (Yd Yat)) (Yla (Yk (Yf8 bl) hr rfl (Yb (Yg 3) (Yb (Yg 1) Yh)) aL2)))))))
def sc_step_to_more:FnScope ["book","known","place","rule"] ["book","known"] (defScope (top 28)):=fns
def Ya0:AU:=(sIf (andT (b2 (b2 (getC 3) (kD (.int 1)) ixD) (getC 1) (hasN true)) (b1 (cC (Ye (getV 0) (Ye (getV 1) (Ye (getV 2) aNil))) Yi4) truD)) (sRet (getV 2)) sNil)
def Yhq:AU:=(sSeq (sFor (b1 (b2 (getC 0) (kD (.int 1)) ixD) Yl0) (Ypg 2 3) Ya0) (sRet (kD .non)))
def Yb6:AR->Option D:=runB 2 4 Yhq
def Ygp(bl:Bl K w mg):Okf P w K mg base 3 2 "step_to_more" ["book","known"] Yb6:=by
 refine okfn bl.f28 sc_step_to_more λhr=>?_;exact(Yi (Ybe jg rfl (Yfs rfl bl.Enumerate (Yl (Yc 0) (Yd Yj))) (Ypv 2 3 rfl sc_step_to_more.nd) (Ym (Yaj (Yit (Yh4 (y5p hr.units (Yd (Yl (Yc 3) (Yd Yj))) (Yc 1)) (Yfr (Ybv (Yd (Yk (Yy1 bl) hr rfl (Yb (Yg 0) (Yb (Yg 1) (Yb (Yg 2) Yh))) aL3)))))) (Ym (Yo (Yg 2))) Yac))) (Ym (Yo Yat)))
def sc_derived_in_full:FnScope ["book","facts","known","places","place"] ["book","facts"] (defScope (top 29)):=fns
theorem cs_derived_in_full_0:CompSc ["book","facts","known","places","place"] (defScope (top 29)) ["fact"] [none] (fsc [(".0",.local),("fact",.local)]):=Yad (by decide +kernel)
def Ya8:AX:=(dTup (Ye (getV 0) (Ye (kD (.bl true)) aNil)))
def Ya9:AU:=(sSeq (sMut 3 (getV 4) appD) (sSeq (Yui 2 (b2 (b2 (b2 (getC 0) (kD (.int 1)) ixD) (getC 4) ixD) (kD (.int 1)) ixD) (kD (.bl true))) (sSet 4 (Yx6 [2] (cC (Ye (getV 0) (Ye (getV 2) aNil)) Yb6)))))
@[simp] def Yh8:AU:=(sRet (dTup (Ye (lF (cF (Ye (getC 2) aNil) Yh2)) (Ye (cC (Ye (getC 3) aNil) tupC) aNil))))
@[simp] def Yh9:AU:=(sSeq (Ybs (b2 (getC 4) (kD .non) (isN true)) Ya9 4000) Yh8)
@[simp] def Yia:AU:=(sSeq (sSet 4 (Yx6 [2] (cC (Ye (getV 0) (Ye (getV 2) aNil)) Yb6))) Yh9)
@[simp] def Yib:AU:=(sSeq (sOwn 3 (dLst aNil)) Yia)
def Yfh:AU:=(sSeq (sDct 2 (lF (Ybq (b1 (getV 1) Yn) [none] (gSet 0) tY (Ya8)))) Yib)
def Yar:AR->Option D:=runB 2 5 Yfh
def Yew(bl:Bl K w mg):Okf P w K mg base 4 2 "derived_in_full" ["book","facts"] Yar:=by
 refine okfn bl.f29 sc_derived_in_full λhr=>?_;exact(Yi (y1z rfl 2 sc_derived_in_full.nd rfl bl.Dict (Yd (Yai (Yay cs_derived_in_full_0 rfl (Yae (Yg 1)) (λ_ _ _ _ _=>(Yw 0 cs_derived_in_full_0.nd)) (λ_ _ _ _ _=>Ybw) (λ_ _ _ _ _=>(Yu (Yb (Yg 0) (Yb Ydr Yh)))) (Yav (i:=0) rfl))))) (Yi (Ye2 3 sc_derived_in_full.nd (Ycm Yh)) (Yi (Yv 4 sc_derived_in_full.nd (Ywt [2] (Yk (Ygp bl) hr rfl (Yb (Yg 0) (Yb (Yg 2) Yh)) aL2))) (Yi (Yir 4000 jg (Yer (Yc 4) (Yd Yat)) (Yi (Yd3 3 (Yg 4)) (Yi (Ypx hr.units 2 (Yd (Yl (Yd (Yl (Yd (Yl (Yc 0) (Yd Yj))) (Yc 4))) (Yd Yj))) Ydr) (Ym (Yv 4 sc_derived_in_full.nd (Ywt [2] (Yk (Ygp bl) hr rfl (Yb (Yg 0) (Yb (Yg 2) Yh)) aL2))))))) (Ym (Yo (Yu (Yb (Yai (Yed (Yl5 rfl) Yog rfl bl.Sorted boot_sorted (Yq (Yc 2) Ys))) (Yb (Yag Yx Ybp rfl bl.Tuple boot_tuple (Yq (Yc 3) Ys)) Yh)))))))))
def Ysk:FnScope ["book"] ["book"] (defScope (top 31)):=fns
theorem cs_is_broken_0:CompSc ["book"] (defScope (top 31)) ["rule","book"] [none,some 0] (fsc [(".0",.local),("rule",.local),("is_void",.globalImplicit),("book",.free)]):=Yad (by decide +kernel)
def Ye6:AX:=(cC (Ye (b2 (getC 1) (kD (.int 0)) ixD) (Ye (getV 0) aNil)) Yi2)
def Ymr:AU:=(sRet (cC (Ye (lF (Ybq (b1 (b2 (getC 0) (kD (.int 1)) ixD) Yn) [none,some 0] (gSet 0) tY (Ye6))) aNil) anyC))
def Yej:AR->Option D:=runB 1 1 Ymr
def Ysl(bl:Bl K w mg):Okf P w K mg base 4 1 "is_broken" ["book"] Yej:=by
 refine okfn bl.f31 Ysk λhr=>?_;exact(Ym (Yo (Yao (Ylw rfl) Yub rfl bl.Any boot_any (Yq (Yd (Yai (Yay cs_is_broken_0 rfl (Yae (Yl (Yc 0) (Yd Yj))) (λ_ _ _ _ _=>(Yw 0 cs_is_broken_0.nd)) (λ_ _ _ _ _=>Ybw) (λ_ _ _ _ _=>(Yk (Yyy bl) hr rfl (Yb (Yl (Yc 1) (Yd Yj)) (Yb (Yg 0) Yh)) aL2)) (Yav (i:=0) rfl)))) Ys))))
def sc_sayings_of:FnScope ["beacons","sayings","beacon"] ["beacons"] (defScope (top 33)):=fns
def Yek:AU:=(sMut 1 (lF (dLst (Ye (dTup (Ye (getV 2) (Ye (kD (.bl false)) aNil))) (Ye (dTup (Ye (getV 2) (Ye (kD (.bl true)) aNil))) aNil)))) extD)
@[simp] def Ynp:AU:=(wF [1] (sRet (getV 1)))
@[simp] def Ynq:AU:=(sSeq (sFor (b1 (getV 0) Yn) (gSet 2) Yek) Ynp)
def Ykh:AU:=(sSeq (sOwn 1 (dLst aNil)) Ynq)
def Yaq:AR->Option D:=runB 1 3 Ykh
def Ybf(bl:Bl K w mg):Okf P w K mg base 1 1 "sayings_of" ["beacons"] Yaq:=by
 refine okfn bl.f33 sc_sayings_of λhr=>?_;exact(Yi (Ye2 1 sc_sayings_of.nd (Ycm Yh)) (Yi (Ybe jg rfl (Yae (Yg 0)) (Yw 2 sc_sayings_of.nd) (Ym (Yyj 1 (Yai (Ycm (Yb (Yu (Yb (Yg 2) (Yb Ydr Yh))) (Yb (Yu (Yb (Yg 2) (Yb Ydr Yh))) Yh))))))) (Ym (Ydn [1] (Yo (Yg 1))))))
def Yga:FnScope ["ways","saying","other"] ["ways","saying","other"] (defScope (top 34)):=fns
def Ybz:AU:=(sRet (andV (mB (b2 (getC 2) (b2 (getC 0) (getC 1) getT) (hasT false))) (mB (b2 (getC 1) (b2 (getC 0) (getC 2) getT) (hasT false)))))
def Yal:AR->Option D:=runB 3 3 Ybz
def Ybr(bl:Bl K w mg):Okf P w K mg base 1 3 "lead_to_one_another" ["ways","saying","other"] Yal:=by
 refine okfn bl.f34 Yga λhr=>?_;exact(Ym (Yo (Ypu (y1v hr.units (Yc 2) (Yd (Yb7 hr.units (Yc 0) (Yc 1)))) (Yla (y1v hr.units (Yc 1) (Yd (Yb7 hr.units (Yc 0) (Yc 2))))))))
def sc_clash_found:FnScope ["ways","saying","other"] ["ways"] (defScope (top 35)):=fns
def Yca:AU:=(sSeq (sSet 2 (cC (Ye (getV 1) aNil) Ycg)) (sIf (b1 (cC (Ye (getV 0) (Ye (getV 1) (Ye (getV 2) aNil))) Yal) truD) (sRet (dTup (Ye (kD (.str "clash")) (Ye (cC (Ye (b2 (getC 0) (getC 1) getT) (Ye (getV 2) aNil)) Yet) (Ye (cC (Ye (b2 (getC 0) (getC 2) getT) (Ye (getV 1) aNil)) Yet) aNil))))) sNil))
def Yfx:AU:=(sSeq (sFor (b1 (getV 0) Yjy) (gSet 1) Yca) (sRet (kD .non)))
def Yco:AR->Option D:=runB 1 3 Yfx
def Ynr(bl:Bl K w mg):Okf P w K mg base 2 1 "clash_found" ["ways"] Yco:=by
 refine okfn bl.f35 sc_clash_found λhr=>?_;exact(Yi (Ybe jg rfl (y2d (Yg 0)) (Yw 1 sc_clash_found.nd) (Yi (Yv 2 sc_clash_found.nd (Yk (Yee bl) hr rfl (Yb (Yg 1) Yh) aL1)) (Ym (Yaj (Ybv (Yd (Yk (Ybr bl) hr rfl (Yb (Yg 0) (Yb (Yg 1) (Yb (Yg 2) Yh))) aL3))) (Ym (Yo (Yu (Yb Yz (Yb (Yk (Ygj bl) hr rfl (Yb (Yb7 hr.units (Yc 0) (Yc 1)) (Yb (Yg 2) Yh)) aL2) (Yb (Yk (Ygj bl) hr rfl (Yb (Yb7 hr.units (Yc 0) (Yc 2)) (Yb (Yg 1) Yh)) aL2) Yh)))))) Yac)))) (Ym (Yo Yat)))
def sc_cross_found:FnScope ["ways","storms","saying","other"] ["ways","storms"] (defScope (top 36)):=fns
def Ybh:AU:=(sIf (andT (b2 (getC 3) (getC 2) (eqM true)) (b2 (getC 3) (b2 (getC 0) (getC 2) getT) (hasT false))) (sRet (dTup (Ye (kD (.str "cross")) (Ye (cC (Ye (b2 (getC 0) (getC 2) getT) (Ye (getV 3) aNil)) Yet) aNil)))) sNil)
def Ycb:AU:=(sFor (b1 (cC (Ye (getV 1) aNil) Yaq) Yn) (gSet 3) Ybh)
def Yfy:AU:=(sSeq (sFor (b1 (cC (Ye (getV 1) aNil) Yaq) Yn) (gSet 2) Ycb) (sRet (kD .non)))
def Ycp:AR->Option D:=runB 2 4 Yfy
def Yns(bl:Bl K w mg):Okf P w K mg base 2 2 "cross_found" ["ways","storms"] Ycp:=by
 refine okfn bl.f36 sc_cross_found λhr=>?_;exact(Yi (Ybe jg rfl (Yae (Yk (Ybf bl) hr rfl (Yb (Yg 1) Yh) aL1)) (Yw 2 sc_cross_found.nd) (Ym (Ybe jg rfl (Yae (Yk (Ybf bl) hr rfl (Yb (Yg 1) Yh) aL1)) (Yw 3 sc_cross_found.nd) (Ym (Yaj (Yit (Yh4 (Ymc hr.units (Yc 3) (Yc 2)) (Yfr (y1w hr.units (Yc 3) (Yd (Yb7 hr.units (Yc 0) (Yc 2))))))) (Ym (Yo (Yu (Yb Yz (Yb (Yk (Ygj bl) hr rfl (Yb (Yb7 hr.units (Yc 0) (Yc 2)) (Yb (Yg 3) Yh)) aL2) Yh))))) Yac))))) (Ym (Yo Yat)))
def sc_late_found:FnScope ["ways","keepers","storms","saying","other"] ["ways","keepers","storms"] (defScope (top 37)):=fns
def Yb0:AU:=(sIf (andT (b2 (b2 (getC 4) (kD (.int 0)) ixD) (b2 (getC 3) (kD (.int 0)) ixD) ltI) (b1 (cC (Ye (getV 0) (Ye (getV 3) (Ye (getV 4) aNil))) Yal) truD)) (sRet (dTup (Ye (kD (.str "late")) (Ye (cC (Ye (b2 (getC 0) (getC 3) getT) (Ye (getV 4) aNil)) Yet) (Ye (cC (Ye (b2 (getC 0) (getC 4) getT) (Ye (getV 3) aNil)) Yet) aNil))))) sNil)
def Ycq:AU:=(sFor (b1 (cC (Ye (getV 1) aNil) Yaq) Yn) (gSet 4) Yb0)
def Ygq:AU:=(sSeq (sFor (b1 (cC (Ye (getV 2) aNil) Yaq) Yn) (gSet 3) Ycq) (sRet (kD .non)))
def Ydk:AR->Option D:=runB 3 5 Ygq
def Yqb(bl:Bl K w mg):Okf P w K mg base 2 3 "late_found" ["ways","keepers","storms"] Ydk:=by
 refine okfn bl.f37 sc_late_found λhr=>?_;exact(Yi (Ybe jg rfl (Yae (Yk (Ybf bl) hr rfl (Yb (Yg 2) Yh) aL1)) (Yw 3 sc_late_found.nd) (Ym (Ybe jg rfl (Yae (Yk (Ybf bl) hr rfl (Yb (Yg 1) Yh) aL1)) (Yw 4 sc_late_found.nd) (Ym (Yaj (Yit (Yh4 (Ywp (Yd (Yl (Yc 4) (Yd Yj))) (Yd (Yl (Yc 3) (Yd Yj)))) (Yfr (Ybv (Yd (Yk (Ybr bl) hr rfl (Yb (Yg 0) (Yb (Yg 3) (Yb (Yg 4) Yh))) aL3)))))) (Ym (Yo (Yu (Yb Yz (Yb (Yk (Ygj bl) hr rfl (Yb (Yb7 hr.units (Yc 0) (Yc 3)) (Yb (Yg 4) Yh)) aL2) (Yb (Yk (Ygj bl) hr rfl (Yb (Yb7 hr.units (Yc 0) (Yc 4)) (Yb (Yg 3) Yh)) aL2) Yh)))))) Yac))))) (Ym (Yo Yat)))
def sc_storms_paper:FnScope ["book","ways","keepers","storms","found","papers"] ["book","ways","keepers","storms"] (defScope (top 38)):=fns
theorem cs_storms_paper_0:CompSc ["book","ways","keepers","storms","found","papers"] (defScope (top 38)) ["paper"] [none] (fsc [(".0",.local),("paper",.local)]):=Yad (by decide +kernel)
def Yaf:AW:=(b2 (getC 0) (kD .non) (isN true))
def Yam:AX:=(getV 0)
@[simp] def Yks:AU:=(sRet (ifV (b1 (getC 5) truD) (b2 (getC 5) (kD (.int 0)) ixD) (kD .non)))
@[simp] def Ykt:AU:=(sSeq (wF [4] (sOwn 5 (Ybq (b1 (getV 4) Yn) [none] (gSet 0) (Yaf) (Yam)))) Yks)
@[simp] def Yku:AU:=(sSeq (sOwn 4 (dLst (Ye (cC (Ye (getV 1) aNil) Yco) (Ye (cC (Ye (getV 1) (Ye (getV 3) aNil)) Ycp) (Ye (cC (Ye (getV 1) (Ye (getV 2) (Ye (getV 3) aNil))) Ydk) aNil))))) Ykt)
def Yan:AU:=(sSeq (sIf (b1 (cC (Ye (getV 0) aNil) Yej) truD) (sRet (dTup (Ye (kD (.str "broken")) aNil))) sNil) Yku)
def Ybl:AR->Option D:=runB 4 6 Yan
def Yms(bl:Bl K w mg):Okf P w K mg base 5 4 "storms_paper" ["book","ways","keepers","storms"] Ybl:=by
 refine okfn bl.f38 sc_storms_paper λhr=>?_;exact(Yi (Yaj (Ybv (Yd (Yk (Ysl bl) hr rfl (Yb (Yg 0) Yh) aL1))) (Ym (Yo (Yu (Yb Yz Yh)))) Yac) (Yi (Ye2 4 sc_storms_paper.nd (Ycm (Yb (Yk (Ynr bl) hr rfl (Yb (Yg 1) Yh) aL1) (Yb (Yk (Yns bl) hr rfl (Yb (Yg 1) (Yb (Yg 3) Yh)) aL2) (Yb (Yk (Yqb bl) hr rfl (Yb (Yg 1) (Yb (Yg 2) (Yb (Yg 3) Yh))) aL3) Yh))))) (Yi (Ydn [4] (Yg2 5 sc_storms_paper.nd cs_storms_paper_0 rfl (Yae (Yg 4)) (λ_ _ _ _ _=>(Yw 0 cs_storms_paper_0.nd)) (λ_ _ _ _ _=>(Yes (Yer (Yc 0) (Yd Yat)))) (λ_ _ _ _ _=>(Yg 0)) (Yav (i:=0) rfl))) (Ym (Yo (Ywr (Ybv (Yc 5)) (Yl (Yc 5) (Yd Yj)) Yat))))))
def sc_free_saying:FnScope ["keeper","ways","dark"] ["keeper","ways"] (defScope (top 39)):=fns
def Yfz:AU:=(sSeq (sSet 2 (dTup (Ye (getV 0) (Ye (kD (.bl false)) aNil)))) (sRet (ifV (b2 (cC (Ye (getV 2) aNil) Ycg) (b2 (getC 1) (getC 2) getT) (hasT false)) (cC (Ye (getV 2) aNil) Ycg) (getV 2))))
def Ybg:AR->Option D:=runB 2 3 Yfz
def Ynt(bl:Bl K w mg):Okf P w K mg base 2 2 "free_saying" ["keeper","ways"] Ybg:=by
 refine okfn bl.f39 sc_free_saying λhr=>?_;exact(Yi (Yv 2 sc_free_saying.nd (Yu (Yb (Yg 0) (Yb Ydr Yh)))) (Ym (Yo (Ywr (y1w hr.units (Yd (Yk (Yee bl) hr rfl (Yb (Yg 2) Yh) aL1)) (Yd (Yb7 hr.units (Yc 1) (Yc 2)))) (Yk (Yee bl) hr rfl (Yb (Yg 2) Yh) aL1) (Yg 2)))))
def sc_truths_made:FnScope ["ways","keepers","storms","truths","saying","keeper"] ["ways","keepers","storms"] (defScope (top 40)):=fns
def Ydo:AU:=(sUpd 3 (dctF (lF (cF (Ye (b2 (getC 0) (getC 4) getT) aNil) Yiw))))
def Ycc:AU:=(sIf (b2 (getC 5) (getC 3) (hasI true)) (sUpd 3 (dctF (lF (cF (Ye (b2 (getC 0) (cC (Ye (getV 5) (Ye (getV 0) aNil)) Ybg) getT) aNil) Yiw)))) sNil)
@[simp] def Yel:AU:=(wF [3] (sRet (getV 3)))
@[simp] def Ymt:AU:=(sSeq (sFor (b1 (getV 1) Yn) (gSet 5) Ycc) Yel)
@[simp] def Ymu:AU:=(sSeq (sFor (b1 (cC (Ye (getV 2) aNil) Yaq) Yn) (gSet 4) Ydo) Ymt)
def Yi5:AU:=(sSeq (Yug 3) Ymu)
def Ydx:AR->Option D:=runB 3 6 Yi5
def Ynu(bl:Bl K w mg):Okf P w K mg base 3 3 "truths_made" ["ways","keepers","storms"] Ydx:=by
 refine okfn bl.f40 sc_truths_made λhr=>?_;exact(Yi (Ypw 3 sc_truths_made.nd) (Yi (Ybe jg rfl (Yae (Yk (Ybf bl) hr rfl (Yb (Yg 2) Yh) aL1)) (Yw 4 sc_truths_made.nd) (Ym (Yoq 3 (y2h rfl rfl bl.Dict (Yd (Yai (Yd2 (Yop rfl) Ysc rfl bl.List boot_list (Yq (Yd (Yb7 hr.units (Yc 0) (Yc 4))) Ys)))))))) (Yi (Ybe jg rfl (Yae (Yg 1)) (Yw 5 sc_truths_made.nd) (Ym (Yaj (y5o hr.units (Yc 5) (Yc 3)) (Ym (Yoq 3 (y2h rfl rfl bl.Dict (Yd (Yai (Yd2 (Yop rfl) Ysc rfl bl.List boot_list (Yq (Yd (Yb7 hr.units (Yc 0) (Yd (Yk (Ynt bl) hr rfl (Yb (Yg 5) (Yb (Yg 0) Yh)) aL2)))) Ys))))))) Yac))) (Ym (Ydn [3] (Yo (Yg 3)))))))
def sc_plan_row:FnScope ["keeper","ways","storms","truths","saying"] ["keeper","ways","storms","truths"] (defScope (top 41)):=fns
def Ydy:AU:=(sIf (b1 (cC (Ye (getV 1) (Ye (getV 4) (Ye (dTup (Ye (getV 0) (Ye (kD (.bl true)) aNil))) aNil))) Yal) truD) (sRet (dTup (Ye (getV 0) (Ye (b2 (getC 4) (kD (.int 0)) ixD) (Ye (b2 (getC 4) (kD (.int 1)) ixD) aNil))))) sNil)
def Yj1:AU:=(sSeq (sFor (b1 (cC (Ye (getV 2) aNil) Yaq) Yn) (gSet 4) Ydy) (sRet (dTup (Ye (getV 0) (Ye (kD .non) (Ye (b2 (getC 3) (getC 0) getI) aNil))))))
def Yd4:AR->Option D:=runB 4 5 Yj1
def Yu4(bl:Bl K w mg):Okf P w K mg base 2 4 "plan_row" ["keeper","ways","storms","truths"] Yd4:=by
 refine okfn bl.f41 sc_plan_row λhr=>?_;exact(Yi (Ybe jg rfl (Yae (Yk (Ybf bl) hr rfl (Yb (Yg 2) Yh) aL1)) (Yw 4 sc_plan_row.nd) (Ym (Yaj (Ybv (Yd (Yk (Ybr bl) hr rfl (Yb (Yg 1) (Yb (Yg 4) (Yb (Yu (Yb (Yg 0) (Yb Ydr Yh))) Yh))) aL3))) (Ym (Yo (Yu (Yb (Yg 0) (Yb (Yl (Yc 4) (Yd Yj)) (Yb (Yl (Yc 4) (Yd Yj)) Yh)))))) Yac))) (Ym (Yo (Yu (Yb (Yg 0) (Yb Yat (Yb (Ylb hr.units (Yc 3) (Yc 0)) Yh)))))))
def sc_either_outcome:FnScope ["book","hands","start","keepers","storms","ways","paper","truths"] ["book","hands","start"] (defScope (top 42)):=fns
theorem cs_either_outcome_0:CompSc ["book","hands","start","keepers","storms","ways","paper","truths"] (defScope (top 42)) ["saying","book"] [none,some 0] (fsc [(".0",.local),("saying",.local),("ways_from",.globalImplicit),("book",.free)]):=Yad (by decide +kernel)
theorem cs_either_outcome_1:CompSc ["book","hands","start","keepers","storms","ways","paper","truths"] (defScope (top 42)) ["keeper","ways","storms","truths"] [none,some 5,some 4,some 7] (fsc [(".0",.local),("keeper",.local),("plan_row",.globalImplicit),("storms",.free),("truths",.free),("ways",.free)]):=Yad (by decide +kernel)
def Ya2:AX:=(dTup (Ye (getV 0) (Ye (cC (Ye (getV 1) (Ye (getV 0) aNil)) Yc5) aNil)))
def Yce:AX:=(cC (Ye (getV 0) (Ye (getV 1) (Ye (getV 2) (Ye (getV 3) aNil)))) Yd4)
@[simp] def Yi6:AU:=(wF [5] (sRet (dTup (Ye (kD (.str "keeper")) (Ye (dTup (Ye (kD (.str "plan")) (Ye (cC (Ye (lF (Ybq (b1 (getV 3) Yn) [none,some 5,some 4,some 7] (gSet 0) tY (Yce))) aNil) tupC) aNil))) aNil)))))
@[simp] def Yi7:AU:=(sSeq (wF [5] (sSet 7 (cC (Ye (getV 5) (Ye (getV 3) (Ye (getV 4) aNil))) Ydx))) Yi6)
@[simp] def Yex:AU:=(sSeq (sIf (b2 (getC 6) (kD .non) (isN true)) (sRet (dTup (Ye (kD (.str "storm")) (Ye (getV 6) aNil)))) sNil) Yi7)
@[simp] def Ybt:AU:=(sSeq (wF [5] (sSet 6 (cC (Ye (getV 0) (Ye (getV 5) (Ye (getV 3) (Ye (getV 4) aNil)))) Ybl))) Yex)
@[simp] def Yi8:AU:=(sSeq (Yym 5 (lF (Ybq (b1 (cC (Ye (lF (b2 (getC 3) (getC 4) catD)) aNil) Yaq) Yn) [none,some 0] (gSet 0) tY (Ya2)))) Ybt)
@[simp] def Yi9:AU:=(sSeq (sSet 4 (cC (Ye (getV 1) (Ye (getV 2) (Ye (kD (.str "storm")) aNil))) Yas)) Yi8)
def Ydp:AU:=(sSeq (sSet 3 (cC (Ye (getV 1) (Ye (getV 2) (Ye (kD (.str "keeper")) aNil))) Yas)) Yi9)
def Ybi:AR->Option D:=runB 3 8 Ydp
def Yj2(bl:Bl K w mg):Okf P w K mg base 6 3 "either_outcome" ["book","hands","start"] Ybi:=by
 refine okfn bl.f42 sc_either_outcome λhr=>?_;exact(Yi (Yv 3 sc_either_outcome.nd (Yk (Ybb bl) hr rfl (Yb (Yg 1) (Yb (Yg 2) (Yb Yz Yh))) aL3)) (Yi (Yv 4 sc_either_outcome.nd (Yk (Ybb bl) hr rfl (Yb (Yg 1) (Yb (Yg 2) (Yb Yz Yh))) aL3)) (Yi (y5x hr.units rfl 5 sc_either_outcome.nd rfl bl.Dict (Yd (Yai (Yay cs_either_outcome_0 rfl (Yae (Yk (Ybf bl) hr rfl (Yb (Yai (Yur (Yc 3) (Yc 4))) Yh) aL1)) (λ_ _ _ _ _=>(Yw 0 cs_either_outcome_0.nd)) (λ_ _ _ _ _=>Ybw) (λ_ _ _ _ _=>(Yu (Yb (Yg 0) (Yb (Yk (Yse bl) hr rfl (Yb (Yg 1) (Yb (Yg 0) Yh)) aL2) Yh)))) (Yav (i:=0) rfl))))) (Yi (Ydn [5] (Yv 6 sc_either_outcome.nd (Yk (Yms bl) hr rfl (Yb (Yg 0) (Yb (Yg 5) (Yb (Yg 3) (Yb (Yg 4) Yh)))) aL4))) (Yi (Yaj (Yer (Yc 6) (Yd Yat)) (Ym (Yo (Yu (Yb Yz (Yb (Yg 6) Yh))))) Yac) (Yi (Ydn [5] (Yv 7 sc_either_outcome.nd (Yk (Ynu bl) hr rfl (Yb (Yg 5) (Yb (Yg 3) (Yb (Yg 4) Yh))) aL3))) (Ym (Ydn [5] (Yo (Yu (Yb Yz (Yb (Yu (Yb Yz (Yb (Yag Yx Ybp rfl bl.Tuple boot_tuple (Yq (Yd (Yai (Yay cs_either_outcome_1 rfl (Yae (Yg 3)) (λ_ _ _ _ _=>(Yw 0 cs_either_outcome_1.nd)) (λ_ _ _ _ _=>Ybw) (λ_ _ _ _ _=>(Yk (Yu4 bl) hr rfl (Yb (Yg 0) (Yb (Yg 1) (Yb (Yg 2) (Yb (Yg 3) Yh)))) aL4)) (Yav (i:=0) rfl)))) Ys)) Yh))) Yh))))))))))))
def sc_replaced:FnScope ["rule","sums","whole","beacon","row"] ["rule","sums"] (defScope (top 44)):=fns
def Yf0:AU:=(sSeq (sSet 4 (b3 (getC 1) (getC 3) (dTup (Ye (getV 3) (Ye (dTup (Ye (getV 3) aNil)) (Ye (kD (.bl false)) aNil)))) Ypm)) (sSet 2 (cC (Ye (getV 2) (Ye (dTup (Ye (b2 (getC 4) (kD (.int 1)) ixD) (Ye (b2 (getC 4) (kD (.int 2)) ixD) aNil))) aNil)) Yby)))
@[simp] def Ysm:AU:=(sRet (getV 2))
@[simp] def Ysn:AU:=(sSeq (sFor (b1 (b2 (getC 0) (kD (.int 0)) ixD) Yn) (gSet 3) Yf0) Ysm)
def Yot:AU:=(sSeq (sSet 2 (dTup (Ye (dTup aNil) (Ye (kD (.bl false)) aNil)))) Ysn)
def Yfi:AR->Option D:=runB 2 5 Yot
def Yu5(bl:Bl K w mg):Okf P w K mg base 2 2 "replaced" ["rule","sums"] Yfi:=by
 refine okfn bl.f44 sc_replaced λhr=>?_;exact(Yi (Yv 2 sc_replaced.nd (Yu (Yb (Yu Yh) (Yb Ydr Yh)))) (Yi (Ybe jg rfl (Yae (Yl (Yc 0) (Yd Yj))) (Yw 3 sc_replaced.nd) (Yi (Yv 4 sc_replaced.nd (Yr9 hr.units (Yc 1) (Yc 3) (Yu (Yb (Yg 3) (Yb (Yu (Yb (Yg 3) Yh)) (Yb Ydr Yh)))) ⟨rfl,rfl,rfl,rfl⟩)) (Ym (Yv 2 sc_replaced.nd (Yk (Yi0 bl) hr rfl (Yb (Yg 2) (Yb (Yu (Yb (Yl (Yc 4) (Yd Yj)) (Yb (Yl (Yc 4) (Yd Yj)) Yh))) Yh)) aL2))))) (Ym (Yo (Yg 2)))))
def Yu6:FnScope ["beacons","beacon"] ["beacons","beacon"] (defScope (top 45)):=fns
theorem cs_ahead_of_0:CompSc ["beacons","beacon"] (defScope (top 45)) ["other","beacon"] [none,some 1] (fsc [(".0",.local),("other",.local),("beacon",.free)]):=Yad (by decide +kernel)
def Yf1:AW:=(b2 (getC 0) (getC 1) ltI)
def Yf2:AX:=(getV 0)
def You:AU:=(sRet (lF (Ybq (b1 (getV 0) Yn) [none,some 1] (gSet 0) (Yf1) (Yf2))))
def Yg7:AR->Option D:=runB 2 2 You
def Yu7(bl:Bl K w mg):Okf P w K mg base 1 2 "ahead_of" ["beacons","beacon"] Yg7:=by
 refine okfn bl.f45 Yu6 λhr=>?_;exact(Ym (Yo (Yai (Yay cs_ahead_of_0 rfl (Yae (Yg 0)) (λ_ _ _ _ _=>(Yw 0 cs_ahead_of_0.nd)) (λ_ _ _ _ _=>(Yes (Ywp (Yc 0) (Yc 1)))) (λ_ _ _ _ _=>(Yg 0)) (Yav (i:=0) rfl)))))
def sc_places_to_none:FnScope ["book","full","place","rule"] ["book","full"] (defScope (top 47)):=fns
def Ya3:AU:=(sIf (andT (b2 (b2 (getC 3) (kD (.int 1)) ixD) (kD .non) (isN false)) (b1 (cC (Ye (getV 3) (Ye (b2 (getC 1) (kD (.int 0)) ixD) aNil)) Ya1) truD)) (sRet (b2 (b2 (getC 1) (kD (.int 1)) ixD) (dTup (Ye (getV 2) aNil)) Yr5)) sNil)
def Yf9:AU:=(sSeq (sFor (b1 (b2 (getC 0) (kD (.int 1)) ixD) Yl0) (Ypg 2 3) Ya3) (sRet (kD .non)))
def Ybj:AR->Option D:=runB 2 4 Yf9
def Yj3(bl:Bl K w mg):Okf P w K mg base 2 2 "places_to_none" ["book","full"] Ybj:=by
 refine okfn bl.f47 sc_places_to_none λhr=>?_;exact(Yi (Ybe jg rfl (Yfs rfl bl.Enumerate (Yl (Yc 0) (Yd Yj))) (Ypv 2 3 rfl sc_places_to_none.nd) (Ym (Yaj (Yit (Yh4 (Yuq (Yd (Yl (Yc 3) (Yd Yj))) (Yd Yat)) (Yfr (Ybv (Yd (Yk (Yf8 bl) hr rfl (Yb (Yg 3) (Yb (Yl (Yc 1) (Yd Yj)) Yh)) aL2)))))) (Ym (Yo (Ypy (Yd (Yl (Yc 1) (Yd Yj))) (Yd (Yu (Yb (Yg 2) Yh)))))) Yac))) (Ym (Yo Yat)))
def sc_places_to_beacon:FnScope ["book","full","beacon","heads"] ["book","full","beacon"] (defScope (top 48)):=fns
theorem cs_places_to_beacon_0:CompSc ["book","full","beacon","heads"] (defScope (top 48)) ["place","book"] [none,some 0] (fsc [(".0",.local),("place",.local),("book",.free)]):=Yad (by decide +kernel)
def Yb1:AX:=(b2 (b2 (b2 (getC 1) (kD (.int 1)) ixD) (getC 0) ixD) (kD (.int 1)) ixD)
@[simp] def Yhh:AU:=(sRet (slD (b2 (getC 1) (kD (.int 1)) ixD) none (some (b2 (b2 (getC 3) (getV 2) idxD) (kD (.int 1)) addI))))
@[simp] def Yhi:AU:=(sSeq (sIf (b2 (getC 2) (getC 3) (inM true)) (sRet (kD .non)) sNil) Yhh)
def Ycr:AU:=(sSeq (sOwn 3 (Ybq (b1 (b2 (getC 1) (kD (.int 1)) ixD) Yn) [none,some 0] (gSet 0) tY (Yb1))) Yhi)
def Yau:AR->Option D:=runB 3 4 Ycr
def Yic(bl:Bl K w mg):Okf P w K mg base 1 3 "places_to_beacon" ["book","full","beacon"] Yau:=by
 refine okfn bl.f48 sc_places_to_beacon λhr=>?_;exact(Yi (Yg2 3 sc_places_to_beacon.nd cs_places_to_beacon_0 rfl (Yae (Yl (Yc 1) (Yd Yj))) (λ_ _ _ _ _=>(Yw 0 cs_places_to_beacon_0.nd)) (λ_ _ _ _ _=>Ybw) (λ_ _ _ _ _=>(Yl (Yd (Yl (Yd (Yl (Yc 1) (Yd Yj))) (Yc 0))) (Yd Yj))) (Yav (i:=0) rfl)) (Yi (Yaj (y1q hr.units (Yc 2) (Yc 3)) (Ym (Yo Yat)) Yac) (Ym (Yo (Yis (fl:=none) (fh:=(some (b2 (b2 (getC 3) (getV 2) idxD) (kD (.int 1)) addI))) (Yd (Yl (Yc 1) (Yd Yj))) Yr6 (Yr7 (Yd (Yc4 (Yd (y19 (Yc 3) (Yg 2))) (Yd Yj)))))))))
def Yy2:FnScope ["beacons","known"] ["beacons","known"] (defScope (top 49)):=fns
theorem cs_some_of_0:CompSc ["beacons","known"] (defScope (top 49)) ["beacon","known"] [none,some 1] (fsc [(".0",.local),("beacon",.local),("known",.free)]):=Yad (by decide +kernel)
def Ygr:AW:=(b2 (getC 0) (getC 1) (inM false))
def Ygs:AX:=(getV 0)
def Yso:AU:=(sRet (cC (Ye (lF (Ybq (b1 (getV 0) Yn) [none,some 1] (gSet 0) (Ygr) (Ygs))) aNil) tupC))
def Ygt:AR->Option D:=runB 2 2 Yso
def Yov(bl:Bl K w mg):Okf P w K mg base 1 2 "some_of" ["beacons","known"] Ygt:=by
 refine okfn bl.f49 Yy2 λhr=>?_;exact(Ym (Yo (Yag Yx Ybp rfl bl.Tuple boot_tuple (Yq (Yd (Yai (Yay cs_some_of_0 rfl (Yae (Yg 0)) (λ_ _ _ _ _=>(Yw 0 cs_some_of_0.nd)) (λ_ _ _ _ _=>(Yes (y1p hr.units (Yc 0) (Yc 1)))) (λ_ _ _ _ _=>(Yg 0)) (Yav (i:=0) rfl)))) Ys))))
def Ymv:FnScope ["beacon","storms","first"] ["beacon","storms","first"] (defScope (top 50)):=fns
def Yhr:AU:=(sRet (lF (b2 (lF (cF (Ye (cC (Ye (getV 1) (Ye (getV 0) aNil)) Yi3) aNil) Yrl)) (cC (Ye (getV 2) (Ye (getV 0) aNil)) Yg7) catD)))
def Ydd:AR->Option D:=runB 3 3 Yhr
def Ymw(bl:Bl K w mg):Okf P w K mg base 2 3 "facts_beside" ["beacon","storms","first"] Ydd:=by
 refine okfn bl.f50 Ymv λhr=>?_;exact(Ym (Yo (Yai (Yur (Yd (Yai (Yd2 Yeo Yk6 rfl bl.List boot_list (Yq (Yd (Yk (Yy0 bl) hr rfl (Yb (Yg 1) (Yb (Yg 0) Yh)) aL2)) Ys)))) (Yd (Yk (Yu7 bl) hr rfl (Yb (Yg 2) (Yb (Yg 0) Yh)) aL2))))))
def sc_if_outcome:FnScope ["book","hands","start","keepers","storms","whole","places","first","rows","beacon","full"] ["book","hands","start"] (defScope (top 51)):=fns
def Ycs:AU:=(sSeq (sSet 10 (cC (Ye (getV 0) (Ye (cC (Ye (getV 9) (Ye (getV 4) (Ye (getV 7) aNil))) Ydd) aNil)) Yar)) (sSeq (sSet 6 (cC (Ye (getV 0) (Ye (getV 10) (Ye (getV 9) aNil))) Yau)) (sSeq (sIf (b2 (getC 6) (kD .non) (isN true)) (sRet (dTup (Ye (kD (.str "storm")) (Ye (dTup (Ye (kD (.str "lone")) (Ye (getV 9) (Ye (b2 (getC 5) (kD (.int 1)) ixD) (Ye (getV 6) aNil))))) aNil)))) sNil) (sMut 8 (dTup (Ye (getV 9) (Ye (cC (Ye (getV 3) (Ye (b2 (getC 10) (kD (.int 0)) ixD) aNil)) Ygt) aNil))) appD))))
@[simp] def Ynv:AU:=(sRet (dTup (Ye (kD (.str "keeper")) (Ye (dTup (Ye (kD (.str "rows")) (Ye (getV 7) (Ye (cC (Ye (getC 8) aNil) tupC) aNil)))) aNil))))
@[simp] def Ye7:AU:=(sSeq (sFor (b1 (getV 4) Yn) (gSet 9) Ycs) Ynv)
@[simp] def Ynw:AU:=(sSeq (sOwn 8 (dLst aNil)) Ye7)
@[simp] def Ynx:AU:=(sSeq (sSet 7 (cC (Ye (getV 3) (Ye (b2 (getC 5) (kD (.int 0)) ixD) aNil)) Ygt)) Ynw)
@[simp] def Yny:AU:=(sSeq (sIf (b2 (getC 6) (kD .non) (isN true)) (sRet (dTup (Ye (kD (.str "storm")) (Ye (dTup (Ye (kD (.str "lone")) (Ye (kD .non) (Ye (dTup aNil) (Ye (getV 6) aNil))))) aNil)))) sNil) Ynx)
@[simp] def Ynz:AU:=(sSeq (sSet 6 (cC (Ye (getV 0) (Ye (getV 5) aNil)) Ybj)) Yny)
@[simp] def Yn0:AU:=(sSeq (sSet 5 (cC (Ye (getV 0) (Ye (getV 4) aNil)) Yar)) Ynz)
@[simp] def Yn1:AU:=(sSeq (sSet 4 (cC (Ye (getV 1) (Ye (getV 2) (Ye (kD (.str "storm")) aNil))) Yas)) Yn0)
def Yey:AU:=(sSeq (sSet 3 (cC (Ye (getV 1) (Ye (getV 2) (Ye (kD (.str "keeper")) aNil))) Yas)) Yn1)
def Yb2:AR->Option D:=runB 3 11 Yey
def Yja(bl:Bl K w mg):Okf P w K mg base 5 3 "if_outcome" ["book","hands","start"] Yb2:=by
 refine okfn bl.f51 sc_if_outcome λhr=>?_;exact(Yi (Yv 3 sc_if_outcome.nd (Yk (Ybb bl) hr rfl (Yb (Yg 1) (Yb (Yg 2) (Yb Yz Yh))) aL3)) (Yi (Yv 4 sc_if_outcome.nd (Yk (Ybb bl) hr rfl (Yb (Yg 1) (Yb (Yg 2) (Yb Yz Yh))) aL3)) (Yi (Yv 5 sc_if_outcome.nd (Yk (Yew bl) hr rfl (Yb (Yg 0) (Yb (Yg 4) Yh)) aL2)) (Yi (Yv 6 sc_if_outcome.nd (Yk (Yj3 bl) hr rfl (Yb (Yg 0) (Yb (Yg 5) Yh)) aL2)) (Yi (Yaj (Yer (Yc 6) (Yd Yat)) (Ym (Yo (Yu (Yb Yz (Yb (Yu (Yb Yz (Yb Yat (Yb (Yu Yh) (Yb (Yg 6) Yh))))) Yh))))) Yac) (Yi (Yv 7 sc_if_outcome.nd (Yk (Yov bl) hr rfl (Yb (Yg 3) (Yb (Yl (Yc 5) (Yd Yj)) Yh)) aL2)) (Yi (Ye2 8 sc_if_outcome.nd (Ycm Yh)) (Yi (Ybe jg rfl (Yae (Yg 4)) (Yw 9 sc_if_outcome.nd) (Yi (Yv 10 sc_if_outcome.nd (Yk (Yew bl) hr rfl (Yb (Yg 0) (Yb (Yk (Ymw bl) hr rfl (Yb (Yg 9) (Yb (Yg 4) (Yb (Yg 7) Yh))) aL3) Yh)) aL2)) (Yi (Yv 6 sc_if_outcome.nd (Yk (Yic bl) hr rfl (Yb (Yg 0) (Yb (Yg 10) (Yb (Yg 9) Yh))) aL3)) (Yi (Yaj (Yer (Yc 6) (Yd Yat)) (Ym (Yo (Yu (Yb Yz (Yb (Yu (Yb Yz (Yb (Yg 9) (Yb (Yl (Yc 5) (Yd Yj)) (Yb (Yg 6) Yh))))) Yh))))) Yac) (Ym (Yd3 8 (Yu (Yb (Yg 9) (Yb (Yk (Yov bl) hr rfl (Yb (Yg 3) (Yb (Yl (Yc 10) (Yd Yj)) Yh)) aL2) Yh))))))))) (Ym (Yo (Yu (Yb Yz (Yb (Yu (Yb Yz (Yb (Yg 7) (Yb (Yag Yx Ybp rfl bl.Tuple boot_tuple (Yq (Yc 8) Ys)) Yh)))) Yh)))))))))))))
def Yn2:FnScope ["pair"] ["pair"] (defScope (top 53)):=fns
def Yjb:AU:=(sRet (b2 (b2 (b2 (getC 0) (kD (.int 1)) ixD) (kD (.int 0)) ixD) (b1 (kD (.int 1)) negI) ixD))
def Yct:AR->Option D:=runB 1 1 Yjb
def Yhs(bl:Bl K w mg):Okf P w K mg base 1 1 "last_beacon" ["pair"] Yct:=by
 refine okfn bl.f53 Yn2 λhr=>?_;exact(Ym (Yo (Yl (Yd (Yl (Yd (Yl (Yc 0) (Yd Yj))) (Yd Yj))) (Yd (Ymd (Yd Yj))))))
def sc_storms_places:FnScope ["pairs","void","storms","lost"] ["pairs","void","storms"] (defScope (top 54)):=fns
theorem cs_storms_places_0:CompSc ["pairs","void","storms","lost"] (defScope (top 54)) ["pair","storms"] [none,some 2] (fsc [(".0",.local),("pair",.local),("last_beacon",.globalImplicit),("storms",.free)]):=Yad (by decide +kernel)
def Ycu:AW:=(b2 (cC (Ye (getV 0) aNil) Yct) (getC 1) (inM false))
def Ycv:AX:=(b2 (getC 0) (kD (.int 0)) ixD)
@[simp] def Yj4:AU:=(sRet (ifV (b1 (getC 3) truD) (b2 (getC 3) (kD (.int 0)) ixD) (kD .non)))
@[simp] def Yj5:AU:=(sSeq (sOwn 3 (Ybq (b1 (getV 0) Yn) [none,some 2] (gSet 0) (Ycu) (Ycv))) Yj4)
def Ycw:AU:=(sSeq (sIf (b2 (getC 1) (kD .non) (isN true)) (sRet (getV 1)) sNil) Yj5)
def Ybc:AR->Option D:=runB 3 4 Ycw
def Ykv(bl:Bl K w mg):Okf P w K mg base 2 3 "storms_places" ["pairs","void","storms"] Ybc:=by
 refine okfn bl.f54 sc_storms_places λhr=>?_;exact(Yi (Yaj (Yer (Yc 1) (Yd Yat)) (Ym (Yo (Yg 1))) Yac) (Yi (Yg2 3 sc_storms_places.nd cs_storms_places_0 rfl (Yae (Yg 0)) (λ_ _ _ _ _=>(Yw 0 cs_storms_places_0.nd)) (λ_ _ _ _ _=>(Yes (y1p hr.units (Yd (Yk (Yhs bl) hr rfl (Yb (Yg 0) Yh) aL1)) (Yc 1)))) (λ_ _ _ _ _=>(Yl (Yc 0) (Yd Yj))) (Yav (i:=0) rfl)) (Ym (Yo (Ywr (Ybv (Yc 3)) (Yl (Yc 3) (Yd Yj)) Yat)))))
def sc_sum_rows:FnScope ["pairs","keepers","rules","rows","keeper","rule","rest"] ["pairs","keepers"] (defScope (top 55)):=fns
theorem cs_sum_rows_0:CompSc ["pairs","keepers","rules","rows","keeper","rule","rest"] (defScope (top 55)) ["pair"] [none] (fsc [(".0",.local),("pair",.local),("last_beacon",.globalImplicit)]):=Yad (by decide +kernel)
theorem cs_sum_rows_1:CompSc ["pairs","keepers","rules","rows","keeper","rule","rest"] (defScope (top 55)) ["keeper","rows"] [none,some 3] (fsc [(".0",.local),("keeper",.local),("rows",.free)]):=Yad (by decide +kernel)
def Ycx:AX:=(dTup (Ye (cC (Ye (getV 0) aNil) Yct) (Ye (b2 (getC 0) (kD (.int 1)) ixD) aNil)))
def Ydz:AU:=(sSeq (sSet 5 (b3 (getC 2) (getC 4) (dTup (Ye (dTup (Ye (getV 4) aNil)) (Ye (kD (.bl false)) aNil))) Ypm)) (sSeq (sSet 6 (Ynh [3] (cC (Ye (dTup (Ye (slD (b2 (getC 5) (kD (.int 0)) ixD) none (some (b1 (kD (.int 1)) negI))) (Ye (kD (.bl false)) aNil))) (Ye (getV 3) aNil)) Yfi))) (Yui 3 (getC 4) (dTup (Ye (getV 4) (Ye (b2 (getC 6) (kD (.int 0)) ixD) (Ye (mB (b2 (b2 (getC 6) (kD (.int 1)) ixD) (b2 (getC 5) (kD (.int 1)) ixD) (eqM true))) aNil)))))))
def Yf3:AX:=(b2 (getC 1) (getC 0) getI)
@[simp] def Ygu:AU:=(wF [3] (sRet (cC (Ye (lF (Ybq (b1 (getV 1) Yn) [none,some 3] (gSet 0) tY (Yf3))) aNil) tupC)))
@[simp] def Ysp:AU:=(sSeq (sFor (b1 (getV 1) Yn) (gSet 4) Ydz) Ygu)
@[simp] def Ysq:AU:=(sSeq (Yug 3) Ysp)
def Yow:AU:=(sSeq (sDct 2 (lF (Ybq (b1 (getV 0) Yn) [none] (gSet 0) tY (Ycx)))) Ysq)
def Yg8:AR->Option D:=runB 2 7 Yow
def Yu8(bl:Bl K w mg):Okf P w K mg base 3 2 "sum_rows" ["pairs","keepers"] Yg8:=by
 refine okfn bl.f55 sc_sum_rows λhr=>?_;exact(Yi (y1z rfl 2 sc_sum_rows.nd rfl bl.Dict (Yd (Yai (Yay cs_sum_rows_0 rfl (Yae (Yg 0)) (λ_ _ _ _ _=>(Yw 0 cs_sum_rows_0.nd)) (λ_ _ _ _ _=>Ybw) (λ_ _ _ _ _=>(Yu (Yb (Yk (Yhs bl) hr rfl (Yb (Yg 0) Yh) aL1) (Yb (Yl (Yc 0) (Yd Yj)) Yh)))) (Yav (i:=0) rfl))))) (Yi (Ypw 3 sc_sum_rows.nd) (Yi (Ybe jg rfl (Yae (Yg 1)) (Yw 4 sc_sum_rows.nd) (Yi (Yv 5 sc_sum_rows.nd (Yr9 hr.units (Yc 2) (Yc 4) (Yu (Yb (Yu (Yb (Yg 4) Yh)) (Yb Ydr Yh))) ⟨rfl,rfl,rfl,rfl⟩)) (Yi (Yv 6 sc_sum_rows.nd (Yr8 [3] (Yk (Yu5 bl) hr rfl (Yb (Yu (Yb (Yis (fl:=none) (fh:=(some (b1 (kD (.int 1)) negI))) (Yd (Yl (Yc 5) (Yd Yj))) Yr6 (Yr7 (Yd (Ymd (Yd Yj))))) (Yb Ydr Yh))) (Yb (Yg 3) Yh)) aL2))) (Ym (Ypx hr.units 3 (Yc 4) (Yu (Yb (Yg 4) (Yb (Yl (Yc 6) (Yd Yj)) (Yb (Ywq hr.units (Yd (Yl (Yc 6) (Yd Yj))) (Yd (Yl (Yc 5) (Yd Yj)))) Yh))))))))) (Ym (Ydn [3] (Yo (Yag Yx Ybp rfl bl.Tuple boot_tuple (Yq (Yd (Yai (Yay cs_sum_rows_1 rfl (Yae (Yg 1)) (λ_ _ _ _ _=>(Yw 0 cs_sum_rows_1.nd)) (λ_ _ _ _ _=>Ybw) (λ_ _ _ _ _=>(Ylb hr.units (Yc 1) (Yc 0))) (Yav (i:=0) rfl)))) Ys))))))))
def sc_sum_outcome:FnScope ["book","hands","start","keepers","storms","answer","places"] ["book","hands","start"] (defScope (top 56)):=fns
@[simp] def Ymx:AU:=(sRet (dTup (Ye (kD (.str "keeper")) (Ye (dTup (Ye (kD (.str "sums")) (Ye (cC (Ye (b2 (getC 5) (kD (.int 0)) ixD) (Ye (getV 3) aNil)) Yg8) aNil))) aNil))))
@[simp] def Ymy:AU:=(sSeq (sIf (b2 (getC 6) (kD .non) (isN true)) (sRet (dTup (Ye (kD (.str "storm")) (Ye (dTup (Ye (kD (.str "odd")) (Ye (getV 6) aNil))) aNil)))) sNil) Ymx)
@[simp] def Ymz:AU:=(sSeq (sSet 6 (cC (Ye (b2 (getC 5) (kD (.int 0)) ixD) (Ye (b2 (getC 5) (kD (.int 1)) ixD) (Ye (getV 4) aNil))) Ybc)) Ymy)
@[simp] def Ym0:AU:=(sSeq (sSet 5 (cC (Ye (getV 0) aNil) Ygm)) Ymz)
@[simp] def Ym1:AU:=(sSeq (sSet 4 (cC (Ye (getV 1) (Ye (getV 2) (Ye (kD (.str "storm")) aNil))) Yas)) Ym0)
def Yf4:AU:=(sSeq (sSet 3 (cC (Ye (getV 1) (Ye (getV 2) (Ye (kD (.str "keeper")) aNil))) Yas)) Ym1)
def Yb3:AR->Option D:=runB 3 7 Yf4
def Yn3(bl:Bl K w mg):Okf P w K mg base 5 3 "sum_outcome" ["book","hands","start"] Yb3:=by
 refine okfn bl.f56 sc_sum_outcome λhr=>?_;exact(Yi (Yv 3 sc_sum_outcome.nd (Yk (Ybb bl) hr rfl (Yb (Yg 1) (Yb (Yg 2) (Yb Yz Yh))) aL3)) (Yi (Yv 4 sc_sum_outcome.nd (Yk (Ybb bl) hr rfl (Yb (Yg 1) (Yb (Yg 2) (Yb Yz Yh))) aL3)) (Yi (Yv 5 sc_sum_outcome.nd (Yk (Yyw bl) hr rfl (Yb (Yg 0) Yh) aL1)) (Yi (Yv 6 sc_sum_outcome.nd (Yk (Ykv bl) hr rfl (Yb (Yl (Yc 5) (Yd Yj)) (Yb (Yl (Yc 5) (Yd Yj)) (Yb (Yg 4) Yh))) aL3)) (Yi (Yaj (Yer (Yc 6) (Yd Yat)) (Ym (Yo (Yu (Yb Yz (Yb (Yu (Yb Yz (Yb (Yg 6) Yh))) Yh))))) Yac) (Ym (Yo (Yu (Yb Yz (Yb (Yu (Yb Yz (Yb (Yk (Yu8 bl) hr rfl (Yb (Yl (Yc 5) (Yd Yj)) (Yb (Yg 3) Yh)) aL2) Yh))) Yh))))))))))
def Yy3:FnScope ["book","hands","start"] ["book","hands","start"] (defScope (top 58)):=fns
@[simp] def Yu9:AU:=(sRet (cC (Ye (getV 0) (Ye (getV 1) (Ye (getV 2) aNil))) Yb2))
@[simp] def Yva:AU:=(sSeq (sIf (b2 (b2 (getC 0) (kD (.int 0)) ixD) (kD (.str "nots")) (eqM false)) (sRet (cC (Ye (cC (Ye (getV 0) aNil) Yeg) (Ye (getV 1) (Ye (getV 2) aNil))) Yb2)) sNil) Yu9)
@[simp] def Yvb:AU:=(sSeq (sIf (b2 (b2 (getC 0) (kD (.int 0)) ixD) (kD (.str "sums")) (eqM false)) (sRet (cC (Ye (getV 0) (Ye (getV 1) (Ye (getV 2) aNil))) Yb3)) sNil) Yva)
def Yem:AU:=(sSeq (sIf (b2 (b2 (getC 0) (kD (.int 0)) ixD) (kD (.str "eithers")) (eqM false)) (sRet (cC (Ye (getV 0) (Ye (getV 1) (Ye (getV 2) aNil))) Ybi)) sNil) Yvb)
def Yjc:AR->Option D:=runB 3 3 Yem
def Yy4(bl:Bl K w mg):Okf P w K mg base 7 3 "outcome" ["book","hands","start"] Yjc:=by
 refine Yaf8 bl.f58 Yy3 λhr=>?_;exact(Yi (Yaj (Yds hr.units (Yd (Yl (Yc 0) (Yd Yj))) (Yd Yz)) (Ym (Yo (Yk (Yj2 bl) hr rfl (Yb (Yg 0) (Yb (Yg 1) (Yb (Yg 2) Yh))) aL3))) Yac) (Yi (Yaj (Yds hr.units (Yd (Yl (Yc 0) (Yd Yj))) (Yd Yz)) (Ym (Yo (Yk (Yn3 bl) hr rfl (Yb (Yg 0) (Yb (Yg 1) (Yb (Yg 2) Yh))) aL3))) Yac) (Yi (Yaj (Yds hr.units (Yd (Yl (Yc 0) (Yd Yj))) (Yd Yz)) (Ym (Yo (Yk (Yja bl) hr rfl (Yb (Yk (Ysf bl) hr rfl (Yb (Yg 0) Yh) aL1) (Yb (Yg 1) (Yb (Yg 2) Yh))) aL3))) Yac) (Ym (Yo (Yk (Yja bl) hr rfl (Yb (Yg 0) (Yb (Yg 1) (Yb (Yg 2) Yh))) aL3))))))
def Yvc:FnScope ["script","k"] ["script","k"] (defScope (top 60)):=fns
def Yj6:AU:=(sSeq (sIf (b2 (getC 1) (cC (Ye (getC 0) aNil) lenC) ltI) (sRet (b2 (getC 0) (getC 1) ixD)) sNil) (sRet (kD (.int 0))))
def Ybm:AR->Option D:=runB 2 2 Yj6
def Yc9(bl:Bl K w mg):Okf P w K mg base 1 2 "_law_cell" ["script","k"] Ybm:=by
 refine okfn bl.f60 Yvc λhr=>?_;exact(Yi (Yaj (Ywp (Yc 1) (Yd (Yao Yak Yc0 rfl bl.Len PySem.boot_len (Yq (Yc 0) Ys)))) (Ym (Yo (Yl (Yc 0) (Yc 1)))) Yac) (Ym (Yo Yj)))
def Ysr:FnScope ["cell","by"] ["cell","by"] (defScope (top 61)):=fns
def Ym2:AU:=(sRet (b2 (b2 (b2 (getC 0) (kD (.int 2305843009213693951)) modI) (getC 1) mulI) (kD (.int 2305843009213693951)) modI))
def Yda:AR->Option D:=runB 2 2 Ym2
def Ygv(bl:Bl K w mg):Okf P w K mg base 1 2 "_law_mixed" ["cell","by"] Yda:=by
 refine okfn bl.f61 Ysr λhr=>?_;exact(Ym (Yo (Yba (Yd (y1o (Yd (Yba (Yc 0) (Yd Yj))) (Yc 1))) (Yd Yj))))
def sc_law_hands:FnScope ["cell","many","left"] ["cell","many"] (defScope (top 62)):=fns
theorem cs_law_hands_0:CompSc ["cell","many","left"] (defScope (top 62)) ["k","left"] [none,some 2] (fsc [(".0",.local),("k",.local),("left",.free)]):=Yad (by decide +kernel)
def Yde:AX:=(b2 (lF (dLst (Ye (kD (.str "keeper")) (Ye (kD (.str "storm")) aNil)))) (b2 (b2 (getC 1) (getC 0) shrI) (kD (.int 2)) modI) ixD)
def Ym3:AU:=(sSeq (sSet 2 (cC (Ye (getV 0) (Ye (kD (.int 1442695040888963407)) aNil)) Yda)) (sRet (cC (Ye (lF (Ybq (cF (Ye (getV 1) aNil) rng1) [none,some 2] (gSet 0) tY (Yde))) aNil) tupC)))
def Yf5:AR->Option D:=runB 2 3 Ym3
def Yss(bl:Bl K w mg):Okf P w K mg base 2 2 "_law_hands" ["cell","many"] Yf5:=by
 refine okfn bl.f62 sc_law_hands λhr=>?_;exact(Yi (Yv 2 sc_law_hands.nd (Yk (Ygv bl) hr rfl (Yb (Yg 0) (Yb Yj Yh)) aL2)) (Ym (Yo (Yag Yx Ybp rfl bl.Tuple boot_tuple (Yq (Yd (Yai (Yay cs_law_hands_0 rfl (Yff rfl bl.Range (Yb (Yg 1) Yh)) (λ_ _ _ _ _=>(Yw 0 cs_law_hands_0.nd)) (λ_ _ _ _ _=>Ybw) (λ_ _ _ _ _=>(Yl (Yd (Yai (Ycm (Yb Yz (Yb Yz Yh))))) (Yd (Yba (Yd (y1y (Yc 1) (Yc 0))) (Yd Yj))))) (Yav (i:=0) rfl)))) Ys)))))
def sc_law_rule:FnScope ["kind","cell","start","many","left","size","picked","k"] ["kind","cell","start","many"] (defScope (top 64)):=fns
theorem cs_law_rule_0:CompSc ["kind","cell","start","many","left","size","picked","k"] (defScope (top 64)) ["k","picked","left"] [none,some 6,some 4] (fsc [(".0",.local),("k",.local),("left",.free),("picked",.free)]):=Yad (by decide +kernel)
def Ycy:AU:=(sSeq (sIf (b2 (b2 (getC 2) (b2 (getC 4) (b2 (getC 3) (getC 2) subI) modI) addI) (getC 6) (inM true)) (sMut 6 (b2 (getC 2) (b2 (getC 4) (b2 (getC 3) (getC 2) subI) modI) addI) appD) sNil) (sSet 4 (b2 (getC 4) (b2 (getC 3) (getC 2) subI) divI)))
def Yd0:AX:=(dTup (Ye (b2 (getC 1) (getC 0) ixD) (Ye (mB (b2 (b2 (b2 (getC 2) (getC 0) shrI) (kD (.int 2)) modI) (kD (.int 1)) (eqM false))) aNil)))
@[simp] def Yqc:AU:=(sRet (dTup (Ye (cC (Ye (lF (cF (Ye (getC 6) aNil) Ykl)) aNil) tupC) (Ye (b2 (getC 2) (b2 (b2 (getC 4) (kD (.int 4)) divI) (b2 (getC 3) (getC 2) subI) modI) addI) aNil))))
@[simp] def Yst:AU:=(sSeq (sIf (b2 (b2 (getC 4) (kD (.int 4)) modI) (kD (.int 1)) (eqM false)) (sOwn 6 (slF (getC 6) (some (kD (.int 1))) none)) sNil) Yqc)
@[simp] def Ysu:AU:=(sSeq (sIf (b2 (b2 (getC 4) (kD (.int 4)) modI) (kD (.int 0)) (eqM false)) (sRet (dTup (Ye (cC (Ye (lF (cF (Ye (getC 6) aNil) Ykl)) aNil) tupC) (Ye (kD .non) aNil)))) sNil) Yst)
@[simp] def Ysv:AU:=(sSeq (sIf (b2 (getC 0) (kD (.str "sums")) (eqM false)) (sRet (dTup (Ye (cC (Ye (lF (cF (Ye (getC 6) aNil) Ykl)) aNil) tupC) (Ye (mB (b2 (b2 (getC 4) (kD (.int 2)) modI) (kD (.int 1)) (eqM false))) aNil)))) sNil) Ysu)
@[simp] def Ysw:AU:=(sSeq (sIf (b2 (getC 0) (kD (.str "eithers")) (eqM false)) (wF [6] (sRet (cC (Ye (lF (cF (Ye (lF (Ybq (cF (Ye (cC (Ye (getC 6) aNil) lenC) aNil) rng1) [none,some 6,some 4] (gSet 0) tY (Yd0))) aNil) Ykl)) aNil) tupC))) sNil) Ysv)
@[simp] def Ysx:AU:=(sSeq (sFor (cF (Ye (getV 5) aNil) rng1) (gSet 7) Ycy) Ysw)
@[simp] def Ysy:AU:=(sSeq (sOwn 6 (dLst aNil)) Ysx)
@[simp] def Ysz:AU:=(sSeq (sSet 4 (b2 (getC 4) (kD (.int 8)) divI)) Ysy)
@[simp] def Ys0:AU:=(sSeq (sIf (b2 (getC 0) (kD (.str "eithers")) (eqM false)) (sSet 5 (cC (Ye (getC 5) (Ye (kD (.int 2)) aNil)) minC)) sNil) Ysz)
@[simp] def Ys1:AU:=(sSeq (sSet 5 (b2 (lF (Yrv [1,2,2,2,1,2,3,4])) (b2 (getC 4) (kD (.int 8)) modI) ixD)) Ys0)
def Yd5:AU:=(sSeq (sSet 4 (cC (Ye (getV 1) (Ye (kD (.int 1181783497276652981)) aNil)) Yda)) Ys1)
def Yfj:AR->Option D:=runB 4 8 Yd5
theorem Ym4(bl:Bl K w mg):Okf P w K mg base 2 4 "_law_rule" ["kind","cell","start","many"] Yfj:=by
 refine okfn bl.f64 sc_law_rule λhr=>?_;exact(Yi (Yv 4 sc_law_rule.nd (Yk (Ygv bl) hr rfl (Yb (Yg 1) (Yb Yj Yh)) aL2)) (Yi (y5n _ _ _ _ _ _ 5 _ _ _ [1,2,2,2,1,2,3,4] sc_law_rule.nd (by decide +kernel) rfl (by trivial) (by trivial) (by intro _ _;rfl) (Yd (Yba (Yc 4) (Yd Yj)))) (Yi (Yaj (Yds hr.units (Yc 0) (Yd Yz)) (Ym (Yv 5 sc_law_rule.nd (Yao (Yq3 rfl) y1e rfl bl.Min boot_min (Yq (Yc 5) (Yq (Yd Yj) Ys))))) Yac) (Yi (Yv 4 sc_law_rule.nd (Yfq (Yc 4) (Yd Yj))) (Yi (Ye2 6 sc_law_rule.nd (Ycm Yh)) (Yi (Ybe jg rfl (Yff rfl bl.Range (Yb (Yg 5) Yh)) (Yw 7 sc_law_rule.nd) (Yi (Yaj (y1q hr.units (Yd (Yc4 (Yc 2) (Yd (Yba (Yc 4) (Yd (Ymb (Yc 3) (Yc 2))))))) (Yc 6)) (Ym (Yd3 6 (Yc4 (Yc 2) (Yd (Yba (Yc 4) (Yd (Ymb (Yc 3) (Yc 2)))))))) Yac) (Ym (Yv 4 sc_law_rule.nd (Yfq (Yc 4) (Yd (Ymb (Yc 3) (Yc 2)))))))) (Yi (Yaj (Yds hr.units (Yc 0) (Yd Yz)) (Ym (Ydn [6] (Yo (Yag Yx Ybp rfl bl.Tuple boot_tuple (Yq (Yd (Yai (Yed Ydf Yeb rfl bl.Sorted boot_sorted (Yq (Yd (Yai (Yay cs_law_rule_0 rfl (Yff rfl bl.Range (Yb (Yao Yak Yc0 rfl bl.Len PySem.boot_len (Yq (Yc 6) Ys)) Yh)) (λ_ _ _ _ _=>(Yw 0 cs_law_rule_0.nd)) (λ_ _ _ _ _=>Ybw) (λ_ _ _ _ _=>(Yu (Yb (Yl (Yc 1) (Yc 0)) (Yb (Yhm hr.units (Yd (Yba (Yd (y1y (Yc 2) (Yc 0))) (Yd Yj))) (Yd Yj)) Yh)))) (Yav (i:=0) rfl)))) Ys)))) Ys))))) Yac) (Yi (Yaj (Yds hr.units (Yc 0) (Yd Yz)) (Ym (Yo (Yu (Yb (Yag Yx Ybp rfl bl.Tuple boot_tuple (Yq (Yd (Yai (Yed Ydf Yeb rfl bl.Sorted boot_sorted (Yq (Yc 6) Ys)))) Ys)) (Yb (Yhm hr.units (Yd (Yba (Yc 4) (Yd Yj))) (Yd Yj)) Yh))))) Yac) (Yi (Yaj (Yds hr.units (Yd (Yba (Yc 4) (Yd Yj))) (Yd Yj)) (Ym (Yo (Yu (Yb (Yag Yx Ybp rfl bl.Tuple boot_tuple (Yq (Yd (Yai (Yed Ydf Yeb rfl bl.Sorted boot_sorted (Yq (Yc 6) Ys)))) Ys)) (Yb Yat Yh))))) Yac) (Yi (Yaj (Yds hr.units (Yd (Yba (Yc 4) (Yd Yj))) (Yd Yj)) (Ym (Ye2 6 sc_law_rule.nd (y1t (fl:=(some (kD (.int 1)))) (fh:=none) (Yc 6) (Yr7 (Yd Yj)) Yr6))) Yac) (Ym (Yo (Yu (Yb (Yag Yx Ybp rfl bl.Tuple boot_tuple (Yq (Yd (Yai (Yed Ydf Yeb rfl bl.Sorted boot_sorted (Yq (Yc 6) Ys)))) Ys)) (Yb (Yc4 (Yc 2) (Yd (Yba (Yd (Yfq (Yc 4) (Yd Yj))) (Yd (Ymb (Yc 3) (Yc 2)))))) Yh)))))))))))))))
def sc_law_hand:FnScope ["book","hands","start","found"] ["book","hands","start"] (defScope (top 65)):=fns
@[simp] def Ys2:AU:=(sRet (b2 (getC 3) (kD (.int 0)) ixD))
@[simp] def Ys3:AU:=(sSeq (sIf (orT (notT (b1 (mB (b1 (getC 3) (isiD "tuple"))) truD)) (b2 (cC (Ye (getC 3) aNil) lenC) (kD (.int 2)) (eqM true))) (sRet (kD (.str "nobody"))) sNil) Ys2)
def Yox:AU:=(sSeq (sSet 3 (cC (Ye (getV 0) (Ye (getV 1) (Ye (getV 2) aNil))) Yjc)) Ys3)
def Yb4:AR->Option D:=runB 3 4 Yox
def Yid(bl:Bl K w mg):Okf P w K mg base 8 3 "_law_hand" ["book","hands","start"] Yb4:=by
 refine okfn bl.f65 sc_law_hand λhr=>?_;exact(Yi (Yv 3 sc_law_hand.nd (Yk (Yy4 bl) hr rfl (Yb (Yg 0) (Yb (Yg 1) (Yb (Yg 2) Yh))) aL3)) (Yi (Yaj (Yit (y7c (Yup (Ybv (Yd (y9w (Yc 3) rfl rfl bl.Isinstance bl.Tuple boot_tuple (y0m))))) (y1r (Ymc hr.units (Yd (Yao Yak Yc0 rfl bl.Len PySem.boot_len (Yq (Yc 3) Ys))) (Yd Yj))))) (Ym (Yo Yz)) Yac) (Ym (Yo (Yl (Yc 3) (Yd Yj))))))
def Yqd:FnScope ["hands","beacon","hand"] ["hands","beacon","hand"] (defScope (top 66)):=fns
def Yki:AU:=(sRet (b2 (b2 (slD (getC 0) none (some (getC 1))) (dTup (Ye (getV 2) aNil)) Yr5) (slD (getC 0) (some (b2 (getC 1) (kD (.int 1)) addI)) none) Yr5))
def Yez:AR->Option D:=runB 3 3 Yki
def Yqe(bl:Bl K w mg):Okf P w K mg base 1 3 "_law_handed" ["hands","beacon","hand"] Yez:=by
 refine okfn bl.f66 Yqd λhr=>?_;exact(Ym (Yo (Ypy (Yd (Ypy (Yd (Yis (fl:=none) (fh:=(some (getC 1))) (Yc 0) Yr6 (Yr7 (Yc 1)))) (Yd (Yu (Yb (Yg 2) Yh))))) (Yd (Yis (fl:=(some (b2 (getC 1) (kD (.int 1)) addI))) (fh:=none) (Yc 0) (Yr7 (Yd (Yc4 (Yc 1) (Yd Yj)))) Yr6)))))
def sc_law_kept:FnScope ["kind","rules","hands","start","pick","more","hand","beacon","others"] ["kind","rules","hands","start","pick","more"] (defScope (top 67)):=fns
@[simp] def Ys4:AU:=(sRet (mB (b2 (cC (Ye (dTup (Ye (getV 0) (Ye (cC (Ye (getC 8) aNil) tupC) aNil))) (Ye (getV 2) (Ye (getV 3) aNil))) Yb4) (getC 6) (eqM false))))
@[simp] def Ys5:AU:=(sSeq (sIf (b2 (getC 6) (kD (.str "storm")) (eqM false)) (y0t 8 (b2 (b2 (getC 4) (kD (.int 4096)) divI) (b2 (cC (Ye (getC 1) aNil) lenC) (kD (.int 1)) addI) modI) (getV 5) insD) (sIf (b2 (cC (Ye (getC 1) aNil) lenC) (kD (.int 0)) gtI) (sMut 8 (b2 (b2 (getC 4) (kD (.int 4096)) divI) (cC (Ye (getC 1) aNil) lenC) modI) popD) sNil)) Ys4)
@[simp] def Ys6:AU:=(sSeq (sOwn 8 (cF (Ye (getC 1) aNil) Yrl)) Ys5)
@[simp] def Ys7:AU:=(sSeq (sIf (b2 (cC (Ye (dTup (Ye (getV 0) (Ye (cC (Ye (getC 1) aNil) tupC) aNil))) (Ye (cC (Ye (getV 2) (Ye (getV 7) (Ye (getV 6) aNil))) Yez) (Ye (getV 3) aNil))) Yb4) (getC 6) (eqM true)) (sRet (kD (.bl false))) sNil) Ys6)
@[simp] def Ys8:AU:=(sSeq (sSet 7 (b2 (getC 3) (b2 (b2 (getC 4) (kD (.int 64)) divI) (b2 (cC (Ye (getC 2) aNil) lenC) (getC 3) subI) modI) addI)) Ys7)
@[simp] def Ys9:AU:=(sSeq (sIf (andT (b2 (getC 6) (kD (.str "keeper")) (eqM true)) (b2 (getC 6) (kD (.str "storm")) (eqM true))) (sRet (kD (.bl false))) sNil) Ys8)
def Yj7:AU:=(sSeq (sSet 6 (cC (Ye (dTup (Ye (getV 0) (Ye (cC (Ye (getC 1) aNil) tupC) aNil))) (Ye (getV 2) (Ye (getV 3) aNil))) Yb4)) Ys9)
def Yg9:AR->Option D:=runB 6 9 Yj7
def Yvd(bl:Bl K w mg):Okf P w K mg base 9 6 "_law_kept" ["kind","rules","hands","start","pick","more"] Yg9:=by
 refine okfn bl.f67 sc_law_kept λhr=>?_;exact(Yi (Yv 6 sc_law_kept.nd (Yk (Yid bl) hr rfl (Yb (Yu (Yb (Yg 0) (Yb (Yag Yx Ybp rfl bl.Tuple boot_tuple (Yq (Yc 1) Ys)) Yh))) (Yb (Yg 2) (Yb (Yg 3) Yh))) aL3)) (Yi (Yaj (Yit (Yh4 (Ymc hr.units (Yc 6) (Yd Yz)) (Yfr (Ymc hr.units (Yc 6) (Yd Yz))))) (Ym (Yo Ydr)) Yac) (Yi (Yv 7 sc_law_kept.nd (Yc4 (Yc 3) (Yd (Yba (Yd (Yfq (Yc 4) (Yd Yj))) (Yd (Ymb (Yd (Yao Yak Yc0 rfl bl.Len PySem.boot_len (Yq (Yc 2) Ys))) (Yc 3))))))) (Yi (Yaj (Ymc hr.units (Yd (Yk (Yid bl) hr rfl (Yb (Yu (Yb (Yg 0) (Yb (Yag Yx Ybp rfl bl.Tuple boot_tuple (Yq (Yc 1) Ys)) Yh))) (Yb (Yk (Yqe bl) hr rfl (Yb (Yg 2) (Yb (Yg 7) (Yb (Yg 6) Yh))) aL3) (Yb (Yg 3) Yh))) aL3)) (Yc 6)) (Ym (Yo Ydr)) Yac) (Yi (Ye2 8 sc_law_kept.nd (Yd2 Yeo Yk6 rfl bl.List boot_list (Yq (Yc 1) Ys))) (Yi (Yaj (Yds hr.units (Yc 6) (Yd Yz)) (Ym (Yyi 8 (Yba (Yd (Yfq (Yc 4) (Yd Yj))) (Yd (Yc4 (Yd (Yao Yak Yc0 rfl bl.Len PySem.boot_len (Yq (Yc 1) Ys))) (Yd Yj)))) (Yg 5))) (Ym (Yaj (Yadw (Yd (Yao Yak Yc0 rfl bl.Len PySem.boot_len (Yq (Yc 1) Ys))) (Yd Yj)) (Ym (y9y 8 (Yba (Yd (Yfq (Yc 4) (Yd Yj))) (Yd (Yao Yak Yc0 rfl bl.Len PySem.boot_len (Yq (Yc 1) Ys)))))) Yac))) (Ym (Yo (Yhm hr.units (Yd (Yk (Yid bl) hr rfl (Yb (Yu (Yb (Yg 0) (Yb (Yag Yx Ybp rfl bl.Tuple boot_tuple (Yq (Yc 8) Ys)) Yh))) (Yb (Yg 2) (Yb (Yg 3) Yh))) aL3)) (Yc 6))))))))))
def sc_law:FnScope ["script","many","start","hands","way","far","k","kind","many_rules","rules","more"] ["script"] (defScope (top 68)):=fns
theorem cs_law_0:CompSc ["script","many","start","hands","way","far","k","kind","many_rules","rules","more"] (defScope (top 68)) ["j","kind","script","k","start","far"] [none,some 7,some 0,some 6,some 2,some 5] (fsc [(".0",.local),("j",.local),("_law_rule",.globalImplicit),("_law_cell",.globalImplicit),("far",.free),("k",.free),("kind",.free),("script",.free),("start",.free)]):=Yad (by decide +kernel)
def Yqf:AX:=(cC (Ye (getV 1) (Ye (cC (Ye (getV 2) (Ye (b2 (b2 (kD (.int 3)) (getC 3) addI) (b2 (kD (.int 4)) (getC 0) mulI) addI) aNil)) Ybm) (Ye (getV 4) (Ye (getV 5) aNil)))) Yfj)
def Yle:AU:=(sSeq (sSet 7 (b2 (lF (dLst (Ye (kD (.str "sums")) (Ye (kD (.str "ifs")) (Ye (kD (.str "nots")) (Ye (kD (.str "eithers")) aNil)))))) (getC 6) ixD)) (sSeq (sSet 8 (b2 (b2 (getC 4) (b2 (lF (dLst (Ye (kD (.int 8)) (Ye (kD (.int 128)) (Ye (kD (.int 2048)) (Ye (kD (.int 32768)) aNil)))))) (getC 6) ixD) divI) (kD (.int 13)) modI)) (sSeq (sOwn 9 (Ybq (cF (Ye (getV 8) aNil) rng1) [none,some 7,some 0,some 6,some 2,some 5] (gSet 0) tY (Yqf))) (sSeq (sSet 10 (cC (Ye (getV 7) (Ye (cC (Ye (getV 0) (Ye (b2 (kD (.int 55)) (getC 6) addI) aNil)) Ybm) (Ye (getV 2) (Ye (getV 1) aNil)))) Yfj)) (wF [9] (sIf (notT (b1 (cC (Ye (getV 7) (Ye (getV 9) (Ye (getV 3) (Ye (getV 2) (Ye (b2 (b2 (getC 4) (kD (.int 16)) divI) (getC 6) addI) (Ye (getV 10) aNil)))))) Yg9) truD)) (sRet (kD (.bl false))) sNil))))))
def Yaab:AU:=(sRet (kD (.bl true)))
def y2j:AU:=(sSeq (sFor (cF (Ye (kD (.int 4)) aNil) rng1) (gSet 6) Yle) Yaab)
def y2k:AU:=(sSeq (sSet 5 (cC (Ye (getC 1) (Ye (b2 (getC 2) (b2 (lF (dLst (Ye (kD (.int 2)) (Ye (kD (.int 4)) (Ye (kD (.int 8)) (Ye (kD (.int 30)) aNil)))))) (b2 (getC 4) (kD (.int 4)) modI) ixD) addI) aNil)) minC)) y2j)
def y2l:AU:=(sSeq (sSet 4 (cC (Ye (cC (Ye (getV 0) (Ye (kD (.int 2)) aNil)) Ybm) (Ye (kD (.int 1865811235122147685)) aNil)) Yda)) y2k)
def y2m:AU:=(sSeq (sSet 3 (cC (Ye (cC (Ye (getV 0) (Ye (kD (.int 1)) aNil)) Ybm) (Ye (getV 1) aNil)) Yf5)) y2l)
def y2n:AU:=(sSeq (sSet 2 (b2 (b2 (cC (Ye (getV 0) (Ye (kD (.int 0)) aNil)) Ybm) (kD (.int 30)) divI) (getC 1) modI)) y2m)
def Yaac:AU:=(sSeq (sSet 1 (b2 (kD (.int 1)) (b2 (cC (Ye (getV 0) (Ye (kD (.int 0)) aNil)) Ybm) (kD (.int 30)) modI) addI)) y2n)
def Yve:AR->Option D:=runB 1 11 Yaac
def Yad8(bl:Bl K w mg)(F:Fun K "law" "law" (top 68) a fd):FnOk P w K mg base CX0 10 a fd ["script"] (spOf K 1 Yve):=by
 refine Yok (k:=9) F sc_law rfl rfl λcdv A outer s H E hr=>?_;exact(Yi (Yv 1 sc_law.nd (Yc4 (Yd Yj) (Yd (Yba (Yd (Yk (Yc9 bl) hr rfl (Yb (Yg 0) (Yb Yj Yh)) aL2)) (Yd Yj))))) (Yi (Yv 2 sc_law.nd (Yba (Yd (Yfq (Yd (Yk (Yc9 bl) hr rfl (Yb (Yg 0) (Yb Yj Yh)) aL2)) (Yd Yj))) (Yc 1))) (Yi (Yv 3 sc_law.nd (Yk (Yss bl) hr rfl (Yb (Yk (Yc9 bl) hr rfl (Yb (Yg 0) (Yb Yj Yh)) aL2) (Yb (Yg 1) Yh)) aL2)) (Yi (Yv 4 sc_law.nd (Yk (Ygv bl) hr rfl (Yb (Yk (Yc9 bl) hr rfl (Yb (Yg 0) (Yb Yj Yh)) aL2) (Yb Yj Yh)) aL2)) (Yi (Yv 5 sc_law.nd (Yao (Yq3 rfl) y1e rfl bl.Min boot_min (Yq (Yc 1) (Yq (Yd (Yc4 (Yc 2) (Yd (Yl (Yd (Yai (Ycm (Yb Yj (Yb Yj (Yb Yj (Yb Yj Yh))))))) (Yd (Yba (Yc 4) (Yd Yj))))))) Ys)))) (Yi (Ybe jg rfl (Yff rfl bl.Range (Yb Yj Yh)) (Yw 6 sc_law.nd) (Yi (Yv 7 sc_law.nd (Yl (Yd (Yai (Ycm (Yb Yz (Yb Yz (Yb Yz (Yb Yz Yh))))))) (Yc 6))) (Yi (Yv 8 sc_law.nd (Yba (Yd (Yfq (Yc 4) (Yd (Yl (Yd (Yai (Ycm (Yb Yj (Yb Yj (Yb Yj (Yb Yj Yh))))))) (Yc 6))))) (Yd Yj))) (Yi (Yg2 9 sc_law.nd cs_law_0 rfl (Yff rfl bl.Range (Yb (Yg 8) Yh)) (λ_ _ _ _ _=>(Yw 0 cs_law_0.nd)) (λ_ _ _ _ _=>Ybw) (λ_ _ _ _ _=>(Yk (Ym4 bl) hr rfl (Yb (Yg 1) (Yb (Yk (Yc9 bl) hr rfl (Yb (Yg 2) (Yb (Yc4 (Yd (Yc4 (Yd Yj) (Yc 3))) (Yd (y1o (Yd Yj) (Yc 0)))) Yh)) aL2) (Yb (Yg 4) (Yb (Yg 5) Yh)))) aL4)) (Yav (i:=0) rfl)) (Yi (Yv 10 sc_law.nd (Yk (Ym4 bl) hr rfl (Yb (Yg 7) (Yb (Yk (Yc9 bl) hr rfl (Yb (Yg 0) (Yb (Yc4 (Yd Yj) (Yc 6)) Yh)) aL2) (Yb (Yg 2) (Yb (Yg 1) Yh)))) aL4)) (Ym (Ydn [9] (Yaj (Yup (Ybv (Yd (Yk (Yvd bl) hr rfl (Yb (Yg 7) (Yb (Yg 9) (Yb (Yg 3) (Yb (Yg 2) (Yb (Yc4 (Yd (Yfq (Yc 4) (Yd Yj))) (Yc 6)) (Yb (Yg 10) Yh)))))) aL6)))) (Ym (Yo Ydr)) Yac)))))))) (Ym (Yo Ydr))))))))
end
abbrev Yqg:Nat:=10
theorem all_mk{l:W.OpenLaw}{K:W.Frag}(X:K.In h)(G:h.Ns mainGlobals mg)(hfa:mg "law"=some (.ref fa))(F_contrary:Fk K "contrary" 1)(F_led_to:Fk K "led_to" 2)(F_traced:Fk K "traced" 3)(F_ways_from:Fk K "ways_from" 4)(F_exchanged_rule:Fk K "exchanged_rule" 7)(F_exchanged:Fk K "exchanged" 8)(F_beacons_with:Fk K "beacons_with" 10)(F_both_added:Fk K "both_added" 12)(F_pairs_added:Fk K "pairs_added" 13)(F_cleared:Fk K "cleared" 14)(F_reduced:Fk K "reduced" 15)(F_either_holds:Fk K "either_holds" 17)(F_sum_holds:Fk K "sum_holds" 18)(F_if_holds:Fk K "if_holds" 19)(F_rule_holds:Fk K "rule_holds" 20)(F_beacons_in:Fk K "beacons_in" 21)(F_is_void:Fk K "is_void" 22)(F_without:Fk K "without" 23)(F_is_place:Fk K "is_place" 25)(F_body_is_known:Fk K "body_is_known" 26)(F_is_step:Fk K "is_step" 27)(F_step_to_more:Fk K "step_to_more" 28)(F_derived_in_full:Fk K "derived_in_full" 29)(F_is_broken:Fk K "is_broken" 31)(F_sayings_of:Fk K "sayings_of" 33)(F_lead_to_one_another:Fk K "lead_to_one_another" 34)(F_clash_found:Fk K "clash_found" 35)(F_cross_found:Fk K "cross_found" 36)(F_late_found:Fk K "late_found" 37)(F_storms_paper:Fk K "storms_paper" 38)(F_free_saying:Fk K "free_saying" 39)(F_truths_made:Fk K "truths_made" 40)(F_plan_row:Fk K "plan_row" 41)(F_either_outcome:Fk K "either_outcome" 42)(F_replaced:Fk K "replaced" 44)(F_ahead_of:Fk K "ahead_of" 45)(F_places_to_none:Fk K "places_to_none" 47)(F_places_to_beacon:Fk K "places_to_beacon" 48)(F_some_of:Fk K "some_of" 49)(F_facts_beside:Fk K "facts_beside" 50)(F_if_outcome:Fk K "if_outcome" 51)(F_last_beacon:Fk K "last_beacon" 53)(F_storms_places:Fk K "storms_places" 54)(F_sum_rows:Fk K "sum_rows" 55)(F_sum_outcome:Fk K "sum_outcome" 56)(F_outcome:FkD K "outcome" 58)(F_law_cell:Fk K "_law_cell" 60)(F_law_mixed:Fk K "_law_mixed" 61)(F_law_hands:Fk K "_law_hands" 62)(F_law_rule:Fk K "_law_rule" 64)(F_law_hand:Fk K "_law_hand" 65)(F_law_handed:Fk K "_law_handed" 66)(F_law_kept:Fk K "_law_kept" 67)(uw:W.nsIn K mainGlobals "law"=some (some (.ref uo)))(ux:K.lookup uo=some ⟨u3,u4,.func (W.fnOf "law" "law" (defArgs (top 68)) (defBody (top 68)) (defScope (top 68)) .none uq ur ut uu ul uv),u5⟩)(uy:W.codeIn K ul "law"=true)(uz:W.keepIn K (.ref uo)=true)(ua:W.nsIn K mainGlobals "EXCHANGED_KINDS"=some (some (.ref ub)))(uc:K.lookup ub=some ⟨.type "dict",none,.dict #[⟨PyData.keyHash w.params (Str.ofString "eithers"),.str "eithers" ud,.str "eithers" ue⟩,⟨PyData.keyHash w.params (Str.ofString "sums"),.str "sums" uf,.str "sums" ug⟩,⟨PyData.keyHash w.params (Str.ofString "ifs"),.str "ifs" uh,.str "nots" ui⟩,⟨PyData.keyHash w.params (Str.ofString "nots"),.str "nots" uj,.str "ifs" uk⟩] um,#[]⟩)(z_len:W.nsIn K mainGlobals "len"=some none)(z_range:W.nsIn K mainGlobals "range"=some none)(z_list:W.nsIn K mainGlobals "list"=some none)(z_tuple:W.nsIn K mainGlobals "tuple"=some none)(z_sorted:W.nsIn K mainGlobals "sorted"=some none)(z_any:W.nsIn K mainGlobals "any"=some none)(z_all:W.nsIn K mainGlobals "all"=some none)(z_isinstance:W.nsIn K mainGlobals "isinstance"=some none)(z_enumerate:W.nsIn K mainGlobals "enumerate"=some none)(z_reversed:W.nsIn K mainGlobals "reversed"=some none)(z_set:W.nsIn K mainGlobals "set"=some none)(z_min:W.nsIn K mainGlobals "min"=some none)(z_dict:W.nsIn K mainGlobals "dict"=some none): ∃fd:FuncData,(∀(s:Shared) (v:Value),BindsTo s fd ⟨[v],[]⟩ [("script",v)])/\∀base:Heap,K.In base->base.Ns mainGlobals mg->FnOk l.prog w K mg base CX0 Yqg fa fd ["script"] (spOf K 1 Yve):=by
  have e:=hfa.symm.trans (W.mg_of X G uw);cases e
  have bl:Bl K w mg:=⟨W.mg_none_of X G z_len,W.mg_none_of X G z_range,W.mg_none_of X G z_list,W.mg_none_of X G z_tuple,W.mg_none_of X G z_sorted,W.mg_none_of X G z_any,W.mg_none_of X G z_all,W.mg_none_of X G z_isinstance,W.mg_none_of X G z_enumerate,W.mg_none_of X G z_reversed,W.mg_none_of X G z_set,W.mg_none_of X G z_min,W.mg_none_of X G z_dict,⟨_,_,_,_,W.mg_of X G ua,uc,⟨rfl,rfl,rfl⟩,rfl,(.cons ⟨rfl,⟨_,rfl⟩,⟨_,rfl⟩,by decide +kernel⟩ (.cons ⟨rfl,⟨_,rfl⟩,⟨_,rfl⟩,by decide +kernel⟩ (.cons ⟨rfl,⟨_,rfl⟩,⟨_,rfl⟩,by decide +kernel⟩ (.cons ⟨rfl,⟨_,rfl⟩,⟨_,rfl⟩,by decide +kernel⟩ .nil))))⟩,F_contrary.on X G,F_led_to.on X G,F_traced.on X G,F_ways_from.on X G,F_exchanged_rule.on X G,F_exchanged.on X G,F_beacons_with.on X G,F_both_added.on X G,F_pairs_added.on X G,F_cleared.on X G,F_reduced.on X G,F_either_holds.on X G,F_sum_holds.on X G,F_if_holds.on X G,F_rule_holds.on X G,F_beacons_in.on X G,F_is_void.on X G,F_without.on X G,F_is_place.on X G,F_body_is_known.on X G,F_is_step.on X G,F_step_to_more.on X G,F_derived_in_full.on X G,F_is_broken.on X G,F_sayings_of.on X G,F_lead_to_one_another.on X G,F_clash_found.on X G,F_cross_found.on X G,F_late_found.on X G,F_storms_paper.on X G,F_free_saying.on X G,F_truths_made.on X G,F_plan_row.on X G,F_either_outcome.on X G,F_replaced.on X G,F_ahead_of.on X G,F_places_to_none.on X G,F_places_to_beacon.on X G,F_some_of.on X G,F_facts_beside.on X G,F_if_outcome.on X G,F_last_beacon.on X G,F_storms_places.on X G,F_sum_rows.on X G,F_sum_outcome.on X G,F_outcome.on X G,F_law_cell.on X G,F_law_mixed.on X G,F_law_hands.on X G,F_law_rule.on X G,F_law_hand.on X G,F_law_handed.on X G,F_law_kept.on X G⟩
  have u0:=y6v (st:=(top 68)) ux uy uz;refine⟨W.fnOf "law" "law" (defArgs (top 68)) (defBody (top 68)) (defScope (top 68)) .none uq ur ut uu ul uv,λs v=>.of_eq rfl,λbase _ _=>?_⟩;exact Yad8 bl u0
theorem walk(hlaw:∀ns:AH,ns.length<=63->Yve [.scr ns]=some (.bl true)){l:W.OpenLaw}{K:Params->W.Frag}(hn:l.most=some 63)(hdf:d.params.defaults=[])(hY:∀(w:World) (h:Heap),YP w h->(K w.params).In h)(F:∀(w:World) (mg:AE) (fa:Addr) (h:Heap),(K w.params).In h->h.Ns mainGlobals mg->mg d.name=some (.ref fa)->
  ∃fd:FuncData,(∀(s:Shared) (u:Value),BindsTo s fd ⟨[u],[]⟩ [("script",u)])/\∀base:Heap,(K w.params).In base->base.Ns mainGlobals mg->FnOk l.prog w (K w.params) mg base CX0 Yqg fa fd ["script"] (spOf (K w.params) 1 Yve)):
 W.WalkO q loose XP YP l.row.toRowW d [] (λf vs=>PySem.call f vs):=
 L2.walk_of (n:=63) (k:=Yqg) (x:="script") (CX:=λ_=>CX0) (sp:=λw=>spOf (K w.params) 1 Yve) hn (by decide) hdf ⟨rfl,by decide,by decide⟩ hY F
  (λw H a ns hl _ hS=>⟨rfl,[.scr ns],.bl true,H,Same.refl H,.one (by rw[Rp];grind),hlaw ns hl,λv H' G' g r=>by rw[Rp]at r;exact r⟩) λ_ _ _ _ _ z=>z
end Lw
namespace Lw
open PySem L2 M Bk
def Yad9(ns:AH)(k:Nat):Ybm [.scr ns,.int k]=some (.int (ns.getD k 0)):=by
 rw[Ybm,y0 (by rfl)];by_cases h:k<ns.length
 ·have e:atI (ns.map D.int) (k:Int)=some (.int ns[k]):=by
   rw[Yft,Ylc h];rfl
  simp[Yj6,Yr,h,e]
 ·simp[Yj6,Yr,h]
def Yjd(ns:AH)(k:Nat)(i:Int)(hi:i=(k:Int)):Ybm [.scr ns,.int i]=some (.int (ns.getD k 0)):=by
 subst hi;exact Yad9 ns k
theorem Yvf(c m:Int):∃v:Int,0<=v/\Yda [.int c,.int m]=some (.int v):=by
 refine⟨c%2305843009213693951*m%2305843009213693951,Int.emod_nonneg _ (by decide),?_⟩;rw[Yda,y0 (by rfl)];have h1:0<=c%2305843009213693951:=Int.emod_nonneg _ (by decide);have h2:c%2305843009213693951<2305843009213693951:=Int.emod_lt_of_pos _ (by decide);have h3:mulI (.int (c%2305843009213693951)) (.int m)=some (.int (c%2305843009213693951*m)):=Ywu ⟨by lia,by lia⟩;simp[Ym2,Yr,h3]
section
variable {c:D}{ev:AJ} (hc:Yn c=some (ev.map D.bl))
include hc
def Yn4(hl:∀s∈l,s.1<ev.length):Ydc [rlD (.ei l),c]=some (.bl (l.any λs=>at' ev s.1==s.2)):=by
 have h:=Ygi (fe:=Yc8) (r:=[↑c]) (enc:=sayD) (λs=>.bl (at' ev s.1==s.2)) (l:=l) (λs hs=>by
  simp[Yc8,hc,y5t (hl s hs)])
 rw[Ydc,y0 (by rfl)];simp[Yhp,Yr,capR,h,wu]
theorem Yvg(hl:∀x∈b,x<ev.length):Yfv [rlD (.su b o),c]=some (.bl (decide ((b.filter (at' ev)).length%2=1)==o)):=by
 have h:=Ymf (fc:=Ye4) (fe:=Ye5) (r:=[↑c]) (enc:=nD) (at' ev) nD (l:=b) (λs hs=>by
  simp[Ye4,hc,nD,y5t (hl s hs)]) (λs _ _=>by simp[Ye5])
 have e:∀n:Nat,decide (((n:Nat):Int)%2=1)=decide (n%2=1):=λn=>by
  grind
 rw[Yfv,y0 (by rfl)];simp[Ymo,Yr,capR,h,e]
def Yoy(hl:∀x∈b,x<ev.length)(hh:∀x,h=some x->x<ev.length):Yg5 [rlD (.im b h),c,.bl w]=some (.bl ((b.any λx=>at' ev x != w)||hd ev w h)):=by
 have h1:=Ygi (fe:=Yfw) (r:=[↑c,↑(.bl w)]) (enc:=nD) (λx=>.bl (at' ev x != w)) (l:=b) (λs hs=>by
  simp[Yfw,hc,nD,y5t (hl s hs),bne])
 rw[Yg5,y0 (by rfl)]
 cases hb:(b.any λx=>at' ev x != w)with
 | true=>simp[Yg4,Yr,capR,h1,wu,hb]
 | false=>
   cases h with
   | none=>simp[Yg4,Yr,capR,h1,wu,hb,optD,hd]
   | some x=>simp[Yg4,Yr,capR,h1,wu,hb,optD,hd,hc,y5t (hh x rfl)]
def Yta{r:Rl}(hr:In k ev.length r):Yeu [kdD k,rlD r,c]=some (.bl (so k ev r)):=by
 rw[Yeu,y0 (by rfl)]
 cases r with
 | ei l=>
   obtain⟨rfl,hl⟩:=hr;simp[Ydi,Yr,Yn4 hc hl,so]
 | su b o=>
   obtain⟨rfl,hl⟩:=hr;simp[Ydi,Yr,Yvg hc hl,so]
 | im b h=>
   obtain⟨hk,hl,hh⟩:=hr;rcases hk with rfl|rfl
   ·simp[Ydi,Yr,Yoy hc hl hh,so]
   ·simp[Ydi,Yr,Yoy hc hl hh,so]
end
section
variable {c:D}{ev:AJ} (hc:Yn c=some (ev.map D.bl))
include hc
end
section
variable {c:D}{ev:AJ} (hc:Yn c=some (ev.map D.bl))
include hc
end
theorem Ytb{r:Rl}(hr:In k n r)(hs:sz r<=999999):Yev [kdD k,rlD r]=some (.lst ((bcs r).map nD)):=by
 rw[Yev,y0 (by rfl)]
 cases r with
 | ei l=>
   obtain⟨rfl,_⟩:=hr;have h:=Ygi (fe:=Yeh) (r:=[]) (enc:=sayD) (λs=>nD s.1) (l:=l) (λs _=>by simp[Yeh]);simp[Ydj,Yr,capR,h,bcs,wu]
 | su b o=>
   obtain⟨rfl,_⟩:=hr;simp[Ydj,Yr,bcs]
 | im b h=>
   obtain⟨hk,_⟩:=hr
   have hke:¬k=.e:=by grind
   have hks:¬k=.s:=by grind
   have hs':b.length+1<=1000000:=by simp[sz]at hs;lia
   cases h with
   | none=>simp[Ydj,Yr,bcs,hke,hks,optD]
   | some x=>simp[Ydj,Yr,bcs,hke,hks,optD,catD,hs']
def flS(s:Say):Say:=(s.1,!s.2)
def Yha(s:Say):Ycg [sayD s]=some (sayD (flS s)):=by
 rw[Ycg,y0 (by rfl)];simp[Yor,Yr,sayD,flS]
def srtS:BA->BA
 | [a,b]=>if plt b.1 b.2 a.1 a.2=true then [b,a]else [a,b]
 | l=>l
def Yaad(h:l.length<=2):Ykl [.lst (l.map sayD)]=some ((srtS l).map sayD):=by
 match l,h with
 | [],_=>rfl
 | [a],_=>rfl
 | [a,b],_=>
   have e:Ykl [.lst ([a,b].map sayD)]=some (if plt b.1 b.2 a.1 a.2=true then [sayD b,sayD a]else [sayD a,sayD b]):=rfl;rw[e,srtS]
   split<;>rfl
theorem y2o{r:Rl}(hr:In k n r)(hs:sz r<=999999):Yi2 [kdD k,rlD r]=some (.bl (eqD (rlD r) (rlD (vd k)))):=by
 rw[Yi2,y0 (by rfl)];have hb:=Ytb hr hs;by_cases h0:bcs r=[]
 ·have hin:In k 0 r:=by
   cases r with
   | ei l=>
     simp[bcs]at h0;subst h0;exact⟨hr.1,by simp⟩
   | su l o=>
     simp[bcs]at h0;subst h0;exact⟨hr.1,by simp⟩
   | im l o=>
     cases o with
     | none=>
       simp[bcs]at h0;subst h0;exact⟨hr.1,by simp,by simp⟩
     | some x=>simp[bcs]at h0
  have hh:=Yta (c:=.tup []) (ev:=[]) rfl (k:=k) (r:=r) hin
  have he:eqD (rlD r) (rlD (vd k))=!so k [] r:=by
   cases r with
   | ei l=>
     obtain⟨rfl,_⟩:=hr;simp[bcs]at h0;subst h0;simp[rlD,vd,so]
   | su l o=>
     obtain⟨rfl,_⟩:=hr;simp[bcs]at h0;subst h0;cases o<;>simp[rlD,vd,so]
   | im l o=>
     cases o with
     | none=>
       simp[bcs]at h0;subst h0
       have:eqD .non .non=true:=by simp[eqD,toPy,PyData.eqv]
       rcases hr.1 with rfl|rfl<;>simp[rlD,vd,so,optD,hd,this]
     | some x=>simp[bcs]at h0
  rw[h0]at hb;simp at hb;simp[Ymp,Yr,hb,hh,he]
 ·have hlen:¬((bcs r).length:Int)=0:=by
   simp_all
  have he:eqD (rlD r) (rlD (vd k))=false:=by
   cases r with
   | ei l=>
     obtain⟨rfl,_⟩:=hr
     cases l with
     | nil=>simp[bcs]at h0
     | cons s l=>simp[rlD,vd]
   | su l o=>
     obtain⟨rfl,_⟩:=hr
     cases l with
     | nil=>simp[bcs]at h0
     | cons s l=>simp[rlD,vd]
   | im l o=>
     have e1:∀x:Nat,eqD (.int (x:Int)) .non=false:=λx=>by simp[eqD,toPy,PyData.eqv]
     cases l with
     | nil=>cases o with
       | none=>simp[bcs]at h0
       | some x=>rcases hr.1 with rfl|rfl<;>simp[rlD,vd,optD,e1]
     | cons s l=>rcases hr.1 with rfl|rfl<;>simp[rlD,vd]
  simp[Ymp,Yr,hb,h0,he]
def exR:Rl->Rl
 | .ei l=>.ei (srtS (l.map flS))
 | .su l o=>.su l (o != decide (l.length%2=1))
 | .im l h=>.im l h
def exK:Kd->Kd
 | .e=>.e
 | .s=>.s
 | .i=>.n
 | .n=>.i
theorem Ykw{r:Rl}(h:In k n r)(hs:Srt r):Yb9 [kdD k,rlD r]=some (rlD (exR r)):=by
 rw[Yb9,y0 (by rfl)]
 cases r with
 | ei l=>
   obtain⟨rfl,_⟩:=h;have h1:=Ygi (fe:=Ycd) (r:=[]) (enc:=sayD) (λs=>sayD (flS s)) (l:=l) (λs _=>by simp[Ycd,Yha]);have h2:=Yaad (l:=l.map flS) (by simpa using hs.1);rw[Qe]at h2;simp[wu]at h2;simp[Yb8,Yr,capR,h1,h2,exR,y98]
 | su l o=>
   obtain⟨rfl,_⟩:=h
   have e:((l.length:Int)%2=1)↔(l.length%2=1):=by lia
   simp[Yb8,Yr,exR,e];cases o<;>by_cases h:l.length%2=1<;>simp[h,rlD,e]
 | im l h=>
   obtain⟨hk,_⟩:=h;rcases hk with rfl|rfl<;>simp[Yb8,Yr,exR]
theorem y2p(k:Kd):y04 gt_EXCHANGED_KINDS (kdD k)=some (kdD (exK k)):=by
 have h:gt_EXCHANGED_KINDS.lookup (kS k)=some (kS (exK k)):=by cases k<;>decide +kernel
 show(gt_EXCHANGED_KINDS.lookup (kS k)).map D.str=_;rw[h];rfl
def Yvh{R:List Rl}(h:∀r∈R,In k n r/\Srt r):Yeg [Ycn k R]=some (Ycn (exK k) (R.map exR)):=by
 rw[Yeg,y0 (by rfl)];have h1:=Ygi (fe:=Ye3) (r:=[↑(kdD k)]) (enc:=rlD) (λr=>rlD (exR r)) (l:=R) (λr hr=>by simp[Ye3,Ykw (h r hr).1 (h r hr).2]);simp[Ymh,Yr,Ycn,capR,y2p,h1,wu]
def kn(b fs:AG):Bool:=b.all λx=>decide (x∈fs)
abbrev IfR:=List Nat×AN
def ifD(r:IfR):D:=.tup [.tup (r.1.map nD),optD r.2]
structure IfOk(r:IfR):Prop where
 b:∀x∈r.1,x<60
 h:∀x,r.2=some x->x<60
 p:r.1.Pairwise (·<·)
 l:r.1.length<=3
@[simp] theorem items_if(r:IfR):Yn (ifD r)=some [.tup (r.1.map nD),optD r.2]:=nr rfl
def Yap(R:List IfR):D:=.tup [.str "ifs",.tup (R.map ifD)]
@[simp] theorem Yvi(R:List IfR):Yn (Yap R)=some [.str "ifs",.tup (R.map ifD)]:=nr rfl
theorem Ym5(r:IfR)(fs:AG)(hd:Yn d=some (fs.map nD)):Ya1 [ifD r,d]=some (.bl (kn r.1 fs)):=by
 rw[Ya1,y0 (by rfl)];have h:=Ygi (fe:=Ya6) (r:=[↑d]) (enc:=nD) (λx=>D.bl (decide (x∈fs))) (l:=r.1) (λx _=>by simp[Ya6,in_n x fs false hd]);simp[Yei,Yr,capR,h,kn,List.all_map,wu]
theorem Yy5(R:List IfR)(i:Int):Yg6 [Yap R,.int i]=some (.bl (decide (0<=i/\i<R.length))):=by
 rw[Yg6,y0 (by rfl)];by_cases h:0<=i<;>simp[Yos,Yr,h]
def rAt(R:List IfR)(i:Int):IfR:=R.getD i.toNat ([],none)
theorem Yaae(h:0<=i/\i<R.length):atI (R.map ifD) i=some (ifD (rAt R i)):=by
 rw[Yft,y7f (j:=i.toNat) (v:=rAt R i) (by lia) (by rw[rAt,Qk,qq (by lia)];simp)];rfl
def stp(R:List IfR)(fs:AG)(i:Int):Bool:=decide (0<=i/\i<R.length)&&((rAt R i).2.isSome&&kn (rAt R i).1 fs)
def hdN(r:IfR):Nat:=r.2.getD 0
def derB(R:List IfR):AG->AH->Bool
 | _,[]=>true
 | fs,i::is=>stp R fs i&&derB R (fs++[hdN (rAt R i)]) is
abbrev fl(n:Nat)(P:AK):AG:=(List.range n).filter P
theorem Yaea(hp:l.Pairwise (·<·))(h:∀x∈l,x<n):l=fl n λx=>decide (x∈l):=by
 have h1:(fl n λx=>decide (x∈l)).Pairwise (·<·):=List.pairwise_lt_range.filter _;have nd:∀{m:AG},m.Pairwise (·<·)->m.Nodup:=λh=>h.imp qm
 have hperm:l.Perm (fl n λx=>decide (x∈l)):=(List.perm_ext_iff_of_nodup (nd hp) (nd h1)).mpr λx=>by
  grind
 exact hperm.eq_of_pairwise (le:=(·<·)) (λa b _ _ h1 h2=>absurd (Nat.lt_trans h1 h2) (Nat.lt_irrefl _)) hp h1
theorem Ym6(l:AG):intsD (l.map nD)=some (l.map λx:Nat=>(x:Int)):=by simp_all
theorem mem_castI{l:AG}{x:Nat}:(x:Int)∈l.map (λy:Nat=>(y:Int))↔x∈l:=by grind
theorem y2q(n:Nat)(P:AK):(fl n P).length<=n:=by grind
theorem Yw0(hn:m.Nodup)(h:∀x:Int,x∈m↔∃y:Nat,y∈fl n R/\(y:Int)=x):Yc1 m=(fl n R).map λy:Nat=>(y:Int):=by
 have hs:((fl n R).map λy:Nat=>(y:Int)).Pairwise (·<=·):=by
  rw[List.pairwise_map]
  exact(List.pairwise_lt_range.filter R).imp λh=>by lia
 have hnd:((fl n R).map λy:Nat=>(y:Int)).Nodup:=by
  rw[List.nodup_iff_pairwise_ne,List.pairwise_map]
  exact(List.pairwise_lt_range.filter R).imp λh=>by lia
 have hperm:m.Perm ((fl n R).map λy:Nat=>(y:Int)):=(List.perm_ext_iff_of_nodup hn hnd).mpr λx=>by
  grind
 exact W.ksm_same ((Yaz m).trans hperm) (Ya5 m) hs
theorem y2r(hn:n<64)(P Q:AK):y1m ((fl n P).map nD) ((fl n Q).map nD)=some ((fl n λx=>P x != Q x).map nD):=by
 unfold y1m;rw[Ym6,Ym6,qd,qd];have lp:=y2q n P;have lq:=y2q n Q;generalize ha:((fl n P).map λx:Nat=>(x:Int))=a;generalize hb:((fl n Q).map λx:Nat=>(x:Int))=b
 have la:a.length<=n:=by grind
 have lb:b.length<=n:=by grind
 have dlen:∀l:AH,(ddup [] l).length<=l.length:=λl=>by
  have:∀(r acc:AH),(ddup acc r).length<=acc.length+r.length:=λr=>by
   induction r with
   | nil=>intro acc;simp[ddup]
   | cons k r ih=>
     intro acc;rw[ddup];grind
  grind
 have hmem:∀x:Int,x∈xorI a b↔∃y:Nat,y∈(fl n λx=>P x != Q x)/\(y:Int)=x:=λx=>by
  rw[Ywo,<-ha,<-hb];grind
 have hlen:(xorI a b).length<=n:=by
  have e:=Yw0 (Ypt a b) hmem;have:=(Yaz (xorI a b)).length_eq;grind
 have hall:(b.all λk=>decide (0<=k/\k<1024))=true:=by
  grind
 have d1:=dlen a;have d2:=dlen b;rw[if_pos ⟨by lia,by lia,by lia,by lia,hall,by lia⟩,Yw0 (Ypt a b) hmem,Qe];rfl
abbrev sumD(P:AK)(o:Bool):D:=.tup [.tup ((fl 60 P).map nD),.bl o]
theorem Ykj(P Q:AK)(o o':Bool):Yby [sumD P o,sumD Q o']=some (sumD (λx=>P x != Q x) (o != o')):=by
 rw[Yby,y0 (by rfl)];have h:=y2r (n:=60) (by decide) P Q;have hl:=y2q 60 λx=>P x != Q x;have hne:(!(o==o'))=(o != o'):=rfl;have hst:Yr 2 [sumD P o,sumD Q o']=[↑(sumD P o),↑(sumD Q o')]:=rfl;have hi1:Yn (sumD P o)=some [.tup ((fl 60 P).map nD),.bl o]:=rfl;have hi2:Yn (sumD Q o')=some [.tup ((fl 60 Q).map nD),.bl o']:=rfl;rw[hst];generalize sumD P o=S1,sumD Q o'=S2,(fl 60 P).map nD=A,(fl 60 Q).map nD=B at *;simp[Ykg,h,hi1,hi2,hne]
abbrev Sm:=(AK)×Bool
abbrev smD(r:Sm):D:=sumD r.1 r.2
def rg(R:List Sm)(p:Nat):Sm:=R.getD p (λ_=>false,false)
def oddP(R:List Sm)(ps:AG)(x:Nat):Nat:=(ps.filter λp=>decide (x∈fl 60 (rg R p).1)).length
def oddO(R:List Sm)(ps:AG):Bool:=ps.foldl (λo p=>o != (rg R p).2) false
theorem Yqh(R:List Sm)(ps:AG)(p x:Nat):oddP R (ps++[p]) x=if x∈fl 60 (rg R p).1 then oddP R ps x+1 else oddP R ps x:=by
 unfold oddP;grind
def y51(R:List Sm)(ps:AG)(p:Nat):oddO R (ps++[p])=(oddO R ps != (rg R p).2):=by
 unfold oddO;rw[List.foldl_append];rfl
theorem Yoz(h:∀x,x<60->P x=Q x):sumD P o=sumD Q o:=by
 have:fl 60 P=fl 60 Q:=List.filter_congr λx hx=>h x (qy hx);grind
abbrev totD(R:List Sm)(ps:AG):D:=sumD (λx=>decide (oddP R ps x%2=1)) (oddO R ps)
theorem Yaeb{l:AG}(hp:l.Pairwise (·<·))(h:∀x∈l,x<60)(o:Bool):D.tup [.tup (l.map nD),.bl o]=smD (λx=>decide (x∈l),o):=by
 unfold smD sumD;rw[<-Yaea hp h]
theorem y2s(f g:AK):∀l:AG,(l.filter λp=>f p != g p).length+2*(l.filter λp=>f p&&g p).length=(l.filter f).length+(l.filter g).length
 | []=>rfl
 | a::l=>by
   have ih:=y2s f g l;cases hf:f a<;>cases hg:g a<;>simp[List.filter_cons,hf,hg]<;>lia
theorem Yqi(R:List Sm)(ps:AG):oddO R ps=decide ((ps.filter λp=>(rg R p).2).length%2=1):=by
 have key:∀(l:AG) (o:Bool),l.foldl (λo p=>o != (rg R p).2) o=(o != decide ((l.filter λp=>(rg R p).2).length%2=1)):=λl=>by
  induction l with
  | nil=>intro o;simp
  | cons a l ih=>
    grind
 unfold oddO;grind
theorem y7i(h:a+2*k=b+c):decide (a%2=1)=(decide (b%2=1)!=decide (c%2=1)):=by grind
theorem Yvj(R:List Sm)(W V:AK):sumD (λx=>decide (oddP R (fl 60 W) x%2=1)!=decide (oddP R (fl 60 V) x%2=1)) (oddO R (fl 60 W)!=oddO R (fl 60 V))=totD R (fl 60 λp=>W p != V p):=by
 have hx:∀h:AK,(((fl 60 λp=>W p != V p).filter h).length+2*((List.range 60).filter λp=>(W p&&h p)&&(V p&&h p)).length)=((fl 60 W).filter h).length+((fl 60 V).filter h).length:=λh=>by
  have:=y2s (λp=>W p&&h p) (λp=>V p&&h p) (List.range 60);rw[List.filter_filter,List.filter_filter,List.filter_filter]
  have e1:((List.range 60).filter λp=>h p&&(W p != V p))=(List.range 60).filter λp=>(W p&&h p)!=(V p&&h p):=List.filter_congr λp _=>by grind
  have e2:((List.range 60).filter λp=>h p&&W p)=(List.range 60).filter λp=>W p&&h p:=List.filter_congr λp _=>by grind
  have e3:((List.range 60).filter λp=>h p&&V p)=(List.range 60).filter λp=>V p&&h p:=List.filter_congr λp _=>by grind
  grind
 unfold totD;rw[Yqi,Yqi,Yqi,<-y7i (hx λp=>(rg R p).2)];refine Yoz λx _=>?_;exact(y7i (hx λp=>decide (x∈fl 60 (rg R p).1))).symm
abbrev prD2(R:List Sm)(W:AK):D:=.tup [.tup ((fl 60 W).map nD),totD R (fl 60 W)]
theorem Yqj(R:List Sm)(W V:AK):Ydw [prD2 R W,prD2 R V]=some (prD2 R λp=>W p != V p):=by
 rw[Ydw,y0 (by rfl)];have h:=y2r (n:=60) (by decide) W V;have hb:=Ykj (λx=>decide (oddP R (fl 60 W) x%2=1)) (λx=>decide (oddP R (fl 60 V) x%2=1)) (oddO R (fl 60 W)) (oddO R (fl 60 V));rw[Yvj]at hb
 change Yby [totD R (fl 60 W),totD R (fl 60 V)]=_ at hb
 have hst:Yr 2 [prD2 R W,prD2 R V]=[↑(.tup [.tup ((fl 60 W).map nD),totD R (fl 60 W)]),↑(.tup [.tup ((fl 60 V).map nD),totD R (fl 60 V)])]:=rfl;rw[hst];show _=some (D.tup [.tup ((fl 60 λp=>W p != V p).map nD),totD R (fl 60 λp=>W p != V p)]);generalize totD R (fl 60 λp=>W p != V p)=T3,totD R (fl 60 W)=T1,totD R (fl 60 V)=T2,(fl 60 W).map nD=A,(fl 60 V).map nD=B,(fl 60 λp=>W p != V p).map nD=C at *;simp[Yi1,h,hb]
def tP(R:List Sm)(W:AK):AK:=λx=>decide (oddP R (fl 60 W) x%2=1)
def Last(P:AK)(b:Nat):Prop:=b<60/\P b=true/\∀x,x<60->P x=true->x<=b
theorem Yvk(P:AK):fl 60 P=[]\/∃b,Last P b/\fl 60 P≠[]/\atI ((fl 60 P).map nD) (-1)=some (nD b):=by
 cases e:(fl 60 P).getLast? with
 | none=>exact .inl (List.getLast?_eq_none_iff.mp e)
 | some b=>
   right;obtain⟨ys,hy⟩:=List.getLast?_eq_some_iff.mp e;have hpw:(fl 60 P).Pairwise (·<·):=List.pairwise_lt_range.filter _
   have hb:b∈fl 60 P:=by rw[hy];simp
   refine⟨b,⟨qy (qz hb).1,(qz hb).2,λx hx hp=>?_⟩,by rw[hy];simp,?_⟩
   ·have hm:x∈fl 60 P:=List.mem_filter.mpr ⟨List.mem_range.mpr hx,hp⟩
    rw[hy]at hm hpw;rcases qv hm with hm|hm
    ·exact Nat.le_of_lt ((List.pairwise_append.mp hpw).2.2 x hm b (by simp))
    ·rw[List.mem_singleton.mp hm];exact qu _
   ·rw[hy,wt]
    unfold atI ixN
    have hl:(ys.map nD++[b].map nD).length=ys.length+1:=by simp
    rw[hl,if_neg (by lia),if_pos (by lia)]
    have:((-1:Int)+((ys.length+1:Nat):Int)).toNat=ys.length:=by lia
    rw[this,qd];simp
def Last.uniq(h:Last P a)(h':Last P b):a=b:=Nat.le_antisymm (h'.2.2 a h.1 h.2.1) (h.2.2 b h'.1 h'.2.1)
abbrev Row:=Nat×(AK)
abbrev kyD(BL:List Row):AR:=(BL.map (·.1)).map nD
abbrev rwD(R:List Sm)(BL:List Row):AR:=BL.map λr=>prD2 R r.2
theorem Yw1:∀{BL:List Row},b∈BL.map (·.1)->∃r∈BL,r.1=b/\Yab ((BL.map (·.1)).map λx:Nat=>(x:Int)) (rwD R BL) (b:Int)=some (prD2 R r.2)
 | [],h=>(nomatch h)
 | r::BL,h=>by
   show ∃s∈r::BL,s.1=b/\Yab ((r.1:Int)::((BL.map (·.1)).map λx:Nat=>(x:Int))) (prD2 R r.2::rwD R BL) (b:Int)=some (prD2 R s.2);rw[Yab];by_cases e:r.1=b
   ·grind
   ·have h':b∈BL.map (·.1):=by
     grind
    obtain⟨s,h1,h2,h3⟩:=Yw1 (R:=R) h';grind
theorem y7j(R:List Sm)(W V:AK)(x:Nat)(hx:x<60):tP R (λp=>W p != V p) x=(tP R W x != tP R V x):=by
 have h:=Yvj R W V;unfold totD sumD at h;have h1:=congrArg (λd=>match d with|D.tup [D.tup l,_]=>(M.intsD l)|_=>none) h;dsimp only at h1;rw[Ym6,Ym6]at h1;have h2:((fl 60 λx=>decide (oddP R (fl 60 W) x%2=1)!=decide (oddP R (fl 60 V) x%2=1)).map λx:Nat=>(x:Int))=((fl 60 λx=>decide (oddP R (fl 60 λp=>W p != V p) x%2=1)).map λx:Nat=>(x:Int)):=w6 h1
 have h3:x∈(fl 60 λx=>decide (oddP R (fl 60 W) x%2=1)!=decide (oddP R (fl 60 V) x%2=1))↔x∈(fl 60 λx=>decide (oddP R (fl 60 λp=>W p != V p) x%2=1)):=by
  rw[<-mem_castI,<-mem_castI,h2]
 rw[List.mem_filter,List.mem_filter]at h3;have hr:=List.mem_range.mpr hx;show decide (oddP R (fl 60 λp=>W p != V p) x%2=1)=_;cases e:decide (oddP R (fl 60 λp=>W p != V p) x%2=1)
 ·cases e2:(tP R W x != tP R V x)
  ·rfl
  ·exact absurd (h3.mp ⟨hr,e2⟩).2 (by rw[e];exact qi)
 ·exact(h3.mpr ⟨hr,e⟩).2.symm
theorem y52(R:List Sm)(W V:AK):oddO R (fl 60 λp=>W p != V p)=(oddO R (fl 60 W)!=oddO R (fl 60 V)):=by
 have h:=Yvj R W V;grind
inductive Red (R:List Sm) (BL:List Row) (e:Bool):(AK)->Bool->Prop
 | zero {T:AK}{o:Bool}:(∀x,x<60->T x=false)->(e=false->o=false)->Red R BL e T o
 | step {T:AK}{o:Bool} (r:Row):r∈BL->Last T r.1->Red R BL e (λx=>T x != tP R r.2 x) (o != oddO R (fl 60 r.2))->Red R BL e T o
theorem Last.congr(h:Last T b)(e:∀x,x<60->T x=T' x):Last T' b:=⟨h.1,by rw[<-e b h.1];exact h.2.1,λx hx hp=>h.2.2 x hx (by grind)⟩
theorem Red.congr(h:Red R BL e T o):∀{T':AK},(∀x,x<60->T x=T' x)->Red R BL e T' o:=by
 induction h with
 | zero h0 h1=>exact λht=>.zero (λx hx=>by grind) h1
 | step r hr hl _ ih=>exact λht=>.step r hr (hl.congr ht) (ih λx hx=>by grind)
theorem Red.mono(hb:∀r∈BL,r∈BL')(he:e=true->e'=true)(h:Red R BL e T o):Red R BL' e' T o:=by
 induction h with
 | zero h0 h1=>
   refine .zero h0 λz=>h1 ?_;grind
 | step r hr hl _ ih=>exact .step r (hb r hr) hl ih
theorem Yo0(hB:∀r∈BL,Last (tP R r.2) r.1/\∀p,r.2 p=true->p<n)(d0:AT):∀(k fuel:Nat) (W:AK),(∀x,x<60->tP R W x=true->x<k)->k<fuel->(∀p,W p=true->p<n)->
 ∃V:AK,(∀p,V p=true->p<n)/\(fl 60 (tP R V)=[]\/∃b,Last (tP R V) b/\b∉BL.map (·.1))/\(∀(BL':List Row) (e:Bool),(∀r∈BL,r∈BL')->Red R BL' e (tP R V) (oddO R (fl 60 V))->Red R BL' e (tP R W) (oddO R (fl 60 W)))/\
  Ybs (andT (b1 (b2 (b2 (getC 2) (kD (.int 1)) ixD) (kD (.int 0)) ixD) truD) (b2 (b2 (b2 (b2 (getC 2) (kD (.int 1)) ixD) (kD (.int 0)) ixD) (b1 (kD (.int 1)) negI) ixD) (getC 1) (hasN false))) Ygk fuel [d0,↑(.dct false (kyD BL) (rwD R BL)),↑(prD2 R W)] =
   some (.nx [d0,↑(.dct false (kyD BL) (rwD R BL)),↑(prD2 R V)])
 | k,0,W,_,h,_=>absurd h (Nat.not_lt_zero _)
 | k,fuel+1,W,hk,hf,hW=>by
   have hi:Yn (prD2 R W)=some [.tup ((fl 60 W).map nD),.tup [.tup ((fl 60 (tP R W)).map nD),.bl (oddO R (fl 60 W))]]:=rfl;rw[Ybs];rcases Yvk (tP R W)with h0|⟨b,hb,hne,hat⟩
   ·refine⟨W,hW,.inl h0,λ_ _ _ z=>z,?_⟩
    simp_all
   ·have hemp:((fl 60 (tP R W)).map nD).isEmpty=false:=by
     simp_all
    have hha:hasN false (.int (b:Int)) (.dct false (kyD BL) (rwD R BL))=some (decide (b∈BL.map (·.1))):=by
     rw[Yk7,Ym6,Option.map_some];grind
    have hnb:nD b=.int (b:Int):=rfl;rw[hnb]at hat;by_cases hm:b∈BL.map (·.1)
    ·obtain⟨r,hr,hrb,hfind⟩:=Yw1 (R:=R) hm
     have hg:getI (.dct false (kyD BL) (rwD R BL)) (.int (b:Int))=some (prD2 R r.2):=by
      rw[Yfp,Ym6,qd];exact hfind
     have hpa:=Yqj R W r.2;obtain⟨hrl,hrn⟩:=hB r hr;rw[hrb]at hrl;have hbk:b<k:=hk b hb.1 hb.2.1
     obtain⟨k',rfl⟩:∃k',k=k'+1:=⟨k-1,by lia⟩
     obtain⟨V,v1,v2,v4,v3⟩:=Yo0 hB d0 k' fuel (λp=>W p != r.2 p) (λx hx hxt=>by
      rw[y7j R W r.2 x hx]at hxt
      have hxb:x≠b:=λz=>by
       subst z;rw[hb.2.1,hrl.2.1]at hxt;grind
      have hxl:x<=b:=by
       cases h1:tP R W x
       ·rw[h1]at hxt
        cases h2:tP R r.2 x
        ·grind
        ·exact hrl.2.2 x hx h2
       ·exact hb.2.2 x hx h1
      lia) (by lia) (λp hp=>by
      grind)
     refine⟨V,v1,v2,λBL' e hs hv=>?_,?_⟩
     ·refine .step r (hs r hr) (hrb ▸ hb) ?_
      rw[<-y52];exact(v4 BL' e hs hv).congr λx hx=>y7j R W r.2 x hx
     rw[wn hm]at hha;have hi2:(fl 60 (tP R W)).map nD=(fl 60 (tP R W)).map nD:=rfl;generalize hPW:prD2 R W=PW at *;generalize hPX:prD2 R (λp=>W p != r.2 p)=PX at *;generalize prD2 R r.2=PR,kyD BL=K,rwD R BL=VV,(fl 60 (tP R W)).map nD=L at *;simp[hi,hemp,hat,hha,Ygk,hg,hpa,-Yk7,-Yfp];exact v3
    ·refine⟨W,hW,.inr ⟨b,hb,hm⟩,λ_ _ _ z=>z,?_⟩
     rw[wo hm]at hha;generalize prD2 R W=PW,kyD BL=K,rwD R BL=VV,(fl 60 (tP R W)).map nD=L at *;simp[hi,hemp,hat,hha,-Yk7]
theorem y2t(hB:∀r∈BL,Last (tP R r.2) r.1/\∀p,r.2 p=true->p<n)(W:AK)(hW:∀p,W p=true->p<n):
 ∃V:AK,(∀p,V p=true->p<n)/\(fl 60 (tP R V)=[]\/∃b,Last (tP R V) b/\b∉BL.map (·.1))/\(∀(BL':List Row) (e:Bool),(∀r∈BL,r∈BL')->Red R BL' e (tP R V) (oddO R (fl 60 V))->Red R BL' e (tP R W) (oddO R (fl 60 W)))/\Yfg [prD2 R W,.dct false (kyD BL) (rwD R BL)]=some (prD2 R V):=by
 obtain⟨V,h1,h2,h4,h3⟩:=Yo0 hB (some (.sh (prD2 R W))) 60 4000 W (λx hx _=>hx) (by lia) hW;refine⟨V,h1,h2,h4,?_⟩;rw[Yfg,y0 (by rfl)];have hst:Yr 3 [prD2 R W,.dct false (kyD BL) (rwD R BL)]=[↑(prD2 R W),↑(.dct false (kyD BL) (rwD R BL)),none]:=rfl;rw[hst];generalize prD2 R W=PW,prD2 R V=PV,D.dct false (kyD BL) (rwD R BL)=DD at *;rw[Ysg,Ybx]
 simp_all
theorem y2u(l:AG):plBL (l.map nD)=true:=by
 induction l with
 | nil=>rfl
 | cons a l ih=>
   rw[Qa,plBL,ih];rfl
def Yaec(R:List Sm)(W:AK):plB (prD2 R W)=true:=by
 have h1:=y2u (fl 60 W);have h2:=y2u (fl 60 (tP R W));show plB (.tup [.tup ((fl 60 W).map nD),.tup [.tup ((fl 60 (tP R W)).map nD),.bl (oddO R (fl 60 W))]])=true;simp only[plB,plBL,h1,h2,Bool.and_self]
theorem Yw2(hp:p<60):fl 60 (λx=>decide (x=p))=[p]:=by
 have h:=Yaea (n:=60) (l:=[p]) (by simp) (by grind);grind
theorem Yaaf(R:List Sm)(p:Nat):totD R [p]=smD (rg R p):=by
 have h0:oddO R [p]=(rg R p).2:=by
  unfold oddO;grind
 unfold totD smD;rw[h0];refine Yoz λx hx=>?_;have:=Yqh R [] p x;rw[Qd]at this;rw[this];have h1:oddP R [] x=0:=rfl;grind
theorem Yaf9(R:List Sm)(hp:p<60):D.tup [.tup [nD p],smD (rg R p)]=prD2 R λx=>decide (x=p):=by
 show _=D.tup [.tup ((fl 60 λx=>decide (x=p)).map nD),totD R (fl 60 λx=>decide (x=p))];rw[Yw2 hp,Yaaf];rfl
def voD:Option AK->D
 | none=>.non
 | some U=>.tup ((fl 60 U).map nD)
def Ytc(R:List Sm)(n:Nat)(U:Option AK):Prop:=∀U',U=some U'->fl 60 (tP R U')=[]/\oddO R (fl 60 U')=true/\∀p,U' p=true->p<n
def Ykk(R:List Sm)(n:Nat)(BL:List Row):Prop:=(∀r∈BL,Last (tP R r.2) r.1/\∀p,r.2 p=true->p<n)/\(BL.map (·.1)).Nodup
theorem y53(hn:n<=60)(hB:Ykk R n BL)(hU:Ytc R n U)(hl:BL.length<=1000)(hp:p<n)(d0 y5 y6:AT):
 ∃(BL':List Row) (U':Option AK) (y5' y6':AT),Ykk R n BL'/\Ytc R n U'/\BL'.length<=BL.length+1/\(∀r∈BL,r∈BL')/\(U.isSome=true->U'.isSome=true)/\Red R BL' U'.isSome (tP R λx=>decide (x=p)) (oddO R (fl 60 λx=>decide (x=p)))/\
  Ydh [d0,some (.od false (kyD BL) (rwD R BL)),↑(voD U),↑(nD p),↑(smD (rg R p)),y5,y6]=some (.nx [d0,some (.od false (kyD BL') (rwD R BL')),↑(voD U'),↑(nD p),↑(smD (rg R p)),y5',y6']):=by
 have h0:=Yaf9 R (p:=p) (by lia)
 obtain⟨V,v1,v2,v4,v3⟩:=y2t hB.1 (λx=>decide (x=p)) (n:=n) (λq hq=>by
  grind)
 rw[<-h0]at v3;have hpl:=Yaec R V;have hi:Yn (prD2 R V)=some [.tup ((fl 60 V).map nD),.tup [.tup ((fl 60 (tP R V)).map nD),.bl (oddO R (fl 60 V))]]:=rfl;have hfz:frz [1] [d0,some (.od false (kyD BL) (rwD R BL)),↑(voD U),↑(nD p),↑(smD (rg R p)),y5,y6]=[d0,↑(.dct false (kyD BL) (rwD R BL)),↑(voD U),↑(nD p),↑(smD (rg R p)),y5,y6]:=rfl
 have hlend:∀f:AX,f [d0,↑(.dct false (kyD BL) (rwD R BL)),↑(voD U),↑(nD p),↑(smD (rg R p)),y5,y6]=some (prD2 R V)->Ynh [1] f [d0,some (.od false (kyD BL) (rwD R BL)),↑(voD U),↑(nD p),↑(smD (rg R p)),y5,y6]=some (prD2 R V):=λf hf=>by
  unfold Ynh;grind
 have hcall:cC (Ye (dTup (Ye (dTup (Ye (getV 3) aNil)) (Ye (getV 4) aNil))) (Ye (getV 1) aNil)) Yfg [d0,↑(.dct false (kyD BL) (rwD R BL)),↑(voD U),↑(nD p),↑(smD (rg R p)),y5,y6]=some (prD2 R V):=by
  generalize prD2 R V=PV,smD (rg R p)=S1,nD p=P1,D.dct false (kyD BL) (rwD R BL)=DD at *;simp[v3]
 have hc5:sSet 5 (Ynh [1] (cC (Ye (dTup (Ye (dTup (Ye (getV 3) aNil)) (Ye (getV 4) aNil))) (Ye (getV 1) aNil)) Yfg)) [d0,some (.od false (kyD BL) (rwD R BL)),↑(voD U),↑(nD p),↑(smD (rg R p)),y5,y6]=some (.nx [d0,some (.od false (kyD BL) (rwD R BL)),↑(voD U),↑(nD p),↑(smD (rg R p)),↑(prD2 R V),y6]):=by
  simp_all
 rw[Ydh,Ybx,hc5,qd,Yg3];generalize hPV:prD2 R V=PV at hi ⊢;generalize smD (rg R p)=S1;generalize nD p=P1;rcases Yvk (tP R V)with he|⟨b,hb,hne,hat⟩
 ·rw[he]at hi
  have hz:∀x,x<60->tP R V x=false:=λx hx=>by
   simp_all
  cases ho:oddO R (fl 60 V)with
  | false=>
    refine⟨BL,U,↑PV,↑(.tup []),hB,hU,by lia,λ_ h=>h,λh=>h,v4 BL _ (λ_ h=>h) (.zero hz λ_=>ho),?_⟩
    simp_all
  | true=>
    cases U with
    | some U0=>
      refine⟨BL,some U0,↑PV,↑(.tup []),hB,hU,by lia,λ_ h=>h,λh=>h,v4 BL _ (λ_ h=>h) (.zero hz λh=>nomatch h),?_⟩;rw[ho]at hi;generalize kyD BL=K;generalize rwD R BL=VV;simp[hi,voD]
    | none=>
      refine⟨BL,some V,↑PV,↑(.tup []),hB,λU' hU'=>?_,by lia,λ_ h=>h,λ_=>rfl,v4 BL _ (λ_ h=>h) (.zero hz λh=>nomatch h),?_⟩
      ·grind
      ·rw[ho]at hi
       generalize kyD BL=K;generalize rwD R BL=VV;simp[hi,voD]
 ·have hbn:b∉BL.map (·.1):=by
   rcases v2 with z|⟨c,hc,hcn⟩
   ·grind
   ·rw[hb.uniq hc];exact hcn
  refine⟨BL++[(b,V)],U,↑PV,↑(.tup ((fl 60 (tP R V)).map nD)),⟨λr hr=>?_,?_⟩,hU,by simp,λr hr=>List.mem_append_left _ hr,λh=>h,v4 _ _ (λr hr=>List.mem_append_left _ hr) (.step (b,V) (by simp) hb (.zero (λx _=>by simp) λ_=>by simp)),?_⟩
  ·rcases qv hr with hr|hr
   ·exact hB.1 r hr
   simp_all
  ·rw[wt]
   exact List.nodup_append.mpr ⟨hB.2,by simp,λx hx y hy z=>by
    grind⟩
  ·have hemp:((fl 60 (tP R V)).map nD).isEmpty=false:=by
    simp_all
   have hput:Yuh (kyD BL) (rwD R BL) (.int (b:Int)) PV=some (kyD (BL++[(b,V)]),rwD R (BL++[(b,V)])):=by
    rw[Yfd,Ym6,qd,if_pos (show(rwD R BL).length<cap6 by rw[qf];show BL.length<1000000;lia),if_neg (λz=>hbn (mem_castI.mp z)),<-hPV];simp[nD]
   have hnb:nD b=.int (b:Int):=rfl;rw[hnb]at hat;generalize kyD (BL++[(b,V)])=K2,rwD R (BL++[(b,V)])=V2,kyD BL=K,rwD R BL=VV,(fl 60 (tP R V)).map nD=L at *;simp[hi,hemp,hat,hput,-Yfd]
theorem Yaed(R:List Sm)(hp:p<60)(x:Nat)(hx:x<60):tP R (λx=>decide (x=p)) x=(rg R p).1 x:=by
 unfold tP;rw[Yw2 hp];have:=Yqh R [] p x;rw[Qd]at this;rw[this];have h1:oddP R [] x=0:=rfl;grind
theorem y54(R:List Sm)(hp:p<60):oddO R (fl 60 λx=>decide (x=p))=(rg R p).2:=by
 rw[Yw2 hp];unfold oddO;grind
def rwAt:List Row->Nat->AK
 | [],_=>λ_=>false
 | r::BL,b=>if r.1=b then r.2 else rwAt BL b
theorem Yfk(f:(AK)->D):∀{BL:List Row},b∈BL.map (·.1)->(b,rwAt BL b)∈BL/\Yab ((BL.map (·.1)).map λx:Nat=>(x:Int)) (BL.map λr=>f r.2) (b:Int)=some (f (rwAt BL b))
 | [],h=>(nomatch h)
 | r::BL,h=>by
   show(b,rwAt (r::BL) b)∈r::BL/\Yab ((r.1:Int)::((BL.map (·.1)).map λx:Nat=>(x:Int))) (f r.2::BL.map λr=>f r.2) (b:Int)=some (f (rwAt (r::BL) b));rw[Yab,rwAt];by_cases e:r.1=b
   ·grind
   ·have h':b∈BL.map (·.1):=by
     grind
    obtain⟨h1,h2⟩:=Yfk f h';grind
theorem Yw3{BL:List Row}(h:(BL.map (·.1)).Nodup)(hr:r∈BL)(hs:s∈BL)(e:r.1=s.1):r=s:=by
 induction BL with
 | nil=>grind
 | cons a BL ih=>
   grind
theorem Yqk{l:AG}(hn:l.Nodup)(hl:∀x∈l,x<60):l.length<=60:=by
 have hp:l.Perm (fl 60 λx=>decide (x∈l)):=(List.perm_ext_iff_of_nodup hn (List.nodup_range.filter _)).mpr λx=>by
  grind
 rw[hp.length_eq];grind
theorem y2v(l:AG)(hn:l.Nodup):∃l':AG,l'.Perm l/\l'.Pairwise (·<·)/\Yc1 (l.map λx:Nat=>(x:Int))=l'.map λx:Nat=>(x:Int):=by
 have hp:=Yaz (l.map λx:Nat=>(x:Int));have hs:=Ya5 (l.map λx:Nat=>(x:Int))
 have e2:∃l':AG,Yc1 (l.map λx:Nat=>(x:Int))=l'.map λx:Nat=>(x:Int):=by
  refine⟨(Yc1 (l.map λx:Nat=>(x:Int))).map Int.toNat,?_⟩;rw[Qe];refine(List.map_id _).symm.trans (Qj λx hx=>?_);grind
 obtain⟨l',e2⟩:=e2;rw[e2]at hp hs
 have hp':l'.Perm l:=by
  have:=hp.map Int.toNat;simpa [wu]using this
 have hn':l'.Nodup:=hp'.nodup_iff.mpr hn
 have hs':l'.Pairwise (·<=·):=(List.pairwise_map.mp hs).imp λh=>by lia
 exact⟨l',hp',(hs'.and hn').imp λh=>Nat.lt_of_le_of_ne h.1 h.2,e2⟩
theorem y2w(hR:R.length<=60):∃(BL:List Row) (U:Option AK),Ykk R R.length BL/\Ytc R R.length U/\BL.Pairwise (λr s=>r.1<s.1)/\
 (∀p,p<R.length->Red R BL U.isSome (rg R p).1 (rg R p).2)/\
 Ygm [.tup [.str "sums",.tup (R.map smD)]]=some (.tup [.lst (rwD R BL),voD U]):=by
 generalize hb:D.tup [.str "sums",.tup (R.map smD)]=Bo
 have hbi:Yn Bo=some [.str "sums",.tup (R.map smD)]:=by rw[<-hb];rfl
 obtain⟨ρ1,e1,BL,U,y3,y4,y5,y6,hB,hU,hL,hD,rfl⟩:=Ydb (gt:=Ypg 3 4) (fb:=Ydh) (λi:Nat=>D.tup [.int (i:Int),smD (rg R i)]) (λpre ρ=>∃(BL:List Row) (U:Option AK) (y3 y4 y5 y6:AT),Ykk R R.length BL/\Ytc R R.length U/\BL.length<=pre.length/\(∀p∈pre,Red R BL U.isSome (tP R λx=>decide (x=p)) (oddO R (fl 60 λx=>decide (x=p))))/\
  ρ=[↑Bo,some (.od false (kyD BL) (rwD R BL)),↑(voD U),y3,y4,y5,y6]) (List.range R.length) []
  [↑Bo,some (.od false [] []),↑.non,none,none,none,none] ⟨[],none,none,none,none,none,⟨by simp,by simp⟩,λ_ h=>(nomatch h),by simp,by simp,rfl⟩ (by
   rintro q p r ρ e ⟨BL,U,y3,y4,y5,y6,hB,hU,hL,hD,rfl⟩
   have hp:p<R.length:=by
    have:p∈List.range R.length:=by grind
    grind
   have hq:q.length<=R.length:=by have:=congrArg List.length e;grind
   obtain⟨BL',U',y5',y6',hB',hU',hL',hs,hu,hred,hst⟩:=y53 hR hB hU (by lia) hp (some (.sh Bo)) y5 y6;refine⟨_,_,rfl,hst,BL',U',_,_,y5',y6',hB',hU',by simp;lia,λp' hp'=>?_,rfl⟩;rcases qv hp' with z|z
   ·exact(hD p' z).mono hs hu
   grind)
 rw[Qd]at hL hD;rw[List.length_range]at hL
 have hlast:∀x∈BL.map (·.1),x<60:=λx hx=>by
  obtain⟨r,hr,rfl⟩:=qw hx;exact(hB.1 r hr).1.1
 obtain⟨l',hp',hpw,hso⟩:=y2v (BL.map (·.1)) hB.2;have hlen:=Yqk hB.2 hlast;have hin:∀b∈l',(b,rwAt BL b)∈BL:=λb hb=>(Yfk (prD2 R) (hp'.mem_iff.mp hb)).1
 have hkeys:(l'.map λb=>(b,rwAt BL b)).map (·.1)=l':=by
  rw[Qe];exact List.map_id _
 have hsub:∀r∈BL,r∈l'.map λb=>(b,rwAt BL b):=λr hr=>by
  have h1:r.1∈l':=hp'.mem_iff.mpr (List.mem_map_of_mem (f:=(·.1)) hr);have h2:=Yw3 hB.2 hr (hin r.1 h1) rfl;grind
 refine⟨l'.map λb=>(b,rwAt BL b),U,⟨λr hr=>?_,?_⟩,hU,?_,λp hp=>?_,?_⟩
 ·obtain⟨b,hb,rfl⟩:=qw hr
  exact hB.1 _ (hin b hb)
 ·rw[hkeys];exact hp'.nodup_iff.mpr hB.2
 ·grind
 ·have:=(hD p (List.mem_range.mpr hp)).mono hsub (λh=>h)
  rw[y54 R (by lia)]at this;exact this.congr λx hx=>Yaed R (by lia) x hx
 ·rw[Ygm,y0 (by rfl)]
  have hst:Yr 7 [Bo]=[↑Bo,none,none,none,none,none,none]:=rfl;have hen:Ylz (R.map smD)=(List.range R.length).map λi:Nat=>D.tup [.int (i:Int),smD (rg R i)]:=y17 smD (λ_=>false,false) R
  have hsk:Yh2 [.dct false (kyD BL) (rwD R BL)]=some (l'.map nD):=by
   rw[Yl7,Ym6,qd,if_pos (by grind),hso,Qe];rfl
  have hcm:=Ygi (fe:=Ygl) (r:=[↑(.dct false (kyD BL) (rwD R BL))]) (enc:=nD) (λb=>prD2 R (rwAt BL b)) (l:=l') (λb hb=>by
   have hg:getI (.dct false (kyD BL) (rwD R BL)) (.int (b:Int))=some (prD2 R (rwAt BL b)):=by
    rw[Yfp,Ym6,qd];exact(Yfk (prD2 R) (hp'.mem_iff.mp hb)).2
   have hnb:nD b=.int (b:Int):=rfl;rw[hnb];generalize prD2 R (rwAt BL b)=PB,D.dct false (kyD BL) (rwD R BL)=DD at *
   simp[Ygl,hg,-Yfp])
  have hrw:rwD R (l'.map λb=>(b,rwAt BL b))=l'.map λb=>prD2 R (rwAt BL b):=by
   simp_all
  rw[hrw];rw[hst,Ysh,Ybx];have e0:Yug 1 [↑Bo,none,none,none,none,none,none]=some (.nx [↑Bo,some (.od false [] []),none,none,none,none,none]):=rfl;rw[e0,qd,Yg3,Yml,Ybx];have e2:sSet 2 (kD .non) [↑Bo,some (.od false [] []),none,none,none,none,none]=some (.nx [↑Bo,some (.od false [] []),↑.non,none,none,none,none]):=rfl;rw[e2,qd,Yg3,Ymk,Ybx]
  have e3:sFor (b1 (b2 (getC 0) (kD (.int 1)) ixD) Yl0) (Ypg 3 4) Ydh [↑Bo,some (.od false [] []),↑.non,none,none,none,none]=some (.nx [↑Bo,some (.od false (kyD BL) (rwD R BL)),↑(voD U),y3,y4,y5,y6]):=by
   simp_all
  rw[e3,qd,Yg3,Ymj,Yadz];have e4:frz [1] [↑Bo,some (.od false (kyD BL) (rwD R BL)),↑(voD U),y3,y4,y5,y6]=[↑Bo,↑(.dct false (kyD BL) (rwD R BL)),↑(voD U),y3,y4,y5,y6]:=rfl;rw[e4];generalize (l'.map λb=>prD2 R (rwAt BL b))=RR,D.dct false (kyD BL) (rwD R BL)=DD,voD U=VU at *;simp[hsk,capR,hcm]
theorem Yaag{Q:(AK)->Bool->Prop}(h0:Q (λ_=>false) false)(hx:∀{T S o u},Q T o->Q S u->Q (λx=>T x != S x) (o != u))(hc:∀{T T' o},Q T o->(∀x,x<60->T x=T' x)->Q T' o)(h:∀p∈ps,Q (rg R p).1 (rg R p).2):Q (λx=>decide (oddP R ps x%2=1)) (oddO R ps):=by
 have key:∀l:AG,(∀p∈l,Q (rg R p).1 (rg R p).2)->Q (λx=>decide (oddP R l.reverse x%2=1)) (oddO R l.reverse):=λl=>by
  induction l with
  | nil=>exact λ_=>hc h0 λx _=>rfl
  | cons p l ih=>
    intro hl;have h1:=ih λq hq=>hl q (qg _ hq);have h2:=hx h1 (hl p qh);rw[List.reverse_cons,y51];refine hc h2 λx hx=>?_;rw[Yqh];cases hp:(rg R p).1 x
    ·rw[if_neg λz=>by rw[List.mem_filter,hp]at z;exact qi z.2]
     cases decide (oddP R l.reverse x%2=1)<;>rfl
    ·rw[if_pos (List.mem_filter.mpr ⟨List.mem_range.mpr hx,hp⟩)]
     by_cases z:oddP R l.reverse x%2=1
     ·rw[wn z,wo (by lia)];rfl
     ·rw[wo z,wn (by lia)];rfl
 have:=key ps.reverse λp hp=>h p (List.mem_reverse.mp hp)
 rwa [List.reverse_reverse]at this
theorem Yaga(h:tP R W x=true):∃p,(rg R p).1 x=true:=by
 have h1:oddP R (fl 60 W) x%2=1:=by simpa [tP]using h
 unfold oddP at h1
 cases e:(fl 60 W).filter λp=>decide (x∈fl 60 (rg R p).1)with
 | nil=>grind
 | cons p l=>
   have:p∈(fl 60 W).filter λp=>decide (x∈fl 60 (rg R p).1):=by rw[e];simp
   grind
def hdD(b:Bool):D:=.str (if b=true then Str.ofString "keeper" else Str.ofString "storm")
theorem Yvl(c:Int)(n:Nat)(hn:n<=1000):∃hs:AJ,hs.length=n/\Yf5 [.int c,.int n]=some (.tup (hs.map hdD)):=by
 obtain⟨v,hv0,hv⟩:=Yvf c 1442695040888963407;rw[Yf5,y0 (by rfl)];have hr:=Yjx (n:=(n:Int)) (by lia) (by lia);rw[Yh5]at hr
 have hc:=Ygi (fe:=Yde) (r:=[↑(.int v)]) (enc:=λi:Nat=>D.int (0+(i:Nat))) (λi:Nat=>hdD (decide (v/2^i%2=0))) (l:=List.range ((n:Int)-0).toNat) (λi _=>by
  have h1:=y1f v i
  have h2:v/2^i%2=0\/v/2^i%2=1:=by lia
  have e0:(0:Int)+(i:Int)=(i:Int):=by lia
  rw[e0];rcases h2 with h2|h2
  ·simp[Yde,h1,h2,hdD]
  ·simp[Yde,h1,h2,hdD])
 refine⟨(List.range n).map λi:Nat=>decide (v/2^i%2=0),by simp,?_⟩;simp[Ym3,Yr,hv,hr,capR]at hc ⊢;rw[hc];simp[wu]
theorem Ym7(l:AG)(hn:l.Nodup)(hl:l.length<64):∃l':AG,l'.Perm l/\l'.Pairwise (·<·)/\Ykl [.lst (l.map nD)]=some (l'.map nD):=by
 have e1:l.map nD=(l.map Int.ofNat).map D.int:=by simp_all
 have hp:=Yaz (l.map Int.ofNat);have hs:=Ya5 (l.map Int.ofNat)
 have e2:∃l':AG,Yc1 (l.map Int.ofNat)=l'.map Int.ofNat:=by
  have hm:∀x∈Yc1 (l.map Int.ofNat),0<=x:=λx hx=>by
   grind
  refine⟨(Yc1 (l.map Int.ofNat)).map Int.toNat,?_⟩;rw[Qe];refine(List.map_id _).symm.trans (Qj λx hx=>?_);grind
 obtain⟨l',e2⟩:=e2;rw[e2]at hp hs
 have hp':l'.Perm l:=by
  have:=hp.map Int.toNat;simpa [wu]using this
 refine⟨l',hp',?_,?_⟩
 ·have hn':l'.Nodup:=hp'.nodup_iff.mpr hn
  have hs':l'.Pairwise (·<=·):=by
   have:=List.pairwise_map.mp hs
   simp_all
  exact(hs'.and hn').imp λh=>Nat.lt_of_le_of_ne h.1 h.2
 ·show Yx0 (l.map nD)=_
  rw[e1];unfold Yx0;rw[Ygh]
  simp_all
theorem y2x(l:BA)(h:l.length<=2)(hn:(l.map (·.1)).Nodup):∃l':BA,l'.Perm l/\l'.Pairwise slt/\Ykl [.lst (l.map sayD)]=some (l'.map sayD):=by
 match l,h,hn with
 | [],_,_=>exact⟨[],.refl _,.nil,rfl⟩
 | [a],_,_=>exact⟨[a],.refl _,by simp,rfl⟩
 | [a,b],_,hn=>
   have hab:a.1≠b.1:=by simpa using hn
   have e:Ykl [.lst ([a,b].map sayD)]=some (if plt b.1 b.2 a.1 a.2=true then [sayD b,sayD a]else [sayD a,sayD b]):=rfl;obtain⟨x,p⟩:=a;obtain⟨y,q⟩:=b;have hxy:¬(y:Int)=(x:Int):=λz=>hab (by simp;lia)
   cases hp:plt (y:Int) q (x:Int) p with
   | true=>
     refine⟨[(y,q),(x,p)],.swap _ _ [],?_,by rw[e];simp[hp]⟩;unfold plt at hp;rw[if_neg hxy]at hp;simp at hp;simp[slt,hp]
   | false=>
     refine⟨[(x,p),(y,q)],.refl _,?_,by rw[e];simp[hp]⟩;unfold plt at hp;rw[if_neg hxy]at hp;simp at hp
     have:x<y:=by lia
     simp[slt,this]
theorem y2y(k:Kd)(c:Int)(st n:Nat)(h0:st<n)(hn:n<=1000):∃r:Rl,In k n r/\Srt r/\(∀x∈bcs r,st<=x)/\Yfj [kdD k,.int c,.int st,.int n]=some (rlD r):=by
 obtain⟨v,hv0,hv⟩:=Yvf c 1181783497276652981
 have hd0:(0:Int)<(n:Int)-st:=by lia
 have hd1:(n:Int)-st<1073741824:=by lia
 have hmod:∀x:Int,modI (.int x) (.int ((n:Int)-st))=some (.int (x%((n:Int)-st))):=λx=>y12 hd0;have hdiv:∀x:Int,divI (.int x) (.int ((n:Int)-st))=some (.int (x/((n:Int)-st))):=λx=>y5q hd0 hd1
 have hbe:∀x:Int,∃b:Nat,st<=b/\b<n/\(st:Int)+x%((n:Int)-st)=(b:Int):=λx=>by
  have h1:=Int.emod_nonneg x (show(n:Int)-st≠0 by lia);have h2:=Int.emod_lt_of_pos x hd0;exact⟨((st:Int)+x%((n:Int)-st)).toNat,by lia,by lia,by lia⟩
 have hst:Yr 8 [kdD k,.int c,.int st,.int n]=[↑(kdD k),↑(.int c),↑(.int st),↑(.int n),none,none,none,none]:=rfl;rw[Yfj,y0 (by rfl),hst];obtain⟨sz0,hsm,hsa⟩:=y97 (l:=([1,2,2,2,1,2,3,4]:AH)) (i:=v%8) (by lia) (by simp;lia)
 have hsz0:1<=sz0/\sz0<=4:=by
  simp at hsm;lia
 have hix:atI [D.int 1,D.int 2,D.int 2,D.int 2,D.int 1,D.int 2,D.int 3,D.int 4] (v%8)=some (.int sz0):=by
  rw[show[D.int 1,D.int 2,D.int 2,D.int 2,D.int 1,D.int 2,D.int 3,D.int 4]=([1,2,2,2,1,2,3,4]:AH).map D.int from rfl,Yft,hsa];rfl
 have hki:∀ρ:Ro,Yrv [1,2,2,2,1,2,3,4] ρ=some (([1,2,2,2,1,2,3,4]:AH).map D.int):=λρ=>by
  unfold Yrv;rw[if_pos (by decide)]
 have loop:∀(size:Int),0<=size->size<=4->∃(l:AG) (left:Int) (y:AT),(l.length:Int)<=size/\l.Nodup/\(∀x∈l,st<=x/\x<n)/\
  M.forM (gSet 7) Ycy ((List.range (size-0).toNat).map λi:Nat=>D.int (0+(i:Nat))) [↑(kdD k),↑(.int c),↑(.int st),↑(.int n),↑(.int (v/8)),↑(.int size),some (.ow []),none] =
   some (.nx [↑(kdD k),↑(.int c),↑(.int st),↑(.int n),↑(.int left),↑(.int size),some (.ow (l.map nD)),y]):=by
  intro size hs0 hs4
  obtain⟨ρ',e1,l,left,y,hl,hnd,hlt,rfl⟩:=Ydb (gt:=gSet 7) (fb:=Ycy) (λi:Nat=>D.int (0+(i:Nat))) (λpre ρ=>∃(l:AG) (left:Int) (y:AT),l.length<=pre.length/\l.Nodup/\(∀s∈l,st<=s/\s<n)/\
   ρ=[↑(kdD k),↑(.int c),↑(.int st),↑(.int n),↑(.int left),↑(.int size),some (.ow (l.map nD)),y]) (List.range (size-0).toNat) []
   [↑(kdD k),↑(.int c),↑(.int st),↑(.int n),↑(.int (v/8)),↑(.int size),some (.ow []),none] ⟨[],v/8,none,qu _,.nil,by simp,rfl⟩ (by
    rintro q a r ρ e ⟨l,left,y,hl,hnd,hlt,rfl⟩
    have hq:q.length<1000:=by have:=congrArg List.length e;simp at this;lia
    have hcap:l.length<1000000:=by lia
    obtain⟨b,hb1,hb2,hb⟩:=hbe left;have hin:=in_n (c:=.lst (l.map nD)) b l true rfl;simp only[nD]at hin;by_cases hm:b∈l
    ·refine⟨_,_,rfl,?_,l,left/((n:Int)-st),↑(.int (0+(a:Int))),by simp;lia,hnd,hlt,rfl⟩
     simp[Ycy,hmod,hdiv,hb,hin,hm,nD]
    ·refine⟨_,_,rfl,?_,l++[b],left/((n:Int)-st),↑(.int (0+(a:Int))),by simp;lia,?_,?_,rfl⟩
     ·simp[Ycy,hmod,hdiv,hb,hin,hm,appD,hcap,nD]
     ·rw[List.nodup_append]
      refine⟨hnd,by simp,?_⟩;intro x hx y hy z;simp at hy;subst hy;exact hm (z ▸ hx)
     ·intro s hs
      rcases qv hs with hs|hs
      ·exact hlt s hs
      ·simp at hs
       subst hs
       exact⟨hb1,hb2⟩)
  refine⟨l,left,y,?_,hnd,hlt,e1⟩;simp at hl;lia
 by_cases hk:k=.e
 ·subst hk
  obtain⟨size,hsz,hs0,hs2⟩:∃size:Int,(if (2:Int)<sz0 then 2 else sz0)=size/\0<=size/\size<=2:=⟨_,rfl,by split<;>lia,by split<;>lia⟩
  obtain⟨l,left,y,hl,hnd,hlt,e1⟩:=loop size hs0 (by lia);have hr:=Yjx (n:=size) (by lia) (by lia);rw[Yh5]at hr;have hr2:=Yjx (n:=(l.length:Int)) (by lia) (by lia);rw[Yh5]at hr2
  have hc:=Ygi (fe:=Yd0) (r:=[↑(.lst (l.map nD)),↑(.int left)]) (enc:=λi:Nat=>D.int (0+(i:Nat))) (λi:Nat=>sayD (l.getD i 0,decide (left/2^i%2=1))) (l:=List.range ((l.length:Int)-0).toNat) (λi hi=>by
   have hi':i<l.length:=by simpa using hi
   have h1:=y1f left i
   have e0:(0:Int)+(i:Int)=(i:Int):=by lia
   have hat:atI (l.map nD) (i:Int)=some (.int (l.getD i 0:Nat)):=by
    rw[Yft,Ylc hi'];simp[hi',nD]
   rw[e0]
   simp[Yd0,h1,hat,sayD])
  generalize hsl:(List.range l.length).map (λi:Nat=>((l.getD i 0,decide (left/2^i%2=1)):Say))=sl
  have hsl1:sl.map (·.1)=l:=by
   rw[<-hsl,Qe];refine List.ext_getElem (by simp) λi h1 h2=>?_;simp[h2]
  obtain⟨l',hp,hpw,hs⟩:=y2x sl (by rw[<-hsl];simp;lia) (by rw[hsl1];exact hnd);have hmem:∀s∈l',st<=s.1/\s.1<n:=λs hs=>hlt s.1 (by rw[<-hsl1];exact List.mem_map_of_mem (hp.mem_iff.mp hs));refine⟨.ei l',⟨rfl,λs hs=>(hmem s hs).2⟩,⟨by rw[hp.length_eq,<-hsl];simp;lia,hpw⟩,λx hx=>?_,?_⟩
  ·obtain⟨s,hs',rfl⟩:=qw hx
   exact(hmem s hs').1
  ·have hc':Yen (gSet 0) tY Yd0 [none,↑(.lst (l.map nD)),↑(.int left)] ((List.range ((l.length:Int)-0).toNat).map λi:Nat=>D.int (0+(i:Nat)))=some (sl.map sayD):=by
    rw[hc,<-hsl,Qe];simp[wu]
   simp[Yd5,hv,hki,hix,hsz,hr]at e1 ⊢;rw[e1];simp[hr2,capR]at hc' ⊢;rw[hc'];simp[hs,rlD]
 ·obtain⟨l,left,y,hl,hnd,hlt,e1⟩:=loop sz0 (by lia) hsz0.2
  have hr:=Yjx (n:=sz0) (by lia) (by lia);rw[Yh5]at hr;obtain⟨l',hp,hpw,hs⟩:=Ym7 l hnd (by lia);have hmem:∀s∈l',st<=s/\s<n:=λs hs=>hlt s (hp.mem_iff.mp hs);by_cases hks:k=.s
  ·subst hks
   refine⟨.su l' (decide (left%2=1)),⟨rfl,λs hs=>(hmem s hs).2⟩,hpw,λx hx=>(hmem x hx).1,?_⟩;simp[Yd5,hv,hki,hix,hr]at e1 ⊢;rw[e1];simp[hs,rlD]
  ·have hki2:k=.i\/k=.n:=by cases k<;>simp at hk hks ⊢
   by_cases h4:left%4=0
   ·refine⟨.im l' none,⟨hki2,λs hs=>(hmem s hs).2,λx hx=>by cases hx⟩,hpw,λx hx=>(hmem x hx).1,?_⟩
    simp[Yd5,hv,hki,hix,hr,hk,hks]at e1 ⊢;rw[e1];simp[hs,rlD,hks,h4,hk,optD]
   ·obtain⟨b,hb1,hb2,hb⟩:=hbe (left/4)
    by_cases h1:left%4=1
    ·have hcut:cutD (l.map nD) (some 1) none=(l.map nD).drop 1:=by
      have hm:=HT.sIx_nat (l.map nD).length 0 1;unfold cutD;simp at hm;simp[hm,HT.sIx]
      cases l with
      | nil=>simp
      | cons a l=>simp;exact List.take_of_length_le (by simp)
     obtain⟨m,hpm,hpwm,hsm'⟩:=Ym7 (l.drop 1) (hnd.sublist (List.drop_sublist 1 l)) (by simp;lia);have hmm:∀s∈m,st<=s/\s<n:=λs hs=>hlt s (List.mem_of_mem_drop (hpm.mem_iff.mp hs));refine⟨.im m (some b),⟨hki2,λs hs=>(hmm s hs).2,λx hx=>by cases hx;exact hb2⟩,hpwm,λx hx=>?_,?_⟩
     ·simp[bcs]at hx
      rcases hx with hx|rfl
      ·exact(hmm x hx).1
      ·exact hb1
     ·simp[Yd5,hv,hki,hix,hr,hk,hks]at e1 ⊢
      rw[e1];simp at hsm';simp[hs,rlD,hks,h4,h1,hk,optD,hcut,hmod,hb,hsm']
    ·refine⟨.im l' (some b),⟨hki2,λs hs=>(hmem s hs).2,λx hx=>by cases hx;exact hb2⟩,hpw,λx hx=>?_,?_⟩
     ·simp[bcs]at hx
      rcases hx with hx|rfl
      ·exact(hmem x hx).1
      ·exact hb1
     ·simp[Yd5,hv,hki,hix,hr,hk,hks]at e1 ⊢
      rw[e1];simp[hs,rlD,hks,h4,h1,hk,optD,hmod,hb]
theorem Yagb(a b:Bool):eqM false (hdD a) (hdD b)=some (a==b):=by
 rw[Yom (by simp[hdD]) (by simp[hdD])];cases a<;>cases b<;>decide +kernel
def ofH(hs:AJ)(st:Nat)(b:Bool):AG:=(List.range hs.length).filter λi=>decide (st<=i)&&(hs.getD i false==b)
theorem Ybn(hs:AJ)(hc:Yn c=some (hs.map hdD))(hl:hs.length<=1000)(st:Nat)(hst:st<=hs.length)(b:Bool):Yas [c,.int st,hdD b]=some (.lst ((ofH hs st b).map nD)):=by
 rw[Yas,y0 (by rfl)];have hr:=y96 (a:=(st:Int)) (n:=(hs.length:Int)) (by lia) (by lia) (by lia) (by lia);rw[Yh5]at hr
 have hcm:=Ymf (fc:=Yc6) (fe:=Yc7) (r:=[↑c,↑(hdD b)]) (enc:=λi:Nat=>D.int ((st:Int)+(i:Nat))) (λi:Nat=>hs.getD (st+i) false==b) (λi:Nat=>nD (st+i)) (l:=List.range ((hs.length:Int)-st).toNat) (λi hi=>by
  have hi':st+i<hs.length:=by grind
  have e0:(st:Int)+(i:Int)=((st+i:Nat):Int):=by lia
  have hat:atI (hs.map hdD) ((st+i:Nat):Int)=some (hdD (hs.getD (st+i) false)):=by
   rw[Yft,Ylc hi'];simp[hi']
  rw[e0]
  simp only[Yc6,y90,gCs,gC0,qd,y93,hc,hat,Yagb]) (λi _ _=>by simp[Yc7,nD])
 have he:(((List.range ((hs.length:Int)-st).toNat).filter λi:Nat=>hs.getD (st+i) false==b).map λi:Nat=>nD (st+i))=(ofH hs st b).map nD:=by
  unfold ofH
  have h1:List.range hs.length=List.range st++(List.range (hs.length-st)).map (st+·):=by
   rw[<-List.range_add];grind
  rw[h1,List.filter_append,List.filter_map]
  have h2:(List.range st).filter (λi=>decide (st<=i)&&(hs.getD i false==b))=[]:=by
   rw[List.filter_eq_nil_iff];grind
  have h3:((hs.length:Int)-st).toNat=hs.length-st:=by lia
  rw[h2,h3,Qd,Qe];simp[wu]
 have h3:((hs.length:Int)-st).toNat=hs.length-st:=by lia
 rw[he,h3]at hcm;rw[h3]at hr;simp[Yho,Yr,hc,hr,capR,hcm]
def isV(k:Kd)(r:Rl):Bool:=eqD (rlD r) (rlD (vd k))
def Yvm{R:List Rl}(hR:∀r∈R,In k n r/\sz r<=999999):Yej [Ycn k R]=some (.bl (R.any (isV k))):=by
 rw[Yej,y0 (by rfl)]
 have hc:=Ygi (fe:=Ye6) (r:=[↑(Ycn k R)]) (enc:=rlD) (λr=>D.bl (isV k r)) (l:=R) (λr hr=>by
  have:=y2o (hR r hr).1 (hR r hr).2
  simp[Ye6,this,isV])
 simp[Ymr,Yr,capR,hc,List.any_map,wu]
def kDct(ks:AG):D:=.dct false (ks.map nD) (ks.map λ_=>.bl true)
theorem Yw4(l:AG):intsD (l.map nD)=some (l.map λx:Nat=>(x:Int)):=by simp_all
theorem Yje(x:Nat)(ks:AG):((x:Int)∈ks.map λx:Nat=>(x:Int))↔x∈ks:=by grind
theorem Yagc(x:Nat)(ks:AG)(neg:Bool):hasI neg (nD x) (kDct ks)=some (decide (x∈ks)!=neg):=by
 rw[show nD x=.int x from rfl,kDct,Ypo,Yw4,Option.map_some,decide_eq_decide.mpr (Yje x ks)]
theorem Yaee(x:Nat)(ks:AG)(neg:Bool):hasN neg (.int (x:Int)) (kDct ks)=some (decide (x∈ks)!=neg):=by
 rw[kDct,Yk7,Yw4,Option.map_some,decide_eq_decide.mpr (Yje x ks)]
theorem Yaah(ks:AG)(hk:∀x∈ks,x<60)(neg:Bool):hasN neg .non (kDct ks)=some (false != neg):=by
 rw[kDct,y5c,Yw4,qd,if_pos];unfold Yoj;grind
def Yaef(x:Nat)(ks:AG):inM false (nD x) (kDct ks)=none:=rfl
theorem Ykx(r:IfR)(ks:AG):Ya1 [ifD r,kDct ks]=some (.bl (kn r.1 ks)):=by
 rw[Ya1,y0 (by rfl)];have h:=Ygi (fe:=Ya6) (r:=[↑(kDct ks)]) (enc:=nD) (λx=>D.bl (decide (x∈ks))) (l:=r.1) (λx _=>by simp[Ya6,Yagc x ks false,Yaef x ks]);simp[Yei,Yr,capR,h,kn,List.all_map,wu]
theorem Yy6(R:List IfR)(ks:AG)(i:Nat)(h:i<R.length):Yi4 [Yap R,kDct ks,.int (i:Int)]=some (.bl ((rAt R i).2.isSome&&kn (rAt R i).1 ks)):=by
 rw[Yi4,y0 (by rfl)];have h1:=Yaae (R:=R) (i:=(i:Int)) ⟨by lia,by lia⟩;have h2:=Ykx (rAt R i) ks;have h3:=Yy5 R i;rw[wn (by lia)]at h3
 cases hh:(rAt R i).2 with
 | none=>simp[Ymq,Yr,h3,h1,hh,optD]
 | some x=>simp[Ymq,Yr,h3,h1,h2,hh,optD]
def okS(R:List IfR)(ks:AG)(i:Nat):Bool:=match (rAt R i).2 with
 | none=>false
 | some x=>!decide (x∈ks)&&kn (rAt R i).1 ks
def nxt(R:List IfR)(ks:AG):AN:=(List.range R.length).find? (okS R ks)
theorem Ym8{α:Type}(enc:α->D)(p:α->Bool)(res:α->D)(I:Ro->Prop):∀(l:List α) (ρ:Ro),I ρ->
 (∀a∈l,∀ρ,I ρ->∃ρ1,gt (enc a) ρ=some ρ1/\((p a=false/\∃ρ2,fb ρ1=some (.nx ρ2)/\I ρ2)\/(p a=true/\fb ρ1=some (.rt (res a)))))->
 (∃a,l.find? p=some a/\M.forM gt fb (l.map enc) ρ=some (.rt (res a)))\/(l.find? p=none/\∃ρ',M.forM gt fb (l.map enc) ρ=some (.nx ρ')/\I ρ')
 | [],ρ,h0,_=>.inr ⟨rfl,ρ,rfl,h0⟩
 | a::l,ρ,h0,hs=>by
   obtain⟨ρ1,e1,h⟩:=hs a qh ρ h0;rw[Qa,M.forM,e1,qd,List.find?_cons];rcases h with⟨hp,ρ2,e2,h2⟩|⟨hp,e2⟩
   ·rw[e2,qd,hp]
    exact Ym8 enc p res I l ρ2 h2 λb hb=>hs b (qg _ hb)
   grind
def Yql(R:List IfR):Ylz (R.map ifD)=(List.range R.length).map λi:Nat=>D.tup [.int (i:Int),ifD (rAt R i)]:=by
 unfold Ylz;rw[qf];refine Qj λi hi=>?_;have hi':i<R.length:=qy hi;rw[rAt,w9,Qk,Qh,Qk,qq hi'];rfl
def Yht(R:List IfR)(ks:AG)(hk:∀x∈ks,x<60):Yb6 [Yap R,kDct ks]=some (optD (nxt R ks)):=by
 rw[Yb6,y0 (by rfl)];have hst:Yr 4 [Yap R,kDct ks]=[↑(Yap R),↑(kDct ks),none,none]:=rfl;rw[hst]
 have h:=Ym8 (gt:=Ypg 2 3) (fb:=Ya0) (λi:Nat=>D.tup [.int (i:Int),ifD (rAt R i)]) (okS R ks) (λi:Nat=>D.int (i:Int)) (λρ=>∃y z,ρ=[↑(Yap R),↑(kDct ks),y,z]) (List.range R.length)
  [↑(Yap R),↑(kDct ks),none,none] ⟨none,none,rfl⟩ (by
   rintro i hi ρ ⟨y,z,rfl⟩;have hi':i<R.length:=qy hi;refine⟨[↑(Yap R),↑(kDct ks),↑(.int (i:Int)),↑(ifD (rAt R i))],rfl,?_⟩;have hs:=Yy6 R ks i hi';have hnn:=Yaah ks hk true;unfold okS
   cases hh:(rAt R i).2 with
   | none=>
     left;rw[hh]at hs;refine⟨rfl,[↑(Yap R),↑(kDct ks),↑(.int (i:Int)),↑(ifD (rAt R i))],?_,_,_,rfl⟩;simp[Ya0,hh,optD,hnn,hs]
   | some x=>
     rw[hh]at hs;have hx:=Yaee x ks true;by_cases hm:x∈ks
     ·left
      refine⟨by simp[hm],[↑(Yap R),↑(kDct ks),↑(.int (i:Int)),↑(ifD (rAt R i))],?_,_,_,rfl⟩;simp[Ya0,hh,optD,hx,hm]
     ·cases hkn:kn (rAt R i).1 ks with
      | false=>
        left;rw[hkn]at hs;refine⟨by simp,[↑(Yap R),↑(kDct ks),↑(.int (i:Int)),↑(ifD (rAt R i))],?_,_,_,rfl⟩;simp[Ya0,hh,optD,hx,hm,hs]
      | true=>
        right;rw[hkn]at hs;refine⟨by simp[hm],?_⟩
        simp[Ya0,hh,optD,hx,hm,hs])
 rw[Yhq];rcases h with⟨i,h1,h2⟩|⟨h1,ρ',h2,h3⟩
 ·simp only[Ybx,y11,Yady,y90]
  simp[Yl0,Yql,h2,nxt,h1,optD]
 ·simp[Yl0,Yql,h2,nxt,h1,optD]
theorem Yw5(h:nxt R ks=some i):i<R.length/\∃x,(rAt R i).2=some x/\x∉ks/\kn (rAt R i).1 ks=true:=by
 unfold nxt at h;have h1:=List.mem_of_find?_eq_some h;have h2:=List.find?_some h;unfold okS at h2;grind
theorem y55(h:nxt R ks=none)(hi:i<R.length)(hx:(rAt R i).2=some x)(hk:kn (rAt R i).1 ks=true):x∈ks:=by
 unfold nxt at h;have:=List.find?_eq_none.mp h i (List.mem_range.mpr hi);unfold okS at this;grind
theorem Yjf:∀(n:Nat) (l:AG),l.Nodup->(∀x∈l,x<n)->l.length<=n
 | 0,l,_,h=>by
   cases l with
   | nil=>simp
   | cons a l=>exact absurd (h a qh) (by lia)
 | n+1,l,hn,h=>by
   have h1:=Yjf n (l.erase n) (hn.erase n) λx hx=>by
    grind
   grind
def Der(R:List IfR):AG->AG->Prop
 | _,[]=>True
 | ks,i::is=>(i<R.length/\(∃x,(rAt R i).2=some x)/\kn (rAt R i).1 ks=true)/\Der R (ks++[hdN (rAt R i)]) is
theorem Yw6(h:∀x,x∈ks↔x∈fs):kn b ks=kn b fs:=by
 unfold kn;grind
theorem Der.congr:∀{is ks fs:AG},(∀x,x∈ks↔x∈fs)->Der R ks is->Der R fs is
 | [],_,_,_,_=>trivial
 | i::is,ks,fs,h,d=>by
   obtain⟨⟨h1,h2,h3⟩,d⟩:=d;refine⟨⟨h1,h2,by rw[<-Yw6 h];exact h3⟩,Der.congr (λx=>?_) d⟩;simp[h x]
theorem y2z(R:List IfR)(hRo:∀r∈R,∀x,r.2=some x->x<60)(y:AT):∀(m fuel:Nat) (ks is:AG),60<=ks.length+m->m+1<=fuel->ks.Nodup->(∀x∈ks,x<60)->is.length+m<=1000->
 ∃js:AG,nxt R (ks++js.map λi:Nat=>hdN (rAt R i))=none/\(ks++js.map λi:Nat=>hdN (rAt R i)).Nodup/\(∀x∈ks++js.map (λi:Nat=>hdN (rAt R i)),x<60)/\Der R ks js/\js.length<=m/\
  Ybs (b2 (getC 4) (kD .non) (isN true)) Ya9 fuel [↑(Yap R),y,some (.od false (ks.map nD) (ks.map λ_=>.bl true)),some (.ow (is.map nD)),↑(optD (nxt R ks))] =
   some (.nx [↑(Yap R),y,some (.od false ((ks++js.map λi:Nat=>hdN (rAt R i)).map nD) ((ks++js.map λi:Nat=>hdN (rAt R i)).map λ_=>.bl true)),some (.ow ((is++js).map nD)),↑.non]):=by
 intro m
 induction m with
 | zero=>
   intro fuel ks is h1 h2 hn hk hi
   have hks:nxt R ks=none:=by
    cases h:nxt R ks with
    | none=>rfl
    | some i=>
      obtain⟨hl,x,hx,hxk,_⟩:=Yw5 h
      have hx60:x<60:=by
       refine hRo (rAt R i) ?_ x hx;unfold rAt;grind
      have:=Yjf 60 (ks++[x]) (by
       grind) (λz hz=>by
       grind)
      grind
   refine⟨[],by grind,by grind,by grind,trivial,qu _,?_⟩
   cases fuel with
   | zero=>lia
   | succ fuel=>
     rw[Ybs,hks];simp[optD]
 | succ m ih=>
   intro fuel ks is h1 h2 hn hk hi
   cases fuel with
   | zero=>lia
   | succ fuel=>
     cases h:nxt R ks with
     | none=>
       refine⟨[],by simpa using h,by grind,by grind,trivial,jb _,?_⟩;rw[Ybs];simp[optD]
     | some i=>
       obtain⟨hl,x,hx,hxk,hkn⟩:=Yw5 h
       have hx60:x<60:=by
        refine hRo (rAt R i) ?_ x hx;unfold rAt;grind
       have hhd:hdN (rAt R i)=x:=by simp[hdN,hx]
       have hn':(ks++[x]).Nodup:=by
        grind
       have hk':∀z∈ks++[x],z<60:=λz hz=>by
        grind
       obtain⟨js,k1,k2,k3,k4,k5,k6⟩:=ih fuel (ks++[x]) (is++[i]) (by simp;lia) (by lia) hn' hk' (by simp;lia)
       have e1:ks++(i::js).map (λi:Nat=>hdN (rAt R i))=ks++[x]++js.map λi:Nat=>hdN (rAt R i):=by simp[hhd]
       refine⟨i::js,by grind,by grind,by grind,⟨⟨hl,⟨x,hx⟩,hkn⟩,by grind⟩,by simp;lia,?_⟩;rw[e1]
       have e2:is++i::js=is++[i]++js:=by simp
       rw[e2,<-k6,Ybs]
       have hcap1:is.length<1000000:=by lia
       have hcap2:ks.length<1000000:=by have:=Yjf 60 ks hn hk;lia
       have hst:=Yht R (ks++[x]) hk';have hat:=Yaae (R:=R) (i:=(i:Int)) ⟨by lia,by lia⟩
       have hput:Yuh (ks.map nD) (ks.map λ_=>.bl true) (.int (x:Int)) (.bl true)=some ((ks++[x]).map nD,(ks++[x]).map λ_=>.bl true):=by
        have hm:¬(x:Int)∈ks.map λx:Nat=>(x:Int):=λz=>hxk ((Yje x ks).mp z);rw[Yfd,Yw4,qd,qf,if_pos (show ks.length<cap6 from hcap2),if_neg hm];simp[nD]
       have hsc:scal (optD (nxt R (ks++[x])))=some (optD (nxt R (ks++[x]))):=by cases nxt R (ks++[x])<;>simp[optD]
       have hfz:frz1 2 [↑(Yap R),y,some (.od false ((ks++[x]).map nD) ((ks++[x]).map λ_=>.bl true)),some (.ow ((is++[i]).map nD)),↑(.int (i:Int))]=[↑(Yap R),y,↑(kDct (ks++[x])),some (.ow ((is++[i]).map nD)),↑(.int (i:Int))]:=rfl
       have hb:Ya9 [↑(Yap R),y,some (.od false (ks.map nD) (ks.map λ_=>.bl true)),some (.ow (is.map nD)),↑(.int (i:Int))] =
        some (.nx [↑(Yap R),y,some (.od false ((ks++[x]).map nD) ((ks++[x]).map λ_=>.bl true)),some (.ow ((is++[i]).map nD)),↑(optD (nxt R (ks++[x])))]):=by
        have happ:is.map nD++[D.int (i:Int)]=(is++[i]).map nD:=by simp[nD]
        unfold Ya9;simp only[Ybx,y91];have ho:optD (some x)=.int (x:Int):=rfl;generalize optD (nxt R (ks++[x]))=nx,(ks++[x]).map nD=K2,((ks++[x]).map λ_=>D.bl true)=V2,(is++[i]).map nD=I2 at *;simp[appD,hcap1,hat,hx,ho,hput,happ,hfz,hst,hsc,-Yfd]
       simp[optD,hb,-wt]
theorem Yo1[DecidableEq α](x:α)(y:β):∀(ks:List α),setK ks (ks.map λ_=>y) x y=ks.map λ_=>y
 | []=>rfl
 | k::ks=>by
   rw[Qa,setK]
   split
   ·rfl
   ·rw[Yo1 x y ks]
def dd(ks:AG):AG->AG
 | []=>ks
 | x::fs=>dd (if x∈ks then ks else ks++[x]) fs
theorem y20:∀(fs ks:AG) (x:Nat),x∈dd ks fs↔x∈ks\/x∈fs
 | [],ks,x=>by simp[dd]
 | k::fs,ks,x=>by
   rw[dd,y20 fs];grind
theorem Yw7:∀(fs ks:AG),ks.Nodup->(dd ks fs).Nodup
 | [],_,h=>h
 | k::fs,ks,h=>by
   rw[dd];refine Yw7 fs _ ?_;grind
theorem y21:∀(fs ks:AG),dctG (ks.map λx:Nat=>(x:Int)) (ks.map λ_=>D.bl true) (fs.map λx:Nat=>((x:Int),D.bl true))=((dd ks fs).map (λx:Nat=>(x:Int)),(dd ks fs).map λ_=>D.bl true)
 | [],ks=>rfl
 | x::fs,ks=>by
   rw[Qa,dctG,dd];unfold putG;dsimp only;by_cases h:x∈ks
   ·rw[if_pos ((Yje x ks).mpr h),if_pos h]
    dsimp only;have e:=Yo1 (x:Int) (D.bl true) (ks.map λx:Nat=>(x:Int));rw[Qe]at e;have e':setK (ks.map λx:Nat=>(x:Int)) (ks.map λ_=>D.bl true) (x:Int) (D.bl true)=ks.map λ_=>D.bl true:=e;rw[e'];exact y21 fs ks
   ·rw[if_neg (λz=>h ((Yje x ks).mp z)),if_neg h]
    have:=y21 fs (ks++[x]);grind
theorem y22:∀fs:AG,Ydq (fs.map λx=>D.tup [nD x,.bl true])=some (fs.map λx:Nat=>((x:Int),D.bl true))
 | []=>by simp[Ydq]
 | x::fs=>by
   rw[Qa,show nD x=.int x from rfl,Ydq,y22 fs];rfl
theorem y56(l:AG)(vs:AR)(hn:l.Nodup)(hl:l.length<64):∃l':AG,l'.Perm l/\l'.Pairwise (·<·)/\Yh2 [.dct false (l.map nD) vs]=some (l'.map nD):=by
 obtain⟨l',h1,h2,h3⟩:=Ym7 l hn hl;refine⟨l',h1,h2,?_⟩;rw[<-h3,Yl7];show _=Yx0 _;unfold Yx0
 simp_all
structure Full(R:List IfR)(fs l js:AG):Prop where
 pw:l.Pairwise (·<·)
 mem:∀x,x∈l↔x∈fs++js.map λi:Nat=>hdN (rAt R i)
 der:Der R fs js
 none:∀i,i<R.length->∀x,(rAt R i).2=some x->kn (rAt R i).1 l=true->x∈l
 lt:∀x∈l,x<60
 len:js.length<=60
theorem y7k(R:List IfR)(hRo:∀r∈R,∀x,r.2=some x->x<60)(fs:AG)(hf:∀x∈fs,x<60)(hfl:fs.length<=1000)(hc:Yn c=some (fs.map nD)):
 ∃l js,Full R fs l js/\Yar [Yap R,c]=some (.tup [.lst (l.map nD),.tup (js.map nD)]):=by
 have hks:∀x∈dd [] fs,x<60:=λx hx=>by
  rw[y20]at hx;grind
 have hnd:(dd [] fs).Nodup:=Yw7 fs [] .nil;obtain⟨js,k1,k2,k3,k4,k5,k6⟩:=y2z R hRo (some (.sh c)) 60 4000 (dd [] fs) [] (by lia) (by lia) hnd hks (by simp);have hlen:=Yjf 60 _ k2 k3;obtain⟨l,h1,h2,h3⟩:=y56 (dd [] fs++js.map λi:Nat=>hdN (rAt R i)) ((dd [] fs++js.map λi:Nat=>hdN (rAt R i)).map λ_=>.bl true) k2 (by lia)
 have hmd:∀x,x∈dd [] fs↔x∈fs:=λx=>by rw[y20];simp
 refine⟨l,js,⟨h2,λx=>?_,k4.congr hmd,λi hi x hx hk=>?_,λx hx=>k3 x (h1.mem_iff.mp hx),k5⟩,?_⟩
 ·grind
 ·rw[h1.mem_iff]
  exact y55 k1 hi hx (by rw[<-hk];exact Yw6 λz=>h1.mem_iff.symm)
 ·rw[Yar,y0 (by rfl)]
  have hst:Yr 5 [Yap R,c]=[↑(Yap R),↑c,none,none,none]:=rfl;rw[hst];have hcomp:=Ygi (fe:=Ya8) (r:=[]) (enc:=nD) (λx=>D.tup [nD x,.bl true]) (l:=fs) (λx _=>by simp[Ya8,nD]);have hst2:=Yht R (dd [] fs) hks
  have hsc:scal (optD (nxt R (dd [] fs)))=some (optD (nxt R (dd [] fs))):=by cases nxt R (dd [] fs)<;>simp[optD]
  have hdct:=y21 fs [];rw[List.map_nil,List.map_nil]at hdct
  have hcap:(fs.map λx:Nat=>((x:Int),D.bl true)).length<1000000:=by grind
  have hcap':(fs.map λx:Nat=>((x:Int),D.bl true)).length<cap6:=hcap
  have hmm:((dd [] fs).map λx:Nat=>(x:Int)).map D.int=(dd [] fs).map nD:=by simp_all
  have hfz:frz1 2 [↑(Yap R),↑c,some (.od false ((dd [] fs).map nD) ((dd [] fs).map λ_=>.bl true)),some (.ow []),none]=[↑(Yap R),↑c,↑(kDct (dd [] fs)),some (.ow []),none]:=rfl
  have hd1:(sDct 2 (lF (Ybq (b1 (getV 1) Yn) [none] (gSet 0) tY (Ya8)))) [↑(Yap R),↑c,none,none,none]=some (.nx [↑(Yap R),↑c,some (.od false ((dd [] fs).map nD) ((dd [] fs).map λ_=>.bl true)),none,none]):=by
   simp only[y9k];simp[hc,capR,hcomp,y22];grind
  rw[Yfh]
  simp_all
theorem y23(neg:Bool)(a b:Say):eqM neg (sayD a) (sayD b)=some (if neg then !decide (a=b)else decide (a=b)):=by
 rw[Yom (by simp) (by simp),y18]
def Yqm(ag:Say)(l:BA):Option Say:=if ag∈l then some ((l.filter λt=>!decide (t=ag)).headD ag)else none
def ledL(L:AZ)(s:Say):BA:=L.filterMap (Yqm (flS s))
abbrev eiD(l:BA):D:=rlD (.ei l)
abbrev bkE(L:AZ):D:=.tup [kdD .e,.tup (L.map eiD)]
theorem y57(hL:L.length<=1000)(s:Say):Yld [bkE L,sayD s]=some (.lst ((ledL L s).map sayD)):=by
 have hcap:∀pre:AZ,(∃r,[]++L=pre++r)->(ledL pre s).length<1000000:=λpre ⟨r,e⟩=>by
  have h1:(ledL pre s).length<=pre.length:=List.length_filterMap_le _ _;grind
 obtain⟨ρ',e1,y,z,rfl⟩:=Ydb (gt:=gSet 4) (fb:=Yef) eiD (λpre ρ=>∃(y z:AT),
  ρ=[↑(bkE L),↑(sayD s),↑(sayD (flS s)),some (.ow ((ledL pre s).map sayD)),y,z]) L []
  [↑(bkE L),↑(sayD s),↑(sayD (flS s)),some (.ow []),none,none] ⟨none,none,rfl⟩ (by
   rintro q l r ρ e ⟨y,z,rfl⟩;have hc:=hcap q ⟨_,e⟩;have hin:=Yad3 (c:=eiD l) (flS s) l false rfl
   have hap:ledL (q++[l]) s=ledL q s++(Yqm (flS s) l).toList:=by
    simp only[ledL,List.filterMap_append];grind
   by_cases hm:flS s∈l
   ·have hcm:=Ymf (fc:=Yh6) (fe:=Yh7) (r:=[↑(sayD (flS s))]) (enc:=sayD) (λt=>!decide (t=flS s)) sayD (l:=l) (λx _=>by
     simp[Yh6,y23]) (λx _ _=>by simp[Yh7])
    have ho:Yqm (flS s) l=some ((l.filter λt=>!decide (t=flS s)).headD (flS s)):=by rw[Yqm,if_pos hm]
    rw[ho]at hap;generalize (l.filter λt=>!decide (t=flS s))=os at hcm hap;have happ:∀d:D,appD ((ledL q s).map sayD) d=some ((ledL q s).map sayD++[d]):=λd=>Ypz (by grind);refine⟨_,_,rfl,?_,↑(eiD l),some (.ow (os.map sayD)),rfl⟩
    cases os with
    | nil=>simp[Yef,hin,hm,capR,hcm,happ,hap]
    | cons o os=>simp[Yef,hin,hm,capR,hcm,happ,hap]
   ·have ho:Yqm (flS s) l=none:=by rw[Yqm,if_neg hm]
    rw[ho]at hap;refine⟨_,_,rfl,?_,↑(eiD l),z,rfl⟩
    simp[Yef,hin,hm,hap])
 rw[Yld,y0 (by rfl)];simp[Ywy,Yr,Yha];rw[e1];simp
def at0(road:BA)(i:Nat):Say:=road.getD i (0,false)
def stO(L:AZ)(road:BA)(i:Nat):Bool:=decide (at0 road (i+1)∈ledL L (at0 road i))
def okR(L:AZ)(road:BA):Bool:=decide (0<road.length)&&(List.range (road.length-1)).all (stO L road)
def Yvn(l:BA):Say:=at0 l (l.length-1)
theorem y24(h:okR L l=true):0<l.length:=by
 unfold okR at h;grind
def Yaai(L:AZ):Ycn .e (L.map Rl.ei)=bkE L:=by simp[Ycn,bkE,wu]
def there(L:AZ)(o k:BA):Bool:=okR L o&&(okR L k&&(decide (Yvn o=at0 k 0)&&decide (Yvn k=at0 o 0)))
def hdsR(R:List IfR)(is:AH):AG:=is.map λi=>hdN (rAt R i)
theorem y58(neg:Bool)(x:Nat)(b:AN):eqM neg (.int (x:Int)) (optD b)=some (if neg then !decide (some x=b)else decide (some x=b)):=by
 cases b with
 | none=>
   have:eqD (.int (x:Int)) .non=false:=by simp[eqD,toPy,PyData.eqv]
   rw[Yom (by simp) (by simp)];simp[optD,this]
 | some y=>simp[optD]
def wob(b:AN)(S:AG):AG:=S.filter λy=>!decide (some y=b)
theorem y25(S:AG)(b:AN):Yi3 [.lst (S.map nD),optD b]=some (.tup ((wob b S).map nD)):=by
 rw[Yi3,y0 (by rfl)]
 have h:=Ymf (fc:=Ygn) (fe:=Ygo) (r:=[↑(optD b)]) (enc:=nD) (λy=>!decide (some y=b)) nD (l:=S) (λy _=>by
  simp[Ygn,y58]) (λ_ _ _=>by simp[Ygo])
 generalize S.map nD=SS at *;simp[Ysj,Yr,capR,h,wob]
def Yaeg(R:List IfR)(S:AG)(b:AN)(is:AH):Bool:=match b with
 | none=>decide (is.length=0)
 | some x=>decide (x∈S)&&derB R S is
def foB(R:List IfR)(Kp:AG)(b:AN)(is:AH):AG:=match b with
 | none=>[]
 | some x=>Kp.filter λy=>decide (y<x)&&decide (y∈hdsR R is)
def y59(R:List IfR)(b:AN)(is:AH)(fs:AG):Bool:=decide (0<is.length)&&(decide (0<=is.getD (is.length-1) 0/\is.getD (is.length-1) 0<R.length)&&(derB R fs is.dropLast&&(kn (rAt R (is.getD (is.length-1) 0)).1 (fs++hdsR R is.dropLast)&&(decide ((rAt R (is.getD (is.length-1) 0)).2=none)||decide ((rAt R (is.getD (is.length-1) 0)).2=b)))))
theorem Yaaj(h:∀x,x∈ks↔x∈fs):kn b ks=kn b fs:=by
 unfold kn;grind
def Yvo(R:List IfR)(Kp S:AG)(b:AN)(is js:AH):Bool:=Yaeg R S b is&&y59 R b js (wob b S++foB R Kp b is)
abbrev Prw:=Nat×Option Nat×Bool
def prwD(r:Prw):D:=.tup [.int r.1,optD r.2.1,.bl r.2.2]
abbrev End:=Option Nat×Bool
def Ybu(rows:List Prw)(s:Say):End:=
 match rows.find? (λr=>r.1==s.1)with
 | none=>(some s.1,s.2)
 | some r=>(r.2.1,s.2==r.2.2)
def flE(e:End):End:=(e.1,!e.2)
def Ytd(es:List End):Bool:=es.any λe=>decide (e=(none,true))||decide (flE e∈es)
def rowP(S:AG)(r:Prw):Bool:=match r.2.1 with
 | none=>true
 | some x=>decide (x∈S)&&decide (x<r.1)
theorem y26:∀{a b:AG},a.Pairwise (·<·)->b.Pairwise (·<·)->(∀x,x∈a↔x∈b)->a=b
 | [],[],_,_,_=>rfl
 | [],y::b,_,_,h=>absurd ((h y).mpr qh) (by simp)
 | x::a,[],_,_,h=>absurd ((h x).mp qh) (by simp)
 | x::a,y::b,ha,hb,h=>by
   rw[List.pairwise_cons]at ha hb
   have hxy:x=y:=by
    have h1:=(h x).mp qh;have h2:=(h y).mpr qh;grind
   subst hxy
   have:a=b:=y26 ha.2 hb.2 λz=>by
    grind
   rw[this]
abbrev Srw:=Nat×List Nat×Bool
def srwD(r:Srw):D:=.tup [.int r.1,.tup (r.2.1.map nD),.bl r.2.2]
@[simp] theorem y27(r:Srw):Yn (srwD r)=some [.int r.1,.tup (r.2.1.map nD),.bl r.2.2]:=nr rfl
def Yaeh(a b c:D):atI [a,b,c] 1=some b:=rfl
def Yaei(a b c:D):atI [a,b,c] 2=some c:=rfl
def Yjg(rows:List Srw):D:=.dct false (rows.map λr=>nD r.1) (rows.map srwD)
theorem Yte:∀(ps:List (Int×α)) (ns:AH) (vs:List α),(ns++ps.map (·.1)).Nodup->dctG ns vs ps=(ns++ps.map (·.1),vs++ps.map (·.2))
 | [],ns,vs,_=>by simp[dctG]
 | p::ps,ns,vs,h=>by
   have hp:p.1∉ns:=λhm=>by
    grind
   rw[dctG,putG,if_neg hp]
   have h':((ns++[p.1])++ps.map (·.1)).Nodup:=by simpa using h
   rw[Yte ps _ _ h'];simp
theorem Ytf{l:AG}(h:l.Nodup):(l.map λx:Nat=>(x:Int)).Nodup:=by grind
theorem Yj8(x:Nat):∀rows:List Srw,Yab (rows.map λr=>((r.1:Nat):Int)) (rows.map srwD) (x:Int)=(rows.find? (λr=>r.1==x)).map srwD
 | []=>rfl
 | r::l=>by
   rw[Qa,Qa,Yab,Yj8 x l,List.find?_cons];grind
def Ycj(rows:List Srw)(x:Nat):Srw:=(rows.find? (λr=>r.1==x)).getD (x,[x],false)
def Ydl(rows:List Srw)(x:Nat):Sm:=(λy=>decide (y∈(Ycj rows x).2.1),(Ycj rows x).2.2)
theorem y6a(h:∀r∈rows,r.2.1.Pairwise (·<·)/\∀y∈r.2.1,y<60)(hx:x<60):(Ycj rows x).2.1.Pairwise (·<·)/\∀y∈(Ycj rows x).2.1,y<60:=by
 unfold Ycj
 cases e:rows.find? (λr=>r.1==x)with
 | none=>grind
 | some r=>grind
def y6b(rows:List Srw)(x:Nat):Ypm (Yjg rows) (.int (x:Int)) (.tup [.int (x:Int),.tup [.int (x:Int)],.bl false])=some (srwD (Ycj rows x)):=by
 have hi:intsD (rows.map λr=>nD r.1)=some (rows.map λr=>((r.1:Nat):Int)):=Yiu _ rows;rw[Yjg,Yl6,hi,Option.map_some,Yj8];unfold Ycj;cases rows.find? (λr=>r.1==x)<;>rfl
def Yaej(h:∀r∈rows,r.2.1.Pairwise (·<·)/\∀y∈r.2.1,y<60)(hx:x<60):D.tup [.tup ((Ycj rows x).2.1.map nD),.bl (Ycj rows x).2.2]=smD (Ydl rows x):=by
 obtain⟨h1,h2⟩:=y6a h hx;exact Yaeb h1 h2 _
def accR(rows:List Srw)(a:Sm)(x:Nat):Sm:=(λy=>a.1 y != (Ydl rows x).1 y,a.2 != (Ydl rows x).2)
def accL(rows:List Srw)(l:AG):Sm:=l.foldl (accR rows) (λ_=>false,false)
theorem y6c(rows:List Srw)(q:AG)(x:Nat):accL rows (q++[x])=accR rows (accL rows q) x:=by
 unfold accL;grind
theorem Yy7(h:∀r∈rows,r.2.1.Pairwise (·<·)/\∀y∈r.2.1,y<60)(ru:Sm):Yfi [smD ru,Yjg rows]=some (smD (accL rows (fl 60 ru.1))):=by
 have hf:∀x∈fl 60 ru.1,x<60:=λx hx=>qy (qz hx).1;have hit:Yn (smD ru)=some [.tup ((fl 60 ru.1).map nD),.bl ru.2]:=rfl;generalize smD ru=sr,fl 60 ru.1=F at *
 obtain⟨ρ',e1,y3,y4,rfl⟩:=Ydb (gt:=gSet 3) (fb:=Yf0) nD (λpre ρ=>∃(y3 y4:AT),ρ=[↑sr,↑(Yjg rows),↑(smD (accL rows pre)),y3,y4]) F []
  [↑sr,↑(Yjg rows),↑(smD (accL rows [])),none,none] ⟨none,none,rfl⟩ (by
   rintro q x r ρ e ⟨y3,y4,rfl⟩;have hx:x<60:=hf x (by grind);have hg:=y6b rows x;have hrow:=y27 (Ycj rows x);have hb:=Ykj (accL rows q).1 (Ydl rows x).1 (accL rows q).2 (Ydl rows x).2;have hsm:=Yaej h hx
   have hb':Yby [smD (accL rows q),smD (Ydl rows x)]=some (smD (accL rows (q++[x]))):=by rw[y6c];exact hb
   rw[<-hsm]at hb';refine⟨_,[↑sr,↑(Yjg rows),↑(smD (accL rows (q++[x]))),↑(nD x),↑(srwD (Ycj rows x))],rfl,?_,_,_,rfl⟩;generalize smD (accL rows (q++[x]))=A2,smD (accL rows q)=A1,Yjg rows=sd,(Ycj rows x).2.1.map nD=R1,srwD (Ycj rows x)=rr at *
   simp[Yf0,hg,hrow,Yaeh,Yaei,hb'])
 rw[Qd]at e1;rw[Yfi,y0 (by rfl)];have h0:D.tup [.tup [],.bl false]=smD (accL rows []):=rfl;generalize smD (accL rows [])=A0,smD (accL rows F)=A1,Yjg rows=sd,F.map nD=FF at *;simp[Yot,Yr,h0,hit,e1]
abbrev Rrw:=Nat×AG
def rrwD(r:Rrw):D:=.tup [.int r.1,.tup (r.2.map nD)]
theorem Yy8(l:AG)(x:Nat):Yg7 [.tup (l.map nD),.int x]=some (.lst ((l.filter λy=>decide (y<x)).map nD)):=by
 have hc:=Ymf (fc:=Yf1) (fe:=Yf2) (r:=[↑(.int (x:Int))]) (enc:=nD) (λy=>decide (y<x)) nD (l:=l) (λy _=>by
  simp[Yf1]) (λy _ _=>by simp[Yf2])
 rw[Yg7,y0 (by rfl)];generalize (l.filter λy=>decide (y<x)).map nD=L2,l.map nD=L1 at *;simp[You,Yr,capR,hc]
def od(l:AG)(E:AK):Bool:=decide ((l.filter E).length%2=1)
def y28(E:AK):od [] E=false:=rfl
theorem Yie(a:Nat)(l:AG)(E:AK):od (a::l) E=(E a != od l E):=by
 unfold od;grind
def Yqn(h:∀x∈l,E x=F x):od l E=od l F:=by
 unfold od;rw[List.filter_congr h]
theorem Yw8(h:∀x∈l,E x=false):od l E=false:=by
 unfold od;rw[List.filter_eq_nil_iff.mpr λx hx=>by grind];rfl
theorem y7l:∀{l:AG},l.Nodup->∀y:Nat,od l (λx=>decide (y=x))=decide (y∈l)
 | [],_,y=>by simp[y28]
 | a::l,h,y=>by
   rw[List.nodup_cons]at h;rw[Yie,y7l h.2];grind
def xr(T E:AK):Bool:=od (List.range 60) (λx=>T x&&E x)
theorem y7m(f g:AK):∀l:AG,od l (λx=>f x != g x)=(od l f != od l g)
 | []=>rfl
 | a::l=>by
   rw[Yie,Yie,Yie,y7m f g l];cases f a<;>cases g a<;>cases od l f<;>cases od l g<;>rfl
theorem y29(T S E:AK):xr (λx=>T x != S x) E=(xr T E != xr S E):=by
 unfold xr;rw[<-y7m];grind
theorem Yagd(ha:a<60)(E:AK):xr (λx=>decide (x=a)) E=E a:=by
 unfold xr
 have h:od (List.range 60) (λx=>decide (x=a)&&E x)=od (List.range 60) (λx=>decide (a=x)&&E a):=Yqn λx _=>by
  grind
 rw[h]
 cases E a with
 | false=>exact Yw8 λx _=>by simp
 | true=>
   have h2:od (List.range 60) (λx=>decide (a=x)&&true)=od (List.range 60) (λx=>decide (a=x)):=Yqn λx _=>by simp
   rw[h2,y7l List.nodup_range];simp[ha]
theorem Yaek(f E:AK):od (fl 60 f) E=xr f E:=by
 unfold od xr od fl;rw[List.filter_filter];grind
theorem y7n(rows:List Srw):∀(l:AG) (a:Sm),(∀y,(l.foldl (accR rows) a).1 y=(a.1 y != od l (λx=>(Ydl rows x).1 y)))/\(l.foldl (accR rows) a).2=(a.2 != od l (λx=>(Ydl rows x).2))
 | [],a=>⟨λy=>by rw[y28,List.foldl_nil];grind,by rw[y28,List.foldl_nil];grind⟩
 | x::l,a=>by
   obtain⟨h1,h2⟩:=y7n rows l (accR rows a x);refine⟨λy=>?_,?_⟩
   ·rw[List.foldl_cons,h1 y,Yie]
    show((a.1 y != (Ydl rows x).1 y)!=_)=_;grind
   ·rw[List.foldl_cons,h2,Yie]
    show((a.2 != (Ydl rows x).2)!=_)=_;grind
def kp(rows:List Srw)(T:AK)(o:Bool):Prop:=(∀y,y<60->xr T (λx=>(Ydl rows x).1 y)=false)/\xr T (λx=>(Ydl rows x).2)=o
def Yhb(h:∀x,x<60->(T x&&E x)=(S x&&F x)):xr T E=xr S F:=Yqn λx hx=>h x (qy hx)
theorem y7o(rows:List Srw)(T:AK):(∀y,(accL rows (fl 60 T)).1 y=xr T (λx=>(Ydl rows x).1 y))/\(accL rows (fl 60 T)).2=xr T (λx=>(Ydl rows x).2):=by
 obtain⟨h1,h2⟩:=y7n rows (fl 60 T) (λ_=>false,false);refine⟨λy=>?_,?_⟩
 ·show((fl 60 T).foldl (accR rows) (λ_=>false,false)).1 y=_
  rw[h1 y,Yaek];grind
 ·show((fl 60 T).foldl (accR rows) (λ_=>false,false)).2=_
  rw[h2,Yaek];grind
theorem fl_nil:fl 60 T=[]↔∀x,x<60->T x=false:=by simp_all
def y7p(h:kp rows T o)(h':kp rows S u):kp rows (λx=>T x != S x) (o != u):=
 ⟨λy hy=>by rw[y29,h.1 y hy,h'.1 y hy];rfl,by rw[y29,h.2,h'.2]⟩
def y6d(h:kp rows T o)(e:∀x,x<60->T x=S x):kp rows S o:=
 ⟨λy hy=>by rw[<-h.1 y hy];exact Yhb λx hx=>by rw[e x hx],by rw[<-h.2];exact Yhb λx hx=>by rw[e x hx]⟩
theorem Yvp(h:∀x,x<60->T x=false):xr T E=false:=Yw8 λx hx=>by
 grind
def y3a(h:∀x,x<60->T x=false):kp rows T false:=⟨λ_ _=>Yvp h,Yvp h⟩
theorem Red.kp(hB:∀r∈BL,kp rows (tP R r.2) (oddO R (fl 60 r.2)))(h:Red R BL false T o):Lw.kp rows T o:=by
 induction h with
 | zero h0 h1=>
   rw[h1 rfl];exact y3a h0
 | step r hr hl _ ih=>
   have:=y7p ih (hB r hr)
   simp_all
def Yael(h:∀p∈ps,kp rows (rg R p).1 (rg R p).2):kp rows (λx=>decide (oddP R ps x%2=1)) (oddO R ps):=
 Yaag (Q:=kp rows) (y3a λ_ _=>rfl) (λh1 h2=>y7p h1 h2) (λh1 h2=>y6d h1 h2) h
theorem y3b(h:x≠r.1):Ycj (rows++[r]) x=Ycj rows x:=by
 unfold Ycj;grind
theorem Yy9(h:r.1∉rows.map (·.1)):Ycj (rows++[r]) r.1=r:=by
 unfold Ycj;grind
theorem Ym9(h:x∉rows.map (·.1)):Ycj rows x=(x,[x],false):=by
 unfold Ycj
 have e:(rows.find? λq=>q.1==x)=none:=by
  grind
 rw[e];rfl
theorem Yo2(h:x∈rows.map (·.1)):Ycj rows x∈rows/\(Ycj rows x).1=x:=by
 unfold Ycj
 cases e:rows.find? (λq=>q.1==x)with
 | none=>
   grind
 | some q=>grind
def wl(T:AK)(k:Nat):AK:=λx=>T x&&!decide (x=k)
theorem Yaak(hk:k<60)(hT:T k=true)(E:AK):xr T E=(xr (wl T k) E != E k):=by
 rw[<-Yagd hk E,<-y29];refine Yhb λx _=>?_;unfold wl;grind
def Yif(rows:List Srw)(k:Nat)(T:AK)(o:Bool):Srw:=(k,fl 60 (accL rows (fl 60 (wl T k))).1,(accL rows (fl 60 (wl T k))).2 != o)
inductive Mk (S:AG) (Tf:Nat->AK) (of:AK):List Srw->Prop
 | nil:Mk S Tf of []
 | snoc {rows:List Srw}{k:Nat}:Mk S Tf of rows->(∀r∈rows,r.1<k)->Last (Tf k) k->(∀x,x<k->Tf k x=true->x∈S\/x∈rows.map (·.1))->Mk S Tf of (rows++[Yif rows k (Tf k) (of k)])
theorem Yaem(h:Mk S Tf of rows):∀r∈rows,∀x,x<60->Tf r.1 x=true->x<=r.1:=by
 induction h with
 | nil=>grind
 | snoc h1 h2 hL hS ih=>
   intro r hr;rcases qv hr with hr|hr
   ·exact ih r hr
   ·rw[List.mem_singleton]at hr
    subst hr;exact hL.2.2
theorem Yage(h:Mk S Tf of rows):∀r∈rows,kp rows (Tf r.1) (of r.1):=by
 induction h with
 | nil=>grind
 | snoc h1 h2 hL hS ih=>
   rename_i rows k;have hne:∀x,x<k->Ycj (rows++[Yif rows k (Tf k) (of k)]) x=Ycj rows x:=λx hx=>y3b (λz=>by have z':x=k:=z;lia)
   have hni:k∉rows.map (·.1):=λz=>by
    grind
   have hla:Ycj (rows++[Yif rows k (Tf k) (of k)]) k=Yif rows k (Tf k) (of k):=Yy9 (r:=Yif rows k (Tf k) (of k)) hni;intro r hr;rcases qv hr with hr|hr
   ·have hk:=h2 r hr
    obtain⟨g1,g2⟩:=ih r hr
    have hlt:∀x,x<60->Tf r.1 x=true->x<k:=λx hx hT=>by
     exact Nat.lt_of_le_of_lt (Yaem h1 r hr x hx hT) hk
    refine⟨λy hy=>?_,?_⟩
    ·rw[<-g1 y hy]
     refine Yhb λx hx=>?_
     cases hT:Tf r.1 x with
     | false=>rfl
     | true=>
       unfold Ydl;grind
    ·rw[<-g2]
     refine Yhb λx hx=>?_
     cases hT:Tf r.1 x with
     | false=>rfl
     | true=>
       unfold Ydl;grind
   ·rw[List.mem_singleton]at hr
    subst hr;show kp _ (Tf k) (of k);obtain⟨a1,a2⟩:=y7o rows (wl (Tf k) k)
    have hlt:∀x,x<60->wl (Tf k) k x=true->x<k:=λx hx hw=>by
     unfold wl at hw;rw[Qb]at hw;have:=hL.2.2 x hx hw.1;grind
    have hsame:∀f:Srw->Bool,xr (wl (Tf k) k) (λx=>f (Ycj (rows++[Yif rows k (Tf k) (of k)]) x))=xr (wl (Tf k) k) (λx=>f (Ycj rows x)):=λf=>Yhb λx hx=>by
     grind
    refine⟨λy hy=>?_,?_⟩
    ·rw[Yaak hL.1 hL.2.1]
     have e1:(Ydl (rows++[Yif rows k (Tf k) (of k)]) k).1 y=(accL rows (fl 60 (wl (Tf k) k))).1 y:=by
      unfold Ydl;rw[hla];show decide (y∈fl 60 (accL rows (fl 60 (wl (Tf k) k))).1)=_;grind
     have e2:=hsame λr=>decide (y∈r.2.1)
     have e3:xr (wl (Tf k) k) (λx=>(Ydl (rows++[Yif rows k (Tf k) (of k)]) x).1 y)=(accL rows (fl 60 (wl (Tf k) k))).1 y:=by
      rw[a1 y];exact e2
     grind
    ·rw[Yaak hL.1 hL.2.1]
     have e1:(Ydl (rows++[Yif rows k (Tf k) (of k)]) k).2=((accL rows (fl 60 (wl (Tf k) k))).2 != of k):=by
      unfold Ydl;rw[hla];rfl
     have e2:=hsame λr=>r.2.2
     have e3:xr (wl (Tf k) k) (λx=>(Ydl (rows++[Yif rows k (Tf k) (of k)]) x).2)=(accL rows (fl 60 (wl (Tf k) k))).2:=by
      rw[a2];exact e2
     simp_all
theorem y3c:∀{l:AG}{E:AK},od l E=true->∃x∈l,E x=true
 | [],_,h=>by cases h
 | a::l,E,h=>by
   rw[Yie]at h
   cases ha:E a with
   | true=>grind
   | false=>
     rw[ha]at h
     have h2:od l E=true:=by grind
     obtain⟨x,hx,e⟩:=y3c h2;grind
theorem y3d(h:xr T E=true):∃x,x<60/\T x=true/\E x=true:=by
 obtain⟨x,hx,e⟩:=y3c h;grind
theorem Yaen(h:Mk S Tf of rows):∀r∈rows,r.1<60/\r.2.1.Pairwise (·<·)/\∀y∈r.2.1,y∈S/\y<r.1:=by
 induction h with
 | nil=>grind
 | snoc h1 h2 hL hS ih=>
   rename_i rows k;intro r hr;rcases qv hr with hr|hr
   ·exact ih r hr
   ·rw[List.mem_singleton]at hr
    subst hr;refine⟨hL.1,List.Pairwise.filter _ List.pairwise_lt_range,λy hy=>?_⟩;have hy2:(accL rows (fl 60 (wl (Tf k) k))).1 y=true:=(qz hy).2;rw[(y7o rows (wl (Tf k) k)).1 y]at hy2;obtain⟨x,hx,hw,he⟩:=y3d hy2;unfold wl at hw;rw[Qb]at hw
    have hxk:x<k:=by
     have:=hL.2.2 x hx hw.1;grind
    have he2:y∈(Ycj rows x).2.1:=wq he;by_cases hin:x∈rows.map (·.1)
    ·obtain⟨g1,g2⟩:=Yo2 hin
     obtain⟨_,_,g3⟩:=ih _ g1;obtain⟨g4,g5⟩:=g3 y he2;exact⟨g4,by show y<k;lia⟩
    ·rw[Ym9 hin]at he2
     have hyx:y=x:=by grind
     subst hyx;exact⟨(hS y hxk hw.1).resolve_right hin,hxk⟩
def Bad(S:AG)(T:AK)(o:Bool):Prop:=(fl 60 T=[]/\o=true)\/∃l∈S,Last T l
theorem never(hk:rows.map (·.1)=K)(hr:∀r∈rows,∀y∈r.2.1,y<r.1)(hSK:∀x∈S,x∉K)(h:kp rows T o):¬Bad S T o:=λhb=>by
 rcases hb with⟨h0,rfl⟩|⟨l,hl,hL⟩
 ·have:=h.2
  rw[Yvp (fl_nil.mp h0)]at this;cases this
 ·have h1:=h.1 l hL.1
  rw[Yaak hL.1 hL.2.1]at h1
  have e1:(Ydl rows l).1 l=true:=by
   unfold Ydl;rw[Ym9 (by grind)];simp
  have e2:xr (wl T l) (λx=>(Ydl rows x).1 l)=false:=by
   cases hz:xr (wl T l) (λx=>(Ydl rows x).1 l)with
   | false=>rfl
   | true=>
     obtain⟨x,hx,hw,he⟩:=y3d hz;unfold wl at hw;rw[Qb]at hw
     have hxk:x<l:=by
      have:=hL.2.2 x hx hw.1;grind
     have he2:l∈(Ycj rows x).2.1:=wq he;by_cases hin:x∈rows.map (·.1)
     ·obtain⟨g1,g2⟩:=Yo2 hin
      grind
     ·rw[Ym9 hin]at he2
      grind
  grind
def Yqo(R:List Sm)(W:AK):Yn (prD2 R W)=some [.tup ((fl 60 W).map nD),.tup [.tup ((fl 60 (tP R W)).map nD),.bl (oddO R (fl 60 W))]]:=rfl
theorem Yjh(h:Last (tP R W) b):Yct [prD2 R W]=some (.int (b:Int)):=by
 have hi:=Yqo R W;rcases Yvk (tP R W)with h0|⟨c,hc,_,ha⟩
 ·have:=fl_nil.mp h0 b h.1
  rw[h.2.1]at this;cases this
 ·have e:=h.uniq hc
  subst e;rw[Yct,y0 (by rfl)];generalize (fl 60 (tP R W)).map nD=L,prD2 R W=PW at *;simp[Yjb,Yr,hi,ha]
def BadW(R:List Sm)(S:AG)(W:AK):Prop:=(∀p,W p=true->p<R.length)/\Bad S (tP R W) (oddO R (fl 60 W))
theorem Yna(hB:Ykk R R.length BL)(hU:Ytc R R.length U)(S:AG):
 ∃V:Option AK,(V=none->U=none/\∀r∈BL,r.1∉S)/\(∀W,V=some W->BadW R S W)/\Ybc [.lst (rwD R BL),voD U,.lst (S.map nD)]=some (voD V):=by
 cases U with
 | some U'=>
   refine⟨some U',λh=>(nomatch h),λW hW=>?_,?_⟩
   ·cases hW
    obtain⟨g1,g2,g3⟩:=hU U' rfl;exact⟨g3,.inl ⟨g1,g2⟩⟩
   ·rw[Ybc,y0 (by rfl)]
    generalize rwD R BL=RB;generalize S.map nD=SS;simp[Ycw,Yr,voD]
 | none=>
   have hc:=Ymf (fc:=Ycu) (fe:=Ycv) (r:=[↑(.lst (S.map nD))]) (enc:=λr:Row=>prD2 R r.2) (λr=>decide (r.1∈S)) (λr=>.tup ((fl 60 r.2).map nD)) (l:=BL) (λr hr=>by
    have hl:=Yjh (hB.1 r hr).1;have hin:=in_n (c:=.lst (S.map nD)) r.1 S false rfl;generalize prD2 R r.2=PW,S.map nD=SS at *
    simp[Ycu,hl,hin]) (λr hr _=>by
    have hi:=Yqo R r.2;generalize prD2 R r.2=PW at *
    simp[Ycv,hi])
   have hrw:(BL.map λr:Row=>prD2 R r.2)=rwD R BL:=rfl;rw[hrw]at hc
   cases hL:BL.filter λr=>decide (r.1∈S)with
   | nil=>
     rw[hL,List.map_nil]at hc;refine⟨none,λ_=>⟨rfl,λr hr z=>?_⟩,λW hW=>(nomatch hW),?_⟩
     ·have:r∈BL.filter λr=>decide (r.1∈S):=List.mem_filter.mpr ⟨hr,wn z⟩
      grind
     ·rw[Ybc,y0 (by rfl)]
      generalize rwD R BL=RB,S.map nD=SS at *;simp[Ycw,Yr,voD,capR,hc]
   | cons r L=>
     rw[hL,Qa]at hc;have hr:r∈BL/\decide (r.1∈S)=true:=qz (by rw[hL];exact qh);refine⟨some r.2,λh=>(nomatch h),λW hW=>?_,?_⟩
     ·cases hW
      exact⟨(hB.1 r hr.1).2,.inr ⟨r.1,wq hr.2,(hB.1 r hr.1).1⟩⟩
     ·rw[Ybc,y0 (by rfl)]
      have hv:voD (some r.2)=.tup ((fl 60 r.2).map nD):=rfl;rw[hv]
      have a0:∀(a:D) (l:AR),atI (a::l) 0=some a:=λa l=>by simp_all
      generalize D.tup ((fl 60 r.2).map nD)=TT at *;generalize (L.map λr:Row=>D.tup ((fl 60 r.2).map nD))=LL at *;generalize rwD R BL=RB,S.map nD=SS at *;simp[Ycw,Yr,voD,capR,hc,a0]
theorem Yagf(h:Last T k):fl 60 T=fl 60 (wl T k)++[k]:=by
 refine y26 (List.Pairwise.filter _ List.pairwise_lt_range) ?_ λx=>?_
 ·rw[List.pairwise_append]
  refine⟨List.Pairwise.filter _ List.pairwise_lt_range,by simp,λa ha b hb=>?_⟩;rw[List.mem_singleton]at hb;subst hb;obtain⟨g1,g2⟩:=qz ha;unfold wl at g2;rw[Qb]at g2;have:=h.2.2 a (qy g1) g2.1;grind
 ·rw[List.mem_append,List.mem_singleton,List.mem_filter,List.mem_filter,List.mem_range]
  unfold wl;constructor
  ·grind
  ·rintro(⟨g1,g2⟩|rfl)
   ·grind
   ·exact⟨h.1,h.2.1⟩
theorem Yaeo(h:Last T k):cutD ((fl 60 T).map nD) none (some (-1))=(fl 60 (wl T k)).map nD:=by
 have e:HT.sIx ((fl 60 T).map nD).length ((fl 60 T).map nD).length (some (-1))=(fl 60 T).length-1:=by
  rw[qf];unfold HT.sIx;simp;lia
 unfold cutD;rw[e,HT.sIx_none,Yagf h];simp
def tfB(R:List Sm)(BL:List Row)(k:Nat):AK:=if k∈BL.map (·.1)then tP R (rwAt BL k)else λx=>decide (x=k)
def ofB(R:List Sm)(BL:List Row)(k:Nat):Bool:=if k∈BL.map (·.1)then oddO R (fl 60 (rwAt BL k))else false
theorem Ytg(f:(AK)->D){b:Nat}:∀{BL:List Row},b∉BL.map (·.1)->Yab ((BL.map (·.1)).map λx:Nat=>(x:Int)) (BL.map λr=>f r.2) (b:Int)=none
 | [],_=>rfl
 | r::BL,h=>by
   show Yab ((r.1:Int)::((BL.map (·.1)).map λx:Nat=>(x:Int))) (f r.2::BL.map λr=>f r.2) (b:Int)=none;have e:¬r.1=b:=λz=>h (by grind);rw[Yab,if_neg (by lia)];exact Ytg f λz=>h (qg _ z)
abbrev tlD(R:List Sm)(BL:List Row):AR:=BL.map λr=>totD R (fl 60 r.2)
theorem y6e(R:List Sm)(BL:List Row){k:Nat}(hk:k<60):Ypm (.dct false (kyD BL) (tlD R BL)) (.int (k:Int)) (.tup [.tup [.int (k:Int)],.bl false])=some (smD (tfB R BL k,ofB R BL k)):=by
 rw[Yl6,Ym6,Option.map_some];unfold tfB ofB;by_cases h:k∈BL.map (·.1)
 ·have:=(Yfk (λW=>totD R (fl 60 W)) h).2
  rw[this,if_pos h,if_pos h];rfl
 ·have:=Ytg (λW=>totD R (fl 60 W)) h
  rw[this,if_neg h,if_neg h];have e:=Yw2 hk;grind
theorem y3e(hB:Ykk R R.length BL)(hk:k<60):Last (tfB R BL k) k:=by
 unfold tfB;by_cases h:k∈BL.map (·.1)
 ·rw[if_pos h]
  exact(hB.1 _ (Yfk (λ_=>D.non) h).1).1
 ·rw[if_neg h]
  exact⟨hk,by simp,λx _ hx=>by grind⟩
theorem Yth(R:List Sm):∀BL:List Row,Ydq (BL.map λr=>.tup [.int r.1,totD R (fl 60 r.2)])=some (BL.map λr=>((r.1:Int),totD R (fl 60 r.2)))
 | []=>rfl
 | r::l=>by rw[Qa,Ydq,Yth R l];rfl
def Yaep(a:Sm):plB (smD a)=true:=by
 have h1:=y2u (fl 60 a.1);show plB (.tup [.tup ((fl 60 a.1).map nD),.bl a.2])=true;simp only[plB,plBL,h1,Bool.and_self]
theorem Yvq(hB:Ykk R R.length BL)(hk:k<60)(hl:rows.length<=1000)(hr:∀r∈rows,r.1<k/\r.2.1.Pairwise (·<·)/\∀y∈r.2.1,y<60)(a0 a1 y5 y6:AT):
 ∃z5 z6:AT,Ydz [a0,a1,some (.od false (kyD BL) (tlD R BL)),some (.od false (rows.map λr=>nD r.1) (rows.map srwD)),↑(nD k),y5,y6] =
  some (.nx [a0,a1,some (.od false (kyD BL) (tlD R BL)),some (.od false ((rows++[Yif rows k (tfB R BL k) (ofB R BL k)]).map λr=>nD r.1) ((rows++[Yif rows k (tfB R BL k) (ofB R BL k)]).map srwD)),↑(nD k),z5,z6]):=by
 have hL:=y3e hB hk;have hg:=y6e R BL hk;have hru:Yn (smD (tfB R BL k,ofB R BL k))=some [.tup ((fl 60 (tfB R BL k)).map nD),.bl (ofB R BL k)]:=rfl;have hcut:=Yaeo hL;have hrep:=Yy7 (rows:=rows) (λr hm=>(hr r hm).2) (wl (tfB R BL k) k,false);have hre:smD (wl (tfB R BL k) k,false)=.tup [.tup ((fl 60 (wl (tfB R BL k) k)).map nD),.bl false]:=rfl;rw[hre]at hrep;have hai:Yn (smD (accL rows (fl 60 (wl (tfB R BL k) k))))=some [.tup ((fl 60 (accL rows (fl 60 (wl (tfB R BL k) k))).1).map nD),.bl (accL rows (fl 60 (wl (tfB R BL k) k))).2]:=rfl;have hpl:=Yaep (accL rows (fl 60 (wl (tfB R BL k) k)))
 have hni:k∉rows.map (·.1):=λz=>by
  grind
 have hky:(rows.map λr=>nD r.1)=(rows.map (·.1)).map nD:=by simp_all
 have hput:∀d:D,Yuh (rows.map λr=>nD r.1) (rows.map srwD) (.int (k:Int)) d=some ((rows.map λr=>nD r.1)++[.int (k:Int)],rows.map srwD++[d]):=λd=>by
  rw[Yfd,hky,Ym6,qd,if_pos (show(rows.map srwD).length<cap6 by rw[qf];show rows.length<1000000;lia),if_neg (λz=>hni (mem_castI.mp z))]
 have hap1:((rows++[Yif rows k (tfB R BL k) (ofB R BL k)]).map λr=>nD r.1)=(rows.map λr=>nD r.1)++[.int (k:Int)]:=by rw[wt];rfl
 have hap2:(rows++[Yif rows k (tfB R BL k) (ofB R BL k)]).map srwD=rows.map srwD++[.tup [.int (k:Int),.tup ((fl 60 (accL rows (fl 60 (wl (tfB R BL k) k))).1).map nD),.bl ((accL rows (fl 60 (wl (tfB R BL k) k))).2 != ofB R BL k)]]:=by rw[wt];rfl
 rw[hap1,hap2];have hsd:Yjg rows=.dct false (rows.map λr=>nD r.1) (rows.map srwD):=rfl;rw[hsd]at hrep;refine⟨some (.sh (smD (tfB R BL k,ofB R BL k))),↑(smD (accL rows (fl 60 (wl (tfB R BL k) k)))),?_⟩;generalize (accL rows (fl 60 (wl (tfB R BL k) k))).2=ao at *;generalize (fl 60 (accL rows (fl 60 (wl (tfB R BL k) k))).1).map nD=AF at *;generalize smD (accL rows (fl 60 (wl (tfB R BL k) k)))=AS,(fl 60 (wl (tfB R BL k) k)).map nD=WF,(fl 60 (tfB R BL k)).map nD=TF,smD (tfB R BL k,ofB R BL k)=RU at *;generalize ofB R BL k=oo at *;clear hky hap1 hap2 hsd hr hni;generalize (rows.map λr=>nD r.1)=RK,rows.map srwD=RS,kyD BL=KB,tlD R BL=TB at *
 have hs6:Ynh [3] (cC (Ye (dTup (Ye (slD (b2 (getC 5) (kD (.int 0)) ixD) none (some (b1 (kD (.int 1)) negI))) (Ye (kD (.bl false)) aNil))) (Ye (getV 3) aNil)) Yfi) [a0,a1,some (.od false KB TB),some (.od false RK RS),↑(nD k),↑RU,y6]=some AS:=by
  unfold Ynh;have hf:frz [3] [a0,a1,some (.od false KB TB),some (.od false RK RS),↑(nD k),↑RU,y6]=[a0,a1,some (.od false KB TB),↑(.dct false RK RS),↑(nD k),↑RU,y6]:=rfl
  simp_all
 simp[Ydz,hg,hs6,hai,hru,hput,-Yl6,-Yfd];grind
theorem y6f(hn:(rows.map (·.1)).Nodup)(hr:r∈rows):getI (Yjg rows) (.int (r.1:Int))=some (srwD r):=by
 have hi:intsD (rows.map λr=>nD r.1)=some (rows.map λr=>((r.1:Nat):Int)):=Yiu _ rows;rw[Yjg,Yfp,hi,qd,Yj8]
 have h2:rows.find? (λq=>q.1==r.1)=some r:=by
  cases e:rows.find? (λq=>q.1==r.1)with
  | none=>
    grind
  | some q=>
    have hq:=List.mem_of_find?_eq_some e
    have hqe:q.1=r.1:=by grind
    congr 1
    clear e hi
    induction rows with
    | nil=>cases hr
    | cons a l ih=>
      grind
 rw[h2];rfl
theorem Yza(hB:Ykk R R.length BL)(hBl:BL.length<=1000)(hK:K.Pairwise (·<·))(hK60:∀k∈K,k<60)(hS60:∀x∈S,x<60)(hT:∀k∈K,∀x,x<60->tfB R BL k x=true->x∈S\/x∈K):
 ∃rows:List Srw,Mk S (tfB R BL) (ofB R BL) rows/\rows.map (·.1)=K/\Yg8 [.lst (rwD R BL),.lst (K.map nD)]=some (.tup (rows.map srwD)):=by
 have hKl:K.length<=60:=Yqk (hK.imp λh=>qm h) hK60
 have hc:=Ygi (fe:=Ycx) (r:=[]) (enc:=λr:Row=>prD2 R r.2) (λr=>.tup [.int r.1,totD R (fl 60 r.2)]) (l:=BL) (λr hr=>by
  have hl:=Yjh (hB.1 r hr).1;have hi:=Yqo R r.2;have ht:totD R (fl 60 r.2)=.tup [.tup ((fl 60 (tP R r.2)).map nD),.bl (oddO R (fl 60 r.2))]:=rfl;rw[<-ht]at hi;generalize totD R (fl 60 r.2)=TT,prD2 R r.2=PW at *
  simp[Ycx,hl,hi])
 have hrw:(BL.map λr:Row=>prD2 R r.2)=rwD R BL:=rfl;rw[hrw]at hc;have h1:pairsOf (.lst (BL.map λr=>.tup [.int r.1,totD R (fl 60 r.2)]))=some (BL.map λr=>((r.1:Int),totD R (fl 60 r.2))):=Yth R BL;have hn2:=Ytf hB.2
 have hd:=Yte (BL.map λr=>((r.1:Int),totD R (fl 60 r.2))) [] [] (by
  grind)
 have hlen:(BL.map λr=>((r.1:Int),totD R (fl 60 r.2))).length<1000000:=by grind
 obtain⟨ρ',e1,rows,y4,y5,y6,hM,hrk,rfl⟩:=Ydb (gt:=gSet 4) (fb:=Ydz) nD (λpre ρ=>∃(rows:List Srw) (y4 y5 y6:AT),Mk S (tfB R BL) (ofB R BL) rows/\rows.map (·.1)=pre/\
  ρ=[↑(.lst (rwD R BL)),↑(.lst (K.map nD)),some (.od false (kyD BL) (tlD R BL)),some (.od false (rows.map λr=>nD r.1) (rows.map srwD)),y4,y5,y6]) K []
  [↑(.lst (rwD R BL)),↑(.lst (K.map nD)),some (.od false (kyD BL) (tlD R BL)),some (.od false [] []),none,none,none] ⟨[],none,none,none,.nil,rfl,rfl⟩ (by
   rintro q k r ρ e ⟨rows,y4,y5,y6,hM,hrk,rfl⟩;rw[Qd]at e
   have hkK:k∈K:=by rw[e];simp
   have hk60:=hK60 k hkK;have hpw:=hK;rw[e,List.pairwise_append]at hpw;have hlt:∀r∈rows,r.1<k:=λr hr=>hpw.2.2 r.1 (by grind) k (by simp);have hok:=Yaen hM
   have hrl:rows.length<=1000:=by
    grind
   obtain⟨z5,z6,hst⟩:=Yvq hB hk60 (rows:=rows) hrl (λr hr=>⟨hlt r hr,(hok r hr).2.1,λy hy=>hS60 y ((hok r hr).2.2 y hy).1⟩) (some (.sh (.lst (rwD R BL)))) (some (.sh (.lst (K.map nD)))) y5 y6;refine⟨_,_,rfl,hst,rows++[Yif rows k (tfB R BL k) (ofB R BL k)],_,_,_,.snoc hM hlt (y3e hB hk60) λx hx hTx=>?_,?_,rfl⟩
   ·rcases hT k hkK x (by lia) hTx with h|h
    ·exact .inl h
    ·right
     rw[hrk];rw[e]at h;rcases qv h with h|h
     ·exact h
     ·rcases qt h with h|h
      ·lia
      ·have h3:=hpw.2.1
       rw[List.pairwise_cons]at h3;grind
   ·rw[wt,hrk]
    rfl)
 rw[Qd]at hrk
 have hn:(rows.map (·.1)).Nodup:=by grind
 have hc1:=Ygi (fe:=Yf3) (r:=[↑(Yjg rows)]) (enc:=λr:Srw=>nD r.1) srwD (l:=rows) (λr hr=>by
  have hg:=y6f hn hr;generalize Yjg rows=sd,srwD r=rr at *
  simp[Yf3,hg])
 have hkk:(rows.map λr:Srw=>nD r.1)=K.map nD:=by rw[<-hrk,Qe];rfl
 rw[hkk]at hc1;refine⟨rows,hM,hrk,?_⟩
 have hdct:sDct 2 (lF (Ybq (b1 (getV 0) Yn) [none] (gSet 0) tY (Ycx))) [↑(.lst (rwD R BL)),↑(.lst (K.map nD)),none,none,none,none,none]=some (.nx [↑(.lst (rwD R BL)),↑(.lst (K.map nD)),some (.od false (kyD BL) (tlD R BL)),none,none,none,none]):=by
  have hcomp:(lF (Ybq (b1 (getV 0) Yn) [none] (gSet 0) tY Ycx)) [↑(.lst (rwD R BL)),↑(.lst (K.map nD)),none,none,none,none,none]=some (.lst (BL.map λr=>.tup [.int r.1,totD R (fl 60 r.2)])):=by
   generalize rwD R BL=RB at *;simp[capR,hc]
  simp_all
 have hsd:Yjg rows=.dct false (rows.map λr=>nD r.1) (rows.map srwD):=rfl;rw[hsd]at hc1;rw[Yg8,y0 (by rfl)];have hst0:Yr 7 [.lst (rwD R BL),.lst (K.map nD)]=[↑(.lst (rwD R BL)),↑(.lst (K.map nD)),none,none,none,none,none]:=rfl;rw[hst0,Yow,Ybx,hdct,qd,Yg3];clear hdct hd hc h1 hn2 hlen hrw hsd hkk hn hrk hM;generalize (rows.map λr=>nD r.1)=RK,rows.map srwD=RS,kyD BL=KB,tlD R BL=TB,rwD R BL=RB,K.map nD=KK at *
 have h3:Ygu [↑(.lst RB),↑(.lst KK),some (.od false KB TB),some (.od false RK RS),y4,y5,y6]=some (.rt (.tup RS)):=by
  have hfz:frz [3] [↑(.lst RB),↑(.lst KK),some (.od false KB TB),some (.od false RK RS),y4,y5,y6]=[↑(.lst RB),↑(.lst KK),some (.od false KB TB),↑(.dct false RK RS),y4,y5,y6]:=rfl;rw[Ygu,Yadz,hfz];simp[capR,hc1]
 simp_all
abbrev bkS(R:List Sm):D:=.tup [.str "sums",.tup (R.map smD)]
theorem Yagg(h:(rg R p).1 x=true):rg R p∈R/\p<R.length:=by
 by_cases hp:p<R.length
 ·unfold rg
  grind
 ·unfold rg at h
  grind
def Ynb(h:x∈ofH hs st b):x<hs.length:=qy (qz h).1
def InB(R:List Sm)(st n:Nat):Prop:=∀q∈R,∀x,x<60->q.1 x=true->st<=x/\x<n
theorem Ync(h1:st<=x)(h2:x<hs.length):x∈ofH hs st false\/x∈ofH hs st true:=by
 have hm:∀b,hs.getD x false=b->x∈ofH hs st b:=λb hb=>by
  unfold ofH;grind
 grind
theorem Yf6:∀x∈ofH hs st false,x∉ofH hs st true:=λx h1 h2=>by
 unfold ofH at h1 h2;grind
structure GoodW(R:List Sm)(K S:AG)(rows:List Srw):Prop where
 ks:rows.map (·.1)=K
 row:∀r∈rows,r.1<60/\r.2.1.Pairwise (·<·)/\∀y∈r.2.1,y∈S/\y<r.1
 kept:∀p,p<R.length->kp rows (rg R p).1 (rg R p).2
def outD(storm:Bool)(pp:D):D:=.tup [.str (if storm=true then Str.ofString "storm" else Str.ofString "keeper"),pp]
theorem Yqp(hR:R.length<=60)(hc:Yn c=some (hs.map hdD))(hl:hs.length<=60)(hst:st<=hs.length)(hin:InB R st hs.length):
 (∃W:AK,BadW R (ofH hs st false) W/\Yb3 [bkS R,c,.int st]=some (outD true (.tup [.str "odd",.tup ((fl 60 W).map nD)])))\/
 (∃rows:List Srw,GoodW R (ofH hs st true) (ofH hs st false) rows/\Yb3 [bkS R,c,.int st]=some (outD false (.tup [.str "sums",.tup (rows.map srwD)]))):=by
 have b1:=Ybn hs hc (by lia) st hst true;have b2:=Ybn hs hc (by lia) st hst false;simp only[hdD,if_true,Bool.false_eq_true,if_false]at b1 b2;obtain⟨BL,U,hB,hU,hpw,hred,hrun0⟩:=y2w hR;have hrun:Ygm [bkS R]=some (.tup [.lst (rwD R BL),voD U]):=hrun0;clear hrun0;obtain⟨V,hV0,hV1,hpl⟩:=Yna hB hU (ofH hs st false)
 have hbd:∀W x,x<60->tP R W x=true->st<=x/\x<hs.length:=λW x hx hT=>by
  obtain⟨p,hp⟩:=Yaga hT;exact hin _ (Yagg hp).1 x hx hp
 have hBl:BL.length<=60:=by
  have:=Yqk hB.2 (λx hx=>by
   obtain⟨r,hr,rfl⟩:=qw hx
   exact(hB.1 r hr).1.1)
  grind
 cases V with
 | some W=>
   refine .inl ⟨W,hV1 W rfl,?_⟩;have hv:voD (some W)=.tup ((fl 60 W).map nD):=rfl;rw[hv]at hpl;rw[Yb3,y0 (by rfl)];clear hred hB hU hV0 hV1 hpw hbd;generalize (ofH hs st true).map nD=KK,(ofH hs st false).map nD=SS,rwD R BL=RB,voD U=UU,(fl 60 W).map nD=WW,bkS R=bk at *;simp[Yf4,Yr,b1,b2,hrun,hpl,outD]
 | none=>
   obtain⟨hU0,hnS⟩:=hV0 rfl;subst hU0;have hKpw:(ofH hs st true).Pairwise (·<·):=List.Pairwise.filter _ List.pairwise_lt_range
   have hT:∀k∈ofH hs st true,∀x,x<60->tfB R BL k x=true->x∈ofH hs st false\/x∈ofH hs st true:=λk hk x hx hTx=>by
    unfold tfB at hTx;by_cases h:k∈BL.map (·.1)
    ·rw[if_pos h]at hTx
     obtain⟨g1,g2⟩:=hbd _ x hx hTx;exact Ync g1 g2
    simp_all
   obtain⟨rows,hM,hrk,hrows⟩:=Yza hB (by lia) (K:=ofH hs st true) (S:=ofH hs st false) hKpw (λk hk=>Qc (Ynb hk) hl) (λk hk=>Qc (Ynb hk) hl) hT;refine .inr ⟨rows,⟨hrk,Yaen hM,λp hp=>?_⟩,?_⟩
   ·refine Red.kp (R:=R) (BL:=BL) (λr hr=>?_) (hred p hp)
    have hLr:=(hB.1 r hr).1;obtain⟨g1,g2⟩:=hbd _ r.1 hLr.1 hLr.2.1;have hrK:r.1∈ofH hs st true:=(Ync g1 g2).resolve_left (hnS r hr);rw[<-hrk]at hrK;obtain⟨q,hq,e⟩:=qw hrK;have hkp:=Yage hM q hq;rw[e]at hkp;have hkey:r.1∈BL.map (·.1):=List.mem_map_of_mem (f:=(·.1)) hr;have hat:=(Yfk (λ_=>D.non) hkey).1;have hun:=Yw3 hB.2 hat hr rfl;have he:rwAt BL r.1=r.2:=congrArg Prod.snd hun;unfold tfB ofB at hkp;grind
   ·rw[Yb3,y0 (by rfl)]
    clear hred hB hU hV0 hV1 hpw hbd hM hT hrk hnS;generalize (ofH hs st true).map nD=KK,(ofH hs st false).map nD=SS,rwD R BL=RB,rows.map srwD=WW,bkS R=bk at *;have hvn:voD none=.non:=rfl;rw[hvn]at hpl hrun;simp[Yf4,Yr,b1,b2,hrun,hpl,hrows,outD]
def Hl(A:AG)(r:IfR):Prop:=(∀x∈r.1,x∈A)->∃y,r.2=some y/\y∈A
theorem Yti{A b fs:AG}(h:kn b fs=true)(hf:∀x∈fs,x∈A):∀x∈b,x∈A:=λx hx=>by
 unfold kn at h;grind
theorem Ynd(h:0<=i/\i<R.length):rAt R i∈R:=by
 unfold rAt;grind
theorem Yvr(h:r∈R):∃i:Nat,i<R.length/\rAt R (i:Int)=r:=by
 obtain⟨i,hi,e⟩:=List.mem_iff_getElem.mp h;refine⟨i,hi,?_⟩;unfold rAt;grind
theorem Yqq(hR:∀r∈R,Hl A r):∀{is:AH}{fs:AG},derB R fs is=true->(∀x∈fs,x∈A)->∀x∈fs++hdsR R is,x∈A
 | [],fs,_,hf,x,hx=>by
   rcases qv hx with h|h
   ·exact hf x h
   ·cases h
 | i::is,fs,hd,hf,x,hx=>by
   have hd':(stp R fs i&&derB R (fs++[hdN (rAt R i)]) is)=true:=hd;rw[Qb]at hd';obtain⟨h1,h2⟩:=hd';unfold stp at h1;rw[Qb,Qb,wm]at h1;obtain⟨p1,p2,p3⟩:=h1;obtain⟨y,e,hy⟩:=hR _ (Ynd p1) (Yti p3 hf)
   have hh:hdN (rAt R i)=y:=by unfold hdN;rw[e];rfl
   have hf2:∀z∈fs++[hdN (rAt R i)],z∈A:=λz hz=>by
    grind
   refine Yqq hR h2 hf2 x ?_;have e2:hdsR R (i::is)=hdN (rAt R i)::hdsR R is:=rfl;grind
structure GoodI(R:List IfR)(K S:AG)(first:AG)(rows:List Rrw):Prop where
 fK:first.Pairwise (·<·)/\∀y∈first,y∈K
 rs:rows.map (·.1)=S
 rK:∀r∈rows,r.2.Pairwise (·<·)/\(∀y∈r.2,y∈K)/\(r.2.filter λy=>decide (y<r.1))=first.filter λy=>decide (y<r.1)
 h0:∀q∈R,Hl (S++first) q
 hb:∀r∈rows,∀q∈R,Hl ((S.filter λy=>!decide (y=r.1))++r.2) q
abbrev ci(js:AG):AH:=js.map λi:Nat=>(i:Int)
theorem y6g:∀{js fs:AG},Der R fs js->derB R fs (ci js)=true
 | [],_,_=>rfl
 | i::js,fs,h=>by
   obtain⟨⟨h1,⟨x,hx⟩,h3⟩,h4⟩:=h;show(stp R fs (i:Int)&&derB R (fs++[hdN (rAt R (i:Int))]) (ci js))=true;rw[Qb];refine⟨?_,y6g h4⟩;unfold stp;grind
theorem y7q(R:List IfR)(js:AG):hdsR R (ci js)=js.map λi:Nat=>hdN (rAt R i):=by
 unfold hdsR
 simp_all
theorem Ytj:∀{p:AH}{fs:AG}{i:Int}{q:AH},derB R fs (p++i::q)=true->derB R fs p=true/\stp R (fs++hdsR R p) i=true
 | [],fs,i,q,h=>by
   have h':(stp R fs i&&derB R (fs++[hdN (rAt R i)]) q)=true:=h;rw[Qb]at h';refine⟨rfl,?_⟩;have:fs++hdsR R []=fs:=ja _;grind
 | a::p,fs,i,q,h=>by
   have h':(stp R fs a&&derB R (fs++[hdN (rAt R a)]) (p++i::q))=true:=h;rw[Qb]at h';obtain⟨g1,g2⟩:=Ytj h'.2;refine⟨?_,?_⟩
   ·show(stp R fs a&&derB R (fs++[hdN (rAt R a)]) p)=true
    grind
   ·have e:fs++hdsR R (a::p)=(fs++[hdN (rAt R a)])++hdsR R p:=by rw[jc];rfl
    grind
theorem y3f(h1:derB R fs (ci p)=true)(h2:i<R.length)(h3:kn (rAt R (i:Int)).1 (fs++hdsR R (ci p))=true)(h4:(rAt R (i:Int)).2=none\/(rAt R (i:Int)).2=b):y59 R b (ci (p++[i])) fs=true:=by
 have e:ci (p++[i])=ci p++[(i:Int)]:=by
  show(p++[i]).map _=_;rw[wt];rfl
 have hg:(ci p++[(i:Int)]).getD (ci p).length 0=(i:Int):=by simp[Qk]
 unfold y59;rw[e,List.dropLast_concat,qx,jd,Nat.add_sub_cancel,hg];simp only[Qb,Bool.or_eq_true,wm];exact⟨by lia,⟨by lia,by lia⟩,h1,h3,h4⟩
theorem Yw9(h:Full R fs l js)(h2:Full R fs2 l2 js2)(hs:∀x∈fs2,x∈l):∀x∈l2,x∈l:=by
 have hc:∀r∈R,r.2≠none->Hl l r:=λr hr hn hb=>by
  obtain⟨i,hi,rfl⟩:=Yvr hr
  cases e:(rAt R (i:Int)).2 with
  | none=>grind
  | some y=>
    refine⟨y,rfl,h.none i hi y e ?_⟩;unfold kn;grind
 have key:∀(is ks:AG),Der R ks is->(∀x∈ks,x∈l)->∀x∈ks++is.map λi:Nat=>hdN (rAt R i),x∈l:=λis=>by
  induction is with
  | nil=>grind
  | cons i is ih=>
    intro ks hd hk x hx;obtain⟨⟨g1,⟨y,hy⟩,g3⟩,g4⟩:=hd;obtain⟨z,hz,hzl⟩:=hc _ (Ynd ⟨by lia,by lia⟩) (by rw[hy];simp) (Yti g3 hk)
    have hh:hdN (rAt R (i:Int))=z:=by unfold hdN;rw[hz];rfl
    refine ih (ks++[hdN (rAt R (i:Int))]) g4 (λw hw=>?_) x (by grind);grind
 intro x hx;exact key js2 fs2 h2.der hs x ((h2.mem x).mp hx)
theorem Yo3(h:Full R fs l js)(hn:∀r∈R,r.2=none->kn r.1 l=false)(hA:∀x,x∈A↔x∈l):∀q∈R,Hl A q:=λq hq hb=>by
 have hk:kn q.1 l=true:=by
  unfold kn;grind
 cases e:q.2 with
 | none=>
   grind
 | some y=>
   obtain⟨i,hi,rfl⟩:=Yvr hq;exact⟨y,rfl,(hA y).mpr (h.none i hi y e hk)⟩
theorem Ye0{α:Type}(enc:α->D)(I:List α->Ro->Prop)(O:D->Prop):∀(l pre:List α) (ρ:Ro),I pre ρ->
 (∀q a r ρ,pre++l=q++a::r->I q ρ->∃ρ1,gt (enc a) ρ=some ρ1/\((∃ρ2,fb ρ1=some (.nx ρ2)/\I (q++[a]) ρ2)\/∃d,fb ρ1=some (.rt d)/\O d))->
 (∃ρ',M.forM gt fb (l.map enc) ρ=some (.nx ρ')/\I (pre++l) ρ')\/∃d,M.forM gt fb (l.map enc) ρ=some (.rt d)/\O d
 | [],pre,ρ,h0,_=>.inl ⟨ρ,rfl,by grind⟩
 | a::l,pre,ρ,h0,hs=>by
   obtain⟨ρ1,e1,h⟩:=hs pre a l ρ rfl h0;rw[Qa,M.forM,e1,qd];rcases h with⟨ρ2,e2,h2⟩|⟨d,e2,h2⟩
   ·rw[e2,qd]
    have:=Ye0 enc I O l (pre++[a]) ρ2 h2 λq b r ρ e=>hs q b r ρ (by grind);grind
   grind
def Yxa(r:IfR):Yn (ifD r)=some [.tup (r.1.map nD),optD r.2]:=rfl
def fuD(l js:AG):D:=.tup [.lst (l.map nD),.tup (js.map nD)]
def Ylf(l js:AG):Yn (fuD l js)=some [.lst (l.map nD),.tup (js.map nD)]:=rfl
def Ytk(R:List IfR)(l:AG)(i:Nat):Bool:=(rAt R (i:Int)).2.isNone&&kn (rAt R (i:Int)).1 l
theorem Yky(R:List IfR)(hjl:js.length<=1000):
 (∃i,i<R.length/\Ytk R l i=true/\Ybj [Yap R,fuD l js]=some (.tup ((js++[i]).map nD)))\/((∀i,i<R.length->Ytk R l i=false)/\Ybj [Yap R,fuD l js]=some .non):=by
 rw[Ybj,y0 (by rfl)];have hst:Yr 4 [Yap R,fuD l js]=[↑(Yap R),↑(fuD l js),none,none]:=rfl;rw[hst]
 have h:=Ym8 (gt:=Ypg 2 3) (fb:=Ya3) (λi:Nat=>D.tup [.int (i:Int),ifD (rAt R i)]) (Ytk R l) (λi:Nat=>D.tup ((js++[i]).map nD)) (λρ=>∃y z,ρ=[↑(Yap R),↑(fuD l js),y,z]) (List.range R.length)
  [↑(Yap R),↑(fuD l js),none,none] ⟨none,none,rfl⟩ (by
   rintro i hi ρ ⟨y,z,rfl⟩;refine⟨[↑(Yap R),↑(fuD l js),↑(.int (i:Int)),↑(ifD (rAt R i))],rfl,?_⟩;have hs:=Ym5 (d:=.lst (l.map nD)) (rAt R (i:Int)) l rfl;have hfu:=Ylf l js;have hit:=Yxa (rAt R (i:Int))
   have hcat:Yr5 (.tup (js.map nD)) (.tup [.int (i:Int)])=some (.tup ((js++[i]).map nD)):=by
    rw[wt];exact if_pos (by simp;lia)
   unfold Ytk
   cases hh:(rAt R (i:Int)).2 with
   | some x=>
     left;refine⟨rfl,[↑(Yap R),↑(fuD l js),↑(.int (i:Int)),↑(ifD (rAt R i))],?_,_,_,rfl⟩;rw[hh]at hit;simp only[optD]at hit;generalize ifD (rAt R (i:Int))=rr,fuD l js=ff at *;simp[Ya3,hit,isN,Yt8]
   | none=>
     rw[hh]at hit;simp only[optD]at hit
     cases hkn:kn (rAt R (i:Int)).1 l with
     | false=>
       left;rw[hkn]at hs;refine⟨rfl,[↑(Yap R),↑(fuD l js),↑(.int (i:Int)),↑(ifD (rAt R i))],?_,_,_,rfl⟩;generalize ifD (rAt R (i:Int))=rr,fuD l js=ff,l.map nD=LL at *;simp[Ya3,hit,hfu,hs]
     | true=>
       right;rw[hkn]at hs;refine⟨rfl,?_⟩;generalize ifD (rAt R (i:Int))=rr,fuD l js=ff,l.map nD=LL,(js++[i]).map nD=J2,js.map nD=JJ at *
       simp[Ya3,hit,hfu,hs,hcat])
 rw[Yf9];rcases h with⟨i,h1,h2⟩|⟨h1,ρ',h2,h3⟩
 ·left
  have hm:=List.mem_of_find?_eq_some h1;have hp:=List.find?_some h1;refine⟨i,qy hm,hp,?_⟩;generalize fuD l js=ff at *;simp only[Ybx,y11,Yady,y90];simp[Yl0,Yql,h2]
 ·right
  refine⟨λi hi=>?_,?_⟩
  ·grind
  ·generalize fuD l js=ff at *
   simp[Yl0,Yql,h2]
theorem Yxb(x:Nat):∀l:AG,(l.map λy:Nat=>(y:Int)).idxOf (x:Int)=l.idxOf x
 | []=>rfl
 | y::l=>by
   rw[Qa,List.idxOf_cons,List.idxOf_cons,Yxb x l];grind
theorem Yxc{x:Nat}:∀{js:AG},x∈js.map f->∃p i q,js=p++i::q/\f i=x/\js.take ((js.map f).idxOf x+1)=p++[i]
 | [],h=>(nomatch h)
 | j::js,h=>by
   by_cases e:f j=x
   ·refine⟨[],j,js,rfl,e,?_⟩
    grind
   ·have h':x∈js.map f:=by
     grind
    obtain⟨p,i,q,h1,h2,h3⟩:=Yxc h';grind
theorem Yaeq{α:Type}(f:α->D)(l:List α)(k:Nat):cutD (l.map f) none (some (k:Int))=(l.take k).map f:=by
 have hsx:HT.sIx (l.map f).length (l.map f).length (some (k:Int))=min k l.length:=by
  have:=HT.sIx_nat (l.map f).length (l.map f).length k;grind
 unfold cutD;rw[hsx,HT.sIx_none]
 simp_all
theorem Der.mem:∀{is ks:AG},Der R ks is->∀i∈is,i<R.length/\optD (rAt R (i:Int)).2=nD (hdN (rAt R (i:Int)))
 | [],_,_,i,hi=>(nomatch hi)
 | j::is,ks,h,i,hi=>by
   rcases qt hi with rfl|hi
   ·obtain⟨⟨h1,⟨x,hx⟩,_⟩,_⟩:=h
    refine⟨h1,?_⟩;unfold hdN;rw[hx];rfl
   ·exact Der.mem h.2 i hi
theorem Yji(h:Full R fs l js)(x:Nat):
 (∃(p:AG) (i:Nat) (q:AG),js=p++i::q/\hdN (rAt R (i:Int))=x/\Yau [Yap R,fuD l js,.int (x:Int)]=some (.tup ((p++[i]).map nD)))\/(x∉js.map (λi:Nat=>hdN (rAt R (i:Int)))/\Yau [Yap R,fuD l js,.int (x:Int)]=some .non):=by
 have hc:=Ygi (fe:=Yb1) (r:=[↑(Yap R)]) (enc:=nD) (λi:Nat=>nD (hdN (rAt R (i:Int)))) (l:=js) (λi hi=>by
  obtain⟨g1,g2⟩:=h.der.mem i hi;have hat:=Yaae (R:=R) (i:=(i:Int)) ⟨by lia,by lia⟩;have hit:=Yxa (rAt R (i:Int));have hbi:=Yvi R;generalize ifD (rAt R (i:Int))=rr,R.map ifD=RR,Yap R=bk at *
  simp[Yb1,hbi,hat,hit,g2])
 have e1:(js.map λi:Nat=>nD (hdN (rAt R (i:Int))))=(js.map λi:Nat=>hdN (rAt R (i:Int))).map nD:=by simp_all
 rw[e1]at hc;have hfu:=Ylf l js;have hin:=in_n (c:=.lst ((js.map λi:Nat=>hdN (rAt R (i:Int))).map nD)) x (js.map λi:Nat=>hdN (rAt R (i:Int))) true rfl;by_cases hx:x∈js.map λi:Nat=>hdN (rAt R (i:Int))
 ·obtain⟨p,i,q,h1,h2,h3⟩:=Yxc hx
  refine .inl ⟨p,i,q,h1,h2,?_⟩
  have hid:idxD (.lst ((js.map λi:Nat=>hdN (rAt R (i:Int))).map nD)) (.int (x:Int))=some (.int ((js.map λi:Nat=>hdN (rAt R (i:Int))).idxOf x:Nat)):=by
   have e:∀L:AG,L.map nD=(L.map λy:Nat=>(y:Int)).map D.int:=λL=>by simp_all
   rw[e,y5w,if_pos (List.mem_map_of_mem (f:=λy:Nat=>(y:Int)) hx),Yxb]
  have hcut:=Yaeq nD js ((js.map λi:Nat=>hdN (rAt R (i:Int))).idxOf x+1);rw[h3]at hcut
  have hca:(((js.map λi:Nat=>hdN (rAt R (i:Int))).idxOf x+1:Nat):Int)=((js.map λi:Nat=>hdN (rAt R (i:Int))).idxOf x:Int)+1:=by lia
  rw[hca]at hcut;simp only[hx,decide_true,if_true,Bool.not_true]at hin;rw[Yau,y0 (by rfl)];clear h1 h2 h3 hca;generalize (js.map λi:Nat=>hdN (rAt R (i:Int))).idxOf x=ix,(js.map λi:Nat=>hdN (rAt R (i:Int))).map nD=HH,(p++[i]).map nD=PP,l.map nD=LL,js.map nD=JJ,fuD l js=ff,Yap R=bk at *;simp[Ycr,Yr,hfu,capR,hc,hin,hid,hcut]
 ·refine .inr ⟨hx,?_⟩
  simp only[hx,decide_false,if_true,Bool.not_false]at hin;rw[Yau,y0 (by rfl)];generalize (js.map λi:Nat=>hdN (rAt R (i:Int))).map nD=HH,l.map nD=LL,js.map nD=JJ,fuD l js=ff,Yap R=bk at *;simp[Ycr,Yr,hfu,capR,hc,hin]
def soL(K l:AG):AG:=K.filter λy=>decide (y∈l)
theorem Ytl(K l:AG):Ygt [.lst (K.map nD),.lst (l.map nD)]=some (.tup ((soL K l).map nD)):=by
 have hc:=Ymf (fc:=Ygr) (fe:=Ygs) (r:=[↑(.lst (l.map nD))]) (enc:=nD) (λy=>decide (y∈l)) nD (l:=K) (λy _=>by
  have hin:=in_n (c:=.lst (l.map nD)) y l false rfl;generalize l.map nD=LL at *
  simp[Ygr,hin]) (λy _ _=>by simp[Ygs])
 rw[Ygt,y0 (by rfl)];unfold soL;generalize (K.filter λy=>decide (y∈l)).map nD=FF,K.map nD=KK,l.map nD=LL at *;simp[Yso,Yr,capR,hc]
def faB(x:Nat)(S first:AG):AG:=wob (some x) S++first.filter λy=>decide (y<x)
theorem Yn5{x:Nat}(hS:S.length<=100)(hf:first.length<=100):Ydd [.int (x:Int),.lst (S.map nD),.tup (first.map nD)]=some (.lst ((faB x S first).map nD)):=by
 have h1:=y25 S (some x)
 have h2:=Yy8 first x
 have hs:optD (some x)=.int (x:Int):=rfl;rw[hs]at h1;have hwl:(wob (some x) S).length<=100:=Qg (List.length_filter_le _ _) hS;have hfl:(first.filter λy=>decide (y<x)).length<=100:=Qg (List.length_filter_le _ _) hf
 have hcat:catD (.lst ((wob (some x) S).map nD)) (.lst ((first.filter λy=>decide (y<x)).map nD))=some ((faB x S first).map nD):=by
  unfold faB;rw[y16 (by simp;lia),wt]
 have hlf:∀l:AR,Yrl [.tup l]=some l:=λ_=>rfl;rw[Ydd,y0 (by rfl)];generalize (faB x S first).map nD=FB,(wob (some x) S).map nD=W1,(first.filter λy=>decide (y<x)).map nD=F1,S.map nD=SS at *
 generalize first.map nD=FF at *
 simp[Yhr,Yr,h1,h2,hlf,hcat]
def InF(R:List IfR)(st n:Nat):Prop:=∀r∈R,r.1.Pairwise (·<·)/\(∀x∈r.1,st<=x/\x<n)/\∀x,r.2=some x->st<=x/\x<n
def loD(b:AN)(is js:AH):AR:=[.str "lone",optD b,.tup (is.map D.int),.tup (js.map D.int)]
def roD(first:AG)(rows:List Rrw):AR:=[.str "rows",.tup (first.map nD),.tup (rows.map rrwD)]
theorem n_ci(l:AG):l.map nD=(ci l).map D.int:=by simp_all
def y6h(R:List IfR)(K S:AG)(b:AN)(is js:AH):Prop:=Yvo R K S b is js=true/\is.length<=100/\js.length<=100
theorem Yaal(hR:InF R st n)(h:Full R fs l js)(hx:x∈l):x∈fs\/(st<=x/\x<n):=by
 rcases qv ((h.mem x).mp hx)with w|w
 ·exact .inl w
 ·obtain⟨i,hi,rfl⟩:=qw w
  obtain⟨g1,g2⟩:=h.der.mem i hi;have hm:=Ynd (R:=R) (i:=(i:Int)) ⟨by lia,by lia⟩
  cases e:(rAt R (i:Int)).2 with
  | none=>rw[e]at g2;cases g2
  | some y=>
    have:hdN (rAt R (i:Int))=y:=by unfold hdN;rw[e];rfl
    rw[this];exact .inr ((hR _ hm).2.2 y e)
def Ygw(h:Full R fs l js)(hx:x∈fs):x∈l:=(h.mem x).mpr (List.mem_append.mpr (.inl hx))
theorem y3g(h:Full R S l js)(hi:i<R.length)(hp:Ytk R l i=true):y6h R K S none [] (ci (js++[i])):=by
 unfold Ytk at hp;rw[Qb,Option.isNone_iff_eq_none]at hp;refine⟨?_,by simp,by have:=h.len;simp;lia⟩;unfold Yvo;rw[Qb];refine⟨rfl,?_⟩
 have hw:wob none S=S:=List.filter_eq_self.mpr λy _=>by simp
 have hf:wob none S++foB R K none []=S:=by rw[hw];exact ja _
 rw[hf];refine y3f (y6g h.der) hi ?_ (.inl hp.1);rw[y7q,<-hp.2];exact(Yaaj λx=>(h.mem x)).symm
theorem Yagh(h:Full R S l js)(hSK:∀x∈S,x∉K)(x:Nat):faB x S (soL K l)=wob (some x) S++foB R K (some x) (ci js):=by
 unfold faB soL
 congr 1
 show(K.filter λy=>decide (y∈l)).filter (λy=>decide (y<x))=K.filter λy=>decide (y<x)&&decide (y∈hdsR R (ci js));rw[List.filter_filter];refine List.filter_congr λy hy=>?_
 congr 1
 rw[y7q];refine decide_eq_decide.mpr ⟨λw=>?_,λw=>(h.mem y).mpr (List.mem_append.mpr (.inr w))⟩;rcases qv ((h.mem y).mp w)with z|z
 ·grind
 ·exact z
theorem y3h{p q:AG}(h:Full R S l js)(hSK:∀x∈S,x∉K)(hxS:x∈S)(hx:Full R (faB x S (soL K l)) lx (p++i::q))(he:hdN (rAt R (i:Int))=x):y6h R K S (some x) (ci js) (ci (p++[i])):=by
 have hlen:=hx.len;have hlj:=h.len;refine⟨?_,by simp;lia,by grind⟩;unfold Yvo;rw[Qb];refine⟨?_,?_⟩
 ·show(decide (x∈S)&&derB R S (ci js))=true
  rw[y6g h.der,wn hxS];rfl
 ·rw[<-Yagh h hSK x]
  have hd:=y6g hx.der
  have e:ci (p++i::q)=ci p++(i:Int)::ci q:=by
   grind
  rw[e]at hd;obtain⟨g1,g2⟩:=Ytj hd;unfold stp at g2;rw[Qb,Qb,wm]at g2;obtain⟨q1,q2,q3⟩:=g2;refine y3f g1 (by lia) q3 (.inr ?_);obtain⟨y,hy⟩:=Option.isSome_iff_exists.mp q2
  have:hdN (rAt R (i:Int))=y:=by unfold hdN;rw[hy];rfl
  grind
def RowI(R:List IfR)(K S l0:AG)(r:Rrw):Prop:=∃lx jx:AG,Full R (faB r.1 S (soL K l0)) lx jx/\r.1∉jx.map (λi:Nat=>hdN (rAt R (i:Int)))/\r.2=soL K lx
theorem y3i(hR:InF R st n)(hK:K.Pairwise (·<·))(hSK:∀x∈S,x∉K)(hall:∀x,st<=x->x<n->x∈S\/x∈K)(h:Full R S l js)(hn:∀i,i<R.length->Ytk R l i=false)(hrs:rows.map (·.1)=S)(hr:∀r∈rows,RowI R K S l r):GoodI R K S (soL K l) rows:=by
 have hl:∀x∈l,x∈S\/x∈K:=λx hx=>by
  rcases Yaal hR h hx with w|w
  ·exact .inl w
  grind
 have hno:∀r∈R,r.2=none->kn r.1 l=false:=λr hr e=>by
  obtain⟨i,hi,rfl⟩:=Yvr hr;have:=hn i hi;unfold Ytk at this;grind
 refine⟨⟨hK.filter _,λy hy=>(qz hy).1⟩,hrs,λr hm=>?_,?_,λr hm=>?_⟩
 ·obtain⟨lx,jx,hx,hxn,e⟩:=hr r hm
  have hsub:=Yw9 h hx λy hy=>by
   rcases qv hy with w|w
   ·exact Ygw h (qz w).1
   ·exact wq (qz (qz w).1).2
  refine⟨by rw[e];exact hK.filter _,λy hy=>by rw[e]at hy;exact(qz hy).1,?_⟩;rw[e];unfold soL;rw[List.filter_filter,List.filter_filter];refine List.filter_congr λy hy=>?_;by_cases hyx:y<r.1
  ·have:(y∈lx)↔(y∈l):=⟨hsub y,λw=>Ygw hx (List.mem_append.mpr (.inr (List.mem_filter.mpr ⟨List.mem_filter.mpr ⟨hy,wn w⟩,wn hyx⟩)))⟩
   grind
  ·simp[hyx]
 ·refine Yo3 h hno λx=>?_
  rw[List.mem_append];constructor
  ·rintro(w|w)
   ·exact Ygw h w
   ·exact wq (qz w).2
  ·intro w
   rcases hl x w with z|z
   ·exact .inl z
   ·exact .inr (List.mem_filter.mpr ⟨z,wn w⟩)
 ·obtain⟨lx,jx,hx,hxn,e⟩:=hr r hm
  have hsub:=Yw9 h hx λy hy=>by
   rcases qv hy with w|w
   ·exact Ygw h (qz w).1
   ·exact wq (qz (qz w).1).2
  have hrS:r.1∈S:=by grind
  have hxl:r.1∉lx:=λw=>by
   rcases qv ((hx.mem _).mp w)with z|z
   ·rcases qv z with z|z
    ·have:=(qz z).2
     simp at this
    grind
   grind
  refine Yo3 hx (λq hq e=>?_) λx=>?_
  ·have h1:=hno q hq e
   cases hz:kn q.1 lx with
   | false=>rfl
   | true=>
     have:kn q.1 l=true:=by
      unfold kn;exact List.all_eq_true.mpr λx hx=>wn (Yti hz hsub x hx)
     grind
  ·rw[List.mem_append]
   constructor
   ·rintro(w|w)
    ·obtain⟨w1,w2⟩:=qz w
     refine Ygw hx (List.mem_append.mpr (.inl (List.mem_filter.mpr ⟨w1,?_⟩)));grind
    ·rw[e]at w
     exact wq (qz w).2
   ·intro w
    rcases hl x (hsub x w)with z|z
    ·grind
    ·rw[e]
     exact .inr (List.mem_filter.mpr ⟨z,wn w⟩)
def y3j(h:K.length<=60):(soL K l).length<=60:=Qg (List.length_filter_le _ _) h
theorem Ytm(hc:Yn c=some (hs.map hdD))(hl:hs.length<=60)(hst:st<=hs.length)(hin:InF R st hs.length):
 (∃b is js,y6h R (ofH hs st true) (ofH hs st false) b is js/\Yb2 [Yap R,c,.int st]=some (outD true (.tup (loD b is js))))\/
 (∃first rows,GoodI R (ofH hs st true) (ofH hs st false) first rows/\Yb2 [Yap R,c,.int st]=some (outD false (.tup (roD first rows)))):=by
 have b1:=Ybn hs hc (by lia) st hst true;have b2:=Ybn hs hc (by lia) st hst false;simp only[hdD,if_true,Bool.false_eq_true,if_false]at b1 b2;have hKpw:(ofH hs st true).Pairwise (·<·):=List.Pairwise.filter _ List.pairwise_lt_range;have hSK:=Yf6 (hs:=hs) (st:=st);have hall:∀x,st<=x->x<hs.length->x∈ofH hs st false\/x∈ofH hs st true:=λx h1 h2=>Ync h1 h2;have hSl:(ofH hs st false).length<=60:=Qg (List.length_filter_le _ _) (by grind);have hKl:(ofH hs st true).length<=60:=Qg (List.length_filter_le _ _) (by grind);have hS60:∀x∈ofH hs st false,x<60:=λx hx=>Qc (Ynb hx) hl;have hK60:∀x∈ofH hs st true,x<60:=λx hx=>Qc (Ynb hx) hl;have hRo:∀r∈R,∀x,r.2=some x->x<60:=λr hr x hx=>Qc ((hin r hr).2.2 x hx).2 hl;generalize ofH hs st false=S,ofH hs st true=K at *;obtain⟨l,js,hF,hwhole⟩:=y7k (c:=.lst (S.map nD)) R hRo S hS60 (by lia) rfl;have hwhole':Yar [Yap R,.lst (S.map nD)]=some (fuD l js):=hwhole;clear hwhole;have hfu:=Ylf l js;have hso:=Ytl K l;have hst0:Yr 11 [Yap R,c,.int (st:Int)]=[↑(Yap R),↑c,↑(.int st),none,none,none,none,none,none,none,none]:=rfl;rw[Yb2,y0 (by rfl),hst0];rcases Yky R (l:=l) (js:=js) (by have:=hF.len;lia)with⟨i,hi,hp,hpl⟩|⟨hn,hpl⟩
 ·refine .inl ⟨none,[],ci (js++[i]),y3g hF hi hp,?_⟩
  have hlo:D.tup (loD none [] (ci (js++[i])))=.tup [.str "lone",.non,.tup [],.tup ((js++[i]).map nD)]:=by
   unfold loD;rw[<-n_ci];rfl
  rw[hlo];clear hF hall hin hSK hKpw;generalize (js++[i]).map nD=JI,fuD l js=fu,S.map nD=SS,K.map nD=KK,Yap R=bk at *;simp[Yey,b1,b2,hwhole',hpl,outD]
 ·have pre:Yey [↑(Yap R),↑c,↑(.int st),none,none,none,none,none,none,none,none] =
   Ye7 [↑(Yap R),↑c,↑(.int st),↑(.lst (K.map nD)),↑(.lst (S.map nD)),↑(fuD l js),↑.non,↑(.tup ((soL K l).map nD)),some (.ow []),none,none]:=by
   clear hF hall hin hSK hKpw hn;generalize (soL K l).map nD=SO,l.map nD=LL,js.map nD=JJ,fuD l js=fu,S.map nD=SS,K.map nD=KK,Yap R=bk at *;simp[Yey,b1,b2,hwhole',hpl,hfu,hso,-Ye7]
  rw[pre]
  have hloop:=Ye0 (gt:=gSet 9) (fb:=Ycs) nD (λpre ρ=>∃(rows:List Rrw) (y6 y9 y10:AT),rows.map (·.1)=pre/\(∀r∈rows,RowI R K S l r)/\
   ρ=[↑(Yap R),↑c,↑(.int st),↑(.lst (K.map nD)),↑(.lst (S.map nD)),↑(fuD l js),y6,↑(.tup ((soL K l).map nD)),some (.ow (rows.map rrwD)),y9,y10])
   (λd=>∃b is js,y6h R K S b is js/\d=outD true (.tup (loD b is js))) S []
   [↑(Yap R),↑c,↑(.int st),↑(.lst (K.map nD)),↑(.lst (S.map nD)),↑(fuD l js),↑.non,↑(.tup ((soL K l).map nD)),some (.ow []),none,none] ⟨[],_,_,_,rfl,λr hr=>(nomatch hr),rfl⟩ (by
    rintro q x r ρ e ⟨rows,y6,y9,y10,hrs,hrr,rfl⟩;rw[Qd]at e
    have hxS:x∈S:=by rw[e];simp
    have hrl:rows.length<=1000:=by
     grind
    have hfa:=Yn5 (x:=x) (S:=S) (first:=soL K l) (by lia) (by have:=y3j (l:=l) hKl;lia)
    have hfl:(faB x S (soL K l)).length<=1000:=by
     have g1:(wob (some x) S).length<=S.length:=List.length_filter_le _ _;have g2:((soL K l).filter λy=>decide (y<x)).length<=(soL K l).length:=List.length_filter_le _ _;have g3:=y3j (l:=l) hKl;unfold faB;grind
    obtain⟨lx,jx,hX,hfull⟩:=y7k (c:=.lst ((faB x S (soL K l)).map nD)) R hRo (faB x S (soL K l)) (λy hy=>by
     rcases qv hy with w|w
     ·exact hS60 y (qz w).1
     grind) hfl rfl
    have hfull':Yar [Yap R,.lst ((faB x S (soL K l)).map nD)]=some (fuD lx jx):=hfull;clear hfull;refine⟨[↑(Yap R),↑c,↑(.int st),↑(.lst (K.map nD)),↑(.lst (S.map nD)),↑(fuD l js),y6,↑(.tup ((soL K l).map nD)),some (.ow (rows.map rrwD)),↑(.int (x:Int)),y10],rfl,?_⟩;rcases Yji hX x with⟨p,i,q',hj,he,hpb⟩|⟨hnx,hpb⟩
    ·right
     rw[hj]at hX;refine⟨outD true (.tup (loD (some x) (ci js) (ci (p++[i])))),?_,some x,ci js,ci (p++[i]),y3h hF hSK hxS hX he,rfl⟩
     have hlo:D.tup (loD (some x) (ci js) (ci (p++[i])))=.tup [.str "lone",.int (x:Int),.tup (js.map nD),.tup ((p++[i]).map nD)]:=by
      unfold loD;rw[<-n_ci,<-n_ci];rfl
     rw[hlo];clear hF hall hin hSK hKpw hn hrr hX hj;generalize (p++[i]).map nD=PI,(faB x S (soL K l)).map nD=FA,(soL K l).map nD=SO,l.map nD=LL,js.map nD=JJ,fuD lx jx=fx,fuD l js=fu,S.map nD=SS,K.map nD=KK,Yap R=bk,rows.map rrwD=RW at *;simp[Ycs,hfa,hfull',hpb,hfu,outD]
    ·left
     have hsx:=Ytl K lx;have hfx:=Ylf lx jx;have happ:∀d:D,appD (rows.map rrwD) d=some (rows.map rrwD++[d]):=λd=>Ypz (by grind)
     have hap:(rows++[(x,soL K lx)]).map rrwD=rows.map rrwD++[.tup [.int (x:Int),.tup ((soL K lx).map nD)]]:=by rw[wt];rfl
     refine⟨[↑(Yap R),↑c,↑(.int st),↑(.lst (K.map nD)),↑(.lst (S.map nD)),↑(fuD l js),↑.non,↑(.tup ((soL K l).map nD)),some (.ow ((rows++[(x,soL K lx)]).map rrwD)),↑(.int (x:Int)),↑(fuD lx jx)],?_,rows++[(x,soL K lx)],_,_,_,by grind,λr hr=>?_,rfl⟩
     ·rw[hap]
      clear hF hall hin hSK hKpw hn hrr hX hnx hap;generalize (soL K lx).map nD=SX,(faB x S (soL K l)).map nD=FA,(soL K l).map nD=SO,l.map nD=LL,lx.map nD=LX,js.map nD=JJ,jx.map nD=JX,fuD lx jx=fx,fuD l js=fu,S.map nD=SS,K.map nD=KK,Yap R=bk,rows.map rrwD=RW at *;simp[Ycs,hfa,hfull',hpb,hfx,hsx,happ]
     ·rcases qv hr with hr|hr
      ·grind
      ·rw[List.mem_singleton]at hr
       subst hr
       exact⟨lx,jx,hX,hnx,rfl⟩)
  rcases hloop with⟨ρ',e1,rows,y6,y9,y10,hrs,hrr,rfl⟩|⟨d,e1,b,is,js',hW,rfl⟩
  ·rw[Qd]at hrs
   refine .inr ⟨soL K l,rows,y3i hin hKpw hSK hall hF hn hrs hrr,?_⟩;clear hF hall hin hSK hKpw hn hrr hrs pre;unfold roD;generalize (soL K l).map nD=SO,fuD l js=fu,S.map nD=SS,K.map nD=KK,Yap R=bk,rows.map rrwD=RW at *;simp[e1,outD]
  ·refine .inl ⟨b,is,js',hW,?_⟩
   simp_all
def Yhj(l:BA):Prop:=l.length<=2/\l.Nodup
def fl2(s:Say):flS (flS s)=s:=by
 obtain⟨a,b⟩:=s;simp[flS]
def Yagi(s:Say):flS s≠s:=by
 obtain⟨a,b⟩:=s;simp[flS]
def ed(L:AZ)(s t:Say):Prop:=∃l∈L,flS s∈l/\t∈l/\(t=flS s->l.length=1)
def Yaam(h:ed L s t):ed L (flS t) (flS s):=by
 obtain⟨l,hl,h1,h2,h3⟩:=h;refine⟨l,hl,by rw[fl2];exact h2,h1,λe=>h3 ?_⟩;rw[fl2]at e;exact e.symm
inductive Rch (L:AZ) (s:Say):Say->Prop
 | refl:Rch L s s
 | step {t u:Say}:Rch L s t->ed L t u->Rch L s u
theorem Rch.trans(h:Rch L s t)(h':Rch L t u):Rch L s u:=by
 induction h' with
 | refl=>exact h
 | step _ e ih=>exact .step ih e
def Rch.one(h:ed L s t):Rch L s t:=.step .refl h
theorem Rch.skew(h:Rch L s t):Rch L (flS t) (flS s):=by
 induction h with
 | refl=>exact .refl
 | step _ e ih=>exact(Rch.one (Yaam e)).trans ih
theorem Rch.mono(hL:∀l∈L,l∈L')(h:Rch L s t):Rch L' s t:=by
 induction h with
 | refl=>exact .refl
 | step _ e ih=>
   obtain⟨l,hl,r⟩:=e;exact .step ih ⟨l,hL l hl,r⟩
def Yvs(rows:List Prw)(s:Say):Ybu rows (flS s)=flE (Ybu rows s):=by
 unfold Ybu;have e:(flS s).1=s.1:=rfl;rw[e]
 cases rows.find? (λr=>r.1==s.1)with
 | none=>rfl
 | some r=>
   show(r.2.1,(!s.2)==r.2.2)=(r.2.1,!(s.2==r.2.2));cases s.2<;>cases r.2.2<;>rfl
def Yxd(e:End):flE e≠e:=by
 obtain⟨a,b⟩:=e;simp[flE]
theorem Yaan(h:flE a=flE b):a=b:=by
 obtain⟨a1,a2⟩:=a;obtain⟨b1,b2⟩:=b;unfold flE at h
 simp_all
def leE(a b:End):Prop:=a=(none,false)\/b=(none,true)\/a=b
theorem y3k(h:leE a b)(h':leE b c):leE a c:=by
 rcases h with h|h|h
 ·exact .inl h
 ·rcases h' with h'|h'|h'
  ·grind
  ·exact .inr (.inl h')
  ·exact .inr (.inl (by grind))
 grind
theorem Yaao(hl:Yhj l)(hk:Ytd (l.map (Ybu rows))=true)(h1:flS s∈l)(h2:t∈l)(h3:t=flS s->l.length=1):leE (Ybu rows s) (Ybu rows t):=by
 have hall:∀x∈l,x=flS s\/x=t:=λx hx=>by
  obtain⟨g1,g2⟩:=hl
  match l,g1,g2,h1,h2,h3,hx with
  | [a],_,_,h1,h2,h3,hx=>
    grind
  | [a,b],_,g2,h1,h2,h3,hx=>
    grind
 unfold Ytd at hk;obtain⟨e,he,hp⟩:=List.any_eq_true.mp hk;obtain⟨x,hx,rfl⟩:=qw he;rw[Bool.or_eq_true,wm,wm]at hp;have hfs:=Yvs rows s
 have key:∀y∈l,flE (Ybu rows x)=Ybu rows y->leE (Ybu rows s) (Ybu rows t):=λy hy e=>by
  rcases hall x hx with rfl|rfl
  ·rw[hfs]at e
   have e2:Ybu rows s=Ybu rows y:=by
    have:flE (flE (Ybu rows s))=Ybu rows s:=by simp[flE]
    grind
   rcases hall y hy with rfl|rfl
   ·rw[hfs]at e2
    exact absurd e2.symm (Yxd _)
   ·exact .inr (.inr e2)
  ·rcases hall y hy with rfl|rfl
   ·rw[hfs]at e
    exact .inr (.inr (Yaan e).symm)
   ·exact absurd e (Yxd _)
 rcases hp with hp|hp
 ·rcases hall x hx with rfl|rfl
  ·rw[hfs]at hp
   refine .inl ?_
   have:flE (flE (Ybu rows s))=Ybu rows s:=by simp[flE]
   rw[<-this,hp];rfl
  ·exact .inr (.inl hp)
 grind
theorem Yxe(hL:∀l∈L,Yhj l)(hk:∀l∈L,Ytd (l.map (Ybu rows))=true)(h:Rch L s t):leE (Ybu rows s) (Ybu rows t):=by
 induction h with
 | refl=>exact .inr (.inr rfl)
 | step _ e ih=>
   obtain⟨l,hl,h1,h2,h3⟩:=e;exact y3k ih (Yaao (hL l hl) (hk l hl) h1 h2 h3)
theorem Yxf(h:s.1∉rows.map (·.1)):Ybu rows s=(some s.1,s.2):=by
 unfold Ybu;grind
theorem y3l(h:s.1∈rows.map (·.1)):∃r∈rows,r.1=s.1/\Ybu rows s=(r.2.1,s.2==r.2.2):=by
 unfold Ybu;grind
structure GoodE(L:AZ)(K S:AG)(rows:List Prw):Prop where
 ks:rows.map (·.1)=K
 row:∀r∈rows,rowP S r=true
 kept:∀l∈L,Ytd (l.map (Ybu rows))=true
inductive BadE (L:AZ) (K S:AG):Prop
 | broken:[]∈L->BadE L K S
 | clash (s:Say):Rch L s (flS s)->Rch L (flS s) s->BadE L K S
 | cross (s t:Say):s.1∈S->t.1∈S->s≠t->Rch L s t->BadE L K S
 | late (s t:Say):s.1∈S->t.1∈K->t.1<s.1->Rch L s t->Rch L t s->BadE L K S
def BadE.mono(hL:∀l∈L,l∈L')(h:BadE L K S):BadE L' K S:=by
 cases h with
 | broken h=>exact .broken (hL _ h)
 | clash s h1 h2=>exact .clash s (h1.mono hL) (h2.mono hL)
 | cross s t h1 h2 h3 h4=>exact .cross s t h1 h2 h3 (h4.mono hL)
 | late s t h1 h2 h3 h4 h5=>exact .late s t h1 h2 h3 (h4.mono hL) (h5.mono hL)
theorem Yaer(hL:∀l∈L,Yhj l)(hSK:∀x∈S,x∉K)(g:GoodE L K S rows):¬BadE L K S:=λh=>by
 have hst:∀s:Say,s.1∈S->Ybu rows s=(some s.1,s.2):=λs hs=>Yxf (by rw[g.ks];grind)
 have half:∀s:Say,Rch L s (flS s)->Ybu rows s=(none,false):=λs h1=>by
  have e:=Yxe hL g.kept h1;rw[Yvs]at e;rcases e with e|e|e
  ·exact e
  ·have:flE (flE (Ybu rows s))=Ybu rows s:=by simp[flE]
   rw[<-this,e];rfl
  ·exact absurd e.symm (Yxd _)
 cases h with
 | broken h=>
   have:=g.kept [] h;cases this
 | clash s h1 h2=>
   have e1:=half s h1;have e2:=half (flS s) (by rw[fl2];exact h2);rw[Yvs,e1]at e2;cases e2
 | cross s t hs ht hne h1=>
   have e:=Yxe hL g.kept h1;rw[hst s hs,hst t ht]at e;rcases e with e|e|e
   ·cases e
   ·cases e
   grind
 | late s t hs ht hlt h1 h2=>
   have e1:=Yxe hL g.kept h1;have e2:=Yxe hL g.kept h2;rw[hst s hs]at e1 e2
   have e3:Ybu rows t=(some s.1,s.2):=by
    rcases e1 with e|e|e
    ·cases e
    ·rcases e2 with e'|e'|e'
     ·grind
     ·cases e'
     ·exact e'
    grind
   obtain⟨r,hr,he,hc⟩:=y3l (rows:=rows) (s:=t) (by rw[g.ks];exact ht);rw[e3]at hc;injection hc with hc1 _;have hrow:=g.row r hr;unfold rowP at hrow;grind
def tied(L:AZ)(S:AG)(k:Nat)(s:Say):Prop:=s.1∈S/\Rch L s (k,true)/\Rch L (k,true) s
def loose(L:AZ)(S:AG)(k:Nat):Prop:=∀s,¬tied L S k s
structure PlanOf(L:AZ)(K S:AG)(τ:AK)(rows:List Prw):Prop where
 ks:rows.map (·.1)=K
 row:∀r∈rows,(∃s,tied L S r.1 s/\r.2=(some s.1,s.2))\/(loose L S r.1/\r.2=(none,τ r.1))
structure Tr(L:AZ)(K S:AG)(τ:AK):Prop where
 one:∀k∈K,loose L S k->∀s:Say,s.1∈S->∀v,Rch L s (k,v)->τ k=v
 two:∀k∈K,loose L S k->∀j∈K,loose L S j->∀v,Rch L (k,τ k) (j,v)->τ j=v
def Yxg(nb:¬BadE L K S)(hs:s.1∈S)(ht:t.1∈S)(h:Rch L s t):s=t:=
 Classical.byContradiction λz=>nb (.cross s t hs ht z h)
theorem cls(hSK:∀x∈S,x∉K)(hp:PlanOf L K S τ rows)(ha:a.1∈S\/a.1∈K):
 (∃e:Say,e.1∈S/\Ybu rows a=(some e.1,e.2)/\Rch L a e/\Rch L e a)\/(a.1∈K/\loose L S a.1/\Ybu rows a=(none,a.2==τ a.1)):=by
 rcases ha with ha|ha
 ·exact .inl ⟨a,ha,Yxf (by rw[hp.ks];grind),.refl,.refl⟩
 ·obtain⟨r,hr,he,hc⟩:=y3l (rows:=rows) (s:=a) (by rw[hp.ks];exact ha)
  rcases hp.row r hr with⟨s,ht,hs⟩|⟨hlo,hs⟩
  ·left
   rw[hs]at hc;obtain⟨t1,t2,t3⟩:=ht;rw[he]at t2 t3;obtain⟨a1,a2⟩:=a
   cases a2 with
   | true=>
     refine⟨s,t1,?_,t3,t2⟩
     simp_all
   | false=>
     refine⟨flS s,t1,?_,t2.skew,t3.skew⟩;rw[hc];show(some s.1,false==s.2)=(some s.1,!s.2);cases s.2<;>rfl
  grind
theorem Yjj(h:((none,true):End)∈es):Ytd es=true:=by
 unfold Ytd;grind
theorem y6i(h:e∈es)(h2:flE e∈es):Ytd es=true:=by
 unfold Ytd;grind
theorem Yaap(h:¬v=a.2):(a.1,v)=flS a:=by
 obtain⟨x,y⟩:=a;unfold flS
 cases v<;>cases y<;>first|rfl|grind
theorem Ytn(hSK:∀x∈S,x∉K)(nb:¬BadE L K S)(hp:PlanOf L K S τ rows)(ht:Tr L K S τ)(ha:a.1∈S\/a.1∈K)(hb:b.1∈S\/b.1∈K)(h:Rch L (flS a) b):
 Ybu rows a=(none,true)\/Ybu rows b=(none,true)\/flE (Ybu rows a)=Ybu rows b:=by
 have h':Rch L (flS b) a:=by
  have:=h.skew;rw[fl2]at this;exact this
 rcases cls hSK hp ha with⟨e,e1,e2,e3,e4⟩|⟨a1,a2,a3⟩
 ·rcases cls hSK hp hb with⟨f,f1,f2,f3,f4⟩|⟨b1,b2,b3⟩
  ·have:=Yxg nb (s:=flS e) (t:=f) e1 f1 ((e3.skew.trans h).trans f3)
   refine .inr (.inr ?_);rw[e2,f2,<-this];rfl
  ·have:=ht.one b.1 b1 b2 (flS e) e1 b.2 (e3.skew.trans h)
   grind
 ·by_cases hv:τ a.1=a.2
  ·grind
  ·rcases cls hSK hp hb with⟨f,f1,f2,f3,f4⟩|⟨b1,b2,b3⟩
   ·have:=ht.one a.1 a1 a2 (flS f) f1 a.2 (f3.skew.trans h')
    grind
   ·refine .inr (.inl ?_)
    have e:=Yaap hv;have:=ht.two a.1 a1 a2 b.1 b1 b2 b.2 (by grind);grind
theorem y3m(hL:∀l∈L,Yhj l)(hin:∀l∈L,∀s∈l,s.1∈S\/s.1∈K)(hSK:∀x∈S,x∉K)(nb:¬BadE L K S)(hp:PlanOf L K S τ rows)(ht:Tr L K S τ):GoodE L K S rows:=by
 refine⟨hp.ks,λr hr=>?_,λl hl=>?_⟩
 ·rcases hp.row r hr with⟨s,⟨t1,t2,t3⟩,hs⟩|⟨_,hs⟩
  ·have hrK:r.1∈K:=by rw[<-hp.ks];grind
   have hlt:s.1<r.1:=by
    rcases Nat.lt_trichotomy s.1 r.1 with h|h|h
    ·exact h
    ·grind
    ·exact absurd (.late s (r.1,true) t1 hrK h t2 t3) nb
   unfold rowP;grind
  ·unfold rowP
   rw[hs]
 ·obtain⟨g1,g2⟩:=hL l hl
  match l,g1,g2,hl with
  | [],_,_,hl=>exact absurd (.broken hl) nb
  | [a],_,_,hl=>
    have h:Rch L (flS a) a:=.one ⟨[a],hl,by rw[fl2];simp,by simp,λ_=>rfl⟩;have ha:=hin [a] hl a (by simp);rcases Ytn hSK nb hp ht ha ha h with e|e|e
    ·exact Yjj (by simp[e])
    ·exact Yjj (by simp[e])
    ·exact absurd e (Yxd _)
  | [a,b],_,g2,hl=>
    have hab:¬a=b:=by grind
    have h:Rch L (flS a) b:=.one ⟨[a,b],hl,by rw[fl2];simp,by simp,λz=>absurd (by rw[z,fl2]) hab⟩;rcases Ytn hSK nb hp ht (hin _ hl a (by simp)) (hin _ hl b (by simp)) h with e|e|e
    ·exact Yjj (by simp[e])
    ·exact Yjj (by simp[e])
    ·exact y6i (e:=Ybu rows a) (by simp) (by rw[e];simp)
def updF(L:AZ)(s:Say)(f g:Nat->Option Bool):Prop:=∀j,(∀v,Rch L s (j,v)->(g j).isSome=true)/\(∀v,g j=some v->Rch L s (j,v)\/((∀u,¬Rch L s (j,u))/\f j=some v))/\((∀u,¬Rch L s (j,u))->g j=f j)
structure Ph1(L:AZ)(T:BA)(f:Nat->Option Bool):Prop where
 up:∀j v,f j=some v->∃s∈T,Rch L s (j,v)
 dom:∀j,∀s∈T,∀v,Rch L s (j,v)->(f j).isSome=true
def Yaaq(L:AZ):Ph1 L [] λ_=>none:=⟨λj v h=>(nomatch h),λj s hs=>(nomatch hs)⟩
theorem y6j(h:Ph1 L T f)(hu:updF L s f g):Ph1 L (T++[s]) g:=by
 refine⟨λj v hj=>?_,λj t ht v hr=>?_⟩
 ·rcases(hu j).2.1 v hj with w|⟨_,w⟩
  ·grind
  ·obtain⟨t,ht,hr⟩:=h.up j v w
   grind
 ·by_cases z:∃u,Rch L s (j,u)
  ·obtain⟨u,hz⟩:=z
   exact(hu j).1 u hz
  ·have z':∀u,¬Rch L s (j,u):=λu hu=>z ⟨u,hu⟩
   rw[(hu j).2.2 z'];rcases qv ht with ht|ht
   ·exact h.dom j t ht v hr
   grind
def Yvt(k:Nat)(v:Bool):flS (k,v)=(k,!v):=rfl
theorem y3n(nb:¬BadE L K S)(hlo:loose L S k)(hs:s.1∈S)(ht:t.1∈S)(h1:Rch L s (k,v))(h2:Rch L t (k,u)):v=u:=by
 refine Classical.byContradiction λz=>?_
 have e:(k,u)=flS (k,v):=by
  rw[Yvt]
  cases v<;>cases u<;>first|rfl|grind
 rw[e]at h2;have h3:=h2.skew;rw[fl2]at h3;have h4:=Yxg nb (s:=s) (t:=flS t) hs ht (h1.trans h3)
 have h5:Rch L (k,v) s:=by grind
 cases v with
 | true=>exact hlo s ⟨hs,h1,h5⟩
 | false=>
   refine hlo (flS s) ⟨hs,?_,?_⟩
   ·have:=h5.skew
    exact this
   ·have:=h1.skew
    exact this
structure Ph2(L:AZ)(K S:AG)(f:Nat->Option Bool):Prop where
 one:∀k,loose L S k->∀s:Say,s.1∈S->∀v,Rch L s (k,v)->f k=some v
 two:∀k j,loose L S k->loose L S j->∀v u,f k=some v->Rch L (k,v) (j,u)->f j=some u
 dom:∀k,¬loose L S k->(f k).isSome=true
theorem y3o(nb:¬BadE L K S)(hT:∀s:Say,s∈T↔s.1∈S)(h:Ph1 L T f):Ph2 L K S f:=by
 have one:∀k,loose L S k->∀s:Say,s.1∈S->∀v,Rch L s (k,v)->f k=some v:=λk hlo s hs v hr=>by
  have hd:=h.dom k s ((hT s).mpr hs) v hr
  cases e:f k with
  | none=>grind
  | some u=>
    obtain⟨t,ht,hrt⟩:=h.up k u e;rw[y3n nb hlo hs ((hT t).mp ht) hr hrt]
 refine⟨one,λk j hk hj v u e hr=>?_,λk hk=>?_⟩
 ·obtain⟨t,ht,hrt⟩:=h.up k v e
  exact one j hj t ((hT t).mp ht) u (hrt.trans hr)
 ·have:∃s,tied L S k s:=Classical.byContradiction λz=>hk λs hs=>z ⟨s,hs⟩
  obtain⟨s,t1,t2,_⟩:=this;exact h.dom k s ((hT s).mpr t1) true t2
def Yaes(L:AZ)(k:Nat)(l:Say):Prop:=l.1=k/\¬Rch L l (flS l)
theorem y6k(nb:¬BadE L K S)(h:Ph2 L K S f)(hk:f k=none)(hl:Yaes L k l)(hu:updF L l f g):Ph2 L K S g/\(g k).isSome=true/\∀j,(f j).isSome=true->(g j).isSome=true:=by
 have hlo:loose L S k:=Classical.byContradiction λz=>by
  have:=h.dom k z;grind
 have hone:∀j v u,Rch L l (j,v)->Rch L l (j,u)->v=u:=λj v u h1 h2=>by
  refine Classical.byContradiction λz=>hl.2 ?_
  have e:(j,u)=flS (j,v):=by
   rw[Yvt]
   cases v<;>cases u<;>first|rfl|grind
  rw[e]at h2;have h3:=h2.skew;rw[fl2]at h3;exact h1.trans h3
 have hset:∀j v,Rch L l (j,v)->g j=some v:=λj v hr=>by
  have hd:=(hu j).1 v hr
  cases e:g j with
  | none=>grind
  | some u=>
    rcases(hu j).2.1 u e with w|⟨w,_⟩
    ·grind
    grind
 have hstay:∀j,loose L S j->∀v,f j=some v->g j=some v:=λj hj v e=>by
  by_cases z:∃u,Rch L l (j,u)
  ·obtain⟨u,hz⟩:=z
   have:u=v:=Classical.byContradiction λne=>by
    have e2:(j,u)=flS (j,v):=by
     rw[Yvt]
     cases v<;>cases u<;>first|rfl|grind
    rw[e2]at hz;have h3:=hz.skew;rw[fl2]at h3
    have hfl:flS l=(k,!l.2):=by rw[<-hl.1];rfl
    rw[hfl]at h3;have:=h.two j k hj hlo v (!l.2) e h3;grind
   grind
  ·rw[(hu j).2.2 λu hu=>z ⟨u,hu⟩]
   exact e
 refine⟨⟨λj hj s hs v hr=>hstay j hj v (h.one j hj s hs v hr),λi j hi hj v u e hr=>?_,λj hj=>?_⟩,?_,λj hj=>?_⟩
 ·rcases(hu i).2.1 v e with w|⟨_,w⟩
  ·exact hset j u (w.trans hr)
  ·exact hstay j hj u (h.two i j hi hj v u w hr)
 ·have hd:=h.dom j hj
  by_cases z:∃u,Rch L l (j,u)
  ·grind
  ·rw[(hu j).2.2 λu hu=>z ⟨u,hu⟩]
   exact hd
 ·have:Rch L l (k,l.2):=by rw[<-hl.1];exact .refl
  grind
 ·by_cases z:∃u,Rch L l (j,u)
  ·grind
  ·rw[(hu j).2.2 λu hu=>z ⟨u,hu⟩]
   exact hj
theorem Yagj(h:Ph2 L K S f)(hd:∀k∈K,(f k).isSome=true):Tr L K S λk=>(f k).getD false:=by
 have hv:∀k∈K,f k=some ((f k).getD false):=λk hk=>by
  have:=hd k hk
  cases e:f k with
  | none=>grind
  | some v=>rfl
 refine⟨λk hk hlo s hs v hr=>?_,λk hk hlo j hj hlj v hr=>?_⟩
 ·rw[h.one k hlo s hs v hr]
  rfl
 ·rw[h.two k j hlo hlj _ v (hv k hk) hr]
  rfl
def kN(s:Say):AH:=[(s.1:Int),if s.2 then 1 else 0]
theorem y3p(h:kN s=kN t):s=t:=by
 obtain⟨a,b⟩:=s;obtain⟨c,d⟩:=t;unfold kN at h;grind
def Yjk(s:Say):nKey (sayD s)=some (kN s):=rfl
theorem Yfl:∀l:BA,Yhg (l.map sayD)=some (l.map kN)
 | []=>rfl
 | s::l=>by
   rw[Qa,Yhg,Yjk,qd,Yfl l];rfl
theorem mem_kN{l:BA}:kN s∈l.map kN↔s∈l:=by
 constructor
 ·intro h
  obtain⟨t,ht,e⟩:=qw h;rw[<-y3p e];exact ht
 grind
theorem Yxh(neg:Bool)(s:Say)(l:BA)(vs:AR):hasT neg (sayD s) (.dct true (l.map sayD) vs)=some (decide (s∈l)!=neg):=by
 show(Yhg (l.map sayD)).bind _=_;rw[Yfl,qd,Yjk,Option.map_some,decide_eq_decide.mpr mem_kN]
def optS:Option Say->D
 | none=>.non
 | some s=>sayD s
abbrev Wy:=List (Say×Option Say)
def kyW(W:Wy):BA:=W.map (·.1)
def wyD(W:Wy):D:=.dct true ((kyW W).map sayD) (W.map λp=>optS p.2)
structure WOk(L:AZ)(s:Say)(W:Wy):Prop where
 nd:(kyW W).Nodup
 hd:∃X,W=(s,none)::X
 par:∀i p,W[i]?=some p->0<i->∃(k:Nat) (q:Say×Option Say),k<i/\W[k]?=some q/\p.2=some q.1/\p.1∈ledL L q.1
theorem y6l(h:WOk L s W){j:Nat}(hj:W[j]?=some q)(ht:t∈ledL L q.1)(hn:t∉kyW W):WOk L s (W++[(t,some q.1)]):=by
 refine⟨?_,?_,λi p hi hp=>?_⟩
 ·unfold kyW
  rw[wt,List.nodup_append];refine⟨h.nd,by simp,λx hx y hy e=>?_⟩;simp at hy;subst hy e;exact hn hx
 ·obtain⟨X,e⟩:=h.hd
  grind
 ·by_cases hlt:i<W.length
  ·rw[List.getElem?_append_left hlt]at hi
   obtain⟨k,r,h1,h2,h3⟩:=h.par i p hi hp;exact⟨k,r,h1,by grind,h3⟩
  ·rw[List.getElem?_append_right (by lia)]at hi
   have hi0:i-W.length=0:=by
    grind
   rw[hi0]at hi;have:p=(t,some q.1):=(w6 hi).symm;subst this;have hjl:j<W.length:=(qo hj).1;exact⟨j,q,by lia,by grind,rfl,ht⟩
def stW(bk:D)(s:Say)(W:Wy)(j:Nat)(y:AT):Ro:=[↑bk,↑(sayD s),some (.od true ((kyW W).map sayD) (W.map λp=>optS p.2)),some (.ow ((kyW W).map sayD)),↑(.int (j:Int)),y]
theorem Yaar(hl:W.length<=1000)(hn:t∉kyW W)(d:D):putD ((kyW W).map sayD) (W.map λp=>optS p.2) (sayD t) d=some ((kyW W).map sayD++[sayD t],(W.map λp=>optS p.2)++[d]):=by
 unfold putD;rw[Yfl,qd,Yjk,qd,if_pos (by rw[qf];show W.length<1000000;lia),if_neg (λz=>hn (mem_kN.mp z))]
theorem Yj9:∀(ts:BA) (W:Wy) (y:AT),WOk L s W->W.length+ts.length<=1000->W[j]?=some q->(∀t∈ts,t∈ledL L q.1)->
 ∃(X:Wy) (y':AT),WOk L s (W++X)/\(∀t∈ts,t∈kyW (W++X))/\(∀p∈X,p.1∈ts)/\M.forM (gSet 5) Ybk (ts.map sayD) (stW bk s W j y)=some (.nx (stW bk s (W++X) j y'))
 | [],W,y,hW,_,_,_=>⟨[],y,by grind,λt ht=>(nomatch ht),λp hp=>(nomatch hp),by rw[ja];rfl⟩
 | t::ts,W,y,hW,hl,hj,ht=>by
   have hat:atI ((kyW W).map sayD) (j:Int)=some (sayD q.1):=by
    have hjl:j<W.length:=(qo hj).1;rw[Yft]
    have:(kyW W)[j]?=some q.1:=by unfold kyW;grind
    rw[Yhv this];rfl
   rw[Qa,M.forM];have hg:gSet 5 (sayD t) (stW bk s W j y)=some (stW bk s W j (some (.sh (sayD t)))):=rfl;rw[hg,qd]
   have hl':W.length+ts.length+1<=1000:=by grind
   have hh:=Yxh true t (kyW W) (W.map λp=>optS p.2);by_cases hm:t∈kyW W
   ·have e1:Ybk (stW bk s W j (some (.sh (sayD t))))=some (.nx (stW bk s W j (some (.sh (sayD t))))):=by
     simp only[hm,decide_true]at hh;unfold stW;generalize (kyW W).map sayD=KW,(W.map λp=>optS p.2)=VW,sayD t=dt,sayD s=ds at *;simp[Ybk,hh]
    obtain⟨X,y',h1,h2,h3,h4⟩:=Yj9 ts W (some (.sh (sayD t))) hW (by lia) hj λu hu=>ht u (qg _ hu);refine⟨X,y',h1,λu hu=>?_,λp hp=>qg _ (h3 p hp),?_⟩
    ·rcases qt hu with rfl|hu
     ·unfold kyW
      rw[wt];exact List.mem_append.mpr (.inl hm)
     grind
    ·rw[e1,qd]
     exact h4
   ·have hW':=y6l hW hj (ht t (by simp)) hm
    have e1:Ybk (stW bk s W j (some (.sh (sayD t))))=some (.nx (stW bk s (W++[(t,some q.1)]) j (some (.sh (sayD t))))):=by
     simp only[hm,decide_false]at hh;have hp:=Yaar (by lia) hm (sayD q.1);have happ:appD ((kyW W).map sayD) (sayD t)=some ((kyW W).map sayD++[sayD t]):=Ypz (by unfold kyW;simp;lia)
     have k1:(kyW (W++[(t,some q.1)])).map sayD=(kyW W).map sayD++[sayD t]:=by unfold kyW;grind
     have k2:((W++[(t,some q.1)]).map λp=>optS p.2)=(W.map λp=>optS p.2)++[sayD q.1]:=by rw[wt];rfl
     unfold stW;rw[k1,k2];clear k1 k2;generalize (kyW W).map sayD=KW,(W.map λp=>optS p.2)=VW,sayD t=dt,sayD s=ds,sayD q.1=dq at *;have hod:y42 2 [↑bk,↑ds,some (.od true KW VW),some (.ow KW),↑(.int (j:Int)),↑dt]=some (KW,VW):=rfl
     have hput:sPut 2 (getC 5) (b2 (getC 3) (getC 4) ixD) [↑bk,↑ds,some (.od true KW VW),some (.ow KW),↑(.int (j:Int)),↑dt]=some (.nx [↑bk,↑ds,some (.od true (KW++[dt]) (VW++[dq])),some (.ow KW),↑(.int (j:Int)),↑dt]):=by
      unfold sPut
      simp_all
     simp[Ybk,hh,hput,happ]
    have hj2:(W++[(t,some q.1)])[j]?=some q:=by
     grind
    obtain⟨X,y',h1,h2,h3,h4⟩:=Yj9 ts (W++[(t,some q.1)]) (some (.sh (sayD t))) hW' (by grind) hj2 λu hu=>ht u (qg _ hu);rw[jc]at h1 h2 h4;refine⟨[(t,some q.1)]++X,y',h1,λu hu=>?_,λp hp=>?_,?_⟩
    ·rcases qt hu with rfl|hu
     ·unfold kyW
      simp
     grind
    ·grind
    ·rw[e1,qd]
     exact h4
theorem Yto(hn:(kyW W).Nodup)(h:∀s∈kyW W,s.1<60):W.length<=120:=by
 have hm:((kyW W).map λs:Say=>2*s.1+(if s.2 then 1 else 0)).Nodup:=by
  grind
 have:=Yjf 120 _ hm λx hx=>by
  grind
 simpa [kyW]using this
theorem Yaet(hL:∀l∈L,∀s∈l,s.1<60)(h:t∈ledL L s):t.1<60:=by
 unfold ledL at h;obtain⟨l,hl,e⟩:=List.mem_filterMap.mp h;unfold Yqm at e
 split at e
 ·rename_i hm
  injection e with e;subst e
  cases hf:l.filter λt=>!decide (t=flS s)with
  | nil=>grind
  | cons a r=>
    grind
 ·cases e
def Yqr(L:AZ)(W:Wy)(j:Nat):Prop:=∀k q,W[k]?=some q->k<j->∀t∈ledL L q.1,t∈kyW W
theorem Yzb(hLl:L.length<=500)(hL:∀l∈L,∀s∈l,s.1<60):∀(m fuel j:Nat) (W:Wy) (y:AT),121<=j+m->m+1<=fuel->WOk L s W->(∀t∈kyW W,t.1<60)->j<=W.length->Yqr L W j->
 ∃(W':Wy) (j':Nat) (y':AT),WOk L s W'/\(∀t∈kyW W',t.1<60)/\Yqr L W' W'.length/\Ybs (b2 (getC 4) (cC (Ye (getC 3) aNil) lenC) ltI) Yb5 fuel (stW (bkE L) s W j y)=some (.nx (stW (bkE L) s W' j' y')):=by
 intro m
 induction m with
 | zero=>
   intro fuel j W y h1 h2 hW h60 hj hc;have:=Yto hW.nd h60;lia
 | succ m ih=>
   intro fuel j W y h1 h2 hW h60 hj hc
   cases fuel with
   | zero=>lia
   | succ fuel=>
     have hcond:(b2 (getC 4) (cC (Ye (getC 3) aNil) lenC) ltI) (stW (bkE L) s W j y)=some (decide (j<W.length)):=by
      have hlen:(((kyW W).map sayD).length:Int)=(W.length:Int):=by unfold kyW;simp
      unfold stW
      simp_all
     rw[Ybs,hcond];by_cases hlt:j<W.length
     ·have hq:W[j]?=some W[j]:=qq hlt
      have hled:=y57 (L:=L) (by lia) W[j].1;have hWl:=Yto hW.nd h60;have hll:(ledL L W[j].1).length<=500:=Qg (List.length_filterMap_le _ _) hLl;obtain⟨X,y1,k1,k2,k3,k4⟩:=Yj9 (bk:=bkE L) (j:=j) (q:=W[j]) (ledL L W[j].1) W y hW (by lia) hq λt ht=>ht
      have hbody:Yb5 (stW (bkE L) s W j y)=some (.nx (stW (bkE L) s (W++X) (j+1) y1)):=by
       have hat:atI ((kyW W).map sayD) (j:Int)=some (sayD W[j].1):=by
        rw[Yft]
        have:(kyW W)[j]?=some W[j].1:=by unfold kyW;grind
        rw[Yhv this];rfl
       have hinc:((j+1:Nat):Int)=(j:Int)+1:=by lia
       unfold stW at k4 ⊢;rw[hinc];generalize (kyW (W++X)).map sayD=KX,((W++X).map λp=>optS p.2)=VX,(kyW W).map sayD=KW,(W.map λp=>optS p.2)=VW,sayD W[j].1=dq,sayD s=ds,(ledL L W[j].1).map sayD=LL,bkE L=bk at *;simp[Yb5,hat,hled,k4]
      have h60':∀t∈kyW (W++X),t.1<60:=λt ht=>by
       unfold kyW at ht;rw[wt]at ht;rcases qv ht with ht|ht
       ·exact h60 t ht
       ·obtain⟨p,hp,rfl⟩:=qw ht
        exact Yaet hL (k3 p hp)
      have hc':Yqr L (W++X) (j+1):=λk q hk hkj t ht=>by
       by_cases e:k=j
       ·grind
       ·rw[List.getElem?_append_left (by lia)]at hk
        have:=hc k q hk (by lia) t ht;unfold kyW at this ⊢;grind
      obtain⟨W',j',y',r1,r2,r3,r4⟩:=ih fuel (j+1) (W++X) y1 (by lia) (by lia) k1 h60' (by grind) hc';grind
     grind
structure Ways(L:AZ)(s:Say)(W:Wy):Prop extends WOk L s W where
 cl:Yqr L W W.length
 lt:∀t∈kyW W,t.1<60
theorem Yvu(hLl:L.length<=500)(hL:∀l∈L,∀s∈l,s.1<60)(hs:s.1<60):∃W:Wy,Ways L s W/\Yc5 [bkE L,sayD s]=some (wyD W):=by
 have h0:WOk L s [(s,none)]:=⟨by simp[kyW],⟨[],rfl⟩,λi p hi hp=>by
  grind⟩
 obtain⟨W,j,y,h1,h2,h3,h4⟩:=Yzb hLl hL (s:=s) 121 4000 0 [(s,none)] none (by lia) (by lia) h0 (λt ht=>by simp[kyW]at ht;grind) (jb _) (λk q _ hk=>by lia);refine⟨W,{ h1 with cl:=h3,lt:=h2 },?_⟩;rw[Yc5,y0 (by rfl)];have hst0:Yr 6 [bkE L,sayD s]=[↑(bkE L),↑(sayD s),none,none,none,none]:=rfl;have hdisp:y07 2 (getV 1) (kD .non) [↑(bkE L),↑(sayD s),none,none,none,none]=some (.nx [↑(bkE L),↑(sayD s),some (.od true [sayD s] [.non]),none,none,none]):=rfl;rw[hst0,Ymg,Ybx,hdisp,qd,Yg3];have h4':Ybs (b2 (getC 4) (cC (Ye (getC 3) aNil) lenC) ltI) Yb5 4000 [↑(bkE L),↑(sayD s),some (.od true [sayD s] [.non]),some (.ow [sayD s]),↑(.int 0),none]=some (.nx (stW (bkE L) s W j y)):=h4;have h5:Yix (stW (bkE L) s W j y)=some (.rt (wyD W)):=rfl
 simp_all
theorem y3q(hL:∀l∈L,Yhj l):t∈ledL L s↔ed L s t:=by
 unfold ledL ed;rw[List.mem_filterMap];constructor
 ·rintro⟨l,hl,e⟩
  unfold Yqm at e
  split at e
  ·rename_i hm
   injection e with e
   cases hf:l.filter λt=>!decide (t=flS s)with
   | nil=>
     rw[hf]at e;have e':flS s=t:=e;refine⟨l,hl,hm,by grind,λ_=>?_⟩
     have hall:∀x∈l,x=flS s:=λx hx=>by
      grind
     obtain⟨_,g2⟩:=hL l hl
     match l,g2,hm,hall with
     | [a],_,_,_=>rfl
     | a::b::r,g2,_,hall=>
       grind
   | cons a r=>
     grind
  ·cases e
 ·rintro⟨l,hl,h1,h2,h3⟩
  refine⟨l,hl,?_⟩;unfold Yqm;rw[if_pos h1];obtain⟨g1,g2⟩:=hL l hl;by_cases e:t=flS s
  ·have hlen:=h3 e
   match l,hlen,h1 with
   | [a],_,h1=>
     grind
  ·have hf:l.filter (λt=>!decide (t=flS s))=[t]:=by
    match l,g1,g2,h1,h2 with
    | [a],_,_,h1,h2=>
      grind
    | [a,b],_,g2,h1,h2=>
      grind
   grind
theorem Ylg(hL:∀l∈L,Yhj l)(h:Ways L s W):t∈kyW W↔Rch L s t:=by
 have key:∀(n i:Nat) p,i<n->W[i]?=some p->Rch L s p.1:=λn=>by
  induction n with
  | zero=>grind
  | succ n ih=>
    intro i p hi hp;by_cases h0:i=0
    ·subst h0
     obtain⟨X,e⟩:=h.hd;rw[e]at hp;cases hp;exact .refl
    ·obtain⟨k,q,k1,k2,k3,k4⟩:=h.par i p hp (by lia)
     exact .step (ih k q (by lia) k2) ((y3q hL).mp k4)
 constructor
 ·intro ht
  obtain⟨p,hp,rfl⟩:=qw ht;obtain⟨i,hi,e⟩:=List.mem_iff_getElem.mp hp;exact key (i+1) i p (by lia) (by grind)
 ·intro hr
  induction hr with
  | refl=>
    obtain⟨X,e⟩:=h.hd;rw[e];simp[kyW]
  | step _ e ih=>
    obtain⟨p,hp,rfl⟩:=qw ih;obtain⟨i,hi,e2⟩:=List.mem_iff_getElem.mp hp;exact h.cl i p (by grind) hi _ ((y3q hL).mpr e)
inductive BackP (L:AZ) (s:Say):BA->Say->Prop
 | one:BackP L s [s] s
 | cons {p:BA}{q t:Say}:BackP L s p q->t∈ledL L q->BackP L s (t::p) t
theorem Yqs:∀{W:List (Say×β)}{i:Nat}{p:Say×β},(W.map (·.1)).Nodup->W[i]?=some p->Yab ((W.map (·.1)).map kN) (W.map (·.2)) (kN p.1)=some p.2
 | [],i,p,_,h=>by simp at h
 | w::W,i,p,hn,h=>by
   rw[Qa,List.nodup_cons]at hn;rw[Qa,Qa,Qa,Yab]
   cases i with
   | zero=>
     grind
   | succ i=>
     rw[List.getElem?_cons_succ]at h;have hm:p.1∈W.map (·.1):=List.mem_map_of_mem (f:=(·.1)) (List.mem_of_getElem? h);rw[if_neg (λz=>hn.1 (by rw[y3p z];exact hm))];exact Yqs hn.2 h
theorem y6m(hn:(kyW W).Nodup){i:Nat}(h:W[i]?=some p):getT (wyD W) (sayD p.1)=some (optS p.2):=by
 show(Yhg ((kyW W).map sayD)).bind _=_;rw[Yfl,qd,Yjk,qd];have:=Yqs (W:=W.map λp=>(p.1,optS p.2)) (i:=i) (p:=(p.1,optS p.2)) (by rw[Qe];exact hn) (by grind)
 have e1:((W.map λp=>(p.1,optS p.2)).map (·.1))=kyW W:=by rw[Qe];rfl
 have e2:((W.map λp=>(p.1,optS p.2)).map (·.2))=W.map λp=>optS p.2:=by simp_all
 grind
theorem Yzc(h:WOk L s W)(hl:W.length<=120)(d1:AT):∀(n fuel i:Nat) (p:Say×Option Say) (R:BA),i<n->i+2<=fuel->R.length+i<=500->W[i]?=some p->
 ∃b:BA,BackP L s b p.1/\b.length<=i+1/\Ybs (b2 (getC 3) (kD .non) (isN true)) Yfu fuel [↑(wyD W),d1,some (.ow (R.map sayD)),↑(sayD p.1)]=some (.nx [↑(wyD W),d1,some (.ow ((R++b).map sayD)),↑.non]):=by
 intro n
 induction n with
 | zero=>grind
 | succ n ih=>
   intro fuel i p R hi hf hRl hp
   cases fuel with
   | zero=>lia
   | succ fuel=>
     have hcond:∀(x:Say) (R:BA),(b2 (getC 3) (kD .non) (isN true)) [↑(wyD W),d1,some (.ow (R.map sayD)),↑(sayD x)]=some true:=λx R=>rfl;have hend:∀R:BA,(b2 (getC 3) (kD .non) (isN true)) [↑(wyD W),d1,some (.ow (R.map sayD)),↑.non]=some false:=λR=>rfl;have hg:=y6m h.nd hp
     have hstep:Yfu [↑(wyD W),d1,some (.ow (R.map sayD)),↑(sayD p.1)]=some (.nx [↑(wyD W),d1,some (.ow ((R++[p.1]).map sayD)),↑(optS p.2)]):=by
      have happ:appD (R.map sayD) (sayD p.1)=some (R.map sayD++[sayD p.1]):=Ypz (by grind);rw[wt];generalize wyD W=wd,R.map sayD=RR at *;have hs1:[p.1].map sayD=[sayD p.1]:=rfl;rw[hs1];generalize sayD p.1=dp,optS p.2=op at *;simp[Yfu,happ,hg]
     rw[Ybs,hcond,qd,if_pos rfl,hstep,qd];by_cases h0:i=0
     ·subst h0
      obtain⟨X,e⟩:=h.hd;rw[e]at hp;cases hp;refine⟨[s],.one,by simp,?_⟩
      cases fuel with
      | zero=>lia
      | succ fuel=>
        show Ybs _ _ (fuel+1) [↑(wyD W),d1,some (.ow ((R++[s]).map sayD)),↑.non]=_;rw[Ybs,hend,qd,if_neg qi]
     ·obtain⟨k,q,k1,k2,k3,k4⟩:=h.par i p hp (by lia)
      obtain⟨b,b1,b2',b3⟩:=ih fuel k q (R++[p.1]) (by lia) (by lia) (by simp;lia) k2;refine⟨p.1::b,.cons b1 k4,by simp;lia,?_⟩;rw[k3]
      have e:R++p.1::b=(R++[p.1])++b:=by simp
      rw[e];exact b3
structure Road(L:AZ)(s t:Say)(r:BA):Prop where
 ok:okR L r=true
 fst:at0 r 0=s
 lst:Yvn r=t
 len:r.length<=120
theorem Yqt(h:i<r.length)(x:Say):at0 (r++[x]) i=at0 r i:=by
 unfold at0;grind
def y3r(r:BA)(x:Say):at0 (r++[x]) r.length=x:=by
 unfold at0;rw[Qk];simp
theorem y3s(h:BackP L s b t):okR L b.reverse=true/\at0 b.reverse 0=s/\Yvn b.reverse=t:=by
 induction h with
 | one=>
   refine⟨?_,rfl,rfl⟩;unfold okR;simp
 | @cons p q t _ hm ih=>
   obtain⟨h1,h2,h3⟩:=ih;have hpos:=y24 h1;rw[List.reverse_cons];refine⟨?_,by rw[Yqt hpos];exact h2,?_⟩
   ·unfold okR at h1 ⊢
    rw[Qb,List.all_eq_true]at h1 ⊢;refine⟨by simp,λi hi=>?_⟩;have hi':=qy hi;rw[qx,jd]at hi';unfold stO;by_cases e:i+1<p.reverse.length
    ·have:=h1.2 i (List.mem_range.mpr (by lia))
     unfold stO at this;rw[Yqt e,Yqt (by lia)];exact this
    ·have e2:i+1=p.reverse.length:=by lia
     rw[e2,y3r,Yqt (by lia)]
     have:at0 p.reverse i=q:=by
      rw[<-h3];unfold Yvn
      congr 1
      lia
     rw[this];exact wn hm
   ·unfold Yvn
    rw[qx,jd,Nat.add_sub_cancel,y3r]
theorem Yjl(h:Ways L s W)(ht:t∈kyW W):∃r:BA,Road L s t r/\Yet [wyD W,sayD t]=some (.tup (r.map sayD)):=by
 obtain⟨p,hp,rfl⟩:=qw ht;obtain⟨i,hi,e⟩:=List.mem_iff_getElem.mp hp;have hl:=Yto h.nd h.lt;obtain⟨b,b1,b2',b3⟩:=Yzc h.toWOk hl (some (.sh (sayD p.1))) (i+1) 4000 i p [] (by lia) (by lia) (by simp;lia) (by grind);obtain⟨r1,r2,r3⟩:=y3s b1;refine⟨b.reverse,⟨r1,r2,r3,by grind⟩,?_⟩;rw[Yet,y0 (by rfl)];have hst0:Yr 4 [wyD W,sayD p.1]=[↑(wyD W),↑(sayD p.1),none,none]:=rfl;rw[hst0];rw[Qd,List.map_nil]at b3;rw[List.map_reverse];generalize b.map sayD=BB,wyD W=wd,sayD p.1=dp at *;have hrev:revF (getC 2) [↑wd,↑dp,some (.ow BB),↑.non]=some BB.reverse:=rfl;simp[Ywz,b3,hrev]
def sayL(B:AG):BA:=B.flatMap λb=>[(b,false),(b,true)]
theorem mem_sayL{B:AG}:s∈sayL B↔s.1∈B:=by
 unfold sayL;rw[List.mem_flatMap];constructor
 ·grind
 ·intro h
  refine⟨s.1,h,?_⟩;obtain⟨a,b⟩:=s;cases b<;>simp
theorem Yqu(B:AG):(sayL B).length=2*B.length:=by
 induction B with
 | nil=>rfl
 | cons b B ih=>
   have:sayL (b::B)=[(b,false),(b,true)]++sayL B:=rfl;grind
theorem Ych{B:AG}(hc:Yn c=some (B.map nD))(hB:B.length<=1000):Yaq [c]=some (.lst ((sayL B).map sayD)):=by
 obtain⟨ρ',e1,y2,rfl⟩:=Ydb (gt:=gSet 2) (fb:=Yek) nD (λpre ρ=>∃y2:Option M.B,ρ=[↑c,some (.ow ((sayL pre).map sayD)),y2]) B []
  [↑c,some (.ow []),none] ⟨none,rfl⟩ (by
   rintro q b r ρ e ⟨y2,rfl⟩
   have hq:q.length<=1000:=by
    grind
   refine⟨_,[↑c,some (.ow ((sayL (q++[b])).map sayD)),↑(nD b)],rfl,?_,_,rfl⟩
   have hap:(sayL (q++[b])).map sayD=(sayL q).map sayD++[.tup [.int (b:Int),.bl false],.tup [.int (b:Int),.bl true]]:=by
    unfold sayL;rw[List.flatMap_append,wt];rfl
   have hx:=Yqu q
   have hext:extD ((sayL q).map sayD) (.lst [.tup [.int (b:Int),.bl false],.tup [.int (b:Int),.bl true]])=some ((sayL q).map sayD++[.tup [.int (b:Int),.bl false],.tup [.int (b:Int),.bl true]]):=by
    unfold extD;simp;lia
   rw[hap];generalize (sayL q).map sayD=SQ at *
   simp[Yek,hext])
 rw[Qd]at e1;rw[Yaq,y0 (by rfl)];generalize (sayL B).map sayD=SB,B.map nD=BB at *;simp[Ykh,Yr,hc,e1]
def wsD(A:BA)(wf:Say->Wy):D:=.dct true (A.map sayD) (A.map λs=>wyD (wf s))
theorem Ye8(hn:A.Nodup)(h:s∈A):getT (wsD A wf) (sayD s)=some (wyD (wf s)):=by
 show(Yhg (A.map sayD)).bind _=_;rw[Yfl,qd,Yjk,qd];obtain⟨i,hi,e⟩:=List.mem_iff_getElem.mp h;have:=Yqs (W:=A.map λs=>(s,wyD (wf s))) (i:=i) (p:=(s,wyD (wf s))) (by grind) (by grind)
 have e1:((A.map λs=>(s,wyD (wf s))).map (·.1))=A:=by rw[Qe];simp[wu]
 have e2:((A.map λs=>(s,wyD (wf s))).map (·.2))=A.map λs=>wyD (wf s):=by simp_all
 grind
structure WsOk(L:AZ)(A:BA)(wf:Say->Wy):Prop where
 nd:A.Nodup
 all:∀s∈A,Ways L s (wf s)
theorem Ylh(t:Say):hasT false (sayD t) (wyD W)=some (decide (t∈kyW W)):=by
 unfold wyD;rw[Yxh];simp
theorem y3t(h:WsOk L A wf)(hs:s∈A)(ht:t∈A):Yal [wsD A wf,sayD s,sayD t]=some (.bl (decide (t∈kyW (wf s))&&decide (s∈kyW (wf t)))):=by
 have g1:=Ye8 (wf:=wf) h.nd hs;have g2:=Ye8 (wf:=wf) h.nd ht;have h1:=Ylh (W:=wf s) t;have h2:=Ylh (W:=wf t) s;rw[Yal,y0 (by rfl)];generalize wsD A wf=ws,wyD (wf s)=w1,wyD (wf t)=w2,sayD s=ds,sayD t=dt at *
 cases hb:decide (t∈kyW (wf s))with
 | true=>
   rw[hb]at h1;simp[Ybz,Yr,g1,g2,h1,h2]
 | false=>
   rw[hb]at h1;simp[Ybz,Yr,g1,h1]
inductive StormP (L:AZ) (K S:AG):D->Prop
 | clash {s:Say}{a b:BA}:Road L s (flS s) a->Road L (flS s) s b->StormP L K S (.tup [.str "clash",.tup (a.map sayD),.tup (b.map sayD)])
 | cross {s t:Say}{a:BA}:s.1∈S->t.1∈S->s≠t->Road L s t a->StormP L K S (.tup [.str "cross",.tup (a.map sayD)])
 | late {s t:Say}{a b:BA}:s.1∈S->t.1∈K->t.1<s.1->Road L s t a->Road L t s b->StormP L K S (.tup [.str "late",.tup (a.map sayD),.tup (b.map sayD)])
theorem Yqv(hAl:A.length<=1000)(h:WsOk L A wf)(hfl:∀s∈A,flS s∈A)(K S:AG):
 (∃d,StormP L K S d/\Yco [wsD A wf]=some d)\/((∀s∈A,¬(flS s∈kyW (wf s)/\s∈kyW (wf (flS s))))/\Yco [wsD A wf]=some .non):=by
 have hloop:=Ye0 (gt:=gSet 1) (fb:=Yca) sayD (λpre ρ=>(∀s∈pre,¬(flS s∈kyW (wf s)/\s∈kyW (wf (flS s))))/\∃y1 y2:Option M.B,ρ=[↑(wsD A wf),y1,y2]) (StormP L K S) A []
  [↑(wsD A wf),none,none] ⟨λs hs=>(nomatch hs),none,none,rfl⟩ (by
   rintro q s r ρ e ⟨hq,y1,y2,rfl⟩;rw[Qd]at e
   have hs:s∈A:=by rw[e];simp
   have hc:=Yha s;have hl:=y3t h hs (hfl s hs);refine⟨[↑(wsD A wf),↑(sayD s),y2],rfl,?_⟩;by_cases hm:flS s∈kyW (wf s)/\s∈kyW (wf (flS s))
   ·right
    obtain⟨a,ra,ea⟩:=Yjl (h.all s hs) hm.1;obtain⟨b,rb,eb⟩:=Yjl (h.all _ (hfl s hs)) hm.2;refine⟨_,?_,.clash ra rb⟩;have g1:=Ye8 (wf:=wf) h.nd hs;have g2:=Ye8 (wf:=wf) h.nd (hfl s hs);simp only[hm.1,hm.2,decide_true,Bool.and_self]at hl;generalize wsD A wf=ws,wyD (wf s)=w1,wyD (wf (flS s))=w2,a.map sayD=AA,b.map sayD=BB,sayD (flS s)=df,sayD s=ds at *;simp[Yca,hc,hl,g1,g2,ea,eb]
   ·left
    have hl2:(decide (flS s∈kyW (wf s))&&decide (s∈kyW (wf (flS s))))=false:=by
     grind
    rw[hl2]at hl;refine⟨[↑(wsD A wf),↑(sayD s),↑(sayD (flS s))],?_,λt ht=>?_,_,_,rfl⟩
    ·generalize wsD A wf=ws at *
     generalize sayD (flS s)=df,sayD s=ds at *;simp[Yca,hc,hl]
    grind)
 have hk:Yjy (wsD A wf)=some (A.map sayD):=by
  unfold wsD;rw[Yuu,if_pos (by rw[qf];show A.length<=1000000;lia)]
 rw[Yco,y0 (by rfl)];rcases hloop with⟨ρ',e1,hq,y1,y2,rfl⟩|⟨d,e1,hd⟩
 ·rw[Qd]at hq
  refine .inr ⟨hq,?_⟩;generalize wsD A wf=ws,A.map sayD=AA at *;simp[Yfx,Yr,hk,e1]
 ·refine .inl ⟨d,hd,?_⟩
  generalize wsD A wf=ws,A.map sayD=AA at *;simp[Yfx,Yr,hk,e1]
theorem Yqw(h:WsOk L A wf)(hSl:S.length<=1000)(hS:∀s∈sayL S,s∈A)(K:AG):
 (∃d,StormP L K S d/\Ycp [wsD A wf,.lst (S.map nD)]=some d)\/((∀s∈sayL S,∀t∈sayL S,¬(t≠s/\t∈kyW (wf s)))/\Ycp [wsD A wf,.lst (S.map nD)]=some .non):=by
 have hso:=Ych (c:=.lst (S.map nD)) (B:=S) rfl hSl
 have hloop:=Ye0 (gt:=gSet 2) (fb:=Ycb) sayD (λpre ρ=>(∀s∈pre,∀t∈sayL S,¬(t≠s/\t∈kyW (wf s)))/\∃y2 y3:Option M.B,ρ=[↑(wsD A wf),↑(.lst (S.map nD)),y2,y3]) (StormP L K S) (sayL S) []
  [↑(wsD A wf),↑(.lst (S.map nD)),none,none] ⟨λs hs=>(nomatch hs),none,none,rfl⟩ (by
   rintro q s r ρ e ⟨hq,y2,y3,rfl⟩;rw[Qd]at e
   have hsS:s∈sayL S:=by rw[e];simp
   have hs:=hS s hsS;have g1:=Ye8 (wf:=wf) h.nd hs;refine⟨[↑(wsD A wf),↑(.lst (S.map nD)),↑(sayD s),y3],rfl,?_⟩
   have hin:=Ye0 (gt:=gSet 3) (fb:=Ybh) sayD (λpre ρ=>(∀t∈pre,¬(t≠s/\t∈kyW (wf s)))/\∃y3:Option M.B,ρ=[↑(wsD A wf),↑(.lst (S.map nD)),↑(sayD s),y3]) (StormP L K S) (sayL S) []
    [↑(wsD A wf),↑(.lst (S.map nD)),↑(sayD s),y3] ⟨λs hs=>(nomatch hs),y3,rfl⟩ (by
     rintro q' t r' ρ e' ⟨hq',y3',rfl⟩;rw[Qd]at e'
     have htS:t∈sayL S:=by rw[e'];simp
     have hne:=y23 true t s;have hh:=Ylh (W:=wf s) t;refine⟨[↑(wsD A wf),↑(.lst (S.map nD)),↑(sayD s),↑(sayD t)],rfl,?_⟩
     have tail:¬(t≠s/\t∈kyW (wf s))->(∀u∈q'++[t],¬(u≠s/\u∈kyW (wf s))):=λhm u hu=>by
      grind
     by_cases hts:t=s
     ·left
      refine⟨[↑(wsD A wf),↑(.lst (S.map nD)),↑(sayD s),↑(sayD t)],?_,tail (λz=>z.1 hts),_,rfl⟩;simp only[hts,decide_true,if_true,Bool.not_true]at hne;rw[hts];generalize wsD A wf=ws,sayD s=ds at *;simp[Ybh,hne]
     ·simp only[hts,decide_false,if_true,Bool.not_false]at hne
      by_cases hm:t∈kyW (wf s)
      ·right
       obtain⟨a,ra,ea⟩:=Yjl (h.all s hs) hm;refine⟨_,?_,.cross (mem_sayL.mp hsS) (mem_sayL.mp htS) (λz=>hts z.symm) ra⟩;simp only[hm,decide_true]at hh;generalize wsD A wf=ws,wyD (wf s)=w1,a.map sayD=AA,sayD s=ds,sayD t=dt at *;simp[Ybh,hne,g1,hh,ea]
      ·left
       refine⟨[↑(wsD A wf),↑(.lst (S.map nD)),↑(sayD s),↑(sayD t)],?_,tail (λz=>hm z.2),_,rfl⟩;simp only[hm,decide_false]at hh;generalize wsD A wf=ws,wyD (wf s)=w1,sayD s=ds,sayD t=dt at *
       simp[Ybh,hne,g1,hh])
   rcases hin with⟨ρ2,e1,hq2,y4,rfl⟩|⟨d,e1,hd⟩
   ·left
    rw[Qd]at hq2;refine⟨[↑(wsD A wf),↑(.lst (S.map nD)),↑(sayD s),y4],?_,λu hu=>?_,_,_,rfl⟩
    ·generalize (sayL S).map sayD=SL at *
     generalize wsD A wf=ws,sayD s=ds,S.map nD=SS at *;simp[Ycb,hso,e1]
    grind
   ·right
    refine⟨d,?_,hd⟩;generalize (sayL S).map sayD=SL,wsD A wf=ws,sayD s=ds,S.map nD=SS at *
    simp[Ycb,hso,e1])
 rw[Ycp,y0 (by rfl)];rcases hloop with⟨ρ',e1,hq,y1,y2,rfl⟩|⟨d,e1,hd⟩
 ·rw[Qd]at hq
  refine .inr ⟨hq,?_⟩;generalize wsD A wf=ws,(sayL S).map sayD=AA,S.map nD=SS at *;simp[Yfy,Yr,hso,e1]
 ·refine .inl ⟨d,hd,?_⟩
  generalize wsD A wf=ws,(sayL S).map sayD=AA,S.map nD=SS at *;simp[Yfy,Yr,hso,e1]
def mutW(wf:Say->Wy)(s t:Say):Prop:=t.1<s.1/\t∈kyW (wf s)/\s∈kyW (wf t)
theorem Ytp(h:WsOk L A wf)(hKl:K.length<=1000)(hSl:S.length<=1000)(hK:∀s∈sayL K,s∈A)(hS:∀s∈sayL S,s∈A):
 (∃d,StormP L K S d/\Ydk [wsD A wf,.lst (K.map nD),.lst (S.map nD)]=some d)\/((∀s∈sayL S,∀t∈sayL K,¬mutW wf s t)/\Ydk [wsD A wf,.lst (K.map nD),.lst (S.map nD)]=some .non):=by
 have hso:=Ych (c:=.lst (S.map nD)) (B:=S) rfl hSl;have hko:=Ych (c:=.lst (K.map nD)) (B:=K) rfl hKl
 have hloop:=Ye0 (gt:=gSet 3) (fb:=Ycq) sayD (λpre ρ=>(∀s∈pre,∀t∈sayL K,¬mutW wf s t)/\∃y2 y3:Option M.B,ρ=[↑(wsD A wf),↑(.lst (K.map nD)),↑(.lst (S.map nD)),y2,y3]) (StormP L K S) (sayL S) []
  [↑(wsD A wf),↑(.lst (K.map nD)),↑(.lst (S.map nD)),none,none] ⟨λs hs=>(nomatch hs),none,none,rfl⟩ (by
   rintro q s r ρ e ⟨hq,y2,y3,rfl⟩;rw[Qd]at e
   have hsS:s∈sayL S:=by rw[e];simp
   have hs:=hS s hsS;have g1:=Ye8 (wf:=wf) h.nd hs;refine⟨[↑(wsD A wf),↑(.lst (K.map nD)),↑(.lst (S.map nD)),↑(sayD s),y3],rfl,?_⟩
   have hin:=Ye0 (gt:=gSet 4) (fb:=Yb0) sayD (λpre ρ=>(∀t∈pre,¬mutW wf s t)/\∃y3:Option M.B,ρ=[↑(wsD A wf),↑(.lst (K.map nD)),↑(.lst (S.map nD)),↑(sayD s),y3]) (StormP L K S) (sayL K) []
    [↑(wsD A wf),↑(.lst (K.map nD)),↑(.lst (S.map nD)),↑(sayD s),y3] ⟨λs hs=>(nomatch hs),y3,rfl⟩ (by
     rintro q' t r' ρ e' ⟨hq',y3',rfl⟩;rw[Qd]at e'
     have htK:t∈sayL K:=by rw[e'];simp
     have ht:=hK t htK;have g2:=Ye8 (wf:=wf) h.nd ht;have hl:=y3t h hs ht;have hsi:Yn (sayD s)=some [.int (s.1:Int),.bl s.2]:=rfl;have hti:Yn (sayD t)=some [.int (t.1:Int),.bl t.2]:=rfl;refine⟨[↑(wsD A wf),↑(.lst (K.map nD)),↑(.lst (S.map nD)),↑(sayD s),↑(sayD t)],rfl,?_⟩
     have tail:¬mutW wf s t->(∀u∈q'++[t],¬mutW wf s u):=λhm u hu=>by
      grind
     by_cases hlt:t.1<s.1
     ·have hltI:(t.1:Int)<(s.1:Int):=by lia
      by_cases hm:t∈kyW (wf s)/\s∈kyW (wf t)
      ·right
       obtain⟨a,ra,ea⟩:=Yjl (h.all s hs) hm.1;obtain⟨b,rb,eb⟩:=Yjl (h.all t ht) hm.2;refine⟨_,?_,.late (mem_sayL.mp hsS) (mem_sayL.mp htK) hlt ra rb⟩;simp only[hm.1,hm.2,decide_true,Bool.and_self]at hl;generalize wsD A wf=ws,wyD (wf s)=w1,wyD (wf t)=w2,a.map sayD=AA,b.map sayD=BB,sayD s=ds,sayD t=dt at *;simp[Yb0,hsi,hti,hlt,hltI,hl,g1,g2,ea,eb]
      ·left
       refine⟨[↑(wsD A wf),↑(.lst (K.map nD)),↑(.lst (S.map nD)),↑(sayD s),↑(sayD t)],?_,tail (λz=>hm z.2),_,rfl⟩
       have hl2:(decide (t∈kyW (wf s))&&decide (s∈kyW (wf t)))=false:=by
        grind
       rw[hl2]at hl;generalize wsD A wf=ws,sayD s=ds,sayD t=dt at *;simp[Yb0,hsi,hti,hlt,hltI,hl]
     ·left
      have hltI:¬(t.1:Int)<(s.1:Int):=by lia
      refine⟨[↑(wsD A wf),↑(.lst (K.map nD)),↑(.lst (S.map nD)),↑(sayD s),↑(sayD t)],?_,tail (λz=>hlt z.1),_,rfl⟩;generalize wsD A wf=ws,sayD s=ds,sayD t=dt at *
      simp[Yb0,hsi,hti,hlt,hltI])
   rcases hin with⟨ρ2,e1,hq2,y4,rfl⟩|⟨d,e1,hd⟩
   ·left
    rw[Qd]at hq2;refine⟨[↑(wsD A wf),↑(.lst (K.map nD)),↑(.lst (S.map nD)),↑(sayD s),y4],?_,λu hu=>?_,_,_,rfl⟩
    ·generalize (sayL K).map sayD=SL at *
     generalize wsD A wf=ws,sayD s=ds,S.map nD=SS,K.map nD=KK at *;simp[Ycq,hko,e1]
    grind
   ·right
    refine⟨d,?_,hd⟩;generalize (sayL K).map sayD=SL,wsD A wf=ws,sayD s=ds,S.map nD=SS,K.map nD=KK at *
    simp[Ycq,hko,e1])
 rw[Ydk,y0 (by rfl)];rcases hloop with⟨ρ',e1,hq,y1,y2,rfl⟩|⟨d,e1,hd⟩
 ·rw[Qd]at hq
  refine .inr ⟨hq,?_⟩;generalize wsD A wf=ws,(sayL S).map sayD=AA,S.map nD=SS,K.map nD=KK at *;simp[Ygq,Yr,hso,e1]
 ·refine .inl ⟨d,hd,?_⟩
  generalize wsD A wf=ws,(sayL S).map sayD=AA,S.map nD=SS,K.map nD=KK at *;simp[Ygq,Yr,hso,e1]
theorem Yaeu(l:BA):isV .e (.ei l)=decide (l=[]):=by
 show eqD (.tup (l.map sayD)) (.tup [])=decide (l=[]);rw[y14]
 cases l with
 | nil=>simp
 | cons a l=>
   simp_all
theorem y6n(L:AZ):(L.map Rl.ei).any (isV .e)=decide ([]∈L):=by
 rw[List.any_map]
 cases h:decide ([]∈L)with
 | true=>
   have:=wq h;exact List.any_eq_true.mpr ⟨[],this,by show isV .e (.ei [])=true;rw[Yaeu];rfl⟩
 | false=>
   have hn:=of_decide_eq_false h;rw[List.any_eq_false];intro l hl;show ¬isV .e (.ei l)=true;rw[Yaeu,wm];grind
def InE(L:AZ)(st n:Nat):Prop:=∀l∈L,Srt (.ei l)/\∀s∈l,st<=s.1/\s.1<n
theorem y3u(h:InE L st n):Yej [bkE L]=some (.bl (decide ([]∈L))):=by
 have hb:=Yvm (k:=.e) (n:=n) (R:=L.map Rl.ei) (λr hr=>by
  obtain⟨l,hl,rfl⟩:=qw hr;refine⟨⟨rfl,λs hs=>((h l hl).2 s hs).2⟩,?_⟩;have:=(h l hl).1.1;show l.length<=999999
  lia)
 rw[y6n,Yaai]at hb;exact hb
theorem Yci(h:StormP L K S d):∃l,d=.tup l:=by
 cases h
 ·grind
 ·grind
 grind
def y3v(L:AZ)(K S:AG)(d:D):Prop:=StormP L K S d\/([]∈L/\d=.tup [.str "broken"])
theorem Yn6(hL:∀l∈L,Yhj l)(hin:InE L st n)(hKl:K.length<=60)(hSl:S.length<=60)(hall:∀x,st<=x->x<n->x∈S\/x∈K)(hA:∀s:Say,s∈A↔s.1∈S\/s.1∈K)(hAl:A.length<=1000)(h:WsOk L A wf):
 (∃d,y3v L K S d/\Ybl [bkE L,wsD A wf,.lst (K.map nD),.lst (S.map nD)]=some d)\/(¬BadE L K S/\Ybl [bkE L,wsD A wf,.lst (K.map nD),.lst (S.map nD)]=some .non):=by
 have hb:=y3u hin;have hK:∀s∈sayL K,s∈A:=λs hs=>(hA s).mpr (.inr (mem_sayL.mp hs));have hS:∀s∈sayL S,s∈A:=λs hs=>(hA s).mpr (.inl (mem_sayL.mp hs));have hfl:∀s∈A,flS s∈A:=λs hs=>(hA _).mpr ((hA s).mp hs);have q1:=Yqv hAl h hfl K S;have q2:=Yqw h (S:=S) (by lia) hS K;have q3:=Ytp h (K:=K) (S:=S) (by lia) (by lia) hK hS;rw[Ybl,y0 (by rfl)];by_cases h0:[]∈L
 ·left
  refine⟨_,.inr ⟨h0,rfl⟩,?_⟩;simp only[h0,decide_true]at hb;generalize wsD A wf=ws,bkE L=bk at *;simp[Yan,Yr,hb]
 ·simp only[h0,decide_false]at hb
  have a0:∀(a:D) (l:AR),atI (a::l) 0=some a:=λa l=>by simp_all
  rcases q1 with⟨d1,s1,e1⟩|⟨n1,e1⟩
  ·left
   refine⟨d1,.inl s1,?_⟩;obtain⟨l1,rfl⟩:=Yci s1;clear s1;rcases q2 with⟨d2,s2,e2⟩|⟨n2,e2⟩
   ·obtain⟨l2,rfl⟩:=Yci s2
    rcases q3 with⟨d3,s3,e3⟩|⟨n3,e3⟩
    ·obtain⟨l3,rfl⟩:=Yci s3
     generalize wsD A wf=ws,bkE L=bk at *;simp[Yan,Yr,hb,e1,e2,e3,capR,Yen,Yaf,Yam,a0]
    ·generalize wsD A wf=ws at *
     generalize bkE L=bk at *;simp[Yan,Yr,hb,e1,e2,e3,capR,Yen,Yaf,Yam,a0]
   ·rcases q3 with⟨d3,s3,e3⟩|⟨n3,e3⟩
    ·obtain⟨l3,rfl⟩:=Yci s3
     generalize wsD A wf=ws,bkE L=bk at *;simp[Yan,Yr,hb,e1,e2,e3,capR,Yen,Yaf,Yam,a0]
    ·generalize wsD A wf=ws at *
     generalize bkE L=bk at *;simp[Yan,Yr,hb,e1,e2,e3,capR,Yen,Yaf,Yam,a0]
  ·rcases q2 with⟨d2,s2,e2⟩|⟨n2,e2⟩
   ·left
    refine⟨d2,.inl s2,?_⟩;obtain⟨l2,rfl⟩:=Yci s2;rcases q3 with⟨d3,s3,e3⟩|⟨n3,e3⟩
    ·obtain⟨l3,rfl⟩:=Yci s3
     generalize wsD A wf=ws,bkE L=bk at *;simp[Yan,Yr,hb,e1,e2,e3,capR,Yen,Yaf,Yam,a0]
    ·generalize wsD A wf=ws at *
     generalize bkE L=bk at *;simp[Yan,Yr,hb,e1,e2,e3,capR,Yen,Yaf,Yam,a0]
   ·rcases q3 with⟨d3,s3,e3⟩|⟨n3,e3⟩
    ·left
     refine⟨d3,.inl s3,?_⟩;obtain⟨l3,rfl⟩:=Yci s3;generalize wsD A wf=ws,bkE L=bk at *;simp[Yan,Yr,hb,e1,e2,e3,capR,Yen,Yaf,Yam,a0]
    ·right
     refine⟨λhbad=>?_,?_⟩
     ·have hr:∀s∈A,∀t,t∈kyW (wf s)↔Rch L s t:=λs hs t=>Ylg hL (h.all s hs)
      cases hbad with
      | broken z=>exact h0 z
      | clash s z1 z2=>
        have hsA:s∈A:=by
         have hne:s≠flS s:=λz=>Yagi s z.symm
         have:s.1∈S\/s.1∈K:=by
          have key:∀t,Rch L s t->t=s\/∃l∈L,t∈l:=λt ht=>by
           cases ht with
           | refl=>grind
           | step _ e=>
             obtain⟨l,hl,_,h2,_⟩:=e;grind
          rcases key _ z1 with z|⟨l,hl,hm⟩
          ·grind
          ·obtain⟨g1,g2⟩:=(hin l hl).2 _ hm
           exact hall s.1 g1 g2
         grind
        grind
      | cross s t z1 z2 z3 z4=>exact n2 s (mem_sayL.mpr z1) t (mem_sayL.mpr z2) ⟨λz=>z3 z.symm,(hr s ((hA s).mpr (.inl z1)) _).mpr z4⟩
      | late s t z1 z2 z3 z4 z5=>exact n3 s (mem_sayL.mpr z1) t (mem_sayL.mpr z2) ⟨z3,(hr s ((hA s).mpr (.inl z1)) _).mpr z4,(hr t ((hA t).mpr (.inr z2)) _).mpr z5⟩
     ·generalize wsD A wf=ws at *
      generalize bkE L=bk at *;simp[Yan,Yr,hb,e1,e2,e3,capR,Yen,Yaf]
theorem Yxi(i:Int)(y:β)(k:Int):∀{ns:AH}{vs:List β},ns.length=vs.length->i∈ns->Yab ns (setK ns vs i y) k=if k=i then some y else Yab ns vs k
 | [],_,_,h=>(nomatch h)
 | n::ns,[],hl,_=>by simp at hl
 | n::ns,v::vs,hl,h=>by
   rw[setK];by_cases e:n=i
   ·subst e
    rw[if_pos rfl,Yab,Yab];grind
   ·have h':i∈ns:=by
     grind
    rw[if_neg e,Yab,Yab,Yxi i y k (by grind) h'];grind
theorem Yxj(i:Int)(y:β)(k:Int):∀{ns:AH}{vs:List β},ns.length=vs.length->i∉ns->Yab (ns++[i]) (vs++[y]) k=if k=i then some y else Yab ns vs k
 | [],[],_,_=>by
   show Yab [i] [y] k=_;rw[Yab];grind
 | [],_::_,hl,_=>by simp at hl
 | n::ns,[],hl,_=>by simp at hl
 | n::ns,v::vs,hl,h=>by
   rw[List.cons_append,List.cons_append,Yab,Yab,Yxj i y k (by grind) (λz=>h (qg _ z))];grind
def y6o(hl:ns.length=vs.length)(i:Int)(y:β)(k:Int):Yab (putG ns vs i y).1 (putG ns vs i y).2 k=if k=i then some y else Yab ns vs k:=by
 unfold putG;by_cases h:i∈ns
 ·rw[if_pos h]
  exact Yxi i y k hl h
 ·rw[if_neg h]
  exact Yxj i y k hl h
def Ykz{β:Type}(k:Int):List (Int×β)->Option β->Option β
 | [],z=>z
 | p::ps,z=>Ykz k ps (if k=p.1 then some p.2 else z)
theorem Yqx(k:Int):∀(ps:List (Int×β)) {ns:AH}{vs:List β},ns.length=vs.length->Yab (dctG ns vs ps).1 (dctG ns vs ps).2 k=Ykz k ps (Yab ns vs k)
 | [],_,_,_=>rfl
 | p::ps,ns,vs,hl=>by
   rw[dctG,Yqx k ps (Ypp hl),y6o hl];rfl
theorem y3w:∀(ps:List (Int×β)) {ns:AH}{vs:List β},ns.Nodup->ns.length=vs.length->(dctG ns vs ps).1.Nodup/\(dctG ns vs ps).1.length=(dctG ns vs ps).2.length
 | [],_,_,h1,h2=>⟨h1,h2⟩
 | p::ps,ns,vs,h1,h2=>by
   rw[dctG];exact y3w ps (Yoi h1) (Ypp h2)
theorem Ytq(k:Int):∀{ms:AH}{ws:List β}{z:Option β},ms.length=ws.length->ms.Nodup->Ykz k (ms.zip ws) z=(Yab ms ws k).or z
 | [],[],z,_,_=>by
   show z=(none:Option β).or z;rfl
 | [],_::_,_,hl,_=>by simp at hl
 | _::_,[],_,hl,_=>by simp at hl
 | m::ms,w::ws,z,hl,hn=>by
   rw[List.nodup_cons]at hn;rw[List.zip_cons_cons,Ykz,Ytq k (by grind) hn.2,Yab];by_cases e:k=m
   ·subst e
    have hnone:Yab ms ws k=none:=(Yc3 (by grind)).mpr hn.1;grind
   grind
theorem Ytr(k:Int):∀{ps:List (Int×β)}{z:Option β}{y:β},Ykz k ps z=some y->(k,y)∈ps\/((∀p∈ps,p.1≠k)/\z=some y)
 | [],z,y,h=>.inr ⟨λp hp=>(nomatch hp),h⟩
 | p::ps,z,y,h=>by
   rw[Ykz]at h;rcases Ytr k h with h1|⟨h1,h2⟩
   ·grind
   grind
theorem Yka(k:Int):∀{ps:List (Int×β)}{z:Option β},(∃p∈ps,p.1=k)\/z.isSome=true->(Ykz k ps z).isSome=true
 | [],z,h=>by
   rcases h with⟨p,hp,_⟩|h
   ·cases hp
   ·exact h
 | p::ps,z,h=>by
   rw[Ykz];refine Yka k ?_;grind
theorem Yo4(k:Int):∀{ps:List (Int×β)}{z:Option β},(∀p∈ps,p.1≠k)->Ykz k ps z=z
 | [],z,_=>rfl
 | p::ps,z,h=>by
   rw[Ykz,if_neg (λe=>h p qh e.symm)];exact Yo4 k λq hq=>h q (qg _ hq)
structure Tru(ns:AH)(vs:AJ):Prop where
 nd:ns.Nodup
 len:ns.length=vs.length
def truF(ns:AH)(vs:AJ)(j:Nat):Option Bool:=Yab ns vs (j:Int)
def prs(l:BA):List (Int×Bool):=l.map λs=>((s.1:Int),s.2)
def truU(ns:AH)(vs:AJ)(l:BA):List Int×AJ:=dctG ns vs ((dctG [] [] (prs l)).1.zip (dctG [] [] (prs l)).2)
def y3x(h:Tru ns vs)(l:BA):Tru (truU ns vs l).1 (truU ns vs l).2:=by
 obtain⟨h1,h2⟩:=y3w ((dctG [] [] (prs l)).1.zip (dctG [] [] (prs l)).2) h.nd h.len;exact⟨h1,h2⟩
theorem Yxk(hL:∀l∈L,Yhj l)(hW:Ways L s W)(h:Tru ns vs):updF L s (truF ns vs) (truF (truU ns vs (kyW W)).1 (truU ns vs (kyW W)).2):=λj=>by
 obtain⟨d1,d2⟩:=y3w (prs (kyW W)) (ns:=[]) (vs:=[]) List.nodup_nil rfl
 have hf:∀k:Int,Yab (truU ns vs (kyW W)).1 (truU ns vs (kyW W)).2 k=(Ykz k (prs (kyW W)) none).or (Yab ns vs k):=λk=>by
  unfold truU;rw[Yqx k _ h.len,Ytq k d2 d1,Yqx k (prs (kyW W)) (ns:=[]) (vs:=[]) rfl];rfl
 have hm:∀v,Rch L s (j,v)↔((j:Int),v)∈prs (kyW W):=λv=>by
  rw[<-Ylg hL hW];constructor
  ·intro hx
   exact List.mem_map.mpr ⟨(j,v),hx,rfl⟩
  ·intro hx
   obtain⟨t,ht,e⟩:=qw hx;grind
 have hno:(∀u,¬Rch L s (j,u))->∀p∈prs (kyW W),p.1≠(j:Int):=λhu p hp e=>by
  grind
 unfold truF;refine⟨λv hv=>?_,λv hv=>?_,λhu=>?_⟩
 ·rw[hf]
  have:=Yka (j:Int) (ps:=prs (kyW W)) (z:=none) (.inl ⟨_,(hm v).mp hv,rfl⟩);grind
 ·rw[hf]at hv
  cases e:Ykz (j:Int) (prs (kyW W)) none with
  | some y=>
    rw[e]at hv;have hyv:y=v:=w6 hv;subst hyv;rcases Ytr _ e with w|⟨_,w⟩
    ·grind
    ·cases w
  | none=>
    rw[e]at hv;refine .inr ⟨λu hu=>?_,hv⟩;have:=Yka (j:Int) (ps:=prs (kyW W)) (z:=none) (.inl ⟨_,(hm u).mp hu,rfl⟩);grind
 ·rw[hf,Yo4 _ (hno hu)]
  rfl
theorem y3y(i:Int)(y:Bool):∀(ns:AH) (vs:AJ),setK ns (vs.map D.bl) i (.bl y)=(setK ns vs i y).map D.bl
 | [],vs=>by cases vs<;>simp[setK]
 | n::ns,[]=>by simp[setK]
 | n::ns,v::vs=>by
   rw[Qa,setK,setK];by_cases e:n=i
   ·grind
   ·rw[if_neg e,if_neg e,y3y i y ns vs]
    rfl
theorem Yvv:∀(ps:List (Int×Bool)) (ns:AH) (vs:AJ),dctG ns (vs.map D.bl) (ps.map λp=>(p.1,D.bl p.2))=((dctG ns vs ps).1,(dctG ns vs ps).2.map D.bl)
 | [],ns,vs=>rfl
 | p::ps,ns,vs=>by
   rw[Qa,dctG,dctG]
   have e:putG ns (vs.map D.bl) p.1 (.bl p.2)=((putG ns vs p.1 p.2).1,(putG ns vs p.1 p.2).2.map D.bl):=by
    unfold putG;by_cases h:p.1∈ns
    ·rw[if_pos h,if_pos h,y3y]
    grind
   rw[e];exact Yvv ps _ _
theorem Yts:∀l:BA,Ydq (l.map sayD)=some ((prs l).map λp=>(p.1,D.bl p.2))
 | []=>rfl
 | s::l=>by
   rw[Qa];show Ydq (.tup [.int (s.1:Int),.bl s.2]::l.map sayD)=_;rw[Ydq,Yts l];rfl
theorem y7r(hl:W.length<=1000)(f:AX)(ρ:Ro)(hf:f ρ=some (.lst ((kyW W).map sayD))):
 dctF f ρ=some (.dct false ((dctG [] [] (prs (kyW W))).1.map D.int) ((dctG [] [] (prs (kyW W))).2.map D.bl)):=by
 have h1:pairsOf (.lst ((kyW W).map sayD))=some ((prs (kyW W)).map λp=>(p.1,D.bl p.2)):=Yts (kyW W);have h2:=Yvv (prs (kyW W)) [] [];rw[List.map_nil]at h2
 have hlen:((prs (kyW W)).map λp=>(p.1,D.bl p.2)).length<1000000:=by simp[prs,kyW];lia
 simp_all
def y6p:(kyW W).length=W.length:=by simp[kyW]
theorem Yli:∀(ps:List (Int×β)) (ns:AH) (vs:List β),(dctG ns vs ps).2.length<=vs.length+ps.length
 | [],_,vs=>by simp[dctG]
 | p::ps,ns,vs=>by
   rw[dctG];have:=Yli ps (putG ns vs p.1 p.2).1 (putG ns vs p.1 p.2).2
   have h2:(putG ns vs p.1 p.2).2.length<=vs.length+1:=by
    unfold putG
    split
    ·rw[Yec];lia
    ·simp
   grind
theorem y3z(hv:vs.length<=500000)(hl:W.length<=1000):
 updD (ns.map D.int,vs.map D.bl) (.dct false ((dctG [] [] (prs (kyW W))).1.map D.int) ((dctG [] [] (prs (kyW W))).2.map D.bl))=some ((truU ns vs (kyW W)).1.map D.int,(truU ns vs (kyW W)).2.map D.bl):=by
 have hz:=Yli (prs (kyW W)) [] []
 have hp:(prs (kyW W)).length=W.length:=by simp[prs,kyW]
 show(intsD (ns.map D.int)).bind (λns'=>((intsD ((dctG [] [] (prs (kyW W))).1.map D.int)).bind λms=>if (vs.map D.bl).length+((dctG [] [] (prs (kyW W))).2.map D.bl).length<cap6 then some ((dctG ns' (vs.map D.bl) (ms.zip ((dctG [] [] (prs (kyW W))).2.map D.bl))).1.map D.int,(dctG ns' (vs.map D.bl) (ms.zip ((dctG [] [] (prs (kyW W))).2.map D.bl))).2)else none))=_
 rw[Ygh,qd,Ygh,qd,if_pos (by
  rw[qf,qf];show _<1000000
  grind)]
 have e:(dctG [] [] (prs (kyW W))).1.zip ((dctG [] [] (prs (kyW W))).2.map D.bl)=((dctG [] [] (prs (kyW W))).1.zip (dctG [] [] (prs (kyW W))).2).map λp=>(p.1,D.bl p.2):=by
  rw[List.zip_map_right];rfl
 rw[e,Yvv];rfl
theorem Yvw(hL:∀l∈L,Yhj l)(nb:¬BadE L K S)(h:WsOk L A wf)(hk:(k,false)∈A)(hk2:(k,true)∈A):
 ∃l:Say,l∈A/\Yaes L k l/\Ybg [.int (k:Int),wsD A wf]=some (sayD l):=by
 have g:=Ye8 (wf:=wf) h.nd hk;have hh:=Ylh (W:=wf (k,false)) (k,true);have hc:=Yha (k,false);have hfk:flS (k,false)=(k,true):=rfl;rw[hfk]at hc;have hr:∀t,t∈kyW (wf (k,false))↔Rch L (k,false) t:=λt=>Ylg hL (h.all _ hk);have hd:D.tup [.int (k:Int),.bl false]=sayD (k,false):=rfl;by_cases hm:(k,true)∈kyW (wf (k,false))
 ·refine⟨(k,true),hk2,⟨rfl,λz=>nb (.clash (k,true) z ((hr _).mp hm))⟩,?_⟩
  simp only[hm,decide_true]at hh;rw[Ybg,y0 (by rfl)];generalize wsD A wf=ws,wyD (wf (k,false))=w1,sayD (k,true)=dt,sayD (k,false)=df at *;simp[Yfz,Yr,hd,hc,g,hh]
 ·refine⟨(k,false),hk,⟨rfl,λz=>hm ((hr _).mpr z)⟩,?_⟩
  simp only[hm,decide_false]at hh;rw[Ybg,y0 (by rfl)];generalize wsD A wf=ws,wyD (wf (k,false))=w1,sayD (k,true)=dt,sayD (k,false)=df at *;simp[Yfz,Yr,hd,hc,g,hh]
theorem Yxl{A:BA}{wf:Say->Wy}(hW:(wf s).length<=1000):Yiw [wyD (wf s)]=some ((kyW (wf s)).map sayD):=by
 unfold wyD;rw[Yyo,if_pos (by rw[qf,y6p];show _<=1000000;lia)]
theorem Yxm(ns:AH)(vs:AJ)(W:Wy)(hl:W.length<=120):(truU ns vs (kyW W)).2.length<=vs.length+120:=by
 unfold truU;have h1:=Yli ((dctG [] [] (prs (kyW W))).1.zip (dctG [] [] (prs (kyW W))).2) ns vs;have h2:=Yli (prs (kyW W)) [] []
 have hp:(prs (kyW W)).length=W.length:=by simp[prs,kyW]
 grind
theorem Yqy(hL:∀l∈L,Yhj l)(hKl:K.length<=60)(hSl:S.length<=60)(nb:¬BadE L K S)(hA:∀s:Say,s∈A↔s.1∈S\/s.1∈K)(h:WsOk L A wf):
 ∃(ns:AH) (vs:AJ),Tru ns vs/\Ph2 L K S (truF ns vs)/\(∀k∈K,(truF ns vs k).isSome=true)/\Ydx [wsD A wf,.lst (K.map nD),.lst (S.map nD)]=some (.dct false (ns.map D.int) (vs.map D.bl)):=by
 have hso:=Ych (c:=.lst (S.map nD)) (B:=S) rfl (by lia);have hsl:=Yqu S
 obtain⟨ρ1,e1,ns1,vs1,y4,t1,p1,l1,rfl⟩:=Ydb (gt:=gSet 4) (fb:=Ydo) sayD (λpre ρ=>∃(ns:AH) (vs:AJ) (y4:Option M.B),Tru ns vs/\Ph1 L pre (truF ns vs)/\vs.length<=120*pre.length/\
  ρ=[↑(wsD A wf),↑(.lst (K.map nD)),↑(.lst (S.map nD)),some (.od false (ns.map D.int) (vs.map D.bl)),y4,none]) (sayL S) []
  [↑(wsD A wf),↑(.lst (K.map nD)),↑(.lst (S.map nD)),some (.od false [] []),none,none] ⟨[],[],none,⟨List.nodup_nil,rfl⟩,Yaaq L,by simp,rfl⟩ (by
   rintro q s r ρ e ⟨ns,vs,y4,t0,p0,l0,rfl⟩;rw[Qd]at e;have hsA:s∈A:=(hA s).mpr (.inl (mem_sayL.mp (by rw[e];simp)));have hW:=h.all s hsA;have hWl:=Yto hW.nd hW.lt
   have hq:q.length<=120:=by
    grind
   have g:=Ye8 (wf:=wf) h.nd hsA;have hlk:=Yxl (A:=A) (wf:=wf) (s:=s) (by lia)
   have hdc:=y7r (W:=wf s) (by lia) (lF (cF (Ye (b2 (getC 0) (getC 4) getT) aNil) Yiw)) [↑(wsD A wf),↑(.lst (K.map nD)),↑(.lst (S.map nD)),some (.od false (ns.map D.int) (vs.map D.bl)),↑(sayD s),none] (by
    simp_all)
   have hup:=y3z (W:=wf s) (ns:=ns) (vs:=vs) (by lia) (by lia);refine⟨[↑(wsD A wf),↑(.lst (K.map nD)),↑(.lst (S.map nD)),some (.od false (ns.map D.int) (vs.map D.bl)),↑(sayD s),none],[↑(wsD A wf),↑(.lst (K.map nD)),↑(.lst (S.map nD)),some (.od false ((truU ns vs (kyW (wf s))).1.map D.int) ((truU ns vs (kyW (wf s))).2.map D.bl)),↑(sayD s),none],rfl,?_,_,_,_,y3x t0 _,y6j p0 (Yxk hL hW t0),?_,rfl⟩
   ·have hgo:Ykp 3 [↑(wsD A wf),↑(.lst (K.map nD)),↑(.lst (S.map nD)),some (.od false (ns.map D.int) (vs.map D.bl)),↑(sayD s),none]=some (ns.map D.int,vs.map D.bl):=rfl
    rw[Ydo,y2g,hgo,qd,hdc,qd,hup];rfl
   ·have:=Yxm ns vs (wf s) hWl
    grind)
 rw[Qd]at p1 l1;have ph:=y3o (K:=K) nb (T:=sayL S) (λs=>mem_sayL) p1
 obtain⟨ρ2,e2,ns2,vs2,y5,t2,p2,k2,l2,rfl⟩:=Ydb (gt:=gSet 5) (fb:=Ycc) nD (λpre ρ=>∃(ns:AH) (vs:AJ) (y5:Option M.B),Tru ns vs/\Ph2 L K S (truF ns vs)/\(∀k∈pre,(truF ns vs k).isSome=true)/\vs.length<=20000+120*pre.length/\
  ρ=[↑(wsD A wf),↑(.lst (K.map nD)),↑(.lst (S.map nD)),some (.od false (ns.map D.int) (vs.map D.bl)),y4,y5]) K []
  [↑(wsD A wf),↑(.lst (K.map nD)),↑(.lst (S.map nD)),some (.od false (ns1.map D.int) (vs1.map D.bl)),y4,none] ⟨ns1,vs1,none,t1,ph,λk hk=>(nomatch hk),by simp;lia,rfl⟩ (by
   rintro q k r ρ e ⟨ns,vs,y5,t0,p0,k0,l0,rfl⟩;rw[Qd]at e
   have hkK:k∈K:=by rw[e];simp
   have hq:q.length<=60:=by
    grind
   have hhas:hasI true (.int (k:Int)) (.dct false (ns.map D.int) (vs.map D.bl))=some (decide ((k:Int)∈ns)!=true):=by simp_all
   by_cases hm:(k:Int)∈ns
   ·refine⟨_,[↑(wsD A wf),↑(.lst (K.map nD)),↑(.lst (S.map nD)),some (.od false (ns.map D.int) (vs.map D.bl)),y4,↑(nD k)],rfl,?_,ns,vs,_,t0,p0,λj hj=>?_,by simp;lia,rfl⟩
    ·rw[wn hm]at hhas
     generalize wsD A wf=ws,ns.map D.int=NN,vs.map D.bl=VV at *;simp[Ycc,hhas,-Ypo]
    ·rcases qv hj with hj|hj
     ·exact k0 j hj
     ·rw[List.mem_singleton]at hj
      subst hj;unfold truF
      cases z:Yab ns vs (j:Int)with
      | some v=>rfl
      | none=>exact absurd hm ((Yc3 t0.len.symm).mp z)
   ·have hnone:truF ns vs k=none:=(Yc3 t0.len.symm).mpr hm
    obtain⟨l,hlA,hfr,hfs⟩:=Yvw hL nb h (k:=k) ((hA _).mpr (.inr hkK)) ((hA _).mpr (.inr hkK));have hW:=h.all l hlA;have hWl:=Yto hW.nd hW.lt;have g:=Ye8 (wf:=wf) h.nd hlA;have hlk:=Yxl (A:=A) (wf:=wf) (s:=l) (by lia)
    have hdc:=y7r (W:=wf l) (by lia) (lF (cF (Ye (b2 (getC 0) (cC (Ye (getV 5) (Ye (getV 0) aNil)) Ybg) getT) aNil) Yiw)) [↑(wsD A wf),↑(.lst (K.map nD)),↑(.lst (S.map nD)),some (.od false (ns.map D.int) (vs.map D.bl)),y4,↑(nD k)] (by
     simp_all)
    have hup:=y3z (W:=wf l) (ns:=ns) (vs:=vs) (by lia) (by lia);obtain⟨s1,s2,s3⟩:=y6k nb p0 hnone hfr (Yxk hL hW t0);refine⟨_,[↑(wsD A wf),↑(.lst (K.map nD)),↑(.lst (S.map nD)),some (.od false ((truU ns vs (kyW (wf l))).1.map D.int) ((truU ns vs (kyW (wf l))).2.map D.bl)),y4,↑(nD k)],rfl,?_,_,_,_,y3x t0 _,s1,λj hj=>?_,?_,rfl⟩
    ·have hgo:Ykp 3 [↑(wsD A wf),↑(.lst (K.map nD)),↑(.lst (S.map nD)),some (.od false (ns.map D.int) (vs.map D.bl)),y4,↑(nD k)]=some (ns.map D.int,vs.map D.bl):=rfl
     have hup2:sUpd 3 (dctF (lF (cF (Ye (b2 (getC 0) (cC (Ye (getV 5) (Ye (getV 0) aNil)) Ybg) getT) aNil) Yiw))) [↑(wsD A wf),↑(.lst (K.map nD)),↑(.lst (S.map nD)),some (.od false (ns.map D.int) (vs.map D.bl)),y4,↑(nD k)]=some (.nx [↑(wsD A wf),↑(.lst (K.map nD)),↑(.lst (S.map nD)),some (.od false ((truU ns vs (kyW (wf l))).1.map D.int) ((truU ns vs (kyW (wf l))).2.map D.bl)),y4,↑(nD k)]):=by
      simp_all
     rw[wo hm]at hhas;generalize (truU ns vs (kyW (wf l))).1.map D.int=N2,(truU ns vs (kyW (wf l))).2.map D.bl=V2,wsD A wf=ws,ns.map D.int=NN,vs.map D.bl=VV at *;simp[Ycc,hhas,hup2,-Ypo,-y2g]
    ·grind
    ·have:=Yxm ns vs (wf l) hWl
     grind)
 rw[Qd]at k2;refine⟨ns2,vs2,t2,p2,k2,?_⟩;rw[Ydx,y0 (by rfl)];have h3:Yel [↑(wsD A wf),↑(.lst (K.map nD)),↑(.lst (S.map nD)),some (.od false (ns2.map D.int) (vs2.map D.bl)),y4,y5]=some (.rt (.dct false (ns2.map D.int) (vs2.map D.bl))):=rfl;generalize wsD A wf=ws,ns2.map D.int=N2,vs2.map D.bl=V2,ns1.map D.int=N1,vs1.map D.bl=V1,(sayL S).map sayD=SL,S.map nD=SS,K.map nD=KK at *;simp[Yi5,Yr,hso,e1,e2,h3,-Yel]
theorem Yzd(hL:∀l∈L,Yhj l){K S:AG}(hSl:S.length<=60)(hA:∀s:Say,s∈A↔s.1∈S\/s.1∈K)(h:WsOk L A wf)(ht:Tru ns vs)(hk:k∈K)(hd:(truF ns vs k).isSome=true):
 ∃r:Prw,r.1=k/\((∃s,tied L S k s/\r.2=(some s.1,s.2))\/(loose L S k/\r.2=(none,(truF ns vs k).getD false)))/\Yd4 [.int (k:Int),wsD A wf,.lst (S.map nD),.dct false (ns.map D.int) (vs.map D.bl)]=some (prwD r):=by
 have hso:=Ych (c:=.lst (S.map nD)) (B:=S) rfl (by lia);have hkA:(k,true)∈A:=(hA _).mpr (.inr hk);have hr:∀s∈A,∀t,t∈kyW (wf s)↔Rch L s t:=λs hs t=>Ylg hL (h.all s hs);have hdt:D.tup [.int (k:Int),.bl true]=sayD (k,true):=rfl
 have hloop:=Ye0 (gt:=gSet 4) (fb:=Ydy) sayD (λpre ρ=>(∀s∈pre,¬tied L S k s)/\∃y4:Option M.B,ρ=[↑(.int (k:Int)),↑(wsD A wf),↑(.lst (S.map nD)),↑(.dct false (ns.map D.int) (vs.map D.bl)),y4]) (λd=>∃s,tied L S k s/\d=prwD (k,some s.1,s.2)) (sayL S) []
  [↑(.int (k:Int)),↑(wsD A wf),↑(.lst (S.map nD)),↑(.dct false (ns.map D.int) (vs.map D.bl)),none] ⟨λs hs=>(nomatch hs),none,rfl⟩ (by
   rintro q s r ρ e ⟨hq,y4,rfl⟩;rw[Qd]at e;have hsS:s.1∈S:=mem_sayL.mp (by rw[e];simp);have hsA:s∈A:=(hA s).mpr (.inl hsS);have hl:=y3t h hsA hkA;have hsi:Yn (sayD s)=some [.int (s.1:Int),.bl s.2]:=rfl;refine⟨[↑(.int (k:Int)),↑(wsD A wf),↑(.lst (S.map nD)),↑(.dct false (ns.map D.int) (vs.map D.bl)),↑(sayD s)],rfl,?_⟩;by_cases hm:(k,true)∈kyW (wf s)/\s∈kyW (wf (k,true))
   ·right
    refine⟨prwD (k,some s.1,s.2),?_,s,⟨hsS,(hr s hsA _).mp hm.1,(hr _ hkA _).mp hm.2⟩,rfl⟩;have hpd:prwD (k,some s.1,s.2)=.tup [.int (k:Int),.int (s.1:Int),.bl s.2]:=rfl;rw[hpd];simp only[hm.1,hm.2,decide_true,Bool.and_self]at hl;rw[<-hdt]at hl;generalize wsD A wf=ws,sayD s=ds,S.map nD=SS,ns.map D.int=NN,vs.map D.bl=VV at *;simp[Ydy,hl,hsi]
   ·left
    have hl2:(decide ((k,true)∈kyW (wf s))&&decide (s∈kyW (wf (k,true))))=false:=by
     grind
    rw[hl2,<-hdt]at hl;refine⟨[↑(.int (k:Int)),↑(wsD A wf),↑(.lst (S.map nD)),↑(.dct false (ns.map D.int) (vs.map D.bl)),↑(sayD s)],?_,λt ht=>?_,_,rfl⟩
    ·generalize wsD A wf=ws at *
     generalize sayD s=ds,S.map nD=SS,ns.map D.int=NN,vs.map D.bl=VV at *;simp[Ydy,hl]
    ·rcases qv ht with ht|ht
     ·exact hq t ht
     ·rw[List.mem_singleton]at ht
      rw[ht]
      exact λz=>hm ⟨(hr s hsA _).mpr z.2.1,(hr _ hkA _).mpr z.2.2⟩)
 rw[Yd4,y0 (by rfl)];rcases hloop with⟨ρ',e1,hq,y4,rfl⟩|⟨d,e1,s,hs,rfl⟩
 ·rw[Qd]at hq
  refine⟨(k,none,(truF ns vs k).getD false),rfl,.inr ⟨λs hs=>hq s (mem_sayL.mpr hs.1) hs,rfl⟩,?_⟩
  have hget:getI (.dct false (ns.map D.int) (vs.map D.bl)) (.int (k:Int))=some (.bl ((truF ns vs k).getD false)):=by
   rw[Yfp,Ygh,qd]
   have:∀(ns:AH) (vs:AJ),Yab ns (vs.map D.bl) (k:Int)=(Yab ns vs (k:Int)).map D.bl:=λns=>by
    induction ns with
    | nil=>intro vs;cases vs<;>rfl
    | cons n ns ih=>
      intro vs
      cases vs with
      | nil=>rfl
      | cons v vs=>
        rw[Qa,Yab,Yab];grind
   rw[this];unfold truF at hd ⊢
   cases z:Yab ns vs (k:Int)with
   | none=>grind
   | some v=>rfl
  have hpd:prwD (k,none,(truF ns vs k).getD false)=.tup [.int (k:Int),.non,.bl ((truF ns vs k).getD false)]:=rfl;rw[hpd];generalize (truF ns vs k).getD false=tv,wsD A wf=ws,(sayL S).map sayD=SL,S.map nD=SS,ns.map D.int=NN,vs.map D.bl=VV at *;simp[Yj1,Yr,hso,e1,hget,-Yfp]
 ·refine⟨(k,some s.1,s.2),rfl,.inl ⟨s,hs,rfl⟩,?_⟩
  generalize prwD (k,some s.1,s.2)=pd,wsD A wf=ws,(sayL S).map sayD=SL,S.map nD=SS,ns.map D.int=NN,vs.map D.bl=VV at *;simp[Yj1,Yr,hso,e1]
theorem Yvx(h:Srt (.ei l)):Yhj l:=⟨h.1,h.2.imp λ{a b} hab z=>by
 subst z;rcases hab with h|⟨_,h1,h2⟩
 ·lia
 grind⟩
theorem Yo5:∀{B:AG},B.Nodup->(sayL B).Nodup
 | [],_=>List.nodup_nil
 | b::B,h=>by
   rw[List.nodup_cons]at h;have e:sayL (b::B)=[(b,false),(b,true)]++sayL B:=rfl;rw[e,List.nodup_append];refine⟨by simp,Yo5 h.2,λx hx y hy z=>?_⟩;subst z;have hb:=mem_sayL.mp hy;grind
theorem Ytt(wf:Say->Wy):∀A:BA,Ykf (A.map λs=>.tup [sayD s,wyD (wf s)])=some (A.map λs=>(sayD s,wyD (wf s)))
 | []=>rfl
 | s::A=>by
   rw[Qa,Ykf,Ytt wf A];rfl
def plD(rows:List Prw):AR:=[.str "plan",.tup (rows.map prwD)]
theorem Yk0(hLl:L.length<=100)(hc:Yn c=some (hs.map hdD))(hl:hs.length<=60)(hst:st<=hs.length)(hin:InE L st hs.length):
 (∃d,y3v L (ofH hs st true) (ofH hs st false) d/\Ybi [bkE L,c,.int st]=some (outD true d))\/
 (∃rows,GoodE L (ofH hs st true) (ofH hs st false) rows/\Ybi [bkE L,c,.int st]=some (outD false (.tup (plD rows)))):=by
 have hL:∀l∈L,Yhj l:=λl hm=>Yvx (hin l hm).1
 have hL60:∀l∈L,∀s∈l,s.1<60:=λl hm s hs=>by have:=((hin l hm).2 s hs).2;lia
 have bw1:=Ybn hs hc (by lia) st hst true;have bw2:=Ybn hs hc (by lia) st hst false;simp only[hdD,if_true,Bool.false_eq_true,if_false]at bw1 bw2;have hKpw:(ofH hs st true).Pairwise (·<·):=List.Pairwise.filter _ List.pairwise_lt_range;have hSpw:(ofH hs st false).Pairwise (·<·):=List.Pairwise.filter _ List.pairwise_lt_range;have hSK:=Yf6 (hs:=hs) (st:=st);have hall:∀x,st<=x->x<hs.length->x∈ofH hs st false\/x∈ofH hs st true:=λx h1 h2=>Ync h1 h2;have hSl:(ofH hs st false).length<=60:=Qg (List.length_filter_le _ _) (by grind);have hKl:(ofH hs st true).length<=60:=Qg (List.length_filter_le _ _) (by grind);have hS60:∀x∈ofH hs st false,x<60:=λx hx=>Qc (Ynb hx) hl;have hK60:∀x∈ofH hs st true,x<60:=λx hx=>Qc (Ynb hx) hl;generalize ofH hs st false=S,ofH hs st true=K at *;have hin2:∀l∈L,∀s∈l,s.1∈S\/s.1∈K:=λl hm s hs=>hall s.1 ((hin l hm).2 s hs).1 ((hin l hm).2 s hs).2
 have hKSn:(K++S).Nodup:=by
  rw[List.nodup_append];exact⟨hKpw.imp λh=>qm h,hSpw.imp λh=>qm h,λx hx y hy z=>hSK y hy (by grind)⟩
 have hAn:=Yo5 hKSn
 have hAm:∀s:Say,s∈sayL (K++S)↔s.1∈S\/s.1∈K:=λs=>by
  rw[mem_sayL,List.mem_append];grind
 have hAl:(sayL (K++S)).length<=1000:=by rw[Yqu,qx];lia
 have hw:∀s:Say,∃W:Wy,s.1<60->Ways L s W/\Yc5 [bkE L,sayD s]=some (wyD W):=λs=>by
  by_cases h60:s.1<60
  ·obtain⟨W,h1,h2⟩:=Yvu (L:=L) (by lia) hL60 h60
   grind
  ·exact⟨[],λz=>absurd z h60⟩
 obtain⟨wf,hwf⟩:∃wf:Say->Wy,∀s:Say,s.1<60->Ways L s (wf s)/\Yc5 [bkE L,sayD s]=some (wyD (wf s)):=⟨λs=>Classical.choose (hw s),λs=>Classical.choose_spec (hw s)⟩
 have hA60:∀s∈sayL (K++S),s.1<60:=λs hs=>by
  grind
 have hso:=Ych (c:=.lst ((K++S).map nD)) (B:=K++S) rfl (by grind);generalize sayL (K++S)=A at *
 have hws:WsOk L A wf:=⟨hAn,λs hs=>(hwf s (hA60 s hs)).1⟩
 have hcat:catD (.lst (K.map nD)) (.lst (S.map nD))=some ((K++S).map nD):=by rw[y16 (by simp;lia),wt]
 have hcm:=Ygi (fe:=Ya2) (r:=[↑(bkE L)]) (enc:=sayD) (λs=>.tup [sayD s,wyD (wf s)]) (l:=A) (λs hs=>by
  have:=(hwf s (hA60 s hs)).2;generalize wyD (wf s)=w1,sayD s=ds,bkE L=bk at *
  simp[Ya2,this])
 have hpt:Yp1 (.lst (A.map λs=>.tup [sayD s,wyD (wf s)]))=some (A.map λs=>(sayD s,wyD (wf s))):=Ytt wf A
 have hk1:(A.map λs=>(sayD s,wyD (wf s))).map (·.1)=A.map sayD:=by simp_all
 have hk2:(A.map λs=>(sayD s,wyD (wf s))).map (·.2)=A.map λs=>wyD (wf s):=by simp_all
 have hkn:(A.map kN).Nodup:=by
  rw[List.Nodup,List.pairwise_map];exact hAn.imp λhab e=>hab (y3p e)
 have hst0:Yr 8 [bkE L,c,.int (st:Int)]=[↑(bkE L),↑c,↑(.int st),none,none,none,none,none]:=rfl;rw[Ybi,y0 (by rfl),hst0]
 have hdct:Yym 5 (lF (Ybq (b1 (cC (Ye (lF (b2 (getC 3) (getC 4) catD)) aNil) Yaq) Yn) [none,some 0] (gSet 0) tY (Ya2))) [↑(bkE L),↑c,↑(.int st),↑(.lst (K.map nD)),↑(.lst (S.map nD)),none,none,none] =
  some (.nx [↑(bkE L),↑c,↑(.int st),↑(.lst (K.map nD)),↑(.lst (S.map nD)),some (.od true (A.map sayD) (A.map λs=>wyD (wf s))),none,none]):=by
  have hcomp:(lF (Ybq (b1 (cC (Ye (lF (b2 (getC 3) (getC 4) catD)) aNil) Yaq) Yn) [none,some 0] (gSet 0) tY (Ya2))) [↑(bkE L),↑c,↑(.int st),↑(.lst (K.map nD)),↑(.lst (S.map nD)),none,none,none]=some (.lst (A.map λs=>.tup [sayD s,wyD (wf s)])):=by
   generalize (A.map λs=>D.tup [sayD s,wyD (wf s)])=A2,A.map sayD=A1,(K++S).map nD=KS,K.map nD=KK,S.map nD=SS,bkE L=bk at *;simp[hcat,hso,capR,hcm]
  rw[Ywx,hcomp,qd,hpt,qd,hk1,Yfl,qd,if_pos ⟨by rw[qf];show A.length<1000000;lia,hkn⟩,hk2];rfl
 have pre:Ydp [↑(bkE L),↑c,↑(.int st),none,none,none,none,none]=Ybt [↑(bkE L),↑c,↑(.int st),↑(.lst (K.map nD)),↑(.lst (S.map nD)),some (.od true (A.map sayD) (A.map λs=>wyD (wf s))),none,none]:=by
  generalize (A.map λs=>wyD (wf s))=A2,A.map sayD=A1,K.map nD=KK,S.map nD=SS,bkE L=bk at *;simp[Ydp,bw1,bw2,hdct,-Ybt,-Ywx]
 rw[pre];have hsp:=Yn6 hL hin hKl hSl hall hAm hAl hws;have hfz:∀y6 y7:Option M.B,frz [5] [↑(bkE L),↑c,↑(.int st),↑(.lst (K.map nD)),↑(.lst (S.map nD)),some (.od true (A.map sayD) (A.map λs=>wyD (wf s))),y6,y7]=[↑(bkE L),↑c,↑(.int st),↑(.lst (K.map nD)),↑(.lst (S.map nD)),↑(wsD A wf),y6,y7]:=λ_ _=>rfl
 have h3:∀d,Ybl [bkE L,wsD A wf,.lst (K.map nD),.lst (S.map nD)]=some d->Ybt [↑(bkE L),↑c,↑(.int st),↑(.lst (K.map nD)),↑(.lst (S.map nD)),some (.od true (A.map sayD) (A.map λs=>wyD (wf s))),none,none]=Yex [↑(bkE L),↑c,↑(.int st),↑(.lst (K.map nD)),↑(.lst (S.map nD)),↑(wsD A wf),↑d,none]:=λd hd=>by
  simp_all
 rcases hsp with⟨d,hd,e⟩|⟨nb,e⟩
 ·refine .inl ⟨d,hd,?_⟩
  rw[h3 d e]
  obtain⟨l,rfl⟩:∃l,d=.tup l:=by
   rcases hd with hd|⟨_,hd⟩
   ·exact Yci hd
   grind
  generalize wsD A wf=ws at *;simp[outD]
 ·obtain⟨ns,vs,t0,p2,kd,etr⟩:=Yqy hL hKl hSl nb hAm hws
  have hrow:∀k,∃r:Prw,k∈K->r.1=k/\((∃s,tied L S k s/\r.2=(some s.1,s.2))\/(loose L S k/\r.2=(none,(truF ns vs k).getD false)))/\Yd4 [.int (k:Int),wsD A wf,.lst (S.map nD),.dct false (ns.map D.int) (vs.map D.bl)]=some (prwD r):=λk=>by
   by_cases hk:k∈K
   ·obtain⟨r,hr⟩:=Yzd hL hSl hAm hws t0 hk (kd k hk)
    grind
   simp_all
  obtain⟨rf,hrf⟩:∃rf:Nat->Prw,∀k∈K,(rf k).1=k/\((∃s,tied L S k s/\(rf k).2=(some s.1,s.2))\/(loose L S k/\(rf k).2=(none,(truF ns vs k).getD false)))/\Yd4 [.int (k:Int),wsD A wf,.lst (S.map nD),.dct false (ns.map D.int) (vs.map D.bl)]=some (prwD (rf k)):=⟨λk=>Classical.choose (hrow k),λk=>Classical.choose_spec (hrow k)⟩
  refine .inr ⟨K.map rf,y3m hL hin2 hSK nb (τ:=λk=>(truF ns vs k).getD false) ⟨?_,λr hr=>?_⟩ (Yagj p2 kd),?_⟩
  ·rw[Qe]
   exact(Qj λk hk=>(hrf k hk).1).trans (List.map_id K)
  ·obtain⟨k,hk,rfl⟩:=qw hr
   obtain⟨g1,g2,_⟩:=hrf k hk;rw[g1];exact g2
  ·rw[h3 .non e]
   have hc1:=Ygi (fe:=Yce) (r:=[↑(wsD A wf),↑(.lst (S.map nD)),↑(.dct false (ns.map D.int) (vs.map D.bl))]) (enc:=nD) (λk=>prwD (rf k)) (l:=K) (λk hk=>by
    have:=(hrf k hk).2.2;generalize wsD A wf=ws,prwD (rf k)=pr,S.map nD=SS,ns.map D.int=NN,vs.map D.bl=VV at *
    simp[Yce,this])
   have e5:(K.map λk=>prwD (rf k))=(K.map rf).map prwD:=by simp
   rw[e5]at hc1;unfold plD;generalize (K.map rf).map prwD=RW,wsD A wf=ws,S.map nD=SS,K.map nD=KK,ns.map D.int=NN,vs.map D.bl=VV,bkE L=bk at *;simp[etr,capR,hc1,outD]
theorem BadE.hands(hS:∀x∈S,x∈S')(hK:∀x∈K,x∈K'\/x∈S')(h:BadE L K S):BadE L K' S':=by
 cases h with
 | broken h=>exact .broken h
 | clash s h1 h2=>exact .clash s h1 h2
 | cross s t h1 h2 h3 h4=>exact .cross s t (hS _ h1) (hS _ h2) h3 h4
 | late s t h1 h2 h3 h4 h5=>
   rcases hK _ h2 with z|z
   ·exact .late s t (hS _ h1) z h3 h4 h5
   ·exact .cross s t (hS _ h1) z (λe=>by rw[e]at h3;lia) h4
theorem Yaas(g:GoodI R K S first rows)(hRR:∀q∈R',q∈R)(hS:∀x∈S',x∈S)(hK:∀x∈K',x∈K\/x∈S)(hSK':∀x∈S',x∉K')(hSK:∀x∈S,x∉K)(h:Yvo R' K' S' b is js=true):False:=by
 unfold Yvo at h;rw[Qb]at h;obtain⟨h1,h2⟩:=h;have h0:∀q∈R',Hl (S++first) q:=λq hq=>g.h0 q (hRR q hq);unfold y59 at h2;simp only[Qb,wm,Bool.or_eq_true]at h2;obtain⟨_,p1,p2,p3,p4⟩:=h2
 cases b with
 | none=>
   have hfs:∀x∈wob none S'++foB R' K' none is,x∈S++first:=λx hx=>by
    rcases qv hx with q|q
    ·exact List.mem_append.mpr (.inl (hS _ (qz q).1))
    ·cases q
   obtain⟨y,e,hy⟩:=h0 _ (Ynd p1) (Yti p3 (Yqq h0 p2 hfs));rcases p4 with q|q
   ·rw[q]at e
    cases e
   ·rw[q]at e
    cases e
 | some x=>
   have h1':(decide (x∈S')&&derB R' S' is)=true:=h1;rw[Qb,wm]at h1';obtain⟨hxS',hder⟩:=h1';have hxS:=hS x hxS';have hlit:=Yqq h0 hder (λy hy=>List.mem_append.mpr (.inl (hS y hy)));have hx':=hxS;rw[<-g.rs]at hx';obtain⟨r,hr,e⟩:=qw hx';subst e;obtain⟨_,rk,re⟩:=g.rK r hr;have hb:∀q∈R',Hl ((S.filter λy=>!decide (y=r.1))++r.2) q:=λq hq=>g.hb r hr q (hRR q hq)
   have hfs:∀z∈wob (some r.1) S'++foB R' K' (some r.1) is,z∈(S.filter λy=>!decide (y=r.1))++r.2:=λz hz=>by
    rcases qv hz with q|q
    ·obtain⟨q1,q2⟩:=qz q
     refine List.mem_append.mpr (.inl (List.mem_filter.mpr ⟨hS _ q1,?_⟩));simpa using q2
    ·have q':z∈K'.filter λy=>decide (y<r.1)&&decide (y∈hdsR R' is):=q
     obtain⟨q1,q2⟩:=qz q';rw[Qb,wm,wm]at q2;have hne:¬z=r.1:=λe=>hSK' _ hxS' (e ▸ q1);rcases qv (hlit z (List.mem_append.mpr (.inr q2.2)))with w|w
     ·exact List.mem_append.mpr (.inl (List.mem_filter.mpr ⟨w,by simp[hne]⟩))
     ·have hz2:z∈first.filter λy=>decide (y<r.1):=List.mem_filter.mpr ⟨w,wn q2.1⟩
      rw[<-re]at hz2;exact List.mem_append.mpr (.inr (qz hz2).1)
   obtain⟨y,e,hy⟩:=hb _ (Ynd p1) (Yti p3 (Yqq hb p2 hfs));rcases p4 with q|q
   ·rw[q]at e
    cases e
   ·rw[q]at e
    cases e;rcases qv hy with w|w
    ·have:=(qz w).2
     simp at this
    ·exact hSK _ hxS (rk _ w)
theorem Yjm(hL:∀l∈L,Yhj l)(h:Road L s t r):Rch L s t:=by
 have hp:=y24 h.ok
 have hall:∀i,i+1<r.length->at0 r (i+1)∈ledL L (at0 r i):=λi hi=>by
  have g:=h.ok;unfold okR at g;rw[Qb,List.all_eq_true]at g;exact wq (g.2 i (List.mem_range.mpr (by lia)))
 have key:∀i,i<r.length->Rch L s (at0 r i):=λi=>by
  induction i with
  | zero=>
    intro _;rw[h.fst];exact .refl
  | succ i ih=>
    intro hi;exact .step (ih (by lia)) ((y3q hL).mp (hall i hi))
 have g:=key (r.length-1) (by lia);have e:=h.lst;unfold Yvn at e;rw[e]at g;exact g
def Yze(hL:∀l∈L,Yhj l)(h:y3v L K S d):BadE L K S:=by
 rcases h with h|⟨h,_⟩
 ·cases h with
  | clash h1 h2=>exact .clash _ (Yjm hL h1) (Yjm hL h2)
  | cross h1 h2 h3 h4=>exact .cross _ _ h1 h2 h3 (Yjm hL h4)
  | late h1 h2 h3 h4 h5=>exact .late _ _ h1 h2 h3 (Yjm hL h4) (Yjm hL h5)
 ·exact .broken h
def toE:Rl->BA
 | .ei l=>l
 | _=>[]
def toS:Rl->Sm
 | .su b o=>(λx=>decide (x∈b),o)
 | _=>(λ_=>false,false)
def toI:Rl->IfR
 | .im b h=>(b,h)
 | _=>([],none)
def Dr(k:Kd)(st n:Nat)(r:Rl):Prop:=In k n r/\Srt r/\∀x∈bcs r,st<=x
def Val:Kd->List Rl->AG->AG->Bool->Prop
 | .e,R,K,S,true=>BadE (R.map toE) K S
 | .e,R,K,S,false=>∃rows,GoodE (R.map toE) K S rows
 | .s,R,_,S,true=>∃W,BadW (R.map toS) S W
 | .s,R,K,S,false=>∃rows,GoodW (R.map toS) K S rows
 | _,R,K,S,true=>∃b is js,Yvo (R.map toI) K S b is js=true
 | _,R,K,S,false=>∃f rows,GoodI (R.map toI) K S f rows
def Yaev(h:p<R.length):rg R p∈R:=by
 unfold rg;rw[Qk,qq h];exact List.getElem_mem h
def Ytu(hR:∀r∈R',r∈R)(hS:∀x∈S',x∈S)(hK:∀x∈K',x∈K\/x∈S)(hSK:∀x∈S,x∉K)(hSK':∀x∈S',x∉K')(hs:∀r∈R,Srt r)(hk:k=.e->∀r∈R,∃l,r=.ei l)(g:Val k R K S false)(b:Val k R' K' S' true):False:=by
 have hm:∀{α:Type} (f:Rl->α),∀q∈R'.map f,q∈R.map f:=λf q hq=>by
  obtain⟨r,hr,rfl⟩:=qw hq;exact List.mem_map_of_mem (hR r hr)
 have hI:(∃f rows,GoodI (R.map toI) K S f rows)->(∃b is js,Yvo (R'.map toI) K' S' b is js=true)->False:=λ⟨f,rows,g⟩ ⟨b,is,js,h⟩=>Yaas g (hm toI) hS hK hSK' hSK h
 cases k with
 | e=>
   obtain⟨rows,g⟩:=g;refine Yaer (λl hl=>?_) hSK g (BadE.hands hS hK (BadE.mono (hm toE) b));obtain⟨r,hr,rfl⟩:=qw hl;obtain⟨l,rfl⟩:=hk rfl r hr;exact Yvx (hs _ hr)
 | s=>
   obtain⟨rows,g⟩:=g;obtain⟨W,b1,b2⟩:=b
   have hp:∀p∈fl 60 W,kp rows (rg (R'.map toS) p).1 (rg (R'.map toS) p).2:=λp hp=>by
    have h1:p<(R'.map toS).length:=b1 p (by
     have:=qz hp
     exact this.2)
    have h2:=hm toS _ (Yaev h1);obtain⟨i,hi,e⟩:=List.mem_iff_getElem.mp h2;have h3:=g.kept i hi
    have h4:rg (R.map toS) i=(R.map toS)[i]:=by
     unfold rg;rw[Qk,qq hi];rfl
    rw[h4,e]at h3;exact h3
   refine never g.ks (λr hr y hy=>((g.row r hr).2.2 y hy).2) hSK (Yael hp) ?_;rcases b2 with b2|⟨l,hl,b2⟩
   ·exact .inl b2
   ·exact .inr ⟨l,hS l hl,b2⟩
 | i=>exact hI g b
 | n=>exact hI g b
def dr_e(h:∀r∈R,Dr .e st n r):InE (R.map toE) st n/\Ycn .e R=bkE (R.map toE):=by
 have hk:∀r∈R,r=.ei (toE r):=λr hr=>by
  cases r with
  | ei l=>rfl
  | su b o=>cases (h _ hr).1.1
  | im b o=>rcases(h _ hr).1.1 with z|z<;>cases z
 refine⟨λl hl=>?_,?_⟩
 ·obtain⟨r,hr,rfl⟩:=qw hl
  obtain⟨g1,g2,g3⟩:=h r hr;rw[hk r hr]at g1 g2 g3;exact⟨g2,λs hs=>⟨g3 s.1 (List.mem_map.mpr ⟨s,hs,rfl⟩),g1.2 s hs⟩⟩
 ·show D.tup [kdD .e,.tup (R.map rlD)]=.tup [kdD .e,.tup ((R.map toE).map eiD)]
  rw[Qe,Qj λr hr=>show rlD r=(eiD ∘ toE) r by
   conv=>lhs;rw[hk r hr]
   rfl]
theorem dr_s(hn:n<=60)(h:∀r∈R,Dr .s st n r):InB (R.map toS) st n/\Ycn .s R=bkS (R.map toS):=by
 refine⟨λq hq=>?_,?_⟩
 ·obtain⟨r,hr,rfl⟩:=qw hq
  obtain⟨g1,g2,g3⟩:=h r hr
  cases r with
  | ei l=>cases g1.1
  | im b o=>rcases g1.1 with z|z<;>cases z
  | su b o=>
    intro x _ hx;have hxb:x∈b:=wq hx;exact⟨g3 x hxb,g1.2 x hxb⟩
 ·show D.tup [kdD .s,.tup (R.map rlD)]=.tup [kdD .s,.tup ((R.map toS).map smD)]
  rw[Qe,Qj λr hr=>show rlD r=(smD ∘ toS) r by
   obtain⟨g1,g2,g3⟩:=h r hr
   cases r with
   | ei l=>cases g1.1
   | im b o=>rcases g1.1 with z|z<;>cases z
   | su b o=>exact Yaeb (l:=b) g2 (λx hx=>by have:=g1.2 x hx;lia) o]
theorem dr_i(hk:k=.i\/k=.n){R:List Rl}(h:∀r∈R,Dr k st n r):InF (R.map toI) st n/\R.map rlD=(R.map toI).map ifD/\R.map exR=R:=by
 have hr:∀r∈R,r=.im (toI r).1 (toI r).2:=λr hr=>by
  cases r with
  | ei l=>rcases hk with rfl|rfl<;>cases (h _ hr).1.1
  | su b o=>rcases hk with rfl|rfl<;>cases (h _ hr).1.1
  | im b o=>rfl
 refine⟨λq hq=>?_,?_,?_⟩
 ·obtain⟨r,hm,rfl⟩:=qw hq
  obtain⟨g1,g2,g3⟩:=h r hm;rw[hr r hm]at g1 g2 g3;generalize toI r=q at *;obtain⟨b,o⟩:=q;refine⟨g2,λx hx=>⟨g3 x ?_,g1.2.1 x hx⟩,λx hx=>⟨g3 x ?_,g1.2.2 x hx⟩⟩
  ·cases o with
   | none=>exact hx
   | some y=>exact List.mem_append.mpr (.inl hx)
  ·have hx':o=some x:=hx
   subst hx';exact List.mem_append.mpr (.inr (by simp))
 ·rw[Qe,Qj λr hm=>show rlD r=(ifD ∘ toI) r by
   conv=>lhs;rw[hr r hm]
   rfl]
 ·conv=>rhs;rw[<-List.map_id R]
  exact Qj λr hm=>by
   rw[hr r hm];rfl
theorem Yaew(hc:Yn c=some (hs.map hdD))(hl:hs.length<=60)(hst:st<=hs.length)(hRl:R.length<=60)(h:∀r∈R,Dr k st hs.length r):
 ∃(w:Bool) (pp:D),Yjc [Ycn k R,c,.int st]=some (outD w pp)/\Val k R (ofH hs st true) (ofH hs st false) w:=by
 have hif:(k=.i\/k=.n)->∃(w:Bool) (pp:D),Yb2 [Ycn .i R,c,.int st]=some (outD w pp)/\Val .i R (ofH hs st true) (ofH hs st false) w:=λhk=>by
  obtain⟨h1,h2,_⟩:=dr_i hk h
  have e:Ycn .i R=Yap (R.map toI):=by
   show D.tup [kdD .i,.tup (R.map rlD)]=_;rw[h2];rfl
  rw[e];rcases Ytm hc hl hst h1 with⟨b,is,js,g,z⟩|⟨f,rows,g,z⟩
  ·exact⟨true,_,z,b,is,js,g.1⟩
  ·exact⟨false,_,z,f,rows,g⟩
 rw[Yjc,y0 (by rfl)];have hst3:Yr 3 [Ycn k R,c,.int st]=[↑(Ycn k R),↑c,↑(.int st)]:=rfl;have hbi:Yn (Ycn k R)=some [kdD k,.tup (R.map rlD)]:=rfl;rw[hst3]
 cases k with
 | e=>
   obtain⟨h1,h2⟩:=dr_e h;have hL:∀l∈R.map toE,Yhj l:=λl hm=>Yvx (h1 l hm).1;have ho:=Yk0 (L:=R.map toE) (by rw[qf];lia) hc hl hst h1;rw[<-h2]at ho;rcases ho with⟨d,g,z⟩|⟨rows,g,z⟩
   ·refine⟨true,d,?_,Yze hL g⟩
    generalize Ycn .e R=bk at *;simp[Yem,hbi,z]
   ·refine⟨false,.tup (plD rows),?_,rows,g⟩
    generalize Ycn .e R=bk at *;simp[Yem,hbi,z]
 | s=>
   obtain⟨h1,h2⟩:=dr_s hl h;have ho:=Yqp (R:=R.map toS) (by rw[qf];lia) hc hl hst h1;rw[<-h2]at ho;rcases ho with⟨W,g,z⟩|⟨rows,g,z⟩
   ·refine⟨true,.tup [.str "odd",.tup ((fl 60 W).map nD)],?_,W,g⟩
    generalize Ycn .s R=bk at *;simp[Yem,hbi,z]
   ·refine⟨false,.tup [.str "sums",.tup (rows.map srwD)],?_,rows,g⟩
    generalize Ycn .s R=bk at *;simp[Yem,hbi,z]
 | i=>
   obtain⟨w,pp,z,g⟩:=hif (.inl rfl);refine⟨w,pp,?_,g⟩;generalize Ycn .i R=bk at *;simp[Yem,hbi,z]
 | n=>
   obtain⟨w,pp,z,g⟩:=hif (.inr rfl)
   have hx:=Yvh (k:=.n) (n:=hs.length) (R:=R) λr hr=>⟨(h r hr).1,(h r hr).2.1⟩
   rw[(dr_i (.inr rfl) h).2.2]at hx;have hx:Yeg [Ycn .n R]=some (Ycn .i R):=hx;refine⟨w,pp,?_,by cases w<;>exact g⟩;generalize Ycn .n R=bk,Ycn .i R=bk' at *;simp[Yem,hbi,hx,z]
theorem y30(hc:Yn c=some (hs.map hdD))(hl:hs.length<=60)(hst:st<=hs.length)(hRl:R.length<=60)(h:∀r∈R,Dr k st hs.length r):
 ∃w:Bool,Yb4 [Ycn k R,c,.int st]=some (hdD (!w))/\Val k R (ofH hs st true) (ofH hs st false) w:=by
 obtain⟨w,pp,z,g⟩:=Yaew hc hl hst hRl h;refine⟨w,?_,g⟩;rw[Yb4,y0 (by rfl)];have hst3:Yr 4 [Ycn k R,c,.int st]=[↑(Ycn k R),↑c,↑(.int st),none]:=rfl;rw[hst3];generalize Ycn k R=bk at *
 have ho:outD w pp=.tup [hdD (!w),pp]:=by
  cases w<;>rfl
 rw[ho]at z;generalize hdD (!w)=hh at *;simp[Yox,z,isiD,Yil,y4v]
theorem y6q(l:AR)(a:Nat):cutD l (some (a:Int)) none=l.drop a:=by
 unfold cutD;rw[HT.sIx_nat,HT.sIx_none];by_cases h:a<=l.length
 ·rw[Nat.min_eq_left h,List.take_of_length_le (by simp)]
 ·rw[Nat.min_eq_right (by lia),List.drop_eq_nil_of_le (qu _),List.drop_eq_nil_of_le (by lia)]
  simp
theorem Yaex(l:AR)(b:Nat):cutD l none (some (b:Int))=l.take b:=by
 unfold cutD;rw[HT.sIx_nat,HT.sIx_none];by_cases h:b<=l.length
 ·rw[Nat.min_eq_left h]
  simp
 ·rw[Nat.min_eq_right (by lia),List.take_of_length_le (by simp),List.take_of_length_le (by lia)]
  simp
theorem y6r{hs:AJ}(hb:b<hs.length)(hl:hs.length<=60)(w:Bool):Yez [.tup (hs.map hdD),.int b,hdD w]=some (.tup ((hs.set b w).map hdD)):=by
 rw[Yez,y0 (by rfl)];have hst:Yr 3 [D.tup (hs.map hdD),.int b,hdD w]=[↑(.tup (hs.map hdD)),↑(.int b),↑(hdD w)]:=rfl
 have c1:cutC none (some (b:Int)) (.tup (hs.map hdD))=some (.tup ((hs.map hdD).take b)):=by
  show some (D.tup (cutD _ _ _))=_;rw[Yaex]
 have c2:cutC (some ((b:Int)+1)) none (.tup (hs.map hdD))=some (.tup ((hs.map hdD).drop (b+1))):=by
  show some (D.tup (cutD _ _ _))=_;have:=y6q (hs.map hdD) (b+1);rw[show((b+1:Nat):Int)=(b:Int)+1 from rfl]at this;rw[this]
 have e:(hs.set b w).map hdD=(hs.map hdD).take b++[hdD w]++(hs.map hdD).drop (b+1):=by
  rw[List.set_eq_take_append_cons_drop,if_pos hb];simp
 have hHS:(hs.map hdD).length<=60:=by rw[qf];exact hl
 rw[hst,e];generalize hs.map hdD=HS,hdD w=hw at *;simp[Yki,optI,intD,c1,c2];rw[if_pos (by lia)];simp;rw[if_pos (by lia)];rfl
def y7s(hb:b<hs.length)(h:x∈ofH (hs.set b w) st (!w)):x∈ofH hs st (!w):=by
 unfold ofH at h ⊢;rw[List.mem_filter,List.mem_range,Qb]at h ⊢;obtain⟨h1,h2,h3⟩:=h;rw[List.length_set]at h1;refine⟨h1,h2,?_⟩;rw[Qk,List.getElem?_set]at h3;rw[Qk];by_cases e:b=x
 ·subst e
  rw[if_pos rfl,if_pos hb]at h3;cases w<;>simp at h3
 ·rw[if_neg e]at h3
  exact h3
theorem y31(h:x∈ofH hs st b):∀hs':AJ,hs'.length=hs.length->x∈ofH hs' st true\/x∈ofH hs' st false:=λhs' e=>by
 have h1:=Ynb h
 have h2:st<=x:=by
  unfold ofH at h;have:=(qz h).2;rw[Qb,wm]at this;exact this.1
 exact(Ync h2 (by lia)).symm
theorem Yqz(a b neg:Bool):eqM neg (hdD a) (hdD b)=some (if neg then !(a==b)else a==b):=by
 cases a<;>cases b<;>cases neg<;>first|rfl|decide +kernel
def hd_k:(D.str "keeper")=hdD true:=rfl
def hd_s:(D.str "storm")=hdD false:=rfl
def Ytv(hR:∀r∈R++R',Dr k st hs.length r)(e:hs'.length=hs.length)(h1:w=false->(∀r∈R',r∈R)/\∀x∈ofH hs' st false,x∈ofH hs st false)(h2:w=true->(∀r∈R,r∈R')/\∀x∈ofH hs st false,x∈ofH hs' st false)(v:Val k R (ofH hs st true) (ofH hs st false) w)(v':Val k R' (ofH hs' st true) (ofH hs' st false) w'):w'=w:=by
 have hk:∀r∈R++R',k=.e->∃l,r=.ei l:=λr hr hk=>by
  subst hk
  cases r with
  | ei l=>exact⟨l,rfl⟩
  | su b o=>cases (hR _ hr).1.1
  | im b o=>rcases(hR _ hr).1.1 with z|z<;>cases z
 have hm:∀r∈R,r∈R++R':=λr=>List.mem_append_left _;have hm':∀r∈R',r∈R++R':=λr=>Qi _
 cases w with
 | false=>
   cases w' with
   | false=>rfl
   | true=>exact(Ytu (h1 rfl).1 (h1 rfl).2 (λx hx=>y31 hx hs e.symm) Yf6 Yf6 (λr hr=>(hR r (hm r hr)).2.1) (λz r hr=>hk r (hm r hr) z) v v').elim
 | true=>
   cases w' with
   | true=>rfl
   | false=>exact(Ytu (h2 rfl).1 (h2 rfl).2 (λx hx=>y31 hx hs' e) Yf6 Yf6 (λr hr=>(hR r (hm' r hr)).2.1) (λz r hr=>hk r (hm' r hr) z) v' v).elim
theorem Yaey{R:List Rl}{hs:AJ}(v:Int)(hl:hs.length<=60)(hst:st<hs.length)(hRl:R.length<=50)(h:∀r∈R,Dr k st hs.length r)(hm:Dr k st hs.length m):
 Yg9 [kdD k,.lst (R.map rlD),.tup (hs.map hdD),.int st,.int v,rlD m]=some (.bl true):=by
 obtain⟨w,hw,vw⟩:=y30 (c:=.tup (hs.map hdD)) rfl hl (by lia) (by lia) h
 obtain⟨b,hb1,hb2,hb⟩:∃b:Nat,st<=b/\b<hs.length/\(st:Int)+v/64%((hs.length:Int)-st)=(b:Int):=by
  have h1:=Int.emod_nonneg (v/64) (b:=(hs.length:Int)-st) (by lia);have h2:=Int.emod_lt_of_pos (v/64) (b:=(hs.length:Int)-st) (by lia);exact⟨((st:Int)+v/64%((hs.length:Int)-st)).toNat,by lia,by lia,by lia⟩
 have hhd:=y6r hb2 hl (!w);obtain⟨w2,hw2,vw2⟩:=y30 (k:=k) (R:=R) (hs:=hs.set b (!w)) (st:=st) (c:=.tup ((hs.set b (!w)).map hdD)) rfl (by rw[List.length_set];exact hl) (by rw[List.length_set];lia) (by lia) (by rw[List.length_set];exact h)
 have e2:w2=w:=Ytv (R:=R) (R':=R) (hs:=hs) (hs':=hs.set b (!w)) (by
  intro r hr
  rcases qv hr with z|z<;>exact h r z) (List.length_set ..) (λz=>⟨λ_ h=>h,λx hx=>by
   subst z
   exact y7s (w:=true) hb2 hx⟩) (λz=>⟨λ_ h=>h,λx hx=>by
   subst z;rcases y31 hx (hs.set b false) (List.length_set ..)with q|q
   ·exact absurd (y7s (w:=false) hb2 q) (Yf6 x hx)
   ·exact q⟩) vw vw2
 subst e2
 obtain⟨R2,hR2l,hR2,hbk⟩:∃R2:List Rl,R2.length<=60/\((w2=false->∀r∈R2,r∈R)/\(w2=true->∀r∈R,r∈R2)/\∀r∈R2,r∈R\/r=m)/\(if w2=true then insD (R.map rlD) (.int (v/4096%((R.length:Int)+1))) (rlD m)=some (R2.map rlD)else (0<R.length->popD (R.map rlD) (.int (v/4096%(R.length:Int)))=some (R2.map rlD))/\(R.length=0->R2=R)):=by
  cases w2 with
  | true=>
    have h1:=Int.emod_nonneg (v/4096) (b:=(R.length:Int)+1) (by lia);have h2:=Int.emod_lt_of_pos (v/4096) (b:=(R.length:Int)+1) (by lia);generalize v/4096%((R.length:Int)+1)=i at *;refine⟨R.take i.toNat++m::R.drop i.toNat,by simp;lia,⟨λz=>(nomatch z),λ_ r hr=>?_,λr hr=>?_⟩,?_⟩
    ·rw[<-List.take_append_drop i.toNat R]at hr
     rcases qv hr with z|z
     ·exact List.mem_append_left _ z
     ·exact Qi _ (qg _ z)
    ·rcases qv hr with z|z
     ·exact .inl (List.mem_of_mem_take z)
     ·rcases qt z with z|z
      ·exact .inr z
      ·exact .inl (List.mem_of_mem_drop z)
    ·rw[if_pos rfl]
     unfold insD;show(if _ then _ else _)=_;rw[if_pos (by simp[cap6];lia)];simp
  | false=>
    by_cases hz:R.length=0
    ·exact⟨R,by lia,⟨λ_ _ h=>h,λz=>(nomatch z),λ_ h=>.inl h⟩,by rw[if_neg qi];exact⟨λz=>absurd hz (by lia),λ_=>rfl⟩⟩
    ·have h1:=Int.emod_nonneg (v/4096) (b:=(R.length:Int)) (by lia)
     have h2:=Int.emod_lt_of_pos (v/4096) (b:=(R.length:Int)) (by lia);generalize v/4096%(R.length:Int)=i at *;have hsub:∀r∈R.eraseIdx i.toNat,r∈R:=λr hr=>List.mem_of_mem_eraseIdx hr;refine⟨R.eraseIdx i.toNat,by have:=List.length_eraseIdx_le R i.toNat;lia,⟨λ_=>hsub,λz=>(nomatch z),λr hr=>.inl (hsub r hr)⟩,?_⟩;rw[if_neg qi];refine⟨λ_=>?_,λz=>absurd z hz⟩;unfold popD;show(if _ then _ else _)=_;rw[if_pos (by simp[cap6];lia),Ql,Ql,wt,List.map_take,List.map_drop]
 have hdr:∀r∈R++R2,Dr k st hs.length r:=λr hr=>by
  rcases qv hr with z|z
  ·exact h r z
  ·rcases hR2.2.2 r z with q|rfl
   ·exact h r q
   ·exact hm
 obtain⟨w3,hw3,vw3⟩:=y30 (k:=k) (R:=R2) (hs:=hs) (st:=st) (c:=.tup (hs.map hdD)) rfl hl (by lia) hR2l λr hr=>hdr r (Qi _ hr);have e3:w3=w2:=Ytv hdr rfl (λz=>⟨hR2.1 z,λ_ h=>h⟩) (λz=>⟨hR2.2.1 z,λ_ h=>h⟩) vw vw3;subst e3;have ht:tupC [.lst (R.map rlD)]=some (.tup (R.map rlD)):=rfl;have ht2:tupC [.lst (R2.map rlD)]=some (.tup (R2.map rlD)):=rfl;have hlf:Yrl [.lst (R.map rlD)]=some (R.map rlD):=rfl
 have hlen:lenC [.lst (R.map rlD)]=some (.int (R.length:Int)):=by
  show some (D.int ((R.map rlD).length:Int))=_;rw[qf]
 have hlen2:lenC [.tup (hs.map hdD)]=some (.int (hs.length:Int)):=by
  show some (D.int ((hs.map hdD).length:Int))=_;rw[qf]
 have hw:Yb4 [.tup [kdD k,.tup (R.map rlD)],.tup (hs.map hdD),.int st]=some (hdD (!w3)):=hw;have hw2:Yb4 [.tup [kdD k,.tup (R.map rlD)],.tup ((hs.set b (!w3)).map hdD),.int st]=some (hdD (!w3)):=hw2;have hw3:Yb4 [.tup [kdD k,.tup (R2.map rlD)],.tup (hs.map hdD),.int st]=some (hdD (!w3)):=hw3
 have hmd:modI (.int (v/64)) (.int ((hs.length:Int)-st))=some (.int (v/64%((hs.length:Int)-st))):=by
  show(if decide ((0:Int)<(hs.length:Int)-st)=true then _ else none)=_;rw[if_pos (by rw[wm];lia)]
 have q1:=Yqz (!w3) true;have q2:=Yqz (!w3) false;have q3:=Yqz (!w3) (!w3);rw[Yg9,y0 (by rfl)];have hst9:Yr 9 [kdD k,.lst (R.map rlD),.tup (hs.map hdD),.int st,.int v,rlD m]=[↑(kdD k),↑(.lst (R.map rlD)),↑(.tup (hs.map hdD)),↑(.int st),↑(.int v),↑(rlD m),none,none,none]:=rfl;rw[hst9]
 have hrr:w3=false->R.length=0->R2.map rlD=R.map rlD:=λz z'=>by
  subst z;rw[if_neg qi]at hbk;rw[hbk.2 z']
 generalize rlD m=mm,R.map rlD=RR,R2.map rlD=RR2,hs.map hdD=HS,(hs.set b (!w3)).map hdD=HS2,kdD k=kk at *
 have hB:Yj7 [↑kk,↑(.lst RR),↑(.tup HS),↑(.int st),↑(.int v),↑mm,none,none,none]=some (.rt (.bl true)):=by
  rw[Yj7,Ybx]
  cases w3 with
  | true=>
    have hi:insD RR (.int (v/4096%((R.length:Int)+1))) mm=some RR2:=by rw[if_pos rfl]at hbk;exact hbk
    simp only[Bool.not_true,if_true]at hw hw2 hw3 hhd q1 q2 q3;simp[ht,hw];rw[hd_k,hd_s]at *;simp[q1,q2,hlen2,hmd,hb,hhd,hw2,q3,hlf,hlen,hi,ht2,hw3]
  | false=>
    rw[if_neg qi]at hbk;simp only[Bool.not_false]at hw hw2 hw3 hhd q1 q2 q3;simp[ht,hw];rw[hd_k,hd_s]at *;by_cases hz:R.length=0
    ·have e:=hrr rfl hz
     subst e;clear hbk hR2;simp[q1,q2,hlen2,hmd,hb,hhd,hw2,q3,hlf,hlen,hz,ht2,hw3]
    ·have hi:=hbk.1 (by lia)
     have hp:(0:Int)<(R.length:Int):=by lia
     have hp':0<R.length:=by lia
     have hmp:modI (.int (v/4096)) (.int (R.length:Int))=some (.int (v/4096%(R.length:Int))):=by
      show(if decide ((0:Int)<(R.length:Int))=true then _ else none)=_;rw[if_pos (by rw[wm];lia)]
     clear hbk hR2;simp[q1,q2,hlen2,hmd,hb,hhd,hw2,q3,hlf,hlen,hp,hp',hmp,hi,ht2,hw3]
 rw[hB];rfl
theorem y32{r:Ro}{α:Type}{enc:α->D}{P:Rl->Prop}:∀l:List α,(∀a∈l,∃x:Rl,P x/\fe (some (.sh (enc a))::r)=some (rlD x))->∃R:List Rl,R.length=l.length/\(∀x∈R,P x)/\Yen (gSet 0) tY fe (none::r) (l.map enc)=some (R.map rlD)
 | [],_=>⟨[],rfl,λ_ h=>(nomatch h),rfl⟩
 | c::l,h=>by
   obtain⟨R,h1,h2,h3⟩:=y32 l λa ha=>h a (.tail _ ha);obtain⟨x,hx,hr⟩:=h c (.head _);refine⟨x::R,by simp[h1],λy hy=>?_,?_⟩
   ·rcases qt hy with rfl|hy
    ·exact hx
    ·exact h2 y hy
   ·rw[Qa,Yen,h3]
    simp[hr]
def kds:List Kd:=[.s,.i,.n,.e]
def Yaat(h:Dr k st m r)(hm:m<=n):Dr k st n r:=by
 obtain⟨h1,h2,h3⟩:=h;refine⟨?_,h2,h3⟩
 cases r with
 | ei l=>exact⟨h1.1,λs hs=>Qc (h1.2 s hs) hm⟩
 | su b o=>exact⟨h1.1,λx hx=>Qc (h1.2 x hx) hm⟩
 | im b o=>exact⟨h1.1,λx hx=>Qc (h1.2.1 x hx) hm,λx hx=>Qc (h1.2.2 x hx) hm⟩
theorem Yaez(ns:AH){hs:AJ}(hl:hs.length<=60)(hst:st<hs.length)(hf:st<f/\f<=hs.length)(hi:i<4)(y7 y8 y9 y10:AT):
 ∃z7 z8 z9 z10,Yle [↑(.scr ns),↑(.int hs.length),↑(.int st),↑(.tup (hs.map hdD)),↑(.int v),↑(.int f),↑(.int (0+(i:Nat))),y7,y8,y9,y10]=some (.nx [↑(.scr ns),↑(.int hs.length),↑(.int st),↑(.tup (hs.map hdD)),↑(.int v),↑(.int f),↑(.int (0+(i:Nat))),z7,z8,z9,z10]):=by
 obtain⟨k,hk⟩:∃k,kds[i]?=some k:=by
  rcases(show i=0\/i=1\/i=2\/i=3 by lia)with rfl|rfl|rfl|rfl<;>exact⟨_,rfl⟩
 have hkd:atI [D.str "sums",.str "ifs",.str "nots",.str "eithers"] (i:Int)=some (kdD k):=by
  have:[D.str "sums",.str "ifs",.str "nots",.str "eithers"]=kds.map kdD:=rfl;rw[this,Yft,Yhv hk];rfl
 obtain⟨dv,hd0,hdv,hdvi⟩:∃dv:Int,0<dv/\dv<1073741824/\atI [D.int 8,.int 128,.int 2048,.int 32768] (i:Int)=some (.int dv):=by
  rcases(show i=0\/i=1\/i=2\/i=3 by lia)with rfl|rfl|rfl|rfl<;>exact⟨_,by decide,by decide,rfl⟩
 have hdiv:divI (.int v) (.int dv)=some (.int (v/dv)):=by
  show(if (decide ((0:Int)<dv)&&decide (dv<1073741824))=true then _ else none)=_;rw[if_pos (by simp[hd0,hdv])]
 have hm0:=Int.emod_nonneg (v/dv) (b:=13) (by decide);have hm1:=Int.emod_lt_of_pos (v/dv) (b:=13) (by decide);obtain⟨m,hm⟩:=Int.eq_ofNat_of_zero_le hm0;rw[hm]at hm1;have hr:=Yjx (n:=(m:Int)) (by lia) (by lia);rw[Yh5]at hr
 obtain⟨R,hR1,hR2,hR3⟩:=y32 (fe:=Yqf) (r:=[↑(kdD k),↑(.scr ns),↑(.int (i:Int)),↑(.int st),↑(.int f)]) (enc:=λj:Nat=>D.int (0+(j:Nat))) (P:=Dr k st f) (List.range ((m:Int)-0).toNat) (λj hj=>by
  have hj:j<((m:Int)-0).toNat:=qy hj;obtain⟨r,h1,h2,h3,h4⟩:=y2y k (ns.getD (3+i+4*j) 0) st f hf.1 (by lia);have hc:=Yjd ns (3+i+4*j) (3+(i:Int)+4*(j:Int)) (by lia);have hmu:mulI (.int 4) (.int (j:Int))=some (.int (4*(j:Int))):=Ywu ⟨by lia,by lia⟩
  have e0:(0:Int)+(j:Int)=(j:Int):=by lia
  refine⟨r,⟨h1,h2,h3⟩,?_⟩;rw[e0];generalize ns.getD (3+i+4*j) 0=cc,kdD k=kk at *
  simp[Yqf,hmu,hc,h4])
 obtain⟨r,h1,h2,h3,h4⟩:=y2y k (ns.getD (55+i) 0) st hs.length hst (by lia);have hc:=Yjd ns (55+i) (55+(i:Int)) (by lia);have hkp:=Yaey (k:=k) (R:=R) (hs:=hs) (st:=st) (m:=r) (v/16+i) hl hst (by rw[hR1,List.length_range];lia) (λr hr=>Yaat (hR2 r hr) hf.2) ⟨h1,h2,h3⟩
 have e0:(0:Int)+(i:Int)=(i:Int):=by lia
 rw[e0];simp only[Int.zero_add,Int.sub_zero,w9]at hr hR3;refine⟨some (.sh (kdD k)),↑(.int m),↑(.lst (R.map rlD)),↑(rlD r),?_⟩;generalize ns.getD (55+i) 0=cc,R.map rlD=RR,rlD r=rr,kdD k=kk,hs.map hdD=HS at *;simp[Yle,hkd,hdvi,hdiv,hm,hr,capR,hR3,hc,h4,hkp,frz,frz1]
theorem law_true(ns:AH)(hns:ns.length<=63):Yve [.scr ns]=some (.bl true):=by
 rw[Yve,y0 (by rfl)];have hst:Yr 11 [D.scr ns]=[↑(.scr ns),none,none,none,none,none,none,none,none,none,none]:=rfl;have c0:=Yjd ns 0 0 rfl;have c1:=Yjd ns 1 1 rfl;have c2:=Yjd ns 2 2 rfl;generalize ns.getD 0 0=x0,ns.getD 1 0=x1,ns.getD 2 0=x2 at *
 obtain⟨n,hn,hn1,hn2⟩:∃n:Nat,1+x0%30=(n:Int)/\1<=n/\n<=30:=⟨(1+x0%30).toNat,by lia,by lia,by lia⟩
 obtain⟨st,hst0,hst1⟩:∃st:Nat,x0/30%(n:Int)=(st:Int)/\st<n:=by
  have h1:=Int.emod_nonneg (x0/30) (b:=(n:Int)) (by lia);have h2:=Int.emod_lt_of_pos (x0/30) (b:=(n:Int)) (by lia);exact⟨(x0/30%(n:Int)).toNat,by lia,by lia⟩
 obtain⟨hs,hhl,hh⟩:=Yvl x1 n (by lia);obtain⟨v,hv0,hv⟩:=Yvf x2 1865811235122147685;subst hhl
 obtain⟨x,hx,hxp⟩:∃x:Nat,atI [D.int 2,.int 4,.int 8,.int 30] (v%4)=some (.int (x:Int))/\0<x:=by
  rcases(show v%4=0\/v%4=1\/v%4=2\/v%4=3 by lia)with e|e|e|e<;>rw[e]
  ·exact⟨2,rfl,by decide⟩
  ·exact⟨4,rfl,by decide⟩
  ·exact⟨8,rfl,by decide⟩
  ·exact⟨30,rfl,by decide⟩
 obtain⟨f,hf,hf1,hf2⟩:∃f:Nat,minC [.int (hs.length:Int),.int ((st:Int)+(x:Int))]=some (.int (f:Int))/\st<f/\f<=hs.length:=by
  by_cases z:(st:Int)+(x:Int)<(hs.length:Int)
  ·exact⟨st+x,by show some (D.int (if _ then _ else _))=_;rw[if_pos z];rfl,by lia,by lia⟩
  ·exact⟨hs.length,by show some (D.int (if _ then _ else _))=_;rw[if_neg z],by lia,qu _⟩
 have hr4:=Yjx (n:=(4:Int)) (by lia) (by lia);rw[Yh5]at hr4
 have hmod:modI (.int (x0/30)) (.int (hs.length:Int))=some (.int (st:Int)):=by
  show(if decide ((0:Int)<(hs.length:Int))=true then _ else none)=_;rw[if_pos (by rw[wm];lia)];exact congrArg (λi=>some (D.int i)) hst0
 obtain⟨ρ',hfor,y6,y7,y8,y9,y10,rfl⟩:=Ydb (gt:=gSet 6) (fb:=Yle) (λi:Nat=>D.int (0+(i:Nat))) (λ_ ρ=>∃y6 y7 y8 y9 y10:AT,ρ=[↑(.scr ns),↑(.int hs.length),↑(.int st),↑(.tup (hs.map hdD)),↑(.int v),↑(.int f),y6,y7,y8,y9,y10]) (List.range ((4:Int)-0).toNat) []
  [↑(.scr ns),↑(.int hs.length),↑(.int st),↑(.tup (hs.map hdD)),↑(.int v),↑(.int f),none,none,none,none,none] ⟨_,_,_,_,_,rfl⟩ (by
   rintro q i r ρ e ⟨y6,y7,y8,y9,y10,rfl⟩
   have hi:i<4:=by
    have:i∈List.range ((4:Int)-0).toNat:=by
     rw[Qd]at e;rw[e];simp
    exact qy this
   obtain⟨z7,z8,z9,z10,h⟩:=Yaez ns (v:=v) (by lia) hst1 ⟨hf1,hf2⟩ hi y7 y8 y9 y10
   exact⟨_,_,rfl,h,_,z7,z8,z9,z10,rfl⟩)
 rw[hst];generalize hs.map hdD=HS at *
 have hb:Yaac [↑(.scr ns),none,none,none,none,none,none,none,none,none,none]=some (.rt (.bl true)):=by
  rw[Yaac,Ybx];simp[c0,hn];rw[y2n,Ybx];simp[c0,hmod];rw[y2m,Ybx];simp[c1,hh];rw[y2l,Ybx];simp[c2,hv];rw[y2k,Ybx];simp[hx,hf];rw[y2j,Ybx];simp only[Int.zero_add,Int.sub_zero]at hr4 hfor;simp[hr4];rw[show Int.toNat 4=4 from rfl]at hfor;rw[hfor];rfl
 rw[hb];rfl
end Lw
end
namespace Op
open PySem PySem.W PyProof.Rows PySem.Calls
set_option maxRecDepth 100000
noncomputable abbrev pg:Program:=PySem.Challenge.pw_duskbook_k65_whole_less_to_break
noncomputable abbrev en(P:Params)(x:Str)(t:Nat)(v:Value):DictEntry:=⟨PyData.keyHash P x,.str x t,v⟩
noncomputable abbrev fn(name qual:Str)(s:Stmt)(dV kV doc pm:Value)(an:Option Addr)(cdv ct:Value)(g b:Nat):Data:=.func ⟨name,qual,L2.defArgs s,.stmts (L2.defBody s),L2.defScope s,g,[],dV,kV,doc,pm,an,cdv,ct,b⟩
noncomputable abbrev tu(l:AD):Obj:=⟨.type "tuple",none,.seq ⟨l⟩ 0,#[]⟩
noncomputable abbrev fl:Obj:=⟨.none,none,.fields #[],#[]⟩
noncomputable abbrev oZ(x:Str)(i:Nat):Obj:=⟨.none,none,fn x x (Lw.top i) .none .none .none .none none .none .none 0 0,#[]⟩
noncomputable abbrev oF(x:Str)(i:Nat)(pm:Value)(c:Nat):Obj:=⟨.type "function",none,.func (fnOf x x (L2.defArgs (Lw.top i)) (L2.defBody (Lw.top i)) (L2.defScope (Lw.top i)) .none .none .none pm none (.ref c) .none),#[]⟩
noncomputable abbrev oC(x:Str)(t l n b:Nat)(u v:Value)(c k e:Nat):Obj:=⟨.type "code",none,.fields #[.str x t,.str x (t+1),.str "/claim/cut.py" (t+2),.int (.ofNat l) 0,.int (.ofNat n) 0,.int 0 0,.int 0 0,.int 3 0,.ref b,.bool true,.int (.ofNat k) 0,.ref (b+1),.none,u,v,.ref c,.int (.ofNat e) 0,.int (.ofNat l) 0,.str "/claim/cut.py" (e+1)],#[]⟩
noncomputable abbrev p0:Value:=(.str "duskbook.roads" 187)
noncomputable abbrev p1:Value:=(.str "duskbook.blends" 224)
noncomputable abbrev p2:Value:=(.str "duskbook.parts" 251)
noncomputable abbrev p3:Value:=(.str "duskbook.adding" 259)
noncomputable abbrev p4:Value:=(.str "duskbook.books" 292)
noncomputable abbrev p5:Value:=(.str "duskbook.deriving" 341)
noncomputable abbrev p6:Value:=(.str "duskbook.storming" 383)
noncomputable abbrev p7:Value:=(.str "duskbook.eitherways" 391)
noncomputable abbrev p8:Value:=(.str "duskbook.keeping" 485)
noncomputable abbrev p9:Value:=(.str "duskbook.ifways" 504)
noncomputable abbrev p10:Value:=(.str "duskbook.sumways" 554)
noncomputable abbrev p11:Value:=(.str "law_duskbook_k65_whole_less_to_break" 600)
noncomputable def et0(P:Params):List DictEntry:=[en P "__doc__" 166 .none,en P "__package__" 167 .none,en P "__loader__" 168 (.builtin "__main__.__loader__#opaque"),en P "__spec__" 169 .none,en P "__annotations__" 170 (.ref 6),en P "__builtins__" 171 (.ref 4),en P "__file__" 173 (.str "/claim/cut.py" 172),en P "__cached__" 174 .none,en P "contrary" 195 (.ref 21),en P "led_to" 201 (.ref 26),en P "traced" 211 (.ref 33),en P "ways_from" 223 (.ref 40),en P "EXCHANGED_KINDS" 238 (.ref 41),en P "exchanged_rule" 244 (.ref 46),en P "exchanged" 250 (.ref 51),en P "beacons_with" 258 (.ref 56),en P "both_added" 268 (.ref 63),en P "pairs_added" 276 (.ref 70),en P "cleared" 285 (.ref 77),en P "reduced" 291 (.ref 82),en P "either_holds" 299 (.ref 87),en P "sum_holds" 305 (.ref 92),en P "if_holds" 311 (.ref 97),en P "rule_holds" 320 (.ref 104),en P "beacons_in" 326 (.ref 109),en P "is_void" 334 (.ref 116),en P "without" 340 (.ref 121),en P "is_place" 350 (.ref 128),en P "body_is_known" 356 (.ref 133),en P "is_step" 366 (.ref 140),en P "step_to_more" 376 (.ref 147),en P "derived_in_full" 382 (.ref 152),en P "is_broken" 390 (.ref 157),en P "sayings_of" 401 (.ref 164),en P "lead_to_one_another" 410 (.ref 171),en P "clash_found" 419 (.ref 178),en P "cross_found" 429 (.ref 185),en P "late_found" 440 (.ref 192),en P "storms_paper" 446 (.ref 197),en P "free_saying" 455 (.ref 204)]
noncomputable def et1(P:Params):List DictEntry:=[en P "truths_made" 467 (.ref 211),en P "plan_row" 478 (.ref 218),en P "either_outcome" 484 (.ref 223),en P "replaced" 497 (.ref 230),en P "ahead_of" 503 (.ref 235),en P "places_to_none" 515 (.ref 242),en P "places_to_beacon" 521 (.ref 247),en P "some_of" 527 (.ref 252),en P "facts_beside" 536 (.ref 259),en P "if_outcome" 553 (.ref 266),en P "last_beacon" 562 (.ref 273),en P "storms_places" 568 (.ref 278),en P "sum_rows" 574 (.ref 283),en P "sum_outcome" 587 (.ref 290),en P "outcome" 599 (.ref 298),en P "_law_cell" 609 (.ref 305),en P "_law_mixed" 617 (.ref 312),en P "_law_hands" 623 (.ref 317),en P "_law_own" 629 (.ref 322),en P "_law_rule" 635 (.ref 327),en P "_law_hand" 645 (.ref 334),en P "_law_handed" 654 (.ref 341),en P "_law_kept" 669 (.ref 348),en P "law" 675 (.ref 353)]
noncomputable def et(P:Params):List DictEntry:=et0 P++et1 P
noncomputable abbrev ns(P:Params)(x:DictEntry)(n k:Nat):Obj:=⟨.type "dict",none,.dict ⟨x::(et P).take n⟩ k,#[]⟩
noncomputable def ff0:AD:=[(.int (2) 0),(.int (0) 0),(.ref 20),(.int (4) 0),(.int (0) 0),(.ref 25),(.int (12) 0),(.int (0) 0),(.ref 32),(.int (19) 0),(.int (0) 0),(.ref 39),(.int (32) 0),(.int (0) 0),(.ref 45),(.int (38) 0),(.int (0) 0),(.ref 50),(.int (42) 0),(.int (0) 0),(.ref 55),(.int (45) 0),(.int (0) 0),(.ref 62),(.int (47) 0),(.int (0) 0),(.ref 69),(.int (49) 0),(.int (0) 0),(.ref 76),(.int (54) 0),(.int (0) 0),(.ref 81),(.int (66) 0),(.int (0) 0),(.ref 86),(.int (68) 0),(.int (0) 0),(.ref 91),(.int (71) 0)]
noncomputable def ff1:AD:=[(.int (0) 0),(.ref 96),(.int (75) 0),(.int (0) 0),(.ref 103),(.int (81) 0),(.int (0) 0),(.ref 108),(.int (87) 0),(.int (0) 0),(.ref 115),(.int (89) 0),(.int (0) 0),(.ref 120),(.int (92) 0),(.int (0) 0),(.ref 127),(.int (94) 0),(.int (0) 0),(.ref 132),(.int (96) 0),(.int (0) 0),(.ref 139),(.int (101) 0),(.int (0) 0),(.ref 146),(.int (106) 0),(.int (0) 0),(.ref 151),(.int (116) 0),(.int (0) 0),(.ref 156),(.int (119) 0),(.int (0) 0),(.ref 163),(.int (124) 0),(.int (0) 0),(.ref 170),(.int (126) 0),(.int (0) 0)]
noncomputable def ff2:AD:=[(.ref 177),(.int (132) 0),(.int (0) 0),(.ref 184),(.int (138) 0),(.int (0) 0),(.ref 191),(.int (144) 0),(.int (0) 0),(.ref 196),(.int (150) 0),(.int (0) 0),(.ref 203),(.int (153) 0),(.int (0) 0),(.ref 210),(.int (161) 0),(.int (0) 0),(.ref 217),(.int (166) 0),(.int (0) 0),(.ref 222),(.int (176) 0),(.int (0) 0),(.ref 229),(.int (182) 0),(.int (0) 0),(.ref 234),(.int (185) 0),(.int (0) 0),(.ref 241),(.int (190) 0),(.int (0) 0),(.ref 246),(.int (195) 0),(.int (0) 0),(.ref 251),(.int (197) 0),(.int (0) 0),(.ref 258)]
noncomputable def ff3:AD:=[(.int (199) 0),(.int (0) 0),(.ref 265),(.int (216) 0),(.int (0) 0),(.ref 272),(.int (218) 0),(.int (0) 0),(.ref 277),(.int (223) 0),(.int (0) 0),(.ref 282),(.int (231) 0),(.int (0) 0),(.ref 289),(.int (240) 0),(.int (0) 0),(.ref 297),(.int (249) 0),(.int (0) 0),(.ref 304),(.int (253) 0),(.int (0) 0),(.ref 311),(.int (255) 0),(.int (0) 0),(.ref 316),(.int (258) 0),(.int (0) 0),(.ref 321),(.int (260) 0),(.int (0) 0),(.ref 326),(.int (280) 0),(.int (0) 0),(.ref 333),(.int (285) 0),(.int (0) 0),(.ref 340),(.int (287) 0)]
noncomputable def ff4:AD:=[(.int (0) 0),(.ref 347),(.int (300) 0),(.int (0) 0),(.ref 352)]
noncomputable def ff:AD:=ff0++ff1++ff2++ff3++ff4
noncomputable abbrev ft(n:Nat):Obj:=⟨.none,none,.fields ⟨ff.take n⟩,#[]⟩
noncomputable abbrev dF(x:Str)(i l n t b:Nat)(pm:Value)(k:Nat):List Obj:=[tu [],fl,oZ x i,oC x t l n b .none .none (b+2) k (t+3),oF x i pm (b+3)]
noncomputable abbrev dG(x:Str)(i l n t b:Nat)(pm:Value)(k:Nat)(u:AD):List Obj:=[tu [],fl,tu u,tu [],oZ x i,oC x t l n b (.ref (b+2)) (.ref (b+3)) (b+4) k (t+3+u.length),oF x i pm (b+5)]
noncomputable def al0(P:Params):List Obj:=[boot_o_0 P,boot_o_1 P,boot_o_2 P,ns P (en P "__name__" 165 (.str "law_duskbook_k65_whole_less_to_break" 600)) 64 65,boot_o_4 P,boot_o_5 P,boot_o_6 P,boot_o_7 P,boot_o_8 P,boot_o_9 P,boot_o_10 P,tu [],ft 165,⟨(.type "code"),none,(.fields #[(.str "<module>" 182),(.str "<module>" 183),(.str "/claim/cut.py" 184),(.int (1) 0),(.int (0) 0),(.int (0) 0),(.int (0) 0),(.int (0) 0),(.ref 11),(.bool false),(.int (181) 0),(.ref 12),.none,.none,.none,.none,(.int (185) 0),(.int (1) 0),(.str "/claim/cut.py" 186)]),#[]⟩,⟨(.type "frame"),none,.plain,#[(some (.ref 13)),(some (.ref 3)),(some (.ref 3)),none,(some (.str "__main__" 164)),none,(some (.ref 0))]⟩]++(dG "contrary" 1 2 1 189 15 p0 181 [(.str "saying" 192)]++(dF "led_to" 2 4 2 196 22 p0 181++(dG "traced" 3 12 2 202 27 p0 181 [(.str "ahead" 205),(.str "last" 206),(.str "road" 207),(.str "saying" 208)]++(dG "ways_from" 4 19 2 212 34 p0 181 [(.str "book" 215),(.str "saying" 216),(.str "ahead" 217),(.str "reached" 218),(.str "place" 219),(.str "led" 220)]++([⟨(.type "dict"),none,(.dict #[en P "eithers" 226 (.str "eithers" 227),en P "sums" 228 (.str "sums" 229),en P "ifs" 230 (.str "nots" 231),en P "nots" 232 (.str "ifs" 233)] 4),#[]⟩]++(dF "exchanged_rule" 7 32 2 239 42 p1 181++(dF "exchanged" 8 38 1 245 47 p1 181++(dF "beacons_with" 10 42 3 253 52 p2 181++(dG "both_added" 12 45 2 261 57 p3 181 [(.str "rule" 264),(.str "other" 265)]++(dG "pairs_added" 13 47 2 269 64 p3 181 [(.str "pair" 272),(.str "other" 273)]++(dG "cleared" 14 49 2 277 71 p3 181 [(.str "pair" 280),(.str "by_last" 281),(.str "left" 282)]++(dF "reduced" 15 54 1 286 78 p3 181++(dF "either_holds" 17 66 2 294 83 p4 181++(dF "sum_holds" 18 68 2 300 88 p4 181++(dF "if_holds" 19 71 3 306 93 p4 181++(dG "rule_holds" 20 75 3 312 98 p4 181 [(.str "kind" 315),(.str "rule" 316),(.str "evening" 317)]++(dF "beacons_in" 21 81 2 321 105 p4 181++(dG "is_void" 22 87 2 327 110 p4 181 [(.str "kind" 330),(.str "rule" 331)]++(dF "without" 23 89 2 335 117 p4 181++(dG "is_place" 25 92 2 343 122 p5 181 [(.str "book" 346),(.str "place" 347)]++(dF "body_is_known" 26 94 2 351 129 p5 181++(dG "is_step" 27 96 3 357 134 p5 181 [(.str "book" 360),(.str "known" 361),(.str "place" 362),(.str "rule" 363)]++(dG "step_to_more" 28 101 2 367 141 p5 181 [(.str "book" 370),(.str "known" 371),(.str "place" 372),(.str "rule" 373)]++(dF "derived_in_full" 29 106 2 377 148 p5 181))))))))))))))))))))))))
noncomputable def al1(P:Params):List Obj:=dF "is_broken" 31 116 1 385 153 p6 181++(dG "sayings_of" 33 119 1 393 158 p7 181 [(.str "beacons" 396),(.str "sayings" 397),(.str "beacon" 398)]++(dG "lead_to_one_another" 34 124 3 402 165 p7 181 [(.str "ways" 405),(.str "saying" 406),(.str "other" 407)]++(dG "clash_found" 35 126 1 411 172 p7 181 [(.str "ways" 414),(.str "saying" 415),(.str "other" 416)]++(dG "cross_found" 36 132 2 420 179 p7 181 [(.str "ways" 423),(.str "storms" 424),(.str "saying" 425),(.str "other" 426)]++(dG "late_found" 37 138 3 430 186 p7 181 [(.str "ways" 433),(.str "keepers" 434),(.str "storms" 435),(.str "saying" 436),(.str "other" 437)]++(dF "storms_paper" 38 144 4 441 193 p7 181++(dG "free_saying" 39 150 2 447 198 p7 181 [(.str "keeper" 450),(.str "ways" 451),(.str "dark" 452)]++(dG "truths_made" 40 153 3 456 205 p7 181 [(.str "ways" 459),(.str "keepers" 460),(.str "storms" 461),(.str "truths" 462),(.str "saying" 463),(.str "keeper" 464)]++(dG "plan_row" 41 161 4 468 212 p7 181 [(.str "keeper" 471),(.str "ways" 472),(.str "storms" 473),(.str "truths" 474),(.str "saying" 475)]++(dF "either_outcome" 42 166 3 479 219 p7 181++(dG "replaced" 44 176 2 487 224 p8 181 [(.str "rule" 490),(.str "sums" 491),(.str "whole" 492),(.str "beacon" 493),(.str "row" 494)]++(dF "ahead_of" 45 182 2 498 231 p8 181++(dG "places_to_none" 47 185 2 506 236 p9 181 [(.str "book" 509),(.str "full" 510),(.str "place" 511),(.str "rule" 512)]++(dF "places_to_beacon" 48 190 3 516 243 p9 181++(dF "some_of" 49 195 2 522 248 p9 181++(dG "facts_beside" 50 197 3 528 253 p9 181 [(.str "beacon" 531),(.str "storms" 532),(.str "first" 533)]++(dG "if_outcome" 51 199 3 537 260 p9 181 [(.str "book" 540),(.str "hands" 541),(.str "start" 542),(.str "keepers" 543),(.str "storms" 544),(.str "whole" 545),(.str "places" 546),(.str "first" 547),(.str "rows" 548),(.str "beacon" 549),(.str "full" 550)]++(dG "last_beacon" 53 216 1 556 267 p10 181 [(.str "pair" 559)]++(dF "storms_places" 54 218 3 563 274 p10 181++(dF "sum_rows" 55 223 2 569 279 p10 181++(dG "sum_outcome" 56 231 3 575 284 p10 181 [(.str "book" 578),(.str "hands" 579),(.str "start" 580),(.str "keepers" 581),(.str "storms" 582),(.str "answer" 583),(.str "places" 584)]++([tu [(.int (0) 590)],tu [],fl,tu [(.str "book" 594),(.str "hands" 595),(.str "start" 596)],tu [],oZ "outcome" 58,oC "outcome" 591 240 3 292 (.ref 294) (.ref 295) 296 181 597,⟨(.type "function"),none,(fn "outcome" "outcome" (Lw.top 58) (.ref 291) .none .none (.str "duskbook.outcomes" 588) none (.ref 297) .none 3 0),#[]⟩]++(dG "_law_cell" 60 249 2 602 299 p11 181 [(.str "script" 605),(.str "k" 606)]++(dG "_law_mixed" 61 253 2 610 306 p11 181 [(.str "cell" 613),(.str "by" 614)]))))))))))))))))))))))))
noncomputable def al2(P:Params):List Obj:=dF "_law_hands" 62 255 2 618 313 p11 181++(dF "_law_own" 63 258 3 624 318 p11 181++(dF "_law_rule" 64 260 4 630 323 p11 181++(dG "_law_hand" 65 280 3 636 328 p11 181 [(.str "book" 639),(.str "hands" 640),(.str "start" 641),(.str "found" 642)]++(dG "_law_handed" 66 285 3 646 335 p11 181 [(.str "hands" 649),(.str "beacon" 650),(.str "hand" 651)]++(dG "_law_kept" 67 287 6 655 342 p11 181 [(.str "kind" 658),(.str "rules" 659),(.str "hands" 660),(.str "start" 661),(.str "pick" 662),(.str "more" 663),(.str "hand" 664),(.str "beacon" 665),(.str "others" 666)]++(dF "law" 68 300 1 670 349 p11 181))))))
noncomputable def al(P:Params):List Obj:=al0 P++al1 P++al2 P
noncomputable def upd(l:List (Nat×Obj))(xs:List Obj):List Obj:=l.foldl (λxs p=>xs.set p.1 p.2) xs
noncomputable def ev:List Obj->List Obj
 | []=>[]
 | [x]=>[x]
 | x::_::r=>x::ev r
noncomputable def bt:Nat->List Obj->BT
 | 0,_=>.nil
 | _+1,[]=>.nil
 | n+1,x::xs=>.node x (bt n (ev xs)) (bt n (ev xs.tail))
noncomputable abbrev bd:List Stmt:=behindTheImports pg
noncomputable abbrev sl(i n:Nat):List Stmt:=(bd.drop i).take n
noncomputable abbrev env:Env:={ scope:=pg.main.scope,locals:=mainNs,globals:=mainNs,cells:=[],code:=(.ref 13),frame:=some 14 }
noncomputable abbrev cE:Code:=.body bd env
noncomputable abbrev B:List Frame:=[topFrame ⟨0,0,0,0⟩]
noncomputable abbrev ss(n:Nat)(l:Params->List (Nat×Obj))(t:Nat)(w:World)(os:OsState):SharedT:=⟨bt 12 (upd (l w.params) ((al w.params).take n)),n,{},.mk [],boot_drawn,t,os⟩
noncomputable def h0(P:Params):Heap:=⟨⟨upd [(3,boot_o_3 P),(12,fl)] ((al P).take 15)⟩,{}⟩
noncomputable abbrev s0(w:World)(os:OsState):Shared:=⟨h0 w.params,.mk [],boot_drawn,187,os⟩
noncomputable abbrev s1:World->OsState->SharedT:=ss 15 (λP=>[(3,boot_o_3 P),(12,fl)]) 187
noncomputable abbrev s2:World->OsState->SharedT:=ss 78 (λP=>[(3,ns P (en P "__name__" 165 (.str "duskbook.adding" 259)) 19 20),(12,ft 30)]) 286
noncomputable abbrev s3:World->OsState->SharedT:=ss 153 (λP=>[(3,ns P (en P "__name__" 165 (.str "duskbook.storming" 383)) 32 33),(12,ft 69)]) 385
noncomputable abbrev s4:World->OsState->SharedT:=ss 231 (λP=>[(3,ns P (en P "__name__" 165 (.str "duskbook.keeping" 485)) 44 45),(12,ft 105)]) 498
noncomputable abbrev s5:World->OsState->SharedT:=ss 306 (λP=>[(3,ns P (en P "__name__" 165 (.str "law_duskbook_k65_whole_less_to_break" 600)) 56 57),(12,ft 141)]) 610
noncomputable abbrev s6:World->OsState->SharedT:=ss 354 (λP=>[]) 676
noncomputable def h7(P:Params):Heap:=⟨⟨upd [] ((al P).take 354)⟩,{}⟩
noncomputable abbrev s7(w:World)(os:OsState):Shared:=⟨h7 w.params,.mk [],boot_drawn,676,os⟩
noncomputable abbrev sz(w:World)(os:OsState):Shared:=⟨boot_heap w.params,.mk [],boot_drawn,boot_toks,os⟩
def e0:∀w:World,(λos=>topGo treeTable pg w 11 (some (.ref 6)) 12 (sz w os) (topStub pg))=λos=>some (s0 w os,⟨denote treeTable cE,cE,⟨0,0,0,0⟩,B⟩):=by
 rw[W.Fast.te15667345088766844465,W.Fast.te14364793385576792824,W.Fast.te11892475500146522536];intro w;kernel_rfl
def e1:∀w:World,(λos=>segRun treeTable pg w 11 (some (.ref 6)) 1 1 (s0 w os) (blockOf bd env cE ⟨0,0,0,0⟩ B))=λos=>some (.next,(s1 w os).abs,cE,⟨0,0,0,0⟩):=by
 rw[W.Fast.te14374325043358763698,W.Fast.te14364793385576792824];intro w;kernel_rfl
def e2:∀w:World,(λos=>segRunT treeTable pg w 11 (some (.ref 6)) 1 397 (s1 w os) (piecesOf (sl 0 15) env cE ⟨0,0,0,0⟩ B))=λos=>some (.next,s2 w os,cE,⟨49,0,53,15⟩):=by
 rw[W.Fast.te10110043849684766642,W.Fast.te14364793385576792824];refine byRow2 "special-get-raises" ?_ ?_<;>(intro w;kernel_rfl)
def e3:∀w:World,(λos=>segRunT treeTable pg w 11 (some (.ref 6)) 1 391 (s2 w os) (piecesOf (sl 15 16) env cE ⟨49,0,53,15⟩ B))=λos=>some (.next,s3 w os,cE,⟨115,0,115,8⟩):=by
 rw[W.Fast.te10110043849684766642,W.Fast.te14364793385576792824];intro w;kernel_rfl
def e4:∀w:World,(λos=>segRunT treeTable pg w 11 (some (.ref 6)) 1 386 (s3 w os) (piecesOf (sl 31 14) env cE ⟨115,0,115,8⟩ B))=λos=>some (.next,s4 w os,cE,⟨176,0,181,16⟩):=by
 rw[W.Fast.te10110043849684766642,W.Fast.te14364793385576792824];intro w;kernel_rfl
def e5:∀w:World,(λos=>segRunT treeTable pg w 11 (some (.ref 6)) 1 396 (s4 w os) (piecesOf (sl 45 16) env cE ⟨176,0,181,16⟩ B))=λos=>some (.next,s5 w os,cE,⟨249,0,252,12⟩):=by
 rw[W.Fast.te10110043849684766642,W.Fast.te14364793385576792824];intro w;kernel_rfl
def e6:∀w:World,(λos=>segRunT treeTable pg w 11 (some (.ref 6)) 1 235 (s5 w os) (piecesOf (sl 61 8) env cE ⟨249,0,252,12⟩ B))=λos=>some (.next,s6 w os,cE,⟨300,0,313,15⟩):=by
 rw[W.Fast.te10110043849684766642,W.Fast.te14364793385576792824];intro w;kernel_rfl
def e7:∀w:World,(λos=>topRun treeTable pg w 11 (some (.ref 6)) 2 (s6 w os).abs ⟨doneF .next,cE,⟨300,0,313,15⟩,B⟩)=λos=>some (s7 w os):=by
 rw[W.Fast.te14082659384304107361,W.Fast.te14364793385576792824];intro w;kernel_rfl
noncomputable abbrev m7:Nat:=2
noncomputable abbrev t7:List Stmt:=[]
noncomputable abbrev R(w:World)(os:OsState)(m:Nat)(s:Shared)(t:List Stmt)(p:Pos):Prop:=topRun treeTable pg w 11 (some (.ref 6)) m s (restOf t env cE p B)=some (s7 w os)
def r7(w:World)(os:OsState):R w os m7 (s6 w os).abs t7 ⟨300,0,313,15⟩:=congrFun (e7 w) os
noncomputable abbrev m6:Nat:=235+m7
noncomputable abbrev t6:List Stmt:=sl 61 8++t7
def r6(w:World)(os:OsState):R w os m6 (s5 w os).abs t6 ⟨249,0,252,12⟩:=piece_app (segRun_of (congrFun (e6 w) os)) (r7 w os)
noncomputable abbrev m5:Nat:=396+m6
noncomputable abbrev t5:List Stmt:=sl 45 16++t6
def r5(w:World)(os:OsState):R w os m5 (s4 w os).abs t5 ⟨176,0,181,16⟩:=piece_app (segRun_of (congrFun (e5 w) os)) (r6 w os)
noncomputable abbrev m4:Nat:=386+m5
noncomputable abbrev t4:List Stmt:=sl 31 14++t5
def r4(w:World)(os:OsState):R w os m4 (s3 w os).abs t4 ⟨115,0,115,8⟩:=piece_app (segRun_of (congrFun (e4 w) os)) (r5 w os)
noncomputable abbrev m3:Nat:=391+m4
noncomputable abbrev t3:List Stmt:=sl 15 16++t4
def r3(w:World)(os:OsState):R w os m3 (s2 w os).abs t3 ⟨49,0,53,15⟩:=piece_app (segRun_of (congrFun (e3 w) os)) (r4 w os)
noncomputable abbrev m2:Nat:=397+m3
noncomputable abbrev t2:List Stmt:=sl 0 15++t3
def r2(w:World)(os:OsState):R w os m2 (s1 w os).abs t2 ⟨0,0,0,0⟩:=piece_app (segRun_of (congrFun (e2 w) os)) (r3 w os)
def tb:bd=t2:=by kernel_rfl
def run(w:World)(os:OsState):topRun treeTable pg w 11 (some (.ref 6)) (12+(1+m2)) (sz w os) (topStub pg)=some (s7 w os):=by
 have r:=r2 w os;unfold R at r;rw[<-congrArg (λx=>restOf x env cE ⟨0,0,0,0⟩ B) tb]at r;exact go_top (congrFun (e0 w) os) (piece_block (congrFun (e1 w) os) r)
theorem op:∀w:World,(fencedOpening treeTable pg w 3726).map (λs=>(s.heap,s.gens,s.drawn,s.toks))=some (boot_heap w.params,Array.mk [],boot_drawn,boot_toks):=
 boot_open (by kernel_rfl) (by decide) (λs=>by kernel_rfl)
def size:∀w:World,((boot_heap w.params).isNs mainGlobals&&(Array.mk []:Array GenState).size==0,(boot_heap w.params).objs.size,(boot_heap w.params).nsMap mainGlobals "__annotations__")=(true,11,(some (.ref 6))):=by
 rw[W.Fast.te8920871248978507458];intro w;kernel_rfl
noncomputable def K(P:Params):Frag:=(nat_lit 3,ns P (en P "__name__" 165 (.str "law_duskbook_k65_whole_less_to_break" 600)) 64 65)::(nat_lit 20,oC "contrary" 189 2 1 15 (.ref 17) (.ref 18) 19 181 193)::(nat_lit 21,oF "contrary" 1 p0 20)::(nat_lit 25,oC "led_to" 196 4 2 22 .none .none 24 181 199)::(nat_lit 26,oF "led_to" 2 p0 25)::(nat_lit 32,oC "traced" 202 12 2 27 (.ref 29) (.ref 30) 31 181 209)::(nat_lit 33,oF "traced" 3 p0 32)::(nat_lit 39,oC "ways_from" 212 19 2 34 (.ref 36) (.ref 37) 38 181 221)::(nat_lit 40,oF "ways_from" 4 p0 39)::(nat_lit 41,⟨(.type "dict"),none,(.dict #[en P "eithers" 226 (.str "eithers" 227),en P "sums" 228 (.str "sums" 229),en P "ifs" 230 (.str "nots" 231),en P "nots" 232 (.str "ifs" 233)] 4),#[]⟩)::(nat_lit 45,oC "exchanged_rule" 239 32 2 42 .none .none 44 181 242)::(nat_lit 46,oF "exchanged_rule" 7 p1 45)::(nat_lit 50,oC "exchanged" 245 38 1 47 .none .none 49 181 248)::(nat_lit 51,oF "exchanged" 8 p1 50)::(nat_lit 55,oC "beacons_with" 253 42 3 52 .none .none 54 181 256)::(nat_lit 56,oF "beacons_with" 10 p2 55)::(nat_lit 62,oC "both_added" 261 45 2 57 (.ref 59) (.ref 60) 61 181 266)::(nat_lit 63,oF "both_added" 12 p3 62)::(nat_lit 69,oC "pairs_added" 269 47 2 64 (.ref 66) (.ref 67) 68 181 274)::(nat_lit 70,oF "pairs_added" 13 p3 69)::(nat_lit 76,oC "cleared" 277 49 2 71 (.ref 73) (.ref 74) 75 181 283)::(nat_lit 77,oF "cleared" 14 p3 76)::(nat_lit 81,oC "reduced" 286 54 1 78 .none .none 80 181 289)::(nat_lit 82,oF "reduced" 15 p3 81)::(nat_lit 86,oC "either_holds" 294 66 2 83 .none .none 85 181 297)::(nat_lit 87,oF "either_holds" 17 p4 86)::(nat_lit 91,oC "sum_holds" 300 68 2 88 .none .none 90 181 303)::(nat_lit 92,oF "sum_holds" 18 p4 91)::(nat_lit 96,oC "if_holds" 306 71 3 93 .none .none 95 181 309)::(nat_lit 97,oF "if_holds" 19 p4 96)::(nat_lit 103,oC "rule_holds" 312 75 3 98 (.ref 100) (.ref 101) 102 181 318)::(nat_lit 104,oF "rule_holds" 20 p4 103)::(nat_lit 108,oC "beacons_in" 321 81 2 105 .none .none 107 181 324)::(nat_lit 109,oF "beacons_in" 21 p4 108)::(nat_lit 115,oC "is_void" 327 87 2 110 (.ref 112) (.ref 113) 114 181 332)::(nat_lit 116,oF "is_void" 22 p4 115)::(nat_lit 120,oC "without" 335 89 2 117 .none .none 119 181 338)::(nat_lit 121,oF "without" 23 p4 120)::(nat_lit 127,oC "is_place" 343 92 2 122 (.ref 124) (.ref 125) 126 181 348)::(nat_lit 128,oF "is_place" 25 p5 127)::(nat_lit 132,oC "body_is_known" 351 94 2 129 .none .none 131 181 354)::(nat_lit 133,oF "body_is_known" 26 p5 132)::(nat_lit 139,oC "is_step" 357 96 3 134 (.ref 136) (.ref 137) 138 181 364)::(nat_lit 140,oF "is_step" 27 p5 139)::(nat_lit 146,oC "step_to_more" 367 101 2 141 (.ref 143) (.ref 144) 145 181 374)::(nat_lit 147,oF "step_to_more" 28 p5 146)::(nat_lit 151,oC "derived_in_full" 377 106 2 148 .none .none 150 181 380)::(nat_lit 152,oF "derived_in_full" 29 p5 151)::(nat_lit 156,oC "is_broken" 385 116 1 153 .none .none 155 181 388)::(nat_lit 157,oF "is_broken" 31 p6 156)::(nat_lit 163,oC "sayings_of" 393 119 1 158 (.ref 160) (.ref 161) 162 181 399)::(nat_lit 164,oF "sayings_of" 33 p7 163)::(nat_lit 170,oC "lead_to_one_another" 402 124 3 165 (.ref 167) (.ref 168) 169 181 408)::(nat_lit 171,oF "lead_to_one_another" 34 p7 170)::(nat_lit 177,oC "clash_found" 411 126 1 172 (.ref 174) (.ref 175) 176 181 417)::(nat_lit 178,oF "clash_found" 35 p7 177)::(nat_lit 184,oC "cross_found" 420 132 2 179 (.ref 181) (.ref 182) 183 181 427)::(nat_lit 185,oF "cross_found" 36 p7 184)::(nat_lit 191,oC "late_found" 430 138 3 186 (.ref 188) (.ref 189) 190 181 438)::(nat_lit 192,oF "late_found" 37 p7 191)::(nat_lit 196,oC "storms_paper" 441 144 4 193 .none .none 195 181 444)::(nat_lit 197,oF "storms_paper" 38 p7 196)::(nat_lit 203,oC "free_saying" 447 150 2 198 (.ref 200) (.ref 201) 202 181 453)::(nat_lit 204,oF "free_saying" 39 p7 203)::(nat_lit 210,oC "truths_made" 456 153 3 205 (.ref 207) (.ref 208) 209 181 465)::(nat_lit 211,oF "truths_made" 40 p7 210)::(nat_lit 217,oC "plan_row" 468 161 4 212 (.ref 214) (.ref 215) 216 181 476)::(nat_lit 218,oF "plan_row" 41 p7 217)::(nat_lit 222,oC "either_outcome" 479 166 3 219 .none .none 221 181 482)::(nat_lit 223,oF "either_outcome" 42 p7 222)::(nat_lit 229,oC "replaced" 487 176 2 224 (.ref 226) (.ref 227) 228 181 495)::(nat_lit 230,oF "replaced" 44 p8 229)::(nat_lit 234,oC "ahead_of" 498 182 2 231 .none .none 233 181 501)::(nat_lit 235,oF "ahead_of" 45 p8 234)::(nat_lit 241,oC "places_to_none" 506 185 2 236 (.ref 238) (.ref 239) 240 181 513)::(nat_lit 242,oF "places_to_none" 47 p9 241)::(nat_lit 246,oC "places_to_beacon" 516 190 3 243 .none .none 245 181 519)::(nat_lit 247,oF "places_to_beacon" 48 p9 246)::(nat_lit 251,oC "some_of" 522 195 2 248 .none .none 250 181 525)::(nat_lit 252,oF "some_of" 49 p9 251)::(nat_lit 258,oC "facts_beside" 528 197 3 253 (.ref 255) (.ref 256) 257 181 534)::(nat_lit 259,oF "facts_beside" 50 p9 258)::(nat_lit 265,oC "if_outcome" 537 199 3 260 (.ref 262) (.ref 263) 264 181 551)::(nat_lit 266,oF "if_outcome" 51 p9 265)::(nat_lit 272,oC "last_beacon" 556 216 1 267 (.ref 269) (.ref 270) 271 181 560)::(nat_lit 273,oF "last_beacon" 53 p10 272)::(nat_lit 277,oC "storms_places" 563 218 3 274 .none .none 276 181 566)::(nat_lit 278,oF "storms_places" 54 p10 277)::(nat_lit 282,oC "sum_rows" 569 223 2 279 .none .none 281 181 572)::(nat_lit 283,oF "sum_rows" 55 p10 282)::(nat_lit 289,oC "sum_outcome" 575 231 3 284 (.ref 286) (.ref 287) 288 181 585)::(nat_lit 290,oF "sum_outcome" 56 p10 289)::(nat_lit 291,tu [(.int (0) 590)])::(nat_lit 297,oC "outcome" 591 240 3 292 (.ref 294) (.ref 295) 296 181 597)::(nat_lit 298,⟨(.type "function"),none,(fn "outcome" "outcome" (Lw.top 58) (.ref 291) .none .none (.str "duskbook.outcomes" 588) none (.ref 297) .none 3 0),#[]⟩)::(nat_lit 304,oC "_law_cell" 602 249 2 299 (.ref 301) (.ref 302) 303 181 607)::(nat_lit 305,oF "_law_cell" 60 p11 304)::(nat_lit 311,oC "_law_mixed" 610 253 2 306 (.ref 308) (.ref 309) 310 181 615)::(nat_lit 312,oF "_law_mixed" 61 p11 311)::(nat_lit 316,oC "_law_hands" 618 255 2 313 .none .none 315 181 621)::(nat_lit 317,oF "_law_hands" 62 p11 316)::(nat_lit 326,oC "_law_rule" 630 260 4 323 .none .none 325 181 633)::(nat_lit 327,oF "_law_rule" 64 p11 326)::(nat_lit 333,oC "_law_hand" 636 280 3 328 (.ref 330) (.ref 331) 332 181 643)::(nat_lit 334,oF "_law_hand" 65 p11 333)::(nat_lit 340,oC "_law_handed" 646 285 3 335 (.ref 337) (.ref 338) 339 181 652)::(nat_lit 341,oF "_law_handed" 66 p11 340)::(nat_lit 347,oC "_law_kept" 655 287 6 342 (.ref 344) (.ref 345) 346 181 667)::(nat_lit 348,oF "_law_kept" 67 p11 347)::(nat_lit 352,oC "law" 670 300 1 349 .none .none 351 181 673)::(nat_lit 353,oF "law" 68 p11 352)::[]
noncomputable def hk:Hook:=kHook K (3::20::21::25::26::32::33::39::40::41::45::46::50::51::55::56::62::63::69::70::76::77::81::82::86::87::91::92::96::97::103::104::108::109::115::116::120::121::127::128::132::133::139::140::146::147::151::152::156::157::163::164::170::171::177::178::184::185::191::192::196::197::203::204::210::211::217::218::222::223::229::230::234::235::241::242::246::247::251::252::258::259::265::266::272::273::277::278::282::283::289::290::291::297::298::304::305::311::312::316::317::326::327::333::334::340::341::347::348::352::353::[]) (λ_=>by kernel_rfl)
noncomputable def Q:Program:={ pg with main:={ pg.main with body:=[Lw.top 68] } }
noncomputable def ls:AL:=(["contrary","led_to","traced","ways_from","EXCHANGED_KINDS","exchanged_rule","exchanged","beacons_with","both_added","pairs_added","cleared","reduced","either_holds","sum_holds","if_holds","rule_holds","beacons_in","is_void","without","is_place","body_is_known","is_step","step_to_more","derived_in_full","is_broken","sayings_of","lead_to_one_another","clash_found","cross_found","late_found","storms_paper","free_saying","truths_made","plan_row","either_outcome","replaced","ahead_of","places_to_none","places_to_beacon","some_of","facts_beside","if_outcome","last_beacon","storms_places","sum_rows","sum_outcome","outcome","_law_cell","_law_mixed","_law_hands"]++["_law_own","_law_rule","_law_hand","_law_handed","_law_kept"]).map Str.ofString
noncomputable abbrev Xt(s:Shared):Bool:=xlAt Q [] s&&recOk (RowW.records (OpenRow.toRowW PySem.Challenge.rw_duskbook_k65_whole_less_to_break.row)) s
def Yagk:∀w:World,(λos=>((staticsOk (importedModules pg.main.body) (boot_heap w.params) (h7 w.params)&&namesBound pg (h7 w.params)&&gensDone (s7 w os)&&laidKept (boot_heap w.params) (h7 w.params)),openSeen Q ls (importedModules pg.main.body) Xt true (s7 w os),Hook.obs hk (s7 w os)))=λ_=>(true,openGood Q ls,Hook.val hk w):=by
 rw[W.Fast.te5923862056798008813,W.Fast.te4187177175401517315];intro w;kernel_rfl
theorem left:LeftO pg Q ls Xt (Hook.obs hk) (Hook.val hk) 3726:=LeftO.of_pieces (H₁:=h7) (M:=12+(1+m2)) op size run (by decide) Yagk
end Op
noncomputable def PySem.W.Fast.tw13637056105887789883:PySem.Program:=PySem.Challenge.pw_duskbook_k65_whole_less_to_break
theorem PySem.W.Fast.te13637056105887789883:PySem.Challenge.pw_duskbook_k65_whole_less_to_break=PySem.W.Fast.tw13637056105887789883:=rfl
open PySem PySem.W PyProof.Rows
set_option maxRecDepth 100000 in
theorem PySem.Challenge.cw_duskbook_k65_whole_less_to_break_holds : PySem.Challenge.rw_duskbook_k65_whole_less_to_break.Holds := by
 w_on;o_law
 refine holds_open (q:=Op.Q) (loose:=Op.ls) (Xt:=Op.Xt) (XP:=XL Op.Q []) (Yf:=Hook.obs Op.hk) (Ya:=Hook.val Op.hk) (YP:=InK Op.K) (N:=3726) Op.left (Hook.of Op.hk) (Hook.keeps Op.hk) (λs e=>xl_of s (Bool.and_eq_true_iff.mp e).1) XL.keeps (by rfl) (by rfl) (by rfl) (λs e=>recFacts_of (Bool.and_eq_true_iff.mp e).2) (by rfl) (by assumption) (by decide +kernel) ⟨rfl,rfl,rfl,rfl,rfl,by decide +kernel⟩ ?hw ?hc
 (case hw=>w_witness2)
 k_fill
 refine Lw.walk Lw.law_true (l:=PySem.Challenge.rw_duskbook_k65_whole_less_to_break) rfl rfl (K:=Op.K) (λw h Y=>Y) ?F
 case F=>
  intro w mg fa h KX G hmg;refine' Lw.all_mk KX G hmg ?_ ?_ ?_ ?_ ?_ ?_ ?_ ?_ ?_ ?_ ?_ ?_ ?_ ?_ ?_ ?_ ?_ ?_ ?_ ?_ ?_ ?_ ?_ ?_ ?_ ?_ ?_ ?_ ?_ ?_ ?_ ?_ ?_ ?_ ?_ ?_ ?_ ?_ ?_ ?_ ?_ ?_ ?_ ?_ ?_ ?_ ?_ ?_ ?_ ?_ ?_ ?_ ?_ ?_ ?_ ?_ ?_ ?_ ?_ ?_ ?_ ?_ ?_ ?_ ?_ ?_ ?_ ?_ ?_ ?_ ?_ ?_
  all_goals (try (first|(refine' Lw.fkd_mk ?a ?l ?c ?k ?t;(case a=>k_is);(case l=>k_is);(case c=>k_is);(case k=>k_is);(case t=>k_is))|(refine' Lw.fk_mk ?a ?l ?c ?k;(case a=>k_is);(case l=>k_is);(case c=>k_is);(case k=>k_is))|k_is))
