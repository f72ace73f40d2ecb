import PyProof.Rows.All
import Wide.All
import OpenK.AllK
import Wide.FinOn
import Lean
import PyProof.EqAt
import PyProof.EqKinds
import PyProof.TupleCall
import PySem.Challenge.RW_duskbook_k40_taken_back
set_option Elab.async false
set_option linter.all false
set_option maxRecDepth 100000
abbrev fsc(l:List (PySem.Str × PySem.NameKind)):PySem.Scope:={ kind:=.function,names:=l,isGenerator:=false,isCoroutine:=false,more:=[] }
theorem qa{α β:Type _}{o:Option α}{f:α->Option β}{b:β}(h:o.bind f=some b):∃a,o=some a/\f a=some b:=Option.bind_eq_some_iff.mp h
theorem qb{α β:Type _}{o:Option α}{f:α->β}{b:β}(h:o.map f=some b):∃a,o=some a/\f a=b:=Option.map_eq_some_iff.mp h
def qc:=@Option.bind_some
def qd:=@PySem.Heap.get?_push_of_some
def qe:=@List.length_map
def qf:=@List.mem_cons_of_mem
def qg:=@List.mem_cons_self
def qh:=@Bool.false_ne_true
def qi:=@Array.length_toList
def qj:=@List.size_toArray
def qk:=@PySem.Heap.lt_size
def ql:=@Nat.ne_of_lt
theorem qm{α:Type _}{l:List α}{i:Nat}{a:α}(h:l[i]?=some a):∃h:i < l.length,l[i]=a:=List.getElem?_eq_some_iff.mp h
def qo:=@PySem.Heap.get?_push_size
def qp:=@List.getElem?_eq_getElem
def qq:=@List.length_cons
theorem qr{α:Type _}{a b:α}{l:List α}(h:a∈b::l):a=b\/a∈l:=List.mem_cons.mp h
def qs:=@Nat.le_refl
theorem qt{α:Type _}{a:α}{s t:List α}(h:a∈s++t):a∈s\/a∈t:=List.mem_append.mp h
def qu:=@Nat.lt_succ_of_lt
theorem qv{α β:Type _}{b:β}{f:α->β}{l:List α}(h:b∈l.map f):∃a,a∈l/\f a=b:=List.mem_map.mp h
def qw:=@List.length_append
def qx:=@Nat.lt_succ_self
def qy:=@Nat.le_trans
def qz:=@List.map_cons
def Qa:=@List.getElem?_set_ne
def Qb:=@Nat.zero_le
def Qc:=@Nat.lt_of_lt_of_le
def Qd:=@List.getElem?_map
def Qe:=@Nat.lt_irrefl
def Qf:=@List.lookup_cons
def Qg:=@Bool.and_eq_true
def Qh:=@List.mem_of_getElem?
def Qi:=@List.mem_append_right
set_option maxHeartbeats 4000000
noncomputable section
namespace L2
open PySem PySem.Spec PyProof.Rows
abbrev Key:=Sum Int Str
def Yww:Key->Value->Bool
 | .inl k,v=>Value.isInt k v
 | .inr x,v=>Value.isStrOf x v
def keyH(w:World):Key->Int
 | .inl k=>hashInt k
 | .inr x=>hashStr w x
theorem Yan:∀{k:Key} {v:Value},Yww k v=true->(∃i t,k=Sum.inl i/\v=Value.int i t)\/(∃x t,k=Sum.inr x/\v=Value.str x t)
 | .inl i,v,h=>by
   obtain⟨t,e⟩:=Value.isInt_shape (k:=i) (v:=v) h
   exact .inl ⟨i,t,rfl,e⟩
 | .inr x,v,h=>by
   obtain⟨t,e⟩:=Value.isStrOf_shape (x:=x) (v:=v) h
   exact .inr ⟨x,t,rfl,e⟩
theorem Ywx(a b:Int):decide ((Sum.inl a:Key)=Sum.inl b)=(a==b):=by
 by_cases e:a=b
 ·subst e;simp
 ·have h:¬(Sum.inl a:Key)=Sum.inl b:=fun q=>e (Sum.inl.inj q)
  rw[decide_eq_false h]
  exact(beq_eq_false_iff_ne.mpr e).symm
theorem Ywy(a b:Str):decide ((Sum.inr a:Key)=Sum.inr b)=decide (a=b):=by
 by_cases e:a=b
 ·subst e;simp
 ·have h:¬(Sum.inr a:Key)=Sum.inr b:=fun q=>e (Sum.inr.inj q)
  rw[decide_eq_false h,decide_eq_false e]
theorem Ywz(a:Int)(b:Str):decide ((Sum.inl a:Key)=Sum.inr b)=false:=decide_eq_false (fun q=>nomatch q)
theorem Yw0(a:Str)(b:Int):decide ((Sum.inr a:Key)=Sum.inl b)=false:=decide_eq_false (fun q=>nomatch q)
def Ylo(prog:Program)(w:World):KeyKind prog w Key where
 is:=Yww
 hash:=keyH w
 inj:=fun v a b ha hb=>by
  rcases Yan ha with⟨i,t,rfl,rfl⟩ | ⟨x,t,rfl,rfl⟩
  ·rcases Yan hb with⟨j,u,rfl,e⟩ | ⟨y,u,rfl,e⟩
   ·injection e with e1 _;rw[e1]
   ·exact nomatch e
  ·rcases Yan hb with⟨j,u,rfl,e⟩ | ⟨y,u,rfl,e⟩
   ·exact nomatch e
   ·injection e with e1 _;rw[e1]
 byValue:=fun k v h=>by
  rcases Yan h with⟨i,t,rfl,rfl⟩ | ⟨x,t,rfl,rfl⟩<;>rfl
 pyHash:=fun hv h=>by
  rcases Yan hv with⟨i,t,rfl,rfl⟩ | ⟨x,t,rfl,rfl⟩
  ·exact wpAny_pyHash_int h
  ·exact wpAny_pyHash_str h
 eqBool:=fun hu hv h=>by
  rcases Yan hu with⟨i,t,rfl,rfl⟩ | ⟨x,t,rfl,rfl⟩
  ·rcases Yan hv with⟨j,u,rfl,rfl⟩ | ⟨y,u,rfl,rfl⟩
   ·rw[Ywx]at h;exact wpAny_eqBool_int h
   ·rw[Ywz]at h;exact SeqAt.EqAt.int_str i t y u _ _ _ _ h
  ·rcases Yan hv with⟨j,u,rfl,rfl⟩ | ⟨y,u,rfl,rfl⟩
   ·rw[Yw0]at h;exact SeqAt.EqAt.str_int x t j u _ _ _ _ h
   ·rw[Ywy]at h;exact wpAny_eqBool_str h
 «strs»:=fun k x t v h=>by
  rcases Yan h with⟨i,u,rfl,e⟩ | ⟨y,u,rfl,e⟩
  ·exact nomatch e
  ·injection e with e1 _
   subst e1
   cases v<;>rfl
end L2
namespace L2
open PySem PySem.Spec PyProof.Rows
inductive V where
 | non | bl (b:Bool) | int (i:Int) | str (x:Str) | byt (b:Array UInt8) | flt (b:UInt64) | ref (a:Addr) | ty (n:String)
 deriving DecidableEq
def RelV:V->Value->Prop
 | .non,u=>u=Value.none
 | .bl b,u=>u=Value.bool b
 | .int i,u=>∃t,u=Value.int i t
 | .str x,u=>∃t,u=Value.str x t
 | .byt b,u=>∃t,u=Value.bytes b t
 | .flt b,u=>∃t,u=Value.float b t
 | .ref a,u=>u=Value.ref a
 | .ty n,u=>u=Value.type n
abbrev Vals:List V->List Value->Prop:=Paired RelV
theorem Vals.length{xs:List V}{us:List Value}(r:Vals xs us):xs.length=us.length:=Paired.length r
theorem Vals.get:∀{xs:List V} {us:List Value} {i:Nat} {x:V},Vals xs us->xs[i]?=some x->∃u,us[i]?=some u/\RelV x u
 | _,_,_,_,.nil,e=>by simp at e
 | _,_,0,_,.cons r _,e=>by simp at e;subst e;exact⟨_,rfl,r⟩
 | _,_,i+1,x,.cons _ t,e=>by
   obtain⟨u,h1,h2⟩:=Vals.get (i:=i) (x:=x) t (by simpa using e)
   exact⟨u,by simpa using h1,h2⟩
theorem Vals.set{x:V}{u:Value}(r:RelV x u):∀{xs:List V} {us:List Value} (i:Nat),Vals xs us->Vals (xs.set i x) (us.set i u)
 | _,_,_,.nil=>.nil
 | _,_,0,.cons _ t=>.cons r t
 | _,_,i+1,.cons q t=>.cons q (Vals.set r i t)
theorem Vals.append:∀{xs ys:List V} {us ws:List Value},Vals xs us->Vals ys ws->Vals (xs++ys) (us++ws)
 | _,_,_,_,.nil,s=>s
 | _,_,_,_,.cons r t,s=>.cons r (Vals.append t s)
theorem Vals.take:∀{xs:List V} {us:List Value} (n:Nat),Vals xs us->Vals (xs.take n) (us.take n)
 | _,_,0,_=>.nil
 | _,_,_+1,.nil=>.nil
 | _,_,n+1,.cons r t=>.cons r (Vals.take n t)
theorem Vals.drop:∀{xs:List V} {us:List Value} (n:Nat),Vals xs us->Vals (xs.drop n) (us.drop n)
 | _,_,0,r=>r
 | _,_,_+1,.nil=>.nil
 | _,_,n+1,.cons _ t=>Vals.drop n t
def RelO:Option V->Option Value->Prop
 | some v,some u=>RelV v u
 | none,none=>True
 | _,_=>False
def KV{κ:Type}:List (κ × V)->List (κ × Value)->Prop:=Paired fun(p:κ × V) (q:κ × Value)=>p.1=q.1/\RelV p.2 q.2
def kV:Key->V
 | .inl i=>.int i
 | .inr x=>.str x
inductive HO where
 | lst (xs:List V)
 | tup (xs:List V)
 | dK (kvs:List (Key × V)) | dT (kvs:List (List Key × V))
 | set (S:Int->Bool) (n:Nat)
 | ins (C dx:Addr) (fs:List (Str × V))
 | own (x:Addr)
 | xd (fs:List (Str × V))
 | met (f x:Addr)
 | rng (lo hi:Int)
 | frz (o:Obj) (u:HO)
 | tbl (ps:Array Value)
 | ext (φ:Heap->Prop)
abbrev Hp:=Addr->Option HO
def upd(H:Hp)(a:Addr)(o:HO):Hp:=fun b=>if b=a then some o else H b
theorem Yo{H:Hp}{a:Addr}{o:HO}:upd H a o a=some o:=by unfold upd;rw[if_pos rfl]
theorem Yh{H:Hp}{a b:Addr}{o:HO}(h:b≠a):upd H a o b=H b:=by unfold upd;rw[if_neg h]
theorem Yw{H:Hp}{a b:Addr}{o:HO}(h:H a=some o)(h':H b=none):a≠b:=by
 intro e;subst e;rw[h]at h';cases h'
section
variable (P:Program) (w:World)
def ObjOk(H:Hp)(h:Heap)(a:Addr):HO->Prop
 | .lst xs=>xs.length<=sizeLine/\∃(its:List Value) (n:Nat),Vals xs its/\h.get? a=some { cls:=.type "list",data:=.seq its.toArray n }
 | .tup xs=>xs.length<=sizeLine/\∃its:List Value,Vals xs its/\IsTup h a its.toArray
 | .dK kvs=>kvs.length<=sizeLine/\(a==sysModules)=false/\∃vs,KV kvs vs/\h.DictOf (Ylo P w) a vs
 | .dT kvs=>kvs.length<=sizeLine/\(a==sysModules)=false/\∃xs:List (List Key × Addr × Value),
  Paired (fun(p:List Key × V) (q:List Key × Addr × Value)=>p.1=q.1/\H q.2.1=some (.tup (p.1.map kV))/\RelV p.2 q.2.2) kvs xs/\
  ∃o es ep,h.get? a=some o/\o.ExactDict/\o.data=.dict es ep/\es.toList=xs.map (entryOfKey (tupleKind (Ylo P w)))/\(xs.map (·.1)).Nodup
 | .set S n=>h.SetOf (intKind P w) a S n
 | .ins C dx fs=>H dx=some (.own a)/\fs.length<=1000/\dx≠a/\h.get? a=some (W.instObj C dx)/\
  ∃mA,h.Ns1 dx mA/\(∀f,RelO (fs.lookup f) (mA f))/\PySem.Within mA (fs.map (·.1))
 | .own _=>∃o,h.get? a=some o
 | .xd fs=>∃mA,h.Ns1 a mA/\∀f,RelO (fs.lookup f) (mA f)
 | .rng lo hi=>∃t u v,h.get? a=some { cls:=.type "range",data:=.fields #[.int lo t,.int hi u,.int 1 v] }
 | .frz o u=>h.get? a=some o/\ObjOk H h a u
 | .tbl ps=>h.get? a=some { cls:=.none,data:=.fields ps }
 | .met f x=>h.get? a=some (W.methodObj (.ref f) (.ref x))
 | .ext φ=>φ h/\(∃o,h.get? a=some o)/\∀h1 h2:Heap,φ h1->(∀o,h1.get? a=some o->h2.get? a=some o)->φ h2
def HOk(H:Hp)(h:Heap):Prop:=∀a o,H a=some o->ObjOk P w H h a o
end
section
variable {P:Program} {w:World} {H H':Hp} {h h':Heap} {a:Addr} {o:HO}
theorem ObjOk.lt(x:ObjOk P w H h a o):a < h.objs.size:=by
 cases o with
 | lst xs=>obtain⟨_,_,_,_,e⟩:=x;exact qk e
 | tup xs=>obtain⟨_,_,_,p⟩:=x;exact p.lt
 | dK kvs=>obtain⟨_,_,_,_,o,_,_,e,_⟩:=x;exact qk e
 | dT kvs=>obtain⟨_,_,_,_,o,_,_,e,_⟩:=x;exact qk e
 | set S n=>obtain⟨o,_,_,_,e,_⟩:=x;exact qk e
 | ins C dx fs=>obtain⟨_,_,_,e,_⟩:=x;exact qk e
 | own y=>obtain⟨_,e⟩:=x;exact qk e
 | xd fs=>obtain⟨_,⟨_,_,_,e,_⟩,_⟩:=x;exact qk e
 | rng lo hi=>obtain⟨_,_,_,e⟩:=x;exact qk e
 | frz ob u=>obtain⟨e,_⟩:=x;exact qk e
 | tbl ps=>exact qk (show h.get? a=some _ from x)
 | met f y=>exact qk (show h.get? a=some _ from x)
 | ext φ=>obtain⟨_,⟨_,e⟩,_⟩:=x;exact qk e
theorem Paired.mapP{α β:Type}{F G:α->β->Prop}:∀{l₁:List α} {l₂:List β},Paired F l₁ l₂->(∀a b,F a b->G a b)->Paired G l₁ l₂
 | _,_,.nil,_=>.nil
 | _,_,.cons r t,f=>.cons (f _ _ r) (Paired.mapP t f)
theorem ObjOk.stay(x:ObjOk P w H h a o)(k:∀b u,(b=a\/H b=some (.own a))->h.get? b=some u->h'.get? b=some u)
 (ho:∀b,H b=some (.own a)->H' b=some (.own a)) (ht:∀b xs,H b=some (.tup xs)->H' b=some (.tup xs)):ObjOk P w H' h' a o:=by
 induction o with
 | lst xs=>obtain⟨z,its,n,r,e⟩:=x;exact⟨z,its,n,r,k _ _ (.inl rfl) e⟩
 | tup xs=>obtain⟨z,its,r,ob,e,c⟩:=x;exact⟨z,its,r,ob,k _ _ (.inl rfl) e,c⟩
 | dK kvs=>obtain⟨z,y,vs,r,ob,es,ep,e,c⟩:=x;exact⟨z,y,vs,r,ob,es,ep,k _ _ (.inl rfl) e,c⟩
 | dT kvs=>
   obtain⟨z,y,xs,r,ob,es,ep,e,c⟩:=x
   exact⟨z,y,xs,Paired.mapP r fun p q z=>⟨z.1,ht _ _ z.2.1,z.2.2⟩,ob,es,ep,k _ _ (.inl rfl) e,c⟩
 | set S n=>obtain⟨ob,es,ep,t,e,c⟩:=x;exact⟨ob,es,ep,t,k _ _ (.inl rfl) e,c⟩
 | ins C dx fs=>
   obtain⟨d,z,ne,e,mA,⟨od,es,ep,e2,c⟩,r⟩:=x
   exact⟨ho _ d,z,ne,k _ _ (.inl rfl) e,mA,⟨od,es,ep,k _ _ (.inr d) e2,c⟩,r⟩
 | own y=>obtain⟨ob,e⟩:=x;exact⟨ob,k _ _ (.inl rfl) e⟩
 | xd fs=>obtain⟨mA,⟨od,es,ep,e,c⟩,r⟩:=x;exact⟨mA,⟨od,es,ep,k _ _ (.inl rfl) e,c⟩,r⟩
 | rng lo hi=>obtain⟨t,u,v,e⟩:=x;exact⟨t,u,v,k _ _ (.inl rfl) e⟩
 | frz ob u ih=>obtain⟨e,q⟩:=x;exact⟨k _ _ (.inl rfl) e,ih q⟩
 | tbl ps=>
   have e:h.get? a=some { cls:=.none,data:=.fields ps }:=x
   show h'.get? a=some { cls:=.none,data:=.fields ps }
   exact k a _ (.inl rfl) e
 | met f y=>
   have e:h.get? a=some (W.methodObj (.ref f) (.ref y)):=x
   show h'.get? a=some (W.methodObj (.ref f) (.ref y))
   exact k a _ (.inl rfl) e
 | ext φ=>obtain⟨p,⟨o,e⟩,st⟩:=x;exact⟨st _ _ p fun o q=>k _ _ (.inl rfl) q,⟨o,k _ _ (.inl rfl) e⟩,st⟩
theorem HOk.lt(x:HOk P w H h)(e:H a=some o):a < h.objs.size:=(x a o e).lt
theorem HOk.fresh(x:HOk P w H h)(e:h.objs.size<=a):H a=none:=by
 cases q:H a with
 | none=>rfl
 | some u=>exact absurd (Qc (x.lt q) e) (Qe _)
theorem HOk.kept(x:HOk P w H h)(k:∀b u,h.get? b=some u->h'.get? b=some u):HOk P w H h':=fun a o e=>
 (x a o e).stay (fun b u _ q=>k b u q) (fun _ q=>q) fun _ _ q=>q
theorem HOk.laid(x:HOk P w H h)(k:∀b u,h.get? b=some u->h'.get? b=some u)(hp:h.objs.size<=a)(new:ObjOk P w (upd H a o) h' a o):HOk P w (upd H a o) h':=fun b u e=>by
 have hn:=x.fresh hp
 by_cases hb:b=a
 ·subst hb;rw[Yo]at e;cases e;exact new
 ·rw[Yh hb]at e
  exact(x b u e).stay (fun c v _ q=>k c v q) (fun c q=>by rw[Yh (Yw q hn)];exact q) fun c xs q=>by rw[Yh (Yw q hn)];exact q
end
def Rd(H:Hp)(a:Addr)(u:HO):Prop:=H a=some u\/∃o,H a=some (.frz o u)
theorem Rd.ok{P:Program}{w:World}{H:Hp}{h:Heap}{a:Addr}{u:HO}(r:Rd H a u)(x:HOk P w H h):ObjOk P w H h a u:=by
 rcases r with r | ⟨o,r⟩
 ·exact x a u r
 ·obtain⟨_,q⟩:=x a _ r
  exact q
def Mut:Option HO->Prop
 | some (.lst _)=>True
 | some (.dK _)=>True
 | some (.dT _)=>True
 | some (.set _ _)=>True
 | some (.ins _ _ _)=>True
 | some (.ext _)=>True
 | _=>False
section
variable {P:Program} {w:World} {H:Hp} {h h':Heap} {x e:Addr} {o':HO}
theorem HOk.write(ok:HOk P w H h)(mu:Mut (H x))(he:e=x\/H e=some (.own x))(k:∀b u,b≠e->h.get? b=some u->h'.get? b=some u)(heo:∃u,h'.get? e=some u)
 (new:ObjOk P w (upd H x o') h' x o'):HOk P w (upd H x o') h':=fun b u q=>by
 have nown:∀c y,H c=some (.own y)->c≠x:=fun c y r z=>by subst z;rw[r]at mu;exact mu
 have ntup:∀c xs,H c=some (.tup xs)->c≠x:=fun c xs r z=>by subst z;rw[r]at mu;exact mu
 by_cases hb:b=x
 ·subst hb;rw[Yo]at q;cases q;exact new
 ·rw[Yh hb]at q
  by_cases hbe:b=e
  ·have q':H b=some (.own x):=by
    rcases he with z | z
    ·exact absurd (hbe.trans z) hb
    ·rw[hbe];exact z
   rw[q]at q';cases q'
   obtain⟨v,hv⟩:=heo
   exact⟨v,by rw[hbe];exact hv⟩
  ·refine(ok b u q).stay (fun c v hc r=>k c v ?_ r) (fun c r=>by rw[Yh (nown c b r)];exact r) fun c xs r=>by rw[Yh (ntup c xs r)];exact r
   rcases hc with rfl | hc
   ·exact hbe
   ·rintro rfl
    rcases he with z | z
    ·exact nown c b hc z
    ·rw[hc]at z;cases z;exact hb rfl
end
structure Un(fs ex:List Addr)(H H':Hp)(h h':Heap):Prop where
 keep:∀b o,h.get? b=some o->H b=none->b∉fs->b∉ex->h'.get? b=some o
 slot:∀b o,h.get? b=some o->H b=none->b∈fs->b∉ex->∃sl,h'.get? b=some { o with slots:=sl }
 free:∀b o,h.get? b=some o->H b=none->b∉ex->H' b=none
 there:∀b o,h.get? b=some o->b∉ex->∃o',h'.get? b=some o'
 tups:∀b xs,H b=some (.tup xs)->H' b=some (.tup xs)
 frzs:∀b o u,H b=some (.frz o u)->H' b=some (.frz o u)
 tbls:∀b ps,H b=some (.tbl ps)->∃more,H' b=some (.tbl (ps++more))
section
variable {fs fs' ex ex':List Addr} {H H1 H2:Hp} {h h1 h2 h':Heap} {a x e:Addr} {o:HO}
theorem Un.any(u:Un fs ex H H1 h h1){b:Addr}{ob:Obj}(q:h.get? b=some ob)(n:H b=none)(hx:b∉ex):∃sl,h1.get? b=some { ob with slots:=sl }:=by
 by_cases hb:b∈fs
 ·exact u.slot b ob q n hb hx
 ·exact⟨ob.slots,u.keep b ob q n hb hx⟩
theorem Un.kept(k:∀b u,h.get? b=some u->h'.get? b=some u):Un fs ex H H h h':=
 ⟨fun b ob q _ _ _=>k b ob q,fun b ob q _ _ _=>⟨ob.slots,k b ob q⟩,fun _ _ _ n _=>n,fun b ob q _=>⟨ob,k b ob q⟩,fun _ _ q=>q,fun _ _ _ q=>q,fun _ ps q=>⟨#[],by rw[q];simp⟩⟩
theorem Un.refl:Un fs ex H H h h:=Un.kept fun _ _ q=>q
theorem Un.laid(k:∀b u,h.get? b=some u->h'.get? b=some u)(hp:h.objs.size<=a)(hn:H a=none):Un fs ex H (upd H a o) h h' where
 keep:=fun b u q _ _ _=>k b u q
 slot:=fun b u q _ _ _=>⟨u.slots,k b u q⟩
 free:=fun b u q n _=>by rw[Yh (ql (Qc (qk q) hp))];exact n
 there:=fun b u q _=>⟨u,k b u q⟩
 tups:=fun b xs q=>by rw[Yh (Yw q hn)];exact q
 frzs:=fun b u xs q=>by rw[Yh (Yw q hn)];exact q
 tbls:=fun b ps q=>⟨#[],by rw[Yh (Yw q hn),q];simp⟩
theorem Un.write(mu:Mut (H x))(he:e=x\/H e=some (.own x))(k:∀b u,b≠e->h.get? b=some u->h'.get? b=some u)(heo:∃u,h'.get? e=some u):Un fs ex H (upd H x o) h h':=by
 have hx:∀b,H b=none->b≠x:=fun b n z=>by subst z;rw[n]at mu;exact mu
 have hb:∀b,H b=none->b≠e:=fun b n z=>by
  subst z
  rcases he with r | r
  ·exact hx b n r
  ·rw[n]at r;cases r
 have hm:∀b u,H b=some u->¬Mut (some u)->b≠x:=fun b u q nm z=>by subst z;rw[q]at mu;exact nm mu
 refine⟨fun b u q n _ _=>k b u (hb b n) q,fun b u q n _ _=>⟨u.slots,k b u (hb b n) q⟩,fun b u q n _=>by rw[Yh (hx b n)];exact n,fun b u q _=>?_,
  fun b xs q=>by rw[Yh (hm b _ q fun z=>z)];exact q,fun b u xs q=>by rw[Yh (hm b _ q fun z=>z)];exact q,fun b ps q=>⟨#[],by rw[Yh (hm b _ q fun z=>z),q];simp⟩⟩
 by_cases hbe:b=e
 ·subst hbe;exact heo
 ·exact⟨u,k b u hbe q⟩
end
def trk(h:Heap)(H:Hp):List Addr:=(List.range h.objs.size).filter fun a=>(H a).isSome
def hidT(h:Heap)(H:Hp):Heap:=W.hideAll h (trk h H)
theorem Yo4(h:Heap)(H:Hp):(hidT h H).objs.size=h.objs.size:=W.hideAll_size _ _
theorem Yrz{h:Heap}{H:Hp}{b:Addr}{o:Obj}(e:h.get? b=some o)(n:H b=none):(hidT h H).get? b=some o:=
 W.hideAll_get _ e fun hm=>by
  have q:(H b).isSome=true:=(List.mem_filter.mp hm).2
  rw[n]at q;simp at q
theorem Yui{h:Heap}{H:Hp}{b:Addr}{o:Obj}(e:(hidT h H).get? b=some o):h.get? b=some o/\H b=none:=by
 have e':h.get? b=some o:=W.of_hideAll (trk h H) e
 refine⟨e',?_⟩
 cases q:H b with
 | none=>rfl
 | some x=>
   have hm:b∈trk h H:=List.mem_filter.mpr ⟨List.mem_range.mpr (qk e'),by simp[q]⟩
   have z:(hidT h H).get? b=none:=W.hideAll_none (trk h H) hm
   rw[z]at e;cases e
end L2
namespace L2
open PySem PySem.Spec PyProof.Rows
structure Mod(K:W.Frag)(mg:Str->Option Value)(base:Heap):Prop where
 kin:K.In base
 glob:base.Ns mainGlobals mg
 blt:∃mb,base.Ns builtinsNs mb/\∀x:Str,x≠"__name__"->mb x=bootBuiltins x
 nolimit:base.NoLimit
structure Cx where
 prog:Program
 w:World
 K:W.Frag
 mg:Str->Option Value
 base:Heap
 A:Around
 N:List Str
 s₀:Shared
 H₀:Hp
 env:Env
 outer:List Env
 stack:List Env
 ex:List Addr
 fn:Str->Bool
 calm:Bool
 pn:List (Addr × Obj)
 xe:Value->Shared->Prop
def frs(l:List Env):List Addr:=l.filterMap (·.frame)
abbrev Cx.fs(X:Cx):List Addr:=frs X.outer
def Vis(sc:Scope)(x:Str):Prop:=sc.names.lookup x=some .local\/sc.names.lookup x=some .cell\/sc.names.lookup x=some .free
def Loc(sc:Scope)(x:Str):Prop:=sc.names.lookup x=some .local\/sc.names.lookup x=some .cell
def Look(env:Env)(h:Heap)(m:Str->Option Value)(x:Str)(u:Value):Prop:=
 (env.kindOf x=some .local/\m x=some u)\/((env.kindOf x=some .cell\/env.kindOf x=some .free)/\∃c,env.cells.lookup x=some c/\h.IsCell c (some u))
structure Cx.Ok(X:Cx):Prop where
 mod:Mod X.K X.mg X.base
 kind:X.env.scope.kind=.function
 glob:X.env.globals=mainGlobals
 blt:X.env.builtins=builtinsNs
 above:X.s₀.heap.objs.size<=X.env.locals
 inj:∀x y c,X.env.cells.lookup x=some c->X.env.cells.lookup y=some c->x=y
 has:∀x,(X.env.kindOf x=some .cell\/X.env.kindOf x=some .free)->∃c,X.env.cells.lookup x=some c
 cab:∀x c,X.fn x=true->X.env.cells.lookup x=some c->X.s₀.heap.objs.size<=c
 hd:X.calm=true->X.A.handled=none
 frames:X.A.frames=some X.stack
 stk:X.stack=X.outer\/(X.stack=X.env::X.outer/\X.env.frame=some X.env.locals)
 exf:∀b∈X.ex,b≠X.env.locals/\∀x c,X.env.cells.lookup x=some c->c≠b
 bs:∀b o,X.base.get? b=some o->X.s₀.heap.get? b=some o/\X.H₀ b=none
 bsz:X.base.objs.size<=X.s₀.heap.objs.size
 noex:∀b o,X.base.get? b=some o->b∉X.ex
 exfs:∀b∈X.ex,b∉X.fs
 funs:X.s₀.heap.FunFrames X.base X.outer
 frf:∀b∈X.fs,X.H₀ b=none
structure Inv(X:Cx)(pins:List (Addr × Obj))(σ:List (Option V))(H:Hp)(s:Shared):Prop where
 ok:X.Ok
 os:s.os=X.s₀.os
 bare:AllBare s.gens
 base:Un X.fs X.ex X.H₀ H X.s₀.heap s.heap
 loc:∃m,s.heap.Ns X.env.locals m/\∀(i:Nat) (x:Str) (v:V),X.N[i]?=some x->σ[i]?=some (some v)->Vis X.env.scope x->∃u,RelV v u/\Look X.env s.heap m x u
 cell:∀x c,X.env.cells.lookup x=some c->∃v,s.heap.IsCell c v
 free:H X.env.locals=none
 freeC:∀x c,X.env.cells.lookup x=some c->H c=none
 pin:∀p∈X.pn++pins,s.heap.get? p.1=some p.2/\H p.1=none/\p.1≠X.env.locals/\p.1∉X.fs/\∀v,p.2.data≠.cell v
 hok:HOk X.prog X.w H s.heap
 len:σ.length=X.N.length
section
variable {X:Cx} {pins:List (Addr × Obj)} {σ:List (Option V)} {H H':Hp} {s:Shared} {h':Heap}
theorem Cx.Ok.nofr(ok:X.Ok){b:Addr}{o:Obj}(e:X.base.get? b=some o):b∉X.fs:=fun hb=>by
 have:=(ok.funs.mem hb).1
 rw[e]at this;cases this
theorem Inv.bs(I:Inv X pins σ H s):∀b o,X.base.get? b=some o->s.heap.get? b=some o/\H b=none:=fun b o e=>
 ⟨I.base.keep b o (I.ok.bs b o e).1 (I.ok.bs b o e).2 (I.ok.nofr e) (I.ok.noex b o e),I.base.free b o (I.ok.bs b o e).1 (I.ok.bs b o e).2 (I.ok.noex b o e)⟩
theorem Inv.bk(I:Inv X pins σ H s):∀b o,X.base.get? b=some o->s.heap.get? b=some o:=fun b o e=>(I.bs b o e).1
theorem Inv.mod(I:Inv X pins σ H s):Mod X.K X.mg X.base:=I.ok.mod
theorem Inv.kIn(I:Inv X pins σ H s):X.K.In s.heap:=I.ok.mod.kin.keeps I.bk
theorem Inv.lt(I:Inv X pins σ H s):X.env.locals < s.heap.objs.size:=let ⟨_,hn,_⟩:=I.loc;hn.lt
theorem Inv.sz(I:Inv X pins σ H s):X.s₀.heap.objs.size<=s.heap.objs.size:=qy I.ok.above (Nat.le_of_lt I.lt)
theorem Inv.nofs(I:Inv X pins σ H s){a:Addr}(h:s.heap.objs.size<=a):a∉X.fs:=fun hb=>by
 obtain⟨_,o,ho,_⟩:=I.ok.funs.mem hb
 exact absurd (Qc (qk ho) (qy I.sz h)) (Qe _)
theorem Inv.cne(I:Inv X pins σ H s):∀x c,X.env.cells.lookup x=some c->c≠X.env.locals:=fun x c e z=>by
 obtain⟨v,o,ho,hd⟩:=I.cell x c e
 obtain⟨m,⟨o',es,ep,ho',hd',_⟩,_⟩:=I.loc
 rw[z,ho']at ho;cases ho;rw[hd']at hd;cases hd
theorem Inv.funs(I:Inv X pins σ H s):s.heap.FunFrames X.base X.outer:=by
 have all:∀(l:List Env),(∀b∈frs l,b∈X.fs)->X.s₀.heap.FunFrames X.base l->s.heap.FunFrames X.base l:=by
  intro l
  induction l with
  | nil=>intro _ _;trivial
  | cons env r ih=>
    intro hs hl
    obtain⟨hk,⟨L,o,hf,hn,ho,hd⟩,hr⟩:=hl
    have hL:L∈X.fs:=hs L (by unfold frs;rw[List.filterMap_cons,hf];exact qg)
    obtain⟨sl,e⟩:=I.base.slot L o ho (I.ok.frf L hL) hL fun z=>I.ok.exfs L z hL
    exact⟨hk,⟨L,_,hf,hn,e,hd⟩,ih (fun b hb=>hs b (by unfold frs;rw[List.filterMap_cons,hf];exact qf _ hb)) hr⟩
 exact all X.outer (fun _ hb=>hb) I.ok.funs
theorem Inv.stack(I:Inv X pins σ H s):s.heap.FunFrames X.base X.stack:=by
 rcases I.ok.stk with e | ⟨e,hf⟩
 ·rw[e];exact I.funs
 ·rw[e]
  obtain⟨m,hn,_⟩:=I.loc
  refine .cons (by rw[I.ok.kind];decide) hf hn ?_ I.funs
  exact Heap.get?_none_of_le (qy I.ok.bsz I.ok.above)
theorem Inv.stkSub(I:Inv X pins σ H s):∀b∈frs X.stack,b∈X.env.locals::X.fs:=fun b hb=>by
 rcases I.ok.stk with e | ⟨e,hf⟩
 ·rw[e]at hb;exact qf _ hb
 ·rw[e]at hb
  unfold frs at hb
  rw[List.filterMap_cons,hf]at hb
  exact hb
theorem Inv.stkFree(I:Inv X pins σ H s):∀b∈frs X.stack,H b=none:=fun b hb=>by
 rcases qr (I.stkSub b hb)with e | hb
 ·rw[e];exact I.free
 ·obtain⟨_,o,ho,_⟩:=I.ok.funs.mem hb
  exact I.base.free b o ho (I.ok.frf b hb) fun z=>I.ok.exfs b z hb
theorem Inv.step{g':Array GenState}{t':Nat}{d':Drawn}{ch:List Addr}(I:Inv X pins σ H s)
 (hch:∀b∈ch,(b∈X.ex\/X.s₀.heap.objs.size<=b)/\b≠X.env.locals/\(∀x c,X.env.cells.lookup x=some c->c≠b)/\∀p∈X.pn++pins,p.1≠b)
 (keep:∀b o,b≠X.env.locals->b∉X.fs->b∉ch->s.heap.get? b=some o->H b=none->h'.get? b=some o)
 (slot:∀b o,b≠X.env.locals->b∈X.fs->b∉ch->s.heap.get? b=some o->H b=none->∃sl,h'.get? b=some { o with slots:=sl }) (free:∀b o,b∉ch->s.heap.get? b=some o->H b=none->H' b=none)
 (there:∀b o,b∉ch->s.heap.get? b=some o->∃o',h'.get? b=some o')
 (tups:∀b xs,H b=some (.tup xs)->H' b=some (.tup xs)) (frzs:∀b o u,H b=some (.frz o u)->H' b=some (.frz o u)) (tbls:∀b ps,H b=some (.tbl ps)->∃more,H' b=some (.tbl (ps++more)))
 (ns:∀m,s.heap.Ns X.env.locals m->h'.Ns X.env.locals m) (hok:HOk X.prog X.w H' h') (hg:AllBare g') :
 Inv X pins σ H' { s with heap:=h',gens:=g',drawn:=d',toks:=t' }:=by
 have neL:∀b o,X.s₀.heap.get? b=some o->b≠X.env.locals:=fun b o e=>ql (Qc (qk e) I.ok.above)
 have neC:∀b o,X.s₀.heap.get? b=some o->b∉X.ex->b∉ch:=fun b o e hx hb=>by
  rcases(hch b hb).1 with z | z
  ·exact hx z
  ·exact absurd (Qc (qk e) z) (Qe _)
 have cellK:∀x c,X.env.cells.lookup x=some c->∀v,s.heap.IsCell c v->h'.IsCell c v:=fun x c e v hx_=>by
  obtain⟨o,ho,hd⟩:=hx_
  have nch:c∉ch:=fun z=>(hch c z).2.2.1 x c e rfl
  by_cases hc:c∈X.fs
  ·obtain⟨sl,q⟩:=slot c o (I.cne x c e) hc nch ho (I.freeC x c e)
   exact⟨_,q,hd⟩
  ·exact⟨o,keep c o (I.cne x c e) hc nch ho (I.freeC x c e),hd⟩
 refine⟨I.ok,I.os,hg,⟨fun b o e n hb hx=>?_,fun b o e n hb hx=>?_,fun b o e n hx=>?_,fun b o e hx=>?_,fun b xs e=>tups b xs (I.base.tups b xs e),fun b o xs e=>frzs b o xs (I.base.frzs b o xs e),fun b ps e=>?_⟩,?_,fun x c e=>?_,?_,fun x c e=>?_,fun p hp=>?_,hok,I.len⟩
 ·exact keep b o (neL b o e) hb (neC b o e hx) (I.base.keep b o e n hb hx) (I.base.free b o e n hx)
 ·obtain⟨sl,e1⟩:=I.base.slot b o e n hb hx
  obtain⟨sl',e2⟩:=slot b _ (neL b o e) hb (neC b o e hx) e1 (I.base.free b o e n hx)
  exact⟨sl',e2⟩
 ·obtain⟨o',e1⟩:=I.base.there b o e hx
  exact free b o' (neC b o e hx) e1 (I.base.free b o e n hx)
 ·obtain⟨o',e1⟩:=I.base.there b o e hx
  exact there b o' (neC b o e hx) e1
 ·obtain⟨m1,e1⟩:=I.base.tbls b ps e
  obtain⟨m2,e2⟩:=tbls b _ e1
  exact⟨m1++m2,by rw[e2,Array.append_assoc]⟩
 ·obtain⟨m,hn,hl⟩:=I.loc
  refine⟨m,ns m hn,fun i x v e1 e2 e3=>?_⟩
  obtain⟨u,r,l⟩:=hl i x v e1 e2 e3
  refine⟨u,r,?_⟩
  rcases l with l | ⟨k,c,e,z⟩
  ·exact .inl l
  ·exact .inr ⟨k,c,e,cellK x c e _ z⟩
 ·obtain⟨v,z⟩:=I.cell x c e
  exact⟨v,cellK x c e v z⟩
 ·obtain⟨m,⟨o,_,_,ho,_⟩,_⟩:=I.loc
  exact free _ o (fun z=>(hch _ z).2.1 rfl) ho I.free
 ·obtain⟨v,o,ho,hd⟩:=I.cell x c e
  exact free c o (fun z=>(hch c z).2.2.1 x c e rfl) ho (I.freeC x c e)
 ·obtain⟨e,n,ne,nf,d⟩:=I.pin p hp
  have nch:p.1∉ch:=fun z=>(hch p.1 z).2.2.2 p hp rfl
  exact⟨keep p.1 p.2 ne nf nch e n,free p.1 p.2 nch e n,ne,nf,d⟩
theorem Inv.un{t':Nat}(I:Inv X pins σ H s)(u:Un X.fs [] H H' s.heap h')(hok:HOk X.prog X.w H' h'):Inv X pins σ H' { s with heap:=h',toks:=t' }:=by
 obtain⟨m,⟨o,es,ep,ho,r⟩,_⟩:=id I.loc
 obtain⟨sl,hL⟩:=u.any ho I.free (by simp)
 exact I.step (g':=s.gens) (d':=s.drawn) (ch:=[]) (fun _ z=>nomatch z) (fun b o _ hb _ e n=>u.keep b o e n hb (by simp)) (fun b o _ hb _ e n=>u.slot b o e n hb (by simp)) (fun b o _ e n=>u.free b o e n (by simp)) (fun b o _ e=>u.there b o e (by simp)) u.tups u.frzs u.tbls (fun m' hm=>by
  obtain⟨o',es',ep',ho',r'⟩:=hm
  rw[ho]at ho';cases ho'
  exact⟨_,es',ep',hL,r'⟩) hok I.bare
theorem Inv.call{g':Array GenState}{t':Nat}{d':Drawn}{ch:List Addr}(I:Inv X pins σ H s)(u:Un (frs X.stack) ch H H' s.heap h')(hok:HOk X.prog X.w H' h')(hg:AllBare g')
 (hch:∀b∈ch,(b∈X.ex\/X.s₀.heap.objs.size<=b)/\b≠X.env.locals/\(∀x c,X.env.cells.lookup x=some c->c≠b)/\∀p∈X.pn++pins,p.1≠b) :
 Inv X pins σ H' { s with heap:=h',gens:=g',drawn:=d',toks:=t' }:=by
 obtain⟨m,⟨o,es,ep,ho,r⟩,_⟩:=id I.loc
 obtain⟨sl,hL⟩:=u.any ho I.free fun z=>(hch _ z).2.1 rfl
 exact I.step (ch:=ch) hch (fun b o hL hb hc e n=>u.keep b o e n (fun z=>(qr (I.stkSub b z)).elim hL hb) hc) (fun b o _ _ hc e n=>u.any e n hc) (fun b o hc e n=>u.free b o e n hc) (fun b o hc e=>u.there b o e hc) u.tups u.frzs u.tbls (fun m' hm=>by
  obtain⟨o',es',ep',ho',r'⟩:=hm
  rw[ho]at ho';cases ho'
  exact⟨_,es',ep',hL,r'⟩) hok hg
theorem Inv.turned{t':Nat}{it:Addr}(I:Inv X pins σ H s)(k:∀b o,b≠it->s.heap.get? b=some o->h'.get? b=some o)(hn:H it=none)(hL:it≠X.env.locals)
 (h1:it∈X.ex\/X.s₀.heap.objs.size<=it) (h2:∀x c,X.env.cells.lookup x=some c->c≠it) (h3:∀p∈X.pn++pins,p.1≠it):Inv X pins σ H { s with heap:=h',toks:=t' }:=by
 have nit:∀b u,H b=some u->b≠it:=fun b u e z=>by rw[z,hn]at e;cases e
 refine I.step (g':=s.gens) (d':=s.drawn) (ch:=[it]) (fun b hb=>?_) (fun b o _ _ hc e _=>k b o (fun z=>hc (by simp[z])) e) (fun b o _ _ hc e _=>⟨o.slots,k b o (fun z=>hc (by simp[z])) e⟩) (fun _ _ _ _ n=>n)
  (fun b o hc e=>⟨o,k b o (fun z=>hc (by simp[z])) e⟩) (fun _ _ e=>e) (fun _ _ _ e=>e) (fun b ps e=>⟨#[],by rw[e];simp⟩) (fun m hm=>?_) (fun b u e=>?_) I.bare
 ·have e:b=it:=by simpa using hb
  subst e
  exact⟨h1,hL,h2,h3⟩
 ·obtain⟨o,es,ep,ho,r⟩:=hm
  exact⟨o,es,ep,k _ o (Ne.symm hL) ho,r⟩
 ·refine(I.hok b u e).stay (fun c v hc q=>k c v ?_ q) (fun _ q=>q) fun _ _ q=>q
  rcases hc with z | z
  ·rw[z];exact nit b u e
  ·exact nit c _ z
theorem Inv.tok(I:Inv X pins σ H s)(t:Nat):Inv X pins σ H { s with toks:=t }:=I.un (h':=s.heap) (t':=t) Un.refl I.hok
theorem Inv.kept{t':Nat}(I:Inv X pins σ H s)(k:∀b u,s.heap.get? b=some u->h'.get? b=some u):Inv X pins σ H { s with heap:=h',toks:=t' }:=I.un (Un.kept k) (I.hok.kept k)
theorem Inv.laid{a:Addr}{o:HO}{t':Nat}(I:Inv X pins σ H s)(k:∀b u,s.heap.get? b=some u->h'.get? b=some u)(hp:s.heap.objs.size<=a)(new:ObjOk X.prog X.w (upd H a o) h' a o) :
 Inv X pins σ (upd H a o) { s with heap:=h',toks:=t' }:=I.un (Un.laid k hp (I.hok.fresh hp)) (I.hok.laid k hp new)
theorem Inv.write{x e:Addr}{o:HO}{t':Nat}(I:Inv X pins σ H s)(mu:Mut (H x))(he:e=x\/H e=some (.own x))(k:∀b u,b≠e->s.heap.get? b=some u->h'.get? b=some u)(heo:∃u,h'.get? e=some u)
 (new:ObjOk X.prog X.w (upd H x o) h' x o):Inv X pins σ (upd H x o) { s with heap:=h',toks:=t' }:=I.un (Un.write mu he k heo) (I.hok.write mu he k heo new)
theorem Inv.pins_of{pins':List (Addr × Obj)}(I:Inv X pins σ H s)(h:∀p∈pins',s.heap.get? p.1=some p.2/\H p.1=none/\p.1≠X.env.locals/\p.1∉X.fs/\∀v,p.2.data≠.cell v):Inv X pins' σ H s:=
 ⟨I.ok,I.os,I.bare,I.base,I.loc,I.cell,I.free,I.freeC,fun p hp=>(qt hp).elim (fun z=>I.pin p (List.mem_append_left _ z)) (h p),I.hok,I.len⟩
theorem Ymx{N:List Str}(hN:N.Nodup){i j:Nat}{x:Str}(a:N[i]?=some x)(b:N[j]?=some x):i=j:=by
 obtain⟨h1,e1⟩:=qm a
 obtain⟨h2,e2⟩:=qm b
 exact(List.getElem_inj hN).mp (e1.trans e2.symm)
theorem Yj1{M:Model}{A:Around}{E:Value->Shared->Prop}{i:Nat}{x:Str}{v:V}{u:Value}{Q:Unit->Shared->Prop}(I:Inv X pins σ H s)(hN:X.N.Nodup)(hi:X.N[i]?=some x)(hx:Loc X.env.scope x)(r:RelV v u)
 (h:∀s',Inv X pins (σ.set i (some v)) H s'->(∃a,Heap.SameBut a s.heap s'.heap/\(a=X.env.locals\/X.env.cells.lookup x=some a))->Q () s') (hf:X.fn x=true\/X.env.scope.names.lookup x=some .local:=by first | exact .inl rfl | exact .inr rfl | assumption):wpAny M A (storeName X.env x u) Q E s:=by
 obtain⟨m,hn,hl⟩:=id I.loc
 have hcls:(X.env.scope.kind==.class||(X.env.scope.kind==.module&&X.env.locals != X.env.globals))=false:=by rw[I.ok.kind];rfl
 have hiσ:i < σ.length:=by rw[I.len];exact(qm hi).1
 have cne:=I.cne
 have tracked:∀{a:Addr} {h':Heap},(∃o,s.heap.get? a=some o/\H a=none)->Heap.SameBut a s.heap h'->HOk X.prog X.w H h':=fun {a h'} ha hs b ob e=>by
  obtain⟨_,_,hfree⟩:=ha
  refine(I.hok b ob e).stay (fun c w' hc q=>(hs.2 c ?_).trans q) (fun _ q=>q) fun _ _ q=>q
  rintro rfl
  rcases hc with rfl | hc
  ·rw[hfree]at e;cases e
  ·rw[hfree]at hc;cases hc
 rcases hx with hk | hk
 ·refine wpAny_storeName_local hk hn (fun h' hn' hs=>?_) hcls
  obtain⟨oL,_,_,hoL,_⟩:=id hn
  refine h _ ⟨I.ok,I.os,I.bare,⟨fun b o e n hb hx=>?_,fun b o e n hb hx=>?_,I.base.free,fun b o e hx=>?_,I.base.tups,I.base.frzs,I.base.tbls⟩,⟨_,hn',fun j y v' e1 e2 e3=>?_⟩,fun y c e=>?_,I.free,I.freeC,fun p hp=>?_,tracked ⟨oL,hoL,I.free⟩ hs,by simpa using I.len⟩ ⟨_,hs,.inl rfl⟩
  ·exact(hs.2 b (ql (Qc (qk e) I.ok.above))).trans (I.base.keep b o e n hb hx)
  ·obtain⟨sl,e1⟩:=I.base.slot b o e n hb hx
   exact⟨sl,(hs.2 b (ql (Qc (qk e) I.ok.above))).trans e1⟩
  ·obtain⟨o',e1⟩:=I.base.there b o e hx
   exact⟨o',(hs.2 b (ql (Qc (qk e) I.ok.above))).trans e1⟩
  ·by_cases hj:j=i
   ·subst hj
    rw[hi]at e1;cases e1
    rw[List.getElem?_set_self hiσ]at e2
    cases e2
    exact⟨u,r,.inl ⟨hk,by simp⟩⟩
   ·rw[Qa (Ne.symm hj)]at e2
    obtain⟨u',r',q⟩:=hl j y v' e1 e2 e3
    refine⟨u',r',?_⟩
    rcases q with⟨k,e⟩ | ⟨k,c,e,z⟩
    ·refine .inl ⟨k,?_⟩
     have:y≠x:=fun e=>hj (Ymx hN e1 (e ▸ hi))
     simp[this,e]
    ·exact .inr ⟨k,c,e,z.sameBut hs (cne y c e)⟩
  ·obtain⟨w',z⟩:=I.cell y c e
   exact⟨w',z.sameBut hs (cne y c e)⟩
  ·obtain⟨e,n,ne,nf,d⟩:=I.pin p hp
   exact⟨(hs.2 p.1 ne).trans e,n,ne,nf,d⟩
 ·have hfn:X.fn x=true:=by
   rcases hf with z | z
   ·exact z
   ·rw[z]at hk;cases hk
  obtain⟨c,hc⟩:=I.ok.has x (.inl hk)
  obtain⟨w',z⟩:=I.cell x c hc
  refine wpAny_storeName_cell I.ok.kind hk hc z (fun h' hc' hs=>?_)
  obtain⟨oc,hoc,hocd⟩:=id z
  refine h { s with heap:=h' } ⟨I.ok,I.os,I.bare,⟨fun b o e n hb hx=>?_,fun b o e n hb hx=>?_,I.base.free,fun b o e hx=>?_,I.base.tups,I.base.frzs,I.base.tbls⟩,⟨m,hn.sameBut hs (Ne.symm (cne x c hc)),fun j y v' e1 e2 e3=>?_⟩,fun y c' e=>?_,I.free,I.freeC,fun p hp=>?_,tracked ⟨oc,hoc,I.freeC x c hc⟩ hs,by simpa using I.len⟩ ⟨c,hs,.inr hc⟩
  ·exact(hs.2 b (ql (Qc (qk e) (I.ok.cab x c hfn hc)))).trans (I.base.keep b o e n hb hx)
  ·obtain⟨sl,e1⟩:=I.base.slot b o e n hb hx
   exact⟨sl,(hs.2 b (ql (Qc (qk e) (I.ok.cab x c hfn hc)))).trans e1⟩
  ·obtain⟨o',e1⟩:=I.base.there b o e hx
   exact⟨o',(hs.2 b (ql (Qc (qk e) (I.ok.cab x c hfn hc)))).trans e1⟩
  ·by_cases hj:j=i
   ·subst hj
    rw[hi]at e1;cases e1
    rw[List.getElem?_set_self hiσ]at e2
    cases e2
    exact⟨u,r,.inr ⟨.inl hk,c,hc,hc'⟩⟩
   ·rw[Qa (Ne.symm hj)]at e2
    obtain⟨u',r',q⟩:=hl j y v' e1 e2 e3
    refine⟨u',r',?_⟩
    rcases q with q | ⟨k,c',e,z'⟩
    ·exact .inl q
    ·refine .inr ⟨k,c',e,z'.sameBut hs ?_⟩
     rintro rfl
     exact hj (Ymx hN e1 (I.ok.inj _ _ _ e hc ▸ hi))
  ·by_cases hcc:c'=c
   ·subst hcc;exact⟨_,hc'⟩
   ·obtain⟨w2,z2⟩:=I.cell y c' e
    exact⟨w2,z2.sameBut hs hcc⟩
  ·obtain⟨e,n,ne,nf,d⟩:=I.pin p hp
   refine⟨(hs.2 p.1 ?_).trans e,n,ne,nf,d⟩
   intro q
   rw[q,hoc]at e
   have q':oc=p.2:=Option.some.inj e
   exact d w' (by rw[<-q'];exact hocd)
theorem Ymy{M:Model}{A:Around}{E:Value->Shared->Prop}{i:Nat}{x:Str}{v:V}{u:Value}{Q:Unit->Shared->Prop}(I:Inv X pins σ H s)(hN:X.N.Nodup)(hi:X.N[i]?=some x)(hx:Loc X.env.scope x)(r:RelV v u)
 (h:∀s',Inv X pins (σ.set i (some v)) H s'->Q () s') (hf:X.fn x=true\/X.env.scope.names.lookup x=some .local:=by first | exact .inl rfl | exact .inr rfl | assumption):wpAny M A (storeName X.env x u) Q E s:=
 Yj1 I hN hi hx r (fun s' I' _=>h s' I') hf
theorem Inv.call'{s':Shared}{ch:List Addr}(I:Inv X pins σ H s)(ho:s'.os=s.os)(u:Un (frs X.stack) ch H H' s.heap s'.heap)(hok:HOk X.prog X.w H' s'.heap)(hg:AllBare s'.gens)
 (hch:∀b∈ch,(b∈X.ex\/X.s₀.heap.objs.size<=b)/\b≠X.env.locals/\(∀x c,X.env.cells.lookup x=some c->c≠b)/\∀p∈X.pn++pins,p.1≠b):Inv X pins σ H' s':=by
 obtain⟨h',g',d',t',o'⟩:=s'
 have e:o'=s.os:=ho
 subst e
 exact I.call (g':=g') (t':=t') (d':=d') u hok hg hch
end
abbrev XK:=Value->Option Addr->Hp->Prop
abbrev St:=List (Option V)
abbrev VK:=V->Hp->Prop
abbrev TE:=St->Hp->VK->Prop
abbrev TT:=St->Hp->(Bool->Hp->Prop)->Prop
abbrev TA:=St->Hp->(List V->Hp->Prop)->Prop
structure Ends where
 nx:St->Hp->Prop
 rt:VK
 bk:St->Hp->Prop:=fun _ _=>False
 ct:St->Hp->Prop:=fun _ _=>False
abbrev TS:=Ends->St->Hp->Prop
def EP(X:Cx)(pins:List (Addr × Obj))(σ:St)(Q:VK)(u:Value)(s':Shared):Prop:=∃v H',Inv X pins σ H' s'/\RelV v u/\Q v H'
def TP(X:Cx)(pins:List (Addr × Obj))(σ:St)(Q:Bool->Hp->Prop)(b:Bool)(s':Shared):Prop:=∃H',Inv X pins σ H' s'/\Q b H'
def AP(X:Cx)(pins:List (Addr × Obj))(σ:St)(Q:List V->Hp->Prop)(us:List Value)(s':Shared):Prop:=∃vs H',Inv X pins σ H' s'/\Vals vs us/\Q vs H'
def SP(X:Cx)(pins:List (Addr × Obj))(D:Ends)(f:Flow)(s':Shared):Prop:=
 match f with
 | .next=>∃σ' H',Inv X pins σ' H' s'/\D.nx σ' H'
 | .brk=>∃σ' H',Inv X pins σ' H' s'/\D.bk σ' H'
 | .cont=>∃σ' H',Inv X pins σ' H' s'/\D.ct σ' H'
 | .ret u=>∃v σ' H',Inv X pins σ' H' s'/\RelV v u/\D.rt v H'
def PE(X:Cx)(e:Expr)(t:TE):Prop:=
 ∀(pins:List (Addr × Obj)) (s:Shared) (σ:St) (H:Hp) (Q:VK),Inv X pins σ H s->t σ H Q->wpAny (model X.prog X.w) X.A (eval e X.env) (EP X pins σ Q) X.xe s
def PT(X:Cx)(e:Expr)(t:TT):Prop:=
 ∀(pins:List (Addr × Obj)) (s:Shared) (σ:St) (H:Hp) (Q:Bool->Hp->Prop),Inv X pins σ H s->t σ H Q->wpAny (model X.prog X.w) X.A (isTrue e X.env (eval e X.env)) (TP X pins σ Q) X.xe s
def PW(X:Cx)(e:Expr)(t:TT):Prop:=
 ∀(whole:Sem Value) (pins:List (Addr × Obj)) (s:Shared) (σ:St) (H:Hp) (Q:Bool->Hp->Prop),Inv X pins σ H s->t σ H Q->wpAny (model X.prog X.w) X.A (isTrue e X.env whole) (TP X pins σ Q) X.xe s
theorem PW.pt{X:Cx}{e:Expr}{t:TT}(h:PW X e t):PT X e t:=h _
def PA(X:Cx)(es:List Expr)(t:TA):Prop:=
 ∀(pos:Pos) (pins:List (Addr × Obj)) (s:Shared) (σ:St) (H:Hp) (Q:List V->Hp->Prop),Inv X pins σ H s->t σ H Q->wpAny (model X.prog X.w) X.A (spliced (backTo pos (starEach es X.env))) (AP X pins σ Q) X.xe s
def PS(X:Cx)(st:Stmt)(t:TS):Prop:=
 ∀(pins:List (Addr × Obj)) (s:Shared) (σ:St) (H:Hp) (D:Ends),Inv X pins σ H s->t D σ H->wpAny (model X.prog X.w) X.A (exec st X.env) (SP X pins D) X.xe s
def PSs(X:Cx)(st:List Stmt)(t:TS):Prop:=
 ∀(pins:List (Addr × Obj)) (s:Shared) (σ:St) (H:Hp) (D:Ends),Inv X pins σ H s->t D σ H->wpAny (model X.prog X.w) X.A (execs st X.env) (SP X pins D) X.xe s
theorem thn{α:Type}{t:Sem α}{Q Q':α->Shared->Prop}{M:Model}{A:Around}{E:Value->Shared->Prop}{s:Shared}(h:wpAny M A t Q E s)(hQ:∀a s,Q a s->Q' a s):wpAny M A t Q' E s:=wpAny_mono h hQ fun _ _ x=>x
end L2
namespace L2
open PySem PySem.Spec PyProof.Rows
section
variable {X:Cx}
def tVar(i:Nat):TE:=fun σ H Q=>∃v,σ[i]?=some (some v)/\Q v H
def tC(v:V):TE:=fun _ H Q=>Q v H
theorem Ye2{i:Nat}{x:Str}{pos:Pos}(hN:X.N[i]?=some x)(hv:Vis X.env.scope x)(hd:(x==("__debug__":Str))=false:=by decide)(hcd:(x==("__classdict__":Str))=false:=by decide):PE X (.Name x pos) (tVar i):=by
 intro pins s σ H Q I h
 obtain⟨v,e,h⟩:=h
 obtain⟨m,hn,hl⟩:=I.loc
 obtain⟨u,r,l⟩:=hl i x v hN e hv
 have fin:EP X pins σ Q u s:=⟨v,H,I,r,h⟩
 rcases l with⟨hk,hm⟩ | ⟨hk,c,hc,hcell⟩
 ·exact wpAny_Name (wpAny_loadName_local I.ok.kind hk hn hm fin) hd
 ·rcases hk with hk | hk
  ·exact wpAny_Name (wpAny_loadName_cell I.ok.kind hk hc hcell fin) hd
  ·exact wpAny_Name (wpAny_loadName_free I.ok.kind hk hc hcell fin hcd) hd
theorem Yw1{i j pos}:PE X (.Constant (.int i) j pos) (tC (.int i)):=fun _ _ _ H _ I h=>wpAny_Constant_int ⟨.int i,H,I.tok _,⟨_,rfl⟩,h⟩
theorem Yzv{b j pos}:PE X (.Constant (.bool b) j pos) (tC (.bl b)):=fun _ _ _ H _ I h=>Constant_bool ⟨.bl b,H,I,rfl,h⟩
theorem Yw2{j pos}:PE X (.Constant .none j pos) (tC .non):=fun _ _ _ H _ I h=>Constant_none ⟨.non,H,I,rfl,h⟩
theorem Yw3{x j pos}:PE X (.Constant (.str x) j pos) (tC (.str x)):=fun _ _ _ H _ I h=>Calls.Constant_str ⟨.str x,H,I.tok _,⟨_,rfl⟩,h⟩
def Gl(X:Cx)(x:Str):Prop:=X.env.kindOf x=some .globalImplicit
theorem Ylp{E:Value->Shared->Prop}{pins:List (Addr × Obj)}{s:Shared}{σ:St}{H:Hp}{x:Str}{u:Value}{pos:Pos}{Q:Value->Shared->Prop}(I:Inv X pins σ H s)(hg:Gl X x)(hm:X.mg x=some u)(h:Q u s)
 (hd:(x==("__debug__":Str))=false:=by decide):wpAny (model X.prog X.w) X.A (eval (.Name x pos) X.env) Q E s:=
 Calls.Name_function_global I.ok.kind hg (Calls.loadGlobal_global (by rw[I.ok.glob];exact I.mod.glob.keeps I.bk) hm h) hd
theorem Yj2{E:Value->Shared->Prop}{pins:List (Addr × Obj)}{s:Shared}{σ:St}{H:Hp}{x:Str}{u:Value}{pos:Pos}{Q:Value->Shared->Prop}(I:Inv X pins σ H s)(hg:Gl X x)(hm:X.mg x=none)(hv:bootBuiltins x=some u)(h:Q u s)
 (hn:x≠"__name__":=by decide) (hd:(x==("__debug__":Str))=false:=by decide):wpAny (model X.prog X.w) X.A (eval (.Name x pos) X.env) Q E s:=by
 obtain⟨mb,h1,h2⟩:=I.mod.blt
 exact Calls.Name_function_global I.ok.kind hg (Calls.loadGlobal_builtin (by rw[I.ok.glob];exact I.mod.glob.keeps I.bk) hm (by rw[I.ok.blt];exact h1.keeps I.bk) ((h2 x hn).trans hv) h) hd
theorem Yo5{x:Str}{v:V}{u:Value}{pos:Pos}(hg:Gl X x)(hm:X.mg x=some u)(r:RelV v u)(hd:(x==("__debug__":Str))=false:=by decide):PE X (.Name x pos) (tC v):=
 fun _ _ _ H _ I h=>Ylp I hg hm ⟨v,H,I,r,h⟩ hd
theorem Yuj{x:Str}{v:V}{u:Value}{pos:Pos}(hg:Gl X x)(hm:X.mg x=none)(hv:bootBuiltins x=some u)(r:RelV v u)(hn:x≠"__name__":=by decide)(hd:(x==("__debug__":Str))=false:=by decide):PE X (.Name x pos) (tC v):=
 fun _ _ _ H _ I h=>Yj2 I hg hm hv ⟨v,H,I,r,h⟩ hn hd
variable {a b:Expr} {ta tb:TE} {pos:Pos}
variable {tA tB':TT} {rest:List Expr}
def tAnd(t u:TT):TT:=fun σ H Q=>t σ H fun c H1=>if c=true then u σ H1 Q else Q false H1
def tOr(t u:TT):TT:=fun σ H Q=>t σ H fun c H1=>if c=true then Q true H1 else u σ H1 Q
def tNot(t:TT):TT:=fun σ H Q=>t σ H fun c H1=>Q (!c) H1
theorem Yuk(ha:PT X a tA):PW X (.BoolOp .And [a] pos) tA:=by
 intro wh pins s σ H Q I h
 refine isTrue_and (thn (ha pins s σ H Q I h) fun c s1 e=>?_)
 cases c with
 | true=>exact isTrue_and_nil e
 | false=>exact e
theorem Yw4(ha:PT X a tA):PW X (.BoolOp .Or [a] pos) tA:=by
 intro wh pins s σ H Q I h
 refine isTrue_or (thn (ha pins s σ H Q I h) fun c s1 e=>?_)
 cases c with
 | false=>exact isTrue_or_nil e
 | true=>exact e
theorem Yw5(ha:PT X a tA)(hb:PW X (.BoolOp .And (b::rest) pos) tB'):PW X (.BoolOp .And (a::b::rest) pos) (tAnd tA tB'):=by
 intro wh pins s σ H Q I h
 refine isTrue_and (thn (ha pins s σ H _ I h) fun c s1 hx_=>?_)
 obtain⟨H1,I1,q1⟩:=hx_
 cases c with
 | true=>exact hb wh pins s1 σ H1 Q I1 q1
 | false=>exact⟨H1,I1,q1⟩
theorem Yzw(ha:PT X a tA)(hb:PW X (.BoolOp .Or (b::rest) pos) tB'):PW X (.BoolOp .Or (a::b::rest) pos) (tOr tA tB'):=by
 intro wh pins s σ H Q I h
 refine isTrue_or (thn (ha pins s σ H _ I h) fun c s1 hx_=>?_)
 obtain⟨H1,I1,q1⟩:=hx_
 cases c with
 | true=>exact⟨H1,I1,q1⟩
 | false=>exact hb wh pins s1 σ H1 Q I1 q1
theorem Yw6(ha:PT X a tA):PT X (.UnaryOp .Not a pos) (tNot tA):=by
 intro pins s σ H Q I h
 exact isTrue_not (ha pins s σ H (fun c H1=>Q (!c) H1) I h)
def Yzx(ta tb:TE):TE:=fun σ H Q=>ta σ H fun x H1=>∃c,x=.bl c/\if c=true then tb σ H1 Q else Q (.bl false) H1
def Yzy(ta:TE):TE:=fun σ H Q=>ta σ H fun x H1=>∃c,x=.bl c/\Q (.bl (!c)) H1
theorem Yw7{op}{t:TE}(h:PE X a t):PE X (.BoolOp op [a] pos) t:=fun pins s σ H Q I hw=>BoolOp_one (h pins s σ H Q I hw)
theorem Yw8(ha:PE X a ta)(hb:PE X (.BoolOp .And (b::rest) pos) tb):PE X (.BoolOp .And (a::b::rest) pos) (Yzx ta tb):=by
 intro pins s σ H Q I h
 refine BoolOp_and (thn (ha pins s σ H _ I h) fun v s1 hx_=>?_)
 obtain⟨x,H1,I1,r1,q1⟩:=hx_
 obtain⟨c,rfl,q1⟩:=q1
 cases r1
 refine wpAny_truthy_bool ?_
 cases c with
 | true=>exact hb pins s1 σ H1 Q I1 q1
 | false=>exact⟨.bl false,H1,I1,rfl,q1⟩
theorem Yw9(ha:PE X a ta):PE X (.UnaryOp .Not a pos) (Yzy ta):=by
 intro pins s σ H Q I h
 refine UnaryOp_ (thn (ha pins s σ H _ I h) fun v s1 hx_=>?_)
 obtain⟨x,H1,I1,r1,q1⟩:=hx_
 obtain⟨c,rfl,q1⟩:=q1
 cases r1
 exact not_of (wpAny_truthy_bool ⟨.bl (!c),H1,I1,rfl,q1⟩)
def tIf(t:TT)(ta tb:TE):TE:=fun σ H Q=>t σ H fun c H1=>if c=true then ta σ H1 Q else tb σ H1 Q
theorem Yr0{c:Expr}(hc:PT X c tA)(ha:PE X a ta)(hb:PE X b tb):PE X (.IfExp c a b pos) (tIf tA ta tb):=by
 intro pins s σ H Q I h
 refine wpAny_IfExp (thn (hc pins s σ H _ I h) fun d s1 hx_=>?_)
 obtain⟨H1,I1,q1⟩:=hx_
 cases d with
 | true=>exact ha pins s1 σ H1 Q I1 q1
 | false=>exact hb pins s1 σ H1 Q I1 q1
end
end L2
namespace L2
open PySem PySem.Spec PyProof.Rows
def SqL(K:W.Frag)(H:Hp)(a:Addr)(xs:List V):Prop:=
 Rd H a (.lst xs)\/
  ∃(o:Obj) (its:Array Value) (n:Nat),K.lookup a=some o/\o.cls=.type "list"/\o.dict=none/\o.data=.seq its n/\its.size<=sizeLine/\Vals xs its.toList
def SqT(K:W.Frag)(H:Hp)(a:Addr)(xs:List V):Prop:=
 Rd H a (.tup xs)\/
  ∃(o:Obj) (its:Array Value) (n:Nat),K.lookup a=some o/\o.cls=.type "tuple"/\o.data=.seq its n/\its.size<=sizeLine/\Vals xs its.toList
def absV:Value->Option V
 | .none=>some .non
 | .bool b=>some (.bl b)
 | .int i _=>some (.int i)
 | .str x _=>some (.str x)
 | .bytes b _=>some (.byt b)
 | .float b _=>some (.flt b)
 | .ref a=>some (.ref a)
 | .type n=>some (.ty n)
 | _=>none
theorem RelV.abs{x:V}{u:Value}(r:RelV x u):absV u=some x:=by
 cases x with
 | non=>cases r;rfl
 | bl _=>cases r;rfl
 | int _=>obtain⟨t,rfl⟩:=r;rfl
 | str _=>obtain⟨t,rfl⟩:=r;rfl
 | byt _=>obtain⟨t,rfl⟩:=r;rfl
 | flt _=>obtain⟨t,rfl⟩:=r;rfl
 | ref _=>cases r;rfl
 | ty _=>cases r;rfl
theorem RelV.inj{x y:V}{u:Value}(r:RelV x u)(q:RelV y u):x=y:=Option.some.inj (r.abs.symm.trans q.abs)
theorem Vals.inj:∀{xs ys:List V} {us:List Value},Vals xs us->Vals ys us->xs=ys
 :=by
  intro xs ys us h
  induction h generalizing ys with
  | nil=>
    intro h2
    cases h2
    rfl
  | cons r t ih=>
    intro h2
    cases h2 with
    | cons r' t'=>rw[r.inj r',ih t']
section
variable {X:Cx} {pins:List (Addr × Obj)} {σ:St} {H:Hp} {s:Shared} {a:Addr} {xs ys:List V}
theorem SqL.of{K:W.Frag}(h:H a=some (.lst xs)):SqL K H a xs:=.inl (.inl h)
theorem Inv.list(I:Inv X pins σ H s)(h:SqL X.K H a xs):∃its:List Value,Vals xs its/\PlainL s.heap a its.toArray/\xs.length<=sizeLine:=by
 rcases h with h | ⟨o,its,n,hk,hc,hd,hs,hz,r⟩
 ·obtain⟨z,its,n,r,e⟩:=h.ok I.hok
  exact⟨its,r,⟨_,n,e,rfl,rfl,rfl⟩,z⟩
 ·refine⟨its.toList,r,⟨o,n,I.kIn a o hk,hc,hd,by simpa using hs⟩,?_⟩
  have e:=r.length
  simp only[qi]at e
  lia
theorem Inv.tuple(I:Inv X pins σ H s)(h:SqT X.K H a xs):∃its:List Value,Vals xs its/\IsTup s.heap a its.toArray/\xs.length<=sizeLine:=by
 rcases h with h | ⟨o,its,n,hk,hc,hs,hz,r⟩
 ·obtain⟨z,its,r,p⟩:=h.ok I.hok
  exact⟨its,r,p,z⟩
 ·refine⟨its.toList,r,⟨o,I.kIn a o hk,hc,n,by simpa using hs⟩,?_⟩
  have e:=r.length
  simp only[qi]at e
  lia
theorem Inv.list_inj(I:Inv X pins σ H s)(h:SqL X.K H a xs)(h':SqL X.K H a ys):xs=ys:=by
 obtain⟨its,r,⟨o,n,e,_,_,d⟩,_⟩:=I.list h
 obtain⟨its',r',⟨o',n',e',_,_,d'⟩,_⟩:=I.list h'
 rw[e]at e';cases e'
 rw[d]at d'
 injection d' with d1 _
 have:its=its':=by simpa using congrArg Array.toList d1
 subst this
 exact r.inj r'
theorem Inv.tuple_inj(I:Inv X pins σ H s)(h:SqT X.K H a xs)(h':SqT X.K H a ys):xs=ys:=by
 obtain⟨its,r,⟨o,e,_,n,d⟩,_⟩:=I.tuple h
 obtain⟨its',r',⟨o',e',_,n',d'⟩,_⟩:=I.tuple h'
 rw[e]at e';cases e'
 rw[d]at d'
 injection d' with d1 _
 have:its=its':=by simpa using congrArg Array.toList d1
 subst this
 exact r.inj r'
end
abbrev Cx.wish(X:Cx)(E:Value->Shared->Prop):Cx:={ X with xe:=E }
abbrev Cx.nox(X:Cx):Cx:=X.wish fun _ _=>False
theorem Cx.Ok.wish{X:Cx}(ok:X.Ok)(E:Value->Shared->Prop):(X.wish E).Ok:=
 ⟨ok.mod,ok.kind,ok.glob,ok.blt,ok.above,ok.inj,ok.has,ok.cab,ok.hd,ok.frames,ok.stk,ok.exf,ok.bs,ok.bsz,ok.noex,ok.exfs,ok.funs,ok.frf⟩
theorem Cx.Ok.unwish{X:Cx}{E:Value->Shared->Prop}(ok:(X.wish E).Ok):X.Ok:=
 ⟨ok.mod,ok.kind,ok.glob,ok.blt,ok.above,ok.inj,ok.has,ok.cab,ok.hd,ok.frames,ok.stk,ok.exf,ok.bs,ok.bsz,ok.noex,ok.exfs,ok.funs,ok.frf⟩
section
variable {X:Cx} {pins:List (Addr × Obj)} {σ:St} {H:Hp} {s:Shared} {E:Value->Shared->Prop} {st:Stmt} {rest:List Stmt} {t u:TS} {e:Expr} {te:TE} {pos:Pos}
theorem Inv.wish(I:Inv X pins σ H s)(E:Value->Shared->Prop):Inv (X.wish E) pins σ H s:=⟨I.ok.wish E,I.os,I.bare,I.base,I.loc,I.cell,I.free,I.freeC,I.pin,I.hok,I.len⟩
theorem Inv.unwish(I:Inv (X.wish E) pins σ H s):Inv X pins σ H s:=⟨I.ok.unwish,I.os,I.bare,I.base,I.loc,I.cell,I.free,I.freeC,I.pin,I.hok,I.len⟩
theorem SP.unwish{D:Ends}{f:Flow}{s':Shared}(h:SP (X.wish E) pins D f s'):SP X pins D f s':=by
 cases f with
 | next=>obtain⟨σ',H',I,q⟩:=h;exact⟨σ',H',I.unwish,q⟩
 | brk=>obtain⟨σ',H',I,q⟩:=h;exact⟨σ',H',I.unwish,q⟩
 | cont=>obtain⟨σ',H',I,q⟩:=h;exact⟨σ',H',I.unwish,q⟩
 | ret u=>obtain⟨v,σ',H',I,r,q⟩:=h;exact⟨v,σ',H',I.unwish,r,q⟩
theorem PSs.nox{st:List Stmt}{t:TS}(h:PSs X.nox st t):PSs X st t:=fun pins s σ H D I hw=>
 wpAny_mono (h pins s σ H D (I.wish _) hw) (fun _ _ q=>q.unwish) fun _ _ z=>False.elim z
def Yzz:TS:=fun D σ H=>D.nx σ H
def tSeq(t u:TS):TS:=fun D σ H=>t { D with nx:=u D } σ H
theorem Ylq:PSs X [] Yzz:=fun _ _ σ H _ I h=>wpAny_execs_nil ⟨σ,H,I,h⟩
theorem Ycl(h1:PS X st t)(h2:PSs X rest u):PSs X (st::rest) (tSeq t u):=by
 intro pins s σ H D I h
 refine wpAny_execs_cons (thn (h1 pins s σ H { D with nx:=u D } I h) fun f s1 q=>?_)
 cases f with
 | next=>
   obtain⟨σ',H',I',q⟩:=q
   exact h2 pins s1 σ' H' D I' q
 | ret v=>exact q
 | brk=>exact q
 | cont=>exact q
theorem Yiq(h1:PS X st t):PSs X [st] t:=by
 intro pins s σ H D I h
 refine wpAny_execs_cons (thn (h1 pins s σ H D I h) fun f s1 q=>?_)
 cases f with
 | next=>exact wpAny_execs_nil q
 | ret v=>exact q
 | brk=>exact q
 | cont=>exact q
theorem Inv.quiet{pins:List (Addr × Obj)}{σ:St}{H:Hp}{s:Shared}(I:Inv X pins σ H s):interactive X.env=false:=by simp[interactive,I.ok.kind]
def Yz0(te:TE):TS:=fun D σ H=>te σ H fun _ H1=>D.nx σ H1
theorem Yeq(he:PE X e te)(hs:swapsWith e none pos.line X.env=pure false:=by rfl):PS X (.Expr e pos) (Yz0 te):=by
 intro pins s σ H D I h
 refine wpAny_Expr_any (thn (he pins s σ H _ I h) fun v s1 hx_=>?_) I.quiet hs
 obtain⟨x,H1,I1,r1,q1⟩:=hx_
 exact⟨σ,H1,I1,q1⟩
def tRet(te:TE):TS:=fun D σ H=>te σ H D.rt
theorem Yo6(he:PE X e te):PS X (.Return (some e) pos) (tRet te):=by
 intro pins s σ H D I h
 refine wpAny_Return_some (thn (he pins s σ H _ I h) fun v s1 hx_=>?_)
 obtain⟨x,H1,I1,r1,q1⟩:=hx_
 exact⟨x,σ,H1,I1,r1,q1⟩
def tIfS(c:TT)(t u:TS):TS:=fun D σ H=>c σ H fun b H1=>if b=true then t D σ H1 else u D σ H1
theorem Yul{c:Expr}{a b:List Stmt}{tc:TT}(hc:PT X c tc)(ha:PSs X a t)(hb:PSs X b u):PS X (.If c a b pos) (tIfS tc t u):=by
 intro pins s σ H D I h
 refine wpAny_If (thn (hc pins s σ H _ I h) fun d s1 hx_=>?_)
 obtain⟨H1,I1,q1⟩:=hx_
 cases d with
 | true=>exact ha pins s1 σ H1 D I1 q1
 | false=>exact hb pins s1 σ H1 D I1 q1
end
abbrev TG:=V->St->Hp->(St->Hp->Prop)->Prop
abbrev TGs:=List V->St->Hp->(St->Hp->Prop)->Prop
def PG(X:Cx)(target:Expr)(t:TG):Prop:=
 ∀(pins:List (Addr × Obj)) (s:Shared) (σ:St) (H:Hp) (v:V) (u:Value) (Q:St->Hp->Prop),Inv X pins σ H s->RelV v u->t v σ H Q->
  wpAny (model X.prog X.w) X.A (assign target X.env u) (fun _ s'=>∃σ' H',Inv X pins σ' H' s'/\Q σ' H') X.xe s
def PGs(X:Cx)(ts:List Expr)(t:TGs):Prop:=
 ∀(pins:List (Addr × Obj)) (s:Shared) (σ:St) (H:Hp) (vs:List V) (us:List Value) (Q:St->Hp->Prop),Inv X pins σ H s->Vals vs us->t vs σ H Q->
  wpAny (model X.prog X.w) X.A (assignInOrder ((assignEach ts X.env).map (·.2)) us) (fun _ s'=>∃σ' H',Inv X pins σ' H' s'/\Q σ' H') X.xe s
abbrev TSet:=V->V->V->Hp->(Hp->Prop)->Prop
def PSet(X:Cx)(t:TSet):Prop:=
 ∀(pins:List (Addr × Obj)) (s:Shared) (σ:St) (H:Hp) (o i v:V) (ov iv u:Value) (Q:Hp->Prop),Inv X pins σ H s->RelV o ov->RelV i iv->RelV v u->t o i v H Q->
  wpAny (model X.prog X.w) X.A (setItem ov iv u) (fun _ s'=>∃H',Inv X pins σ H' s'/\Q H') X.xe s
section
variable {X:Cx} {pos:Pos}
def Yn3(i:Nat):TG:=fun v σ H Q=>Q (σ.set i (some v)) H
theorem Ylr{i:Nat}{x:Str}(hN:X.N.Nodup)(hi:X.N[i]?=some x)(hx:Loc X.env.scope x)(hf:X.fn x=true\/X.env.scope.names.lookup x=some .local:=by first | exact .inl rfl | exact .inr rfl | assumption):PG X (.Name x pos) (Yn3 i):=by
 intro pins s σ H v u Q I r h
 exact wpAny_assign_Name (Ymy I hN hi hx r (fun s' I'=>⟨_,H,I',h⟩) hf)
def gNil:TGs:=fun vs σ H Q=>vs=[]/\Q σ H
def Yz1(t:TG)(u:TGs):TGs:=fun vs σ H Q=>∃v r,vs=v::r/\t v σ H fun σ' H'=>u r σ' H' Q
theorem Yum:PGs X [] gNil:=by
 intro pins s σ H vs us Q I r h
 obtain⟨e,h⟩:=h
 subst e
 cases r
 exact assignInOrder_nil ⟨σ,H,I,h⟩
theorem Ymz{e:Expr}{es:List Expr}{t:TG}{u:TGs}(h1:PG X e t)(h2:PGs X es u)
 (hs:(assignEach (e::es) X.env).map (·.2)=assign e X.env::(assignEach es X.env).map (·.2):=by rfl):PGs X (e::es) (Yz1 t u):=by
 intro pins s σ H vs us Q I r h
 obtain⟨v,vr,e1,h⟩:=h
 subst e1
 cases r with
 | cons r rr=>
   rw[hs]
   refine assignInOrder_cons (thn (h1 pins s σ H _ _ _ I r h) fun _ s1 hx_=>?_)
   obtain⟨σ1,H1,I1,q1⟩:=hx_
   exact h2 pins s1 σ1 H1 _ _ Q I1 rr q1
def gTup(K:W.Frag)(n:Nat)(t:TGs):TG:=fun v σ H Q=>∃a xs,v=.ref a/\SqT K H a xs/\xs.length=n/\t xs σ H Q
theorem Yxa{es:List Expr}{k:Nat}{t:TGs}{n:Nat}(hc:X.calm=true)(h:PGs X es t)
 (hn:(assignEach es X.env).length=n:=by rfl) (hst:(assignEach es X.env).findIdx? (·.1)=none:=by rfl):PG X (.Tuple es k pos) (gTup X.K n t):=by
 intro pins s σ H v u Q I r hw
 obtain⟨a,xs,e1,hq,hl,hw⟩:=hw
 subst e1
 cases r
 obtain⟨its,rv,ht,hz⟩:=I.tuple hq
 refine assign_Tuple_tuple (I.ok.hd hc) ht (by simp[hn,<-hl,rv.length]) hst fun h' hx=>?_
 have I1:Inv X pins σ H { s with heap:=h' }:=I.kept (t':=s.toks) fun b o e=>hx b o (ql (qk e)) e
 exact h pins _ σ H xs _ Q I1 (by simpa using rv) hw
def gSub(to ti:TE)(t:TSet):TG:=fun v σ H Q=>to σ H fun o H1=>ti σ H1 fun i H2=>t o i v H2 fun H3=>Q σ H3
theorem Yxb{o i:Expr}{to ti:TE}{t:TSet}(ho:PE X o to)(hi:PE X i ti)(hs:PSet X t)
 (ha:∀v,assign (.Subscript o i pos) X.env v=(do
  let ov <-holding [v] (eval o X.env)
  let iv <-holding [v,ov] (eval i X.env)
  standAt pos
  holding [v,ov,iv] (setItem ov iv v)
  release [v,ov,iv] []):=by intro _;rfl):PG X (.Subscript o i pos) (gSub to ti t):=by
 intro pins s σ H v u Q I r h
 rw[ha]
 refine wpAny_bind (wpAny_holding (thn (ho pins s σ H _ I h) fun ov s1 hx_=>?_))
 obtain⟨x,H1,I1,r1,q1⟩:=hx_
 refine wpAny_bind (wpAny_holding (thn (hi pins s1 σ H1 _ I1 q1) fun iv s2 hx_=>?_))
 obtain⟨y,H2,I2,r2,q2⟩:=hx_
 refine wpAny_bind (wpAny_standAt (wpAny_bind (wpAny_holding (thn (hs pins s2 σ H2 x y v ov iv u _ I2 r1 r2 r q2) fun _ s3 hx_=>?_))))
 obtain⟨H3,I3,q3⟩:=hx_
 exact wpAny_release ⟨σ,H3,I3,q3⟩
def tAsg(te:TE)(g:TG):TS:=fun D σ H=>te σ H fun x H1=>g x σ H1 D.nx
theorem Yxc{tg e:Expr}{te:TE}{g:TG}(he:PE X e te)(hg:PG X tg g)(hs:swapsWithSole [tg] e pos.line X.env=pure false:=by rfl)(hw:swappedStores [tg] e X.env=pure none:=by rfl)
 (h1:(assignEach [tg] X.env).map (·.2)=[assign tg X.env]:=by rfl):PS X (.Assign [tg] e pos) (tAsg te g):=by
 intro pins s σ H D I h
 refine wpAny_Assign_stores (thn (he pins s σ H _ I h) fun v s1 hx_=>?_) hs hw
 obtain⟨x,H1,I1,r1,q1⟩:=hx_
 rw[h1]
 exact thn (hg pins s1 σ H1 x v _ I1 r1 q1) fun _ s2 q=>q
theorem Yh9{i:Nat}{x:Str}{e:Expr}{te:TE}{pos':Pos}(hN:X.N.Nodup)(hi:X.N[i]?=some x)(hx:Loc X.env.scope x)(he:PE X e te)(hs:swapsWith e (some (.Name x pos')) pos.line X.env=pure false:=by rfl)(hf:X.fn x=true\/X.env.scope.names.lookup x=some .local:=by first | exact .inl rfl | exact .inr rfl | assumption) :
 PS X (.Assign [.Name x pos'] e pos) (tAsg te (Yn3 i)):=by
 intro pins s σ H D I h
 refine wpAny_Assign_Name (thn (he pins s σ H _ I h) fun v s1 hx_=>?_) hs
 obtain⟨y,H1,I1,r1,q1⟩:=hx_
 exact Ymy I1 hN hi hx r1 (fun s2 I2=>⟨_,H1,I2,q1⟩) hf
end
structure It where
 go:Nat->Hp->Prop
 yld:Nat->Hp->V->Hp->Prop
 stop:Nat->Hp->Prop
def FpOk(X:Cx)(pins:List (Addr × Obj))(H:Hp)(b:Addr):Prop:=
 H b=none/\b≠X.env.locals/\b∉X.fs/\(b∈X.ex\/X.s₀.heap.objs.size<=b)/\(∀x c,X.env.cells.lookup x=some c->c≠b)/\∀p∈X.pn++pins,p.1≠b
theorem Inv.fpOk{X:Cx}{pins:List (Addr × Obj)}{σ:St}{H H':Hp}{s:Shared}{b:Addr}(I:Inv X pins σ H s)(hb:s.heap.objs.size<=b)(hn:H' b=none):FpOk X pins H' b:=by
 refine⟨hn,Nat.ne_of_gt (Qc I.lt hb),I.nofs hb,.inr (qy I.sz hb),fun x c e z=>?_,fun p hp z=>?_⟩
 ·obtain⟨v,q⟩:=I.cell x c e
  exact absurd (Qc q.lt (by rw[z];exact hb)) (Qe _)
 ·exact absurd (Qc (qk (I.pin p hp).1) (by rw[z];exact hb)) (Qe _)
structure Turn(P:Program)(w:World)(K:W.Frag)(tg:Expr)(J:It)(fp:List Addr)(it:Addr)(tn:Nat->Heap->Prop):Prop where
 mem:it∈fp
 obj:∀i h,tn i h->∀b∈fp,∃o,h.get? b=some o/\∀v,o.data≠.cell v
 keep:∀i h h',tn i h->(∀b∈fp,∀o,h.get? b=some o->h'.get? b=some o)->tn i h'
 item:∀(X:Cx),X.prog=P->X.w=w->X.K=K->X.calm=true->∀(i:Nat) (pins:List (Addr × Obj)) (s:Shared) (σ:St) (H:Hp) (E:Value->Shared->Prop),Inv X pins σ H s->(∀b∈fp,FpOk X pins H b)->tn i s.heap->J.go i H->
  wpAny (model P w) X.A (pyNext (.ref it)) (fun r s1=>∃u,r=some u/\
   wpAny (model P w) X.A (letOwnedTupleGo tg (.ref it) u) (fun _ s2=>∃x H',Inv X pins σ H' s2/\RelV x u/\J.yld i H x H'/\tn (i+1) s2.heap/\∀b∈fp,H' b=none) E s1) E s
 done:∀(X:Cx),X.prog=P->X.w=w->X.K=K->X.calm=true->∀(i:Nat) (pins:List (Addr × Obj)) (s:Shared) (σ:St) (H:Hp) (E:Value->Shared->Prop),Inv X pins σ H s->(∀b∈fp,FpOk X pins H b)->tn i s.heap->J.stop i H->
  wpAny (model P w) X.A (pyNext (.ref it)) (fun r s1=>r=none/\Inv X pins σ H s1) E s
 self:∀(A:Around) (i:Nat) (s:Shared) (Q:Value->Shared->Prop) (E:Value->Shared->Prop),tn i s.heap->Q (.ref it) s->wpAny (model P w) A (pyIter (.ref it)) Q E s
abbrev TI:=St->Hp->(It->Hp->Prop)->Prop
def PIE(X:Cx)(pins:List (Addr × Obj))(σ:St)(tg:Expr)(R:It->Hp->Prop)(itv:Value)(s2:Shared):Prop:=
 ∃(it:Addr) (fp:List Addr) (tn:Nat->Heap->Prop) (J:It) (H':Hp),itv=.ref it/\Inv X pins σ H' s2/\Turn X.prog X.w X.K tg J fp it tn/\tn 0 s2.heap/\(∀b∈fp,FpOk X pins H' b)/\R J H'
def PI(X:Cx)(tg iter:Expr)(wi:TI):Prop:=
 ∀(pins:List (Addr × Obj)) (s:Shared) (σ:St) (H:Hp) (R:It->Hp->Prop),Inv X pins σ H s->wi σ H R->
  wpAny (model X.prog X.w) X.A (eval iter X.env) (fun v s1=>wpAny (model X.prog X.w) X.A (pyIter v) (PIE X pins σ tg R) X.xe s1) X.xe s
theorem Yun{M:Model}{A:Around}{E:Value->Shared->Prop}{s:Shared}{tg:Expr}{it:Addr}{u:Value}{o:Obj}{n:String}{vs:Array Value}{Q:Unit->Shared->Prop}(ho:s.heap.get? it=some o)(hc:o.cls=.type n)(hd:o.data=.fields vs)
 (hn:["enumerate","zip","dict_itemiterator","dict_reverseitemiterator","odict_iterator","itertools.zip_longest","itertools.pairwise"].contains n=false) (hQ:Q () s):wpAny M A (letOwnedTupleGo tg (.ref it) u) Q E s:=by
 unfold letOwnedTupleGo
 cases tg<;>first
  | exact wpAny_pure hQ
  | (cases u<;>first
   | exact wpAny_pure hQ
   | (refine wpAny_bind (wpAny_load ho ?_)
      rw[hc,hd]
      show wpAny M A (if (["enumerate","zip","dict_itemiterator","dict_reverseitemiterator","odict_iterator","itertools.zip_longest","itertools.pairwise"].contains n&&vs[0]?==some (rawInt _))=true then _ else _) Q E s
      rw[if_neg (by intro h;rw[hn,Bool.false_and]at h;cases h)]
      exact wpAny_pure hQ))
def Itl(K:W.Frag)(a:Addr):It:=
 ⟨fun i H=>∃xs x,SqL K H a xs/\xs[i]?=some x,fun i H x H'=>H'=H/\∀xs,SqL K H a xs->xs[i]?=some x,fun i H=>∃xs,SqL K H a xs/\xs.length<=i⟩
def Itt(K:W.Frag)(a:Addr):It:=
 ⟨fun i H=>∃xs x,SqT K H a xs/\xs[i]?=some x,fun i H x H'=>H'=H/\∀xs,SqT K H a xs->xs[i]?=some x,fun i H=>∃xs,SqT K H a xs/\xs.length<=i⟩
def Itr(lo:Int)(n:Nat):It:=⟨fun i _=>i < n,fun i H x H'=>H'=H/\x=.int (lo+i),fun i _=>n<=i⟩
theorem Yo7{P:Program}{w:World}{K:W.Frag}{tg:Expr}(a it:Addr):Turn P w K tg (Itl K a) [it] it (fun i h=>h.IsListIter it a i) where
 mem:=by simp
 obj:=fun i h st b hb=>by
  have e:b=it:=by simpa using hb
  subst e
  obtain⟨o,e,c,d⟩:=st
  exact⟨o,e,fun v z=>by rw[d]at z;cases z⟩
 keep:=fun i h h' st k=>st.at fun o e=>k it (by simp) o e
 item:=by
  intro X hP hw hK hc i pins s σ H E I hf st hg
  subst hP hw hK
  obtain⟨xs,x,hq,hx⟩:=hg
  obtain⟨its,rv,p,hz⟩:=I.list hq
  obtain⟨u,hu,ru⟩:=rv.get hx
  obtain⟨f0,f1,f2,f3,f4,f5⟩:=hf it (by simp)
  refine wpAny_pyNext_list_item st p.isList (x:=u) (by simpa using hu) fun h' st' sb=>?_
  have I1:Inv X pins σ H { s with heap:=h' }:=I.turned (t':=s.toks) (fun b o hb e=>(sb.2 b hb).trans e) f0 f1 f3 f4 f5
  obtain⟨o,e,c,d⟩:=id st'
  exact⟨u,rfl,Yun (s:={ s with heap:=h' }) e c d (by decide) ⟨x,H,I1,ru,⟨rfl,fun ys hy=>by rw[I.list_inj hy hq];exact hx⟩,st',fun b hb=>(hf b hb).1⟩⟩
 done:=by
  intro X hP hw hK hc i pins s σ H E I hf st hg
  subst hP hw hK
  obtain⟨xs,hq,hx⟩:=hg
  obtain⟨its,rv,p,hz⟩:=I.list hq
  obtain⟨f0,f1,f2,f3,f4,f5⟩:=hf it (by simp)
  have hl:=rv.length
  exact wpAny_pyNext_list_end (I.ok.hd hc) st p.isList (by simp;lia) fun h' eb=>⟨rfl,I.turned (t':=s.toks) (fun b o hb e=>eb b o hb e) f0 f1 f3 f4 f5⟩
 self:=fun _ _ _ _ _ st h=>wpAny_pyIter_listiter st h
theorem Yn4{P:Program}{w:World}{K:W.Frag}{tg:Expr}(a it:Addr):Turn P w K tg (Itt K a) [it] it (fun i h=>h.IsTupleIter it a i) where
 mem:=by simp
 obj:=fun i h st b hb=>by
  have e:b=it:=by simpa using hb
  subst e
  obtain⟨o,e,c,d⟩:=st
  exact⟨o,e,fun v z=>by rw[d]at z;cases z⟩
 keep:=fun i h h' st k=>st.at fun o e=>k it (by simp) o e
 item:=by
  intro X hP hw hK hc i pins s σ H E I hf st hg
  subst hP hw hK
  obtain⟨xs,x,hq,hx⟩:=hg
  obtain⟨its,rv,p,hz⟩:=I.tuple hq
  obtain⟨u,hu,ru⟩:=rv.get hx
  obtain⟨f0,f1,f2,f3,f4,f5⟩:=hf it (by simp)
  refine wpAny_pyNext_tuple_item st (show s.heap.IsTuple a its.toArray from p) (x:=u) (by simpa using hu) fun h' st' sb=>?_
  have I1:Inv X pins σ H { s with heap:=h' }:=I.turned (t':=s.toks) (fun b o hb e=>(sb.2 b hb).trans e) f0 f1 f3 f4 f5
  obtain⟨o,e,c,d⟩:=id st'
  exact⟨u,rfl,Yun (s:={ s with heap:=h' }) e c d (by decide) ⟨x,H,I1,ru,⟨rfl,fun ys hy=>by rw[I.tuple_inj hy hq];exact hx⟩,st',fun b hb=>(hf b hb).1⟩⟩
 done:=by
  intro X hP hw hK hc i pins s σ H E I hf st hg
  subst hP hw hK
  obtain⟨xs,hq,hx⟩:=hg
  obtain⟨its,rv,p,hz⟩:=I.tuple hq
  obtain⟨f0,f1,f2,f3,f4,f5⟩:=hf it (by simp)
  have hl:=rv.length
  exact wpAny_pyNext_tuple_end (I.ok.hd hc) st (show s.heap.IsTuple a its.toArray from p) (by simp;lia) fun h' eb=>⟨rfl,I.turned (t':=s.toks) (fun b o hb e=>eb b o hb e) f0 f1 f3 f4 f5⟩
 self:=fun _ _ _ _ _ st h=>wpAny_pyIter_tupleiter st h
theorem Yn5{P:Program}{w:World}{K:W.Frag}{tg:Expr}(it:Addr)(lo:Int)(n:Nat):Turn P w K tg (Itr lo n) [it] it (fun i h=>IsRangeIter h it (lo+(i:Nat) * 1) ((n:Int) - (i:Nat)) 1) where
 mem:=by simp
 obj:=fun i h st b hb=>by
  have e:b=it:=by simpa using hb
  subst e
  exact⟨_,st,fun v z=>by
   have z':Data.fields _=Data.cell v:=z
   cases z'⟩
 keep:=fun i h h' st k=>k it (by simp) _ st
 item:=by
  intro X hP hw hK hc i pins s σ H E I hf st hg
  subst hP hw hK
  obtain⟨f0,f1,f2,f3,f4,f5⟩:=hf it (by simp)
  have W:=Walks.range (prog:=X.prog) (w:=X.w) (I.ok.hd hc) it lo 1 n
  refine W.item i s _ _ hg st fun v h' tk hv st' kk=>?_
  obtain⟨t,rfl⟩:=hv
  have I1:Inv X pins σ H { s with heap:=h',toks:=tk }:=I.turned (fun b o hb e=>kk b o (by simpa using hb) e) f0 f1 f3 f4 f5
  refine⟨_,rfl,Yun (s:={ s with heap:=h',toks:=tk }) (n:="range_iterator") st' rfl rfl (by decide) ⟨.int (lo+i),H,I1,⟨t,?_⟩,⟨rfl,rfl⟩,st',fun b hb=>(hf b hb).1⟩⟩
  rw[Int.mul_one]
 done:=by
  intro X hP hw hK hc i pins s σ H E I hf st hg
  subst hP hw hK
  obtain⟨f0,f1,f2,f3,f4,f5⟩:=hf it (by simp)
  exact wpAny_pyNext_range_end (I.ok.hd hc) st (by have:n<=i:=hg;lia) fun h' eb=>⟨rfl,I.turned (t':=s.toks) (fun b o hb e=>eb b o hb e) f0 f1 f3 f4 f5⟩
 self:=fun _ _ _ _ _ st h=>wpAny_pyIter_rangeiter st h
end L2
namespace L2
open PySem PySem.Spec PyProof.Rows
section
variable {X:Cx} {tg:Expr}
theorem Yr1{pins:List (Addr × Obj)}{σ:St}{H:Hp}{s:Shared}{R:It->Hp->Prop}{E:Value->Shared->Prop}{lo hi:Int}{t u v:Tok}{tk:Nat}(I:Inv X pins σ H s)(h1:-(2 ^ 62)<=lo)(h2:lo < 2 ^ 62)(h3:-(2 ^ 62)<=hi)(h4:hi < 2 ^ 62)
 (q:R (Itr lo (hi - lo).toNat) H):wpAny (model X.prog X.w) X.A (pyIter (.ref s.heap.objs.size)) (PIE X pins σ tg R) E { s with heap:=s.heap.push { cls:=.type "range",data:=.fields #[.int lo t,.int hi u,.int 1 v] },toks:=tk }:=by
 refine wpAny_pyIter_range (IsRange.new ..) (small_one h1 h2 h3 h4) ?_
 have I1:Inv X pins σ H { s with heap:=s.heap.push { cls:=.type "range",data:=.fields #[.int lo t,.int hi u,.int 1 v] },toks:=tk }:=I.kept fun b o e=>qd _ e
 refine⟨(s.heap.push { cls:=.type "range",data:=.fields #[.int lo t,.int hi u,.int 1 v] }).objs.size,[(s.heap.push { cls:=.type "range",data:=.fields #[.int lo t,.int hi u,.int 1 v] }).objs.size],_,_,H,rfl,
  I1.kept (t':=tk) fun b o e=>qd _ e,Yn5 _ lo (hi - lo).toNat,?_,fun b hb=>?_,q⟩
 ·have e1:lo+((0:Nat):Int) * 1=lo:=by simp
  have e2:(((hi - lo).toNat:Nat):Int) - ((0:Nat):Int)=Builtin.Range.rangeSize lo hi 1:=by rw[rangeSize_one];split<;>lia
  show IsRangeIter _ _ (lo+((0:Nat):Int) * 1) ((((hi - lo).toNat:Nat):Int) - ((0:Nat):Int)) 1
  rw[e1,e2]
  exact qo _ rfl
 ·have e:b=(s.heap.push { cls:=.type "range",data:=.fields #[.int lo t,.int hi u,.int 1 v] }).objs.size:=by simpa using hb
  subst e
  exact I1.fpOk (qs _) (I1.hok.fresh (qs _))
def Yz2(ta:TA):TI:=fun σ H R=>ta σ H fun vs H1=>∃j:Int,vs=[.int j]/\-(2 ^ 62)<=j/\j < 2 ^ 62/\R (Itr 0 j.toNat) H1
theorem Yo8{a:Expr}{ta:TA}{p pos:Pos}(hg:Gl X "range")(hm:X.mg "range"=none)(ha:PA X [a] ta)(hs:starEach [a] X.env=[(false,eval a X.env)]:=by rfl):PI X tg (.Call (.Name "range" p) [a] [] pos) (Yz2 ta):=by
 intro pins s σ H R I h
 refine Call_ (Yj2 I hg hm boot_range (PyProof.Rows.callWith_type1 (thn (ha pos pins s σ H _ I h) fun us s1 hx_=>?_) hs rfl))
 obtain⟨vs,H1,I1,r1,q1⟩:=hx_
 obtain⟨j,e,q1,q2,q⟩:=q1
 subst e
 cases r1 with
 | cons r rr=>
   cases rr
   obtain⟨t,rfl⟩:=r
   exact call_range_1 (Yr1 I1 (by lia) (by lia) q1 q2 (by simpa using q))
def tFor(wi:TI)(g:TG)(tb:TS):TS:=fun D σ H=>wi σ H fun J H1=>∃W:Nat->Nat->St->Hp->Prop,(∃m,W 0 m σ H1)/\∀i m σ H,W i m σ H->
 (J.stop i H/\D.nx σ H)\/(J.go i H/\∃N:St->Hp->Prop,(∀σ' H',N σ' H'->∃m',m' < m/\W (i+1) m' σ' H')/\∀x H',J.yld i H x H'->g x σ H' fun σ2 H2=>tb { D with nx:=N,ct:=N,bk:=D.nx } σ2 H2)
def Yj3(fp:List Addr)(h:Heap):List (Addr × Obj):=fp.filterMap fun b=>(h.get? b).map fun o=>(b,o)
theorem Yd6{fp:List Addr}{h:Heap}{b:Addr}{o:Obj}(hb:b∈fp)(e:h.get? b=some o):(b,o)∈Yj3 fp h:=List.mem_filterMap.mpr ⟨b,hb,by rw[e];rfl⟩
theorem Yo9{fp:List Addr}{h:Heap}{p:Addr × Obj}(hp:p∈Yj3 fp h):p.1∈fp/\h.get? p.1=some p.2:=by
 obtain⟨b,hb,e⟩:=List.mem_filterMap.mp hp
 cases q:h.get? b with
 | none=>rw[q]at e;cases e
 | some o=>
   rw[q]at e
   have e':(b,o)=p:=Option.some.inj e
   subst e'
   exact⟨hb,q⟩
theorem Inv.pinned{pins:List (Addr × Obj)}{σ:St}{H:Hp}{s:Shared}{fp:List Addr}(I:Inv X pins σ H s)(hf:∀b∈fp,FpOk X pins H b)(ho:∀b∈fp,∃o,s.heap.get? b=some o/\∀v,o.data≠.cell v):Inv X (pins++Yj3 fp s.heap) σ H s:=
 I.pins_of fun p hp=>(qt hp).elim (fun z=>I.pin p (Qi _ z)) fun z=>by
  obtain⟨hb,e⟩:=Yo9 z
  obtain⟨f0,f1,f2,_⟩:=hf p.1 hb
  obtain⟨o,e',d⟩:=ho p.1 hb
  rw[e]at e';cases e'
  exact⟨e,f0,f1,f2,d⟩
theorem Inv.unpinned{pins pl:List (Addr × Obj)}{σ:St}{H:Hp}{s:Shared}(I:Inv X (pins++pl) σ H s):Inv X pins σ H s:=I.pins_of fun p hp=>I.pin p (Qi _ (List.mem_append_left _ hp))
theorem Ytb{iter:Expr}{body:List Stmt}{wi:TI}{g:TG}{tb:TS}{pos:Pos}(hp:PassesOwn (model X.prog X.w) X.A X.env X.xe)(hc:X.calm=true)(hi:PI X tg iter wi)(hg:PG X tg g)(hb:PSs X body tb)
 (hs:∀x,foldedSetIterable iter X.env x=pure x:=by intro _;rfl):PS X (.For tg iter body [] pos) (tFor wi g tb):=by
 intro pins s σ H D I h
 refine wpAny_For (thn (hi pins s σ H _ I h) fun v s1 h1=>thn h1 fun itv s2 h2=>?_) hs
 obtain⟨it,fp,tn,J,H2,e,I2,T,st2,f2,W,⟨m0,w0⟩,turn⟩:=h2
 subst e
 have stat:∀{H':Hp},(∀b∈fp,H' b=none)->∀b∈fp,FpOk X pins H' b:=fun hn b hb=>⟨hn b hb,(f2 b hb).2⟩
 refine codeAny_forLoop_any (fun n s'=>∃i σ' H',Inv X pins σ' H' s'/\tn i s'.heap/\(∀b∈fp,H' b=none)/\W i n σ' H') ?_ m0 ⟨0,σ,H2,I2,st2,fun b hb=>(f2 b hb).1,w0⟩
 rintro n s3 ⟨i,σ3,H3,I3,st3,fr3,w3⟩
 rcases turn i n σ3 H3 w3 with⟨stop,qn⟩ | ⟨go,N,hN,step⟩
 ·refine wpAny_passesOwn hp (thn (T.done X rfl rfl rfl hc i pins s3 σ3 H3 X.xe I3 (stat fr3) st3 stop) fun r s4 hx_=>?_)
  obtain⟨hr,I4⟩:=hx_
  subst hr
  exact wpAny_execs_nil ⟨σ3,H3,I4,qn⟩
 ·refine wpAny_passesOwn hp (thn (T.item X rfl rfl rfl hc i pins s3 σ3 H3 X.xe I3 (stat fr3) st3 go) fun r s4 hx_=>?_)
  obtain⟨u,hr,h4⟩:=hx_
  subst hr
  refine wpAny_passesOwn hp (thn h4 fun _ s5 hx_=>?_)
  obtain⟨x,H5,I5,r5,y5,st5,fr5⟩:=hx_
  have I5':=I5.pinned (stat fr5) (T.obj _ _ st5)
  refine wpAny_passesOwn hp (thn (hg _ s5 σ3 H5 x u _ I5' r5 (step x H5 y5)) fun _ s6 hx_=>?_)
  obtain⟨σ6,H6,I6,q6⟩:=hx_
  refine wpAny_passesOwn hp (thn (hb _ s6 σ6 H6 _ I6 q6) fun f s7 q7=>?_)
  have again:∀{σ7:St} {H7:Hp},Inv X (pins++Yj3 fp s5.heap) σ7 H7 s7->N σ7 H7->∃m,m < n/\∃i σ' H',Inv X pins σ' H' s7/\tn i s7.heap/\(∀b∈fp,H' b=none)/\W i m σ' H':=fun {σ7 H7} I7 n7=>by
   obtain⟨m',hm,w7⟩:=hN σ7 H7 n7
   refine⟨m',hm,i+1,σ7,H7,I7.unpinned,T.keep _ _ _ st5 fun b hb o e=>(I7.pin (b,o) (Qi _ (Qi _ (Yd6 hb e)))).1,fun b hb=>?_,w7⟩
   obtain⟨o,e,d⟩:=T.obj _ _ st5 b hb
   exact(I7.pin (b,o) (Qi _ (Qi _ (Yd6 hb e)))).2.1
  cases f with
  | next=>obtain⟨σ7,H7,I7,n7⟩:=q7;exact again I7 n7
  | cont=>obtain⟨σ7,H7,I7,n7⟩:=q7;exact again I7 n7
  | brk=>obtain⟨σ7,H7,I7,q7⟩:=q7;exact⟨σ7,H7,I7.unpinned,q7⟩
  | ret v=>obtain⟨x7,σ7,H7,I7,r7,q7⟩:=q7;exact⟨x7,σ7,H7,I7.unpinned,r7,q7⟩
end
end L2
namespace L2
open PySem PySem.Spec PyProof.Rows
abbrev R2:=V->V->Hp->VK->Prop
def OpR(X:Cx)(f:Value->Value->Sem Value)(r:R2):Prop:=
 ∀(pins:List (Addr × Obj)) (s:Shared) (σ:St) (H:Hp) (x y:V) (v u:Value) (Q:VK),Inv X pins σ H s->RelV x v->RelV y u->r x y H Q->
  wpAny (model X.prog X.w) X.A (f v u) (EP X pins σ Q) X.xe s
def Ycw(X:Cx)(f:Value)(r:List V->Hp->VK->Prop):Prop:=
 ∀(pins:List (Addr × Obj)) (s:Shared) (σ:St) (H:Hp) (xs:List V) (us:List Value) (Q:VK),Inv X pins σ H s->Vals xs us->r xs H Q->
  wpAny (model X.prog X.w) X.A (call f us) (EP X pins σ Q) X.xe s
def TruR(X:Cx)(r:V->Hp->(Bool->Hp->Prop)->Prop):Prop:=
 ∀(pins:List (Addr × Obj)) (s:Shared) (σ:St) (H:Hp) (x:V) (v:Value) (Q:Bool->Hp->Prop),Inv X pins σ H s->RelV x v->r x H Q->
  wpAny (model X.prog X.w) X.A (truthy v) (TP X pins σ Q) X.xe s
def tOp(r:R2)(ta tb:TE):TE:=fun σ H Q=>ta σ H fun x H1=>tb σ H1 fun y H2=>r x y H2 Q
def rI(C:Int->Int->Prop)(g:Int->Int->V):R2:=fun x y H Q=>∃i j,x=.int i/\y=.int j/\C i j/\Q (g i j) H
def rI0(g:Int->Int->V):R2:=fun x y H Q=>∃i j,x=.int i/\y=.int j/\Q (g i j) H
section
variable {X:Cx} {a b c:Expr} {ta tb tc:TE} {pos:Pos}
theorem binT(ha:PE X a ta)(hb:PE X b tb){pins:List (Addr × Obj)}{s:Shared}{σ:St}{H:Hp}{R:V->V->Hp->Prop}(I:Inv X pins σ H s)
 (h:ta σ H fun x H1=>tb σ H1 fun y H2=>R x y H2) {Q:Value->Shared->Prop} {f:Value->Value->Sem Value}
 (hf:∀v u s2 x y H2,Inv X pins σ H2 s2->RelV x v->RelV y u->R x y H2->wpAny (model X.prog X.w) X.A (f v u) Q X.xe s2) :
 wpAny (model X.prog X.w) X.A (eval a X.env) (fun v s₁=>wpAny (model X.prog X.w) X.A (eval b X.env) (fun u s₂=>wpAny (model X.prog X.w) X.A (f v u) Q X.xe s₂) X.xe s₁) X.xe s:=by
 refine thn (ha pins s σ H _ I h) fun v s1 hx_=>?_
 obtain⟨x,H1,I1,r1,q1⟩:=hx_
 refine thn (hb pins s1 σ H1 _ I1 q1) fun u s2 hx_=>?_
 obtain⟨y,H2,I2,r2,q2⟩:=hx_
 exact hf v u s2 x y H2 I2 r1 r2 q2
theorem Yxd{op:Operator}{r:R2}(ho:OpR X (binaryOp op) r)(ha:PE X a ta)(hb:PE X b tb):PE X (.BinOp a op b pos) (tOp r ta tb):=by
 intro pins s σ H Q I h
 exact wpAny_BinOp (binT ha hb I h fun v u s2 x y H2 I2 rx ry q=>ho pins s2 σ H2 x y v u Q I2 rx ry q)
theorem opI{f:Value->Value->Sem Value}{C:Int->Int->Prop}{g:Int->Int->Int}
 (rule:∀(i j:Int) (t u:Tok) (s:Shared) (Q:Value->Shared->Prop) (E:Value->Shared->Prop),C i j->Q (.int (g i j) s.toks) { s with toks:=s.toks+1 }->wpAny (model X.prog X.w) X.A (f (.int i t) (.int j u)) Q E s) :
 OpR X f (rI C fun i j=>.int (g i j)):=by
 intro pins s σ H x y v u Q I rx ry h
 obtain⟨i,j,rfl,rfl,hc,q⟩:=h
 obtain⟨t,rfl⟩:=rx
 obtain⟨t',rfl⟩:=ry
 exact rule i j t t' s _ _ hc ⟨.int (g i j),H,I.tok _,⟨_,rfl⟩,q⟩
theorem opI0{f:Value->Value->Sem Value}{g:Int->Int->Int}
 (rule:∀(i j:Int) (t u:Tok) (s:Shared) (Q:Value->Shared->Prop) (E:Value->Shared->Prop),Q (.int (g i j) s.toks) { s with toks:=s.toks+1 }->wpAny (model X.prog X.w) X.A (f (.int i t) (.int j u)) Q E s) :
 OpR X f (rI0 fun i j=>.int (g i j)):=by
 intro pins s σ H x y v u Q I rx ry h
 obtain⟨i,j,rfl,rfl,q⟩:=h
 obtain⟨t,rfl⟩:=rx
 obtain⟨t',rfl⟩:=ry
 exact rule i j t t' s _ _ ⟨.int (g i j),H,I.tok _,⟨_,rfl⟩,q⟩
theorem opB0{f:Value->Value->Sem Value}{g:Int->Int->Bool}
 (rule:∀(i j:Int) (t u:Tok) (s:Shared) (Q:Value->Shared->Prop) (E:Value->Shared->Prop),Q (.bool (g i j)) s->wpAny (model X.prog X.w) X.A (f (.int i t) (.int j u)) Q E s) :
 OpR X f (rI0 fun i j=>.bl (g i j)):=by
 intro pins s σ H x y v u Q I rx ry h
 obtain⟨i,j,rfl,rfl,q⟩:=h
 obtain⟨t,rfl⟩:=rx
 obtain⟨t',rfl⟩:=ry
 exact rule i j t t' s _ _ ⟨.bl (g i j),H,I,rfl,q⟩
def CDiv(i j:Int):Prop:=0 < j/\j < 1073741824
def CMul(i j:Int):Prop:=(-(2 ^ 64) < i/\i < 2 ^ 64)\/(-(2 ^ 64) < j/\j < 2 ^ 64)
theorem CMul.ok{i j:Int}(h:CMul i j):IntMulOk i j:=by
 rcases h with⟨h1,h2⟩ | ⟨h1,h2⟩
 ·exact .of_left (intBits_le_64 h1 h2)
 ·exact .of_right (intBits_le_64 h1 h2)
theorem Yxe:OpR X (binaryOp .Add) (rI0 fun i j=>.int (i+j)):=opI0 fun _ _ _ _ _ _ _ q=>add_int q
theorem Yxf:OpR X (binaryOp .Mult) (rI CMul fun i j=>.int (i * j)):=opI fun _ _ _ _ _ _ _ hc q=>mul_int q hc.ok
theorem Yuo:OpR X (binaryOp .FloorDiv) (rI CDiv fun i j=>.int (i / j)):=opI fun i j _ _ _ _ _ hc q=>by
 have h1:(0:Int) < j:=hc.1
 have h2:j < 1073741824:=hc.2
 exact floordiv_int (by lia) (by rw[Int.fdiv_eq_ediv_of_nonneg i (by lia)];exact q) (.inl (PyProof.noPylong_small (by lia)))
theorem Yxg:OpR X (binaryOp .Mod) (rI (fun _ j=>0 < j) fun i j=>.int (i % j)):=opI fun i j _ _ _ _ _ hc q=>by
 have h1:(0:Int) < j:=hc
 exact mod_int' (by lia) (by rw[Int.fmod_eq_emod_of_nonneg i (by lia)];exact q)
end
def scal:V->V->Bool
 | .non,.non=>true | .non,.int _=>true | .int _,.non=>true | .non,.bl _=>true | .bl _,.non=>true | .non,.str _=>true | .str _,.non=>true
 | .int _,.int _=>true | .bl _,.bl _=>true | .str _,.str _=>true | .byt _,.byt _=>true
 | .int _,.str _=>true | .str _,.int _=>true | .bl _,.str _=>true | .str _,.bl _=>true
 | _,_=>false
section
variable {X:Cx} {a b c:Expr} {ta tb tc:TE} {pos:Pos}
theorem Ytc{pins:List (Addr × Obj)}{σ:St}{H:Hp}{s:Shared}{Q:VK}{k k':Bool}(I:Inv X pins σ H s)(q:Q (.bl k) H)(e:k=k'):EP X pins σ Q (.bool k') s:=by
 subst e
 exact⟨.bl k,H,I,rfl,q⟩
theorem Yz3:OpR X (compareOp .Lt) (rI0 fun i j=>.bl (decide (i < j))):=opB0 fun _ _ _ _ _ _ _ q=>lt_int q
theorem Yxh:OpR X (compareOp .Gt) (rI0 fun i j=>.bl (decide (j < i))):=opB0 fun _ _ _ _ _ _ _ q=>gt_int q
theorem Yz4:OpR X (compareOp .GtE) (rI0 fun i j=>.bl (decide (j<=i))):=opB0 fun _ _ _ _ _ _ _ q=>ge_int q
theorem Ytd:OpR X (compareOp .Is) (fun x y H Q=>y=.non/\Q (.bl (decide (x=.non))) H):=by
 intro pins s σ H x y v u Q I rx ry h
 obtain⟨rfl,q⟩:=h
 cases ry
 refine is_none_gen (Ytc I q ?_)
 cases x<;>first
  | (cases rx;rfl)
  | (obtain⟨t,rfl⟩:=rx;rfl)
theorem Ypa:OpR X (compareOp .IsNot) (fun x y H Q=>y=.non/\Q (.bl (!decide (x=.non))) H):=by
 intro pins s σ H x y v u Q I rx ry h
 obtain⟨rfl,q⟩:=h
 cases ry
 refine isnot_none_gen (Ytc I q ?_)
 cases x<;>first
  | (cases rx;rfl)
  | (obtain⟨t,rfl⟩:=rx;rfl)
theorem Ycx(b:Expr){op:CmpOp}(h:op≠.In:=by decide)(h2:op≠.NotIn:=by decide):behindInMarks op b=false:=by
 have e1:(op==CmpOp.In)=false:=by cases op<;>first | rfl | exact absurd rfl h
 have e2:(op==CmpOp.NotIn)=false:=by cases op<;>first | rfl | exact absurd rfl h2
 cases b with
 | Set elts k p=>
   show((k==0)&&((op==CmpOp.In)||(op==CmpOp.NotIn))&&_)=false
   rw[e1,e2]
   cases (k==0)<;>rfl
 | _=>rfl
theorem Ypb{op:CmpOp}{r:R2}(ho:OpR X (compareOp op) r)(ha:PE X a ta)(hb:PE X b tb)(hm:behindInMarks op b=false):PE X (.Compare a [op] [b] pos) (tOp r ta tb):=by
 intro pins s σ H Q I h
 exact wpAny_Compare1 (binT ha hb I h fun v u s2 x y H2 I2 rx ry q=>ho pins s2 σ H2 x y v u Q I2 rx ry q) hm
def Yxi(t:TE):TT:=fun σ H Q=>t σ H fun x H'=>∃k,x=.bl k/\Q k H'
theorem Yup{op:CmpOp}{r:R2}(ho:OpR X (compareOp op) r)(ha:PE X a ta)(hb:PE X b tb)(hm:behindInMarks op b=false):PT X (.Compare a [op] [b] pos) (Yxi (tOp r ta tb)):=by
 intro pins s σ H Q I h
 refine wpAny_isTrue_Compare1 (thn (ha pins s σ H _ I h) fun v s1 hx_=>?_) hm
 obtain⟨x,H1,I1,r1,q1⟩:=hx_
 refine thn (hb pins s1 σ H1 _ I1 q1) fun u s2 hx_=>?_
 obtain⟨y,H2,I2,r2,q2⟩:=hx_
 refine thn (ho pins s2 σ H2 x y v u _ I2 r1 r2 q2) fun c s3 hx_=>?_
 obtain⟨z,H3,I3,r3,k,e,q3⟩:=hx_
 subst e
 cases r3
 exact wpAny_truthy_bool ⟨H3,I3,q3⟩
def TruV(K:W.Frag)(x:V)(H:Hp)(k:Bool):Prop:=
 match x with
 | .non=>k=false
 | .bl b=>k=b
 | .int i=>k=(i != 0)
 | .str y=>y.length<=sizeLine/\k=((y.length:Int) != 0)
 | .byt y=>y.size<=sizeLine/\k=((y.size:Int) != 0)
 | .ref p=>(∃xs,SqL K H p xs/\k=!xs.isEmpty)\/(∃xs,SqT K H p xs/\k=!xs.isEmpty)\/∃kvs,H p=some (.dK kvs)/\k=!kvs.isEmpty
 | _=>False
theorem Yn6{κ:Type}{kvs:List (κ × V)}{vs:List (κ × Value)}(r:KV kvs vs):(!vs.isEmpty)=!kvs.isEmpty:=by
 cases r<;>rfl
theorem Yia{xs:List V}{its:List Value}(r:Vals xs its):(!its.toArray.isEmpty)=!xs.isEmpty:=by
 cases r<;>simp
theorem Yib:(sizeLine:Nat) < 2 ^ 63:=by rw[sizeLine_eq];decide
theorem Yxj:TruR X (fun x H Q=>∃k,TruV X.K x H k/\Q k H):=by
 intro pins s σ H x v Q I rx h
 obtain⟨k,e,q⟩:=h
 have hl:=Yib
 have hs:sizeLine=16777216:=sizeLine_eq
 cases x with
 | non=>
   cases rx
   have e':k=false:=e
   subst e'
   exact truthy_none ⟨H,I,q⟩
 | bl b=>
   cases rx
   have e':k=b:=e
   subst e'
   exact wpAny_truthy_bool ⟨H,I,q⟩
 | int i=>
   obtain⟨t,rfl⟩:=rx
   have e':k=(i != 0):=e
   subst e'
   exact PySem.P.truthy_int ⟨H,I,q⟩
 | str y=>
   obtain⟨t,rfl⟩:=rx
   obtain⟨hy,e'⟩:y.length<=sizeLine/\k=((y.length:Int) != 0):=e
   subst e'
   exact PySem.P.truthy_str (by lia) ⟨H,I.tok _,q⟩
 | byt y=>
   obtain⟨t,rfl⟩:=rx
   obtain⟨hy,e'⟩:y.size<=sizeLine/\k=((y.size:Int) != 0):=e
   subst e'
   exact W.truthy_bytes (by lia) ⟨H,I.tok _,q⟩
 | ref p=>
   cases rx
   have e':(∃xs,SqL X.K H p xs/\k=!xs.isEmpty)\/(∃xs,SqT X.K H p xs/\k=!xs.isEmpty)\/∃kvs,H p=some (.dK kvs)/\k=!kvs.isEmpty:=e
   rcases e' with⟨xs,hx,e'⟩ | ⟨xs,hx,e'⟩ | ⟨kvs,hx,e'⟩
   ·subst e'
    obtain⟨its,r,pl,hz⟩:=I.list hx
    have hlen:=r.length
    exact wpAny_truthy_list pl.isList (by simp only[qj];lia) ⟨H,I.tok _,by rw[Yia r];exact q⟩
   ·subst e'
    obtain⟨its,r,pl,hz⟩:=I.tuple hx
    have hlen:=r.length
    exact truthy_tuple pl (by simp only[qj];lia) ⟨H,I.tok _,by rw[Yia r];exact q⟩
   ·subst e'
    obtain⟨hz,hS,vs,r,m⟩:kvs.length<=sizeLine/\(p==sysModules)=false/\∃vs,KV kvs vs/\s.heap.DictOf (Ylo X.prog X.w) p vs:=I.hok p _ hx
    have hlen:kvs.length=vs.length:=Paired.length r
    exact wpAny_truthy_dict hS m (by lia) ⟨H,I.tok _,by rw[Yn6 r];exact q⟩
 | _=>exact(show False from e).elim
theorem Yr2(ha:PE X a ta)(he:∀whole,isTrue a X.env whole=(do let v <-whole;standAt a.pos;holding [v] (truthy v))) :
 PT X a (fun σ H Q=>ta σ H fun x H'=>∃k,TruV X.K x H' k/\Q k H'):=by
 intro pins s σ H Q I h
 refine isTrue_plain (thn (ha pins s σ H _ I h) fun v s1 hx_=>?_) (he _)
 obtain⟨x,H1,I1,r1,q1⟩:=hx_
 exact Yxj pins s1 σ H1 x v Q I1 r1 q1
theorem Ygj{x:V}{us:List Value}(r:Vals [x] us):∃u,us=[u]/\RelV x u:=by
 cases r with
 | cons r1 r2=>cases r2;exact⟨_,rfl,r1⟩
theorem Yr3{x y:V}{us:List Value}(r:Vals [x,y] us):∃u w',us=[u,w']/\RelV x u/\RelV y w':=by
 cases r with
 | cons r1 r2=>
   cases r2 with
   | cons r3 r4=>cases r4;exact⟨_,_,rfl,r1,r3⟩
theorem Ye3:Ycw X (.type "int") (fun xs H Q=>(∃i,xs=[.int i]/\Q (.int i) H)\/∃k,xs=[.bl k]/\Q (.int (if k then 1 else 0)) H):=by
 intro pins s σ H xs us Q I r h
 rcases h with⟨i,rfl,q⟩ | ⟨k,rfl,q⟩
 ·obtain⟨u,rfl,t,rfl⟩:=Ygj r
  exact call_int_int ⟨.int i,H,I,⟨_,rfl⟩,q⟩
 ·obtain⟨u,rfl,r1⟩:=Ygj r
  cases r1
  exact call_int_bool ⟨.int (if k then 1 else 0),H,I.tok _,⟨_,rfl⟩,q⟩
end
end L2
namespace L2
open PySem PySem.Spec PyProof.Rows
structure ObjM(h:Heap)(x dx C:Addr)(mA:Str->Option Value):Prop where
 obj:h.get? x=some (W.instObj C dx)
 ns:h.Ns1 dx mA
 ne:dx≠x
theorem Ypc{h:Heap}{dx:Addr}{mA:Str->Option Value}(n:h.Ns1 dx mA):∃od,h.get? dx=some od/\∀name,W.lookIn name od=some (mA name):=by
 obtain⟨o,es,ep,ho,hd,hk,_,hm⟩:=n
 refine⟨o,ho,fun name=>?_⟩
 have e:=hm name
 unfold nsFind findBy at e
 rw[<-Array.find?_toList]at e
 unfold W.lookIn
 rw[hd]
 dsimp only
 split
 ·rename_i y q
  rw[q]at e
  exact congrArg some e
 ·rename_i q
  rw[q]at e
  have a:es.toList.any (·.refKey)=false:=by
   rw[List.any_eq_false]
   intro y hy
   obtain⟨z,t,hkey⟩:=hk y (Array.mem_toList_iff.mp hy)
   simp[DictEntry.refKey,hkey]
  have a':¬es.toList.any (·.refKey)=true:=by rw[a];exact qh
  rw[if_neg a']
  exact congrArg some e
theorem ObjM.look{h:Heap}{x dx C:Addr}{mA:Str->Option Value}(I:ObjM h x dx C mA):∃od,W.InstAt h x (W.instObj C dx) C (some od)/\∀name,W.lookIn name od=some (mA name):=
 let ⟨od,ho,hl⟩:=Ypc I.ns
 ⟨od,⟨I.obj,rfl,rfl,ho⟩,hl⟩
section
variable {prog:Program} {w:World} {A:Around} {E:Value->Shared->Prop} {s:Shared} {K:W.Frag} {x dx C f:Addr} {mA:Str->Option Value} {name:Str} {v:Value}
theorem Yuq{expr:Bool}{Q:Value->Shared->Prop}(X:K.In s.heap)(I:ObjM s.heap x dx C mA)(hg:W.plainGet K C name=true)(hh:W.hasDictIn K C=true)
 (ha:W.findIn K (.ref C) name=some none) (hv:mA name=some v) (hv':W.handedIn v=true) (h:Q v { s with toks:=s.toks+1 }) :
 wpAny (model prog w) A (getAttr (.ref x) name expr) Q E s:=by
 obtain⟨od,J,hl⟩:=I.look
 exact W.get_value X J (W.plainGet_of hg).1 (W.findObj_own hh ha rfl (by rw[hl,hv])) hv' h
theorem Yr4{pl:Sem Bool}{Q:Value × List Value->Shared->Prop}(X:K.In s.heap)(I:ObjM s.heap x dx C mA)(hg:W.plainGet K C name=true)
 (hf:W.findIn K (.ref C) name=some (some (.ref f))) (ht:W.isFn K (.ref f)=true) (hv:mA name=none) (h:Q (.ref f,[.ref x]) s) :
 wpAny (model prog w) A (getMethod (.ref x) name pl) Q E s:=by
 obtain⟨od,J,hl⟩:=I.look
 exact W.method_fn X J (W.plainGet_of hg).1 (W.plainGet_of hg).2 hf (beq_iff_eq.mp ht) (by show(W.lookIn name od).map (·.isSome)=some false;rw[hl,hv];rfl) h
theorem Yur{ns:List Str}{Q:Unit->Shared->Prop}(X:K.In s.heap)(I:ObjM s.heap x dx C mA)
 (hs:W.findIn K (.ref C) "__setattr__"=some (some (.builtin "object.__setattr__"))) (hp:W.plainOver K C=true) (ht:W.takerIn K C name=some none) (hh:W.hasDictIn K C=true)
 (hw:PySem.Within mA ns) (hsz:ns.length<=sizeLine)
 (h:∀h',ObjM h' x dx C (fun y=>if y=name then some v else mA y)->Heap.SameBut dx s.heap h'->Q () { s with heap:=h',toks:=s.toks+2 }) :
 wpAny (model prog w) A (setAttr (.ref x) name v) Q E s:=by
 obtain⟨od,J,hl⟩:=I.look
 refine W.set_plain X J hs (W.osa_open (s:={ s with toks:=s.toks+1 }) (r:=none) X J hp ht fun b=>?_)
 obtain⟨cd,hc,hd'⟩:=W.any_some hh
 have hx:s.heap.get? x=some ⟨.ref C,some dx,.plain,#[]⟩:=I.obj
 refine wpAny_bind (wpAny_pure (wpAny_bind (wpAny_bind (wpAny_loadPart hx (wpAny_bind (W.Looks.here (s:={ s with toks:=s.toks+1 }) (W.looks_clsIn X hc) ?_))))))
 rw[hd']
 refine wpAny_pure (a:=some dx) (wpAny_bind (wpAny_pure (wpAny_bind ?_)))
 refine wpAny_nsSet1 (s:={ s with toks:=s.toks+1 }) I.ns fun h' hn2 hs2=>?_
 obtain⟨oD,esD,epD,hoD,hdD,hcD⟩:=hn2.count (PySem.Within.cons name v hw)
 refine wpAny_bind (wpAny_lookBehind hoD (by rw[hdD];exact pastItsLine_dict (qy hcD (by rw[qq];lia))) ?_)
 exact wpAny_pure (h _ ⟨(hs2.2 _ (Ne.symm I.ne)).trans I.obj,hn2,I.ne⟩ hs2)
theorem Yr5{R:Result->Shared->Prop}{vs:List Value}{kw:List (Str × Value)}(X:K.In s.heap)(hm:W.makesIn K C=true)
 (hi:W.findIn K (.ref C) "__init__"=some (some (.ref f))) (hf:W.typeIn K (.ref f)=some (.type "function"))
 (h:codeAny (model prog w) (A.under (.builtin "type.__call__" ⟨.ref C::vs,kw⟩)) (.call (.ref f) ⟨.ref (s.heap.objs.size+1)::vs,kw⟩) (W.InitBack (s.heap.objs.size+1) R)
  { s with heap:=(s.heap.push W.emptyDict).push (W.instObj C s.heap.objs.size) }) :
 codeAny (model prog w) A (.call (.ref C) ⟨vs,kw⟩) R s:=by
 obtain⟨hh,g,d,t,os⟩:=s
 exact W.make_core (W.makes_of X hm) (W.looks_findIn X hi) (fun self=>W.bind_fn X self hf) (.inl rfl) h
end
def putF(f:Str)(v:V):List (Str × V)->List (Str × V)
 | []=>[(f,v)]
 | (g,x)::r=>if g=f then (g,v)::r else (g,x)::putF f v r
theorem Ygk(f g:Str)(v:V):∀fs:List (Str × V),(putF f v fs).lookup g=if g=f then some v else fs.lookup g
 | []=>by
   show List.lookup g [(f,v)]=_
   by_cases h:g=f
   ·have hb:(g==f)=true:=beq_iff_eq.mpr h
    simp only[List.lookup,hb,if_pos h]
   ·have hb:(g==f)=false:=beq_eq_false_iff_ne.mpr h
    simp only[List.lookup,hb,if_neg h]
 | (k,x)::r=>by
   have ih:=Ygk f g v r
   rw[show putF f v ((k,x)::r)=(if k=f then (k,v)::r else (k,x)::putF f v r) from rfl]
   by_cases hk:k=f
   ·rw[if_pos hk]
    by_cases h:g=k
    ·have hb:(g==k)=true:=beq_iff_eq.mpr h
     simp only[List.lookup,hb,if_pos (h.trans hk)]
    ·have hb:(g==k)=false:=beq_eq_false_iff_ne.mpr h
     simp only[List.lookup,hb,if_neg (fun e:g=f=>h (e.trans hk.symm))]
   ·rw[if_neg hk]
    by_cases h:g=k
    ·have hb:(g==k)=true:=beq_iff_eq.mpr h
     simp only[List.lookup,hb,if_neg (fun e:g=f=>hk (h.symm.trans e))]
    ·have hb:(g==k)=false:=beq_eq_false_iff_ne.mpr h
     simp only[List.lookup,hb]
     exact ih
theorem Ygl(f:Str)(v:V):∀fs:List (Str × V),f∈(putF f v fs).map (·.1)/\∀g,g∈fs.map (·.1)->g∈(putF f v fs).map (·.1)
 | []=>⟨by simp[putF],fun g h=>by simp at h⟩
 | (k,x)::r=>by
   obtain⟨i1,i2⟩:=Ygl f v r
   rw[show putF f v ((k,x)::r)=(if k=f then (k,v)::r else (k,x)::putF f v r) from rfl]
   by_cases hk:k=f
   ·rw[if_pos hk]
    subst hk
    exact⟨by simp,fun g h=>by simpa using h⟩
   ·rw[if_neg hk]
    refine⟨?_,fun g h=>?_⟩
    ·rw[qz]
     exact qf _ i1
    ·rw[qz]at h ⊢
     rcases qr h with e | e
     ·exact List.mem_cons.mpr (.inl e)
     ·exact qf _ (i2 g e)
theorem Ygm(f:Str)(v:V):∀fs:List (Str × V),(putF f v fs).length<=fs.length+1
 | []=>by simp[putF]
 | (k,x)::r=>by
   have ih:=Ygm f v r
   rw[show putF f v ((k,x)::r)=(if k=f then (k,v)::r else (k,x)::putF f v r) from rfl]
   by_cases hk:k=f
   ·rw[if_pos hk,qq,qq];lia
   ·rw[if_neg hk,qq,qq];lia
theorem RelO.some_of{v:V}{o:Option Value}(r:RelO (some v) o):∃u,o=some u/\RelV v u:=by
 cases o with
 | none=>exact(show False from r).elim
 | some u=>exact⟨u,rfl,r⟩
theorem RelO.none_of{o:Option Value}(r:RelO none o):o=none:=by
 cases o with
 | none=>rfl
 | some u=>exact(show False from r).elim
theorem Ypd{v:V}{u:Value}(r:RelV v u):W.handedIn u=true:=by
 cases v with
 | non=>cases (show u=Value.none from r);rfl
 | bl b=>cases (show u=Value.bool b from r);rfl
 | int i=>obtain⟨t,e⟩:=(show ∃t,u=Value.int i t from r);cases e;rfl
 | str x=>obtain⟨t,e⟩:=(show ∃t,u=Value.str x t from r);cases e;rfl
 | byt b=>obtain⟨t,e⟩:=(show ∃t,u=Value.bytes b t from r);cases e;rfl
 | flt b=>obtain⟨t,e⟩:=(show ∃t,u=Value.float b t from r);cases e;rfl
 | ref a=>cases (show u=Value.ref a from r);rfl
 | ty n=>cases (show u=Value.type n from r);rfl
section
variable {P:Program} {w:World} {H H':Hp} {h h':Heap} {a C dx:Addr} {fs fs':List (Str × V)}
theorem Yir(hok:HOk P w H h)(e:H a=some (.ins C dx fs)):∃mA,ObjM h a dx C mA/\(∀f,RelO (fs.lookup f) (mA f))/\PySem.Within mA (fs.map (·.1))/\fs.length<=1000/\H dx=some (.own a):=by
 obtain⟨d,z,ne,ob,mA,n,r,q⟩:=(show ObjOk P w H h a (.ins C dx fs) from hok a _ e)
 exact⟨mA,⟨ob,n,ne⟩,r,q,z,d⟩
end
structure Cls(K:W.Frag)(C:Addr):Prop where
 pg:W.plainGet K C Str.empty=true
 hd:W.hasDictIn K C=true
 po:W.plainOver K C=true
 sa:W.findIn K (.ref C) "__setattr__"=some (some (.builtin "object.__setattr__"))
theorem Cls.get{K:W.Frag}{C:Addr}(c:Cls K C)(f:Str):W.plainGet K C f=true:=c.pg
def NoAttr(K:W.Frag)(C:Addr)(f:Str):Prop:=W.findIn K (.ref C) f=some none
theorem NoAttr.taker{K:W.Frag}{C:Addr}{f:Str}(n:NoAttr K C f):W.takerIn K C f=some none:=by
 unfold W.takerIn
 rw[show W.findIn K (.ref C) f=some none from n]
 rfl
structure Con(K:W.Frag)(C:Addr)(f:Str)(v:V)(u:Value):Prop where
 at_:W.findIn K (.ref C) f=some (some u)
 rel:RelV v u
 get:W.specialIn K u "__get__"=some none
 cp:W.copiedNames.contains f=false
structure Meth(K:W.Frag)(C:Addr)(m:Str)(f:Addr):Prop where
 at_:W.findIn K (.ref C) m=some (some (.ref f))
 fn:W.isFn K (.ref f)=true
 kp:W.keepIn K (.ref f)=true
section
variable {X:Cx} {pins:List (Addr × Obj)} {σ:St} {H:Hp} {s:Shared} {a C dx:Addr} {fs:List (Str × V)} {f:Str} {v:V} {A:Around} {E:Value->Shared->Prop}
theorem Yn7{b:Bool}{Q:Value->Shared->Prop}(I:Inv X pins σ H s)(e:H a=some (.ins C dx fs))(c:Cls X.K C)(n:NoAttr X.K C f)(l:fs.lookup f=some v)
 (h:∀u s',Inv X pins σ H s'->RelV v u->Q u s'):wpAny (model X.prog X.w) A (getAttr (.ref a) f b) Q E s:=by
 obtain⟨mA,O,r,_,_,_⟩:=Yir I.hok e
 obtain⟨u,hu,ru⟩:=RelO.some_of (v:=v) (o:=mA f) (by rw[<-l];exact r f)
 exact Yuq I.kIn O (c.get f) c.hd n hu (Ypd ru) (h u _ (I.tok _) ru)
theorem Yic{m:Str}{g:Addr}{pl:Sem Bool}{Q:Value × List Value->Shared->Prop}(I:Inv X pins σ H s)(e:H a=some (.ins C dx fs))(c:Cls X.K C)(k:Meth X.K C m g)(l:fs.lookup m=none)
 (h:Q (.ref g,[.ref a]) s):wpAny (model X.prog X.w) A (getMethod (.ref a) m pl) Q E s:=by
 obtain⟨mA,O,r,_,_,_⟩:=Yir I.hok e
 have hn:mA m=none:=RelO.none_of (by rw[<-l];exact r m)
 exact Yr4 I.kIn O (c.get m) k.at_ k.fn hn h
theorem Yn8{y:V}{u:Value}{Q:Unit->Shared->Prop}(I:Inv X pins σ H s)(e:H a=some (.ins C dx fs))(c:Cls X.K C)(n:NoAttr X.K C f)(hl:fs.length < 1000)(ry:RelV y u)
 (h:∀s',Inv X pins σ (upd H a (.ins C dx (putF f y fs))) s'->Q () s'):wpAny (model X.prog X.w) A (setAttr (.ref a) f u) Q E s:=by
 obtain⟨mA,O,r,wi,_,ho⟩:=Yir I.hok e
 have hz:(fs.map (·.1)).length<=sizeLine:=by rw[qe,sizeLine_eq];lia
 refine Yur I.kIn O c.sa c.po n.taker c.hd wi hz fun h' O' sb=>h _ ?_
 have hd:∃o,h'.get? dx=some o:=let ⟨o,_,_,e',_⟩:=O'.ns;⟨o,e'⟩
 refine I.write (x:=a) (e:=dx) (by rw[e];exact True.intro) (.inr ho) (fun b q hb z=>(sb.2 b hb).trans z) hd ?_
 refine⟨by rw[Yh O.ne];exact ho,?_,O.ne,O'.obj,_,O'.ns,fun g=>?_,fun g hg=>?_⟩
 ·have:=Ygm f y fs;lia
 ·show RelO ((putF f y fs).lookup g) (if g=f then some u else mA g)
  rw[Ygk]
  by_cases q:g=f
  ·rw[if_pos q,if_pos q];exact ry
  ·rw[if_neg q,if_neg q];exact r g
 ·by_cases q:g=f
  ·rw[q];exact(Ygl f y fs).1
  ·refine(Ygl f y fs).2 g (wi g fun z=>hg ?_)
   show(if g=f then some u else mA g)=none
   rw[if_neg q];exact z
theorem Inv.made(I:Inv X pins σ H s):Inv X pins σ (upd (upd H s.heap.objs.size (.own (s.heap.objs.size+1))) (s.heap.objs.size+1) (.ins C s.heap.objs.size []))
 { s with heap:=(s.heap.push W.emptyDict).push (W.instObj C s.heap.objs.size) }:=by
 have e1:(s.heap.push W.emptyDict).get? s.heap.objs.size=some W.emptyDict:=qo s.heap rfl
 have e2:((s.heap.push W.emptyDict).push (W.instObj C s.heap.objs.size)).get? (s.heap.objs.size+1)=some (W.instObj C s.heap.objs.size):=by
  have:=qo (s.heap.push W.emptyDict) (o:=W.instObj C s.heap.objs.size) rfl
  rwa [Heap.size_push]at this
 have e3:(s.heap.push W.emptyDict).Ns s.heap.objs.size (fun _=>none):=⟨W.emptyDict,#[],_,e1,rfl,(fun e he=>absurd he (by simp)),fun _=>rfl⟩
 have I1:=I.laid (a:=s.heap.objs.size) (o:=.own (s.heap.objs.size+1)) (h':=s.heap.push W.emptyDict) (t':=s.toks) (fun b u q=>qd _ q) (qs _) ⟨_,e1⟩
 refine I1.laid (a:=s.heap.objs.size+1) (o:=.ins C s.heap.objs.size []) (t':=s.toks) (fun b u q=>qd _ q) (Nat.le_of_eq (Heap.size_push _ _)) ?_
 have ne:s.heap.objs.size≠s.heap.objs.size+1:=ql (qx _)
 refine⟨by rw[Yh ne,Yo],Qb _,ne,e2,fun _=>none,(Heap.Ns1.of_empty e3).at fun o q=>qd _ q,fun _=>True.intro,fun y hy=>absurd rfl hy⟩
theorem Yus{prog:Program}{w:World}{env:Env}{e:Expr}{f:Str}{pos:Pos}{s:Shared}{Q:Value->Shared->Prop}(hb:attributeBase e f env (eval e env)=eval e env)
 (h:wpAny (model prog w) A (eval e env) (fun o s₁=>wpAny (model prog w) A (getAttr o f true) Q E s₁) E s):wpAny (model prog w) A (eval (.Attribute e f pos) env) Q E s:=
 Attribute_any_ h (by rw[arm_eval_Attribute,hb])
end
def tFld(K:W.Frag)(ta:TE)(f:Str):TE:=fun σ H Q=>ta σ H fun x H1=>∃a C dx fs v,x=.ref a/\H1 a=some (.ins C dx fs)/\Cls K C/\NoAttr K C f/\fs.lookup f=some v/\Q v H1
def sFld(K:W.Frag)(ta tv:TE)(f:Str):TS:=fun D σ H=>tv σ H fun y H1=>ta σ H1 fun x H2=>∃a C dx fs,x=.ref a/\H2 a=some (.ins C dx fs)/\Cls K C/\NoAttr K C f/\fs.length < 1000/\
 D.nx σ (upd H2 a (.ins C dx (putF f y fs)))
section
variable {X:Cx} {o e value:Expr} {f:Str} {pos pos' tpos:Pos} {ta tv:TE} {pins:List (Addr × Obj)} {σ:St} {H:Hp} {s:Shared} {A:Around} {E Q:Value->Shared->Prop} {c:Value} {b:Bool}
theorem Ype(he:PE X e ta)(hb:attributeBase e f X.env (eval e X.env)=eval e X.env):PE X (.Attribute e f pos) (tFld X.K ta f):=by
 intro pins s σ H Q I h
 refine Yus hb (thn (he pins s σ H _ I h) fun u s1 hx_=>?_)
 obtain⟨x,H1,I1,rx,a,C,dx,fs,v,ex,ea,c,n,l,q⟩:=hx_
 subst ex
 obtain rfl:u=Value.ref a:=rx
 exact Yn7 I1 ea c n l fun u' s2 I2 ru=>⟨v,H1,I2,ru,q⟩
theorem Ypf(ha:PE X o ta)(hv:PE X value tv)(hs:swapsWith value (some (.Attribute o f pos')) pos.line X.env=pure false):PS X (.Assign [.Attribute o f pos'] value pos) (sFld X.K ta tv f):=by
 intro pins s σ H D I h
 refine plainObj_wpAny_Assign_Attribute (thn (hv pins s σ H _ I h) fun u s1 hx_=>?_) hs
 obtain⟨y,H1,I1,ry,q⟩:=hx_
 refine thn (ha pins s1 σ H1 _ I1 q) fun ov s2 hx_=>?_
 obtain⟨x,H2,I2,rx,a,C,dx,fs,ex,ea,c,n,l,q2⟩:=hx_
 subst ex
 obtain rfl:ov=Value.ref a:=rx
 exact Yn8 I2 ea c n l ry fun s3 I3=>⟨σ,_,I3,q2⟩
inductive TyOf (K:W.Frag) (H:Hp):V->Value->Prop where
 | non:TyOf K H .non (.type "NoneType")
 | bl (x:Bool):TyOf K H (.bl x) (.type "bool")
 | int (i:Int):TyOf K H (.int i) (.type "int")
 | str (x:Str):TyOf K H (.str x) (.type "str")
 | flt (x:UInt64):TyOf K H (.flt x) (.type "float")
 | lst {a:Addr} {xs:List V} (e:H a=some (.lst xs)):TyOf K H (.ref a) (.type "list")
 | frz {a:Addr} {o:Obj} {xs:List V} (e:H a=some (.frz o (.lst xs))):TyOf K H (.ref a) (.type "list")
 | tup {a:Addr} {xs:List V} (e:H a=some (.tup xs)):TyOf K H (.ref a) (.type "tuple")
 | dK {a:Addr} {kvs:List (Key × V)} (e:H a=some (.dK kvs)):TyOf K H (.ref a) (.type "dict")
 | dT {a:Addr} {kvs:List (List Key × V)} (e:H a=some (.dT kvs)):TyOf K H (.ref a) (.type "dict")
 | ins {a C dx:Addr} {fs:List (Str × V)} (e:H a=some (.ins C dx fs)) (cl:Cls K C) (ha:W.findIn K (.ref C) "__class__"=some (some (.builtin "object.__class__")))
  (hn:W.specialIn K (.builtin "object.__class__") "__get__"=some (some (.builtin "getset_descriptor.__get__"))) (htk:W.takesIn K (.builtin "object.__class__")=some true)
  (hm:W.mroIn K C (.type "object")=some true):TyOf K H (.ref a) (.ref C)
theorem Ypg{x:V}{u t:Value}(I:Inv X pins σ H s)(rx:RelV x u)(ty:TyOf X.K H x t)(e:W.kitOne X.K t c=some b)(h:∀tk,Q (.bool b) { s with toks:=tk }) :
 wpAny (model X.prog X.w) A (call (.builtin "isinstance") [u,c]) Q E s:=by
 cases ty with
 | non=>cases (show u=Value.none from rx);exact W.kia_one W.kitx_none I.kIn True.intro e (fun z=>nomatch z) h
 | bl y=>cases (show u=Value.bool y from rx);exact W.kia_one W.kitx_bool I.kIn True.intro e (fun z=>nomatch z) h
 | int i=>obtain⟨t,q⟩:=(show ∃t,u=Value.int i t from rx);cases q;exact W.kia_one W.kitx_int I.kIn True.intro e (fun z=>nomatch z) h
 | str y=>obtain⟨t,q⟩:=(show ∃t,u=Value.str y t from rx);cases q;exact W.kia_one W.kitx_str I.kIn True.intro e (fun z=>nomatch z) h
 | flt y=>obtain⟨t,q⟩:=(show ∃t,u=Value.float y t from rx);cases q;exact W.kia_one W.kitx_float I.kIn True.intro e (fun z=>nomatch z) h
 | @lst a xs ea=>
   cases (show u=Value.ref a from rx)
   obtain⟨_,_,n,_,h1⟩:=(show ObjOk X.prog X.w H s.heap a (.lst xs) from I.hok a _ ea)
   exact W.kia_one W.kitx_list I.kIn ⟨_,h1,rfl⟩ e (fun z=>nomatch z) h
 | @frz a ob xs ea=>
   cases (show u=Value.ref a from rx)
   obtain⟨_,_,_,n,_,h1⟩:=(show ObjOk X.prog X.w H s.heap a (.frz ob (.lst xs)) from I.hok a _ ea)
   exact W.kia_one W.kitx_list I.kIn ⟨_,h1,rfl⟩ e (fun z=>nomatch z) h
 | @tup a xs ea=>
   cases (show u=Value.ref a from rx)
   obtain⟨_,_,_,p⟩:=(show ObjOk X.prog X.w H s.heap a (.tup xs) from I.hok a _ ea)
   obtain⟨o,h1,h2,_⟩:=p
   exact W.kia_one W.kitx_tuple I.kIn ⟨o,h1,h2⟩ e (fun z=>nomatch z) h
 | @dK a kvs ea=>
   cases (show u=Value.ref a from rx)
   obtain⟨_,_,vs,_,p⟩:=(show ObjOk X.prog X.w H s.heap a (.dK kvs) from I.hok a _ ea)
   obtain⟨o,es,ep,h1,h2,_⟩:=p
   exact W.kia_one W.kitx_dict I.kIn ⟨o,h1,h2.1⟩ e (fun z=>nomatch z) h
 | @dT a kvs ea=>
   cases (show u=Value.ref a from rx)
   obtain⟨_,_,xs,_,o,es,ep,h1,h2,_⟩:=(show ObjOk X.prog X.w H s.heap a (.dT kvs) from I.hok a _ ea)
   exact W.kia_one W.kitx_dict I.kIn ⟨o,h1,h2.1⟩ e (fun z=>nomatch z) h
 | @ins a C dx fs ea cl ha hn htk hm=>
   cases (show u=Value.ref a from rx)
   obtain⟨mA,O,_⟩:=Yir I.hok ea
   obtain⟨od,J,_⟩:=O.look
   exact W.kia_one (W.kitx_own (cl.get _) cl.hd ha hn htk hm) I.kIn J e (fun z=>nomatch z) h
end
end L2
namespace L2
open PySem PySem.Spec PyProof.Rows
structure Room(k:Nat)(A:Around):Prop where
 hd:A.handled=none
 dp:A.depth+3 * k+5 < recursionLimit
 un:A.units+16 * k+200 < cLine
theorem Room.mono{j k:Nat}{A:Around}(r:Room k A)(h:j<=k):Room j A:=⟨r.hd,by have:=r.dp;lia,by have:=r.un;lia⟩
theorem Room.deeper{k:Nat}{A:Around}(r:Room (k+1) A)(env:Env):Room k (A.deeper env):=
 ⟨r.hd,by have:=r.dp;show A.depth+1+3 * k+5 < _;lia,by have:=r.un;show A.units+3+16 * k+200 < _;lia⟩
theorem Yn9{A:Around}{C:Addr}{us:List Value}{kw:List (Str × Value)}:(A.under (.builtin "type.__call__" ⟨.ref C::us,kw⟩)).depth=A.depth+1:=by
 first | rfl | simp[Around.under,Code.weight,Code.isCreation,Code.isGuard,Code.isCaller,Code.frames,Code.isFrame,guardIds]
theorem Yoa{A:Around}{C:Addr}{us:List Value}{kw:List (Str × Value)}:(A.under (.builtin "type.__call__" ⟨.ref C::us,kw⟩)).units=A.units+1:=by
 first | rfl | simp[Around.under,Code.cUnits,Code.frames,Code.isFrame]
theorem Room.make{k:Nat}{A:Around}(r:Room (k+1) A)(C:Addr)(us:List Value)(kw:List (Str × Value)):Room k (A.under (.builtin "type.__call__" ⟨.ref C::us,kw⟩)):=
 ⟨r.hd,by have:=r.dp;rw[Yn9];lia,by have:=r.un;rw[Yoa];lia⟩
theorem Room.depth{k:Nat}{A:Around}(r:Room k A):A.depth < recursionLimit:=by have:=r.dp;lia
theorem Room.units{k:Nat}{A:Around}(r:Room k A):A.units+64 < cLine:=by have:=r.un;lia
def tNil:TA:=fun _ H Q=>Q [] H
def Yz5(ta:TE)(tr:TA):TA:=fun σ H Q=>ta σ H fun x H1=>tr σ H1 fun xs H2=>Q (x::xs) H2
section
variable {X:Cx} {e:Expr} {es:List Expr} {te:TE} {t:TA} {pos:Pos}
theorem Ybz:PA X [] tNil:=fun _ _ _ _ H Q I h=>Calls.spliced_nil ⟨[],H,I,.nil,h⟩
theorem Yas(ha:PE X e te)(hr:PA X es t)(hs:starEach (e::es) X.env=(false,eval e X.env)::starEach es X.env:=by rfl):PA X (e::es) (Yz5 te t):=by
 intro pos pins s σ H Q I h
 rw[hs]
 show wpAny _ _ (spliced ((false,eval e X.env)::backTo pos (starEach es X.env))) _ _ s
 refine Calls.spliced_cons (thn (ha pins s σ H _ I h) fun u s1 hx_=>?_)
 obtain⟨x,H1,I1,r1,q1⟩:=hx_
 refine thn (hr pos pins s1 σ H1 _ I1 q1) fun us s2 hx_=>?_
 obtain⟨xs,H2,I2,r2,q2⟩:=hx_
 exact⟨x::xs,H2,I2,.cons r1 r2,q2⟩
def tTup(t:TA):TE:=fun σ H Q=>t σ H fun xs H1=>xs.length<=sizeLine/\∀p,H1 p=none->Q (.ref p) (upd H1 p (.tup xs))
def tLst(t:TA):TE:=fun σ H Q=>t σ H fun xs H1=>xs.length<=sizeLine/\∀p,H1 p=none->Q (.ref p) (upd H1 p (.lst xs))
theorem Yxk{x1}(h:PA X es t):PE X (.Tuple es x1 pos) (tTup t):=by
 intro pins s σ H Q I hq
 refine wpAny_Tuple_spliced (thn (h pos pins s σ H _ I hq) fun us s1 ⟨xs,H1,I1,r,z,q⟩=>⟨by rw[<-r.length];exact z,?_⟩)
 have hf:H1 s1.heap.objs.size=none:=I1.hok.fresh (qs _)
 refine⟨.ref s1.heap.objs.size,upd H1 s1.heap.objs.size (.tup xs),I1.laid (t':=s1.toks) (fun b u e=>qd _ e) (qs _) ?_,rfl,q _ hf⟩
 exact⟨z,us,r,⟨_,qo _ rfl,rfl,_,rfl⟩⟩
theorem Yid(h:PA X es t):PE X (.List es pos) (tLst t):=by
 intro pins s σ H Q I hq
 refine wpAny_List_spliced (thn (h pos pins s σ H _ I hq) fun us s1 ⟨xs,H1,I1,r,z,q⟩=>⟨by rw[<-r.length];exact z,?_⟩)
 have hf:H1 s1.heap.objs.size=none:=I1.hok.fresh (qs _)
 refine⟨.ref s1.heap.objs.size,upd H1 s1.heap.objs.size (.lst xs),I1.laid (t':=s1.toks) (fun b u e=>qd _ e) (qs _) ?_,rfl,q _ hf⟩
 exact⟨z,us,0,r,qo _ rfl⟩
end
abbrev Sp:=List V->Hp->VK->XK->Prop
abbrev CXT:=List Env->Hp->Shared->XK->Value->Shared->Prop
structure Env0(P:Program)(w:World)(K:W.Frag)(mg:Str->Option Value)(base:Heap)(A:Around)(outer:List Env)(s:Shared)(H:Hp):Prop where
 frames:A.frames=some outer
 mod:Mod K mg base
 bs:∀b o,base.get? b=some o->s.heap.get? b=some o/\H b=none
 bsz:base.objs.size<=s.heap.objs.size
 funs:s.heap.FunFrames base outer
 frf:∀b∈frs outer,H b=none
 hok:HOk P w H s.heap
 bare:AllBare s.gens
def CE(outer:List Env)(P:Program)(w:World)(H:Hp)(s:Shared)(Q:VK)(u:Value)(s':Shared):Prop:=
 ∃v H',s'.os=s.os/\AllBare s'.gens/\Un (frs outer) [] H H' s.heap s'.heap/\HOk P w H' s'.heap/\RelV v u/\Q v H'
def CR(CX:CXT)(outer:List Env)(P:Program)(w:World)(H:Hp)(s:Shared)(Q:VK)(E:XK)(r:Result)(s':Shared):Prop:=
 match r with
 | .ok (.ret u)=>CE outer P w H s Q u s'
 | .ok _=>False
 | .error e=>CX outer H s E e s'
structure FnOk(P:Program)(w:World)(K:W.Frag)(mg:Str->Option Value)(base:Heap)(CX:CXT)(k:Nat)(f:Addr)(fd:FuncData)(ps:List Str)(sp:Sp):Prop where
 len:∀vs H Q E,sp vs H Q E->vs.length=ps.length
 run:∀(A:Around) (outer:List Env) (s:Shared) (H:Hp) (args:Args) (us:List Value) (vs:List V) (Q:VK) (E:XK),Room k A->Env0 P w K mg base A outer s H->BindsTo s fd args (ps.zip us)->Vals vs us->sp vs H Q E->
  codeAny (model P w) A (.call (.ref f) args) (CR CX outer P w H s Q E) s
theorem Env0.make{P:Program}{w:World}{K:W.Frag}{mg:Str->Option Value}{base:Heap}{A:Around}{outer:List Env}{s:Shared}{H:Hp}(e:Env0 P w K mg base A outer s H)(C:Addr)(us:List Value)(kw:List (Str × Value)) :
 Env0 P w K mg base (A.under (.builtin "type.__call__" ⟨.ref C::us,kw⟩)) outer s H:=⟨by first | exact e.frames | (simpa [Around.under,Code.envs,Code.isFrame,pushEnvs]using e.frames),e.mod,e.bs,e.bsz,e.funs,e.frf,e.hok,e.bare⟩
section
variable {X:Cx} {pins:List (Addr × Obj)} {σ:St} {H:Hp} {s s':Shared}
theorem Inv.env0(I:Inv X pins σ H s):Env0 X.prog X.w X.K X.mg X.base X.A X.stack s H:=
 ⟨I.ok.frames,I.ok.mod,I.bs,qy I.ok.bsz I.sz,I.stack,I.stkFree,I.hok,I.bare⟩
theorem Inv.after{Q:VK}{u:Value}(I:Inv X pins σ H s)(h:CE X.stack X.prog X.w H s Q u s'):EP X pins σ Q u s':=by
 obtain⟨v,H',os,bare,un,hok,r,q⟩:=h
 obtain⟨hh,g,d,t,os'⟩:=s'
 obtain rfl:os'=s.os:=os
 exact⟨v,H',I.call (h':=hh) (g':=g) (d':=d) (t':=t) (ch:=[]) un hok bare (fun b z=>absurd z (by simp)),r,q⟩
end
def Yz6(sp:Sp)(dvs:List V)(E:XK)(t:TA):TE:=fun σ H Q=>t σ H fun vs H1=>sp (vs++dvs) H1 Q E
def Yxl(C:Addr)(m:Str)(sp:Sp)(dvs:List V)(E:XK)(ta:TE)(t:TA):TE:=fun σ H Q=>ta σ H fun x H1=>∃a dx fs,x=.ref a/\H1 a=some (.ins C dx fs)/\fs.lookup m=none/\
 t σ H1 fun vs H2=>sp (x::(vs++dvs)) H2 Q E
def Yz7(C:Addr)(sp:Sp)(dvs:List V)(E:XK)(t:TA):TE:=fun σ H Q=>t σ H fun vs H1=>∀x dx,H1 x=none->H1 dx=none->dx≠x->
 sp (.ref x::(vs++dvs)) (upd (upd H1 dx (.own x)) x (.ins C dx [])) (fun v H2=>v=.non/\Q (.ref x) H2) E
def Binds(K:W.Frag)(fd:FuncData)(ps:List Str)(ds:List Value):Prop:=
 ∀(s:Shared) (us:List Value),K.In s.heap->(us++ds).length=ps.length->BindsTo s fd ⟨us,[]⟩ (ps.zip (us++ds))
theorem Binds.all{K:W.Frag}{fd:FuncData}{ps:List Str}(h:∀us:List Value,us.length=ps.length->bindArgs fd ⟨us,[]⟩=pure (ps.zip us)):Binds K fd ps []:=fun s us _ hl=>by
 rw[List.append_nil]at hl ⊢
 exact .of_eq (h us hl)
def Ygn(CX:CXT)(X:Cx)(E:XK):Prop:=∀(pins:List (Addr × Obj)) (σ:St) (H:Hp) (s:Shared) (e:Value) (s':Shared),Inv X pins σ H s->CX X.stack H s E e s'->X.xe e s'
section
variable {X:Cx} {CX:CXT} {k:Nat} {f C:Addr} {fd:FuncData} {ps:List Str} {sp:Sp} {dvs:List V} {ds:List Value} {E:XK} {x m:Str} {p pos apos:Pos} {e o:Expr} {es:List Expr} {ta:TE} {t:TA}
theorem Yph{pins:List (Addr × Obj)}{σ:St}{H:Hp}{s:Shared}{Q:VK}{us:List Value}{vs:List V}(F:FnOk X.prog X.w X.K X.mg X.base CX k f fd ps sp)(hr:Room k X.A)(hb:Binds X.K fd ps ds)(hd:Vals dvs ds)(hx:Ygn CX X E)
 (I:Inv X pins σ H s) (r:Vals vs us) (h:sp (vs++dvs) H Q E):wpAny (model X.prog X.w) X.A (call (.ref f) us) (EP X pins σ Q) X.xe s:=by
 have r2:Vals (vs++dvs) (us++ds):=r.append hd
 have hl:(us++ds).length=ps.length:=by rw[<-r2.length];exact F.len _ _ _ _ h
 refine wpAny_call (codeAny_mono (F.run X.A X.stack s H ⟨us,[]⟩ (us++ds) (vs++dvs) Q E hr I.env0 (hb s us I.kIn hl) r2 h) fun r s' hq=>?_)
 cases r with
 | error e=>exact hx pins σ H s e s' I hq
 | ok fl=>
   cases fl with
   | ret u=>exact I.after hq
   | next=>exact False.elim hq
   | brk=>exact False.elim hq
   | cont=>exact False.elim hq
theorem Yut(F:FnOk X.prog X.w X.K X.mg X.base CX k f fd ps sp)(hr:Room k X.A)(hg:Gl X x)(hm:X.mg x=some (.ref f))(hk:W.keepIn X.K (.ref f)=true)(hb:Binds X.K fd ps ds)(hd:Vals dvs ds)(hx:Ygn CX X E)
 (ha:PA X (e::es) t) (hdb:(x==("__debug__":Str))=false:=by decide) (he:starEach (e::es) X.env=(false,eval e X.env)::starEach es X.env:=by rfl) (hpl:(backTo pos (starEach es X.env)).any (·.1)=false:=by rfl) :
 PE X (.Call (.Name x p) (e::es) [] pos) (Yz6 sp dvs E t):=by
 intro pins s σ H Q I h
 refine wpAny_Call_Name_kw (Ylp I hg hm ?_ hdb)
 refine W.callWith_K (h₀:=X.base) I.ok.mod.kin hk (thn (ha pos pins s σ H _ I h) fun us s1 hx_=>?_) he hpl
 obtain⟨vs,H1,I1,r,q⟩:=hx_
 refine⟨I1.kIn,?_⟩
 exact Yph F hr hb hd hx I1 r q
theorem Yuu{pl:Sem Bool}(he:PE X o ta)(c:Cls X.K C)(hm:Meth X.K C m f)(F:FnOk X.prog X.w X.K X.mg X.base CX k f fd ps sp)(hr:Room k X.A)(hb:Binds X.K fd ps ds)(hd:Vals dvs ds)(hx:Ygn CX X E)(ha:PA X (e::es) t)
 (hst:starEach (e::es) X.env=(false,eval e X.env)::starEach es X.env:=by rfl) (hpl:(backTo pos (starEach es X.env)).any (·.1)=false:=by rfl)
 (ht:eval (.Call (.Attribute o m apos) (e::es) [] pos) X.env=(do
  let ov <-eval o X.env
  standAt apos.atName
  let (f,first) <-holding [ov] (getMethod ov m pl)
  callWith pos f first (backTo pos (starEach (e::es) X.env)) (backToKw pos (keywordEach [] X.env))):=by rfl) :
 PE X (.Call (.Attribute o m apos) (e::es) [] pos) (Yxl C m sp dvs E ta t):=by
 intro pins s σ H Q I h
 refine W.methodCall_KW (pl:=pl) (thn (he pins s σ H _ I h) fun u s1 hx_=>?_) ht
 obtain⟨x,H1,I1,rx,a,dx,fs,ex,ea,l,q⟩:=hx_
 subst ex
 obtain rfl:u=Value.ref a:=rx
 refine Yic I1 ea c hm l ?_
 refine W.callWith_K (first:=[.ref a]) (h₀:=X.base) I.ok.mod.kin hm.kp (thn (ha pos pins s1 σ H1 _ I1 q) fun us s2 hx_=>?_) hst hpl
 obtain⟨vs,H2,I2,r,q2⟩:=hx_
 refine⟨I2.kIn,?_⟩
 exact Yph (us:=.ref a::us) (vs:=.ref a::vs) F hr hb hd hx I2 (.cons rfl r) q2
theorem Ym0{pl:Sem Bool}(he:PE X o ta)(c:Cls X.K C)(hm:Meth X.K C m f)(F:FnOk X.prog X.w X.K X.mg X.base CX k f fd ps sp)(hr:Room k X.A)(hb:Binds X.K fd ps ds)(hd:Vals dvs ds)(hx:Ygn CX X E)
 (ht:eval (.Call (.Attribute o m apos) [] [] pos) X.env=(do
  let ov <-eval o X.env
  standAt apos.atName
  let (f,first) <-holding [ov] (getMethod ov m pl)
  callWith pos f first (backTo pos (starEach [] X.env)) (backToKw pos (keywordEach [] X.env))):=by rfl) :
 PE X (.Call (.Attribute o m apos) [] [] pos) (Yxl C m sp dvs E ta tNil):=by
 intro pins s σ H Q I h
 refine W.methodCall_KW (pl:=pl) (thn (he pins s σ H _ I h) fun u s1 hx_=>?_) ht
 obtain⟨x,H1,I1,rx,a,dx,fs,ex,ea,l,q⟩:=hx_
 subst ex
 obtain rfl:u=Value.ref a:=rx
 refine Yic I1 ea c hm l ?_
 exact W.callWith_K0 (first:=[.ref a]) I1.kIn hm.kp (Yph (us:=[.ref a]) (vs:=[.ref a]) F hr hb hd hx I1 (.cons rfl .nil) q)
structure Mk(K:W.Frag)(C f:Addr):Prop where
 makes:W.makesIn K C=true
 init:W.findIn K (.ref C) "__init__"=some (some (.ref f))
 fn:W.isFn K (.ref f)=true
 kp:W.keepIn K (.ref C)=true
theorem Yr6{pins:List (Addr × Obj)}{σ:St}{H:Hp}{s:Shared}{Q:VK}{us:List Value}{vs:List V}(M:Mk X.K C f)(F:FnOk X.prog X.w X.K X.mg X.base CX k f fd ps sp)(hr:Room (k+1) X.A)(hb:Binds X.K fd ps ds)(hd:Vals dvs ds)
 (hx:Ygn CX X E) (I:Inv X pins σ H s) (r:Vals vs us)
 (h:∀x dx,H x=none->H dx=none->dx≠x->sp (.ref x::(vs++dvs)) (upd (upd H dx (.own x)) x (.ins C dx [])) (fun v H2=>v=.non/\Q (.ref x) H2) E) :
 wpAny (model X.prog X.w) X.A (call (.ref C) us) (EP X pins σ Q) X.xe s:=by
 have hq:=h (s.heap.objs.size+1) s.heap.objs.size (I.hok.fresh (Nat.le_succ _)) (I.hok.fresh (qs _)) (ql (qx _))
 have I2:=Inv.made (C:=C) I
 have r2:Vals (V.ref (s.heap.objs.size+1)::(vs++dvs)) (Value.ref (s.heap.objs.size+1)::(us++ds)):=.cons rfl (r.append hd)
 have hl:(Value.ref (s.heap.objs.size+1)::us++ds).length=ps.length:=by
  have e:=r2.length
  rw[F.len _ _ _ _ hq]at e
  exact e.symm
 refine wpAny_call (Yr5 (f:=f) I.kIn M.makes M.init (beq_iff_eq.mp M.fn) (codeAny_mono (F.run _ X.stack _ _ ⟨Value.ref (s.heap.objs.size+1)::us,[]⟩ (Value.ref (s.heap.objs.size+1)::(us++ds)) _ _ E (hr.make C us [])
  (I2.env0.make C us []) (hb _ (Value.ref (s.heap.objs.size+1)::us) I2.kIn hl) r2 hq) fun r s' hq'=>?_))
 cases r with
 | error e=>exact hx pins σ _ _ e s' I2 hq'
 | ok fl=>
   cases fl with
   | ret u=>
     obtain⟨v,H',I3,rv,ev,q3⟩:=I2.after hq'
     subst ev
     exact⟨rv,⟨V.ref (s.heap.objs.size+1),H',I3,rfl,q3⟩⟩
   | next=>exact False.elim hq'
   | brk=>exact False.elim hq'
   | cont=>exact False.elim hq'
theorem Yuv(M:Mk X.K C f)(F:FnOk X.prog X.w X.K X.mg X.base CX k f fd ps sp)(hr:Room (k+1) X.A)(hg:Gl X x)(hm:X.mg x=some (.ref C))(hb:Binds X.K fd ps ds)(hd:Vals dvs ds)(hx:Ygn CX X E)
 (ha:PA X (e::es) t) (hdb:(x==("__debug__":Str))=false:=by decide) (he:starEach (e::es) X.env=(false,eval e X.env)::starEach es X.env:=by rfl) (hpl:(backTo pos (starEach es X.env)).any (·.1)=false:=by rfl) :
 PE X (.Call (.Name x p) (e::es) [] pos) (Yz7 C sp dvs E t):=by
 intro pins s σ H Q I h
 refine wpAny_Call_Name_kw (Ylp I hg hm ?_ hdb)
 refine W.callWith_K (h₀:=X.base) I.ok.mod.kin M.kp (thn (ha pos pins s σ H _ I h) fun us s1 hx_=>?_) he hpl
 obtain⟨vs,H1,I1,r,q⟩:=hx_
 refine⟨I1.kIn,?_⟩
 exact Yr6 M F hr hb hd hx I1 r q
end
section
variable {X:Cx} {CX:CXT} {k:Nat} {f C:Addr} {fd:FuncData} {ps ks:List Str} {sp:Sp} {E:XK} {x m:Str} {p pos apos kpos:Pos} {e o:Expr} {es:List Expr} {kws:List Keyword} {te ta:TE} {t tk:TA} {nm:Option Str}
structure KBinds(K:W.Frag)(fd:FuncData)(ps ks:List Str)(g:List Value->List Value->List Value)(gV:List V->List V->List V):Prop where
 to:∀(s:Shared) (us ws:List Value),K.In s.heap->(g us ws).length=ps.length->BindsTo s fd ⟨us,ks.zip ws⟩ (ps.zip (g us ws))
 rel:∀{vs:List V} {us:List Value} {zs:List V} {ws:List Value},Vals vs us->Vals zs ws->Vals (gV vs zs) (g us ws)
variable {g:List Value->List Value->List Value} {gV:List V->List V->List V}
end
structure FnScope(N P:List Str)(sc:Scope):Prop where
 kind:sc.kind=.function
 co:sc.isCoroutine=false
 gen:sc.isGenerator=false
 nd:N.Nodup
 pre:N.take P.length=P
 par:∀x∈P,sc.names.lookup x=some .local\/sc.names.lookup x=some .cell
 nofree:∀y∈sc.names,y.2≠.free
theorem Yj4{kindOf:Str->Option NameKind}{x:Str}:∀{binds:List (Str × Value)} {m:Str->Option Value},(∀v,(x,v)∉binds)->bindL kindOf binds m x=m x
 | [],_,_=>rfl
 | (n,v)::r,m,h=>by
   unfold bindL
   rw[Yj4 fun w hw=>h w (qf _ hw)]
   split
   ·have:x≠n:=by rintro rfl;exact h v qg
    simp[this]
   ·rfl
theorem Yj5{kindOf:Str->Option NameKind}{x:Str}:∀{binds:List (Str × Value)} {m:Str->Option Value},(∀v,(x,v)∉binds)->bindC kindOf binds m x=m x
 | [],_,_=>rfl
 | (n,v)::r,m,h=>by
   unfold bindC
   rw[Yj5 fun w hw=>h w (qf _ hw)]
   split
   ·rfl
   ·have:x≠n:=by rintro rfl;exact h v qg
    simp[this]
theorem Yj6{kindOf:Str->Option NameKind}{x:Str}{v:Value}:∀{P:List Str} {vs:List Value} {i:Nat} {m:Str->Option Value},P.Nodup->P[i]?=some x->vs[i]?=some v->kindOf x=some .local->
 bindL kindOf (P.zip vs) m x=some v
 | [],_,_,_,_,h,_,_=>by simp at h
 | _::_,[],_,_,_,_,h,_=>by simp at h
 | p::P,w::vs,0,m,nd,h1,h2,hk=>by
   simp at h1 h2;subst h1;subst h2
   show bindL kindOf ((p,w)::P.zip vs) m p=_
   unfold bindL
   rw[Yj4 fun v hv=>(List.nodup_cons.mp nd).1 (List.of_mem_zip hv).1,if_pos hk]
   simp
 | p::P,w::vs,i+1,m,nd,h1,h2,hk=>by
   show bindL kindOf ((p,w)::P.zip vs) m x=_
   unfold bindL
   exact Yj6 (i:=i) (List.nodup_cons.mp nd).2 (by simpa using h1) (by simpa using h2) hk
theorem Yj7{kindOf:Str->Option NameKind}{x:Str}{v:Value}:∀{P:List Str} {vs:List Value} {i:Nat} {m:Str->Option Value},P.Nodup->P[i]?=some x->vs[i]?=some v->kindOf x≠some .local->
 bindC kindOf (P.zip vs) m x=some v
 | [],_,_,_,_,h,_,_=>by simp at h
 | _::_,[],_,_,_,_,h,_=>by simp at h
 | p::P,w::vs,0,m,nd,h1,h2,hk=>by
   simp at h1 h2;subst h1;subst h2
   show bindC kindOf ((p,w)::P.zip vs) m p=_
   unfold bindC
   rw[Yj5 fun v hv=>(List.nodup_cons.mp nd).1 (List.of_mem_zip hv).1,if_neg hk]
   simp
 | p::P,w::vs,i+1,m,nd,h1,h2,hk=>by
   show bindC kindOf ((p,w)::P.zip vs) m x=_
   unfold bindC
   exact Yj7 (i:=i) (List.nodup_cons.mp nd).2 (by simpa using h1) (by simpa using h2) hk
def start(N:List Str)(vs:List V):St:=vs.map some++List.replicate (N.length - vs.length) none
def cxOf(CX:CXT)(P:Program)(w:World)(K:W.Frag)(mg:Str->Option Value)(base:Heap)(N:List Str)(qual:Str)(scope:Scope)(f:Addr)(cd:Value)(A:Around)(outer:List Env)(s:Shared)(H:Hp)(E:XK):Cx where
 prog:=P
 w:=w
 K:=K
 mg:=mg
 base:=base
 A:=A.deeper (envOfC qual scope s.heap.objs.size f cd)
 N:=N
 s₀:=s
 H₀:=H
 env:=envOfC qual scope s.heap.objs.size f cd
 outer:=outer
 stack:=envOfC qual scope s.heap.objs.size f cd::outer
 ex:=[]
 calm:=true
 fn:=fun _=>true
 pn:=[]
 xe:=fun e s'=>wpAny (model P w) (A.deeper (envOfC qual scope s.heap.objs.size f cd)) (leaving (envOfC qual scope s.heap.objs.size f cd) e) (fun _ s''=>CX outer H s E e s'') (fun e' s''=>CX outer H s E e' s'') s'
theorem Ym1{sc:Scope}{n:Nat}{x:Str}(h:sc.names.lookup x=some .cell):∃c,(cellsFrom n sc.names []).lookup x=some c:=by
 have q:=PySem.W.cellsFrom_some sc.names n [] (.inl h)
 exact Option.isSome_iff_exists.mp q
theorem Ypi{CX:CXT}{P:Program}{w:World}{K:W.Frag}{mg:Str->Option Value}{base:Heap}{N ps:List Str}{qual:Str}{scope:Scope}{f:Addr}{cd:Value}{A:Around}{outer:List Env}{s s1:Shared}{H:Hp}{E:XK}{us:List Value}{vs:List V}
 (S:FnScope N ps scope) (hd:A.handled=none) (e0:Env0 P w K mg base A outer s H) (hl:vs.length=ps.length) (r:Vals vs us)
 (x:InCallC s s.heap.objs.size (bindL (envOfC qual scope s.heap.objs.size f cd).kindOf (ps.zip us) fun _=>none) (cellsFrom (s.heap.objs.size+1) scope.names []) (bindC (envOfC qual scope s.heap.objs.size f cd).kindOf (ps.zip us) fun _=>none) s1) :
 Inv (cxOf CX P w K mg base N qual scope f cd A outer s H E) [] (start N vs) H s1:=by
 have hpl:ps.length<=N.length:=by have:=congrArg List.length S.pre;rw[List.length_take]at this;lia
 obtain⟨h1,tk,rfl,hk⟩:=x.done
 have noA:∀b:Addr,b∉(cxOf CX P w K mg base N qual scope f cd A outer s H E).ex:=fun b z=>absurd (show b∈([]:List Addr) from z) (by simp)
 refine⟨⟨e0.mod,S.kind,rfl,rfl,qs _,fun y z c h1 h2=>?_,fun y hy=>?_,fun y c _ h=>?_,fun _=>hd,Around.frames_deeper e0.frames,.inr ⟨rfl,rfl⟩,fun b z=>absurd z (noA b),e0.bs,e0.bsz,fun b _ _=>noA b,fun b z=>absurd z (noA b),e0.funs,e0.frf⟩,
  rfl,e0.bare,Un.kept hk,⟨_,x.toInCall.ns,fun i y v h1 h2 h3=>?_⟩,fun y c h=>⟨_,x.cell y c h⟩,e0.hok.fresh (qs _),fun y c h=>?_,fun p hp=>absurd (show p∈([]:List (Addr × Obj)) from hp) (by simp),e0.hok.kept hk,?_⟩
 ·exact name_of_addr x.apart (PySem.mem_of_lookup h1) (PySem.mem_of_lookup h2)
 ·have hy:scope.names.lookup y=some .cell\/scope.names.lookup y=some .free:=hy
  rcases hy with hy | hy
  ·exact Ym1 hy
  ·exact absurd rfl (S.nofree _ (PySem.mem_of_lookup hy))
 ·exact Nat.le_of_lt (x.above y c (PySem.mem_of_lookup h))
 ·have hi:i < vs.length:=by
   unfold start at h2
   by_cases hi:i < vs.length
   ·exact hi
   ·rw[List.getElem?_append_right (by simpa using hi)]at h2
    rw[List.getElem?_replicate]at h2
    split at h2<;>cases h2
  have ha:vs[i]?=some v:=by
   unfold start at h2
   rw[List.getElem?_append_left (by simpa using hi),Qd]at h2
   cases e:vs[i]? with
   | none=>rw[e]at h2;cases h2
   | some a=>rw[e]at h2;cases h2;rfl
  obtain⟨u,hu,rv⟩:=r.get ha
  have hp:ps[i]?=some y:=by
   rw[<-S.pre,List.getElem?_take_of_lt (by lia)];exact h1
  have ndP:ps.Nodup:=by rw[<-S.pre];exact S.nd.sublist (List.take_sublist _ _)
  refine⟨u,rv,?_⟩
  rcases S.par y (Qh hp)with k | k
  ·exact .inl ⟨k,Yj6 ndP hp hu k⟩
  ·obtain⟨c,e⟩:=Ym1 (n:=s.heap.objs.size+1) k
   refine .inr ⟨.inl k,c,e,?_⟩
   have q:=x.cell y c e
   rw[Yj7 ndP hp hu (by show scope.names.lookup y≠_;rw[k];decide)]at q
   exact q
 ·exact e0.hok.fresh (Nat.le_of_lt (x.above y c (PySem.mem_of_lookup h)))
 ·unfold start
  show _=N.length
  rw[qw,qe,List.length_replicate]
  lia
theorem Yz8{CX:CXT}{P:Program}{w:World}{K:W.Frag}{mg:Str->Option Value}{base:Heap}{k:Nat}{f:Addr}{name qual:Str}{params:Arguments}{body:List Stmt}{scope:Scope}{dV kV doc pm cdv ct oc:Value}{an od:Option Addr}
 {osl:Array (Option Value)} {N ps:List Str} {sp:Sp} (lk:K.lookup f=some ⟨oc,od,.func (W.fnOf name qual params body scope dV kV doc pm an cdv ct),osl⟩) (hcd:W.codeIn K cdv qual=true) (S:FnScope N ps scope)
 (len:∀vs H Q E,sp vs H Q E->vs.length=ps.length)
 (hbody:∀(A:Around) (outer:List Env) (s:Shared) (H:Hp) (vs:List V) (Q:VK) (E:XK),Room k (A.deeper (envOfC qual scope s.heap.objs.size f cdv))->sp vs H Q E->
  ∃t,PSs (cxOf CX P w K mg base N qual scope f cdv A outer s H E) body t/\t { nx:=fun _ H'=>Q .non H',rt:=Q } (start N vs) H) :
 FnOk P w K mg base CX (k+1) f (W.fnOf name qual params body scope dV kV doc pm an cdv ct) ps sp:=by
 refine⟨len,fun A outer s H args us vs Q E hr e0 hb r hsp=>?_⟩
 have hl:=len _ _ _ _ hsp
 have KX:K.In s.heap:=e0.mod.kin.keeps fun b o e=>(e0.bs b o e).1
 have lim:s.heap.NoLimit:=e0.mod.nolimit.keeps fun b o e=>(e0.bs b o e).1
 have hkind:∀y∈ps.zip us,scope.names.lookup y.1=some .local\/(scope.names.lookup y.1=some .cell/\((cellsFrom (s.heap.objs.size+1) scope.names []).lookup y.1).isSome=true):=fun⟨n,v⟩ hy=>by
  rcases S.par n (List.of_mem_zip hy).1 with q | q
  ·exact .inl q
  ·exact .inr ⟨q,PySem.W.cellsFrom_some _ _ _ (.inl q)⟩
 refine codeAny_call_function hr.depth (KX _ _ lk) rfl S.co S.gen rfl (W.codeRec_of KX hcd) (hb _ _ _ _ ?_)
 refine wpAny_newFunctionEnv_cells S.kind hkind fun env he s1 x=>?_
 subst he
 refine⟨lim.keeps x.toInCall.keep,codeAny_func ?_⟩
 obtain⟨t,ht,hq⟩:=hbody A outer s H vs Q E (hr.deeper _) hsp
 have I:Inv (cxOf CX P w K mg base N qual scope f cdv A outer s H E) [] (start N vs) H s1:=Ypi S hr.hd e0 hl r x
 refine wpAny_mono (ht [] s1 (start N vs) H _ I hq) (fun fl s' hs=>?_) fun e s' hs=>hs
 have fin:∀{σ':St} {H':Hp} {v:V} {u:Value},Inv (cxOf CX P w K mg base N qual scope f cdv A outer s H E) [] σ' H' s'->RelV v u->Q v H'->CE outer P w H s Q u s':=
  fun {σ' H' v u} J rv q=>⟨v,H',J.os,J.bare,J.base,J.hok,rv,q⟩
 cases fl with
 | ret u=>
   obtain⟨v,σ',H',J,rv,q⟩:=hs
   exact fin J rv q
 | next=>
   obtain⟨σ',H',J,q⟩:=hs
   exact fin (v:=V.non) (u:=Value.none) J rfl q
 | brk=>
   obtain⟨_,_,_,q⟩:=hs
   exact False.elim q
 | cont=>
   obtain⟨_,_,_,q⟩:=hs
   exact False.elim q
end L2
namespace L2
open PySem PySem.Spec PyProof.Rows
section
variable {X:Cx} {x:Str} {p pos:Pos} {e:Expr} {es:List Expr} {t:TA} {id T:String} {r:List V->Hp->VK->Prop}
def tCB(r:List V->Hp->VK->Prop)(t:TA):TE:=fun σ H Q=>t σ H fun vs H1=>r vs H1 Q
theorem Ygd(hc:Ycw X (.builtin id) r)(hg:Gl X x)(hm:X.mg x=none)(hv:bootBuiltins x=some (.builtin id))(ha:PA X (e::es) t)(hn:x≠"__name__":=by decide)(hdb:(x==("__debug__":Str))=false:=by decide)
 (he:starEach (e::es) X.env=(false,eval e X.env)::starEach es X.env:=by rfl) (hpl:(backTo pos (starEach es X.env)).any (·.1)=false:=by rfl):PE X (.Call (.Name x p) (e::es) [] pos) (tCB r t):=by
 intro pins s σ H Q I h
 refine wpAny_Call_Name_kw (Yj2 I hg hm hv ?_ hn hdb)
 refine PyProof.Rows.callWith_builtin1 (thn (ha pos pins s σ H _ I h) fun us s1 hx_=>?_) he hpl
 obtain⟨vs,H1,I1,r1,q1⟩:=hx_
 exact hc pins s1 σ H1 vs us Q I1 r1 q1
theorem Ygo(hc:Ycw X (.type T) r)(hg:Gl X x)(hm:X.mg x=none)(hv:bootBuiltins x=some (.type T))(ha:PA X (e::es) t)(hn:x≠"__name__":=by decide)(hdb:(x==("__debug__":Str))=false:=by decide)
 (he:starEach (e::es) X.env=(false,eval e X.env)::starEach es X.env:=by rfl) (hpl:(backTo pos (starEach es X.env)).any (·.1)=false:=by rfl):PE X (.Call (.Name x p) (e::es) [] pos) (tCB r t):=by
 intro pins s σ H Q I h
 refine wpAny_Call_Name_kw (Yj2 I hg hm hv ?_ hn hdb)
 refine PyProof.Rows.callWith_type1 (thn (ha pos pins s σ H _ I h) fun us s1 hx_=>?_) he hpl
 obtain⟨vs,H1,I1,r1,q1⟩:=hx_
 exact hc pins s1 σ H1 vs us Q I1 r1 q1
end
end L2
namespace L2
open PySem PySem.Spec PyProof.Rows
section
variable {κ:Type} [DecidableEq κ]
theorem RelO.isSome_eq{o:Option V}{u:Option Value}(r:RelO o u):o.isSome=u.isSome:=by
 cases o with
 | none=>cases u with
   | none=>rfl
   | some _=>exact(show False from r).elim
 | some _=>cases u with
   | none=>exact(show False from r).elim
   | some _=>rfl
end
def Yte:List (TE × TE)->St->Hp->(List (V × V)->Hp->Prop)->Prop
 | [],_,H,Q=>Q [] H
 | (tk,tv)::r,σ,H,Q=>tk σ H fun x H1=>tv σ H1 fun y H2=>Yte r σ H2 fun ps H3=>Q ((x,y)::ps) H3
abbrev VV:List (V × V)->List (Value × Value)->Prop:=Paired fun p q=>RelV p.1 q.1/\RelV p.2 q.2
def PPs(X:Cx)(pos:Pos)(keys:List (Option Expr))(values:List Expr)(trs:List (TE × TE)):Prop:=
 ∀(pins:List (Addr × Obj)) (s:Shared) (σ:St) (H:Hp) (Q:List (V × V)->Hp->Prop),Inv X pins σ H s->Yte trs σ H Q->
  wpAny (model X.prog X.w) X.A (evalPairs (pairTrees keys values X.env pos)) (fun vs s'=>∃ps H',Inv X pins σ H' s'/\VV ps vs/\Q ps H') X.xe s
structure M1(X:Cx)(o:Expr)(m:Str)(apos:Pos)(e:Expr)(cpos:Pos):Prop where
 base:attributeBase o m X.env (eval o X.env)=eval o X.env
 few:((backTo cpos (starEach [e] X.env)).all (fun x=>!x.1)&&(backToKw cpos (keywordEach [] X.env)).all (fun x=>x.1.isSome)
  &&decide (([e]:List Expr).length+([]:List Keyword).length+(if ([]:List Keyword).isEmpty then 0 else 1) < 30))=true
 line:(apos.endLine==cpos.line)=true
 trees:backTo cpos (starEach [e] X.env)=[(false,eval e X.env)]
structure M2(X:Cx)(o:Expr)(m:Str)(apos:Pos)(e f:Expr)(cpos:Pos):Prop where
 base:attributeBase o m X.env (eval o X.env)=eval o X.env
 few:((backTo cpos (starEach [e,f] X.env)).all (fun x=>!x.1)&&(backToKw cpos (keywordEach [] X.env)).all (fun x=>x.1.isSome)
  &&decide (([e,f]:List Expr).length+([]:List Keyword).length+(if ([]:List Keyword).isEmpty then 0 else 1) < 30))=true
 line:(apos.endLine==cpos.line)=true
 trees:backTo cpos (starEach [e,f] X.env)=[(false,eval e X.env),(false,eval f X.env)]
end L2
namespace HT
open PySem PyProof.Rows
section
variable {prog:Program} {w:World} {A:Around} {E:Value->Shared->Prop} {s:Shared}
def sIx(n d:Nat):Option Int->Nat
 | none=>d
 | some v=>if v < 0 then (v+(n:Int)).toNat else min v.toNat n
theorem sIx_nat(n d k:Nat):sIx n d (some (k:Int))=min k n:=by
 show(if (k:Int) < 0 then ((k:Int)+(n:Int)).toNat else min (k:Int).toNat n)=min k n
 rw[if_neg (by lia),Int.toNat_natCast]
end
end HT
namespace L2
open PySem PySem.Spec PyProof.Rows
abbrev TO:=St->Hp->(Option Int->Hp->Prop)->Prop
def PO(X:Cx)(e:Option Expr)(t:TO):Prop:=
 ∀(pins:List (Addr × Obj)) (s:Shared) (σ:St) (H:Hp) (Q:Option Int->Hp->Prop),Inv X pins σ H s->t σ H Q->
  wpAny (model X.prog X.w) X.A (evalPart e X.env) (fun u s'=>∃o H',Inv X pins σ H' s'/\IsPart u o/\Q o H') X.xe s
def Yuw:TO:=fun _ H Q=>Q none H
def Yxm(t:TE):TO:=fun σ H Q=>t σ H fun x H1=>∃i,x=.int i/\Q (some i) H1
theorem Yfo{ns:List Int}:∀{us:List Value},Vals (ns.map V.int) us->IntsAre us ns:=by
 induction ns with
 | nil=>intro us r;rw[List.map_nil]at r;cases r;exact .nil
 | cons n ns ih=>
   intro us r
   rw[qz]at r
   cases r with
   | cons r1 r2=>
     obtain⟨t,e⟩:=r1
     subst e
     exact .cons n t (ih r2)
section
variable {X:Cx} {e:Expr} {te:TE} {lo hi:Option Expr} {tl th:TO} {pos p2:Pos}
theorem Yux(h:PE X e te):PO X (some e) (Yxm te):=by
 intro pins s σ H Q I hw
 rw[evalPart_some]
 refine thn (h pins s σ H _ I hw) fun u s1 hx_=>?_
 obtain⟨x,H1,I1,r1,q1⟩:=hx_
 obtain⟨i,rfl,q⟩:=q1
 obtain⟨t,rfl⟩:=r1
 exact⟨some i,H1,I1,.int i t,q⟩
def SlR(X:Cx)(r:V->Option Int->Option Int->Hp->VK->Prop):Prop:=
 ∀(pins:List (Addr × Obj)) (s:Shared) (σ:St) (H:Hp) (x:V) (v vl vu:Value) (lo hi:Option Int) (sl:Addr) (Q:VK),Inv X pins σ H s->RelV x v->s.heap.IsSliceOf sl vl vu .none->IsPart vl lo->IsPart vu hi->r x lo hi H Q->
  ∃T id,typeLookup (.type T) "__getitem__"=pure (some (.builtin id))/\s.TypeIs v T/\wpAny (model X.prog X.w) X.A (getItem v (.ref sl)) (EP X pins σ Q) X.xe s
def tSl(r:V->Option Int->Option Int->Hp->VK->Prop)(te:TE)(tl th:TO):TE:=fun σ H Q=>te σ H fun x H1=>tl σ H1 fun l H2=>th σ H2 fun u H3=>r x l u H3 Q
theorem Yr7{r:V->Option Int->Option Int->Hp->VK->Prop}(hr:SlR X r)(he:PE X e te)(hl:PO X lo tl)(hu:PO X hi th):PE X (.Subscript e (.Slice lo hi none p2) pos) (tSl r te tl th):=by
 intro pins s σ H Q I h
 refine Subscript_ (thn (he pins s σ H _ I h) fun v s1 hx_=>?_)
 obtain⟨x,H1,I1,r1,q1⟩:=hx_
 refine wpAny_Slice (thn (hl pins s1 σ H1 _ I1 q1) fun vl s2 hx_=>?_)
 obtain⟨l,H2,I2,pl,q2⟩:=hx_
 refine thn (hu pins s2 σ H2 _ I2 q2) fun vu s3 hx_=>?_
 obtain⟨u,H3,I3,pu,q3⟩:=hx_
 rw[evalPart_none]
 refine wpAny_pure ?_
 have I4:Inv X pins σ H3 { s3 with heap:=s3.heap.push { cls:=.type "slice",data:=.fields #[vl,vu,.none] } }:=I3.kept (t':=s3.toks) fun b ob q=>qd _ q
 obtain⟨T,id,hT,ht,hg⟩:=hr pins { s3 with heap:=s3.heap.push { cls:=.type "slice",data:=.fields #[vl,vu,.none] } } σ H3 x v vl vu l u s3.heap.objs.size Q I4 r1 (Heap.IsSliceOf.new ..) pl pu q3
 show wpAny (model X.prog X.w) X.A (subscriptTail e (.Slice lo hi none p2) v (.ref s3.heap.objs.size)) (EP X pins σ Q) X.xe { s3 with heap:=s3.heap.push { cls:=.type "slice",data:=.fields #[vl,vu,.none] } }
 exact tail_any (ops:=[.ref s3.heap.objs.size,v]) ht hT hg (by with_unfolding_all rfl)
def cutV(xs:List V)(lo hi:Option Int):List V:=(xs.drop (HT.sIx xs.length 0 lo)).take (HT.sIx xs.length xs.length hi - HT.sIx xs.length 0 lo)
theorem Yls(xs:List V)(lo hi:Option Int):(cutV xs lo hi).length<=xs.length:=by
 unfold cutV
 rw[List.length_take,List.length_drop]
 lia
end
end L2
namespace L2
open PySem PySem.Spec PyProof.Rows
def ixN(n:Nat)(i:Int):Option Nat:=if 0<=i then (if i < n then some i.toNat else none)else if -(n:Int)<=i then some (i+n).toNat else none
def atI{α:Type}(xs:List α)(i:Int):Option α:=(ixN xs.length i).bind fun j=>xs[j]?
theorem Ypj{n:Nat}{i:Int}{j:Nat}(h:ixN n i=some j):seqIndex? i n=some j/\j < n/\-(n:Int)<=i/\i < n:=by
 unfold ixN at h
 by_cases h0:0<=i
 ·rw[if_pos h0]at h
  by_cases h1:i < n
  ·rw[if_pos h1]at h
   have e:i.toNat=j:=Option.some.inj h
   exact⟨by rw[seqIndex_of h0 h1,e],by lia,by lia,h1⟩
  ·rw[if_neg h1]at h;cases h
 ·rw[if_neg h0]at h
  by_cases h1:-(n:Int)<=i
  ·rw[if_pos h1]at h
   have e:(i+n).toNat=j:=Option.some.inj h
   exact⟨by rw[seqIndex_neg (by lia) h1,e],by lia,h1,by lia⟩
  ·rw[if_neg h1]at h;cases h
theorem Ylt{α:Type}{xs:List α}{i:Int}{v:α}(h:atI xs i=some v):∃j,seqIndex? i xs.length=some j/\xs[j]?=some v/\j < xs.length/\-(xs.length:Int)<=i/\i < xs.length:=by
 unfold atI at h
 cases e:ixN xs.length i with
 | none=>rw[e]at h;cases h
 | some j=>
   rw[e]at h
   obtain⟨h1,h2,h3,h4⟩:=Ypj e
   exact⟨j,h1,h,h2,h3,h4⟩
theorem Ylu{α:Type}{xs:List α}{j:Nat}{v:α}(h:xs[j]?=some v):atI xs (j:Int)=some v:=by
 have hj:j < xs.length:=(qm h).1
 have e:ixN xs.length (j:Int)=some j:=by
  unfold ixN
  rw[if_pos (by lia),if_pos (by lia)];simp
 unfold atI;rw[e];exact h
def Yis(b:Expr):Prop:=∀o i,subscripted b false o i=operate [o,i] (getItem o i)
def IxR(X:Cx)(r:R2):Prop:=
 ∀(value slice:Expr) (pins:List (Addr × Obj)) (s:Shared) (σ:St) (H:Hp) (x y:V) (v u:Value) (Q:VK),Inv X pins σ H s->RelV x v->RelV y u->r x y H Q->
  subscripted slice false v u=operate [v,u] (getItem v u)->wpAny (model X.prog X.w) X.A (subscriptTail value slice v u) (EP X pins σ Q) X.xe s
def MtR(X:Cx)(id:String)(r:V->List V->Hp->VK->Prop):Prop:=
 ∀(pins:List (Addr × Obj)) (s:Shared) (σ:St) (H:Hp) (x:V) (xs:List V) (v:Value) (us:List Value) (Q:VK),Inv X pins σ H s->RelV x v->Vals xs us->r x xs H Q->
  wpAny (model X.prog X.w) X.A (call (.builtin id) (v::us)) (EP X pins σ Q) X.xe s
section
variable {X:Cx} {a b:Expr} {ta tb:TE} {pos:Pos}
theorem IxR.or{r r':R2}(h:IxR X r)(h':IxR X r'):IxR X (fun x y H Q=>r x y H Q\/r' x y H Q):=by
 intro value slice pins s σ H x y v u Q I rx ry q hs
 rcases q with q | q
 ·exact h value slice pins s σ H x y v u Q I rx ry q hs
 ·exact h' value slice pins s σ H x y v u Q I rx ry q hs
theorem Yz9{r:R2}(hr:IxR X r)(ha:PE X a ta)(hb:PE X b tb)(hs:Yis b):PE X (.Subscript a b pos) (tOp r ta tb):=by
 intro pins s σ H Q I h
 exact Subscript_ (binT ha hb I h fun v u s2 x y H2 I2 rx ry q=>hr a b pins s2 σ H2 x y v u Q I2 rx ry q (hs _ _))
def rIxL(K:W.Frag):R2:=fun x y H Q=>∃p xs i v,x=.ref p/\y=.int i/\SqL K H p xs/\atI xs i=some v/\Q v H
def rIxT(K:W.Frag):R2:=fun x y H Q=>∃p xs i v,x=.ref p/\y=.int i/\SqT K H p xs/\atI xs i=some v/\Q v H
def rIxS:R2:=fun x y H Q=>∃z i c,x=.str z/\y=.int i/\z.length<=sizeLine/\atI z.cps.toList i=some c/\Q (.str ⟨#[c]⟩) H
theorem ix_list:IxR X (rIxL X.K):=by
 intro value slice pins s σ H x y v u Q I rx ry h hs
 obtain⟨p,xs,i,z,rfl,rfl,hq,he,q⟩:=h
 cases rx
 obtain⟨t,rfl⟩:=ry
 obtain⟨its,r,pl,hz⟩:=I.list hq
 obtain⟨j,h1,h2,h3,h4,h5⟩:=Ylt he
 obtain⟨w,ew,rw'⟩:=r.get h2
 have hl:=r.length
 have hn:=Yib
 have fin:EP X pins σ Q w s:=⟨z,H,I,rw',q⟩
 by_cases h0:0<=i
 ·have hj:i.toNat=j:=by
   rw[seqIndex_of h0 h5]at h1
   exact Option.some.inj h1
  exact item_listR pl.isList h0 (by lia) (by rw[hj];simpa using ew) fin hs
 ·have hj:(i+(its.toArray.size:Int)).toNat=j:=by
   rw[seqIndex_neg (by lia) h4]at h1
   rw[qj,<-hl]
   exact Option.some.inj h1
  exact subscriptTail_builtinR (x:=w) pl.isList.typeIs slot_list_getitem.lookup
   (wpAny_getItem_list_neg (Q:=fun r s'=>r=w/\EP X pins σ Q r s') pl.isList (by lia) (by rw[qj]<;>lia) (by lia) (by rw[hj];simpa using ew) ⟨rfl,fin⟩) hs
theorem ix_tup:IxR X (rIxT X.K):=by
 intro value slice pins s σ H x y v u Q I rx ry h hs
 obtain⟨p,xs,i,z,rfl,rfl,hq,he,q⟩:=h
 cases rx
 obtain⟨t,rfl⟩:=ry
 obtain⟨its,r,pl,hz⟩:=I.tuple hq
 obtain⟨j,h1,h2,h3,h4,h5⟩:=Ylt he
 obtain⟨w,ew,rw'⟩:=r.get h2
 have hl:=r.length
 have hn:=Yib
 have fin:EP X pins σ Q w s:=⟨z,H,I,rw',q⟩
 exact subscriptTail_builtinR (x:=w) pl.typeIs slot_tuple_getitem.lookup
  (getItem_tuple (j:=j) (Q:=fun r s'=>r=w/\EP X pins σ Q r s') pl (by lia) (by lia) (by rw[qj,<-hl];exact h1) (by simpa using ew) ⟨rfl,fin⟩) hs
theorem Yxn:IxR X rIxS:=by
 intro value slice pins s σ H x y v u Q I rx ry h hs
 obtain⟨z,i,c,rfl,rfl,hz,he,q⟩:=h
 obtain⟨t,rfl⟩:=rx
 obtain⟨t',rfl⟩:=ry
 obtain⟨j,h1,h2,h3,h4,h5⟩:=Ylt he
 have hl:z.cps.toList.length=z.length:=by simp[Str.length]
 rw[hl]at h1 h4 h5
 have hn:=Yib
 exact tail_any (typeIs_str s z t) slot_str_getitem.lookup (getItem_str (c:=c) (by
  have e1:decide (i < -(2 ^ 63:Int))=false:=decide_eq_false (by lia)
  have e2:decide (i≥2 ^ 63)=false:=decide_eq_false (by lia)
  rw[e1,e2,Bool.or_false]) (by rw[h1];simpa using h2) ⟨.str ⟨#[c]⟩,H,I.tok _,⟨_,rfl⟩,q⟩) hs
def rIx(K:W.Frag):R2:=fun x y H Q=>rIxL K x y H Q\/rIxT K x y H Q\/rIxS x y H Q
theorem Yxo:IxR X (rIx X.K):=ix_list.or (ix_tup.or Yxn)
theorem Yob(its:List Value)(n j:Nat)(u:Value):Obj.mapSeq (·.setIfInBounds j u) { cls:=.type "list",data:=.seq its.toArray n }={ cls:=.type "list",data:=.seq (its.set j u).toArray n }:=by
 simp[Obj.mapSeq]
theorem Inv.lst{pins:List (Addr × Obj)}{σ:St}{H:Hp}{s:Shared}{p:Addr}{xs:List V}(I:Inv X pins σ H s)(h:H p=some (.lst xs)) :
 ∃(its:List Value) (n:Nat),Vals xs its/\s.heap.get? p=some { cls:=.type "list",data:=.seq its.toArray n }/\xs.length<=sizeLine:=by
 obtain⟨z,its,n,r,e⟩:=I.hok p _ h
 exact⟨its,n,r,e,z⟩
theorem Inv.lstUpd{pins:List (Addr × Obj)}{σ:St}{H:Hp}{s:Shared}{p:Addr}{xs ys:List V}{its its':List Value}{n n':Nat}{f:Obj->Obj}(I:Inv X pins σ H s)(h:H p=some (.lst xs))
 (ho:s.heap.get? p=some { cls:=.type "list",data:=.seq its.toArray n }) (hf:f { cls:=.type "list",data:=.seq its.toArray n }={ cls:=.type "list",data:=.seq its'.toArray n' }) (r:Vals ys its') (hz:ys.length<=sizeLine) (t:Nat) :
 Inv X pins σ (upd H p (.lst ys)) { s with heap:=s.heap.update p f,toks:=t }:=by
 have e:(s.heap.update p f).get? p=some { cls:=.type "list",data:=.seq its'.toArray n' }:=by
  rw[Heap.get?_update_self f ho (by rw[hf]<;>rfl),hf]
 refine I.write (x:=p) (e:=p) (by rw[h];trivial) (.inl rfl) (fun b u hb q=>(Heap.get?_update_other _ _ (Ne.symm hb)).trans q) ⟨_,e⟩ ?_
 exact⟨hz,its',n',r,e⟩
def y0a:V->V->V->Hp->(Hp->Prop)->Prop:=fun o i v H Q=>∃p xs k j,o=.ref p/\i=.int k/\H p=some (.lst xs)/\ixN xs.length k=some j/\Q (upd H p (.lst (xs.set j v)))
theorem Yr8:PSet X y0a:=by
 intro pins s σ H o i v ov iv u Q I ro ri rv h
 obtain⟨p,xs,k,j,rfl,rfl,hp,hj,q⟩:=h
 cases ro
 obtain⟨t,rfl⟩:=ri
 obtain⟨its,n,r,ho,hz⟩:=I.lst hp
 obtain⟨h1,h2,h3,h4⟩:=Ypj hj
 have hl:=r.length
 have hn:=Yib
 have I':Inv X pins σ (upd H p (.lst (xs.set j v))) { s with heap:=s.heap.update p (Obj.mapSeq (·.setIfInBounds j u)) }:=
  I.lstUpd hp ho (Yob its n j u) (r.set rv j) (by rw[List.length_set];exact hz) s.toks
 by_cases h0:0<=k
 ·have hk:k.toNat=j:=by
   rw[seqIndex_of h0 h4]at h1
   exact Option.some.inj h1
  exact W.ki_setAt ho h0 (by lia) (by rw[qj,<-hl];exact h4) (by rw[hk];exact⟨_,I',q⟩)
 ·have hk:(k+(its.toArray.size:Int)).toNat=j:=by
   rw[seqIndex_neg (by lia) h3]at h1
   rw[qj,<-hl]
   exact Option.some.inj h1
  exact W.ki_setBack ho (by lia) (by rw[qj,<-hl];exact h3) (by lia) (by rw[hk];exact⟨_,I',q⟩)
theorem Yj8(lo hi:Option Int)(n:Nat):(sliceBounds lo hi none n).1=((HT.sIx n 0 lo:Nat):Int)/\(sliceBounds lo hi none n).2.1=((HT.sIx n n hi:Nat):Int)/\(sliceBounds lo hi none n).2.2=1:=by
 refine⟨?_,?_,rfl⟩
 ·cases lo with
  | none=>simp[sliceBounds,HT.sIx]
  | some i=>
    simp only[sliceBounds,HT.sIx,Option.getD_none,show(1:Int) > 0 by decide,if_true]
    by_cases h:i < 0
    ·simp only[h,if_true]<;>lia
    ·simp only[h,if_false]<;>lia
 ·cases hi with
  | none=>simp[sliceBounds,HT.sIx]
  | some i=>
    simp only[sliceBounds,HT.sIx,Option.getD_none,show(1:Int) > 0 by decide,if_true]
    by_cases h:i < 0
    ·simp only[h,if_true]<;>lia
    ·simp only[h,if_false]<;>lia
theorem Yit(its:List Value)(lo hi:Option Int):slicePick its.toArray lo hi none=((its.drop (HT.sIx its.length 0 lo)).take (HT.sIx its.length its.length hi - HT.sIx its.length 0 lo)).toArray:=by
 obtain⟨h1,h2,h3⟩:=Yj8 lo hi its.toArray.size
 unfold slicePick
 rw[h1,h2,h3]
 simp only[sliceRange_one,pick_run,qj]<;>rfl
def rSlL(K:W.Frag):V->Option Int->Option Int->Hp->VK->Prop:=fun x lo hi H Q=>∃a xs,x=.ref a/\SqL K H a xs/\∀p,H p=none->Q (.ref p) (upd H p (.lst (cutV xs lo hi)))
theorem Yuy:SlR X (rSlL X.K):=by
 intro pins s σ H x v vl vu lo hi sl Q I rx hs pl pu h
 obtain⟨a,xs,rfl,hx,q⟩:=h
 cases rx
 obtain⟨its,r,ht,hz⟩:=I.list hx
 have hlen:=r.length
 refine⟨"list",_,slot_list_getitem.lookup,ht.isList.typeIs,?_⟩
 refine wpAny_getItem_list_slice ht.isList hs pl pu .none (by simp) ?_ (by rw[qj]<;>lia)
 rw[Yit,<-hlen]
 refine⟨.ref s.heap.objs.size,_,I.laid (t':=s.toks) (o:=.lst (cutV xs lo hi)) (fun b ob q=>qd _ q) (qs _) ?_,rfl,q _ (I.hok.fresh (qs _))⟩
 exact⟨qy (Yls xs lo hi) hz,_,0,(r.drop (HT.sIx xs.length 0 lo)).take (HT.sIx xs.length xs.length hi - HT.sIx xs.length 0 lo),qo _ rfl⟩
theorem Yx:Ycw X (.builtin "len") (fun xs H Q=>∃p ys,xs=[.ref p]/\(SqL X.K H p ys\/SqT X.K H p ys)/\Q (.int ys.length) H):=by
 intro pins s σ H xs us Q I r h
 obtain⟨p,ys,rfl,hq,q⟩:=h
 obtain⟨u,rfl,rx⟩:=Ygj r
 cases rx
 have hn:=Yib
 rcases hq with hq | hq
 ·obtain⟨its,r',pl,hz⟩:=I.list hq
  have hlen:=r'.length
  exact Calls.call_len_list pl.isList (by simp only[qj]<;>lia) ⟨.int ys.length,H,I.tok _,⟨s.toks+1,by rw[qj,hlen]⟩,q⟩
 ·obtain⟨its,r',pl,hz⟩:=I.tuple hq
  have hlen:=r'.length
  exact len_tuple pl (by simp only[qj]<;>lia) ⟨.int ys.length,H,I.tok _,⟨s.toks+1,by rw[qj,hlen]⟩,q⟩
theorem Ydm:Ycw X (.type "list") (fun xs H Q=>∃p ys,xs=[.ref p]/\(SqL X.K H p ys\/SqT X.K H p ys)/\∀l,H l=none->Q (.ref l) (upd H l (.lst ys))):=by
 intro pins s σ H xs us Q I r h
 obtain⟨p,ys,rfl,hq,q⟩:=h
 obtain⟨u,rfl,rx⟩:=Ygj r
 cases rx
 have fin:∀(its:List Value),Vals ys its->ys.length<=sizeLine->∀(h':Heap) (c':Nat),(∀b o',s.heap.get? b=some o'->h'.get? b=some o')->
  h'.get? s.heap.objs.size=some { cls:=.type "list",dict:=none,data:=.seq its.toArray c',slots:=#[] }->EP X pins σ Q (.ref s.heap.objs.size) { s with heap:=h' }:=fun its r' hz h' c' kp e=>
  ⟨.ref s.heap.objs.size,_,I.laid (t':=s.toks) kp (qs _) (show ObjOk X.prog X.w _ h' _ (.lst ys) from⟨hz,its,c',r',e⟩),rfl,q _ (I.hok.fresh (qs _))⟩
 rcases hq with hq | hq
 ·obtain⟨its,r',pl,hz⟩:=I.list hq
  have hlen:=r'.length
  obtain⟨o,ho,hc,n,hd⟩:=pl.isList
  exact call_list_seq p (.inl rfl) ho hc hd (fun h' c' kp e=>fin its r' hz h' c' kp e) (by simp only[qj]<;>lia)
 ·obtain⟨its,r',pl,hz⟩:=I.tuple hq
  have hlen:=r'.length
  obtain⟨o,ho,hc,n,hd⟩:=pl
  exact call_list_seq p (.inr rfl) ho hc hd (fun h' c' kp e=>fin its r' hz h' c' kp e) (by simp only[qj]<;>lia)
theorem y6:Ycw X (.type "tuple") (fun xs H Q=>∃p ys,xs=[.ref p]/\((SqL X.K H p ys/\∀l,H l=none->Q (.ref l) (upd H l (.tup ys)))\/(SqT X.K H p ys/\Q (.ref p) H))):=by
 intro pins s σ H xs us Q I r h
 obtain⟨p,ys,rfl,h⟩:=h
 obtain⟨u,rfl,rx⟩:=Ygj r
 cases rx
 rcases h with⟨hq,q⟩ | ⟨hq,q⟩
 ·obtain⟨its,r',pl,hz⟩:=I.list hq
  have hlen:=r'.length
  refine call_tuple_list pl.isList (fun h' kp=>?_) (by simp only[qj]<;>lia)
  have I1:Inv X pins σ H { s with heap:=h' }:=I.kept (t':=s.toks) kp
  have I2:Inv X pins σ (upd H h'.objs.size (.tup ys)) { s with heap:=h'.push { cls:=.type "tuple",data:=.seq its.toArray } }:=
   I1.laid (t':=s.toks) (fun b o e=>qd _ e) (qs _) (show ObjOk X.prog X.w _ _ _ (.tup ys) from⟨hz,its,r',IsTup.new _ _⟩)
  exact⟨.ref h'.objs.size,_,I2,rfl,q _ (I1.hok.fresh (qs _))⟩
 ·obtain⟨its,r',pl,hz⟩:=I.tuple hq
  exact call_tuple_same pl ⟨.ref p,H,I,rfl,q⟩
def tyV(K:W.Frag)(T:String)(x:V)(H:Hp):Prop:=match x with
 | .str _=>T="str"
 | .int _=>T="int"
 | .ref p=>(T="list"/\∃xs,SqL K H p xs)\/(T="tuple"/\∃o,K.lookup p=some o/\o.cls=.type "tuple"/\o.dict=none)\/
  (T="dict"/\((∃kvs,H p=some (.dK kvs))\/∃kvs,H p=some (.dT kvs)))\/(T="set"/\∃S n,H p=some (.set S n))
 | _=>False
theorem Ytf{pins:List (Addr × Obj)}{σ:St}{H:Hp}{s:Shared}{T:String}{x:V}{v:Value}(I:Inv X pins σ H s)(r:RelV x v)(ty:tyV X.K T x H) :
 s.TypeIs v T/\∀a,v=.ref a->∃ob,s.heap.get? a=some ob/\ob.dict=none:=by
 cases x with
 | str z=>
   obtain⟨t,rfl⟩:=r
   cases (show T="str" from ty)
   exact⟨typeIs_str s z t,fun _ e=>nomatch e⟩
 | int i=>
   obtain⟨t,rfl⟩:=r
   cases (show T="int" from ty)
   exact⟨typeIs_int s i t,fun _ e=>nomatch e⟩
 | ref p=>
   cases r
   rcases ty with⟨rfl,xs,hq⟩ | ⟨rfl,o,hk,hc,hd⟩ | ⟨rfl,hk⟩ | ⟨rfl,S,n,hk⟩
   ·obtain⟨its,_,pl,_⟩:=I.list hq
    refine⟨pl.isList.typeIs,fun a e=>?_⟩
    cases e
    obtain⟨o,n,e,c,hd,_⟩:=pl
    exact⟨o,e,hd⟩
   ·refine⟨⟨o,I.kIn p o hk,hc⟩,fun a e=>?_⟩
    cases e
    exact⟨o,I.kIn _ o hk,hd⟩
   ·have z:∃o,s.heap.get? p=some o/\o.ExactDict:=by
     rcases hk with⟨kvs,hk⟩ | ⟨kvs,hk⟩
     ·obtain⟨_,_,_,_,o,_,_,e,ex,_⟩:=I.hok p _ hk
      exact⟨o,e,ex⟩
     ·obtain⟨_,_,_,_,o,_,_,e,ex,_⟩:=I.hok p _ hk
      exact⟨o,e,ex⟩
    obtain⟨o,e,ex⟩:=z
    refine⟨⟨o,e,ex.1⟩,fun a e2=>?_⟩
    cases e2
    exact⟨o,e,ex.2.1⟩
   ·obtain⟨o,_,_,_,e,ex,_⟩:=I.hok p _ hk
    refine⟨⟨o,e,ex.1⟩,fun a e2=>?_⟩
    cases e2
    exact⟨o,e,ex.2.1⟩
 | _=>exact False.elim ty
def tBM0(K:W.Frag)(T:String)(r:V->List V->Hp->VK->Prop)(to:TE):TE:=fun σ H Q=>to σ H fun x H1=>tyV K T x H1/\r x [] H1 Q
def tBM(K:W.Frag)(T:String)(r:V->List V->Hp->VK->Prop)(to:TE)(t:TA):TE:=fun σ H Q=>to σ H fun x H1=>tyV K T x H1/\t σ H1 fun xs H2=>r x xs H2 Q
variable {o e:Expr} {es:List Expr} {to:TE} {t:TA} {name:Str} {apos cpos:Pos} {T id:String} {r:V->List V->Hp->VK->Prop}
theorem Ytg(pa:PlainAttrs T)(slot:Slot T name id)(hty:typeOf (.builtin id)=pure (.type "method_descriptor"))(hm:MtR X id r)(ho:PE X o to)
 (hbase:attributeBase o name X.env (eval o X.env)=eval o X.env:=by rfl) (hline:(apos.endLine==cpos.line)=true:=by rfl):PE X (.Call (.Attribute o name apos) [] [] cpos) (tBM0 X.K T r to):=by
 intro pins s σ H Q I h
 refine wpAny_Call_method0_late hbase hline (thn (ho pins s σ H _ I h) fun v s1 hx_=>?_)
 obtain⟨x,H1,I1,r1,ty,q1⟩:=hx_
 obtain⟨h1,h2⟩:=Ytf I1 r1 ty
 exact⟨T,id,pa,slot,hty,h1,h2,Calls.callWith_builtin rfl (PySem.evalArgs_none (hm pins s1 σ H1 x [] v [] Q I1 r1 .nil q1))⟩
theorem Ypk(pa:PlainAttrs T)(slot:Slot T name id)(hty:typeOf (.builtin id)=pure (.type "method_descriptor"))(hm:MtR X id r)(ho:PE X o to)(ha:PA X (e::es) t)
 (hbase:attributeBase o name X.env (eval o X.env)=eval o X.env:=by rfl)
 (hfew:((backTo cpos (starEach (e::es) X.env)).all (fun x=>!x.1)&&(backToKw cpos (keywordEach [] X.env)).all (fun x=>x.1.isSome)
  &&decide ((e::es).length+([]:List Keyword).length+(if ([]:List Keyword).isEmpty then 0 else 1) < 30))=true:=by rfl)
 (hline:(apos.endLine==cpos.line)=true:=by rfl) (hs:starEach (e::es) X.env=(false,eval e X.env)::starEach es X.env:=by rfl) (hplain:(backTo cpos (starEach es X.env)).any (·.1)=false:=by rfl) :
 PE X (.Call (.Attribute o name apos) (e::es) [] cpos) (tBM X.K T r to t):=by
 intro pins s σ H Q I h
 refine wpAny_Call_method_late hbase hfew hline rfl (thn (ho pins s σ H _ I h) fun v s1 hx_=>?_)
 obtain⟨x,H1,I1,r1,ty,q1⟩:=hx_
 obtain⟨h1,h2⟩:=Ytf I1 r1 ty
 refine⟨T,id,pa,slot,hty,h1,h2,?_⟩
 have hA:=ha cpos pins s1 σ H1 _ I1 q1
 rw[hs]at hA ⊢
 refine Calls.callWith_builtin (by show(false||(backTo cpos (starEach es X.env)).any (·.1))=false;rw[hplain]<;>rfl) (Calls.evalArgs_plain ?_)
 refine thn hA fun us s2 hx_=>?_
 obtain⟨vs,H2,I2,r2,q2⟩:=hx_
 exact hm pins s2 σ H2 x vs v us Q I2 r1 r2 q2
end
end L2
namespace L2
open PySem PySem.Spec PyProof.Rows
def MtM(X:Cx)(id:String)(r:V->List V->Hp->VK->Prop):Prop:=
 ∀(pins:List (Addr × Obj)) (s:Shared) (σ:St) (H:Hp) (x:V) (xs:List V) (v:Value) (us:List Value) (Q:VK),Inv X pins σ H s->RelV x v->Vals xs us->r x xs H Q->
  wpAny (model X.prog X.w) X.A (call (.builtin id) (v::us)) (EP X pins σ Q) X.xe s
theorem Vals.one:∀{x:V} {us:List Value},Vals [x] us->∃u,us=[u]/\RelV x u
 :=by
  intro x us h
  cases h with
  | cons r t=>
    cases t
    exact⟨_,rfl,r⟩
theorem Vals.zero:∀{us:List Value},Vals [] us->us=[]
 | _,.nil=>rfl
theorem Vals.dropLast{xs:List V}{us:List Value}(h:Vals xs us):Vals xs.dropLast us.dropLast:=by
 induction h with
 | nil=>exact .nil
 | cons r t ih=>
   cases t with
   | nil=>exact .nil
   | cons q t'=>exact .cons r ih
theorem Yoc{α:Type}(l:List α):l.eraseIdx (l.length - 1)=l.dropLast:=by
 induction l with
 | nil=>rfl
 | cons a r ih=>
   cases r with
   | nil=>rfl
   | cons b r=>
     have e:(a::b::r).length - 1=((b::r).length - 1)+1:=by
      have h1:(a::b::r).length=r.length+2:=rfl
      have h2:(b::r).length=r.length+1:=rfl
      lia
     rw[e,List.eraseIdx_cons_succ,ih]
     all_goals rfl
section
variable {X:Cx} {pins:List (Addr × Obj)} {σ:St} {H:Hp} {s:Shared} {l b:Addr} {xs ys zs:List V}
theorem Inv.lset{its its':List Value}{n:Nat}{f:Array Value->Array Value}{t':Nat}(I:Inv X pins σ H s)(hH:H l=some (.lst xs))
 (e:s.heap.get? l=some { cls:=.type "list",data:=.seq its.toArray n }) (hf:f its.toArray=its'.toArray) (hv:Vals ys its') (hz:ys.length<=sizeLine) :
 Inv X pins σ (upd H l (.lst ys)) { s with heap:=s.heap.update l (Obj.mapSeq f),toks:=t' }:=by
 have q:=PySem.IsL.update e f
 rw[hf]at q
 refine I.write (x:=l) (e:=l) (by rw[hH];exact trivial) (.inl rfl) (fun b' u hb hu=>(Heap.get?_update_other s.heap (Obj.mapSeq f) (Ne.symm hb)).trans hu) ⟨_,q⟩ ?_
 exact⟨hz,its',_,hv,q⟩
theorem Inv.lnew{its:List Value}{t':Nat}(I:Inv X pins σ H s)(hv:Vals ys its)(hz:ys.length<=sizeLine) :
 Inv X pins σ (upd H s.heap.objs.size (.lst ys)) { s with heap:=s.heap.push { cls:=.type "list",data:=.seq its.toArray },toks:=t' }:=
 I.laid (fun _ _ q=>qd _ q) (qs _) ⟨hz,its,0,hv,qo _ rfl⟩
theorem Inv.fresh(I:Inv X pins σ H s):H s.heap.objs.size=none:=I.hok.fresh (qs _)
theorem Inv.lstM(I:Inv X pins σ H s)(hH:H l=some (.lst xs)):xs.length<=sizeLine/\∃(its:List Value) (n:Nat),Vals xs its/\xs.length=its.length/\s.heap.get? l=some { cls:=.type "list",data:=.seq its.toArray n }:=by
 obtain⟨z,its,n,r,e⟩:=I.hok l _ hH
 exact⟨z,its,n,r,r.length,e⟩
theorem Yr9{n:Nat}(h:n<=sizeLine):Builtin.List.listTooLong n=false:=by
 unfold Builtin.List.listTooLong
 exact decide_eq_false (by lia)
def Yuz:V->List V->Hp->VK->Prop:=fun x vs H Q=>∃l xs y,x=.ref l/\vs=[y]/\H l=some (.lst xs)/\xs.length < sizeLine/\Q .non (upd H l (.lst (xs++[y])))
theorem Ydn:MtM X "list.append" Yuz:=by
 intro pins s σ H x vs v us Q I rx rv h
 obtain⟨l,xs,y,rfl,rfl,hH,hz,q⟩:=h
 cases rx
 obtain⟨u,rfl,ru⟩:=rv.one
 obtain⟨z,its,n,r,hl,e⟩:=I.lstM hH
 refine call_meets F.slot_list_append ⟨_,e,rfl⟩ F.entry_list_append (F.args_list_append_2 _ _) (PySem.list_append l its.toArray n u (by rw[qj];lia)) ⟨e,?_⟩
 refine⟨.non,_,I.lset (its':=its++[u]) hH e (by simp) (r.append (.cons ru .nil)) ?_,rfl,q⟩
 rw[qw,List.length_singleton]
 lia
def rPop:V->List V->Hp->VK->Prop:=fun x vs H Q=>∃l xs y,x=.ref l/\vs=[]/\H l=some (.lst xs)/\xs[xs.length - 1]?=some y/\Q y (upd H l (.lst xs.dropLast))
theorem Yth:MtM X "list.pop" rPop:=by
 intro pins s σ H x vs v us Q I rx rv h
 obtain⟨l,xs,y,rfl,rfl,hH,hy,q⟩:=h
 cases rx
 have hus:=rv.zero
 subst hus
 obtain⟨z,its,n,r,hl,e⟩:=I.lstM hH
 obtain⟨u,hu,ru⟩:=r.get hy
 have hy':its.toArray[its.toArray.size - 1]?=some u:=by
  show its.toArray[its.length - 1]?=some u
  rw[<-Array.getElem?_toList,<-hl]
  exact hu
 refine call_meets F.slot_list_pop ⟨_,e,rfl⟩ F.entry_list_pop (F.args_list_pop_1 _) (MeetsSeq.list_pop_last l its.toArray n u hy' (by rw[qj];lia)) ⟨e,?_⟩
 refine⟨y,_,I.lset (its':=its.dropLast) hH e ?_ r.dropLast ?_,ru,q⟩
 ·show its.toArray.eraseIdxIfInBounds (its.toArray.size - 1)=its.dropLast.toArray
  rw[qj,List.eraseIdxIfInBounds_toArray,Yoc]
 ·rw[List.length_dropLast]
  lia
end
end L2
namespace Att
open PySem PySem.W PySem.Calls PyProof.Rows
theorem Ygp{P:Params}{h:Heap}:∀(ns:List Int) (vs:List Value),WellAll P h vs (ns.map WData.int)->IntsAre vs ns:=by
 intro ns
 induction ns with
 | nil=>
   intro vs w
   rw[List.map_nil]at w
   cases w
   exact .nil
 | cons n ns ih=>
   intro vs w
   rw[qz]at w
   cases w with
   | cons a b=>
     cases a
     exact .cons _ _ (ih _ b)
theorem Ypl{l:OpenLaw}{n:Nat}(hn:l.most=some n){P:Params}{h:Heap}{args:List WData}{vals:List Value}
 (hpre:l.row.toRowW.claim.pre args=true) (hwl:WellAll P h vals args) :
 ∃a vs ns,vals=[Value.ref a]/\args=[WData.list (ns.map WData.int)]/\h.get? a=some { cls:=.type "list",data:=.seq vs.toArray }/\IntsAre vs ns/\ns.length<=n:=by
 have hsh:WShape.hasAll [] args [.list .int]=true:=(pre_splitW hpre).1
 have hc:l.pre.holds [] { args:=args }=true:=(pre_splitW hpre).2
 obtain⟨d,r,rfl,h1,h2⟩:=hasAllW_cons hsh
 obtain rfl:=hasAllW_nil h2
 obtain⟨xs,rfl,h3⟩:=hasW_list h1
 obtain⟨ns,rfl⟩:=items_int h3
 have hlen:ns.length<=n:=by
  unfold OpenLaw.pre at hc
  have h4:(WTm.not (.lt (.lit (.int (n:Int))) (.len (.arg 0)))).holds [] { args:=[.list (ns.map .int)] }=true:=by
   have h4:=(holds_andW hc).1
   rw[hn]at h4
   exact h4
  have h5:=condW_of h4 (w_not (w_lt w_lit (w_len_list (w_arg rfl))))
  rw[qe]at h5
  refine Nat.le_of_not_lt fun q=>?_
  have q':(n:Int) < ((ns.length:Nat):Int):=by lia
  first
   | (rw[decide_eq_true q']at h5;exact absurd h5 (by decide))
   | (simp at h5;lia)
 cases hwl with
 | cons w1 w2=>
   cases w2
   cases w1 with
   | list ho hall=>exact⟨_,_,ns,rfl,rfl,ho,Ygp ns _ hall,hlen⟩
theorem Ypm(l:OpenLaw)(args:List WData):l.row.toRowW.claim.post args (.bool true) args=true:=
 postW_of (r:=l.row.toRowW) (X:=(true==true))
  (show WShape.has [] (.bool true) .bool=true by first | rfl | decide | simp[WShape.has,WShape.arms,WShape.armsAll])
  (show(WTm.eq .res (.lit (.bool true))).value [] { args:=args,res:=some (.bool true),after:=args }=some (.bool (true==true)) from w_eq_bool (w_res rfl) w_lit) rfl
theorem attach_call{l:OpenLaw}{n:Nat}{q:Program}{loose:List Str}{XP:(Str->Option Value)->Heap->Prop}{YP:World->Heap->Prop}{d:DefRec}
 (hn:l.most=some n) (hdf:d.params.defaults=[])
 (call:∀(w:World) (s₀ s₁:Shared) (mg mb:Str->Option Value) (fa:Addr) (o:Obj) (pm cd doc:Value) (a:Addr) (vs:List Value) (ns:List Int),
  Ground q loose [] XP w s₀ mg mb s₁.heap->YP w s₁.heap->
  s₁.heap.get? fa=some o->o.data=.func (docDef d.name d.params d.body d.scope pm cd doc)->s₁.heap.CodeRec cd d.name->mg d.name=some (.ref fa)->
  s₁.heap.get? a=some { cls:=.type "list",data:=.seq vs.toArray }->IntsAre vs ns->ns.length<=n->s₁.gens=#[]->
  codeAny (model l.prog w) callerA (.call (.ref fa) ⟨[.ref a],[]⟩) (fun r s'=>r=.ok (.ret (.bool true))/\OldK s₁.heap s'.heap/\s'.os=s₁.os/\AllBare s'.gens) s₁) :
 WalkO q loose XP YP l.row.toRowW d [] (fun f vs=>PySem.call f vs):=by
 intro w s₀ s₁ mg mb G Y fa o pm cd doc dV kV ho hd hcd hD hmg hg args vals as hpre hlay hrd hwl hlo
 obtain rfl:dV=.none:=Dflts.none hD hdf
 obtain rfl:kV=.none:=Dflts.noKw hD
 obtain⟨a,vs,ns,rfl,rfl,hobj,hints,hlen⟩:=Ypl hn hpre hwl
 refine enter_call (codeAny_mono (call w s₀ s₁ mg mb fa o pm cd doc a vs ns G Y ho (fd_plain hd) hcd hmg hobj hints hlen hg) fun r s' hq=>?_)
 obtain⟨rfl,h2,h3,h4⟩:=hq
 exact⟨.inl ⟨.bool true,.bool true,[],rfl,fun _=>rfl,.bool true,Ypm l _,fun _=>⟨List.Pairwise.nil,fun _ hm=>(nomatch hm)⟩⟩,h2,h3,h4⟩
end Att
namespace L2
open PySem PySem.Spec PyProof.Rows
theorem Ye4:∀{vs:List Value} {ns:List Int},IntsAre vs ns->Vals (ns.map V.int) vs
 | _,_,.nil=>.nil
 | _,_,.cons n t h=>.cons ⟨t,rfl⟩ (Ye4 h)
def Only(H:Hp):Prop:=∀b,H b=none\/∃o xs,H b=some (.frz o (.lst xs))
theorem Ysa{P:Program}{w:World}{K:W.Frag}{mg mb:Str->Option Value}{CX:CXT}{k:Nat}{fa a:Addr}{fd:FuncData}{x:Str}{sp:Sp}{s₁:Shared}{vs:List Value}{ns:List Int}
 (KX:K.In s₁.heap) (hns:s₁.heap.Ns mainGlobals mg) (hb:s₁.heap.Ns builtinsNs mb) (hbb:∀x:Str,x≠"__name__"->mb x=bootBuiltins x) (hlim:s₁.heap.NoLimit) (hg:s₁.gens=#[])
 (ha:s₁.heap.get? a=some { cls:=.type "list",data:=.seq vs.toArray }) (hi:IntsAre vs ns) (hl:ns.length<=sizeLine) (hr:Room k callerA)
 (F:∀base:Heap,K.In base->base.Ns mainGlobals mg->FnOk P w K mg base CX k fa fd [x] sp) (hbind:∀(s:Shared) (u:Value),BindsTo s fd ⟨[u],[]⟩ [(x,u)])
 (hsp:∀H:Hp,Only H->SqL K H a (ns.map V.int)->sp [.ref a] H (fun v _=>v=.bl true) fun _ _ _=>False)
 (hCX:∀H e s',CX [] H s₁ (fun _ _ _=>False) e s'->False) :
 codeAny (model P w) callerA (.call (.ref fa) ⟨[.ref a],[]⟩) (fun r s'=>r=.ok (.ret (.bool true))/\OldK s₁.heap s'.heap/\s'.os=s₁.os/\AllBare s'.gens) s₁:=by
 have rv:=Ye4 hi
 have lenV:=hi.length
 have core:∀H:Hp,Only H->SqL K H a (ns.map V.int)->HOk P w H s₁.heap->(∀b,H b≠none->b=a)->(H a≠none->K.lookup a=none)->
  codeAny (model P w) callerA (.call (.ref fa) ⟨[.ref a],[]⟩) (fun r s'=>r=.ok (.ret (.bool true))/\OldK s₁.heap s'.heap/\s'.os=s₁.os/\AllBare s'.gens) s₁:=by
  intro H hO hS hok hA hK
  have base_of:∀{b:Addr} {o:Obj},s₁.heap.get? b=some o->H b=none->(hidT s₁.heap H).get? b=some o:=fun e n=>Yrz e n
  have noA:∀{b:Addr} {o:Obj} {es:Array DictEntry} {ep:Nat},s₁.heap.get? b=some o->o.data=.dict es ep->H b=none:=fun {b o es ep} e d=>by
   cases q:H b with
   | none=>rfl
   | some u=>
     have e':b=a:=hA b (by rw[q];simp)
     subst e'
     rw[ha]at e;cases e
     have d':Data.seq vs.toArray _=Data.dict es ep:=d
     cases d'
  have nsK:∀{b:Addr} {m:Str->Option Value},s₁.heap.Ns b m->(hidT s₁.heap H).Ns b m:=fun {b m} ⟨o,es,ep,e,d,r⟩=>⟨o,es,ep,base_of e (noA e d),d,r⟩
  have hKb:K.In (hidT s₁.heap H):=fun b o e=>base_of (KX b o e) (by
   cases q:H b with
   | none=>rfl
   | some u=>
     have e':b=a:=hA b (by rw[q];simp)
     subst e'
     rw[hK (by rw[q];simp)]at e;cases e)
  have hM:Mod K mg (hidT s₁.heap H):=⟨hKb,nsK hns,⟨mb,nsK hb,hbb⟩,let ⟨mc,h1,h2⟩:=hlim;⟨mc,nsK h1,h2⟩⟩
  have e0:Env0 P w K mg (hidT s₁.heap H) callerA [] s₁ H:=⟨rfl,hM,fun b o e=>Yui e,Nat.le_of_eq (Yo4 _ _),trivial,fun b hb=>absurd (show b∈([]:List Addr) from hb) (by simp),hok,.of_eq hg⟩
  refine codeAny_mono ((F _ hKb (nsK hns)).run callerA [] s₁ H ⟨[.ref a],[]⟩ [.ref a] [.ref a] _ _ hr e0 (hbind s₁ (.ref a)) (.cons rfl .nil) (hsp H hO hS)) fun r s' h=>?_
  cases r with
  | error e=>exact(hCX H e s' h).elim
  | ok fl=>
    cases fl with
    | next=>exact False.elim h
    | brk=>exact False.elim h
    | cont=>exact False.elim h
    | ret u=>
      obtain⟨v,H',os,bare,un,hok',r',q⟩:=h
      have q':v=.bl true:=q
      subst q'
      obtain rfl:u=Value.bool true:=r'
      refine⟨rfl,OldK.of_keep fun b o e=>?_,os,bare⟩
      cases q:H b with
      | none=>exact un.keep b o e q (by intro z;exact absurd (show b∈([]:List Addr) from z) (by simp)) (by simp)
      | some u=>
        rcases hO b with z | ⟨ob,xs,z⟩
        ·rw[q]at z;cases z
        ·have z2:=un.frzs b ob _ z
         obtain⟨e1,_⟩:=hok b _ z
         obtain⟨e2,_⟩:=hok' b _ z2
         rw[e]at e1;cases e1
         exact e2
 cases hk:K.lookup a with
 | some o=>
   have e:=KX a o hk
   rw[ha]at e
   cases e
   refine core (fun _=>none) (fun _=>.inl rfl) (.inr ⟨_,vs.toArray,_,hk,rfl,rfl,rfl,by rw[qj,lenV];exact hl,by simpa using rv⟩) (fun b u z=>by have z':(none:Option HO)=some u:=z;cases z') (fun b z=>absurd rfl z) fun z=>absurd rfl z
 | none=>
   refine core (fun b=>if b=a then some (.frz { cls:=.type "list",data:=.seq vs.toArray } (.lst (ns.map V.int)))else none) (fun b=>?_) (.inl (.inr ⟨{ cls:=.type "list",data:=.seq vs.toArray },if_pos rfl⟩)) (fun b u z=>?_) (fun b z=>?_) fun _=>hk
   ·by_cases hb:b=a
    ·exact .inr ⟨_,_,if_pos hb⟩
    ·exact .inl (if_neg hb)
   ·by_cases hb:b=a
    ·have z':=(if_pos hb).symm.trans z
     cases z'
     subst hb
     exact⟨ha,by rw[qe];exact hl,vs,_,rv,ha⟩
    ·have z':=(if_neg hb).symm.trans z
     cases z'
   ·by_cases hb:b=a
    ·exact hb
    ·exact absurd (if_neg hb) z
end L2
namespace L2
open PySem PySem.Spec PyProof.Rows
theorem walk_of{l:W.OpenLaw}{n k:Nat}{q:Program}{loose:List Str}{XP:(Str->Option Value)->Heap->Prop}{YP:World->Heap->Prop}{d:DefRec}{K:Params->W.Frag}{CX:World->CXT}{sp:World->Sp}{x:Str}
 (hn:l.most=some n) (hn2:n<=sizeLine) (hdf:d.params.defaults=[]) (hr:Room k callerA)
 (hY:∀(w:World) (h:Heap),YP w h->(K w.params).In h)
 (F:∀(w:World) (mg:Str->Option Value) (fa:Addr) (h:Heap),(K w.params).In h->h.Ns mainGlobals mg->mg d.name=some (.ref fa)->
  ∃fd:FuncData,(∀(s:Shared) (u:Value),BindsTo s fd ⟨[u],[]⟩ [(x,u)])/\
   ∀base:Heap,(K w.params).In base->base.Ns mainGlobals mg->FnOk l.prog w (K w.params) mg base (CX w) k fa fd [x] (sp w))
 (hsp:∀(w:World) (H:Hp) (a:Addr) (ns:List Int),ns.length<=n->Only H->SqL (K w.params) H a (ns.map V.int)->sp w [.ref a] H (fun v _=>v=.bl true) fun _ _ _=>False)
 (hCX:∀(w:World) (H:Hp) (s:Shared) (e:Value) (s':Shared),CX w [] H s (fun _ _ _=>False) e s'->False) :
 W.WalkO q loose XP YP l.row.toRowW d [] (fun f vs=>PySem.call f vs):=by
 refine Att.attach_call hn hdf fun w s₀ s₁ mg mb fa o pm cd doc a vs ns G Y ho hd hcd hmg hobj hints hlen hg=>?_
 have KX:=hY w _ Y
 obtain⟨fd,hb,hF⟩:=F w mg fa _ KX G.T.g hmg
 exact Ysa KX G.T.g G.T.b G.T.builtins G.T.nolimit hg hobj hints (qy hlen hn2) hr hF hb (fun H hO hS=>hsp w H a ns hlen hO hS) fun H e s'=>hCX w H s₁ e s'
end L2
namespace L2
open PySem PySem.Spec PyProof.Rows
def inClass(s:Stmt)(j:Nat):Stmt:=match s with
 | .ClassDef _ _ _ body _ _ _ _ _ _ _=>body.getD j (.Pass ⟨0,0,0,0⟩)
 | _=>.Pass ⟨0,0,0,0⟩
def defArgs(s:Stmt):Arguments:=match s with
 | .FunctionDef _ a _ _ _ _ _ _ _ _=>a
 | _=>{ posonlyargs:=[],args:=[],vararg:=none,kwonlyargs:=[],kw_defaults:=[],kwarg:=none,defaults:=[] }
def defBody(s:Stmt):List Stmt:=match s with
 | .FunctionDef _ _ b _ _ _ _ _ _ _=>b
 | _=>[]
def defScope(s:Stmt):Scope:=match s with
 | .FunctionDef _ _ _ _ _ _ sc _ _ _=>sc
 | _=>{ kind:=.function,names:=[],isGenerator:=false,isCoroutine:=false }
abbrev CX0:CXT:=fun _ _ _ _ _ _=>False
abbrev E0:XK:=fun _ _ _=>False
theorem Ypn{X:Cx}:Ygn CX0 X E0:=fun _ _ _ _ _ _ _ h=>h.elim
structure Fun(K:W.Frag)(x qual:Str)(st:Stmt)(f:Addr)(fd:FuncData):Prop where
 ex:∃(oc:Value) (od:Option Addr) (kV doc pm:Value) (an:Option Addr) (cdv ct:Value) (osl:Array (Option Value)),
  fd=W.fnOf x qual (defArgs st) (defBody st) (defScope st) .none kV doc pm an cdv ct/\K.lookup f=some ⟨oc,od,.func fd,osl⟩/\W.codeIn K cdv qual=true
 kp:W.keepIn K (.ref f)=true
section
variable {P:Program} {w:World} {K:W.Frag} {mg:Str->Option Value} {base:Heap} {X:Cx}
theorem Fun.ok{x qual:Str}{st:Stmt}{f:Addr}{fd:FuncData}{N ps:List Str}{k:Nat}{sp:Sp}(F:Fun K x qual st f fd)(S:FnScope N ps (defScope st))(len:∀vs H Q E,sp vs H Q E->vs.length=ps.length)
 (hbody:∀(cdv:Value) (A:Around) (outer:List Env) (s:Shared) (H:Hp) (vs:List V) (Q:VK) (E:XK),Room k (A.deeper (envOfC qual (defScope st) s.heap.objs.size f cdv))->sp vs H Q E->
  ∃t,PSs (cxOf CX0 P w K mg base N qual (defScope st) f cdv A outer s H E).nox (defBody st) t/\t { nx:=fun _ H'=>Q .non H',rt:=Q } (start N vs) H):FnOk P w K mg base CX0 (k+1) f fd ps sp:=by
 obtain⟨oc,od,kV,doc,pm,an,cdv,ct,osl,rfl,lk,hcd⟩:=F.ex
 refine Yz8 lk hcd S len fun A outer s H vs Q E hr hsp=>?_
 obtain⟨t,h,q⟩:=hbody cdv A outer s H vs Q E hr hsp
 exact⟨t,h.nox,q⟩
theorem Fun.binds{x qual:Str}{st:Stmt}{f:Addr}{fd:FuncData}{ps:List Str}(F:Fun K x qual st f fd)
 (h:∀(kV doc pm:Value) (an:Option Addr) (cdv ct:Value) (us:List Value),us.length=ps.length->bindArgs (W.fnOf x qual (defArgs st) (defBody st) (defScope st) .none kV doc pm an cdv ct) ⟨us,[]⟩=pure (ps.zip us)):Binds K fd ps []:=by
 obtain⟨oc,od,kV,doc,pm,an,cdv,ct,osl,rfl,lk,hcd⟩:=F.ex
 exact .all (h kV doc pm an cdv ct)
theorem Ym2{x qual:Str}{st:Stmt}{f:Addr}{oc:Value}{od an:Option Addr}{osl:Array (Option Value)}{kV doc pm cdv ct:Value}(l:K.lookup f=some ⟨oc,od,.func (W.fnOf x qual (defArgs st) (defBody st) (defScope st) .none kV doc pm an cdv ct),osl⟩)
 (c:W.codeIn K cdv qual=true) (k:W.keepIn K (.ref f)=true):Fun K x qual st f (W.fnOf x qual (defArgs st) (defBody st) (defScope st) .none kV doc pm an cdv ct):=⟨⟨oc,od,kV,doc,pm,an,cdv,ct,osl,rfl,l,c⟩,k⟩
theorem pv(i:Nat){x:Str}{pos:Pos}(hN:X.N[i]?=some x:=by rfl)(hv:Vis X.env.scope x:=by first | exact Or.inl rfl | exact Or.inr (Or.inl rfl) | exact Or.inr (Or.inr rfl))(hd:(x==("__debug__":Str))=false:=by decide)
 (hcd:(x==("__classdict__":Str))=false:=by decide):PE X (.Name x pos) (tVar i):=Ye2 hN hv hd hcd
end
theorem iteF{A B:Prop}(h:B):if false=true then A else B:=by
 rw[if_neg qh]
 exact h
theorem iteT{A B:Prop}(h:A):if true=true then A else B:=by
 rw[if_pos rfl]
 exact h
def Same(H H':Hp):Prop:=∀b o,H b=some o->H' b=some o
theorem Same.refl(H:Hp):Same H H:=fun _ _ h=>h
theorem Same.trans{H H1 H2:Hp}(a:Same H H1)(b:Same H1 H2):Same H H2:=fun c o h=>b c o (a c o h)
theorem Same.free{H H':Hp}(e:Same H H'){l:Addr}(h:H' l=Option.none):H l=Option.none:=by
 cases q:H l with
 | none=>rfl
 | some o=>
   rw[e l o q]at h
   cases h
theorem Same.seq{K:W.Frag}{H H':Hp}{a:Addr}{xs:List V}(e:Same H H')(h:SqL K H a xs):SqL K H' a xs:=by
 rcases h with(h | ⟨o,h⟩) | h
 ·exact .inl (.inl (e _ _ h))
 ·exact .inl (.inr ⟨o,e _ _ h⟩)
 ·exact .inr h
end L2
namespace L2
open PySem PySem.Spec PyProof.Rows
def clOf(env:Env):List (Str × NameKind)->List (Str × Addr)->List (Str × Addr)
 | [],cs=>cs
 | (n,k)::r,cs=>if (k==NameKind.free)=true then (match env.cells.lookup n with | some c=>clOf env r ((n,c)::cs) | none=>clOf env r cs)else clOf env r cs
theorem Ydo{scope:Scope}{env:Env}(h:∀x∈scope.names,x.2=NameKind.free->∃c,env.cells.lookup x.1=some c):closureFor scope env=pure (clOf env scope.names []):=by
 have key:∀(l:List (Str × NameKind)) (cs:List (Str × Addr)),(∀x∈l,x.2=NameKind.free->∃c,env.cells.lookup x.1=some c)->
  (forIn l cs fun(x:Str × NameKind) (r:List (Str × Addr))=>if (x.2==NameKind.free)=true then (do let c <-cellOf env x.1;pure (ForInStep.yield ((x.1,c)::r)))else pure (ForInStep.yield r))=(pure (clOf env l cs):Sem (List (Str × Addr))):=by
  intro l
  induction l with
  | nil=>intro cs _;rfl
  | cons x l ih=>
    intro cs hl
    obtain⟨n,k⟩:=x
    have ht:=fun y hy=>hl y (qf _ hy)
    rw[List.forIn_cons]
    by_cases hk:k=NameKind.free
    ·subst hk
     obtain⟨c,hc⟩:=hl (n,NameKind.free) qg rfl
     have hc':env.cells.lookup n=some c:=hc
     have e1:cellOf env n=pure c:=by unfold cellOf;rw[hc']
     have hff:(NameKind.free==NameKind.free)=true:=rfl
     show(if (NameKind.free==NameKind.free)=true then (do let c <-cellOf env n;pure (ForInStep.yield ((n,c)::cs)))else pure (ForInStep.yield cs)) >>= _=_
     rw[if_pos hff,e1,pure_bind,pure_bind]
     show forIn l ((n,c)::cs) _=_
     rw[ih _ ht]
     show _=pure (if (NameKind.free==NameKind.free)=true then (match env.cells.lookup n with | some c=>clOf env l ((n,c)::cs) | none=>clOf env l cs)else clOf env l cs)
     rw[if_pos hff,hc']
    ·have hb:(k==NameKind.free)=false:=by simpa using hk
     show(if (k==NameKind.free)=true then _ else pure (ForInStep.yield cs)) >>= _=_
     rw[if_neg (by rw[hb];exact qh),pure_bind]
     show forIn l cs _=_
     rw[ih _ ht]
     show _=pure (if (k==NameKind.free)=true then (match env.cells.lookup n with | some c=>clOf env l ((n,c)::cs) | none=>clOf env l cs)else clOf env l cs)
     rw[if_neg (by rw[hb];exact qh)]
 have:=key scope.names [] h
 unfold closureFor
 simpa using this
theorem Yge{env:Env}:∀(l:List (Str × NameKind)) (cs:List (Str × Addr)),(∀x c,(x,c)∈cs->env.cells.lookup x=some c)->∀x c,(x,c)∈clOf env l cs->env.cells.lookup x=some c
 | [],cs,h,x,c,e=>h x c e
 | (n,k)::r,cs,h,x,c,e=>by
   unfold clOf at e
   split at e
   ·split at e
    ·rename_i d hd
     refine Yge r _ (fun y b hy=>?_) x c e
     rcases qr hy with q | q
     ·cases q;exact hd
     ·exact h y b q
    ·exact Yge r cs h x c e
   ·exact Yge r cs h x c e
theorem Yd7{env:Env}:∀(l:List (Str × NameKind)) (cs:List (Str × Addr)) (p:Str × Addr),p∈cs->p∈clOf env l cs
 | [],_,_,h=>h
 | (n,k)::r,cs,p,h=>by
   unfold clOf
   split
   ·split
    ·exact Yd7 r _ p (qf _ h)
    ·exact Yd7 r _ p h
   ·exact Yd7 r _ p h
theorem Ye5{env:Env}:∀(l:List (Str × NameKind)) (cs:List (Str × Addr)) (x:Str) (c:Addr),(x,NameKind.free)∈l->env.cells.lookup x=some c->(x,c)∈clOf env l cs
 | (n,k)::r,cs,x,c,h,hc=>by
   rcases qr h with q | q
   ·cases q
    unfold clOf
    rw[if_pos (show(NameKind.free==NameKind.free)=true from rfl),hc]
    exact Yd7 r _ _ qg
   ·unfold clOf
    split
    ·split
     ·exact Ye5 r _ x c q hc
     ·exact Ye5 r _ x c q hc
    ·exact Ye5 r _ x c q hc
theorem Ye6{x:Str}{c:Addr}{cl:List (Str × Addr)}(h:(x,c)∈cl):∃d,cl.lookup x=some d:=by
 induction cl with
 | nil=>cases h
 | cons p r ih=>
   obtain⟨n,b⟩:=p
   rw[Qf]
   cases e:(x==n)with
   | true=>exact⟨b,rfl⟩
   | false=>
     rcases qr h with q | q
     ·cases q;simp at e
     ·exact ih q
structure CompSc(XN:List Str)(xsc:Scope)(N:List Str)(src:List (Option Nat))(sc:Scope):Prop where
 kind:sc.kind=.function
 xkind:xsc.kind=.function
 cellU:∀y∈sc.names,y.2=NameKind.cell->sc.names.lookup y.1=some NameKind.cell
 names:∀y∈sc.names,y.2=NameKind.local->sc.names.lookup y.1=some NameKind.local
 len:src.length=N.length
 nd:N.Nodup
 cap:∀(i j:Nat) (x:Str),N[i]?=some x->src[i]?=some (some j)->XN[j]?=some x/\sc.names.lookup x=some NameKind.free
 fr:∀y∈sc.names,y.2=NameKind.free->xsc.names.lookup y.1=some NameKind.cell\/xsc.names.lookup y.1=some NameKind.free
def capB(XN:List Str)(sc:Scope):List Str->List (Option Nat)->Bool
 | [],[]=>true
 | x::N,none::src=>capB XN sc N src
 | x::N,some j::src=>decide (XN[j]?=some x)&&decide (sc.names.lookup x=some NameKind.free)&&capB XN sc N src
 | _,_=>false
theorem Yiu{XN:List Str}{sc:Scope}:∀{N:List Str} {src:List (Option Nat)},capB XN sc N src=true->src.length=N.length
 | [],[],_=>rfl
 | _::N,none::src,h=>by
   have:=Yiu (N:=N) (src:=src) h
   simp[this]
 | _::N,some j::src,h=>by
   replace h:(decide (XN[j]?=some _)&&decide (sc.names.lookup _=some NameKind.free)&&capB XN sc N src)=true:=h
   simp only[Qg]at h
   have:=Yiu (N:=N) (src:=src) h.2
   simp[this]
 | [],_::_,h=>Bool.noConfusion h
 | _::_,[],h=>Bool.noConfusion h
theorem Yiv{XN:List Str}{sc:Scope}:∀{N:List Str} {src:List (Option Nat)},capB XN sc N src=true->∀(i j:Nat) (x:Str),N[i]?=some x->src[i]?=some (some j)->XN[j]?=some x/\sc.names.lookup x=some NameKind.free
 | [],[],_,i,j,x,h,_=>by simp at h
 | _::N,none::src,h,i,j,x,h1,h2=>by
   cases i with
   | zero=>simp at h2
   | succ i=>exact Yiv (N:=N) (src:=src) h i j x (by simpa using h1) (by simpa using h2)
 | y::N,some k::src,h,i,j,x,h1,h2=>by
   replace h:(decide (XN[k]?=some y)&&decide (sc.names.lookup y=some NameKind.free)&&capB XN sc N src)=true:=h
   simp only[Qg,decide_eq_true_eq]at h
   cases i with
   | zero=>
     simp at h1 h2
     subst h1;subst h2
     exact h.1
   | succ i=>exact Yiv (N:=N) (src:=src) h.2 i j x (by simpa using h1) (by simpa using h2)
 | [],_::_,h,_,_,_,_,_=>Bool.noConfusion h
 | _::_,[],h,_,_,_,_,_=>Bool.noConfusion h
def Yxp(XN:List Str)(xsc:Scope)(N:List Str)(src:List (Option Nat))(sc:Scope):Bool:=
 decide (sc.kind=.function)&&decide (xsc.kind=.function)&&sc.names.all (fun y=>decide (y.2=NameKind.cell->sc.names.lookup y.1=some NameKind.cell))&&sc.names.all (fun y=>decide (y.2=NameKind.local->sc.names.lookup y.1=some NameKind.local))&&
  decide N.Nodup&&capB XN sc N src&&sc.names.all (fun y=>decide (y.2=NameKind.free->xsc.names.lookup y.1=some NameKind.cell\/xsc.names.lookup y.1=some NameKind.free))
theorem Yaf{XN:List Str}{xsc:Scope}{N:List Str}{src:List (Option Nat)}{sc:Scope}(h:Yxp XN xsc N src sc=true):CompSc XN xsc N src sc:=by
 unfold Yxp at h
 simp only[Qg,decide_eq_true_eq,List.all_eq_true]at h
 obtain⟨⟨⟨⟨⟨⟨h1,h2⟩,h3⟩,h4⟩,h5⟩,h6⟩,h7⟩:=h
 exact⟨h1,h2,h3,h4,Yiu h6,h5,Yiv h6,h7⟩
abbrev Yah(X:Cx)(scope:Scope)(N:List Str)(cl:List (Str × Addr))(C:Addr)(fp:List Addr)(s:Shared)(H:Hp):Cx where
 prog:=X.prog
 w:=X.w
 K:=X.K
 mg:=X.mg
 base:=X.base
 A:=X.A
 N:=N
 s₀:=s
 H₀:=H
 env:=compEnvC scope cl C X.env
 outer:=X.stack
 stack:=X.stack
 ex:=fp
 fn:=fun x=>scope.names.lookup x==some NameKind.cell
 calm:=X.calm
 pn:=[]
 xe:=fun _ _=>False
def capσ(src:List (Option Nat))(σ:St):St:=src.map fun o=>o.bind fun j=>(σ[j]?).join
def PIfs(X:Cx)(ifs:List Expr)(t:TT):Prop:=
 ∀(pins:List (Addr × Obj)) (s:Shared) (σ:St) (H:Hp) (Q:Bool->Hp->Prop),Inv X pins σ H s->t σ H Q->
  wpAny (model X.prog X.w) X.A (forIn ifs true fun c r=>if r=true then do let ok <-isTrue c X.env (eval c X.env);pure (ForInStep.yield ok)else pure (ForInStep.yield r)) (TP X pins σ Q) X.xe s
def tYes:TT:=fun _ H Q=>Q true H
theorem Yu0{X:Cx}:PIfs X [] tYes:=fun _ _ _ H _ I h=>wpAny_tests_nil ⟨H,I,h⟩
theorem Yu1{X:Cx}{c:Expr}{t:TT}(h:PT X c t):PIfs X [c] t:=fun pins s σ H Q I hq=>wpAny_tests_one (h pins s σ H Q I hq)
def tLC(wi:TI)(src:List (Option Nat))(g:TG)(ti:TT)(te:TE):TE:=fun σ H Q=>wi σ H fun J H1=>∀p,H1 p=none->
 ∃W:Nat->Nat->St->Hp->Prop,(∃m,W 0 m (capσ src σ) (upd H1 p (.lst [])))/\∀i m σ1 H2,W i m σ1 H2->
  (J.stop i H2/\Q (.ref p) H2)\/
  (J.go i H2/\∀x H3,J.yld i H2 x H3->g x σ1 H3 fun σ4 H4=>ti σ4 H4 fun b H5=>if b=true then te σ4 H5 fun v H6=>∃xs,H6 p=some (.lst xs)/\xs.length < sizeLine/\∃m',m' < m/\W (i+1) m' σ4 (upd H6 p (.lst (xs++[v])))else ∃m',m' < m/\W (i+1) m' σ4 H5)
section
variable {prog:Program} {w:World} {A:Around} {R:Result->Shared->Prop} {s:Shared} {X:Cx} {elt tg iter:Expr} {ifs:List Expr} {scope:Scope} {pos:Pos} {wi:TI} {g:TG} {ti:TT} {te:TE} {N:List Str} {src:List (Option Nat)}
theorem Yei{elt target iter:Expr}{ifs:List Expr}{scope:Scope}{pos:Pos}{it acc:Value}{env:Env}(I:Nat->Shared->Prop)
 (turn:∀n s,I n s->wpAny (model prog w) A (pyNext it) (fun r s₁=>match r with
  | none=>R (.ok .next) s₁
  | some v=>wpAny (model prog w) A (letOwnedTupleGo target it v) (fun _ s₁=>wpAny (model prog w) A (assign target env v) (fun _ s₂=>
   wpAny (model prog w) A (forIn ifs true fun c r=>if r=true then do let ok <-isTrue c env (eval c env);pure (ForInStep.yield ok)else pure (ForInStep.yield r)) (fun ok s₃=>
    if ok=true then wpAny (model prog w) A (eval elt env) (fun x s₄=>
     wpAny (model prog w) A (call (.builtin "list.append") [acc,x]) (fun _ s₅=>∃m,m < n/\I m s₅) (notedBy (model prog w) A env fun e s'=>R (.error e) s') s₄) (notedBy (model prog w) A env fun e s'=>R (.error e) s') s₃
    else ∃m,m < n/\I m s₃) (notedBy (model prog w) A env fun e s'=>R (.error e) s') s₂) (notedBy (model prog w) A env fun e s'=>R (.error e) s') s₁) (notedBy (model prog w) A env fun e s'=>R (.error e) s') s₁) (notedBy (model prog w) A env fun e s'=>R (.error e) s') s)
 (n:Nat) (h:I n s) :
 codeAny (model prog w) A (.compLoop (.ListComp elt [⟨target,iter,ifs,0⟩] scope pos) 0 it acc env) R s:=by
 refine codeAny_loop rfl I (fun n s hI=>?_) n h
 show wpAny _ A ((compTurn (.ListComp elt [⟨target,iter,ifs,0⟩] scope pos) 0 it acc env).onRaise (fun x=>do noteFrame x env;theTreesLotGoes x)) _ _ s
 refine wpAny_noted ?_
 rw[compTurn_list]
 refine wpAny_bind (wpAny_standAt (wpAny_bind (wpAny_mono (turn n s hI) (fun r s₁ h₁=>?_) fun _ _ h'=>h')))
 cases r with
 | none=>exact wpAny_pure h₁
 | some v=>
   refine wpAny_bind (wpAny_mono h₁ (fun _ s₁ h₁=>?_) fun _ _ h'=>h')
   refine wpAny_bind (wpAny_mono h₁ (fun _ s₂ h₂=>wpAny_bind (wpAny_mono h₂ (fun ok s₃ h₃=>?_) fun _ _ h'=>h')) fun _ _ h'=>h')
   cases ok with
   | false=>exact wpAny_pure ⟨rfl,h₃⟩
   | true=>
     exact wpAny_bind (wpAny_bind (wpAny_mono h₃ (fun x s₄ h₄=>wpAny_bind (wpAny_mono h₄ (fun _ s₅ h₅=>wpAny_pure (wpAny_pure ⟨rfl,h₅⟩)) fun _ _ h'=>h')) fun _ _ h'=>h'))
theorem Yer{scope:Scope}{env:Env}{x:Str}(h:scope.names.lookup x=some NameKind.free)(hk:env.kindOf x=some NameKind.cell\/env.kindOf x=some NameKind.free) :
 (relabel scope env).names.lookup x=some NameKind.cell\/(relabel scope env).names.lookup x=some NameKind.free:=by
 unfold relabel
 show List.lookup x (scope.names.map _)=_\/List.lookup x (scope.names.map _)=_
 generalize scope.names=l at h
 induction l with
 | nil=>cases h
 | cons p r ih=>
   obtain⟨n,k⟩:=p
   rw[Qf]at h
   rw[qz]
   cases e:(x==n)with
   | true=>
     rw[e]at h
     cases h
     by_cases hc:(NameKind.free==NameKind.free&&env.scope.kind==ScopeKind.function&&env.kindOf n==some NameKind.cell)=true
     ·left;simp only[hc,if_true];rw[Qf,e]
     ·right;simp only[hc];rw[if_neg qh,Qf,e]
   | false=>
     rw[e]at h
     have q:=ih h
     by_cases hc:(k==NameKind.free&&env.scope.kind==ScopeKind.function&&env.kindOf n==some NameKind.cell)=true
     ·simp only[hc,if_true];rw[Qf,e];exact q
     ·simp only[hc];rw[if_neg qh,Qf,e];exact q
theorem Ygq{scope:Scope}{env:Env}{x:Str}(h:(relabel scope env).names.lookup x=some NameKind.cell\/(relabel scope env).names.lookup x=some NameKind.free) :
 (x,NameKind.free)∈scope.names\/(x,NameKind.cell)∈scope.names:=by
 unfold relabel at h
 change List.lookup x (scope.names.map _)=_\/List.lookup x (scope.names.map _)=_ at h
 revert h
 generalize scope.names=l
 intro h
 induction l with
 | nil=>rcases h with h | h<;>cases h
 | cons p r ih=>
   obtain⟨n,k⟩:=p
   rw[qz]at h
   have hr:=fun z=>ih z
   cases e:(x==n)with
   | true=>
     have en:x=n:=by simpa using e
     subst en
     by_cases hk:k=NameKind.free
     ·subst hk;exact .inl qg
     ·have hb:(k==NameKind.free)=false:=by simpa using hk
      simp only[hb,Bool.false_and,Bool.false_eq_true,if_false]at h
      rw[Qf,e]at h
      rcases h with h | h
      ·cases h;exact .inr qg
      ·cases h;exact absurd rfl hk
   | false=>
     refine(hr ?_).imp (qf _) (qf _)
     by_cases hk:(k==NameKind.free&&env.scope.kind==ScopeKind.function&&env.kindOf n==some NameKind.cell)=true
     ·simp only[hk,if_true]at h;rw[Qf,e]at h;exact h
     ·simp only[hk]at h;rw[if_neg qh,Qf,e]at h;exact h
theorem Ya7:∀(names:List (Str × NameKind)) (n:Nat) (acc:List (Str × Addr)),cellsFrom n names acc=cellsFrom n names []++acc
 | [],_,_=>rfl
 | (x,k)::r,n,acc=>by
   unfold cellsFrom
   split
   ·rw[Ya7 r (n+1) ((x,n)::acc),Ya7 r (n+1) [(x,n)],List.append_assoc];rfl
   ·exact Ya7 r n acc
theorem Yc4:∀(names:List (Str × NameKind)) (n:Nat) (x:Str) (c:Addr),(x,c)∈cellsFrom n names []->(x,NameKind.cell)∈names
 | [],_,_,_,h=>(nomatch h)
 | (y,k)::r,n,x,c,h=>by
   unfold cellsFrom at h
   split at h
   ·rename_i hk
    rw[Ya7]at h
    rcases qt h with h | h
    ·exact qf _ (Yc4 r _ x c h)
    ·rw[List.mem_singleton]at h
     cases h
     have:k=NameKind.cell:=by simpa using hk
     rw[this];exact qg
   ·exact qf _ (Yc4 r n x c h)
theorem Yfp{own cl:List (Str × Addr)}{x:Str}:(own++cl).lookup x=(own.lookup x).or (cl.lookup x):=by
 induction own with
 | nil=>rfl
 | cons p r ih=>
   obtain⟨y,b⟩:=p
   rw[List.cons_append,Qf,Qf]
   cases (x==y)with
   | true=>rfl
   | false=>exact ih
theorem Yao{own cl:List (Str × Addr)}{x:Str}{c:Addr}(h:(own++cl).lookup x=some c):own.lookup x=some c\/(own.lookup x=none/\cl.lookup x=some c):=by
 rw[Yfp]at h
 cases e:own.lookup x with
 | none=>rw[e]at h;exact .inr ⟨rfl,h⟩
 | some d=>rw[e]at h;exact .inl h
theorem Ylv{M:Model}{A:Around}{E:Value->Shared->Prop}{scope:Scope}{globals:Addr}{cl:List (Str × Addr)}{qual:Str}{outer:Env}{Q:Env->Shared->Prop}{s:Shared}{bt:Addr}
 (h:Q (newEnv scope s.heap.objs.size globals (cellsFrom (s.heap.objs.size+1) scope.names []++cl) qual none .none (some outer) bt) { s with heap:=pushCells (s.heap.push { cls:=.type "dict",data:=.dict #[] }) scope.names }) :
 wpAny M A (newFunctionEnv scope globals cl [] qual none .none (some outer) bt) Q E s:=by
 simp only[newFunctionEnv,Option.isSome_some,if_true]
 refine wpAny_bind (wpAny_alloc ?_)
 refine wpAny_bind (wpAny_layCells _ (fun name kind cells=>by cases hkc:kind==NameKind.cell<;>simp[hkc]) _ _ _ _ ?_)
 rw[show({ s with heap:=s.heap.push { cls:=.type "dict",data:=.dict #[] } }:Shared).heap.objs.size=s.heap.objs.size+1 from Heap.size_push ..,Ya7]
 rw[List.forIn_nil]
 exact wpAny_bind (wpAny_pure (wpAny_pure h))
theorem Yod{pins:List (Addr × Obj)}{σ:St}{H:Hp}{s:Shared}{fp:List Addr}{h₁:Heap}{tk:Nat}{own:List (Str × Addr)}(S:CompSc X.N X.env.scope N src scope)(I:Inv X pins σ H s)(hf:∀b∈fp,FpOk X pins H b)(ho:∀b∈fp,∃o,s.heap.get? b=some o)
 (hn:h₁.Ns s.heap.objs.size fun _=>none) (hk:∀b o,s.heap.get? b=some o->h₁.get? b=some o) (hc:CellsOk h₁ (s.heap.objs.size+1) own) (ow:∀x c,(x,c)∈own->(x,NameKind.cell)∈scope.names) (has:∀x,scope.names.lookup x=some NameKind.cell->∃c,own.lookup x=some c) :
 Inv (Yah X scope N (own++clOf X.env scope.names []) s.heap.objs.size fp s H) [] (capσ src σ) H { s with heap:=h₁,toks:=tk }:=by
 have sub:∀x c,(clOf X.env scope.names []).lookup x=some c->X.env.cells.lookup x=some c:=fun x c e=>Yge scope.names [] (fun _ _ z=>nomatch z) x c (PySem.mem_of_lookup e)
 have clt:∀x c,(clOf X.env scope.names []).lookup x=some c->c < s.heap.objs.size:=fun x c e=>by
  obtain⟨v,q⟩:=I.cell x c (sub x c e)
  exact q.lt
 have owl:∀x c,own.lookup x=some c->s.heap.objs.size < c:=fun x c e=>(hc.empty x c (PySem.mem_of_lookup e)).2
 have nofree:∀x,scope.names.lookup x=some NameKind.free->own.lookup x=none:=fun x hx=>by
  cases e:own.lookup x with
  | none=>rfl
  | some c=>
    have:=S.cellU _ (ow x c (PySem.mem_of_lookup e)) rfl
    rw[hx]at this
    cases this
 have fpl:∀b∈fp,b < s.heap.objs.size:=fun b hb=>by
  obtain⟨o,e⟩:=ho b hb
  exact qk e
 have nfs:∀b∈fp,b∉frs X.stack:=fun b hb z=>by
  rcases qr (I.stkSub b z)with e | e
  ·exact(hf b hb).2.1 e
  ·exact(hf b hb).2.2.1 e
 refine⟨⟨I.ok.mod,S.kind,I.ok.glob,I.ok.blt,qs _,fun x y c h1 h2=>?_,fun x hx=>?_,fun x c z e=>?_,I.ok.hd,I.ok.frames,.inl rfl,fun b hb=>⟨ql (fpl b hb),fun x c e=>?_⟩,
  I.bs,qy I.ok.bsz I.sz,fun b o e hb=>?_,nfs,I.stack,I.stkFree⟩,rfl,I.bare,Un.kept hk,⟨_,hn,fun i x v h1 h2 h3=>?_⟩,fun x c e=>?_,I.fresh,fun x c e=>?_,fun p hp=>(nomatch hp),I.hok.kept hk,?_⟩
 ·rcases Yao h1 with h1 | ⟨_,h1⟩
  ·rcases Yao h2 with h2 | ⟨_,h2⟩
   ·exact name_of_addr hc.apart (PySem.mem_of_lookup h1) (PySem.mem_of_lookup h2)
   ·exact absurd (Nat.lt_trans (owl x c h1) (clt y c h2)) (Qe _)
  ·rcases Yao h2 with h2 | ⟨_,h2⟩
   ·exact absurd (Nat.lt_trans (owl y c h2) (clt x c h1)) (Qe _)
   ·exact I.ok.inj x y c (sub x c h1) (sub y c h2)
 ·show ∃c,(own++clOf X.env scope.names []).lookup x=some c
  rw[Yfp]
  cases e:own.lookup x with
  | some c=>exact⟨c,rfl⟩
  | none=>
    rcases Ygq hx with hm | hm
    ·obtain⟨c,hc⟩:=I.ok.has x (S.fr _ hm rfl)
     exact Ye6 (Ye5 scope.names [] x c hm hc)
    ·obtain⟨c,hc⟩:=has x (S.cellU _ hm rfl)
     rw[e]at hc
     cases hc
 ·have z':scope.names.lookup x=some NameKind.cell:=by simpa using z
  obtain⟨d,hd⟩:=has x z'
  rcases Yao e with e | ⟨e,_⟩
  ·exact Nat.le_of_lt (owl x c e)
  ·rw[hd]at e;cases e
 ·rcases Yao e with e | ⟨_,e⟩
  ·exact Nat.ne_of_gt (Nat.lt_trans (fpl b hb) (owl x c e))
  ·exact(hf b hb).2.2.2.2.1 x c (sub x c e)
 ·rcases(hf b hb).2.2.2.1 with z | z
  ·exact I.ok.noex b o e z
  ·exact absurd (Qc (qk e) (qy I.ok.bsz z)) (Qe _)
 ·have hi:i < src.length:=by
   have:=(qm h2).1
   unfold capσ at this
   simpa using this
  have hs:src[i]?=some src[i]:=qp hi
  unfold capσ at h2
  rw[Qd,hs]at h2
  have h2':(src[i].bind fun j=>(σ[j]?).join)=some v:=Option.some.inj h2
  cases q:src[i]with
  | none=>rw[q]at h2';cases h2'
  | some j=>
    rw[q]at h2' hs
    have h2'':(σ[j]?).join=some v:=h2'
    obtain⟨hx,hfr⟩:=S.cap i j x h1 hs
    obtain⟨m,_,hl⟩:=I.loc
    have hk2:X.env.kindOf x=some NameKind.cell\/X.env.kindOf x=some NameKind.free:=S.fr (x,NameKind.free) (PySem.mem_of_lookup hfr) rfl
    have hσ:σ[j]?=some (some v):=by
     cases z:σ[j]? with
     | none=>rw[z]at h2'';cases h2''
     | some o=>
       rw[z]at h2''
       have:o=some v:=h2''
       rw[this]
    obtain⟨u,r,l⟩:=hl j x v hx hσ (.inr hk2)
    refine⟨u,r,.inr ⟨Yer hfr hk2,?_⟩⟩
    rcases l with⟨z,_⟩ | ⟨_,c,hc,hcell⟩
    ·rcases hk2 with q2 | q2
     ·rw[q2]at z;cases z
     ·rw[q2]at z;cases z
    ·obtain⟨d,hd⟩:=Ye6 (Ye5 (env:=X.env) scope.names [] x c (PySem.mem_of_lookup hfr) hc)
     have e2:=sub x d hd
     rw[hc]at e2
     cases e2
     refine⟨c,?_,hcell.keeps hk⟩
     show(own++clOf X.env scope.names []).lookup x=some c
     rw[Yfp,nofree x hfr]
     exact hd
 ·rcases Yao e with e | ⟨_,e⟩
  ·exact⟨_,(hc.empty x c (PySem.mem_of_lookup e)).1⟩
  ·obtain⟨v,q⟩:=I.cell x c (sub x c e)
   exact⟨v,q.keeps hk⟩
 ·rcases Yao e with e | ⟨_,e⟩
  ·exact I.hok.fresh (Nat.le_of_lt (owl x c e))
  ·exact I.freeC x c (sub x c e)
 ·unfold capσ
  rw[qe]
  exact S.len
theorem Ysb{pins:List (Addr × Obj)}{σ σ1:St}{H H':Hp}{s s':Shared}{fp:List Addr}{cl:List (Str × Addr)}{C:Addr}{pn:List (Addr × Obj)}(I:Inv X pins σ H s)(hf:∀b∈fp,FpOk X pins H b)(J:Inv (Yah X scope N cl C fp s H) pn σ1 H' s'):Inv X pins σ H' s':=
 I.call' J.os J.base J.hok J.bare fun b hb=>⟨(hf b hb).2.2.2.1,(hf b hb).2.1,(hf b hb).2.2.2.2.1,(hf b hb).2.2.2.2.2⟩
theorem Yj9{pins:List (Addr × Obj)}{σ:St}{H:Hp}{s:Shared}{Q:VK}{it:Addr}{fp:List Addr}{tn:Nat->Heap->Prop}{J:It}{R:Value->Addr->Result->Shared->Prop}{E:Value->Shared->Prop}
 (S:CompSc X.N X.env.scope N src scope) (hc:X.calm=true) (hg:∀cl C fp s H,PG (Yah X scope N cl C fp s H) tg g) (hi:∀cl C fp s H,PIfs (Yah X scope N cl C fp s H) ifs ti) (he:∀cl C fp s H,PE (Yah X scope N cl C fp s H) elt te)
 (I:Inv X pins σ H s) (T:Turn X.prog X.w X.K tg J fp it tn) (st:tn 0 s.heap) (hf:∀b∈fp,FpOk X pins H b)
 (h:∀p,H p=none->∃W:Nat->Nat->St->Hp->Prop,(∃m,W 0 m (capσ src σ) (upd H p (.lst [])))/\∀i m σ1 H2,W i m σ1 H2->
  (J.stop i H2/\Q (.ref p) H2)\/
  (J.go i H2/\∀x H3,J.yld i H2 x H3->g x σ1 H3 fun σ4 H4=>ti σ4 H4 fun b H5=>if b=true then te σ4 H5 fun v H6=>∃xs,H6 p=some (.lst xs)/\xs.length < sizeLine/\∃m',m' < m/\W (i+1) m' σ4 (upd H6 p (.lst (xs++[v])))else ∃m',m' < m/\W (i+1) m' σ4 H5))
 (hR:∀(D C:Addr) (s':Shared) (H':Hp) (m:Str->Option Value),Inv X pins σ H' s'->s'.heap.Ns C m->H' C=none->C≠X.env.locals->X.s₀.heap.objs.size<=C->(∀x c,X.env.cells.lookup x=some c->c≠C)->(∀p∈X.pn++pins,p.1≠C)->Q (.ref D) H'->R (.ref D) C (.ok .next) s') :
 wpAny (model X.prog X.w) X.A (newList []) (fun acc s₃=>wpAny (model X.prog X.w) X.A (newFunctionEnv scope X.env.globals (clOf X.env scope.names []) [] X.env.qual none .none (some X.env)) (fun cenv s₄=>
  codeAny (model X.prog X.w) X.A (.compStart (.ListComp elt [⟨tg,iter,ifs,0⟩] scope pos) 0 (.ref it) acc { cenv with scope:=relabel scope X.env }) (R acc cenv.locals) s₄) E s₃) E s:=by
 refine wpAny_newObj_type (Ylv ?_)
 have hfree:H s.heap.objs.size=none:=I.fresh
 obtain⟨W,⟨m0,w0⟩,turn⟩:=h s.heap.objs.size hfree
 have I3:Inv X pins σ (upd H s.heap.objs.size (.lst [])) { s with heap:=s.heap.push { cls:=.type "list",dict:=none,data:=.seq ([]:List Value).toArray },toks:=s.toks }:=I.lnew (ys:=[]) (its:=[]) .nil (Qb _)
 generalize hD:s.heap.objs.size=Dd at *
 generalize hH3:upd H Dd (.lst [])=H3 at *
 have kp0:∀b o,s.heap.get? b=some o->(s.heap.push { cls:=.type "list",dict:=none,data:=.seq ([]:List Value).toArray }).get? b=some o:=fun b o e=>qd _ e
 have lt0:∀b o,s.heap.get? b=some o->b≠Dd:=fun b o e=>by rw[<-hD];exact ql (qk e)
 generalize hs3:s.heap.push { cls:=.type "list",dict:=none,data:=.seq ([]:List Value).toArray }=hp3 at *
 have f3:∀b∈fp,FpOk X pins H3 b:=fun b hb=>by
  obtain⟨o,e,_⟩:=T.obj _ _ st b hb
  refine⟨?_,(hf b hb).2⟩
  rw[<-hH3,Yh (lt0 b o e)]
  exact(hf b hb).1
 have ob3:∀b∈fp,∃o,hp3.get? b=some o:=fun b hb=>by
  obtain⟨o,e,_⟩:=T.obj _ _ st b hb
  exact⟨o,kp0 b o e⟩
 dsimp only
 have hns₁:(pushCells (hp3.push { cls:=.type "dict",data:=.dict #[] }) scope.names).Ns hp3.objs.size (fun _=>none):=(Heap.Ns.new hp3 (.type "dict")).keeps (pushCells_keeps _ _)
 have old:∀b o,hp3.get? b=some o->(pushCells (hp3.push { cls:=.type "dict",data:=.dict #[] }) scope.names).get? b=some o:=fun b o e=>pushCells_keeps _ _ b o (qd _ e)
 have cok:=cellsFrom_ok scope.names (hp3.push { cls:=.type "dict",data:=.dict #[] }) (hp3.objs.size+1) [] ⟨fun _ _ hm=>(nomatch hm),List.Pairwise.nil⟩ (by rw[Heap.size_push];exact qs _)
 rw[Heap.size_push]at cok
 have chas:∀x,scope.names.lookup x=some NameKind.cell->∃c,(cellsFrom (hp3.objs.size+1) scope.names []).lookup x=some c:=fun x hx=>Option.isSome_iff_exists.mp (PySem.W.cellsFrom_some _ _ _ (.inl hx))
 have cmem:∀x c,(x,c)∈cellsFrom (hp3.objs.size+1) scope.names []->(x,NameKind.cell)∈scope.names:=fun x c h=>Yc4 _ _ x c h
 generalize cellsFrom (hp3.objs.size+1) scope.names []=own at *
 generalize pushCells (hp3.push { cls:=.type "dict",data:=.dict #[] }) scope.names=h₁ at *
 have I4:Inv (Yah X scope N (own++clOf X.env scope.names []) hp3.objs.size fp { s with heap:=hp3,toks:=s.toks } H3) [] (capσ src σ) H3 { s with heap:=h₁,toks:=s.toks }:=
  Yod (s:={ s with heap:=hp3,toks:=s.toks }) (tk:=s.toks) S I3 f3 ob3 hns₁ old cok cmem chas
 have st4:tn 0 h₁:=T.keep _ _ _ st fun b _ o e=>old b o (kp0 b o e)
 have hCl:hp3.objs.size≠X.env.locals:=Nat.ne_of_gt I3.lt
 have hCc:∀x c,X.env.cells.lookup x=some c->c≠hp3.objs.size:=fun x c e=>by
  obtain⟨v,q⟩:=I3.cell x c e
  exact ql q.lt
 have hCp:∀p∈X.pn++pins,p.1≠hp3.objs.size:=fun p hp=>ql (qk (I3.pin p hp).1)
 have stat:∀{H':Hp},(∀b∈fp,H' b=none)->∀b∈fp,FpOk (Yah X scope N (own++clOf X.env scope.names []) hp3.objs.size fp { s with heap:=hp3,toks:=s.toks } H3) [] H' b:=fun {H'} hn b hb=>by
  obtain⟨e1,e2⟩:=I4.ok.exf b hb
  exact⟨hn b hb,e1,I4.ok.exfs b hb,.inl hb,e2,fun p hp=>nomatch hp⟩
 have loop:codeAny (model X.prog X.w) X.A (.compLoop (.ListComp elt [⟨tg,iter,ifs,0⟩] scope pos) 0 (.ref it) (.ref Dd) (compEnvC scope (own++clOf X.env scope.names []) hp3.objs.size X.env)) (R (.ref Dd) hp3.objs.size) { s with heap:=h₁,toks:=s.toks }:=by
  refine Yei (fun n s'=>∃i σ' H',Inv (Yah X scope N (own++clOf X.env scope.names []) hp3.objs.size fp { s with heap:=hp3,toks:=s.toks } H3) [] σ' H' s'/\tn i s'.heap/\(∀b∈fp,H' b=none)/\W i n σ' H') ?_ m0 ⟨0,_,H3,I4,st4,fun b hb=>(f3 b hb).1,w0⟩
  rintro n s3 ⟨i,σ3,H3',I3',st3,fr3,w3⟩
  rcases turn i n σ3 H3' w3 with⟨stop,qn⟩ | ⟨go,step⟩
  ·refine thn (T.done (Yah X scope N (own++clOf X.env scope.names []) hp3.objs.size fp { s with heap:=hp3,toks:=s.toks } H3) rfl rfl rfl hc i [] s3 σ3 H3' _ I3' (stat fr3) st3 stop) fun r s4 hx_=>?_
   obtain⟨hr,I5⟩:=hx_
   subst hr
   obtain⟨m,hm,_⟩:=I5.loc
   exact hR Dd hp3.objs.size s4 H3' m (Ysb I3 f3 I5) hm I5.free hCl (qy I3.sz (qs _)) hCc hCp qn
  ·refine thn (T.item (Yah X scope N (own++clOf X.env scope.names []) hp3.objs.size fp { s with heap:=hp3,toks:=s.toks } H3) rfl rfl rfl hc i [] s3 σ3 H3' _ I3' (stat fr3) st3 go) fun r s4 hx_=>?_
   obtain⟨u,hr,h4⟩:=hx_
   subst hr
   refine thn h4 fun _ s5 hx_=>?_
   obtain⟨x,H5,I5,r5,y5,st5,fr5⟩:=hx_
   have I5':=I5.pinned (stat fr5) (T.obj _ _ st5)
   have un:∀{α:Type} {t:Sem α} {Q':α->Shared->Prop} {E':Value->Shared->Prop} {s':Shared},wpAny (model X.prog X.w) X.A t Q' (fun _ _=>False) s'->wpAny (model X.prog X.w) X.A t Q' E' s':=fun h=>wpAny_mono h (fun _ _ q=>q) fun _ _ f=>f.elim
   refine un (thn (hg _ _ _ _ _ _ s5 σ3 H5 x u _ I5' r5 (step x H5 y5)) fun _ s6 hx_=>?_)
   obtain⟨σ6,H6,I6,q6⟩:=hx_
   refine un (thn (hi _ _ _ _ _ _ s6 σ6 H6 _ I6 q6) fun ok s7 hx_=>?_)
   obtain⟨H7,I7,q7⟩:=hx_
   have again:∀{H8:Hp} {s8:Shared} {m':Nat},m' < n->Inv (Yah X scope N (own++clOf X.env scope.names []) hp3.objs.size fp { s with heap:=hp3,toks:=s.toks } H3) ([]++Yj3 fp s5.heap) σ6 H8 s8->W (i+1) m' σ6 H8->
    ∃m,m < n/\∃i σ' H',Inv (Yah X scope N (own++clOf X.env scope.names []) hp3.objs.size fp { s with heap:=hp3,toks:=s.toks } H3) [] σ' H' s8/\tn i s8.heap/\(∀b∈fp,H' b=none)/\W i m σ' H':=fun {H8 s8 m'} hm I8 w8=>by
    refine⟨m',hm,i+1,σ6,H8,I8.unpinned,T.keep _ _ _ st5 fun b hb o e=>(I8.pin (b,o) (Qi _ (Qi _ (Yd6 hb e)))).1,fun b hb=>?_,w8⟩
    obtain⟨o,e,d⟩:=T.obj _ _ st5 b hb
    exact(I8.pin (b,o) (Qi _ (Qi _ (Yd6 hb e)))).2.1
   cases ok with
   | false=>
     rw[if_neg qh]at q7 ⊢
     obtain⟨m',hm,w7⟩:=q7
     exact again hm I7 w7
   | true=>
     rw[if_pos rfl]at q7 ⊢
     refine un (thn (he _ _ _ _ _ _ s7 σ6 H7 _ I7 q7) fun y s8 hx_=>?_)
     obtain⟨v,H8,I8,r8,q8⟩:=hx_
     obtain⟨xs,e8,z8,m',hm,w8⟩:=q8
     refine un (thn (Ydn _ s8 σ6 H8 (.ref Dd) [v] (.ref Dd) [y] (fun _ H9=>H9=upd H8 Dd (.lst (xs++[v]))) I8 rfl (.cons r8 .nil) ⟨Dd,xs,v,rfl,rfl,e8,z8,rfl⟩) fun _ s9 hx_=>?_)
     obtain⟨_,H9,I9,_,q9⟩:=hx_
     subst q9
     exact again hm I9 w8
 exact codeAny_compStart_list loop (T.self _ _ _ _ _ st4 loop)
theorem Yu2(S:CompSc X.N X.env.scope N src scope)(hc:X.calm=true)(hit:PI X tg iter wi)(hg:∀cl C fp s H,PG (Yah X scope N cl C fp s H) tg g)(hi:∀cl C fp s H,PIfs (Yah X scope N cl C fp s H) ifs ti)(he:∀cl C fp s H,PE (Yah X scope N cl C fp s H) elt te)
 (hs:∀x,foldedSetIterable iter X.env x=pure x:=by intro _;rfl):PE X (.ListComp elt [⟨tg,iter,ifs,0⟩] scope pos) (tLC wi src g ti te):=by
 intro pins s σ H Q I h
 rw[eval_ListComp]
 have hcl:closureFor scope X.env=pure (clOf X.env scope.names []):=Ydo fun y hy hf=>I.ok.has y.1 (S.fr y hy hf)
 refine wpAny_comprehension_free (use:=none) rfl hs hcl S.kind S.names ?_
 refine thn (hit pins s σ H _ I h) fun v s1 h1=>thn h1 fun itv s2 hx_=>?_
 obtain⟨it,fp,tn,J,H2,e,I2,T,st2,f2,q⟩:=hx_
 subst e
 refine Yj9 (Q:=Q) (R:=fun acc C=>compPost (model X.prog X.w) X.A X.xe none (EP X pins σ Q) acc C) S hc hg hi he I2 T st2 f2 q fun D C s' H' m I' hm hC hCl hCs hCc hCp hq=>?_
 refine⟨m,hm,fun h' sb=>?_⟩
 exact⟨.ref D,H',I'.turned (t':=s'.toks) (fun b o hb e=>(sb.2 b hb).trans e) hC hCl (.inr hCs) hCc hCp,rfl,hq⟩
theorem Yu3{i:Nat}{y:Str}{py spos:Pos}(S:CompSc X.N X.env.scope N src scope)(hc:X.calm=true)(hit:PI X tg iter wi)(hg:∀cl C fp s H,PG (Yah X scope N cl C fp s H) tg g)(hi:∀cl C fp s H,PIfs (Yah X scope N cl C fp s H) ifs ti)(he:∀cl C fp s H,PE (Yah X scope N cl C fp s H) elt te)
 (hN:X.N.Nodup) (hy:X.N[i]?=some y) (hx:Loc X.env.scope y) (hsw:swapsWith (.ListComp elt [⟨tg,iter,ifs,0⟩] scope pos) (some (.Name y py)) spos.line X.env=pure true)
 (hf:X.fn y=true\/X.env.scope.names.lookup y=some .local:=by first | exact .inl rfl | exact .inr rfl | assumption)
 (hs:∀x,foldedSetIterable iter X.env x=pure x:=by intro _;rfl):PS X (.Assign [.Name y py] (.ListComp elt [⟨tg,iter,ifs,0⟩] scope pos) spos) (tAsg (tLC wi src g ti te) (Yn3 i)):=by
 intro pins s σ H D I h
 rw[exec_Assign_Name_used _ _ _ _ hsw]
 refine wpAny_bind (wpAny_standAt (wpAny_bind ?_))
 show wpAny _ X.A (do let _ <-comprehension (.ListComp elt [⟨tg,iter,ifs,0⟩] scope pos) scope X.env _ (newList []) false (eval iter X.env) (some (assign (.Name y py) X.env))) _ _ s
 have hcl:closureFor scope X.env=pure (clOf X.env scope.names []):=Ydo fun y hy hf=>I.ok.has y.1 (S.fr y hy hf)
 refine wpAny_bind (wpAny_mono (wpAny_comprehension_free (use:=some (assign (.Name y py) X.env)) (Q:=fun _ s'=>SP X pins D .next s') rfl hs hcl S.kind S.names ?_) (fun _ s' hq=>wpAny_pure (wpAny_pure hq)) fun _ _ e=>e)
 refine thn (hit pins s σ H _ I h) fun v s1 h1=>thn h1 fun itv s2 hx_=>?_
 obtain⟨it,fp,tn,J,H2,e,I2,T,st2,f2,q⟩:=hx_
 subst e
 refine Yj9 (Q:=fun x H1=>Yn3 i x σ H1 D.nx) (R:=fun acc C=>compPost (model X.prog X.w) X.A X.xe (some (assign (.Name y py) X.env)) (fun _ s'=>SP X pins D .next s') acc C) S hc hg hi he I2 T st2 f2 q fun Dd C s' H' m I' hm hC hCl hCs hCc hCp hq=>?_
 show wpAny _ X.A (assign (.Name y py) X.env (.ref Dd)) _ _ s'
 refine wpAny_assign_Name (Yj1 I' hN hy hx (v:=.ref Dd) rfl (fun s'' I'' hsb=>?_) hf)
 obtain⟨a,sb,ha⟩:=hsb
 have hCa:C≠a:=by
  rcases ha with e | e
  ·rw[e];exact hCl
  ·exact Ne.symm (hCc y a e)
 refine⟨m,hm.sameBut sb hCa,fun h' sb'=>?_⟩
 exact⟨_,H',I''.turned (t':=s''.toks) (fun b o hb e=>(sb'.2 b hb).trans e) hC hCl (.inr hCs) hCc hCp,hq⟩
end
end L2
namespace M
open PySem PySem.Spec PyProof.Rows L2
section
section
def Rise(xs:Array Nat):Prop:=xs.toList.Pairwise (· < ·)
theorem Yiw{xs:Array Nat}(hr:Rise xs)(j:Nat):∀(fuel lo hi:Nat),lo<=hi->hi<=xs.size->hi - lo<=fuel->
 (∀(i:Nat) (h:i < xs.size),i < lo->xs[i] < j)->(∀(i:Nat) (h:i < xs.size),hi<=i->j<=xs[i])->
 SetTable.below.go xs j fuel lo hi<=xs.size/\(∀(i:Nat) (h:i < xs.size),i < SetTable.below.go xs j fuel lo hi->xs[i] < j)/\(∀(i:Nat) (h:i < xs.size),SetTable.below.go xs j fuel lo hi<=i->j<=xs[i])
 | 0,lo,hi,h1,h2,h3,h4,h5=>by
   have e:lo=hi:=by lia
   subst e
   rw[SetTable.below.go]
   exact⟨h2,h4,h5⟩
 | fuel+1,lo,hi,h1,h2,h3,h4,h5=>by
   have mono:∀(i k:Nat) (hi:i < xs.size) (hk:k < xs.size),i < k->xs[i] < xs[k]:=fun i k hi hk h=>by
    have:=List.pairwise_iff_getElem.mp hr i k (by simpa using hi) (by simpa using hk) h
    simpa using this
   rw[SetTable.below.go]
   by_cases hl:lo < hi
   ·rw[if_pos hl]
    have hm:(lo+hi) / 2 < xs.size:=by lia
    have hg:xs.getD ((lo+hi) / 2) j=xs[(lo+hi) / 2]:=by simp[Array.getD,hm]
    dsimp only
    rw[hg]
    by_cases hlt:xs[(lo+hi) / 2] < j
    ·rw[if_pos hlt]
     refine Yiw hr j fuel _ _ (by lia) h2 (by lia) (fun i hi' hh=>?_) h5
     by_cases e:i=(lo+hi) / 2
     ·subst e;exact hlt
     ·exact Nat.lt_trans (mono i _ hi' hm (by lia)) hlt
    ·rw[if_neg hlt]
     refine Yiw hr j fuel _ _ (by lia) (by lia) (by lia) h4 (fun i hi' hh=>?_)
     by_cases e:i=(lo+hi) / 2
     ·subst e;lia
     ·have:=mono _ i hm hi' (by lia)
      lia
   ·rw[if_neg hl]
    have e:lo=hi:=by lia
    subst e
    exact⟨h2,h4,h5⟩
theorem Yie{xs:Array Nat}(hr:Rise xs)(j:Nat):SetTable.below xs j<=xs.size/\(∀a∈xs.toList.take (SetTable.below xs j),a < j)/\(∀a∈xs.toList.drop (SetTable.below xs j),j<=a):=by
 obtain⟨h1,h2,h3⟩:=Yiw hr j xs.size 0 xs.size (Qb _) (qs _) (by lia) (fun i _ h=>absurd h (Nat.not_lt_zero _)) (fun i h h'=>absurd h (by lia))
 have e:SetTable.below xs j=SetTable.below.go xs j xs.size 0 xs.size:=rfl
 rw[e]
 refine⟨h1,fun a ha=>?_,fun a ha=>?_⟩
 ·obtain⟨i,hi,rfl⟩:=List.mem_iff_getElem.mp ha
  rw[List.length_take]at hi
  have hi':i < xs.size:=by have:xs.toList.length=xs.size:=by simp
                           lia
  rw[List.getElem_take,Array.getElem_toList]
  exact h2 i hi' (by lia)
 ·obtain⟨i,hi,rfl⟩:=List.mem_iff_getElem.mp ha
  rw[List.length_drop]at hi
  have hs:xs.toList.length=xs.size:=by simp
  rw[List.getElem_drop,Array.getElem_toList]
  exact h3 _ (by lia) (by lia)
theorem Yix{α:Type}(xs:Array α)(p:Nat)(x:α):(SetTable.insertAt xs p x).toList=xs.toList.take p++x::xs.toList.drop p:=by
 unfold SetTable.insertAt
 simp[Array.toList_extract,List.extract_eq_drop_take]
 exact List.take_of_length_le (by simp)
theorem Ylw{xs:Array Nat}(hr:Rise xs)(j:Nat)(hn:xs[SetTable.below xs j]?≠some j):Rise (SetTable.insertAt xs (SetTable.below xs j) j):=by
 obtain⟨h1,h2,h3⟩:=Yie hr j
 unfold Rise at hr ⊢
 rw[Yix]
 generalize hp:SetTable.below xs j=p at h1 h2 h3 hn ⊢
 rw[<-Array.getElem?_toList]at hn
 generalize xs.toList=l at hr h2 h3 hn ⊢
 have hr2:=hr
 rw[<-List.take_append_drop p l,List.pairwise_append]at hr
 obtain⟨r1,r2,r3⟩:=hr
 have hgt:∀a∈l.drop p,j < a:=by
  cases hd:l.drop p with
  | nil=>intro a ha;cases ha
  | cons b r=>
    rw[hd]at r2 h3
    have hb:l[p]?=some b:=by
     have:(l.drop p)[0]?=some b:=by rw[hd];rfl
     rwa [List.getElem?_drop,Nat.add_zero]at this
    have hjb:j < b:=Nat.lt_of_le_of_ne (h3 b qg) (fun z=>hn (by rw[hb,z]))
    intro a ha
    rcases qr ha with rfl | ha
    ·exact hjb
    ·exact Nat.lt_trans hjb ((List.pairwise_cons.mp r2).1 a ha)
 rw[List.pairwise_append]
 refine⟨r1,List.pairwise_cons.mpr ⟨hgt,r2⟩,fun a ha b hb=>?_⟩
 rcases qr hb with rfl | hb
 ·exact h2 a ha
 ·exact Nat.lt_trans (h2 a ha) (hgt b hb)
theorem Ypo{t:SetTable}{j:Nat}(h:∀i,t.slot j≠.live i):t.place[SetTable.below t.place j]?≠some j:=fun z=>by
 refine h (SetTable.below t.place j) ?_
 unfold SetTable.slot
 dsimp only
 rw[z]
 simp
theorem Yfq{t:SetTable}{ha:Nat->Int}{h:Int}:∀(fuel:Nat) (p:SetTable.Probe) {j:Nat} {d:Option Nat},(∀x,p.dummy=some x->∀i,t.slot x≠.live i)->
 SetTable.probe.go t ha h fuel p=some (.empty j d)->∀i,t.slot (d.getD j)≠.live i
 | 0,p,j,d,_,e=>by rw[SetTable.probe.go]at e;cases e
 | fuel+1,p,j,d,hd,e=>by
   rw[SetTable.probe.go]at e
   split at e
   ·rename_i hs
    cases e
    intro i
    cases hp:p.dummy with
    | none=>rw[Option.getD_none,hs];exact fun z=>nomatch z
    | some x=>exact hd x hp i
   ·rename_i hs
    refine Yfq fuel _ (fun x hx i=>?_) e
    have hx':x=p.j:=by
     unfold SetTable.advance at hx
     split at hx
     ·exact(Option.some.inj hx).symm
     ·exact(Option.some.inj hx).symm
    rw[hx',hs]
    exact fun z=>nomatch z
   ·split at e
    ·cases e
    ·refine Yfq fuel _ (fun x hx i=>hd x ?_ i) e
     unfold SetTable.advance at hx
     split at hx
     ·exact hx
     ·exact hx
def Tab(bt:Bool)(t:SetTable):Prop:=(bt=false->t.led=true)/\(t.plain=true->Rise t.place)
theorem Tab.standIn{bt:Bool}{t:SetTable}(h:Tab bt t)(n:Nat):Tab bt (t.standIn n):=⟨h.1,fun z=>nomatch z⟩
theorem Tab.off{bt:Bool}{t:SetTable}(h:Tab bt t):Tab bt { t with plain:=false }:=⟨h.1,fun z=>nomatch z⟩
theorem Tab.fresh{bt:Bool}:Tab bt (.fresh 0 0 (!bt)):=⟨fun h=>by subst h;rfl,fun _=>.nil⟩
theorem Tab.layNew{bt:Bool}{t:SetTable}(h:Tab bt t)(es:Array (Int × Value))(hh:Int)(x:Value):Tab bt (PySem.layNew t es hh x).2.1:=by
 unfold PySem.layNew
 split
 ·rename_i slot wd hf
  dsimp only
  unfold SetTable.orStandIn
  split
  ·refine⟨h.1,fun z=>?_⟩
   refine Ylw (h.2 z) slot (Ypo ?_)
   unfold SetTable.freeSlot at hf
   split at hf
   ·rename_i j dummy hp
    cases hf
    exact Yfq _ _ (fun x hx=>by simp[SetTable.probeStart]at hx) hp
   ·cases hf
  ·exact⟨h.1,fun z=>nomatch z⟩
 ·exact h.standIn _
theorem Ypp{mask finger moves:Nat}{led plain:Bool}{hs:Array Int}{t:SetTable}{o:Array Nat}(h:SetTable.laid mask finger moves led plain hs=some (t,o)):Rise t.place/\t.led=led/\t.plain=plain:=by
 unfold SetTable.laid at h
 obtain⟨owner,_,h⟩:=qa h
 cases h
 refine⟨?_,rfl,rfl⟩
 unfold Rise
 show(((List.range (mask+1)).filterMap fun j=>(owner.getD j none).map (j,·)).map (·.1)).Pairwise (· < ·)
 rw[List.map_filterMap]
 refine List.Pairwise.filterMap _ (fun a b hab x hx y hy=>?_) List.pairwise_lt_range
 simp at hx hy
 obtain⟨_,_,rfl⟩:=hx
 obtain⟨_,_,rfl⟩:=hy
 exact hab
theorem Tab.relayAll{bt:Bool}{t:SetTable}(h:Tab bt t)(es:Array (Int × Value))(n:Nat):Tab bt (PySem.relayAll t es n).2.1:=by
 unfold PySem.relayAll
 split
 ·rename_i t' order hr
  obtain⟨h1,h2,h3⟩:=Ypp hr
  dsimp only
  split
  ·exact⟨fun z=>by rw[h2];exact h.1 z,fun _=>h1⟩
  ·exact h.standIn _
 ·exact h.standIn _
end
end
section
section
variable {prog:Program} {w:World} {A:Around} {E:Value->Shared->Prop} {s:Shared}
def kOf(e:Int × Value):Int:=match e.2 with
 | .int n _=>n
 | _=>0
abbrev byT(w:World):Bool:=w.params.followText "set-order"
def SetI(prog:Program)(w:World)(h:Heap)(a:Addr)(ns:List Int):Prop:=
 ∃o es ep t,h.get? a=some o/\o.ExactSet/\o.data=.set es ep t/\ElemsOf (intKind prog w) es.toList/\es.toList.map kOf=ns/\ns.Nodup/\es.size < scanBound/\t.fits es.size=true/\Tab (byT w) t
theorem Yti{k:Int}{e:Int × Value}(h:(intKind prog w).is k e.2=true):kOf e=k:=by
 obtain⟨t,ht⟩:=Value.isInt_shape h
 unfold kOf
 rw[ht]
theorem Ym3{es:List (Int × Value)}(h:ElemsOf (intKind prog w) es){e:Int × Value}(he:e∈es):∃t,e=(hashInt (kOf e),.int (kOf e) t):=by
 obtain⟨⟨k,hk,hh⟩,_⟩:=h e he
 have hk':=Yti hk
 obtain⟨t,ht⟩:=Value.isInt_shape hk
 refine⟨t,?_⟩
 rw[hk']
 exact Prod.ext hh ht
theorem SetI.at{h h':Heap}{a:Addr}{ns:List Int}(x:SetI prog w h a ns)(e:∀o,h.get? a=some o->h'.get? a=some o):SetI prog w h' a ns:=
 let ⟨o,es,ep,t,ho,r⟩:=x
 ⟨o,es,ep,t,e o ho,r⟩
theorem SetI.len{h:Heap}{a:Addr}{ns:List Int}(x:SetI prog w h a ns):ns.length < scanBound:=by
 obtain⟨o,es,ep,t,ho,hex,hd,hel,hns,hnd,hb,_⟩:=x
 rw[<-hns,qe,qi]
 exact hb
theorem Ypq{h:Heap}{a:Addr}{o:Obj}{es:Array (Int × Value)}{ep:Nat}{t:SetTable}(ho:h.get? a=some o)(hd:o.data=.set es ep t)(es':Array (Int × Value))(t':SetTable) :
 (h.update a (Obj.putSet es' t')).get? a=some { o with data:=.set es' (ep+1) t' }:=by
 have:=Heap.get?_update_self (Obj.putSet es' t') ho (by rw[putSet_of es' t' hd];rfl)
 rw[putSet_of es' t' hd]at this
 exact this
theorem Ym4{g:Bool->Sem Unit}(hg:∀(b:Bool) (s₁:Shared) (Q':Unit->Shared->Prop),Q' () s₁->wpAny (model prog w) A (g b) Q' E s₁)
 {a:Addr} {o:Obj} {es:Array (Int × Value)} {ep:Nat} {t:SetTable} (ho:s.heap.get? a=some o) (hex:o.ExactSet) (hd:o.data=.set es ep t)
 {es1:Array (Int × Value)} {t2:SetTable} {ms:List Int} (hel1:ElemsOf (intKind prog w) es1.toList) (hms:(es1.toList.map kOf).Perm ms) (hnd:ms.Nodup)
 (hb1:es1.size < scanBound) (hf2:t2.fits es1.size=true) (ht2:Tab (byT w) t2) {wasDummy:Bool} {R:Option Bool->Shared->Prop}
 (h:∀h' ns',Heap.SameBut a s.heap h'->SetI prog w h' a ns'->ns'.Perm ms->R (some true) { s with heap:=h' }) :
 wpAny (model prog w) A (do
  storeSet a es1 t2
  if (!wasDummy&&t2.tooFull)=true then do
      g (relayAll t2 es1 (SetTable.grown es1.size)).2.2
      storeSet a (relayAll t2 es1 (SetTable.grown es1.size)).1 (relayAll t2 es1 (SetTable.grown es1.size)).2.1
      pure (some true)
   else pure (some true)) R E s:=by
 refine wpAny_bind (wpAny_storeSet_of ho hd ?_ (fits_of_scanBound hb1))
 have ho1:=Ypq ho hd es1 t2
 have hsb1:=Heap.SameBut.update s.heap a (Obj.putSet es1 t2)
 split
 ·have hp:=relayAll_perm t2 es1 (SetTable.grown es1.size)
  have hfr:=relayAll_fits t2 es1 (SetTable.grown es1.size)
  have htr:=ht2.relayAll es1 (SetTable.grown es1.size)
  generalize hRl:relayAll t2 es1 (SetTable.grown es1.size)=Rl at hp hfr htr ⊢
  obtain⟨es2,t3,gave2⟩:=Rl
  dsimp only at hp hfr htr ⊢
  have hel2:ElemsOf (intKind prog w) es2.toList:=hel1.perm hp
  have hsz:es2.size=es1.size:=by rw[<-qi,hp.length_eq,qi]
  have hb2:es2.size < scanBound:=by rw[hsz];exact hb1
  have hp2:=(hp.map kOf).trans hms
  refine wpAny_bind (hg _ _ _ ?_)
  refine wpAny_bind (wpAny_storeSet_of ho1 rfl ?_ (fits_of_scanBound hb2))
  have ho2:=Ypq ho1 rfl es2 t3
  exact wpAny_pure (h _ _ (hsb1.trans (Heap.SameBut.update _ a _)) ⟨_,es2,_,t3,ho2,hex,rfl,hel2,rfl,hp2.nodup_iff.mpr hnd,hb2,hfr,htr⟩ hp2)
 ·exact wpAny_pure (h _ _ hsb1 ⟨_,es1,_,t2,ho1,hex,rfl,hel1,rfl,hms.nodup_iff.mpr hnd,hb1,hf2,ht2⟩ hms)
theorem Yu4{a:Addr}{ns:List Int}{k:Int}{u:Tok}{Q:Bool->Shared->Prop}(hS:SetI prog w s.heap a ns)(hroom:ns.length+1 < scanBound)
 (h:∀h' ns',Heap.SameBut a s.heap h'->SetI prog w h' a ns'->ns'.Perm (if k∈ns then ns else ns++[k])->Q (!decide (k∈ns)) { s with heap:=h' }) :
 wpAny (model prog w) A (setAddHashed a (.int k u) (hashInt k)) Q E s:=by
 have hS0:=hS
 obtain⟨o,es,ep,t,ho,hex,hd,hel,hns,hnd,hb,hf,ht⟩:=hS
 have hkey:(intKind prog w).is k (.int k u)=true:=intKind_is _ _ _ _
 have hsc:(Value.int k u).scannable=true:=rfl
 have hsz:es.size=ns.length:=by rw[<-hns,qe,qi]
 unfold setAddHashed setAddHashedIn
 refine wpAny_holding (wpAny_bind (wpAny_setState_of ho hd hf ?_))
 dsimp only
 rw[byScan_of hsc hb hel]
 simp only[↓reduceIte]
 unfold setAddByScan
 refine wpAny_bind ?_
 refine wpAny_bind (wpAny_rule ?_)
 refine wpAny_bind (wpAny_setScan_of (knd:=intKind prog w) (k:=k) hkey ho hd hf hel ?_)
 cases hr:List.findIdx? (fun e=>(intKind prog w).is k e.2) es.toList with
 | some j=>
   dsimp only
   obtain⟨hj,hpj,_⟩:=List.findIdx?_eq_some_iff_getElem.mp hr
   have hk:k∈ns:=by
    rw[<-hns,<-Yti hpj]
    exact List.mem_map_of_mem (List.getElem_mem hj)
   refine wpAny_pure (wpAny_pure ?_)
   have e:s={ s with heap:=s.heap }:=by cases s;rfl
   have:=h s.heap ns (Heap.SameBut.refl a s.heap) hS0 (by rw[if_pos hk])
   rw[decide_eq_true hk]at this
   rw[e];exact this
 | none=>
   dsimp only
   have hk:k∉ns:=fun hk=>by
    rw[<-hns]at hk
    obtain⟨e,he,hke⟩:=qv hk
    have h1:=List.findIdx?_eq_none_iff.mp hr e he
    obtain⟨t',ht'⟩:=Ym3 hel he
    rw[ht',hke]at h1
    have h2:(intKind prog w).is k (.int k t')=true:=intKind_is _ _ _ _
    rw[h2]at h1
    exact Bool.noConfusion h1
   have hgw:∀(b:Bool) {s₁:Shared} {Q':Unit->Shared->Prop},Q' () s₁->wpAny (model prog w) A (match b with | true=>rule "set.scan.the-table-gave-way" | false=>pure ()) Q' E s₁:=
    fun b s₁ Q' hq=>by cases b<;>first | exact wpAny_pure hq | exact wpAny_rule hq
   have hperm:=layNew_perm t es (hashInt k) (.int k u)
   have hfits:=layNew_fits t es (hashInt k) (.int k u)
   have htab:=ht.layNew es (hashInt k) (.int k u)
   show wpAny (model prog w) A (do
    let (es,t,wasDummy,gave):=PySem.layNew t es (hashInt k) (.int k u)
    _) _ _ _
   generalize hL:layNew t es (hashInt k) (.int k u)=L at hperm hfits htab ⊢
   obtain⟨es1,t1,wasDummy,gave⟩:=L
   dsimp only at hperm hfits htab ⊢
   rw[Array.toList_push]at hperm
   have hel1:ElemsOf (intKind prog w) es1.toList:=(hel.push (knd:=intKind prog w) (k:=k) hkey hsc).perm hperm
   have hb1':es1.size < scanBound:=by rw[<-qi,hperm.length_eq,qw,qi];simp;lia
   have hms:(es1.toList.map kOf).Perm (ns++[k]):=by
    have:=hperm.map kOf
    rw[List.map_append,hns]at this
    exact this
   have hnd1:(ns++[k]).Nodup:=by
    rw[List.nodup_append]
    refine⟨hnd,by simp,fun x hx y hy z=>?_⟩
    simp at hy
    subst hy
    exact hk (z ▸ hx)
   have hend:∀h' ns',Heap.SameBut a s.heap h'->SetI prog w h' a ns'->ns'.Perm (ns++[k])->Q true { s with heap:=h' }:=by
    intro h' ns' hsb hS' hp
    have:=h h' ns' hsb hS' (by rw[if_neg hk];exact hp)
    rw[decide_eq_false hk]at this
    exact this
   refine wpAny_bind (hgw _ ?_)
   split
   ·refine wpAny_bind ?_
    rw[hashByValue_scannable 8 hsc]
    refine wpAny_pure ?_
    refine Ym4 ?_ ho hex hd hel1 hms hnd1 hb1' ?_ ?_ ?_
    ·intro b s₁ Q' hq;cases b<;>first | exact wpAny_pure hq | exact wpAny_rule hq
    ·split
     ·exact hfits
     ·exact SetTable.fits_plain_off hfits
    ·split
     ·exact htab
     ·exact htab.off
    ·intro h' ns' hsb hS' hp;dsimp only;exact wpAny_pure (hend h' ns' hsb hS' hp)
   ·refine wpAny_bind (wpAny_pure ?_)
    simp only[↓reduceIte]
    refine Ym4 ?_ ho hex hd hel1 hms hnd1 hb1' hfits htab ?_
    ·intro b s₁ Q' hq;cases b<;>first | exact wpAny_pure hq | exact wpAny_rule hq
    ·intro h' ns' hsb hS' hp;dsimp only;exact wpAny_pure (hend h' ns' hsb hS' hp)
end
def ddup:List Int->List Int->List Int
 | acc,[]=>acc
 | acc,k::r=>ddup (if k∈acc then acc else acc++[k]) r
theorem Yka:∀(r a b:List Int),a.Perm b->(ddup a r).Perm (ddup b r)
 | [],_,_,h=>h
 | k::r,a,b,h=>by
   rw[ddup,ddup]
   refine Yka r _ _ ?_
   by_cases hk:k∈a
   ·rw[if_pos hk,if_pos (h.mem_iff.mp hk)];exact h
   ·rw[if_neg hk,if_neg (fun z=>hk (h.mem_iff.mpr z))];exact h.append_right _
section
variable {prog:Program} {w:World} {A:Around} {R:Result->Shared->Prop} {I:Addr} {fp wr:List Addr} {G:Array GenState->Array GenState->Prop} {n:Nat} {P:Nat->Value->Prop} {St:Nat->Shared->Prop}
theorem Ym5(W:WalksS prog w A.in1 I fp wr G n P St)(S:Addr)(hSf:S∉fp)(ms:List Int)(hn:ms.length=n)
 (hval:∀i v,P i v->∃t,v=.int (ms.getD i 0) t) (hb:n+1 < scanBound) :
 ∀(k i:Nat) (s:Shared) (ns:List Int),n - i=k->i<=n->St i s->ns.length<=i->SetI prog w s.heap S ns->
  (∀s' ns',Moved (S::wr) G s s'->SetI prog w s'.heap S ns'->ns'.Perm (ddup ns (ms.drop i))->R (.ok (.ret .none)) s')->
  codeAny (model prog w) A (.builtin "set.update.loop" ⟨[.ref S,.ref I],[]⟩) R s:=by
 have hSw:S∉wr:=fun h=>hSf (W.sub _ h)
 have hsub:∀b∈wr,b∈S::wr:=fun b hb=>qf _ hb
 intro k
 induction k with
 | zero=>
   intro i s ns hk hi hst hl hS hR
   have hin:i=n:=by lia
   subst hin
   refine codeAny_builtin F.entry_set_update_loop ?_
   rw[Around.under_plainId F.plain_set_update_loop _]
   show wpAny _ A.in1 (pyNext (.ref I) >>= _) _ _ s
   refine wpAny_bind (W.done s _ _ hst fun s' hm=>?_)
   show wpAny _ A.in1 (ret Value.none) _ _ s'
   refine wpAny_pure (hR s' ns (hm.mono hsub) (hS.at fun o e=>hm.heap S _ hSw e) ?_)
   rw[List.drop_of_length_le (by lia),ddup]
 | succ k ih=>
   intro i s ns hk hi hst hl hS hR
   have hlt:i < n:=by lia
   refine codeAny_builtin F.entry_set_update_loop ?_
   rw[Around.under_plainId F.plain_set_update_loop _]
   show wpAny _ A.in1 (pyNext (.ref I) >>= _) _ _ s
   refine wpAny_bind (W.item i s _ _ hlt hst fun v s' hP hst' hm=>?_)
   obtain⟨t,rfl⟩:=hval i v hP
   have hS':SetI prog w s'.heap S ns:=hS.at fun o e=>hm.heap S _ hSw e
   generalize hx:ms.getD i 0=x
   have hdrop:ms.drop i=x::ms.drop (i+1):=by
    rw[List.drop_eq_getElem_cons (by lia),<-hx,List.getD_eq_getElem?_getD,qp (by lia)]
    rfl
   show wpAny _ A.in1 (holding [Value.int x t] (setAdd S (.int x t)) >>= _) _ _ s'
   refine wpAny_bind (wpAny_holding ?_)
   unfold setAdd
   refine wpAny_holding ?_
   refine wpAny_bind ((intKind prog w).pyHash (k:=x) (intKind_is _ _ _ _) ?_)
   refine Yu4 (s:={ s' with toks:=s'.toks+1 }) hS' (by lia) fun h' ns' hsb hS2 hp=>?_
   have hl2:ns'.length<=i+1:=by
    rw[hp.length_eq]
    split
    ·lia
    ·simp;lia
   refine wpAny_pure ⟨plainId_quiet F.plain_set_update_loop _,ih (i+1) _ ns' (by lia) hlt (W.frame _ s' _ _ hst' (Nat.le_succ _) fun b hb o e=>?_) hl2 hS2 fun s'' ns'' hm'' hS'' hp''=>?_⟩
   ·rw[hsb.2 b (fun h:b=S=>hSf (by rw[<-h];exact hb))];exact e
   ·refine hR s'' ns'' (Moved.trans W.gtrans ((hm.mono hsub).then_heap (Nat.le_succ _) fun b o hb e=>?_) hm'') hS'' ?_
    ·rw[hsb.2 b (fun h:b=S=>hb (by rw[h];exact qg))];exact e
    ·rw[hdrop,ddup]
     exact hp''.trans (Yka _ _ _ hp)
end
end
section
section
variable {prog:Program} {w:World} {A:Around} {E:Value->Shared->Prop} {s:Shared}
theorem Yiy:isSubtype (.type "tuple") (.type "set")=pure false:=by rw[isSubtype_type];kernel_rfl
theorem Yes:isSubtype (.type "tuple") (.type "frozenset")=pure false:=by rw[isSubtype_type];kernel_rfl
theorem Ydj{T newId initId:String}{Bi:Builtin}{args:List Value}{Q Q₁:Value->Shared->Prop}(ft:TypeCalled T newId initId)
 (hct:checkTypeCall T ⟨args,[]⟩=pure ()) (entryI:entryFor table initId=some Bi)
 (hnew:codeAny (model prog w) A.in1 (.call (.builtin newId) ⟨.type T::args,[]⟩) (wants Q₁ E) s)
 (hnext:∀obj s₁,Q₁ obj s₁->s₁.TypeIs obj T/\(∀(A':Around) (E':Value->Shared->Prop) (Q':Unit->Shared->Prop),Q' () s₁->wpAny (model prog w) A' (checkBuiltinCall initId ⟨obj::args,[]⟩) Q' E' s₁)/\
  wpAny (model prog w) A.in1.in1 (Bi ⟨obj::args,[]⟩)
   (fun fin s'=>match fin with | .done f=>wants (fun r s₂=>r=.none/\Q obj s₂) E (.ok f) s' | .again c'=>c'.quiet=true/\codeAny (model prog w) A.in1 c' (wants (fun r s₂=>r=.none/\Q obj s₂) E) s')
   (fun e s'=>wants (fun r s₂=>r=.none/\Q obj s₂) E (.error e) s') s₁) :
 wpAny (model prog w) A (call (.type T) args) Q E s:=by
 obtain⟨c,tl,hmro⟩:=ft.mro
 have hmade:=ft.made
 have hsub:=ft.sub
 refine wpAny_call (codeAny_of_tree ?_)
 show wpAny _ _ (callAny (.type T) _) _ _ _
 refine wpAny_pure ⟨Code.quiet_builtin _ (by decide +kernel),codeAny_builtin F.entry_type_call ?_⟩
 rw[Around.under_plain (weight_type_call_type T args []) rfl]
 have h1:=ft.notType
 have h2:=ft.canCreate
 repeat (any_goals (first | assumption | wp_step))
 refine codeAny_mono hnew fun r s₁ hr=>?_
 cases r with
 | error e=>exact hr
 | ok fl=>
   cases fl with
   | ret obj=>
     obtain⟨hT,hok,hsi⟩:=hnext _ _ hr
     have hli:=ft.init.lookup
     have hbi:=ft.init.bind obj
     repeat (any_goals (first | assumption | wp_step))
     refine codeAny_mono (codeAny_call_builtin ft.init.plain entryI (hok _ _ _ hsi)) fun r₂ s₂ hr₂=>?_
     cases r₂ with
     | error e=>exact hr₂
     | ok fl₂=>
       cases fl₂ with
       | ret r=>
         obtain⟨rfl,hq⟩:=hr₂
         repeat (any_goals (first | assumption | wp_step))
       | _=>exact hr₂.elim
   | _=>exact hr.elim
abbrev emS(w:World):Obj:={ cls:=.type "set",dict:=none,data:=.set #[] 0 (.fresh 0 0 (!byT w)) }
theorem Ykb(a:Value){Q₁:Value->Shared->Prop}(h:Q₁ (.ref s.heap.objs.size) { s with heap:=s.heap.push (emS w) }) :
 codeAny (model prog w) A (.call (.builtin "set.__new__") ⟨[.type "set",a],[]⟩) (wants Q₁ E) s:=by
 refine codeAny_of_tree ?_
 show wpAny _ A.in1 (do checkBuiltinCall "set.__new__" ⟨[.type "set",a],[]⟩;again (.builtin "set.__new__" ⟨[.type "set",a],[]⟩)) _ _ s
 refine wpAny_bind (wpAny_of_eq (F.newCall_set_1 a) (wpAny_pure ⟨plainId_quiet F.plain_set_new _,codeAny_builtin F.entry_set_new ?_⟩))
 rw[Around.under_plainId F.plain_set_new _]
 unfold Builtin.«set.__new__» Builtin.Frozenset.newClass
 have hsub:=sub_set_self
 obtain⟨hp,g,d,tk,os⟩:=s
 dsimp only
 wp_walk
 refine wpAny_askSetting (wpAny_pure ?_)
 dsimp only
 simp only[newObj]
 refine wpAny_bind (wpAny_alloc (wpAny_pure ?_))
 exact wpAny_pure h
set_option maxRecDepth 100000 in
theorem Yiz{l:Addr}{items:Array Value}{ms:List Int}{Q:Value->Shared->Prop}
 (hh:A.handled=none) (hl:s.heap.IsList l items) (hi:IntsAre items.toList ms) (hb:items.size+1 < scanBound)
 (h:∀(h':Heap) (tk:Nat) ns,SetI prog w h' s.heap.objs.size ns->ns.Perm (ddup [] ms)->
  (∀b o,b < s.heap.objs.size->s.heap.get? b=some o->h'.get? b=some o)->Q (.ref s.heap.objs.size) { s with heap:=h',toks:=tk }) :
 wpAny (model prog w) A (call (.type "set") [.ref l]) Q E s:=by
 refine Ydj (Q₁:=fun obj s₁=>obj=.ref s.heap.objs.size/\s₁={ s with heap:=s.heap.push (emS w) }) F.called_set (F.typeCall_set_1 _) F.entry_set_init (Ykb _ ⟨rfl,rfl⟩) ?_
 rintro obj s₁ ⟨rfl,rfl⟩
 have hS:(s.heap.push (emS w)).get? s.heap.objs.size=some (emS w):=qo _ rfl
 have hT:Shared.TypeIs { s with heap:=s.heap.push (emS w) } (.ref s.heap.objs.size) "set":=⟨_,hS,rfl⟩
 refine⟨hT,fun A' E' Q' hq=>check_set_init_1 hT hq,?_⟩
 obtain⟨ol,hol,hcl,nl,hdl⟩:=hl
 obtain⟨ocls,odict,odata,oslots⟩:=ol
 simp only at hcl hdl
 subst hcl;subst hdl
 have hol':(s.heap.push (emS w)).get? l=some { cls:=.type "list",dict:=odict,data:=.seq items nl,slots:=oslots }:=qd _ hol
 have hsls:=F.sub_list_set
 have hslf:=F.sub_list_frozenset
 have hne:(Value.type "list"==Value.type "dict")=false:=by decide
 have hl1:(s.heap.push (emS w)).IsList l items:=⟨_,hol',rfl,nl,rfl⟩
 unfold Builtin.«set.__init__» noKeywords Builtin.Frozenset.updateFrom
 generalize hPI:pyIter=PI
 wp_walk
 subst hPI
 refine wpAny_pyIter_list hl1 ?_
 refine wpAny_bind (wpAny_runValue ?_)
 have hlS:l < s.heap.objs.size:=qk hol
 have hh3:A.in1.in1.in1.handled=none:=by simp[hh]
 have hneI:l≠(s.heap.push (emS w)).objs.size:=by
  rw[Heap.size_push];exact ql (qu hlS)
 have hSf:s.heap.objs.size∉[(s.heap.push (emS w)).objs.size,l]:=by
  rw[Heap.size_push];simp only[List.mem_cons,List.mem_singleton,List.not_mem_nil,or_false,not_or]
  exact⟨ql (qx _),Nat.ne_of_gt hlS⟩
 have hlen:ms.length=items.size:=by have:=IntsAre.length hi;rw[qi]at this;exact this.symm
 have hval:∀(i:Nat) (v:Value),items[i]?=some v->∃t,v=.int (ms.getD i 0) t:=fun i v hv=>
  IntsAre.int_at hi i v (by rw[Array.getElem?_toList];exact hv)
 refine Ym5 ((Walks.list hh3 _ l hneI items).toS) s.heap.objs.size hSf ms hlen hval hb (items.size - 0) 0 _ [] (by lia) (Qb _)
  ⟨⟨_,qo _ rfl,rfl,rfl⟩,(hl1.push _)⟩ (qs _) ?hS0 ?hR
 case hS0=>
  have hget:((s.heap.push (emS w)).push { cls:=.type "list_iterator",data:=.fields #[.ref l,.int 0 0] }).get? s.heap.objs.size=some (emS w):=qd _ hS
  exact⟨emS w,#[],0,_,hget,⟨rfl,rfl,rfl⟩,rfl,fun e he=>by simp at he,rfl,.nil,by decide,rfl,.fresh⟩
 case hR=>
  intro s' ns' hm hS' hp'
  obtain⟨h',g',d',tk',os'⟩:=s'
  have eg:g'=s.gens:=hm.gens
  have ed:d'=s.drawn:=hm.drawn
  have eo:os'=s.os:=hm.os
  subst eg;subst ed;subst eo
  show wpAny _ _ _ _ _ _
  refine wpAny_pure ?_
  show wpAny _ _ (ret Value.none) _ _ _
  refine wpAny_pure ⟨rfl,h h' tk' ns' hS' hp' fun b o hb e=>?_⟩
  have hb1:b≠s.heap.objs.size:=ql hb
  have hb2:b≠(s.heap.push (emS w)).objs.size:=by
   rw[Heap.size_push];exact ql (qu hb)
  exact hm.heap b o (by simp only[List.mem_cons,List.mem_singleton,List.not_mem_nil,or_false,not_or];exact⟨hb1,hb2⟩) (qd _ (qd _ e))
set_option maxRecDepth 100000 in
theorem Yhr{l:Addr}{items:Array Value}{ms:List Int}{Q:Value->Shared->Prop}
 (hh:A.handled=none) (hl:s.heap.IsTuple l items) (hi:IntsAre items.toList ms) (hb:items.size+1 < scanBound)
 (h:∀(h':Heap) (tk:Nat) ns,SetI prog w h' s.heap.objs.size ns->ns.Perm (ddup [] ms)->
  (∀b o,b < s.heap.objs.size->s.heap.get? b=some o->h'.get? b=some o)->Q (.ref s.heap.objs.size) { s with heap:=h',toks:=tk }) :
 wpAny (model prog w) A (call (.type "set") [.ref l]) Q E s:=by
 refine Ydj (Q₁:=fun obj s₁=>obj=.ref s.heap.objs.size/\s₁={ s with heap:=s.heap.push (emS w) }) F.called_set (F.typeCall_set_1 _) F.entry_set_init (Ykb _ ⟨rfl,rfl⟩) ?_
 rintro obj s₁ ⟨rfl,rfl⟩
 have hS:(s.heap.push (emS w)).get? s.heap.objs.size=some (emS w):=qo _ rfl
 have hT:Shared.TypeIs { s with heap:=s.heap.push (emS w) } (.ref s.heap.objs.size) "set":=⟨_,hS,rfl⟩
 refine⟨hT,fun A' E' Q' hq=>check_set_init_1 hT hq,?_⟩
 obtain⟨ol,hol,hcl,nl,hdl⟩:=hl
 obtain⟨ocls,odict,odata,oslots⟩:=ol
 simp only at hcl hdl
 subst hcl;subst hdl
 have hol':(s.heap.push (emS w)).get? l=some { cls:=.type "tuple",dict:=odict,data:=.seq items nl,slots:=oslots }:=qd _ hol
 have hsls:=Yiy
 have hslf:=Yes
 have hne:(Value.type "tuple"==Value.type "dict")=false:=by decide
 have hl1:(s.heap.push (emS w)).IsTuple l items:=⟨_,hol',rfl,nl,rfl⟩
 unfold Builtin.«set.__init__» noKeywords Builtin.Frozenset.updateFrom
 generalize hPI:pyIter=PI
 wp_walk
 subst hPI
 refine wpAny_pyIter_tuple hl1 ?_
 refine wpAny_bind (wpAny_runValue ?_)
 have hlS:l < s.heap.objs.size:=qk hol
 have hh3:A.in1.in1.in1.handled=none:=by simp[hh]
 have hneI:l≠(s.heap.push (emS w)).objs.size:=by
  rw[Heap.size_push];exact ql (qu hlS)
 have hSf:s.heap.objs.size∉[(s.heap.push (emS w)).objs.size,l]:=by
  rw[Heap.size_push];simp only[List.mem_cons,List.mem_singleton,List.not_mem_nil,or_false,not_or]
  exact⟨ql (qx _),Nat.ne_of_gt hlS⟩
 have hlen:ms.length=items.size:=by have:=IntsAre.length hi;rw[qi]at this;exact this.symm
 have hval:∀(i:Nat) (v:Value),items[i]?=some v->∃t,v=.int (ms.getD i 0) t:=fun i v hv=>
  IntsAre.int_at hi i v (by rw[Array.getElem?_toList];exact hv)
 refine Ym5 ((Walks.tuple hh3 _ l hneI items).toS) s.heap.objs.size hSf ms hlen hval hb (items.size - 0) 0 _ [] (by lia) (Qb _)
  ⟨⟨_,qo _ rfl,rfl,rfl⟩,(⟨_,qd _ hol',rfl,nl,rfl⟩)⟩ (qs _) ?hS0 ?hR
 case hS0=>
  have hget:((s.heap.push (emS w)).push { cls:=.type "tuple_iterator",data:=.fields #[.ref l,.int 0 0] }).get? s.heap.objs.size=some (emS w):=qd _ hS
  exact⟨emS w,#[],0,_,hget,⟨rfl,rfl,rfl⟩,rfl,fun e he=>by simp at he,rfl,.nil,by decide,rfl,.fresh⟩
 case hR=>
  intro s' ns' hm hS' hp'
  obtain⟨h',g',d',tk',os'⟩:=s'
  have eg:g'=s.gens:=hm.gens
  have ed:d'=s.drawn:=hm.drawn
  have eo:os'=s.os:=hm.os
  subst eg;subst ed;subst eo
  show wpAny _ _ _ _ _ _
  refine wpAny_pure ?_
  show wpAny _ _ (ret Value.none) _ _ _
  refine wpAny_pure ⟨rfl,h h' tk' ns' hS' hp' fun b o hb e=>?_⟩
  have hb1:b≠s.heap.objs.size:=ql hb
  have hb2:b≠(s.heap.push (emS w)).objs.size:=by
   rw[Heap.size_push];exact ql (qu hb)
  exact hm.heap b o (by simp only[List.mem_cons,List.mem_singleton,List.not_mem_nil,or_false,not_or];exact⟨hb1,hb2⟩) (qd _ (qd _ e))
end
end
section
theorem Yif{α:Type}{l:List α}{i:Nat}(h:i < l.length):(l[i]::l.eraseIdx i).Perm l:=by
 rw[List.eraseIdx_eq_take_drop_succ]
 have e:l=l.take i++l[i]::l.drop (i+1):=by
  rw[<-List.drop_eq_getElem_cons h,List.take_append_drop]
 conv=>rhs;rw[e]
 exact List.perm_middle.symm
theorem Ypr{α:Type}(next:Nat->Nat):∀(fuel k:Nat) (left:List α) (out:Array α),left.length=fuel->(pickOrder.go next fuel k left out).toList.Perm (out.toList++left)
 | 0,k,left,out,h=>by
   rw[pickOrder.go]
   rw[List.length_eq_zero_iff.mp h,List.append_nil]
 | fuel+1,k,left,out,h=>by
   rw[pickOrder.go]
   have hlt:next k % left.length < left.length:=Nat.mod_lt _ (by lia)
   rw[qp hlt]
   dsimp only
   refine(Ypr next fuel (k+1) _ _ (by rw[List.length_eraseIdx_of_lt hlt];lia)).trans ?_
   rw[Array.toList_push,List.append_assoc]
   exact(Yif hlt).append_left _
theorem Yps{α:Type}(next:Nat->Nat)(xs:Array α):(pickOrder next xs).toList.Perm xs.toList:=by
 have:=Ypr next xs.size 0 xs.toList #[] (by simp)
 simpa [pickOrder]using this
section
variable {prog:Program} {w:World} {A:Around} {E:Value->Shared->Prop}
theorem Yoe{src:Source}{n:Nat}{Q:Nat->Shared->Prop}{s:Shared}(hn:0 < n)(h:∀i d',i < n->Q i { s with drawn:=d' }):wpAny (model prog w) A (choose src n) Q E s:=by
 intro Γ p hΓ
 unfold choose
 rw[Sem.wp_choose]
 refine⟨by lia,?_⟩
 rw[Sem.wp_pure]
 exact h _ _ (Nat.mod_lt _ hn)
theorem Yig{α:Type}:∀(n:Nat) (xs:List α) (s:Shared) (Q:List α->Shared->Prop),xs.length=n->(∀ys d',ys.Perm xs->Q ys { s with drawn:=d' })->wpAny (model prog w) A (drawOrder n xs) Q E s
 | 0,xs,s,Q,h,hQ=>by
   rw[List.length_eq_zero_iff.mp h]at hQ ⊢
   show wpAny _ _ (pure _) _ _ _
   exact wpAny_pure (hQ [] s.drawn .nil)
 | n+1,[],s,Q,h,hQ=>by simp at h
 | n+1,x::xs,s,Q,h,hQ=>by
   show wpAny _ _ (_ >>= _) _ _ _
   refine wpAny_bind (Yoe (by simp) fun i d' hi=>?_)
   rw[qp hi]
   dsimp only
   refine wpAny_bind (Yig n _ _ _ (by rw[List.length_eraseIdx_of_lt hi];lia) fun ys d2 hp=>?_)
   refine wpAny_pure (hQ _ d2 ((hp.cons _).trans ?_))
   exact Yif hi
end
end
section
set_option maxRecDepth 100000
theorem Ym6:Manifest.owners.lookup (String.ofList ['r','o','t','a','r','e','t','i','_','t','e','s'].reverse)=some Manifest.sig_set_iterator:=by kernel_rfl
theorem slot_si_next:Slot "set_iterator" "__next__" "set_iterator.__next__":=
 .of (owner:="set_iterator") (n:="__next__") (by rw[typeLookup_type,builtinLookup_eq_fast];kernel_rfl) (by decide +kernel) (by decide +kernel) (by decide +kernel)
  (by first | exact .inl (by decide +kernel) | exact .inr (by decide +kernel)) (by rw[isSubtype_type];kernel_rfl)
theorem Yb0:entryFor table "set_iterator.__next__"=some Builtin.«set_iterator.__next__»:=entryFor_of_tree (by kernel_rfl)
theorem Ycm(a:Value):argsOk "set_iterator.__next__" ⟨[a],[]⟩:=by
 unfold argsOk;rw[signature?_of (id:="set_iterator.__next__") (n:=['_','_','t','x','e','n','_','_']) (o:=['r','o','t','a','r','e','t','i','_','t','e','s']) (by kernel_rfl) Ym6];kernel_rfl
theorem Yf4:Slot "set_iterator" "__iter__" "set_iterator.__iter__":=
 .of (owner:="set_iterator") (n:="__iter__") (by rw[typeLookup_type,builtinLookup_eq_fast];kernel_rfl) (by decide +kernel) (by decide +kernel) (by decide +kernel)
  (by first | exact .inl (by decide +kernel) | exact .inr (by decide +kernel)) (by rw[isSubtype_type];kernel_rfl)
theorem Ykc(a:Value):argsOk "set_iterator.__iter__" ⟨[a],[]⟩:=by
 unfold argsOk;rw[signature?_of (id:="set_iterator.__iter__") (n:=['_','_','r','e','t','i','_','_']) (o:=['r','o','t','a','r','e','t','i','_','t','e','s']) (by kernel_rfl) Ym6];kernel_rfl
theorem Yi0:entryFor table "set_iterator.__iter__"=some Builtin.«dict_keyiterator.__iter__»:=
 entryFor_alias (id':="dict_keyiterator.__iter__") (by kernel_rfl) (by first | rfl | decide +kernel | (unfold String.splitOn;simp +decide [String.splitOnAux])) (by decide +kernel) (by kernel_rfl)
theorem Yhs:entryFor table "set.__iter__"=some Builtin.«frozenset.__iter__»:=
 entryFor_alias (id':="frozenset.__iter__") (by kernel_rfl) (by first | rfl | decide +kernel | (unfold String.splitOn;simp +decide [String.splitOnAux])) (by decide +kernel) (by kernel_rfl)
def SIt(h:Heap)(I:Addr)(first:Value)(i:Nat)(a:Addr)(n ep:Nat):Prop:=∃o,h.get? I=some o/\o.cls=.type "set_iterator"/\o.data=.fields #[first,.int i 0,.ref a,.int n 0,.int ep 0]
def SAt(h:Heap)(a:Addr)(es:Array (Int × Value))(ep:Nat)(t:SetTable):Prop:=∃o,h.get? a=some o/\o.ExactSet/\o.data=.set es ep t/\t.fits es.size=true
theorem SIt.at{h h':Heap}{I a:Addr}{f:Value}{i n ep:Nat}(x:SIt h I f i a n ep)(e:∀o,h.get? I=some o->h'.get? I=some o):SIt h' I f i a n ep:=let ⟨o,ho,r⟩:=x;⟨o,e o ho,r⟩
theorem SAt.at{h h':Heap}{a:Addr}{es:Array (Int × Value)}{ep:Nat}{t:SetTable}(x:SAt h a es ep t)(e:∀o,h.get? a=some o->h'.get? a=some o):SAt h' a es ep t:=let ⟨o,ho,r⟩:=x;⟨o,e o ho,r⟩
theorem SIt.typeIs{s:Shared}{I a:Addr}{f:Value}{i n ep:Nat}(x:SIt s.heap I f i a n ep):s.TypeIs (.ref I) "set_iterator":=let ⟨o,ho,hc,_⟩:=x;⟨o,ho,hc⟩
section
variable {prog:Program} {w:World} {A:Around} {E:Value->Shared->Prop} {s:Shared}
theorem Ypt{I a:Addr}{f:Value}{i n ep:Nat}{Q:Value->Shared->Prop}(hit:SIt s.heap I f i a n ep)(h:Q (.ref I) s):wpAny (model prog w) A (pyIter (.ref I)) Q E s:=by
 refine wpAny_pyIter_slot hit.typeIs Yf4 (wpAny_call_entry Yf4 hit.typeIs Yi0 ?_ (Ykc _))
 show wpAny _ _ (ret (.ref I)) _ _ s
 exact wpAny_pure ⟨_,rfl,"set_iterator",_,hit.typeIs,slot_si_next.lookup,h⟩
theorem Yu5{I a:Addr}{sl i ep nx:Nat}{es:Array (Int × Value)}{t:SetTable}{x:Value}{Q:Option Value->Shared->Prop}(hit:SIt s.heap I (.int sl 0) i a es.size ep)(ha:SAt s.heap a es ep t)
 (hn:∀(A':Around) (Q':Option (Value × Nat)->Shared->Prop) (E':Value->Shared->Prop),Q' (some (x,nx)) s->wpAny (model prog w) A' (setNext a sl i ep) Q' E' s)
 (hQ:∀h',SIt h' I (.int nx 0) (i+1) a es.size ep->Heap.SameBut I s.heap h'->Q (some x) { s with heap:=h' }):wpAny (model prog w) A (pyNext (.ref I)) Q E s:=by
 obtain⟨o,ho,hc,hd⟩:=id hit
 obtain⟨oa,hoa,hexa,hda,hfa⟩:=ha
 unfold pyNext
 refine wpAny_bind (wpAny_attempt (wpAny_callSpecial?_slot (name:=Str.ofString "__next__") hit.typeIs slot_si_next (wpAny_call_entry slot_si_next hit.typeIs Yb0 ?_ (Ycm _))))
 show wpAny _ _ (fieldsOf (.ref I) >>= _) _ _ s
 refine wpAny_bind (wpAny_fieldsOf ho hd ?_)
 show wpAny _ _ (setEntries a >>= _) _ _ s
 refine wpAny_bind (wpAny_setEntries_of hoa hda hfa ?_)
 rw[if_neg (by simp)]
 show wpAny _ _ (setNext a sl i ep >>= _) _ _ s
 refine wpAny_bind (hn _ _ _ ?_)
 show wpAny _ _ (setField (.ref I) 0 (rawInt nx) >>= _) _ _ s
 refine wpAny_bind (wpAny_setField ho hd (by simp) ?_)
 have ho1:=Heap.get?_update_self (Obj.mapFields (·.setIfInBounds 0 (rawInt nx))) ho (Obj.isFreed_of_fields (Obj.data_mapFields hd _))
 have hd1:=Obj.data_mapFields hd (·.setIfInBounds 0 (rawInt nx))
 show wpAny _ _ (setField (.ref I) 1 (rawInt (i+1)) >>= _) _ _ _
 refine wpAny_bind (wpAny_setField (s:={ s with heap:=s.heap.update I (Obj.mapFields (·.setIfInBounds 0 (rawInt nx))) }) ho1 hd1 (by simp) (wpAny_pure ⟨x,rfl,wpAny_pure (hQ _ ?_ ((Heap.SameBut.update ..).trans (Heap.SameBut.update ..)))⟩))
 exact⟨_,Heap.get?_update_self _ ho1 (Obj.isFreed_of_fields (Obj.data_mapFields hd1 _)),(Obj.cls_mapFields ..).trans ((Obj.cls_mapFields ..).trans hc),by
  rw[Obj.data_mapFields hd1];simp[rawInt]⟩
theorem Yu6{I a:Addr}{sl i ep:Nat}{es:Array (Int × Value)}{t:SetTable}{Q:Option Value->Shared->Prop}(hh:A.handled=none)(hit:SIt s.heap I (.int sl 0) i a es.size ep)(ha:SAt s.heap a es ep t)
 (hn:∀(A':Around) (Q':Option (Value × Nat)->Shared->Prop) (E':Value->Shared->Prop),Q' none s->wpAny (model prog w) A' (setNext a sl i ep) Q' E' s)
 (hQ:∀h',Heap.ExtBut I s.heap h'->Q none { s with heap:=h' }):wpAny (model prog w) A (pyNext (.ref I)) Q E s:=by
 obtain⟨o,ho,hc,hd⟩:=id hit
 obtain⟨oa,hoa,hexa,hda,hfa⟩:=ha
 unfold pyNext
 refine wpAny_bind (wpAny_attempt (wpAny_callSpecial?_slot (name:=Str.ofString "__next__") hit.typeIs slot_si_next (wpAny_call_entry slot_si_next hit.typeIs Yb0 ?_ (Ycm _))))
 show wpAny _ _ (fieldsOf (.ref I) >>= _) _ _ s
 refine wpAny_bind (wpAny_fieldsOf ho hd ?_)
 show wpAny _ _ (setEntries a >>= _) _ _ s
 refine wpAny_bind (wpAny_setEntries_of hoa hda hfa ?_)
 rw[if_neg (by simp)]
 show wpAny _ _ (setNext a sl i ep >>= _) _ _ s
 refine wpAny_bind (hn _ _ _ ?_)
 show wpAny _ _ (setField (.ref I) 2 .none >>= _) _ _ s
 refine wpAny_bind (wpAny_setField ho hd (by simp) ?_)
 show wpAny _ _ (newExc (.type "StopIteration") [] >>= _) _ _ _
 refine wpAny_bind ?_
 simp only[newExc,newTuple]
 refine wpAny_bind (wpAny_newObj_type ?_ (by size_fits))
 refine wpAny_bind (m:=firstArgMember _ _) (wpAny_of_eq (a:=Value.none) (by first | rfl | (simp only[firstArgMember];rfl)) ?_)
 refine wpAny_newObj_type ?_ (by size_fits)
 simp only[raiseNew]
 refine wpAny_bind (wpAny_handled ?_)
 first | rw[show A.in1.handled=none from hh] | rw[hh]
 refine wpAny_bind (wpAny_pure (wpAny_throw ?_))
 refine wpAny_bind (wpAny_isInstance (T:="StopIteration") (b:=true) ⟨_,qo _ rfl,rfl⟩ isSubtype_stop ?_)
 exact wpAny_pure (hQ _ (((Heap.SameBut.update ..).extBut.push _).push _))
theorem Ysc{I a T:Addr}{i j ep:Nat}{pl:Array Value}{tk:Tok}{es:Array (Int × Value)}{t:SetTable}{e:Int × Value}{Q:Option Value->Shared->Prop}(hit:SIt s.heap I (.ref T) i a es.size ep)(ha:SAt s.heap a es ep t)
 (hT:s.heap.IsTuple T pl) (hp:pl[i]?=some (.int j tk)) (he:es[j]?=some e)
 (hQ:∀h',SIt h' I (.ref T) (i+1) a es.size ep->Heap.SameBut I s.heap h'->Q (some e.2) { s with heap:=h' }):wpAny (model prog w) A (pyNext (.ref I)) Q E s:=by
 obtain⟨o,ho,hc,hd⟩:=id hit
 obtain⟨oa,hoa,hexa,hda,hfa⟩:=ha
 obtain⟨ot,hot,_,nt,hdt⟩:=hT
 unfold pyNext
 refine wpAny_bind (wpAny_attempt (wpAny_callSpecial?_slot (name:=Str.ofString "__next__") hit.typeIs slot_si_next (wpAny_call_entry slot_si_next hit.typeIs Yb0 ?_ (Ycm _))))
 show wpAny _ _ (fieldsOf (.ref I) >>= _) _ _ s
 refine wpAny_bind (wpAny_fieldsOf ho hd ?_)
 show wpAny _ _ (setEntries a >>= _) _ _ s
 refine wpAny_bind (wpAny_setEntries_of hoa hda hfa ?_)
 rw[if_neg (by simp)]
 show wpAny _ _ (seqItems? (.ref T) >>= _) _ _ s
 refine wpAny_bind (wpAny_seqItems hot hdt ?_)
 simp only[Int.toNat_natCast,hp]
 show wpAny _ _ (setNextDrawn a j ep >>= _) _ _ s
 refine wpAny_bind ?_
 unfold setNextDrawn
 refine wpAny_bind (wpAny_setState_of hoa hda hfa ?_)
 dsimp only
 rw[if_neg (by simp)]
 show wpAny _ _ (match es[j]? with | some (_,x)=>pure x | _=>unsupported "internal:set_iterator") _ _ s
 rw[he]
 refine wpAny_pure ?_
 show wpAny _ _ (setField (.ref I) 1 (rawInt (i+1)) >>= _) _ _ _
 refine wpAny_bind (wpAny_setField ho hd (by simp) (wpAny_pure ⟨e.2,rfl,wpAny_pure (hQ _ ?_ (Heap.SameBut.update ..))⟩))
 exact⟨_,Heap.get?_update_self _ ho (Obj.isFreed_of_fields (Obj.data_mapFields hd _)),(Obj.cls_mapFields ..).trans hc,by
  rw[Obj.data_mapFields hd];simp[rawInt]⟩
theorem Ysd{I a T:Addr}{i ep:Nat}{pl:Array Value}{es:Array (Int × Value)}{t:SetTable}{Q:Option Value->Shared->Prop}(hh:A.handled=none)(hit:SIt s.heap I (.ref T) i a es.size ep)(ha:SAt s.heap a es ep t)
 (hT:s.heap.IsTuple T pl) (hp:pl[i]?=none) (hQ:∀h',Heap.ExtBut I s.heap h'->Q none { s with heap:=h' }):wpAny (model prog w) A (pyNext (.ref I)) Q E s:=by
 obtain⟨o,ho,hc,hd⟩:=id hit
 obtain⟨oa,hoa,hexa,hda,hfa⟩:=ha
 obtain⟨ot,hot,_,nt,hdt⟩:=hT
 unfold pyNext
 refine wpAny_bind (wpAny_attempt (wpAny_callSpecial?_slot (name:=Str.ofString "__next__") hit.typeIs slot_si_next (wpAny_call_entry slot_si_next hit.typeIs Yb0 ?_ (Ycm _))))
 show wpAny _ _ (fieldsOf (.ref I) >>= _) _ _ s
 refine wpAny_bind (wpAny_fieldsOf ho hd ?_)
 show wpAny _ _ (setEntries a >>= _) _ _ s
 refine wpAny_bind (wpAny_setEntries_of hoa hda hfa ?_)
 rw[if_neg (by simp)]
 show wpAny _ _ (seqItems? (.ref T) >>= _) _ _ s
 refine wpAny_bind (wpAny_seqItems hot hdt ?_)
 simp only[Int.toNat_natCast,hp]
 show wpAny _ _ (setField (.ref I) 0 (rawInt 0) >>= _) _ _ s
 refine wpAny_bind (wpAny_setField ho hd (by simp) ?_)
 have ho1:=Heap.get?_update_self (Obj.mapFields (·.setIfInBounds 0 (rawInt 0))) ho (Obj.isFreed_of_fields (Obj.data_mapFields hd _))
 have hd1:=Obj.data_mapFields hd (·.setIfInBounds 0 (rawInt 0))
 show wpAny _ _ (setField (.ref I) 2 .none >>= _) _ _ _
 refine wpAny_bind (wpAny_setField (s:={ s with heap:=s.heap.update I (Obj.mapFields (·.setIfInBounds 0 (rawInt 0))) }) ho1 hd1 (by simp) ?_)
 show wpAny _ _ (newExc (.type "StopIteration") [] >>= _) _ _ _
 refine wpAny_bind ?_
 simp only[newExc,newTuple]
 refine wpAny_bind (wpAny_newObj_type ?_ (by size_fits))
 refine wpAny_bind (m:=firstArgMember _ _) (wpAny_of_eq (a:=Value.none) (by first | rfl | (simp only[firstArgMember];rfl)) ?_)
 refine wpAny_newObj_type ?_ (by size_fits)
 simp only[raiseNew]
 refine wpAny_bind (wpAny_handled ?_)
 first | rw[show A.in1.handled=none from hh] | rw[hh]
 refine wpAny_bind (wpAny_pure (wpAny_throw ?_))
 refine wpAny_bind (wpAny_isInstance (T:="StopIteration") (b:=true) ⟨_,qo _ rfl,rfl⟩ isSubtype_stop ?_)
 exact wpAny_pure (hQ _ ((((Heap.SameBut.update ..).trans (Heap.SameBut.update ..)).extBut.push _).push _))
end
end
section
set_option maxRecDepth 100000
section
variable {prog:Program} {w:World} {A:Around} {E:Value->Shared->Prop} {s:Shared}
theorem Ye7{Q:Bool->Shared->Prop}(h:Q (byT w) s):wpAny (model prog w) A setsByText Q E s:=by
 unfold setsByText
 exact wpAny_bind (wpAny_askSetting (wpAny_pure h))
theorem Ykd{a:Addr}{es:Array (Int × Value)}{ep sl i:Nat}{t:SetTable}(hb:byT w=true)(ha:SAt s.heap a es ep t){Q:Option (Value × Nat)->Shared->Prop}
 (h:Q (((pickOrder (w.params.setOrder a ep) es)[i]?).map fun e=>(e.2,sl)) s):wpAny (model prog w) A (setNext a sl i ep) Q E s:=by
 obtain⟨oa,hoa,hexa,hda,hfa⟩:=ha
 unfold setNext
 refine wpAny_bind (wpAny_setState_of hoa hda hfa ?_)
 dsimp only
 refine wpAny_bind (Ye7 ?_)
 rw[if_pos hb,if_neg (by simp)]
 refine wpAny_bind (m:=setWalk a) ?_
 unfold setWalk
 refine wpAny_bind (wpAny_setState_of hoa hda hfa ?_)
 dsimp only
 refine wpAny_bind (Ye7 ?_)
 rw[if_pos hb]
 refine wpAny_bind (wpAny_askSetting (wpAny_pure ?_))
 exact wpAny_pure h
theorem Yke{a:Addr}{es:Array (Int × Value)}{ep sl i g:Nat}{t:SetTable}(hb:byT w=false)(hd:(!t.plain&&decide (es.size > 1))=false)(hl:t.led=true)(ha:SAt s.heap a es ep t){Q:Option (Value × Nat)->Shared->Prop}
 (hp:SetTable.below t.place sl=i) (h:Q (match es[i]?,t.place[i]? with | some (_,x),some j=>some (x,j+1) | _,_=>none) s):wpAny (model prog w) A (setNext a sl g ep) Q E s:=by
 obtain⟨oa,hoa,hexa,hda,hfa⟩:=ha
 unfold setNext
 refine wpAny_bind (wpAny_setState_of hoa hda hfa ?_)
 dsimp only
 refine wpAny_bind (Ye7 ?_)
 rw[if_neg (by rw[hb];exact qh)]
 show wpAny _ _ (if (!t.plain&&decide (es.size > 1))=true then _ else _) _ _ _
 rw[if_neg (show ¬((!t.plain&&decide (es.size > 1))=true) by rw[hd];exact qh)]
 show wpAny _ _ ((if (!t.led&&!es.isEmpty)=true then unsupported "set:maker-not-led" else pure ()) >>= _) _ _ _
 rw[if_neg (by rw[hl];simp)]
 refine wpAny_bind (wpAny_pure ?_)
 rw[hp]
 exact wpAny_pure h
def Yel(pl:Array Nat):Nat->Nat
 | 0=>0
 | i+1=>pl.getD i 0+1
theorem Ym7{pl:Array Nat}(hr:Rise pl){i:Nat}(hi:i<=pl.size):SetTable.below pl (Yel pl i)=i:=by
 obtain⟨h1,h2,h3⟩:=Yie hr (Yel pl i)
 generalize hp:SetTable.below pl (Yel pl i)=p at h1 h2 h3
 have mono:∀(i k:Nat) (hi:i < pl.size) (hk:k < pl.size),i < k->pl[i] < pl[k]:=fun i k hi hk h=>by
  have:=List.pairwise_iff_getElem.mp hr i k (by simpa using hi) (by simpa using hk) h
  simpa using this
 have e1:∀k (hk:k < pl.size),k < p->pl[k] < Yel pl i:=fun k hk hkp=>h2 _ (by
  rw[List.mem_iff_getElem]
  exact⟨k,by simp;lia,by simp⟩)
 have e2:∀k (hk:k < pl.size),p<=k->Yel pl i<=pl[k]:=fun k hk hkp=>h3 _ (by
  rw[List.mem_iff_getElem]
  exact⟨k - p,by simp;lia,by
   rw[List.getElem_drop,Array.getElem_toList]
   congr 1
   lia⟩)
 rcases Nat.lt_trichotomy p i with h | h | h
 ·have hk:p < pl.size:=by lia
  have:=e2 p hk (qs _)
  cases i with
  | zero=>lia
  | succ j=>
    have hj:j < pl.size:=by lia
    simp only[Yel,Array.getD,hj,dite_true]at this
    by_cases e:p=j
    ·subst e;exact absurd this (by simp)
    ·have:=mono p j hk hj (by lia)
     simp at *
     lia
 ·exact h
 ·have hk:i < pl.size:=by lia
  have:=e1 i hk h
  cases i with
  | zero=>simp[Yel]at this
  | succ j=>
    have hj:j < pl.size:=by lia
    have h':=mono j (j+1) hj hk (by lia)
    simp only[Yel,Array.getD,hj,dite_true]at this
    simp at *
    lia
def PInt(vals:List Int)(i:Nat)(v:Value):Prop:=∃k t,vals[i]?=some k/\v=.int k t
theorem Ygr{es:Array (Int × Value)}(hel:ElemsOf (intKind prog w) es.toList){e:Int × Value}(he:e∈es.toList):∃t,e.2=.int (kOf e) t:=by
 obtain⟨t,ht⟩:=Ym3 hel he
 exact⟨t,by rw[ht];simp[kOf]⟩
theorem Yse{a:Addr}{ns:List Int}(hS:SetI prog w s.heap a ns){Q:Value->Shared->Prop}
 (hQ:∀(h':Heap) (d':Drawn) (I:Addr) (fp:List Addr) (vals:List Int) (St:Nat->Heap->Prop),(∀b o,s.heap.get? b=some o->h'.get? b=some o)->s.heap.objs.size<=I->I∈fp->
  (∀b∈fp,b < h'.objs.size/\(b=a\/s.heap.objs.size<=b))->vals.Perm ns->(∀A':Around,A'.handled=none->Walks prog w A' I fp [I] ns.length (PInt vals) St)->St 0 h'->
  (∀(i:Nat) (s':Shared),St i s'.heap->s'.TypeIs (.ref I) "set_iterator")->Q (.ref I) { s with heap:=h',drawn:=d' }) :
 wpAny (model prog w) A (pyIter (.ref a)) Q E s:=by
 obtain⟨o,es,ep,t,ho,hex,hd,hel,hns,hnd,hb,hf,ht⟩:=hS
 have hT:s.TypeIs (.ref a) "set":=⟨o,ho,hex.1⟩
 have hlen:ns.length=es.size:=by rw[<-hns,qe,qi]
 have hlt:a < s.heap.objs.size:=qk ho
 have hsa:SAt s.heap a es ep t:=⟨o,ho,hex,hd,hf⟩
 have hps:t.place.size=es.size:=by
  simp only[SetTable.fits,Qg,beq_iff_eq]at hf
  exact hf.1
 refine wpAny_pyIter_slot hT F.slot_set_iter (wpAny_call_entry F.slot_set_iter hT Yhs ?_ (F.args_set_iter_1 _))
 unfold Builtin.«frozenset.__iter__»
 show wpAny _ _ (Builtin.Frozenset.sizeOf a >>= _) _ _ s
 unfold Builtin.Frozenset.sizeOf
 refine wpAny_bind (wpAny_bind (wpAny_setEntries_of ho hd hf (wpAny_pure ?_)))
 refine wpAny_bind ?_
 unfold setDrawn
 refine wpAny_bind (wpAny_setState_of ho hd hf ?_)
 dsimp only
 refine wpAny_bind (Ye7 (wpAny_pure ?_))
 have plain:∀(vals:List Int) (st:Nat->Nat) (xv:Nat->Value),vals.Perm ns->st 0=0->(∀i,i < es.size->PInt vals i (xv i))->
  (∀(s':Shared) (A':Around) (i:Nat) (E':Value->Shared->Prop),SAt s'.heap a es ep t->i < es.size->∀Q':Option (Value × Nat)->Shared->Prop,Q' (some (xv i,st (i+1))) s'->wpAny (model prog w) A' (setNext a (st i) i ep) Q' E' s')->
  (∀(s':Shared) (A':Around) (E':Value->Shared->Prop),SAt s'.heap a es ep t->∀Q':Option (Value × Nat)->Shared->Prop,Q' none s'->wpAny (model prog w) A' (setNext a (st es.size) es.size ep) Q' E' s')->
  wpAny (model prog w) A.in1 (do
   let x <-newFields "set_iterator" [rawInt 0,rawInt 0,.ref a,rawInt es.size,rawInt (<-setEpoch a)]
   ret x) (fun fin s'=>∃v,fin=.done (.ret v)/\∃T' r,s'.TypeIs v T'/\typeLookup (.type T') "__next__"=pure (some r)/\Q v s') E s:=by
  intro vals st xv hp h0 hx hi hn
  refine wpAny_bind (wpAny_setEpoch_of ho hd hf ?_)
  refine wpAny_bind (wpAny_newObj_type ?_)
  refine wpAny_pure ⟨_,rfl,"set_iterator",_,⟨_,qo _ rfl,rfl⟩,slot_si_next.lookup,?_⟩
  have key:=hQ (s.heap.push { cls:=.type "set_iterator",data:=.fields #[rawInt 0,rawInt 0,.ref a,rawInt es.size,rawInt ep] }) s.drawn s.heap.objs.size [s.heap.objs.size,a] vals
   (fun i h=>SIt h s.heap.objs.size (.int (st i) 0) i a es.size ep/\SAt h a es ep t) (fun b o e=>qd _ e) (qs _) (by simp) (fun b hb=>by
    rw[Heap.size_push]
    rcases qr hb with rfl | hb
    ·exact⟨qx _,.inr (qs _)⟩
    ·rw[List.mem_singleton]at hb
     subst hb
     exact⟨qu hlt,.inl rfl⟩) hp (fun A' hA'=>{
    sub:=fun b hb=>by simp at hb;simp[hb]
    frame:=fun i h h' st' hk=>⟨st'.1.at fun o e=>hk _ (by simp) o e,st'.2.at fun o e=>hk a (by simp) o e⟩
    item:=fun i s' Q' E' hlt' st' hQ'=>by
     refine Yu5 st'.1 st'.2 (x:=xv i) (nx:=st (i+1)) (fun A2 Q2 E2 hq=>hi s' A2 i E2 st'.2 (by lia) Q2 hq) fun h' hit' hs'=>?_
     exact hQ' _ h' s'.toks (hx i (by lia)) ⟨hit',st'.2.at fun o e=>hs'.extBut a o (fun z=>by subst z;exact absurd hlt (Qe _)) e⟩ fun b o hb e=>hs'.extBut b o (fun z=>hb (by simp[z])) e
    done:=fun s' Q' E' st' hQ'=>by
     rw[hlen]at st'
     exact Yu6 hA' st'.1 st'.2 (fun A2 Q2 E2 hq=>hn s' A2 E2 st'.2 Q2 hq) fun h' he'=>hQ' h' s'.toks fun b o hb e=>he' b o (fun z=>hb (by simp[z])) e
    self:=fun i s' Q' E' st' hQ'=>Ypt st'.1 hQ' }) ⟨⟨_,qo _ rfl,rfl,by rw[h0];rfl⟩,hsa.at fun o e=>qd _ e⟩ (fun i s' st'=>st'.1.typeIs)
  exact key
 have hdr:∀b:Bool,(!t.plain&&decide (es.size > 1))=b->wpAny (model prog w) A.in1 (if (!byT w&&b)=true then do
  let first <-newTuple ((<-drawOrder es.size (List.range es.size)).map fun(i:Nat)=>rawInt i)
  let x <-newFields "set_iterator" [first,rawInt 0,.ref a,rawInt es.size,rawInt (<-setEpoch a)]
  ret x
  else do
   let x <-newFields "set_iterator" [rawInt 0,rawInt 0,.ref a,rawInt es.size,rawInt (<-setEpoch a)]
   ret x) (fun fin s'=>∃v,fin=.done (.ret v)/\∃T' r,s'.TypeIs v T'/\typeLookup (.type T') "__next__"=pure (some r)/\Q v s') E s:=by
  intro b hbd
  cases hbt:byT w with
  | true=>
    rw[if_neg (by simp)]
    generalize hor:pickOrder (w.params.setOrder a ep) es=ord
    have hpm:ord.toList.Perm es.toList:=by rw[<-hor];exact Yps _ _
    have hos:ord.size=es.size:=by
     have:=hpm.length_eq
     simpa using this
    refine plain (ord.toList.map kOf) (fun _=>0) (fun i=>(ord.getD i (0,.none)).2) (by rw[<-hns];exact hpm.map kOf) rfl (fun i hi=>?_) (fun s' A' i E' ha hi Q' hq=>?_) (fun s' A' E' ha Q' hq=>?_)
    ·have hi':i < ord.size:=by lia
     obtain⟨u,hu⟩:=Ygr hel (hpm.mem_iff.mp (show ord[i]∈ord.toList by simp))
     refine⟨kOf ord[i],u,by simp[hi'],?_⟩
     simp only[Array.getD,hi',dite_true]
     exact hu
    ·have hi':i < ord.size:=by lia
     refine Ykd hbt ha ?_
     rw[hor,Array.getElem?_eq_getElem hi']
     simp only[Array.getD,hi',dite_true]at hq
     exact hq
    ·refine Ykd hbt ha ?_
     rw[hor,Array.getElem?_eq_none (by lia)]
     exact hq
  | false=>
    have hled:=ht.1 hbt
    cases b with
    | false=>
      rw[if_neg (by simp)]
      have hrise:Rise t.place:=by
       cases hpl:t.plain with
       | true=>exact ht.2 hpl
       | false=>
         rw[hpl]at hbd
         have h1:t.place.toList.length<=1:=by
          simp at hbd
          rw[qi]
          lia
         unfold Rise
         match t.place.toList,h1 with
         | [],_=>exact .nil
         | [x],_=>simp
      refine plain ns (Yel t.place) (fun i=>(es.getD i (0,.none)).2) .rfl rfl (fun i hi=>?_) (fun s' A' i E' ha hi Q' hq=>?_) (fun s' A' E' ha Q' hq=>?_)
      ·obtain⟨u,hu⟩:=Ygr hel (show es[i]∈es.toList by simp)
       refine⟨kOf es[i],u,by rw[<-hns];simp[hi],?_⟩
       simp only[Array.getD,hi,dite_true]
       exact hu
      ·refine Yke hbt hbd hled ha (Ym7 hrise (by lia)) ?_
       have hi2:i < t.place.size:=by lia
       rw[Array.getElem?_eq_getElem hi,Array.getElem?_eq_getElem hi2]
       simp only[Array.getD,hi,hi2,dite_true,Yel]at hq
       exact hq
      ·refine Yke hbt hbd hled ha (Ym7 hrise (by lia)) ?_
       rw[Array.getElem?_eq_none (qs _)]
       exact hq
    | true=>
      rw[if_pos (by simp)]
      refine wpAny_bind (Yig es.size (List.range es.size) s _ (by simp) fun ys d' hp=>?_)
      simp only[newTuple]
      have hyl:ys.length=es.size:=by rw[hp.length_eq];simp
      refine wpAny_bind (wpAny_newObj_type ?_ (by show(ys.map fun(i:Nat)=>rawInt i).toArray.size<=sizeLine;rw[qj,qe,hyl];exact fits_of_scanBound hb))
      have ho1:((s.heap.push { cls:=.type "tuple",data:=.seq (ys.map fun(i:Nat)=>rawInt i).toArray })).get? a=some o:=qd _ ho
      refine wpAny_bind (wpAny_setEpoch_of (s:={ s with heap:=s.heap.push { cls:=.type "tuple",data:=.seq (ys.map fun(i:Nat)=>rawInt i).toArray },drawn:=d' }) ho1 hd hf ?_)
      refine wpAny_bind (wpAny_newObj_type ?_)
      refine wpAny_pure ⟨_,rfl,"set_iterator",_,⟨_,qo _ rfl,rfl⟩,slot_si_next.lookup,?_⟩
      have hmem:∀j∈ys,j < es.size:=fun j hj=>by simpa using hp.mem_iff.mp hj
      have hvp:(ys.map fun j=>kOf (es.getD j (0,.none))).Perm ns:=by
       rw[<-hns]
       refine(hp.map _).trans ?_
       have:(List.range es.size).map (fun j=>kOf (es.getD j (0,.none)))=es.toList.map kOf:=by
        refine List.ext_getElem (by simp) fun i h1 h2=>?_
        have hi:i < es.size:=by simpa using h1
        simp[Array.getD,hi]
       rw[this]
      generalize hH:s.heap.push { cls:=.type "tuple",data:=.seq (ys.map fun(i:Nat)=>rawInt i).toArray }=H at ho1 ⊢
      have hHs:H.objs.size=s.heap.objs.size+1:=by rw[<-hH,Heap.size_push]
      have hT0:H.IsTuple s.heap.objs.size (ys.map fun(i:Nat)=>rawInt i).toArray:=⟨_,by rw[<-hH];exact qo _ rfl,rfl,_,rfl⟩
      have keepH:∀b o,s.heap.get? b=some o->H.get? b=some o:=fun b o e=>by rw[<-hH];exact qd _ e
      have haI:a≠H.objs.size:=fun z=>by rw[z,hHs]at hlt;exact absurd hlt (Nat.not_lt.mpr (Nat.le_succ _))
      have hTI:s.heap.objs.size≠H.objs.size:=by rw[hHs];exact ql (qx _)
      exact hQ (H.push { cls:=.type "set_iterator",data:=.fields #[.ref s.heap.objs.size,rawInt 0,.ref a,rawInt es.size,rawInt ep] }) d' H.objs.size [H.objs.size,a,s.heap.objs.size] (ys.map fun j=>kOf (es.getD j (0,.none)))
       (fun i h=>SIt h H.objs.size (.ref s.heap.objs.size) i a es.size ep/\SAt h a es ep t/\h.IsTuple s.heap.objs.size (ys.map fun(i:Nat)=>rawInt i).toArray) (fun b o e=>qd _ (keepH b o e)) (by lia) (by simp) (fun b hb=>by
        rw[Heap.size_push]
        simp only[List.mem_cons,List.not_mem_nil,or_false]at hb
        rcases hb with rfl | rfl | rfl
        ·exact⟨qx _,.inr (by rw[hHs];exact Nat.le_succ _)⟩
        ·exact⟨qu (by rw[hHs];exact qu hlt),.inl rfl⟩
        ·exact⟨qu (by rw[hHs];exact qx _),.inr (qs _)⟩) hvp (fun A' hA'=>{
        sub:=fun b hb=>by simp at hb;simp[hb]
        frame:=fun i h h' st' hk=>⟨st'.1.at fun o e=>hk _ (by simp) o e,st'.2.1.at fun o e=>hk a (by simp) o e,st'.2.2.at fun o e=>hk _ (by simp) o e⟩
        item:=fun i s' Q' E' hlt' st' hQ'=>by
         have hi:i < ys.length:=by lia
         have hj:=hmem ys[i] (List.getElem_mem hi)
         refine Ysc st'.1 st'.2.1 st'.2.2 (j:=ys[i]) (tk:=0) (e:=es[ys[i]]) (by simp[hi,rawInt]) (Array.getElem?_eq_getElem hj) fun h' hit' hs'=>?_
         refine hQ' _ h' s'.toks ?_ ⟨hit',st'.2.1.at fun o e=>hs'.extBut a o haI e,st'.2.2.at fun o e=>hs'.extBut _ o hTI e⟩ fun b o hb e=>hs'.extBut b o (fun z=>hb (by simp[z])) e
         obtain⟨u,hu⟩:=Ygr hel (show es[ys[i]]∈es.toList by simp)
         exact⟨kOf es[ys[i]],u,by simp[hi,Array.getD,hj],hu⟩
        done:=fun s' Q' E' st' hQ'=>by
         rw[hlen]at st'
         exact Ysd hA' st'.1 st'.2.1 st'.2.2 (by simp[hyl]) fun h' he'=>hQ' h' s'.toks fun b o hb e=>he' b o (fun z=>hb (by simp[z])) e
        self:=fun i s' Q' E' st' hQ'=>Ypt st'.1 hQ' }) ⟨⟨_,qo _ rfl,rfl,rfl⟩,⟨o,qd _ ho1,hex,hd,hf⟩,hT0.push _⟩ (fun i s' st'=>st'.1.typeIs)
 exact hdr _ rfl
end
end
section
inductive D where
 | non | bl (b:Bool) | int (i:Int) | str (x:Str) | tup (l:List D) | lst (l:List D)
 | scr (ns:List Int)
 | dct (t:Bool) (ks vs:List D)
 | obj (c:Str) (ks:List Str) (vs:List D)
 | adr (a:Addr)
mutual
def toPy:D->PyData
 | .non=>.none
 | .bl b=>.bool b
 | .int i=>.int i
 | .str x=>.str x
 | .tup l=>.tuple (Yck l)
 | .lst l=>.list (Yck l)
 | .scr ns=>.list (ns.map PyData.int)
 | .dct _ _ _=>.none
 | .obj _ _ _=>.none
 | .adr _=>.none
def Yck:List D->List PyData
 | []=>[]
 | d::l=>toPy d::Yck l
end
def eqD(d e:D):Bool:=PyData.eqv (toPy d) (toPy e)
def eqL(l m:List D):Bool:=PyData.eqvAll (Yck l) (Yck m)
def numV:V->Option Int
 | .int i=>some i
 | .bl b=>some (if b then 1 else 0)
 | _=>none
def Yu7:List V->Option (List Int)
 | []=>some []
 | x::r=>(numV x).bind fun i=>(Yu7 r).map (i::·)
def Yxq(ks:List Int):Int:=reduceHash (Builtin.Tuple.tupleHashOf (ks.map hashInt))
def DtOk(a:Addr)(nks:List (List Int × Addr))(vxs:List V)(ep:Nat)(h:Heap):Prop:=
 (a==sysModules)=false/\∃us o es,Vals vxs us/\h.get? a=some o/\o.ExactDict/\o.data=.dict es ep/\es.toList=(nks.zip us).map fun p=>(⟨Yxq p.1.1,.ref p.1.2,p.2⟩:DictEntry)
def dTo(a:Addr)(nks:List (List Int × Addr))(vxs:List V)(ep:Nat):HO:=.ext (DtOk a nks vxs ep)
def Dc(t:Bool)(G H:Hp)(a:Addr)(kxs vxs:List V):Prop:=
 (t=false/\∃kvs:List (Key × V),H a=some (.dK kvs)/\(kvs.map (·.1)).Nodup/\kxs=kvs.map (fun p=>kV p.1)/\vxs=kvs.map (·.2))\/
 (t=true/\∃(nks:List (List Int × Addr)) (ep:Nat),H a=some (dTo a nks vxs ep)/\nks.length=vxs.length/\(nks.map (·.1)).Nodup/\kxs=nks.map (fun p=>V.ref p.2)/\∀p∈nks,∃ys,G p.2=some (.tup ys)/\Yu7 ys=some p.1)
mutual
def Rp(K:W.Frag)(G:Hp):D->V->Prop
 | .non,v=>v=V.non
 | .bl b,v=>v=V.bl b
 | .int i,v=>v=V.int i
 | .str x,v=>v=V.str x/\PyData.strOk x=true
 | .tup l,v=>∃a xs,v=V.ref a/\G a=some (HO.tup xs)/\RpL K G l xs
 | .lst l,v=>∃a xs,v=V.ref a/\Rd G a (HO.lst xs)/\RpL K G l xs
 | .scr ns,v=>∃a,v=V.ref a/\SqL K G a (ns.map V.int)
 | .dct t ks vs,v=>∃a kxs vxs,v=V.ref a/\Dc t G G a kxs vxs/\RpL K G ks kxs/\RpL K G vs vxs
 | .obj c ks vs,v=>∃a C dx xs,v=V.ref a/\W.nsIn K mainGlobals c=some (some (.ref C))/\G a=some (HO.ins C dx (ks.zip xs))/\xs.length=ks.length/\RpL K G vs xs
 | .adr a,v=>v=V.ref a
def RpL(K:W.Frag)(G:Hp):List D->List V->Prop
 | [],xs=>xs=[]
 | d::l,xs=>∃x r,xs=x::r/\Rp K G d x/\RpL K G l r
end
variable {K:W.Frag}
theorem Yap{G G':Hp}(h:Same G G'){a:Addr}{u:HO}(r:Rd G a u):Rd G' a u:=by
 rcases r with r | ⟨o,r⟩
 ·exact .inl (h _ _ r)
 ·exact .inr ⟨o,h _ _ r⟩
theorem Dc.mono{t:Bool}{G G' H H':Hp}(g:Same G G'){a:Addr}{kxs vxs:List V}(h:∀o,H a=some o->H' a=some o)(d:Dc t G H a kxs vxs):Dc t G' H' a kxs vxs:=by
 rcases d with⟨e,kvs,h1,h2⟩ | ⟨e,nks,ep,h1,h2,h3,h4,h5⟩
 ·exact .inl ⟨e,kvs,h _ h1,h2⟩
 ·refine .inr ⟨e,nks,ep,h _ h1,h2,h3,h4,fun p hp=>?_⟩
  obtain⟨ys,q1,q2⟩:=h5 p hp
  exact⟨ys,g _ _ q1,q2⟩
theorem Dc.someT{t:Bool}{G H:Hp}{a:Addr}{kxs vxs:List V}(d:Dc t G H a kxs vxs):∃o,H a=some o/\∀xs,o≠.tup xs:=by
 rcases d with⟨_,kvs,h1,_⟩ | ⟨_,nks,ep,h1,_⟩
 ·exact⟨_,h1,fun xs z=>by cases z⟩
 ·exact⟨_,h1,fun xs z=>by cases z⟩
theorem Dc.some{t:Bool}{G H:Hp}{a:Addr}{kxs vxs:List V}(d:Dc t G H a kxs vxs):∃o,H a=some o/\∀xs,o≠.lst xs:=by
 rcases d with⟨_,kvs,h1,_⟩ | ⟨_,nks,ep,h1,_⟩
 ·exact⟨_,h1,fun xs z=>by cases z⟩
 ·exact⟨_,h1,fun xs z=>by cases z⟩
mutual
theorem Rp.mono{G G':Hp}(h:Same G G'):∀{d:D} {v:V},Rp K G d v->Rp K G' d v
 | .non,_,r=>by rw[Rp]at r ⊢;exact r
 | .bl _,_,r=>by rw[Rp]at r ⊢;exact r
 | .int _,_,r=>by rw[Rp]at r ⊢;exact r
 | .str _,_,r=>by rw[Rp]at r ⊢;exact r
 | .tup l,_,r=>by
   rw[Rp]at r ⊢
   obtain⟨a,xs,e,g,q⟩:=r
   exact⟨a,xs,e,h _ _ g,RpL.mono h q⟩
 | .lst l,_,r=>by
   rw[Rp]at r ⊢
   obtain⟨a,xs,e,g,q⟩:=r
   exact⟨a,xs,e,Yap h g,RpL.mono h q⟩
 | .scr ns,_,r=>by
   rw[Rp]at r ⊢
   obtain⟨a,e,g⟩:=r
   exact⟨a,e,h.seq g⟩
 | .dct t ks vs,_,r=>by
   rw[Rp]at r ⊢
   obtain⟨a,kxs,vxs,e,g,q1,q2⟩:=r
   exact⟨a,kxs,vxs,e,g.mono h fun o=>h _ o,RpL.mono h q1,RpL.mono h q2⟩
 | .obj c ks vs,_,r=>by
   rw[Rp]at r ⊢
   obtain⟨a,C,dx,xs,e,n,g,l,q⟩:=r
   exact⟨a,C,dx,xs,e,n,h _ _ g,l,RpL.mono h q⟩
 | .adr _,_,r=>by rw[Rp]at r ⊢;exact r
theorem RpL.mono{G G':Hp}(h:Same G G'):∀{l:List D} {xs:List V},RpL K G l xs->RpL K G' l xs
 | [],_,r=>by rw[RpL]at r ⊢;exact r
 | d::l,_,r=>by
   rw[RpL]at r ⊢
   obtain⟨x,xs,e,g,q⟩:=r
   exact⟨x,xs,e,Rp.mono h g,RpL.mono h q⟩
end
section
variable {G:Hp}
theorem RpL.length:∀{l:List D} {xs:List V},RpL K G l xs->xs.length=l.length
 | [],_,r=>by rw[RpL]at r;subst r;rfl
 | d::l,_,r=>by
   rw[RpL]at r
   obtain⟨x,xs,rfl,_,q⟩:=r
   simp[RpL.length q]
theorem RpL.get:∀{l:List D} {xs:List V} {i:Nat} {d:D},RpL K G l xs->l[i]?=some d->∃x,xs[i]?=some x/\Rp K G d x
 | [],_,_,_,_,e=>by simp at e
 | d::l,_,0,_,r,e=>by
   rw[RpL]at r
   obtain⟨x,xs,rfl,g,q⟩:=r
   simp at e
   subst e
   exact⟨x,rfl,g⟩
 | d::l,_,i+1,_,r,e=>by
   rw[RpL]at r
   obtain⟨x,xs,rfl,g,q⟩:=r
   obtain⟨y,h1,h2⟩:=RpL.get (i:=i) q (by simpa using e)
   exact⟨y,by simpa using h1,h2⟩
theorem RpL.nil:RpL K G [] []:=by rw[RpL]
theorem RpL.cons{d:D}{l:List D}{x:V}{xs:List V}(h:Rp K G d x)(q:RpL K G l xs):RpL K G (d::l) (x::xs):=by rw[RpL];exact⟨x,xs,rfl,h,q⟩
theorem RpL.append:∀{l m:List D} {xs ys:List V},RpL K G l xs->RpL K G m ys->RpL K G (l++m) (xs++ys)
 | [],_,_,_,r,q=>by rw[RpL]at r;subst r;exact q
 | d::l,m,_,ys,r,q=>by
   rw[RpL]at r
   obtain⟨x,xs,rfl,g,r⟩:=r
   exact .cons g (RpL.append r q)
theorem RpL.one{d:D}{x:V}(h:Rp K G d x):RpL K G [d] [x]:=.cons h .nil
theorem RpL.set:∀{l:List D} {xs:List V} (i:Nat) {d:D} {x:V},RpL K G l xs->Rp K G d x->RpL K G (l.set i d) (xs.set i x)
 | [],_,_,_,_,r,_=>by rw[RpL]at r;subst r;exact .nil
 | e::l,_,0,_,_,r,h=>by
   rw[RpL]at r
   obtain⟨x,xs,rfl,g,r⟩:=r
   exact .cons h r
 | e::l,_,i+1,_,_,r,h=>by
   rw[RpL]at r
   obtain⟨x,xs,rfl,g,r⟩:=r
   exact .cons g (RpL.set i r h)
theorem RpL.take:∀{l:List D} {xs:List V} (n:Nat),RpL K G l xs->RpL K G (l.take n) (xs.take n)
 | _,_,0,_=>by rw[List.take_zero,List.take_zero];exact .nil
 | [],_,_+1,r=>by rw[RpL]at r;subst r;exact .nil
 | d::l,_,n+1,r=>by
   rw[RpL]at r
   obtain⟨x,xs,rfl,g,r⟩:=r
   exact .cons g (RpL.take n r)
theorem RpL.drop:∀{l:List D} {xs:List V} (n:Nat),RpL K G l xs->RpL K G (l.drop n) (xs.drop n)
 | _,_,0,r=>r
 | [],_,_+1,r=>by rw[RpL]at r;subst r;exact .nil
 | d::l,_,n+1,r=>by
   rw[RpL]at r
   obtain⟨x,xs,rfl,g,r⟩:=r
   exact RpL.drop n r
theorem RpL.ints:∀(ns:List Int),RpL K G (ns.map D.int) (ns.map V.int)
 | []=>.nil
 | n::ns=>.cons (by rw[Rp]) (RpL.ints ns)
end
structure Gr(H G H' G':Hp):Prop where
 h:Same H H'
 g:Same G G'
 s:Same G' H'
 n:∀a,G a=none->G' a≠none->H a=none
theorem Gr.refl{H G:Hp}(s:Same G H):Gr H G H G:=⟨Same.refl _,Same.refl _,s,fun _ h h'=>absurd h h'⟩
theorem Gr.trans{H G H1 G1 H2 G2:Hp}(a:Gr H G H1 G1)(b:Gr H1 G1 H2 G2):Gr H G H2 G2:=
 ⟨a.h.trans b.h,a.g.trans b.g,b.s,fun x h h'=>by
  by_cases e:G1 x=none
  ·exact a.h.free (b.n x e h')
  ·exact a.n x h e⟩
theorem Gr.new{H G:Hp}(s:Same G H){p:Addr}(hp:H p=none)(o:HO):Gr H G (upd H p o) (upd G p o):=by
 have gp:G p=none:=s.free hp
 refine⟨fun b u e=>?_,fun b u e=>?_,fun b u e=>?_,fun b h h'=>?_⟩
 ·rw[Yh (Yw e hp)];exact e
 ·rw[Yh (Yw e gp)];exact e
 ·by_cases q:b=p
  ·subst q;rw[Yo]at e ⊢;exact e
  ·rw[Yh q]at e ⊢;exact s _ _ e
 ·by_cases q:b=p
  ·subst q;exact hp
  ·rw[Yh q]at h';exact absurd h h'
theorem Gr.hid{H G:Hp}(s:Same G H){p:Addr}(hp:H p=none)(o:HO):Gr H G (upd H p o) G:=by
 have gp:G p=none:=s.free hp
 refine⟨fun b u e=>?_,Same.refl _,fun b u e=>?_,fun b h h'=>absurd h h'⟩
 ·rw[Yh (Yw e hp)];exact e
 ·rw[Yh (Yw e gp)];exact s _ _ e
theorem Gr.show{H G H' G':Hp}(g:Gr H G H' G'){p:Addr}{o:HO}(hp:H p=none)(gp:G' p=none)(e:H' p=some o):Gr H G H' (upd G' p o):=by
 refine⟨g.h,fun b u q=>?_,fun b u q=>?_,fun b h h'=>?_⟩
 ·have:=g.g b u q
  rw[Yh (Yw this gp)];exact this
 ·by_cases z:b=p
  ·subst z;rw[Yo]at q;rw[e];exact q
  ·rw[Yh z]at q;exact g.s b u q
 ·by_cases z:b=p
  ·subst z;exact hp
  ·rw[Yh z]at h';exact g.n b h h'
def Ct(K:W.Frag)(G H:Hp):D->V->Prop
 | .non,v=>v=V.non
 | .bl b,v=>v=V.bl b
 | .int i,v=>v=V.int i
 | .str x,v=>v=V.str x/\PyData.strOk x=true
 | .tup l,v=>∃a xs,v=V.ref a/\(H a=some (HO.tup xs)/\G a=some (HO.tup xs))/\RpL K G l xs
 | .lst l,v=>∃a xs,v=V.ref a/\Rd H a (HO.lst xs)/\RpL K G l xs
 | .scr ns,v=>∃a,v=V.ref a/\SqL K H a (ns.map V.int)
 | .dct t ks vs,v=>∃a kxs vxs,v=V.ref a/\Dc t G H a kxs vxs/\RpL K G ks kxs/\RpL K G vs vxs
 | .obj c ks vs,v=>∃a C dx xs,v=V.ref a/\W.nsIn K mainGlobals c=some (some (.ref C))/\G a=some (HO.ins C dx (ks.zip xs))/\xs.length=ks.length/\RpL K G vs xs
 | .adr a,v=>v=V.ref a
theorem Ct.of{G H:Hp}(s:Same G H){d:D}{v:V}(r:Rp K G d v):Ct K G H d v:=by
 cases d<;>rw[Rp]at r<;>rw[Ct]
 ·exact r
 ·exact r
 ·exact r
 ·exact r
 ·obtain⟨a,xs,e,g,q⟩:=r
  exact⟨a,xs,e,⟨s _ _ g,g⟩,q⟩
 ·obtain⟨a,xs,e,g,q⟩:=r
  exact⟨a,xs,e,Yap s g,q⟩
 ·obtain⟨a,e,g⟩:=r
  exact⟨a,e,s.seq g⟩
 ·obtain⟨a,kxs,vxs,e,g,q1,q2⟩:=r
  exact⟨a,kxs,vxs,e,g.mono (Same.refl _) fun o=>s _ o,q1,q2⟩
 ·exact r
 ·exact r
theorem Ct.rp{G H:Hp}(s:Same G H){d:D}{v:V}(r:Ct K G H d v):Rp K H d v:=by
 cases d<;>rw[Ct]at r<;>rw[Rp]
 ·exact r
 ·exact r
 ·exact r
 ·exact r
 ·obtain⟨a,xs,e,g,q⟩:=r
  exact⟨a,xs,e,g.1,q.mono s⟩
 ·obtain⟨a,xs,e,g,q⟩:=r
  exact⟨a,xs,e,g,q.mono s⟩
 ·exact r
 ·obtain⟨a,kxs,vxs,e,g,q1,q2⟩:=r
  exact⟨a,kxs,vxs,e,g.mono s fun _ z=>z,q1.mono s,q2.mono s⟩
 ·obtain⟨a,C,dx,xs,e,n,g,l,q⟩:=r
  exact⟨a,C,dx,xs,e,n,s _ _ g,l,q.mono s⟩
 ·exact r
theorem Ct.grow{G H G' H':Hp}(g:Gr H G H' G'){d:D}{v:V}(r:Ct K G H d v):Ct K G' H' d v:=by
 cases d<;>rw[Ct]at r<;>rw[Ct]
 ·exact r
 ·exact r
 ·exact r
 ·exact r
 ·obtain⟨a,xs,e,h,q⟩:=r
  exact⟨a,xs,e,⟨g.h _ _ h.1,g.g _ _ h.2⟩,q.mono g.g⟩
 ·obtain⟨a,xs,e,h,q⟩:=r
  exact⟨a,xs,e,Yap g.h h,q.mono g.g⟩
 ·obtain⟨a,e,h⟩:=r
  exact⟨a,e,g.h.seq h⟩
 ·obtain⟨a,kxs,vxs,e,h,q1,q2⟩:=r
  exact⟨a,kxs,vxs,e,h.mono g.g fun o=>g.h _ o,q1.mono g.g,q2.mono g.g⟩
 ·obtain⟨a,C,dx,xs,e,n,h,l,q⟩:=r
  exact⟨a,C,dx,xs,e,n,g.g _ _ h,l,q.mono g.g⟩
 ·exact r
def CtL(K:W.Frag)(G H:Hp):List D->List V->Prop
 | [],xs=>xs=[]
 | d::l,xs=>∃x r,xs=x::r/\Ct K G H d x/\CtL K G H l r
inductive B where
 | sh (d:D) | ow (l:List D) | od (t:Bool) (ks vs:List D)
abbrev Ro:=List (Option B)
structure SR(K:W.Frag)(H0 G0:Hp)(σ:L2.St)(H G:Hp)(ρ:Ro):Prop where
 gr:Gr H0 G0 H G
 len:σ.length=ρ.length
 sh:∀(i:Nat) d,ρ[i]?=some (some (B.sh d))->∃v,σ[i]?=some (some v)/\Rp K G d v
 ow:∀(i:Nat) l,ρ[i]?=some (some (B.ow l))->∃a xs,σ[i]?=some (some (V.ref a))/\G a=none/\H0 a=none/\H a=some (.lst xs)/\RpL K G l xs
 ap:∀(i j:Nat) l l' a b,ρ[i]?=some (some (B.ow l))->ρ[j]?=some (some (B.ow l'))->i≠j->σ[i]?=some (some (V.ref a))->σ[j]?=some (some (V.ref b))->a≠b
 od:∀(i:Nat) t ks vs,ρ[i]?=some (some (B.od t ks vs))->∃a kxs vxs,σ[i]?=some (some (V.ref a))/\G a=none/\H0 a=none/\Dc t G H a kxs vxs/\RpL K G ks kxs/\RpL K G vs vxs
 apd:∀(i j:Nat) t ks vs t' ks' vs' a b,ρ[i]?=some (some (B.od t ks vs))->ρ[j]?=some (some (B.od t' ks' vs'))->i≠j->σ[i]?=some (some (V.ref a))->σ[j]?=some (some (V.ref b))->a≠b
section
variable {H0 G0 H G H' G':Hp} {σ:L2.St} {ρ:Ro}
theorem SR.mkSh(g:Gr H0 G0 H G)(len:σ.length=ρ.length)(sh:∀(i:Nat) d,ρ[i]?=some (some (B.sh d))->∃v,σ[i]?=some (some v)/\Rp K G d v)(no:∀(i:Nat) l,ρ[i]?≠some (some (B.ow l)))(no':∀(i:Nat) t ks vs,ρ[i]?≠some (some (B.od t ks vs))):SR K H0 G0 σ H G ρ:=
 ⟨g,len,sh,fun i l h=>absurd h (no i l),fun i j l l' a b h=>absurd h (no i l),fun i t ks vs h=>absurd h (no' i t ks vs),fun i j t ks vs t' ks' vs' a b h=>absurd h (no' i t ks vs)⟩
theorem Ykf(g:Gr H G H' G'){a:Addr}{o:HO}(h:H a=some o)(n:G a=none):G' a=none:=by
 cases q:G' a with
 | none=>rfl
 | some o=>
   have:=g.n a n (by rw[q];exact fun z=>nomatch z)
   rw[h]at this
   cases this
theorem SR.grow(s:SR K H0 G0 σ H G ρ)(g:Gr H G H' G'):SR K H0 G0 σ H' G' ρ:=by
 refine⟨s.gr.trans g,s.len,fun i d e=>?_,fun i l e=>?_,s.ap,fun i t ks vs e=>?_,s.apd⟩
 ·obtain⟨v,h1,h2⟩:=s.sh i d e
  exact⟨v,h1,h2.mono g.g⟩
 ·obtain⟨a,xs,h1,h2,h3,h4,h5⟩:=s.ow i l e
  exact⟨a,xs,h1,Ykf g h4 h2,h3,g.h _ _ h4,h5.mono g.g⟩
 ·obtain⟨a,kxs,vxs,h1,h2,h3,h4,h5,h6⟩:=s.od i t ks vs e
  obtain⟨o,h7,_⟩:=h4.some
  exact⟨a,kxs,vxs,h1,Ykf g h7 h2,h3,h4.mono g.g fun o=>g.h _ o,h5.mono g.g,h6.mono g.g⟩
theorem SR.seen(s:SR K H0 G0 σ H G ρ):Same G H:=s.gr.s
theorem Yj{α:Type}{l:List α}{i j:Nat}{x y:α}(h:(l.set i x)[j]?=some y):(j=i/\y=x/\i < l.length)\/(j≠i/\l[j]?=some y):=by
 by_cases e:j=i
 ·subst e
  have hl:j < l.length:=by
   have:=(qm h).1
   simpa using this
  rw[List.getElem?_set_self hl]at h
  exact .inl ⟨rfl,(Option.some.inj h).symm,hl⟩
 ·rw[Qa (Ne.symm e)]at h
  exact .inr ⟨e,h⟩
theorem SR.set_sh(s:SR K H0 G0 σ H G ρ)(i:Nat){d:D}{v:V}(r:Rp K G d v):SR K H0 G0 (σ.set i (some v)) H G (ρ.set i (some (.sh d))):=by
 refine⟨s.gr,by simp[s.len],fun j e h=>?_,fun j l h=>?_,fun j k l l' a b h1 h2 h3 h4 h5=>?_,fun j t ks vs h=>?_,fun j k t ks vs t' ks' vs' a b h1 h2 h3 h4 h5=>?_⟩
 ·rcases Yj h with⟨rfl,e1,hl⟩ | ⟨hj,h⟩
  ·cases e1
   exact⟨v,by rw[List.getElem?_set_self (by rw[s.len];exact hl)],r⟩
  ·obtain⟨w,q1,q2⟩:=s.sh j e h
   exact⟨w,by rw[Qa (Ne.symm hj)];exact q1,q2⟩
 ·rcases Yj h with⟨rfl,e1,hl⟩ | ⟨hj,h⟩
  ·cases e1
  ·obtain⟨a,xs,q1,q2⟩:=s.ow j l h
   exact⟨a,xs,by rw[Qa (Ne.symm hj)];exact q1,q2⟩
 ·rcases Yj h1 with⟨rfl,e1,_⟩ | ⟨hj,h1⟩
  ·cases e1
  ·rcases Yj h2 with⟨rfl,e1,_⟩ | ⟨hk,h2⟩
   ·cases e1
   ·rw[Qa (Ne.symm hj)]at h4
    rw[Qa (Ne.symm hk)]at h5
    exact s.ap j k l l' a b h1 h2 h3 h4 h5
 ·rcases Yj h with⟨rfl,e1,hl⟩ | ⟨hj,h⟩
  ·cases e1
  ·obtain⟨a,kxs,vxs,q1,q2⟩:=s.od j t ks vs h
   exact⟨a,kxs,vxs,by rw[Qa (Ne.symm hj)];exact q1,q2⟩
 ·rcases Yj h1 with⟨rfl,e1,_⟩ | ⟨hj,h1⟩
  ·cases e1
  ·rcases Yj h2 with⟨rfl,e1,_⟩ | ⟨hk,h2⟩
   ·cases e1
   ·rw[Qa (Ne.symm hj)]at h4
    rw[Qa (Ne.symm hk)]at h5
    exact s.apd j k t ks vs t' ks' vs' a b h1 h2 h3 h4 h5
theorem SR.set_ow(s:SR K H0 G0 σ H G ρ)(i:Nat){l:List D}{p:Addr}{xs:List V}(g:Gr H G H' G')(hp:H p=none)(gp:G' p=none)(e:H' p=some (.lst xs))(r:RpL K G' l xs):SR K H0 G0 (σ.set i (some (.ref p))) H' G' (ρ.set i (some (.ow l))):=by
 have s':=s.grow g
 have np:∀(j:Nat) l a,ρ[j]?=some (some (B.ow l))->σ[j]?=some (some (V.ref a))->a≠p:=fun j l a h1 h2 z=>by
  obtain⟨b,ys,q1,_,_,q4,_⟩:=s.ow j l h1
  rw[h2]at q1
  cases q1
  rw[z,hp]at q4
  cases q4
 refine⟨s'.gr,by simp[s.len],fun j e h=>?_,fun j l h=>?_,fun j k l l' a b h1 h2 h3 h4 h5=>?_,fun j t ks vs h=>?_,fun j k t ks vs t' ks' vs' a b h1 h2 h3 h4 h5=>?_⟩
 ·rcases Yj h with⟨rfl,e1,hl⟩ | ⟨hj,h⟩
  ·cases e1
  ·obtain⟨w,q1,q2⟩:=s'.sh j e h
   exact⟨w,by rw[Qa (Ne.symm hj)];exact q1,q2⟩
 ·rcases Yj h with⟨rfl,e1,hl⟩ | ⟨hj,h⟩
  ·cases e1
   exact⟨p,xs,by rw[List.getElem?_set_self (by rw[s.len];exact hl)],gp,s.gr.h.free hp,e,r⟩
  ·obtain⟨a,xs,q1,q2⟩:=s'.ow j l h
   exact⟨a,xs,by rw[Qa (Ne.symm hj)];exact q1,q2⟩
 ·rcases Yj h1 with⟨rfl,e1,hl⟩ | ⟨hj,h1n⟩
  ·rcases Yj h2 with⟨rfl,e2,_⟩ | ⟨hk,h2⟩
   ·exact absurd rfl h3
   ·rw[List.getElem?_set_self (by rw[s.len];exact hl)]at h4
    cases h4
    rw[Qa (Ne.symm hk)]at h5
    exact Ne.symm (np k l' b h2 h5)
  ·rcases Yj h2 with⟨rfl,e2,hl⟩ | ⟨hk,h2⟩
   ·rw[List.getElem?_set_self (by rw[s.len];exact hl)]at h5
    cases h5
    rw[Qa (Ne.symm hj)]at h4
    exact np j l a h1n h4
   ·rw[Qa (Ne.symm hj)]at h4
    rw[Qa (Ne.symm hk)]at h5
    exact s.ap j k l l' a b h1n h2 h3 h4 h5
 ·rcases Yj h with⟨rfl,e1,hl⟩ | ⟨hj,h⟩
  ·cases e1
  ·obtain⟨a,kxs,vxs,q1,q2⟩:=s'.od j t ks vs h
   exact⟨a,kxs,vxs,by rw[Qa (Ne.symm hj)];exact q1,q2⟩
 ·rcases Yj h1 with⟨rfl,e1,_⟩ | ⟨hj,h1⟩
  ·cases e1
  ·rcases Yj h2 with⟨rfl,e1,_⟩ | ⟨hk,h2⟩
   ·cases e1
   ·rw[Qa (Ne.symm hj)]at h4
    rw[Qa (Ne.symm hk)]at h5
    exact s.apd j k t ks vs t' ks' vs' a b h1 h2 h3 h4 h5
theorem SR.mut(s:SR K H0 G0 σ H G ρ){i:Nat}{l l':List D}{a:Addr}{ys:List V}(hi:ρ[i]?=some (some (B.ow l)))(ha:σ[i]?=some (some (V.ref a)))(r:RpL K G l' ys):SR K H0 G0 σ (upd H a (.lst ys)) G (ρ.set i (some (.ow l'))):=by
 obtain⟨a',xs,q1,q2,q3,q4,q5⟩:=s.ow i l hi
 rw[ha]at q1
 cases q1
 have hl:i < ρ.length:=(qm hi).1
 refine⟨⟨fun b o e=>?_,s.gr.g,fun b o e=>?_,s.gr.n⟩,by simp[s.len],fun j e h=>?_,fun j m h=>?_,fun j k m m' b c h1 h2 h3 h4 h5=>?_,fun j t ks vs h=>?_,fun j k t ks vs t' ks' vs' b c h1 h2 h3 h4 h5=>?_⟩
 ·rw[Yh (Yw e q3)];exact s.gr.h b o e
 ·rw[Yh (Yw e q2)];exact s.gr.s b o e
 ·rcases Yj h with⟨rfl,e1,_⟩ | ⟨hj,h⟩
  ·cases e1
  ·exact s.sh j e h
 ·rcases Yj h with⟨rfl,e1,_⟩ | ⟨hj,h⟩
  ·cases e1
   exact⟨a,ys,ha,q2,q3,Yo,r⟩
  ·obtain⟨b,zs,p1,p2,p3,p4,p5⟩:=s.ow j m h
   exact⟨b,zs,p1,p2,p3,by rw[Yh (s.ap j i m l b a h hi hj p1 ha)];exact p4,p5⟩
 ·have old:∀(j:Nat) m,(ρ.set i (some (.ow l')))[j]?=some (some (B.ow m))->∃m',ρ[j]?=some (some (B.ow m')):=fun j m h=>by
   rcases Yj h with⟨rfl,_,_⟩ | ⟨_,h⟩
   ·exact⟨l,hi⟩
   ·exact⟨m,h⟩
  obtain⟨n1,e1⟩:=old j m h1
  obtain⟨n2,e2⟩:=old k m' h2
  exact s.ap j k n1 n2 b c e1 e2 h3 h4 h5
 ·rcases Yj h with⟨rfl,e1,_⟩ | ⟨hj,h⟩
  ·cases e1
  ·obtain⟨b,kxs,vxs,p1,p2,p3,p4,p5⟩:=s.od j t ks vs h
   refine⟨b,kxs,vxs,p1,p2,p3,p4.mono (Same.refl _) fun o q=>?_,p5⟩
   obtain⟨o',q',nl⟩:=p4.some
   rw[q]at q'
   cases q'
   rw[Yh (fun z=>by rw[z,q4]at q;cases q;exact nl _ rfl)];exact q
 ·rcases Yj h1 with⟨rfl,e1,_⟩ | ⟨hj,h1⟩
  ·cases e1
  ·rcases Yj h2 with⟨rfl,e1,_⟩ | ⟨hk,h2⟩
   ·cases e1
   ·exact s.apd j k t ks vs t' ks' vs' b c h1 h2 h3 h4 h5
theorem SR.freezeT(s:SR K H0 G0 σ H G ρ){i:Nat}{l:List D}(hi:ρ[i]?=some (some (B.ow l))):∃G',SR K H0 G0 σ H G' (ρ.set i (some (.sh (.lst l))))/\∀b ys,G' b=some (.tup ys)->G b=some (.tup ys):=by
 obtain⟨a,xs,q1,q2,q3,q4,q5⟩:=s.ow i l hi
 have hl:i < ρ.length:=(qm hi).1
 have sm:Same G (upd G a (.lst xs)):=fun b o e=>by rw[Yh (Yw e q2)];exact e
 refine⟨upd G a (.lst xs),?_,fun b ys e=>by
  by_cases z:b=a
  ·subst z;rw[Yo]at e;cases e
  ·rw[Yh z]at e;exact e⟩
 refine⟨⟨s.gr.h,s.gr.g.trans sm,fun b o e=>?_,fun b h h'=>?_⟩,by simp[s.len],fun j e h=>?_,fun j m h=>?_,fun j k m m' b c h1 h2 h3 h4 h5=>?_,fun j t ks vs h=>?_,fun j k t ks vs t' ks' vs' b c h1 h2 h3 h4 h5=>?_⟩
 ·by_cases z:b=a
  ·subst z;rw[Yo]at e;rw[q4];exact e
  ·rw[Yh z]at e;exact s.gr.s b o e
 ·by_cases z:b=a
  ·subst z;exact q3
  ·rw[Yh z]at h';exact s.gr.n b h h'
 ·rcases Yj h with⟨rfl,e1,_⟩ | ⟨hj,h⟩
  ·cases e1
   exact⟨_,q1,by rw[Rp];exact⟨a,xs,rfl,.inl Yo,q5.mono sm⟩⟩
  ·obtain⟨v,p1,p2⟩:=s.sh j e h
   exact⟨v,p1,p2.mono sm⟩
 ·rcases Yj h with⟨rfl,e1,_⟩ | ⟨hj,h⟩
  ·cases e1
  ·obtain⟨b,zs,p1,p2,p3,p4,p5⟩:=s.ow j m h
   exact⟨b,zs,p1,by rw[Yh (s.ap j i m l b a h hi hj p1 q1)];exact p2,p3,p4,p5.mono sm⟩
 ·rcases Yj h1 with⟨rfl,e1,_⟩ | ⟨hj,h1⟩
  ·cases e1
  ·rcases Yj h2 with⟨rfl,e1,_⟩ | ⟨hk,h2⟩
   ·cases e1
   ·exact s.ap j k m m' b c h1 h2 h3 h4 h5
 ·rcases Yj h with⟨rfl,e1,_⟩ | ⟨hj,h⟩
  ·cases e1
  ·obtain⟨b,kxs,vxs,p1,p2,p3,p4,p5,p6⟩:=s.od j t ks vs h
   obtain⟨o',q',nl⟩:=p4.some
   exact⟨b,kxs,vxs,p1,by rw[Yh (fun z=>by rw[z,q4]at q';cases q';exact nl _ rfl)];exact p2,p3,p4.mono sm fun _ z=>z,p5.mono sm,p6.mono sm⟩
 ·rcases Yj h1 with⟨rfl,e1,_⟩ | ⟨hj,h1⟩
  ·cases e1
  ·rcases Yj h2 with⟨rfl,e1,_⟩ | ⟨hk,h2⟩
   ·cases e1
   ·exact s.apd j k t ks vs t' ks' vs' b c h1 h2 h3 h4 h5
theorem SR.freeze(s:SR K H0 G0 σ H G ρ){i:Nat}{l:List D}(hi:ρ[i]?=some (some (B.ow l))):∃G',SR K H0 G0 σ H G' (ρ.set i (some (.sh (.lst l)))):=by
 obtain⟨G',h,_⟩:=s.freezeT hi
 exact⟨G',h⟩
theorem SR.freezedT(s:SR K H0 G0 σ H G ρ){i:Nat}{t:Bool}{ks vs:List D}(hi:ρ[i]?=some (some (B.od t ks vs))):∃G',SR K H0 G0 σ H G' (ρ.set i (some (.sh (.dct t ks vs))))/\∀b ys,G' b=some (.tup ys)->G b=some (.tup ys):=by
 obtain⟨a,kxs,vxs,q1,q2,q3,q4,q5,q6⟩:=s.od i t ks vs hi
 obtain⟨o,q7,nl⟩:=q4.some
 have hl:i < ρ.length:=(qm hi).1
 have sm:Same G (upd G a o):=fun b o e=>by rw[Yh (Yw e q2)];exact e
 obtain⟨oT,q8,nt⟩:=q4.someT
 rw[q7]at q8
 cases q8
 refine⟨upd G a o,?_,fun b ys e=>by
  by_cases z:b=a
  ·subst z;rw[Yo]at e;cases e;exact absurd rfl (nt _)
  ·rw[Yh z]at e;exact e⟩
 refine⟨⟨s.gr.h,s.gr.g.trans sm,fun b o' e=>?_,fun b h h'=>?_⟩,by simp[s.len],fun j e h=>?_,fun j m h=>?_,fun j k m m' b c h1 h2 h3 h4 h5=>?_,fun j t ks vs h=>?_,fun j k t ks vs t' ks' vs' b c h1 h2 h3 h4 h5=>?_⟩
 ·by_cases z:b=a
  ·subst z;rw[Yo]at e;rw[q7];exact e
  ·rw[Yh z]at e;exact s.gr.s b o' e
 ·by_cases z:b=a
  ·subst z;exact q3
  ·rw[Yh z]at h';exact s.gr.n b h h'
 ·rcases Yj h with⟨rfl,e1,_⟩ | ⟨hj,h⟩
  ·cases e1
   refine⟨_,q1,?_⟩
   rw[Rp]
   refine⟨a,kxs,vxs,rfl,q4.mono sm fun o' z=>?_,q5.mono sm,q6.mono sm⟩
   rw[q7]at z
   rw[Yo];exact z
  ·obtain⟨v,p1,p2⟩:=s.sh j e h
   exact⟨v,p1,p2.mono sm⟩
 ·rcases Yj h with⟨rfl,e1,_⟩ | ⟨hj,h⟩
  ·cases e1
  ·obtain⟨b,zs,p1,p2,p3,p4,p5⟩:=s.ow j m h
   exact⟨b,zs,p1,by rw[Yh (fun z=>by rw[z,q7]at p4;cases p4;exact nl _ rfl)];exact p2,p3,p4,p5.mono sm⟩
 ·rcases Yj h1 with⟨rfl,e1,_⟩ | ⟨hj,h1⟩
  ·cases e1
  ·rcases Yj h2 with⟨rfl,e1,_⟩ | ⟨hk,h2⟩
   ·cases e1
   ·exact s.ap j k m m' b c h1 h2 h3 h4 h5
 ·rcases Yj h with⟨rfl,e1,_⟩ | ⟨hj,h⟩
  ·cases e1
  ·obtain⟨b,kx,vx,p1,p2,p3,p4,p5,p6⟩:=s.od j t ks vs h
   exact⟨b,kx,vx,p1,by rw[Yh (s.apd j i _ _ _ _ _ _ b a h hi hj p1 q1)];exact p2,p3,p4.mono sm fun _ z=>z,p5.mono sm,p6.mono sm⟩
 ·rcases Yj h1 with⟨rfl,e1,_⟩ | ⟨hj,h1⟩
  ·cases e1
  ·rcases Yj h2 with⟨rfl,e1,_⟩ | ⟨hk,h2⟩
   ·cases e1
   ·exact s.apd j k t ks vs t' ks' vs' b c h1 h2 h3 h4 h5
theorem SR.freezed(s:SR K H0 G0 σ H G ρ){i:Nat}{t:Bool}{ks vs:List D}(hi:ρ[i]?=some (some (B.od t ks vs))):∃G',SR K H0 G0 σ H G' (ρ.set i (some (.sh (.dct t ks vs)))):=by
 obtain⟨G',h,_⟩:=s.freezedT hi
 exact⟨G',h⟩
def Le(ρ ρ':Ro):Prop:=ρ.length=ρ'.length/\∀(i:Nat) b,ρ[i]?=some (some b)->ρ'[i]?=some (some b)
theorem SR.le{ρ':Ro}(s:SR K H0 G0 σ H G ρ')(h:Le ρ ρ'):SR K H0 G0 σ H G ρ:=
 ⟨s.gr,s.len.trans h.1.symm,fun i d e=>s.sh i d (h.2 i _ e),fun i l e=>s.ow i l (h.2 i _ e),fun i j l l' a b e1 e2=>s.ap i j l l' a b (h.2 i _ e1) (h.2 j _ e2),
  fun i t ks vs e=>s.od i t ks vs (h.2 i _ e),fun i j t ks vs t' ks' vs' a b e1 e2=>s.apd i j t ks vs t' ks' vs' a b (h.2 i _ e1) (h.2 j _ e2)⟩
theorem SR.rebase(s:SR K H0 G0 σ H G ρ):∃H1,SR K H1 G σ H G ρ/\∀σ' H' G' ρ',SR K H1 G σ' H' G' ρ'->SR K H0 G0 σ' H' G' ρ':=by
 classical
 let own:Addr->Prop:=fun a=>∃(i:Nat),((∃l:List D,ρ[i]?=some (some (B.ow l)))\/(∃t ks vs,ρ[i]?=some (some (B.od t ks vs))))/\σ[i]?=some (some (V.ref a))
 have h0:∀a,own a->H0 a=none:=fun a hx_=>by
  obtain⟨i,e1,e2⟩:=hx_
  rcases e1 with⟨l,e1⟩ | ⟨t,ks,vs,e1⟩
  ·obtain⟨b,xs,q1,_,q3,_⟩:=s.ow i l e1
   rw[e2]at q1;cases q1;exact q3
  ·obtain⟨b,kxs,vxs,q1,_,q3,_⟩:=s.od i t ks vs e1
   rw[e2]at q1;cases q1;exact q3
 have back:∀a,(if own a then (none:Option HO)else H a)=none->H0 a=none:=fun a h=>by
  by_cases o:own a
  ·exact h0 a o
  ·rw[if_neg o]at h;exact s.gr.h.free h
 refine⟨fun a=>if own a then none else H a,⟨⟨fun b o e=>?_,Same.refl _,s.gr.s,fun _ h h'=>absurd h h'⟩,s.len,s.sh,fun i l e=>?_,s.ap,fun i t ks vs e=>?_,s.apd⟩,fun σ' H' G' ρ' t=>⟨⟨fun b o e=>?_,s.gr.g.trans t.gr.g,t.gr.s,fun b h h'=>?_⟩,t.len,t.sh,fun i l e=>?_,t.ap,fun i t1 ks vs e=>?_,t.apd⟩⟩
 ·by_cases z:own b
  ·simp only[if_pos z]at e;cases e
  ·simp only[if_neg z]at e;exact e
 ·obtain⟨a,xs,q1,q2,q3,q4,q5⟩:=s.ow i l e
  exact⟨a,xs,q1,q2,if_pos ⟨i,.inl ⟨l,e⟩,q1⟩,q4,q5⟩
 ·obtain⟨a,kxs,vxs,q1,q2,q3,q4⟩:=s.od i t ks vs e
  exact⟨a,kxs,vxs,q1,q2,if_pos ⟨i,.inr ⟨t,ks,vs,e⟩,q1⟩,q4⟩
 ·refine t.gr.h b o ?_
  have z:¬own b:=fun z=>by rw[h0 b z]at e;cases e
  show(if own b then none else H b)=some o
  rw[if_neg z];exact s.gr.h b o e
 ·by_cases z:G b=none
  ·exact back b (t.gr.n b z h')
  ·exact s.gr.n b h z
 ·obtain⟨a,xs,q1,q2,q3,q4,q5⟩:=t.ow i l e
  exact⟨a,xs,q1,q2,back a q3,q4,q5⟩
 ·obtain⟨a,kxs,vxs,q1,q2,q3,q4⟩:=t.od i t1 ks vs e
  exact⟨a,kxs,vxs,q1,q2,back a q3,q4⟩
end
def tOf(K:W.Frag)(f:Ro->Option D):TE:=fun σ H Q=>∃ρ d H0 G0 G,f ρ=some d/\SR K H0 G0 σ H G ρ/\∀v H' G',Gr H G H' G'->Rp K G' d v->Q v H'
def tCof(K:W.Frag)(f:Ro->Option D):TE:=fun σ H Q=>∃ρ d H0 G0 G,f ρ=some d/\SR K H0 G0 σ H G ρ/\∀v H' G',Gr H G H' G'->Ct K G' H' d v->Q v H'
def tCAof(K:W.Frag)(f:Ro->Option (List D)):TA:=fun σ H Q=>∃ρ l H0 G0 G,f ρ=some l/\SR K H0 G0 σ H G ρ/\∀vs H' G',Gr H G H' G'->CtL K G' H' l vs->Q vs H'
def tFof(K:W.Frag)(f:Ro->Option (List D)):TE:=fun σ H Q=>∃ρ l H0 G0 G,f ρ=some l/\SR K H0 G0 σ H G ρ/\∀p xs H' G',Gr H G H' G'->H p=none->G' p=none->H' p=some (.lst xs)->RpL K G' l xs->Q (.ref p) H'
def tTof(K:W.Frag)(f:Ro->Option Bool):TT:=fun σ H Q=>∃ρ b H0 G0 G,f ρ=some b/\SR K H0 G0 σ H G ρ/\∀H' G',Gr H G H' G'->Q b H'
def tAof(K:W.Frag)(f:Ro->Option (List D)):TA:=fun σ H Q=>∃ρ l H0 G0 G,f ρ=some l/\SR K H0 G0 σ H G ρ/\∀vs H' G',Gr H G H' G'->RpL K G' l vs->Q vs H'
def Wk(K:W.Frag)(J:It)(G':Hp)(ds:List D):Prop:=ds.length<=sizeLine/\∀(i:Nat) H2 G2,Same G' G2->Same G2 H2->
 (∀d,ds[i]?=some d->J.go i H2/\∀y H3,J.yld i H2 y H3->∃G3,Gr H2 G2 H3 G3/\Rp K G3 d y)/\(ds.length<=i->J.stop i H2)
def tIof(K:W.Frag)(f:Ro->Option (List D)):TI:=fun σ H R=>∃ρ ds H0 G0 G,f ρ=some ds/\SR K H0 G0 σ H G ρ/\∀J H' G',Gr H G H' G'->Wk K J G' ds->R J H'
inductive Out where
 | nx (ρ:Ro) | rt (d:D) | bk (ρ:Ro) | ct (ρ:Ro)
def Cont(K:W.Frag)(H0 G0:Hp)(F:Ends):Out->Prop
 | .nx ρ'=>∀σ' H' G',SR K H0 G0 σ' H' G' ρ'->F.nx σ' H'
 | .rt d=>∀v H' G',Gr H0 G0 H' G'->Rp K G' d v->F.rt v H'
 | .bk ρ'=>∀σ' H' G',SR K H0 G0 σ' H' G' ρ'->F.bk σ' H'
 | .ct ρ'=>∀σ' H' G',SR K H0 G0 σ' H' G' ρ'->F.ct σ' H'
def sOf(K:W.Frag)(f:Ro->Option Out):TS:=fun F σ H=>∃ρ out H0 G0 G,f ρ=some out/\SR K H0 G0 σ H G ρ/\Cont K H0 G0 F out
def gOf(K:W.Frag)(gt:D->Ro->Option Ro):TG:=fun v σ H Q=>∃d ρ ρ' H0 G0 G,gt d ρ=some ρ'/\SR K H0 G0 σ H G ρ/\Rp K G d v/\∀σ',SR K H0 G0 σ' H G ρ'->Q σ' H
abbrev ME(X:Cx)(e:Expr)(f:Ro->Option D):Prop:=PE X e (tOf X.K f)
abbrev MC(X:Cx)(e:Expr)(f:Ro->Option D):Prop:=PE X e (tCof X.K f)
abbrev MCA(X:Cx)(es:List Expr)(f:Ro->Option (List D)):Prop:=PA X es (tCAof X.K f)
abbrev MF(X:Cx)(e:Expr)(f:Ro->Option (List D)):Prop:=PE X e (tFof X.K f)
abbrev MT(X:Cx)(e:Expr)(f:Ro->Option Bool):Prop:=PT X e (tTof X.K f)
abbrev MA(X:Cx)(es:List Expr)(f:Ro->Option (List D)):Prop:=PA X es (tAof X.K f)
abbrev MI(X:Cx)(tg iter:Expr)(f:Ro->Option (List D)):Prop:=PI X tg iter (tIof X.K f)
abbrev MS(X:Cx)(st:Stmt)(f:Ro->Option Out):Prop:=PS X st (sOf X.K f)
abbrev MB(X:Cx)(sts:List Stmt)(f:Ro->Option Out):Prop:=PSs X sts (sOf X.K f)
abbrev MG(X:Cx)(tg:Expr)(gt:D->Ro->Option Ro):Prop:=PG X tg (gOf X.K gt)
section
variable {X:Cx}
theorem PE.imp{e:Expr}{t t':TE}(h:PE X e t)(i:∀σ H Q,t' σ H Q->t σ H Q):PE X e t':=fun pins s σ H Q I hw=>h pins s σ H Q I (i σ H Q hw)
theorem PT.imp{e:Expr}{t t':TT}(h:PT X e t)(i:∀σ H Q,t' σ H Q->t σ H Q):PT X e t':=fun pins s σ H Q I hw=>h pins s σ H Q I (i σ H Q hw)
theorem PA.imp{es:List Expr}{t t':TA}(h:PA X es t)(i:∀σ H Q,t' σ H Q->t σ H Q):PA X es t':=fun pos pins s σ H Q I hw=>h pos pins s σ H Q I (i σ H Q hw)
theorem PS.imp{st:Stmt}{t t':TS}(h:PS X st t)(i:∀F σ H,t' F σ H->t F σ H):PS X st t':=fun pins s σ H F I hw=>h pins s σ H F I (i F σ H hw)
theorem PSs.imp{st:List Stmt}{t t':TS}(h:PSs X st t)(i:∀F σ H,t' F σ H->t F σ H):PSs X st t':=fun pins s σ H F I hw=>h pins s σ H F I (i F σ H hw)
theorem PI.imp{tg e:Expr}{t t':TI}(h:PI X tg e t)(i:∀σ H R,t' σ H R->t σ H R):PI X tg e t':=fun pins s σ H R I hw=>h pins s σ H R I (i σ H R hw)
theorem PG.imp{e:Expr}{t t':TG}(h:PG X e t)(i:∀v σ H Q,t' v σ H Q->t v σ H Q):PG X e t':=fun pins s σ H v u Q I r hw=>h pins s σ H v u Q I r (i v σ H Q hw)
variable {H0 G0 H G:Hp} {σ:L2.St} {ρ:Ro}
theorem tOf.at{f:Ro->Option D}{d:D}{Q:VK}(e:f ρ=some d)(s:SR K H0 G0 σ H G ρ)(h:∀v H' G',Gr H G H' G'->Rp K G' d v->SR K H0 G0 σ H' G' ρ->Q v H'):tOf K f σ H Q:=
 ⟨ρ,d,H0,G0,G,e,s,fun v H' G' g r=>h v H' G' g r (s.grow g)⟩
theorem tCof.at{f:Ro->Option D}{d:D}{Q:VK}(e:f ρ=some d)(s:SR K H0 G0 σ H G ρ)(h:∀v H' G',Gr H G H' G'->Ct K G' H' d v->SR K H0 G0 σ H' G' ρ->Q v H'):tCof K f σ H Q:=
 ⟨ρ,d,H0,G0,G,e,s,fun v H' G' g r=>h v H' G' g r (s.grow g)⟩
theorem tCAof.at{f:Ro->Option (List D)}{l:List D}{Q:List V->Hp->Prop}(e:f ρ=some l)(s:SR K H0 G0 σ H G ρ)(h:∀vs H' G',Gr H G H' G'->CtL K G' H' l vs->SR K H0 G0 σ H' G' ρ->Q vs H'):tCAof K f σ H Q:=
 ⟨ρ,l,H0,G0,G,e,s,fun v H' G' g r=>h v H' G' g r (s.grow g)⟩
theorem ME.mc{e:Expr}{f:Ro->Option D}(h:ME X e f):MC X e f:=PE.imp h fun σ H Q ⟨ρ,d,H0,G0,G,e,s,h⟩=>⟨ρ,d,H0,G0,G,e,s,fun v H' G' g r=>h v H' G' g (.of g.s r)⟩
theorem tTof.at{f:Ro->Option Bool}{b:Bool}{Q:Bool->Hp->Prop}(e:f ρ=some b)(s:SR K H0 G0 σ H G ρ)(h:∀H' G',Gr H G H' G'->SR K H0 G0 σ H' G' ρ->Q b H'):tTof K f σ H Q:=
 ⟨ρ,b,H0,G0,G,e,s,fun H' G' g=>h H' G' g (s.grow g)⟩
theorem tAof.at{f:Ro->Option (List D)}{l:List D}{Q:List V->Hp->Prop}(e:f ρ=some l)(s:SR K H0 G0 σ H G ρ)(h:∀vs H' G',Gr H G H' G'->RpL K G' l vs->SR K H0 G0 σ H' G' ρ->Q vs H'):tAof K f σ H Q:=
 ⟨ρ,l,H0,G0,G,e,s,fun v H' G' g r=>h v H' G' g r (s.grow g)⟩
end
end
section
variable {K:W.Frag}
def b2{α:Type}(fa fb:Ro->Option D)(g:D->D->Option α):Ro->Option α:=fun ρ=>(fa ρ).bind fun x=>(fb ρ).bind fun y=>g x y
def b1{α:Type}(fa:Ro->Option D)(g:D->Option α):Ro->Option α:=fun ρ=>(fa ρ).bind g
theorem Yi1{α:Type}{fa fb:Ro->Option D}{g:D->D->Option α}{ρ:Ro}{r:α}(h:b2 fa fb g ρ=some r):∃x y,fa ρ=some x/\fb ρ=some y/\g x y=some r:=by
 unfold b2 at h
 obtain⟨x,h1,h⟩:=qa h
 obtain⟨y,h2,h⟩:=qa h
 exact⟨x,y,h1,h2,h⟩
theorem Ybs{α:Type}{fa:Ro->Option D}{g:D->Option α}{ρ:Ro}{r:α}(h:b1 fa g ρ=some r):∃x,fa ρ=some x/\g x=some r:=by
 unfold b1 at h
 obtain⟨x,h1,h⟩:=qa h
 exact⟨x,h1,h⟩
def Sem2(K:W.Frag)(r:R2)(g:D->D->Option D):Prop:=∀(x y:V) (dx dy d:D) (H G:Hp) (Q:VK),g dx dy=some d->Same G H->Ct K G H dx x->Ct K G H dy y->(∀v H' G',Gr H G H' G'->Rp K G' d v->Q v H')->r x y H Q
def Yht(K:W.Frag)(r:R2)(g:D->D->Option Bool):Prop:=∀(x y:V) (dx dy:D) (b:Bool) (H G:Hp) (Q:VK),g dx dy=some b->Same G H->Ct K G H dx x->Ct K G H dy y->Q (.bl b) H->r x y H Q
def SemC(K:W.Frag)(r:List V->Hp->VK->Prop)(g:List D->Option D):Prop:=∀(vs:List V) (ds:List D) (d:D) (H G:Hp) (Q:VK),g ds=some d->Same G H->CtL K G H ds vs->(∀v H' G',Gr H G H' G'->Rp K G' d v->Q v H')->r vs H Q
def SemF(K:W.Frag)(r:List V->Hp->VK->Prop)(g:List D->Option (List D)):Prop:=∀(vs:List V) (ds l:List D) (H G:Hp) (Q:VK),g ds=some l->Same G H->CtL K G H ds vs->
 (∀p xs H' G',Gr H G H' G'->H p=none->G' p=none->H' p=some (.lst xs)->RpL K G' l xs->Q (.ref p) H')->r vs H Q
section
variable {X:Cx} {a b c e:Expr} {es:List Expr} {fa fb fc f:Ro->Option D} {ga:Ro->Option (List D)} {pos:Pos}
def getV(i:Nat):Ro->Option D:=fun ρ=>match ρ[i]? with
 | some (some (B.sh d))=>some d
 | _=>none
def getO(i:Nat):Ro->Option (List D):=fun ρ=>match ρ[i]? with
 | some (some (B.ow l))=>some l
 | _=>none
theorem Ypu{i:Nat}{ρ:Ro}{d:D}(h:getV i ρ=some d):ρ[i]?=some (some (B.sh d)):=by
 unfold getV at h
 split at h
 ·cases h;assumption
 ·cases h
theorem Ydp{i:Nat}{ρ:Ro}{l:List D}(h:getO i ρ=some l):ρ[i]?=some (some (B.ow l)):=by
 unfold getO at h
 split at h
 ·cases h;assumption
 ·cases h
theorem Yxr(i:Nat){x:Str}(hN:X.N[i]?=some x:=by rfl)(hv:Vis X.env.scope x:=by first | exact Or.inl rfl | exact Or.inr (Or.inl rfl) | exact Or.inr (Or.inr rfl))(hd:(x==("__debug__":Str))=false:=by decide)
 (hcd:(x==("__classdict__":Str))=false:=by decide):ME X (.Name x pos) (getV i):=
 PE.imp (Ye2 hN hv hd hcd) fun σ H Q hx_=>by
  obtain⟨ρ,d,H0,G0,G,e,s,h⟩:=hx_
  obtain⟨v,h1,h2⟩:=s.sh i d (Ypu e)
  exact⟨v,h1,h v H G (.refl s.seen) h2⟩
def getC(i:Nat):Ro->Option D:=fun ρ=>match ρ[i]? with
 | some (some (B.sh d))=>some d
 | some (some (B.ow l))=>some (.lst l)
 | some (some (B.od t ks vs))=>some (.dct t ks vs)
 | _=>none
theorem Yxs(i:Nat){x:Str}(hN:X.N[i]?=some x:=by rfl)(hv:Vis X.env.scope x:=by first | exact Or.inl rfl | exact Or.inr (Or.inl rfl) | exact Or.inr (Or.inr rfl))(hd:(x==("__debug__":Str))=false:=by decide)
 (hcd:(x==("__classdict__":Str))=false:=by decide):MC X (.Name x pos) (getC i):=
 PE.imp (Ye2 hN hv hd hcd) fun σ H Q hx_=>by
  obtain⟨ρ,d,H0,G0,G,e,s,h⟩:=hx_
  unfold getC at e
  split at e
  ·rename_i d' hd'
   cases e
   obtain⟨v,h1,h2⟩:=s.sh i _ hd'
   exact⟨v,h1,h v H G (.refl s.seen) (.of s.seen h2)⟩
  ·rename_i l hl
   cases e
   obtain⟨a,xs,h1,h2,h3,h4,h5⟩:=s.ow i l hl
   exact⟨_,h1,h _ H G (.refl s.seen) (by rw[Ct];exact⟨a,xs,rfl,.inl h4,h5⟩)⟩
  ·rename_i t ks vs hl
   cases e
   obtain⟨a,kxs,vxs,h1,h2,h3,h4,h5⟩:=s.od i t ks vs hl
   exact⟨_,h1,h _ H G (.refl s.seen) (by rw[Ct];exact⟨a,kxs,vxs,rfl,h4,h5⟩)⟩
  ·cases e
def kD(d:D):Ro->Option D:=fun _=>some d
theorem Ye8{v:V}{d:D}{t:TE}(h:PE X e t)(ht:∀σ H Q,Q v H->t σ H Q)(hr:∀G,Rp X.K G d v):ME X e (kD d):=
 PE.imp h fun σ H Q hx_=>by
  obtain⟨ρ,d',H0,G0,G,e,s,h⟩:=hx_
  cases e
  exact ht σ H Q (h v H G (.refl s.seen) (hr G))
theorem Yxt{i:Int}{j}:ME X (.Constant (.int i) j pos) (kD (.int i)):=Ye8 (v:=.int i) Yw1 (fun _ _ _ q=>q) fun _=>by rw[Rp]
theorem y0b{k:Bool}{j}:ME X (.Constant (.bool k) j pos) (kD (.bl k)):=Ye8 (v:=.bl k) Yzv (fun _ _ _ q=>q) fun _=>by rw[Rp]
theorem Yxu{j}:ME X (.Constant .none j pos) (kD .non):=Ye8 (v:=.non) Yw2 (fun _ _ _ q=>q) fun _=>by rw[Rp]
theorem Yxv{x:Str}{j}(hx:PyData.strOk x=true:=by decide +kernel):ME X (.Constant (.str x) j pos) (kD (.str x)):=Ye8 (v:=.str x) Yw3 (fun _ _ _ q=>q) fun _=>by rw[Rp];exact⟨rfl,hx⟩
theorem Ytj{r:R2}{g:D->D->Option D}(hr:Sem2 K r g){σ:L2.St}{H:Hp}{Q:VK}(h:tOf K (b2 fa fb g) σ H Q):tOp r (tCof K fa) (tCof K fb) σ H Q:=by
 obtain⟨ρ,d,H0,G0,G,e,s,h⟩:=h
 obtain⟨dx,dy,h1,h2,h3⟩:=Yi1 e
 exact tCof.at h1 s fun v H1 G1 g1 r1 s1=>tCof.at h2 s1 fun u H2 G2 g2 r2 s2=>hr v u dx dy d H2 G2 Q h3 s2.seen (r1.grow g2) r2 fun w H' G' g3 r3=>h w H' G' ((g1.trans g2).trans g3) r3
theorem Yu8{r:R2}{g:D->D->Option Bool}(hr:Yht K r g){σ:L2.St}{H:Hp}{Q:Bool->Hp->Prop}(h:tTof K (b2 fa fb g) σ H Q):Yxi (tOp r (tCof K fa) (tCof K fb)) σ H Q:=by
 obtain⟨ρ,d,H0,G0,G,e,s,h⟩:=h
 obtain⟨dx,dy,h1,h2,h3⟩:=Yi1 e
 exact tCof.at h1 s fun v H1 G1 g1 r1 s1=>tCof.at h2 s1 fun u H2 G2 g2 r2 s2=>hr v u dx dy d H2 G2 _ h3 s2.seen (r1.grow g2) r2 ⟨d,rfl,h H2 G2 (g1.trans g2)⟩
def mB(f:Ro->Option Bool):Ro->Option D:=fun ρ=>(f ρ).map D.bl
theorem Ylx{f:Ro->Option Bool}{ρ:Ro}{d:D}(h:mB f ρ=some d):∃b,f ρ=some b/\d=.bl b:=by
 unfold mB at h
 obtain⟨b,h1,h2⟩:=qb h
 exact⟨b,h1,h2.symm⟩
theorem Ysf{r:R2}{g:D->D->Option Bool}(hr:Yht K r g){σ:L2.St}{H:Hp}{Q:VK}(h:tOf K (mB (b2 fa fb g)) σ H Q):tOp r (tCof K fa) (tCof K fb) σ H Q:=by
 obtain⟨ρ,d,H0,G0,G,e,s,h⟩:=h
 obtain⟨b,eb,rfl⟩:=Ylx e
 obtain⟨dx,dy,h1,h2,h3⟩:=Yi1 eb
 exact tCof.at h1 s fun v H1 G1 g1 r1 s1=>tCof.at h2 s1 fun u H2 G2 g2 r2 s2=>hr v u dx dy b H2 G2 _ h3 s2.seen (r1.grow g2) r2 (h _ H2 G2 (g1.trans g2) (by rw[Rp]))
theorem Ym8{op:Operator}{r:R2}{g:D->D->Option D}(ho:OpR X (binaryOp op) r)(hr:Sem2 X.K r g)(ha:MC X a fa)(hb:MC X b fb):ME X (.BinOp a op b pos) (b2 fa fb g):=PE.imp (Yxd ho ha hb) fun _ _ _ h=>Ytj hr h
theorem Yih{op:CmpOp}{r:R2}{g:D->D->Option Bool}(ho:OpR X (compareOp op) r)(hr:Yht X.K r g)(ha:MC X a fa)(hb:MC X b fb)(hm:behindInMarks op b=false):ME X (.Compare a [op] [b] pos) (mB (b2 fa fb g)):=PE.imp (Ypb ho ha hb hm) fun _ _ _ h=>Ysf hr h
theorem Ye9{op:CmpOp}{r:R2}{g:D->D->Option Bool}(ho:OpR X (compareOp op) r)(hr:Yht X.K r g)(ha:MC X a fa)(hb:MC X b fb)(hm:behindInMarks op b=false):MT X (.Compare a [op] [b] pos) (b2 fa fb g):=PT.imp (Yup ho ha hb hm) fun _ _ _ h=>Yu8 hr h
theorem y0c{r:R2}{g:D->D->Option D}(hi:IxR X r)(hr:Sem2 X.K r g)(ha:MC X a fa)(hb:MC X b fb)(hs:Yis b):ME X (.Subscript a b pos) (b2 fa fb g):=PE.imp (Yz9 hi ha hb hs) fun _ _ _ h=>Ytj hr h
def i2(C:Int->Int->Bool)(g:Int->Int->Int):D->D->Option D
 | .int i,.int j=>if C i j=true then some (.int (g i j))else none
 | _,_=>none
def i2b(g:Int->Int->Bool):D->D->Option Bool
 | .int i,.int j=>some (g i j)
 | _,_=>none
theorem Ypv{C:Int->Int->Prop}{Cb:Int->Int->Bool}(hC:∀i j,Cb i j=true->C i j){g:Int->Int->Int}:Sem2 K (rI C fun i j=>.int (g i j)) (i2 Cb g):=by
 intro x y dx dy d H G Q h s rx ry q
 unfold i2 at h
 split at h
 ·split at h
  ·rename_i i j hc
   cases h
   rw[Ct]at rx ry
   subst rx;subst ry
   exact⟨i,j,rfl,rfl,hC i j hc,q _ H G (.refl s) (by rw[Rp])⟩
  ·cases h
 ·cases h
theorem Yu9{g:Int->Int->Int}:Sem2 K (rI0 fun i j=>.int (g i j)) (i2 (fun _ _=>true) g):=by
 intro x y dx dy d H G Q h s rx ry q
 unfold i2 at h
 split at h
 ·split at h
  ·rename_i i j hc
   cases h
   rw[Ct]at rx ry
   subst rx;subst ry
   exact⟨i,j,rfl,rfl,q _ H G (.refl s) (by rw[Rp])⟩
  ·cases h
 ·cases h
theorem Yi2{g:Int->Int->Bool}:Yht K (rI0 fun i j=>.bl (g i j)) (i2b g):=by
 intro x y dx dy d H G Q h s rx ry q
 unfold i2b at h
 split at h
 ·rename_i i j
  cases h
  rw[Ct]at rx ry
  subst rx;subst ry
  exact⟨i,j,rfl,rfl,q⟩
 ·cases h
def addI:D->D->Option D:=i2 (fun _ _=>true) fun i j=>i+j
def mulI:D->D->Option D:=i2 (fun i j=>(decide (-(2 ^ 64) < i)&&decide (i < 2 ^ 64))||(decide (-(2 ^ 64) < j)&&decide (j < 2 ^ 64))) fun i j=>i * j
def divI:D->D->Option D:=i2 (fun _ j=>decide (0 < j)&&decide (j < 1073741824)) fun i j=>i / j
def modI:D->D->Option D:=i2 (fun _ j=>decide (0 < j)) fun i j=>i % j
theorem Yxw(ha:MC X a fa)(hb:MC X b fb):ME X (.BinOp a .Mult b pos) (b2 fa fb mulI):=Ym8 Yxf (Ypv fun i j h=>by
 simp only[Bool.or_eq_true,Qg,decide_eq_true_eq]at h
 exact h) ha hb
theorem Yxx(ha:MC X a fa)(hb:MC X b fb):ME X (.BinOp a .FloorDiv b pos) (b2 fa fb divI):=Ym8 Yuo (Ypv fun i j h=>by
 simp only[Qg,decide_eq_true_eq]at h
 exact h) ha hb
theorem Yxy(ha:MC X a fa)(hb:MC X b fb):ME X (.BinOp a .Mod b pos) (b2 fa fb modI):=Ym8 Yxg (Ypv fun i j h=>of_decide_eq_true h) ha hb
def ltI:=i2b fun i j=>decide (i < j)
def gtI:=i2b fun i j=>decide (j < i)
def geI:=i2b fun i j=>decide (j<=i)
theorem y0d(ha:MC X a fa)(hb:MC X b fb):ME X (.Compare a [.Gt] [b] pos) (mB (b2 fa fb gtI)):=Yih Yxh Yi2 ha hb (Ycx _)
theorem y0e(ha:MC X a fa)(hb:MC X b fb):ME X (.Compare a [.GtE] [b] pos) (mB (b2 fa fb geI)):=Yih Yz4 Yi2 ha hb (Ycx _)
theorem y0f(ha:MC X a fa)(hb:MC X b fb):MT X (.Compare a [.Lt] [b] pos) (b2 fa fb ltI):=Ye9 Yz3 Yi2 ha hb (Ycx _)
theorem y0g(ha:MC X a fa)(hb:MC X b fb):MT X (.Compare a [.Gt] [b] pos) (b2 fa fb gtI):=Ye9 Yxh Yi2 ha hb (Ycx _)
mutual
def dep:D->Nat
 | .tup l=>depL l+1
 | .lst l=>depL l+1
 | .scr _=>1
 | .dct _ _ _=>1000
 | .obj _ _ _=>1000
 | .adr _=>1000
 | _=>0
def depL:List D->Nat
 | []=>0
 | d::l=>max (dep d) (depL l)
end
mutual
theorem Ybc:∀d:D,(toPy d).depth<=dep d
 | .non=>by simp[toPy,PyData.depth,dep]
 | .bl b=>by simp[toPy,PyData.depth,dep]
 | .int b=>by simp[toPy,PyData.depth,dep]
 | .str b=>by simp[toPy,PyData.depth,dep]
 | .tup l=>by have:=Yb9 l;simp[toPy,PyData.depth,dep];lia
 | .lst l=>by have:=Yb9 l;simp[toPy,PyData.depth,dep];lia
 | .scr ns=>by rw[toPy,PyData.depth,dep,W.ke_depthAll];exact qs _
 | .dct _ _ _=>by simp[toPy,PyData.depth,dep]
 | .obj _ _ _=>by simp[toPy,PyData.depth,dep]
 | .adr _=>by simp[toPy,PyData.depth,dep]
theorem Yb9:∀l:List D,PyData.depthAll (Yck l)<=depL l
 | []=>by simp[Yck,PyData.depthAll,depL]
 | d::l=>by have h1:=Ybc d;have h2:=Yb9 l;simp[Yck,PyData.depthAll,depL];lia
end
section
variable {pins:List (Addr × Obj)} {σ:L2.St} {H:Hp} {s:Shared}
mutual
theorem Yb1(I:Inv X pins σ H s):∀{d:D} {v:V} {u:Value},dep d<=100->Rp X.K H d v->RelV v u->∃as,Reads s.heap u (toPy d) as/\(toPy d).canLay0=true
 | .non,v,u,_,r,q=>by
   rw[Rp]at r;subst r
   cases q
   exact⟨_,by rw[toPy];exact .none,by simp[toPy,PyData.canLay0]⟩
 | .bl b,v,u,_,r,q=>by
   rw[Rp]at r;subst r
   cases q
   exact⟨_,by rw[toPy];exact .bool b,by simp[toPy,PyData.canLay0]⟩
 | .int i,v,u,_,r,q=>by
   rw[Rp]at r;subst r
   obtain⟨t,rfl⟩:=q
   exact⟨_,by rw[toPy];exact .int i t,by simp[toPy,PyData.canLay0]⟩
 | .str x,v,u,_,r,q=>by
   rw[Rp]at r;obtain⟨rfl,hx⟩:=r
   obtain⟨t,rfl⟩:=q
   exact⟨_,by rw[toPy];exact .str x t,by simp[toPy,PyData.canLay0,hx]⟩
 | .tup l,v,u,hd,r,q=>by
   rw[Rp]at r
   obtain⟨a,xs,rfl,g,rl⟩:=r
   cases q
   obtain⟨_,its,rv,ht⟩:=(show ObjOk X.prog X.w H s.heap a (.tup xs) from I.hok a _ g)
   obtain⟨o,h1,h2,n,h3⟩:=ht
   obtain⟨as,q,hc⟩:=Ygs I (by simp only[dep]at hd;lia) rl rv
   exact⟨_,by rw[toPy];exact .tuple h1 h2 h3 (by simpa using q),by simpa [toPy,PyData.canLay0]using hc⟩
 | .lst l,v,u,hd,r,q=>by
   rw[Rp]at r
   obtain⟨a,xs,rfl,g,rl⟩:=r
   cases q
   obtain⟨its,rv,pl,_⟩:=I.list (.inl g)
   obtain⟨o,h1,h2,n,h3⟩:=pl.isList
   obtain⟨as,q,hc⟩:=Ygs I (by simp only[dep]at hd;lia) rl rv
   exact⟨_,by rw[toPy];exact .list h1 h2 h3 (by simpa using q),by simpa [toPy,PyData.canLay0]using hc⟩
 | .dct _ _ _,v,u,hd,r,q=>by simp[dep]at hd
 | .obj _ _ _,v,u,hd,r,q=>by simp[dep]at hd
 | .adr _,v,u,hd,r,q=>by simp[dep]at hd
 | .scr ns,v,u,_,r,q=>by
   rw[Rp]at r
   obtain⟨a,rfl,g⟩:=r
   cases q
   obtain⟨its,rv,pl,_⟩:=I.list g
   exact⟨_,by rw[toPy];exact W.reads_of_ints pl.isList (Yfo rv),by rw[toPy];simp[PyData.canLay0,W.ke_canLayAll0]⟩
theorem Ygs(I:Inv X pins σ H s):∀{l:List D} {xs:List V} {us:List Value},depL l<=100->RpL X.K H l xs->Vals xs us->∃as,ReadsAll s.heap us (Yck l) as/\PyData.canLayAll0 (Yck l)=true
 | [],xs,us,_,r,q=>by
   rw[RpL]at r;subst r
   cases q
   exact⟨_,by rw[Yck];exact .nil,by simp[Yck,PyData.canLayAll0]⟩
 | d::l,xs,us,hd,r,q=>by
   rw[RpL]at r
   obtain⟨x,xs,rfl,r1,r2⟩:=r
   rw[depL]at hd
   cases q with
   | cons q1 q2=>
     obtain⟨as,h1,h2⟩:=Yb1 I (by lia) r1 q1
     obtain⟨bs,h3,h4⟩:=Ygs I (by lia) r2 q2
     exact⟨_,by rw[Yck];exact .cons h1 h3,by simp[Yck,PyData.canLayAll0,h2,h4]⟩
end
end
theorem Ycy(l:List D)(d:D):((Yck l).any fun y=>PyData.eqv y (toPy d))=l.any fun y=>eqD y d:=by
 induction l with
 | nil=>simp[Yck]
 | cons e l ih=>
   rw[Yck,List.any_cons,List.any_cons,ih]
   rfl
def eqM(neg:Bool):D->D->Option Bool:=fun d e=>if dep d<=60/\dep e<=60 then some (if neg then !eqD d e else eqD d e)else none
def rEqD(K:W.Frag)(neg:Bool):R2:=fun x y H Q=>∃d e,Rp K H d x/\Rp K H e y/\(dep d<=60/\dep e<=60)/\Q (.bl (if neg then !eqD d e else eqD d e)) H
theorem Ytk(hu:X.A.units+64 < cLine):OpR X (compareOp .Eq) (rEqD X.K false):=by
 intro pins s σ H x y v u Q I rx ry h
 obtain⟨d,e,r1,r2,hd,q⟩:=h
 obtain⟨as,h1,h2⟩:=Yb1 I (by lia) r1 rx
 obtain⟨bs,h3,h4⟩:=Yb1 I (by lia) r2 ry
 exact SeqAt.eqOverData X.prog X.w X.A X.xe s v u _ _ as bs _ h1 h3 h2 h4 (by have:=Ybc d;have:=Ybc e;lia) ⟨.bl _,H,I,rfl,by exact q⟩
theorem Ytl(hu:X.A.units+64 < cLine):OpR X (compareOp .NotEq) (rEqD X.K true):=by
 intro pins s σ H x y v u Q I rx ry h
 obtain⟨d,e,r1,r2,hd,q⟩:=h
 obtain⟨as,h1,h2⟩:=Yb1 I (by lia) r1 rx
 obtain⟨bs,h3,h4⟩:=Yb1 I (by lia) r2 ry
 exact SeqAt.neOverData X.prog X.w X.A X.xe s v u _ _ as bs _ h1 h3 h2 h4 (by have:=Ybc d;have:=Ybc e;lia) ⟨.bl _,H,I,rfl,by exact q⟩
theorem Yi3{neg:Bool}:Yht K (rEqD K neg) (eqM neg):=by
 intro x y dx dy b H G Q h s rx ry q
 unfold eqM at h
 split at h
 ·cases h
  exact⟨dx,dy,rx.rp s,ry.rp s,by assumption,q⟩
 ·cases h
theorem y0h(hu:X.A.units+64 < cLine)(ha:MC X a fa)(hb:MC X b fb):ME X (.Compare a [.Eq] [b] pos) (mB (b2 fa fb (eqM false))):=Yih (Ytk hu) Yi3 ha hb (Ycx _)
theorem y0i(hu:X.A.units+64 < cLine)(ha:MC X a fa)(hb:MC X b fb):ME X (.Compare a [.NotEq] [b] pos) (mB (b2 fa fb (eqM true))):=Yih (Ytl hu) Yi3 ha hb (Ycx _)
theorem y0j(hu:X.A.units+64 < cLine)(ha:MC X a fa)(hb:MC X b fb):MT X (.Compare a [.Eq] [b] pos) (b2 fa fb (eqM false)):=Ye9 (Ytk hu) Yi3 ha hb (Ycx _)
theorem y0k(hu:X.A.units+64 < cLine)(ha:MC X a fa)(hb:MC X b fb):MT X (.Compare a [.NotEq] [b] pos) (b2 fa fb (eqM true)):=Ye9 (Ytl hu) Yi3 ha hb (Ycx _)
def Ys:D->Option (List D)
 | .tup l=>some l
 | .lst l=>some l
 | .scr ns=>some (ns.map D.int)
 | _=>none
def inD(d:D)(l:List D):Bool:=l.any fun y=>eqD y d
def inM(neg:Bool):D->D->Option Bool:=fun d c=>(Ys c).bind fun l=>if depL l<=60/\dep d<=60 then some (if neg then !inD d l else inD d l)else none
def rInD(K:W.Frag)(neg:Bool):R2:=fun x y H Q=>∃d c l,Rp K H d x/\Rp K H c y/\Ys c=some l/\(depL l<=60/\dep d<=60)/\Q (.bl (if neg then !inD d l else inD d l)) H
theorem Yab{c:D}{l:List D}(h:Ys c=some l):c=.tup l\/c=.lst l\/∃ns,c=.scr ns/\l=ns.map D.int:=by
 cases c with
 | tup m=>cases h;exact .inl rfl
 | lst m=>cases h;exact .inr (.inl rfl)
 | scr ns=>cases h;exact .inr (.inr ⟨ns,rfl,rfl⟩)
 | non=>cases h
 | bl _=>cases h
 | int _=>cases h
 | str _=>cases h
 | dct _ _ _=>cases h
 | obj _ _ _=>cases h
 | adr _=>cases h
theorem Yfr:∀ns:List Int,Yck (ns.map D.int)=ns.map PyData.int
 | []=>by simp[Yck]
 | n::ns=>by simp[Yck,toPy,Yfr ns]
theorem Yxz(hu:X.A.units+64 < cLine):OpR X (compareOp .In) (rInD X.K false):=by
 intro pins s σ H x y v u Q I rx ry h
 obtain⟨d,c,l,r1,r2,hc,hd,q⟩:=h
 obtain⟨as,h1,h2⟩:=Yb1 I (by lia) r1 rx
 have hdc:dep c<=61:=by
  rcases Yab hc with rfl | rfl | ⟨ns,rfl,rfl⟩
  ·rw[dep];lia
  ·rw[dep];lia
  ·rw[dep];lia
 obtain⟨bs,h3,h4⟩:=Yb1 I (by lia) r2 ry
 have hdd:=Ybc d
 have hdl:=Yb9 l
 rcases Yab hc with rfl | rfl | ⟨ns,rfl,rfl⟩
 ·rw[toPy]at h3 h4
  exact SeqAt.in_tuple_reads h3 h1 (by simpa [PyData.canLay0]using h4) h2 (by lia) ⟨.bl _,H,I,rfl,by rw[Ycy];exact q⟩
 ·rw[toPy]at h3 h4
  exact SeqAt.in_list_reads h3 h1 (by simpa [PyData.canLay0]using h4) h2 (by lia) ⟨.bl _,H,I,rfl,by rw[Ycy];exact q⟩
 ·rw[toPy,<-Yfr]at h3 h4
  exact SeqAt.in_list_reads h3 h1 (by simpa [PyData.canLay0]using h4) h2 (by lia) ⟨.bl _,H,I,rfl,by rw[Ycy];exact q⟩
theorem Ypw(hu:X.A.units+64 < cLine):OpR X (compareOp .NotIn) (rInD X.K true):=by
 intro pins s σ H x y v u Q I rx ry h
 obtain⟨d,c,l,r1,r2,hc,hd,q⟩:=h
 obtain⟨as,h1,h2⟩:=Yb1 I (by lia) r1 rx
 have hdc:dep c<=61:=by
  rcases Yab hc with rfl | rfl | ⟨ns,rfl,rfl⟩
  ·rw[dep];lia
  ·rw[dep];lia
  ·rw[dep];lia
 obtain⟨bs,h3,h4⟩:=Yb1 I (by lia) r2 ry
 have hdd:=Ybc d
 have hdl:=Yb9 l
 rcases Yab hc with rfl | rfl | ⟨ns,rfl,rfl⟩
 ·rw[toPy]at h3 h4
  exact SeqAt.notIn_tuple_reads h3 h1 (by simpa [PyData.canLay0]using h4) h2 (by lia) ⟨.bl _,H,I,rfl,by rw[Ycy];exact q⟩
 ·rw[toPy]at h3 h4
  exact SeqAt.notIn_list_reads h3 h1 (by simpa [PyData.canLay0]using h4) h2 (by lia) ⟨.bl _,H,I,rfl,by rw[Ycy];exact q⟩
 ·rw[toPy,<-Yfr]at h3 h4
  exact SeqAt.notIn_list_reads h3 h1 (by simpa [PyData.canLay0]using h4) h2 (by lia) ⟨.bl _,H,I,rfl,by rw[Ycy];exact q⟩
theorem Ypx{neg:Bool}:Yht K (rInD K neg) (inM neg):=by
 intro x y dx dy b H G Q h s rx ry q
 unfold inM at h
 obtain⟨l,h1,h⟩:=qa h
 split at h
 ·cases h
  exact⟨dx,dy,l,rx.rp s,ry.rp s,h1,by assumption,q⟩
 ·cases h
theorem y0l(hu:X.A.units+64 < cLine)(ha:MC X a fa)(hb:MC X b fb)(hm:behindInMarks .In b=false:=by with_unfolding_all rfl):MT X (.Compare a [.In] [b] pos) (b2 fa fb (inM false)):=Ye9 (Yxz hu) Ypx ha hb hm
theorem Yx0(hu:X.A.units+64 < cLine)(ha:MC X a fa)(hb:MC X b fb)(hm:behindInMarks .NotIn b=false:=by with_unfolding_all rfl):MT X (.Compare a [.NotIn] [b] pos) (b2 fa fb (inM true)):=Ye9 (Ypw hu) Ypx ha hb hm
end
end
section
variable {K:W.Frag}
section
variable {X:Cx} {a b c e:Expr} {es:List Expr} {fa fb f:Ro->Option D} {fc fd:Ro->Option Bool} {ga:Ro->Option (List D)} {pos:Pos} {rest:List Expr}
def truD:D->Option Bool
 | .non=>some false
 | .bl b=>some b
 | .int i=>some (i != 0)
 | .tup l=>some (!l.isEmpty)
 | .lst l=>some (!l.isEmpty)
 | .scr ns=>some (!ns.isEmpty)
 | .str _=>none
 | .dct _ _ _=>none
 | .obj _ _ _=>none
 | .adr _=>none
theorem Yva{d:D}{v:V}{k:Bool}{H G:Hp}(h:truD d=some k)(r:Ct X.K G H d v):TruV X.K v H k:=by
 cases d with
 | non=>rw[Ct]at r;subst r;cases h;rfl
 | bl b=>rw[Ct]at r;subst r;cases h;rfl
 | int i=>rw[Ct]at r;subst r;cases h;rfl
 | str x=>cases h
 | dct _ _ _=>cases h
 | obj _ _ _=>cases h
 | adr _=>cases h
 | tup l=>
   rw[Ct]at r
   obtain⟨a,xs,rfl,g,rl⟩:=r
   cases h
   refine .inr (.inl ⟨xs,.inl (.inl g.1),?_⟩)
   have:=rl.length
   cases l<;>cases xs<;>simp_all
 | lst l=>
   rw[Ct]at r
   obtain⟨a,xs,rfl,g,rl⟩:=r
   cases h
   refine .inl ⟨xs,.inl g,?_⟩
   have:=rl.length
   cases l<;>cases xs<;>simp_all
 | scr ns=>
   rw[Ct]at r
   obtain⟨a,rfl,g⟩:=r
   cases h
   refine .inl ⟨_,g,?_⟩
   cases ns<;>simp
theorem Yx1(ha:MC X a fa)(he:∀whole,isTrue a X.env whole=(do let v <-whole;standAt a.pos;holding [v] (truthy v)):=by intro _;rfl):MT X a (b1 fa truD):=
 PT.imp (Yr2 ha he) fun σ H Q hx_=>by
  obtain⟨ρ,k,H0,G0,G,e,s,h⟩:=hx_
  obtain⟨d,h1,h2⟩:=Ybs e
  exact tCof.at h1 s fun v H1 G1 g1 r1 s1=>⟨k,Yva h2 r1,h H1 G1 g1⟩
def andT(fc fd:Ro->Option Bool):Ro->Option Bool:=fun ρ=>(fc ρ).bind fun k=>if k=true then fd ρ else some false
def orT(fc fd:Ro->Option Bool):Ro->Option Bool:=fun ρ=>(fc ρ).bind fun k=>if k=true then some true else fd ρ
def notT(fc:Ro->Option Bool):Ro->Option Bool:=fun ρ=>(fc ρ).map (!·)
abbrev MW(X:Cx)(e:Expr)(f:Ro->Option Bool):Prop:=PW X e (tTof X.K f)
theorem PW.imp{t t':TT}(h:PW X e t)(i:∀σ H Q,t' σ H Q->t σ H Q):PW X e t':=fun whole pins s σ H Q I hw=>h whole pins s σ H Q I (i σ H Q hw)
theorem Yvb(ha:MT X a fc):MW X (.BoolOp .And [a] pos) fc:=Yuk ha
theorem Yx2(ha:MT X a fc):MW X (.BoolOp .Or [a] pos) fc:=Yw4 ha
theorem Yvc{σ:L2.St}{H:Hp}{Q:Bool->Hp->Prop}(h:tTof K (andT fc fd) σ H Q):tAnd (tTof K fc) (tTof K fd) σ H Q:=by
 obtain⟨ρ,k,H0,G0,G,e,s,h⟩:=h
 unfold andT at e
 obtain⟨k1,h1,e⟩:=qa e
 refine tTof.at h1 s fun H1 G1 g1 s1=>?_
 cases k1 with
 | true=>
   rw[if_pos rfl]at e ⊢
   exact tTof.at e s1 fun H2 G2 g2 _=>h H2 G2 (g1.trans g2)
 | false=>
   rw[if_neg qh]at e ⊢
   cases e
   exact h H1 G1 g1
theorem Yx3{σ:L2.St}{H:Hp}{Q:Bool->Hp->Prop}(h:tTof K (orT fc fd) σ H Q):tOr (tTof K fc) (tTof K fd) σ H Q:=by
 obtain⟨ρ,k,H0,G0,G,e,s,h⟩:=h
 unfold orT at e
 obtain⟨k1,h1,e⟩:=qa e
 refine tTof.at h1 s fun H1 G1 g1 s1=>?_
 cases k1 with
 | false=>
   rw[if_neg qh]at e ⊢
   exact tTof.at e s1 fun H2 G2 g2 _=>h H2 G2 (g1.trans g2)
 | true=>
   rw[if_pos rfl]at e ⊢
   cases e
   exact h H1 G1 g1
theorem Yx4(ha:MT X a fc)(hb:MW X (.BoolOp .And (b::rest) pos) fd):MW X (.BoolOp .And (a::b::rest) pos) (andT fc fd):=PW.imp (Yw5 ha hb) fun _ _ _ h=>Yvc h
theorem y0m(ha:MT X a fc)(hb:MW X (.BoolOp .Or (b::rest) pos) fd):MW X (.BoolOp .Or (a::b::rest) pos) (orT fc fd):=PW.imp (Yzw ha hb) fun _ _ _ h=>Yx3 h
theorem Yx5(ha:MT X a fc):MT X (.UnaryOp .Not a pos) (notT fc):=PT.imp (Yw6 ha) fun σ H Q hx_=>by
 obtain⟨ρ,k,H0,G0,G,e,s,h⟩:=hx_
 obtain⟨k1,h1,rfl⟩:=qb e
 exact tTof.at h1 s fun H1 G1 g1 _=>h H1 G1 g1
def blD:D->Option Bool
 | .bl b=>some b
 | _=>none
theorem Ym9{d:D}{k:Bool}(h:blD d=some k):d=.bl k:=by cases d<;>simp[blD]at h;subst h;rfl
def andV(fa fb:Ro->Option D):Ro->Option D:=fun ρ=>(b1 fa blD ρ).bind fun k=>if k=true then fb ρ else some (.bl false)
def notV(fa:Ro->Option D):Ro->Option D:=fun ρ=>(b1 fa blD ρ).map fun k=>.bl (!k)
theorem Yvd(ha:ME X a fa):ME X (.BoolOp .And [a] pos) fa:=Yw7 ha
theorem Yx6(ha:ME X a fa)(hb:ME X (.BoolOp .And (b::rest) pos) fb):ME X (.BoolOp .And (a::b::rest) pos) (andV fa fb):=PE.imp (Yw8 ha hb) fun σ H Q hx_=>by
 obtain⟨ρ,d,H0,G0,G,e,s,h⟩:=hx_
 unfold andV at e
 obtain⟨k,h1,e⟩:=qa e
 obtain⟨d1,h2,h3⟩:=Ybs h1
 cases Ym9 h3
 refine tOf.at h2 s fun v H1 G1 g1 r1 s1=>⟨k,by rw[Rp]at r1;exact r1,?_⟩
 cases k with
 | true=>
   rw[if_pos rfl]at e ⊢
   exact tOf.at e s1 fun w H2 G2 g2 r2 _=>h w H2 G2 (g1.trans g2) r2
 | false=>
   rw[if_neg qh]at e ⊢
   cases e
   exact h _ H1 G1 g1 (by rw[Rp])
theorem Yx7(ha:ME X a fa):ME X (.UnaryOp .Not a pos) (notV fa):=PE.imp (Yw9 ha) fun σ H Q hx_=>by
 obtain⟨ρ,d,H0,G0,G,e,s,h⟩:=hx_
 obtain⟨k,h1,rfl⟩:=qb e
 obtain⟨d1,h2,h3⟩:=Ybs h1
 cases Ym9 h3
 exact tOf.at h2 s fun v H1 G1 g1 r1 s1=>⟨k,by rw[Rp]at r1;exact r1,h _ H1 G1 g1 (by rw[Rp])⟩
def ifV(fc:Ro->Option Bool)(fa fb:Ro->Option D):Ro->Option D:=fun ρ=>(fc ρ).bind fun k=>if k=true then fa ρ else fb ρ
theorem y0n(hc:MT X c fc)(ha:ME X a fa)(hb:ME X b fb):ME X (.IfExp c a b pos) (ifV fc fa fb):=PE.imp (Yr0 hc ha hb) fun σ H Q hx_=>by
 obtain⟨ρ,d,H0,G0,G,e,s,h⟩:=hx_
 unfold ifV at e
 obtain⟨k,h1,e⟩:=qa e
 refine tTof.at h1 s fun H1 G1 g1 s1=>?_
 cases k with
 | true=>
   rw[if_pos rfl]at e ⊢
   exact tOf.at e s1 fun w H2 G2 g2 r2 _=>h w H2 G2 (g1.trans g2) r2
 | false=>
   rw[if_neg qh]at e ⊢
   exact tOf.at e s1 fun w H2 G2 g2 r2 _=>h w H2 G2 (g1.trans g2) r2
def Ykg:D->Bool
 | .non=>true
 | _=>false
theorem Yna{d:D}{v:V}{G H:Hp}(r:Ct K G H d v):decide (v=V.non)=Ykg d:=by
 cases d with
 | non=>rw[Ct]at r;subst r;rfl
 | bl _=>rw[Ct]at r;subst r;rfl
 | int _=>rw[Ct]at r;subst r;rfl
 | str _=>rw[Ct]at r;obtain⟨rfl,_⟩:=r;rfl
 | tup _=>rw[Ct]at r;obtain⟨_,_,rfl,_⟩:=r;rfl
 | lst _=>rw[Ct]at r;obtain⟨_,_,rfl,_⟩:=r;rfl
 | scr _=>rw[Ct]at r;obtain⟨_,rfl,_⟩:=r;rfl
 | dct _ _ _=>rw[Ct]at r;obtain⟨_,_,_,rfl,_⟩:=r;rfl
 | obj _ _ _=>rw[Ct]at r;obtain⟨_,_,_,_,rfl,_⟩:=r;rfl
 | adr _=>rw[Ct]at r;subst r;rfl
def isN(neg:Bool):D->D->Option Bool:=fun d e=>if Ykg e then some (if neg then !Ykg d else Ykg d)else none
theorem Ypy:Yht K (fun x y H Q=>y=.non/\Q (.bl (decide (x=.non))) H) (isN false):=by
 intro x y dx dy b H G Q h s rx ry q
 unfold isN at h
 split at h
 ·rename_i hn
  cases h
  cases dy<;>simp[Ykg]at hn
  rw[Ct]at ry
  exact⟨ry,by rw[Yna rx];exact q⟩
 ·cases h
theorem Ynb:Yht K (fun x y H Q=>y=.non/\Q (.bl (!decide (x=.non))) H) (isN true):=by
 intro x y dx dy b H G Q h s rx ry q
 unfold isN at h
 split at h
 ·rename_i hn
  cases h
  cases dy<;>simp[Ykg]at hn
  rw[Ct]at ry
  exact⟨ry,by rw[Yna rx];exact q⟩
 ·cases h
theorem Yx8(ha:MC X a fa)(hb:MC X b fb):ME X (.Compare a [.Is] [b] pos) (mB (b2 fa fb (isN false))):=Yih Ytd Ypy ha hb (Ycx _)
theorem Yve(ha:MC X a fa)(hb:MC X b fb):ME X (.Compare a [.IsNot] [b] pos) (mB (b2 fa fb (isN true))):=Yih Ypa Ynb ha hb (Ycx _)
theorem Yx9(ha:MC X a fa)(hb:MC X b fb):MT X (.Compare a [.Is] [b] pos) (b2 fa fb (isN false)):=Ye9 Ytd Ypy ha hb (Ycx _)
theorem Yvf(ha:MC X a fa)(hb:MC X b fb):MT X (.Compare a [.IsNot] [b] pos) (b2 fa fb (isN true)):=Ye9 Ypa Ynb ha hb (Ycx _)
def ixD:D->D->Option D
 | c,.int i=>(Ys c).bind fun l=>atI l i
 | _,_=>none
theorem Ypz{G:Hp}{l:List D}{xs:List V}{i:Int}{d:D}(r:RpL K G l xs)(h:atI l i=some d):∃x,atI xs i=some x/\Rp K G d x:=by
 unfold atI at h ⊢
 rw[r.length]
 obtain⟨j,h1,h2⟩:=qa h
 obtain⟨x,h3,h4⟩:=r.get h2
 exact⟨x,by rw[h1];exact h3,h4⟩
theorem Yya:Sem2 X.K (rIx X.K) ixD:=by
 intro x y dx dy d H G Q h s rx ry q
 unfold ixD at h
 split at h
 ·rename_i c i
  obtain⟨l,h1,h2⟩:=qa h
  rw[Ct]at ry
  subst ry
  rcases Yab h1 with rfl | rfl | ⟨ns,rfl,rfl⟩
  ·rw[Ct]at rx
   obtain⟨p,xs,rfl,g,rl⟩:=rx
   obtain⟨v,h3,h4⟩:=Ypz rl h2
   exact .inr (.inl ⟨p,xs,i,v,rfl,rfl,.inl (.inl g.1),h3,q v H G (.refl s) h4⟩)
  ·rw[Ct]at rx
   obtain⟨p,xs,rfl,g,rl⟩:=rx
   obtain⟨v,h3,h4⟩:=Ypz rl h2
   exact .inl ⟨p,xs,i,v,rfl,rfl,.inl g,h3,q v H G (.refl s) h4⟩
  ·rw[Ct]at rx
   obtain⟨p,rfl,g⟩:=rx
   obtain⟨v,h3,h4⟩:=Ypz (G:=G) (K:=X.K) (.ints ns) h2
   exact .inl ⟨p,_,i,v,rfl,rfl,g,h3,q v H G (.refl s) h4⟩
 ·cases h
theorem Yvg(ha:MC X a fa)(hb:MC X b fb)(hs:Yis b:=by intro _ _;rfl):ME X (.Subscript a b pos) (b2 fa fb ixD):=y0c Yxo Yya ha hb hs
def intD:D->Option Int
 | .int i=>some i
 | _=>none
def optI(f:Option (Ro->Option D)):Ro->Option (Option Int):=fun ρ=>match f with
 | none=>some none
 | some f=>(b1 f intD ρ).map some
def cutD(l:List D)(lo hi:Option Int):List D:=(l.drop (HT.sIx l.length 0 lo)).take (HT.sIx l.length l.length hi - HT.sIx l.length 0 lo)
def lstD:D->Option (List D)
 | .lst l=>some l
 | .scr ns=>some (ns.map D.int)
 | _=>none
theorem Yp0{d:D}{l:List D}{v:V}{G H:Hp}(h:lstD d=some l)(r:Ct K G H d v):∃p xs,v=.ref p/\SqL K H p xs/\RpL K G l xs:=by
 cases d with
 | lst m=>
   cases h
   rw[Ct]at r
   obtain⟨p,xs,e,g,q⟩:=r
   exact⟨p,xs,e,.inl g,q⟩
 | scr ns=>
   cases h
   rw[Ct]at r
   obtain⟨p,e,g⟩:=r
   exact⟨p,_,e,g,.ints ns⟩
 | non=>cases h
 | bl _=>cases h
 | int _=>cases h
 | str _=>cases h
 | tup _=>cases h
 | dct _ _ _=>cases h
 | obj _ _ _=>cases h
 | adr _=>cases h
def slF(fa:Ro->Option D)(lo hi:Option (Ro->Option D)):Ro->Option (List D):=fun ρ=>(b1 fa lstD ρ).bind fun l=>(optI lo ρ).bind fun i=>(optI hi ρ).bind fun j=>some (cutD l i j)
abbrev tO(K:W.Frag)(f:Option (Ro->Option D)):TO:=match f with
 | none=>Yuw
 | some f=>Yxm (tCof K f)
theorem Yyb{H0 G0 H G:Hp}{σ:L2.St}{ρ:Ro}{f:Option (Ro->Option D)}{i:Option Int}{Q:Option Int->Hp->Prop}(e:optI f ρ=some i)(s:SR K H0 G0 σ H G ρ)(h:∀H' G',Gr H G H' G'->SR K H0 G0 σ H' G' ρ->Q i H'):tO K f σ H Q:=by
 cases f with
 | none=>
   cases e
   exact h H G (.refl s.seen) s
 | some f=>
   obtain⟨k,h1,rfl⟩:=qb e
   obtain⟨d,h2,h3⟩:=Ybs h1
   refine tCof.at h2 s fun v H1 G1 g1 r1 s1=>⟨k,?_,h H1 G1 g1 s1⟩
   cases d<;>simp[intD]at h3
   subst h3
   rw[Ct]at r1
   exact r1
theorem Ysg{lo hi:Option Expr}{fl fh:Option (Ro->Option D)}{p2:Pos}(ha:MC X a fa)(hl:PO X lo (tO X.K fl))(hh:PO X hi (tO X.K fh)):MF X (.Subscript a (.Slice lo hi none p2) pos) (slF fa fl fh):=
 PE.imp (Yr7 Yuy ha hl hh) fun σ H Q hx_=>by
  obtain⟨ρ,l,H0,G0,G,e,s,h⟩:=hx_
  unfold slF at e
  obtain⟨l0,h1,e⟩:=qa e
  obtain⟨i,h2,e⟩:=qa e
  obtain⟨j,h3,e⟩:=qa e
  cases e
  obtain⟨d,h4,h5⟩:=Ybs h1
  refine tCof.at h4 s fun v H1 G1 g1 r1 s1=>Yyb h2 s1 fun H2 G2 g2 s2=>Yyb h3 s2 fun H3 G3 g3 s3=>?_
  have r3:=(r1.grow g2).grow g3
  obtain⟨p,xs,rfl,g,rl⟩:=Yp0 h5 r3
  refine⟨p,xs,rfl,g,fun q hq=>?_⟩
  have hq0:H q=none:=g1.h.free (g2.h.free (g3.h.free hq))
  have gg:=((g1.trans g2).trans g3).trans (Gr.hid (p:=q) s3.seen hq (.lst (cutV xs i j)))
  refine h q _ _ G3 gg hq0 (s3.seen.free hq) Yo ?_
  unfold cutD cutV
  rw[rl.length]
  exact(rl.drop _).take _
theorem y0o(h:MC X e f):PO X (some e) (tO X.K (some f)):=Yux h
def lF(f:Ro->Option (List D)):Ro->Option D:=fun ρ=>(f ρ).map D.lst
theorem MF.me{g:Ro->Option (List D)}(h:MF X e g):ME X e (lF g):=PE.imp h fun σ H Q hx_=>by
 obtain⟨ρ,d,H0,G0,G,e,s,h⟩:=hx_
 obtain⟨l,h1,rfl⟩:=qb e
 exact⟨ρ,l,H0,G0,G,h1,s,fun p xs H' G' g hp gp e' r=>h _ H' _ (g.show hp gp e') (by
  rw[Rp]
  refine⟨p,xs,rfl,.inl Yo,r.mono fun b o q=>?_⟩
  rw[Yh (Yw q gp)];exact q)⟩
def aNil:Ro->Option (List D):=fun _=>some []
def Ye(f:Ro->Option D)(g:Ro->Option (List D)):Ro->Option (List D):=fun ρ=>(f ρ).bind fun d=>(g ρ).map (d::·)
theorem Ytm:MA X [] aNil:=PA.imp Ybz fun σ H Q hx_=>by
 obtain⟨ρ,l,H0,G0,G,e,s,h⟩:=hx_
 cases e
 exact h [] H G (.refl s.seen) .nil
theorem Yp1(ha:ME X e f)(hr:MA X es ga)(hs:starEach (e::es) X.env=(false,eval e X.env)::starEach es X.env:=by rfl):MA X (e::es) (Ye f ga):=PA.imp (Yas ha hr hs) fun σ H Q hx_=>by
 obtain⟨ρ,l,H0,G0,G,e,s,h⟩:=hx_
 unfold Ye at e
 obtain⟨d,h1,e⟩:=qa e
 obtain⟨l',h2,rfl⟩:=qb e
 exact tOf.at h1 s fun v H1 G1 g1 r1 s1=>tAof.at h2 s1 fun vs H2 G2 g2 r2 _=>h (v::vs) H2 G2 (g1.trans g2) (.cons (r1.mono g2.g) r2)
theorem Yp2:MCA X [] aNil:=PA.imp Ybz fun σ H Q hx_=>by
 obtain⟨ρ,l,H0,G0,G,e,s,h⟩:=hx_
 cases e
 exact h [] H G (.refl s.seen) rfl
theorem Ync(ha:MC X e f)(hr:MCA X es ga)(hs:starEach (e::es) X.env=(false,eval e X.env)::starEach es X.env:=by rfl):MCA X (e::es) (Ye f ga):=PA.imp (Yas ha hr hs) fun σ H Q hx_=>by
 obtain⟨ρ,l,H0,G0,G,e,s,h⟩:=hx_
 unfold Ye at e
 obtain⟨d,h1,e⟩:=qa e
 obtain⟨l',h2,rfl⟩:=qb e
 exact tCof.at h1 s fun v H1 G1 g1 r1 s1=>tCAof.at h2 s1 fun vs H2 G2 g2 r2 _=>h (v::vs) H2 G2 (g1.trans g2) ⟨v,vs,rfl,r1.grow g2,r2⟩
def cap6:Nat:=1000000
theorem Yc5{n:Nat}(h:n<=cap6):n<=sizeLine:=qy h (by rw[sizeLine_eq];decide)
def dTup(ga:Ro->Option (List D)):Ro->Option D:=fun ρ=>(ga ρ).bind fun l=>if l.length<=cap6 then some (.tup l)else none
theorem Yyc{x1}(h:MA X es ga):ME X (.Tuple es x1 pos) (dTup ga):=PE.imp (Yxk h) fun σ H Q hx_=>by
 obtain⟨ρ,d,H0,G0,G,e,s,h⟩:=hx_
 unfold dTup at e
 obtain⟨l,h1,e⟩:=qa e
 split at e
 ·cases e
  refine tAof.at h1 s fun vs H1 G1 g1 r1 s1=>⟨by rw[r1.length];exact Yc5 (by assumption),fun p hp=>?_⟩
  refine h _ _ _ (g1.trans (.new s1.seen hp (.tup vs))) ?_
  rw[Rp]
  exact⟨p,vs,rfl,Yo,r1.mono (Gr.new s1.seen hp (.tup vs)).g⟩
 ·cases e
def dLst(ga:Ro->Option (List D)):Ro->Option (List D):=fun ρ=>(ga ρ).bind fun l=>if l.length<=cap6 then some l else none
theorem Yyd(h:MA X es ga):MF X (.List es pos) (dLst ga):=PE.imp (Yid h) fun σ H Q hx_=>by
 obtain⟨ρ,d,H0,G0,G,e,s,h⟩:=hx_
 unfold dLst at e
 obtain⟨l,h1,e⟩:=qa e
 split at e
 ·cases e
  refine tAof.at h1 s fun vs H1 G1 g1 r1 s1=>⟨by rw[r1.length];exact Yc5 (by assumption),fun p hp=>?_⟩
  exact h p vs _ G1 (g1.trans (.hid s1.seen hp (.lst vs))) (g1.h.free hp) (s1.seen.free hp) Yo r1
 ·cases e
def cC(ga:Ro->Option (List D))(g:List D->Option D):Ro->Option D:=fun ρ=>(ga ρ).bind g
def cF(ga:Ro->Option (List D))(g:List D->Option (List D)):Ro->Option (List D):=fun ρ=>(ga ρ).bind g
theorem Ytn{r:List V->Hp->VK->Prop}{g:List D->Option D}(hr:SemC K r g){σ:L2.St}{H:Hp}{Q:VK}(h:tOf K (cC ga g) σ H Q):tCB r (tCAof K ga) σ H Q:=by
 obtain⟨ρ,d,H0,G0,G,e,s,h⟩:=h
 unfold cC at e
 obtain⟨l,h1,h2⟩:=qa e
 exact tCAof.at h1 s fun vs H1 G1 g1 r1 s1=>hr vs l d H1 G1 Q h2 s1.seen r1 fun v H' G' g2 r2=>h v H' G' (g1.trans g2) r2
theorem Yp3{r:List V->Hp->VK->Prop}{g:List D->Option (List D)}(hr:SemF K r g){σ:L2.St}{H:Hp}{Q:VK}(h:tFof K (cF ga g) σ H Q):tCB r (tCAof K ga) σ H Q:=by
 obtain⟨ρ,d,H0,G0,G,e,s,h⟩:=h
 unfold cF at e
 obtain⟨l,h1,h2⟩:=qa e
 exact tCAof.at h1 s fun vs H1 G1 g1 r1 s1=>hr vs l d H1 G1 Q h2 s1.seen r1 fun p xs H' G' g2 hp gp e' r2=>h p xs H' G' (g1.trans g2) (g1.h.free hp) gp e' r2
section
variable {x:Str} {p:Pos} {id T:String} {r:List V->Hp->VK->Prop} {g:List D->Option D} {gf:List D->Option (List D)}
theorem Ysh(hc:Ycw X (.builtin id) r)(hr:SemC X.K r g)(hg:Gl X x)(hm:X.mg x=none)(hv:bootBuiltins x=some (.builtin id))(ha:MCA X (e::es) ga)(hn:x≠"__name__":=by decide)(hdb:(x==("__debug__":Str))=false:=by decide)
 (he:starEach (e::es) X.env=(false,eval e X.env)::starEach es X.env:=by rfl) (hpl:(backTo pos (starEach es X.env)).any (·.1)=false:=by rfl):ME X (.Call (.Name x p) (e::es) [] pos) (cC ga g):=
 PE.imp (Ygd hc hg hm hv ha hn hdb he hpl) fun _ _ _ h=>Ytn hr h
theorem Ysi(hc:Ycw X (.builtin id) r)(hr:SemF X.K r gf)(hg:Gl X x)(hm:X.mg x=none)(hv:bootBuiltins x=some (.builtin id))(ha:MCA X (e::es) ga)(hn:x≠"__name__":=by decide)(hdb:(x==("__debug__":Str))=false:=by decide)
 (he:starEach (e::es) X.env=(false,eval e X.env)::starEach es X.env:=by rfl) (hpl:(backTo pos (starEach es X.env)).any (·.1)=false:=by rfl):MF X (.Call (.Name x p) (e::es) [] pos) (cF ga gf):=
 PE.imp (Ygd hc hg hm hv ha hn hdb he hpl) fun _ _ _ h=>Yp3 hr h
theorem Yp4(hc:Ycw X (.type T) r)(hr:SemC X.K r g)(hg:Gl X x)(hm:X.mg x=none)(hv:bootBuiltins x=some (.type T))(ha:MCA X (e::es) ga)(hn:x≠"__name__":=by decide)(hdb:(x==("__debug__":Str))=false:=by decide)
 (he:starEach (e::es) X.env=(false,eval e X.env)::starEach es X.env:=by rfl) (hpl:(backTo pos (starEach es X.env)).any (·.1)=false:=by rfl):ME X (.Call (.Name x p) (e::es) [] pos) (cC ga g):=
 PE.imp (Ygo hc hg hm hv ha hn hdb he hpl) fun _ _ _ h=>Ytn hr h
theorem Yp5(hc:Ycw X (.type T) r)(hr:SemF X.K r gf)(hg:Gl X x)(hm:X.mg x=none)(hv:bootBuiltins x=some (.type T))(ha:MCA X (e::es) ga)(hn:x≠"__name__":=by decide)(hdb:(x==("__debug__":Str))=false:=by decide)
 (he:starEach (e::es) X.env=(false,eval e X.env)::starEach es X.env:=by rfl) (hpl:(backTo pos (starEach es X.env)).any (·.1)=false:=by rfl):MF X (.Call (.Name x p) (e::es) [] pos) (cF ga gf):=
 PE.imp (Ygo hc hg hm hv ha hn hdb he hpl) fun _ _ _ h=>Yp3 hr h
end
def spOf(K:W.Frag)(n:Nat)(fn:List D->Option D):Sp:=fun vs H Q _=>vs.length=n/\∃ds d G,Same G H/\RpL K G ds vs/\fn ds=some d/\∀v H' G',Gr H G H' G'->Rp K G' d v->Q v H'
theorem Yvh{k n:Nat}{fa':Addr}{fd':FuncData}{ps:List Str}{x:Str}{p:Pos}{fn:List D->Option D}(F:FnOk X.prog X.w X.K X.mg X.base CX0 k fa' fd' ps (spOf X.K n fn))(hr:Room k X.A)(hg:Gl X x)(hm:X.mg x=some (.ref fa'))(hk:W.keepIn X.K (.ref fa')=true)(hb:Binds X.K fd' ps [])
 (ha:MA X (e::es) ga) (hdb:(x==("__debug__":Str))=false:=by decide) (he:starEach (e::es) X.env=(false,eval e X.env)::starEach es X.env:=by rfl) (hpl:(backTo pos (starEach es X.env)).any (·.1)=false:=by rfl)
 (hl:∀ρ l,ga ρ=some l->l.length=n):ME X (.Call (.Name x p) (e::es) [] pos) (cC ga fn):=
 PE.imp (Yut (E:=E0) F hr hg hm hk hb .nil Ypn ha hdb he hpl) fun σ H Q hx_=>by
  obtain⟨ρ,d,H0,G0,G,e,s,h⟩:=hx_
  unfold cC at e
  obtain⟨l,h1,h2⟩:=qa e
  refine tAof.at h1 s fun vs H1 G1 g1 r1 s1=>?_
  rw[List.append_nil]
  exact⟨by rw[r1.length];exact hl ρ l h1,l,d,G1,s1.seen,r1,h2,fun v H' G' g2 r2=>h v H' G' (g1.trans g2) r2⟩
theorem Ysj{ρ:Ro}{l:List D}(h:aNil ρ=some l):l.length=0:=by cases h;rfl
theorem Yfa{f:Ro->Option D}{g:Ro->Option (List D)}{n:Nat}(hg:∀ρ l,g ρ=some l->l.length=n):∀ρ l,Ye f g ρ=some l->l.length=n+1:=fun ρ l h=>by
 unfold Ye at h
 obtain⟨d,h1,e⟩:=qa h
 obtain⟨l',h2,rfl⟩:=qb e
 rw[qq,hg ρ l' h2]
def lenC:List D->Option D
 | [c]=>(Ys c).map fun l=>.int l.length
 | _=>none
theorem Yp6{G H:Hp}{c:D}{l:List D}{v:V}(h:Ys c=some l)(r:Ct K G H c v):∃p xs,v=.ref p/\(SqL K H p xs\/SqT K H p xs)/\RpL K G l xs:=by
 rcases Yab h with rfl | rfl | ⟨ns,rfl,rfl⟩
 ·rw[Ct]at r
  obtain⟨p,xs,rfl,g,rl⟩:=r
  exact⟨p,xs,rfl,.inr (.inl (.inl g.1)),rl⟩
 ·rw[Ct]at r
  obtain⟨p,xs,rfl,g,rl⟩:=r
  exact⟨p,xs,rfl,.inl (.inl g),rl⟩
 ·rw[Ct]at r
  obtain⟨p,rfl,g⟩:=r
  exact⟨p,_,rfl,.inl g,.ints ns⟩
theorem Ygt{G:Hp}{d:D}{vs:List V}(h:RpL K G [d] vs):∃v,vs=[v]/\Rp K G d v:=by
 rw[RpL]at h
 obtain⟨x,r,rfl,h1,h2⟩:=h
 rw[RpL]at h2
 subst h2
 exact⟨x,rfl,h1⟩
theorem Ydq{G H:Hp}{d:D}{vs:List V}(h:CtL K G H [d] vs):∃v,vs=[v]/\Ct K G H d v:=by
 obtain⟨x,r,rfl,h1,h2⟩:=h
 cases (show r=[] from h2)
 exact⟨x,rfl,h1⟩
theorem Yaq:SemC X.K (fun xs H Q=>∃p ys,xs=[.ref p]/\(SqL X.K H p ys\/SqT X.K H p ys)/\Q (.int ys.length) H) lenC:=by
 intro vs ds d H G Q h s r q
 match ds,h,r with
 | [c],h,r=>
   obtain⟨l,h1,rfl⟩:=qb h
   obtain⟨v,rfl,rv⟩:=Ydq r
   obtain⟨p,xs,rfl,h2,rl⟩:=Yp6 (K:=X.K) h1 rv
   exact⟨p,xs,rfl,h2,q _ H G (.refl s) (by rw[Rp,rl.length])⟩
def Yp7:List D->Option (List D)
 | [c]=>Ys c
 | _=>none
theorem Yi4:SemF X.K (fun xs H Q=>∃p ys,xs=[.ref p]/\(SqL X.K H p ys\/SqT X.K H p ys)/\∀l,H l=none->Q (.ref l) (upd H l (.lst ys))) Yp7:=by
 intro vs ds l H G Q h s r q
 match ds,h,r with
 | [c],h,r=>
   obtain⟨v,rfl,rv⟩:=Ydq r
   obtain⟨p,xs,rfl,h2,rl⟩:=Yp6 (K:=X.K) h rv
   exact⟨p,xs,rfl,h2,fun m hm=>q m xs _ G (.hid s hm _) hm (s.free hm) Yo rl⟩
def tupC:List D->Option D
 | [c]=>(Ys c).map D.tup
 | _=>none
theorem Ybt:SemC X.K (fun xs H Q=>∃p ys,xs=[.ref p]/\((SqL X.K H p ys/\∀l,H l=none->Q (.ref l) (upd H l (.tup ys)))\/(SqT X.K H p ys/\Q (.ref p) H))) tupC:=by
 intro vs ds d H G Q h s r q
 match ds,h,r with
 | [c],h,r=>
   obtain⟨l,h1,rfl⟩:=qb h
   obtain⟨v,rfl,rv⟩:=Ydq r
   rcases Yab h1 with rfl | rfl | ⟨ns,rfl,rfl⟩
   ·rw[Ct]at rv
    obtain⟨p,xs,rfl,g,rl⟩:=rv
    exact⟨p,xs,rfl,.inr ⟨.inl (.inl g.1),q _ H G (.refl s) (by rw[Rp];exact⟨p,xs,rfl,g.2,rl⟩)⟩⟩
   ·rw[Ct]at rv
    obtain⟨p,xs,rfl,g,rl⟩:=rv
    refine⟨p,xs,rfl,.inl ⟨.inl g,fun m hm=>q _ _ _ (.new s hm (.tup xs)) ?_⟩⟩
    rw[Rp]
    exact⟨m,xs,rfl,Yo,rl.mono (Gr.new s hm (.tup xs)).g⟩
   ·rw[Ct]at rv
    obtain⟨p,rfl,g⟩:=rv
    refine⟨p,_,rfl,.inl ⟨g,fun m hm=>q _ _ _ (.new s hm (.tup _)) ?_⟩⟩
    rw[Rp]
    exact⟨m,_,rfl,Yo,.ints ns⟩
def intC:List D->Option D
 | [.int i]=>some (.int i)
 | [.bl k]=>some (.int (if k then 1 else 0))
 | _=>none
theorem Yi5:SemC X.K (fun xs H Q=>(∃i,xs=[.int i]/\Q (.int i) H)\/∃k,xs=[.bl k]/\Q (.int (if k then 1 else 0)) H) intC:=by
 intro vs ds d H G Q h s r q
 match ds,h,r with
 | [.int i],h,r=>
   cases h
   obtain⟨v,rfl,rv⟩:=Ydq r
   rw[Ct]at rv
   subst rv
   exact .inl ⟨i,rfl,q _ H G (.refl s) (by rw[Rp])⟩
 | [.bl k],h,r=>
   cases h
   obtain⟨v,rfl,rv⟩:=Ydq r
   rw[Ct]at rv
   subst rv
   exact .inr ⟨k,rfl,q _ H G (.refl s) (by rw[Rp])⟩
end
end
section
variable {K:W.Frag}
section
variable {X:Cx} {e:Expr} {f:Ro->Option D} {gl:Ro->Option (List D)} {pos pos':Pos} {st:Stmt} {sts:List Stmt} {fs gs:Ro->Option Out}
def sNil:Ro->Option Out:=fun ρ=>some (.nx ρ)
def sSeq(f g:Ro->Option Out):Ro->Option Out:=fun ρ=>(f ρ).bind fun
 | .nx ρ'=>g ρ'
 | o=>some o
theorem Yye:MB X [] sNil:=PSs.imp Ylq fun F σ H hx_=>by
 obtain⟨ρ,out,H0,G0,G,e,s,h⟩:=hx_
 cases e
 exact h σ H G s
theorem Yvi(h1:MS X st fs)(h2:MB X sts gs):MB X (st::sts) (sSeq fs gs):=PSs.imp (Ycl h1 h2) fun F σ H hx_=>by
 obtain⟨ρ,out,H0,G0,G,e,s,h⟩:=hx_
 unfold sSeq at e
 obtain⟨o,h3,e⟩:=qa e
 cases o with
 | nx ρ'=>exact⟨ρ,.nx ρ',H0,G0,G,h3,s,fun σ' H' G' s'=>⟨ρ',out,H0,G0,G',e,s',h⟩⟩
 | rt d=>cases e;exact⟨ρ,.rt d,H0,G0,G,h3,s,h⟩
 | bk ρ'=>cases e;exact⟨ρ,.bk ρ',H0,G0,G,h3,s,h⟩
 | ct ρ'=>cases e;exact⟨ρ,.ct ρ',H0,G0,G,h3,s,h⟩
theorem Yyf(h1:MS X st fs):MB X [st] fs:=Yiq h1
def frz1(i:Nat)(ρ:Ro):Ro:=match ρ[i]? with
 | some (some (B.ow l))=>ρ.set i (some (.sh (.lst l)))
 | some (some (B.od t ks vs))=>ρ.set i (some (.sh (.dct t ks vs)))
 | _=>ρ
theorem SR.frz1{H0 G0 H G:Hp}{σ:L2.St}{ρ:Ro}(s:SR K H0 G0 σ H G ρ)(i:Nat):∃G',SR K H0 G0 σ H G' (M.frz1 i ρ):=by
 unfold M.frz1
 split
 ·rename_i l hl
  exact s.freeze hl
 ·rename_i t ks vs hl
  exact s.freezed hl
 ·exact⟨G,s⟩
def frz(is:List Nat)(ρ:Ro):Ro:=is.foldl (fun r i=>frz1 i r) ρ
theorem SR.frz{H0 G0 H:Hp}{σ:L2.St}:∀(is:List Nat) {G:Hp} {ρ:Ro},SR K H0 G0 σ H G ρ->∃G',SR K H0 G0 σ H G' (M.frz is ρ)
 | [],G,_,s=>⟨G,s⟩
 | i::is,_,ρ,s=>by
   obtain⟨G',s'⟩:=s.frz1 i
   exact SR.frz is s'
theorem SR.frz1T{H0 G0 H G:Hp}{σ:L2.St}{ρ:Ro}(s:SR K H0 G0 σ H G ρ)(i:Nat):∃G',SR K H0 G0 σ H G' (M.frz1 i ρ)/\∀b ys,G' b=some (.tup ys)->G b=some (.tup ys):=by
 unfold M.frz1
 split
 ·rename_i l hl
  exact s.freezeT hl
 ·rename_i t ks vs hl
  exact s.freezedT hl
 ·exact⟨G,s,fun _ _ h=>h⟩
theorem SR.frzT{H0 G0 H:Hp}{σ:L2.St}:∀(is:List Nat) {G:Hp} {ρ:Ro},SR K H0 G0 σ H G ρ->∃G',SR K H0 G0 σ H G' (M.frz is ρ)/\∀b ys,G' b=some (.tup ys)->G b=some (.tup ys)
 | [],G,_,s=>⟨G,s,fun _ _ h=>h⟩
 | i::is,_,ρ,s=>by
   obtain⟨G',s',h1⟩:=s.frz1T i
   obtain⟨G2,s2,h2⟩:=SR.frzT is s'
   exact⟨G2,s2,fun b ys e=>h1 b ys (h2 b ys e)⟩
def wF(is:List Nat)(f:Ro->Option Out):Ro->Option Out:=fun ρ=>f (frz is ρ)
theorem Yyg(is:List Nat)(h:MS X st fs):MS X st (wF is fs):=PS.imp h fun F σ H hx_=>by
 obtain⟨ρ,out,H0,G0,G,e,s,h⟩:=hx_
 obtain⟨G',s'⟩:=SR.frz is s
 exact⟨frz is ρ,out,H0,G0,G',e,s',h⟩
def sSet(i:Nat)(f:Ro->Option D):Ro->Option Out:=fun ρ=>(f ρ).map fun d=>.nx (ρ.set i (some (.sh d)))
def sOwn(i:Nat)(f:Ro->Option (List D)):Ro->Option Out:=fun ρ=>(f ρ).map fun l=>.nx (ρ.set i (some (.ow l)))
theorem Yyh{i:Nat}{F:Ends}{σ:L2.St}{H:Hp}(h:sOf K (sSet i f) F σ H):tAsg (tOf K f) (Yn3 i) F σ H:=by
 obtain⟨ρ,out,H0,G0,G,e,s,h⟩:=h
 obtain⟨d,h1,rfl⟩:=qb e
 exact tOf.at h1 s fun v H1 G1 g1 r1 s1=>h _ H1 G1 (s1.set_sh i r1)
theorem Yyi{i:Nat}{F:Ends}{σ:L2.St}{H:Hp}(h:sOf K (sOwn i gl) F σ H):tAsg (tFof K gl) (Yn3 i) F σ H:=by
 obtain⟨ρ,out,H0,G0,G,e,s,h⟩:=h
 obtain⟨l,h1,rfl⟩:=qb e
 exact⟨ρ,l,H0,G0,G,h1,s,fun p xs H' G' g hp gp e' r=>h _ H' G' (s.set_ow i g hp gp e' r)⟩
theorem Yyj(i:Nat){x:Str}(hN:X.N.Nodup)(he:ME X e f)(hi:X.N[i]?=some x:=by rfl)(hx:Loc X.env.scope x:=by first | exact Or.inl rfl | exact Or.inr rfl)(hs:swapsWith e (some (.Name x pos')) pos.line X.env=pure false:=by rfl)
 (hf:X.fn x=true\/X.env.scope.names.lookup x=some .local:=by first | exact .inl rfl | exact .inr rfl):MS X (.Assign [.Name x pos'] e pos) (sSet i f):=PS.imp (Yh9 hN hi hx he hs hf) fun _ _ _ h=>Yyh h
theorem Yyk(i:Nat){x:Str}(hN:X.N.Nodup)(he:MF X e gl)(hi:X.N[i]?=some x:=by rfl)(hx:Loc X.env.scope x:=by first | exact Or.inl rfl | exact Or.inr rfl)(hs:swapsWith e (some (.Name x pos')) pos.line X.env=pure false:=by rfl)
 (hf:X.fn x=true\/X.env.scope.names.lookup x=some .local:=by first | exact .inl rfl | exact .inr rfl):MS X (.Assign [.Name x pos'] e pos) (sOwn i gl):=PS.imp (Yh9 hN hi hx he hs hf) fun _ _ _ h=>Yyi h
def sRet(f:Ro->Option D):Ro->Option Out:=fun ρ=>(f ρ).map .rt
theorem Yyl(he:ME X e f):MS X (.Return (some e) pos) (sRet f):=PS.imp (Yo6 he) fun F σ H hx_=>by
 obtain⟨ρ,out,H0,G0,G,e,s,h⟩:=hx_
 obtain⟨d,h1,rfl⟩:=qb e
 exact tOf.at h1 s fun v H1 G1 g1 r1 s1=>h v H1 G1 s1.gr r1
def sIf(c:Ro->Option Bool)(f g:Ro->Option Out):Ro->Option Out:=fun ρ=>(c ρ).bind fun k=>if k=true then f ρ else g ρ
theorem y0p{c:Expr}{a b:List Stmt}{fc:Ro->Option Bool}(hc:MT X c fc)(ha:MB X a fs)(hb:MB X b gs):MS X (.If c a b pos) (sIf fc fs gs):=PS.imp (Yul hc ha hb) fun F σ H hx_=>by
 obtain⟨ρ,out,H0,G0,G,e,s,h⟩:=hx_
 unfold sIf at e
 obtain⟨k,h1,e⟩:=qa e
 refine tTof.at h1 s fun H1 G1 g1 s1=>?_
 cases k with
 | true=>
   rw[if_pos rfl]at e ⊢
   exact⟨ρ,out,H0,G0,G1,e,s1,h⟩
 | false=>
   rw[if_neg qh]at e ⊢
   exact⟨ρ,out,H0,G0,G1,e,s1,h⟩
def sMut(i:Nat)(f:Ro->Option D)(g:List D->D->Option (List D)):Ro->Option Out:=fun ρ=>(getO i ρ).bind fun l=>(f ρ).bind fun d=>(g l d).map fun l'=>.nx (ρ.set i (some (.ow l')))
theorem Ynd{H0 G0 H G:Hp}{σ:L2.St}{ρ:Ro}{i:Nat}{l:List D}(s:SR K H0 G0 σ H G ρ)(h:getO i ρ=some l):∃a xs,σ[i]?=some (some (V.ref a))/\H a=some (.lst xs)/\RpL K G l xs/\G a=none:=by
 obtain⟨a,xs,h1,h2,h3,h4,h5⟩:=s.ow i l (Ydp h)
 exact⟨a,xs,h1,h4,h5,h2⟩
def appD(l:List D)(d:D):Option (List D):=if l.length < cap6 then some (l++[d])else none
theorem Yp8(i:Nat){x:Str}{p2 apos cpos:Pos}(he:ME X e f)(hN:X.N[i]?=some x:=by rfl)(hv:Vis X.env.scope x:=by first | exact Or.inl rfl | exact Or.inr (Or.inl rfl) | exact Or.inr (Or.inr rfl))
 (hd:(x==("__debug__":Str))=false:=by decide) (hcd:(x==("__classdict__":Str))=false:=by decide) (hse:swapsWith (.Call (.Attribute (.Name x p2) "append" apos) [e] [] cpos) none pos.line X.env=pure false:=by rfl)
 (hs:starEach [e] X.env=[(false,eval e X.env)]:=by rfl)
 (hfew:((backTo cpos (starEach [e] X.env)).all (fun x=>!x.1)&&(backToKw cpos (keywordEach [] X.env)).all (fun x=>x.1.isSome)&&decide ([e].length+([]:List Keyword).length+(if ([]:List Keyword).isEmpty then 0 else 1) < 30))=true:=by rfl)
 (hline:(apos.endLine==cpos.line)=true:=by rfl) (hbase:attributeBase (.Name x p2) "append" X.env (eval (.Name x p2) X.env)=eval (.Name x p2) X.env:=by rfl) :
 MS X (.Expr (.Call (.Attribute (.Name x p2) "append" apos) [e] [] cpos) pos) (sMut i f appD):=
 PS.imp (Yeq (Ypk PySem.F.plainAttrs_list PySem.F.slot_list_append PySem.F.type_list_append Ydn (Ye2 hN hv hd hcd) (Yas he Ybz hs) hbase hfew hline hs rfl) hse) fun F σ H hx_=>by
  obtain⟨ρ,out,H0,G0,G,e,s,h⟩:=hx_
  unfold sMut at e
  obtain⟨l,h1,e⟩:=qa e
  obtain⟨d,h2,e⟩:=qa e
  obtain⟨l',h3,rfl⟩:=qb e
  unfold appD at h3
  split at h3
  ·rename_i hl
   cases h3
   obtain⟨a,xs,ha,hH,hr,hG⟩:=Ynd s h1
   refine⟨_,ha,.inl ⟨rfl,xs,SqL.of hH⟩,tOf.at h2 s fun v H1 G1 g1 r1 s1=>?_⟩
   refine⟨a,xs,v,rfl,rfl,g1.h _ _ hH,?_,h σ _ G1 (s1.mut (Ydp h1) ha ((hr.mono g1.g).append (.one r1)))⟩
   rw[hr.length]
   exact Qc hl (Yc5 (qs _))
  ·cases h3
theorem Ysk{J:It}{G':Hp}{ds:List D}(hz:ds.length<=sizeLine)(h:∀(i:Nat) H2 G2,Same G' G2->Same G2 H2->(∀d,ds[i]?=some d->J.go i H2/\∀y H3,J.yld i H2 y H3->H3=H2/\Rp K G2 d y)/\(ds.length<=i->J.stop i H2)):Wk K J G' ds:=
 ⟨hz,fun i H2 G2 s1 s2=>⟨fun d hd=>⟨((h i H2 G2 s1 s2).1 d hd).1,fun y H3 q=>by
  obtain⟨rfl,r⟩:=((h i H2 G2 s1 s2).1 d hd).2 y H3 q
  exact⟨G2,.refl s2,r⟩⟩,(h i H2 G2 s1 s2).2⟩⟩
variable {tg:Expr}
def iSeq(K:W.Frag)(tl:TE):TI:=fun σ H R=>tl σ H fun x H1=>∃a xs,x=.ref a/\((SqL K H1 a xs/\(xs.length<=sizeLine->R (Itl K a) H1))\/(SqT K H1 a xs/\(xs.length<=sizeLine->R (Itt K a) H1)))
theorem Yym{l:Expr}{tl:TE}(hl:PE X l tl):PI X tg l (iSeq X.K tl):=by
 intro pins s σ H R I h
 refine thn (hl pins s σ H _ I h) fun v s1 hx_=>?_
 obtain⟨x,H1,I1,r1,q1⟩:=hx_
 obtain⟨a,xs,e,q1⟩:=q1
 subst e
 cases r1
 rcases q1 with⟨hq,q⟩ | ⟨hq,q⟩
 ·obtain⟨its,rv,p,hz⟩:=I1.list hq
  refine wpAny_pyIter_list p.isList ?_
  refine⟨s1.heap.objs.size,[s1.heap.objs.size],_,_,H1,rfl,I1.kept (t':=s1.toks) fun b o e=>qd _ e,Yo7 a _,⟨_,qo _ rfl,rfl,rfl⟩,fun b hb=>?_,q hz⟩
  have e:b=s1.heap.objs.size:=by simpa using hb
  subst e
  exact I1.fpOk (qs _) (I1.hok.fresh (qs _))
 ·obtain⟨its,rv,p,hz⟩:=I1.tuple hq
  refine wpAny_pyIter_tuple (show s1.heap.IsTuple a its.toArray from p) ?_
  refine⟨s1.heap.objs.size,[s1.heap.objs.size],_,_,H1,rfl,I1.kept (t':=s1.toks) fun b o e=>qd _ e,Yn4 a _,⟨_,qo _ rfl,rfl,rfl⟩,fun b hb=>?_,q hz⟩
  have e:b=s1.heap.objs.size:=by simpa using hb
  subst e
  exact I1.fpOk (qs _) (I1.hok.fresh (qs _))
theorem Yyn{l:Expr}(hl:ME X l f):MI X tg l (b1 f Ys):=PI.imp (Yym hl) fun σ H R hx_=>by
 obtain⟨ρ,ds,H0,G0,G,e,s,h⟩:=hx_
 obtain⟨c,h1,h2⟩:=Ybs e
 refine tOf.at h1 s fun v H1 G1 g1 r1 s1=>?_
 rcases Yab h2 with rfl | rfl | ⟨ns,rfl,rfl⟩
 ·rw[Rp]at r1
  obtain⟨p,xs,rfl,g,rl⟩:=r1
  refine⟨p,xs,rfl,.inr ⟨.inl (.inl (s1.seen _ _ g)),fun hz=>h _ H1 G1 g1 (Ysk (by rw[<-rl.length];exact hz) fun i H2 G2 e1 e2=>⟨fun d hd=>?_,fun hi=>⟨xs,.inl (.inl (e2 _ _ (e1 _ _ g))),by rw[rl.length];exact hi⟩⟩)⟩⟩
  obtain⟨x,hx,rx⟩:=rl.get hd
  refine⟨⟨xs,x,.inl (.inl (e2 _ _ (e1 _ _ g))),hx⟩,fun y H3 q=>⟨q.1,?_⟩⟩
  have:=q.2 xs (.inl (.inl (e2 _ _ (e1 _ _ g))))
  rw[hx]at this
  cases this
  exact rx.mono e1
 ·rw[Rp]at r1
  obtain⟨p,xs,rfl,g,rl⟩:=r1
  refine⟨p,xs,rfl,.inl ⟨.inl (Yap s1.seen g),fun hz=>h _ H1 G1 g1 (Ysk (by rw[<-rl.length];exact hz) fun i H2 G2 e1 e2=>⟨fun d hd=>?_,fun hi=>⟨xs,.inl (Yap e2 (Yap e1 g)),by rw[rl.length];exact hi⟩⟩)⟩⟩
  obtain⟨x,hx,rx⟩:=rl.get hd
  refine⟨⟨xs,x,.inl (Yap e2 (Yap e1 g)),hx⟩,fun y H3 q=>⟨q.1,?_⟩⟩
  have:=q.2 xs (.inl (Yap e2 (Yap e1 g)))
  rw[hx]at this
  cases this
  exact rx.mono e1
 ·rw[Rp]at r1
  obtain⟨p,rfl,g⟩:=r1
  have rl:RpL X.K G1 (ns.map D.int) (ns.map V.int):=.ints ns
  refine⟨p,_,rfl,.inl ⟨s1.seen.seq g,fun hz=>h _ H1 G1 g1 (Ysk (by rw[<-rl.length];exact hz) fun i H2 G2 e1 e2=>⟨fun d hd=>?_,fun hi=>⟨_,e2.seq (e1.seq g),by rw[rl.length];exact hi⟩⟩)⟩⟩
  obtain⟨x,hx,rx⟩:=rl.get hd
  refine⟨⟨_,x,e2.seq (e1.seq g),hx⟩,fun y H3 q=>⟨q.1,?_⟩⟩
  have:=q.2 _ (e2.seq (e1.seq g))
  rw[hx]at this
  cases this
  exact rx.mono e1
def rngD(a n:Int):List D:=(List.range (n - a).toNat).map fun i=>.int (a+(i:Nat))
theorem Ygu(a n:Int):(rngD a n).length=(n - a).toNat:=by simp[rngD]
theorem Yyo{a n:Int}{G':Hp}(hz:(n - a).toNat<=sizeLine):Wk K (Itr a (n - a).toNat) G' (rngD a n):=
 Ysk (by rw[Ygu];exact hz) fun i H2 G2 _ _=>⟨fun d hd=>by
  unfold rngD at hd
  rw[Qd]at hd
  obtain⟨j,h1,rfl⟩:=qb hd
  have hj:i < (n - a).toNat:=by
   have:=(qm h1).1
   simpa using this
  rw[List.getElem?_range hj]at h1
  cases h1
  exact⟨hj,fun y H3 q=>⟨q.1,by rw[Rp];exact q.2⟩⟩,fun hi=>by rw[Ygu]at hi;exact hi⟩
def rng1:List D->Option (List D)
 | [.int n]=>if decide (-(cap6:Int)<=n)&&decide (n<=cap6)then some (rngD 0 n)else none
 | _=>none
theorem Yp9{l ds:List D}(h:rng1 l=some ds):∃n:Int,l=[.int n]/\-1000000<=n/\n<=1000000/\ds=rngD 0 n:=by
 unfold rng1 at h
 split at h
 ·rename_i n
  split at h
  ·rename_i hc
   cases h
   simp only[Qg,decide_eq_true_eq]at hc
   have hcap:(cap6:Int)=1000000:=by decide
   exact⟨n,rfl,by lia,by lia,rfl⟩
  ·cases h
 ·cases h
theorem Yqa{a:Expr}{ga:Ro->Option (List D)}{p:Pos}(hg:Gl X "range")(hm:X.mg "range"=none)(ha:MA X [a] ga)(hs:starEach [a] X.env=[(false,eval a X.env)]:=by rfl):MI X tg (.Call (.Name "range" p) [a] [] pos) (cF ga rng1):=
 PI.imp (Yo8 hg hm ha hs) fun σ H R hx_=>by
  obtain⟨ρ,ds,H0,G0,G,e,s,h⟩:=hx_
  unfold cF at e
  obtain⟨l,h1,h2⟩:=qa e
  refine tAof.at h1 s fun vs H1 G1 g1 r1 s1=>?_
  obtain⟨n,rfl,c1,c2,rfl⟩:=Yp9 h2
  obtain⟨v,rfl,rv⟩:=Ygt r1
  rw[Rp]at rv
  subst rv
  refine⟨n,rfl,by lia,by lia,?_⟩
  have:=h (Itr 0 (n - 0).toNat) H1 G1 g1 (Yyo (Yc5 (by unfold cap6;lia)))
  simpa using this
def gSet(i:Nat):D->Ro->Option Ro:=fun d ρ=>some (ρ.set i (some (.sh d)))
theorem Yvj(i:Nat){x:Str}(hN:X.N.Nodup)(hi:X.N[i]?=some x:=by rfl)(hx:Loc X.env.scope x:=by first | exact Or.inl rfl | exact Or.inr rfl)(hf:X.fn x=true\/X.env.scope.names.lookup x=some .local:=by first | exact .inl rfl | exact .inr rfl):MG X (.Name x pos) (gSet i):=
 PG.imp (Ylr hN hi hx hf) fun v σ H Q hx_=>by
  obtain⟨d,ρ,ρ',H0,G0,G,e,s,r,h⟩:=hx_
  cases e
  exact h _ (s.set_sh i r)
def Ydl(i j:Nat):D->Ro->Option Ro:=fun d ρ=>match d with
 | .tup [a,b]=>some ((ρ.set i (some (.sh a))).set j (some (.sh b)))
 | _=>none
theorem Yvk(i j:Nat){x y:Str}{px py:Pos}{k:Nat}(hc:X.calm=true)(hN:X.N.Nodup)(hi:X.N[i]?=some x:=by rfl)(hj:X.N[j]?=some y:=by rfl)(hx:Loc X.env.scope x:=by first | exact Or.inl rfl | exact Or.inr rfl)(hy:Loc X.env.scope y:=by first | exact Or.inl rfl | exact Or.inr rfl)
 (hf:X.fn x=true\/X.env.scope.names.lookup x=some .local:=by first | exact .inl rfl | exact .inr rfl) (hf2:X.fn y=true\/X.env.scope.names.lookup y=some .local:=by first | exact .inl rfl | exact .inr rfl):MG X (.Tuple [.Name x px,.Name y py] k pos) (Ydl i j):=
 PG.imp (Yxa (n:=2) hc (Ymz (Ylr hN hi hx hf) (Ymz (Ylr hN hj hy hf2) Yum))) fun v σ H Q hx_=>by
  obtain⟨d,ρ,ρ',H0,G0,G,e,s,r,h⟩:=hx_
  match d,e,r with
  | .tup [a,b],e,r=>
    cases e
    rw[Rp]at r
    obtain⟨p,xs,rfl,g,rl⟩:=r
    rw[RpL]at rl
    obtain⟨u,us,rfl,ru,rl⟩:=rl
    obtain⟨w,rfl,rw'⟩:=Ygt rl
    exact⟨p,[u,w],rfl,.inl (.inl (s.seen _ _ g)),rfl,u,[w],rfl,w,[],rfl,rfl,h _ ((s.set_sh i ru).set_sh j rw')⟩
def forM(gt:D->Ro->Option Ro)(fb:Ro->Option Out):List D->Ro->Option Out
 | [],ρ=>some (.nx ρ)
 | d::ds,ρ=>(gt d ρ).bind fun ρ1=>(fb ρ1).bind fun
   | .nx ρ2=>forM gt fb ds ρ2
   | .ct ρ2=>forM gt fb ds ρ2
   | .bk ρ2=>some (.nx ρ2)
   | .rt d=>some (.rt d)
def sFor(gl:Ro->Option (List D))(gt:D->Ro->Option Ro)(fb:Ro->Option Out):Ro->Option Out:=fun ρ=>(gl ρ).bind fun ds=>forM gt fb ds ρ
theorem Yet{gt:D->Ro->Option Ro}{fb:Ro->Option Out}:∀(ds:List D) (ρ:Ro) (out:Out),forM gt fb ds ρ=some out->(∃ρ',out=.nx ρ')\/∃d,out=.rt d
 | [],ρ,out,h=>by cases h;exact .inl ⟨_,rfl⟩
 | d::ds,ρ,out,h=>by
   rw[forM]at h
   obtain⟨ρ1,h1,h⟩:=qa h
   obtain⟨o,h2,h⟩:=qa h
   cases o with
   | nx ρ2=>exact Yet ds ρ2 out h
   | ct ρ2=>exact Yet ds ρ2 out h
   | bk ρ2=>cases h;exact .inl ⟨_,rfl⟩
   | rt d=>cases h;exact .inr ⟨_,rfl⟩
theorem Yyp{iter:Expr}{body:List Stmt}{gt:D->Ro->Option Ro}(hp:PassesOwn (model X.prog X.w) X.A X.env X.xe)(hc:X.calm=true)(hi:MI X tg iter gl)(hg:MG X tg gt)(hb:MB X body fs)
 (hs:∀x,foldedSetIterable iter X.env x=pure x:=by intro _;rfl):MS X (.For tg iter body [] pos) (sFor gl gt fs):=
 PS.imp (Ytb hp hc hi hg hb hs) fun F σ H hx_=>by
  obtain⟨ρ,out,H0,G0,G,e,s,h⟩:=hx_
  unfold sFor at e
  obtain⟨ds,h1,h2⟩:=qa e
  refine⟨ρ,ds,H0,G0,G,h1,s,fun J H1 G1 g1 wk=>?_⟩
  obtain⟨Hb,sb,back⟩:=(s.grow g1).rebase
  have hout:=Yet ds ρ out h2
  refine⟨fun i m σ' H'=>m=ds.length - i/\i<=ds.length/\∃ρ' G',SR X.K Hb G1 σ' H' G' ρ'/\forM gt fs (ds.drop i) ρ'=some out,⟨_,rfl,Qb _,ρ,G1,sb,h2⟩,?_⟩
  rintro i m σ' H' ⟨rfl,hi,ρ',G',s',e'⟩
  have W:=wk.2 i H' G' s'.gr.g s'.seen
  by_cases hlt:i < ds.length
  ·have hd:ds[i]?=some ds[i]:=qp hlt
   obtain⟨go,yl⟩:=W.1 _ hd
   rw[List.drop_eq_getElem_cons hlt,forM]at e'
   obtain⟨ρ1,e1,e'⟩:=qa e'
   obtain⟨o,e2,e'⟩:=qa e'
   refine .inr ⟨go,fun σ' H'=>i+1<=ds.length/\∃ρ' G',SR X.K Hb G1 σ' H' G' ρ'/\forM gt fs (ds.drop (i+1)) ρ'=some out,fun σ2 H2 q=>⟨ds.length - (i+1),by lia,rfl,q.1,q.2⟩,fun x H2 y=>?_⟩
   obtain⟨G2,g2,r2⟩:=yl x H2 y
   refine⟨_,ρ',ρ1,Hb,G1,G2,e1,s'.grow g2,r2,fun σ3 s3=>?_⟩
   refine⟨ρ1,o,Hb,G1,G2,e2,s3,?_⟩
   cases o with
   | nx ρ2=>exact fun σ4 H4 G4 s4=>⟨hlt,ρ2,G4,s4,e'⟩
   | ct ρ2=>exact fun σ4 H4 G4 s4=>⟨hlt,ρ2,G4,s4,e'⟩
   | bk ρ2=>
     cases e'
     exact fun σ4 H4 G4 s4=>h σ4 H4 G4 (back _ _ _ _ s4)
   | rt d=>
     cases e'
     refine fun v H4 G4 g4 r4=>h v H4 G4 ?_ r4
     have:=(back [] H4 G4 [] (SR.mkSh g4 rfl (fun i d e=>(by simp at e)) (fun i l e=>(by simp at e)) (fun i t ks vs e=>(by simp at e)))).gr
     exact this
  ·have ei:i=ds.length:=by lia
   subst ei
   rw[List.drop_length,forM]at e'
   cases e'
   exact .inl ⟨W.2 (qs _),h σ' H' G' (back _ _ _ _ s')⟩
def capR(src:List (Option Nat))(ρ:Ro):Ro:=src.map fun o=>o.bind fun j=>match ρ[j]? with
 | some (some (B.sh d))=>some (.sh d)
 | _=>none
theorem SR.cap{H0 G0 H G:Hp}{σ:L2.St}{ρ:Ro}(s:SR K H0 G0 σ H G ρ)(src:List (Option Nat)):SR K H G (capσ src σ) H G (capR src ρ):=by
 have noow:∀(i:Nat) l,(capR src ρ)[i]?≠some (some (B.ow l)):=fun i l h=>by
  unfold capR at h
  rw[Qd]at h
  obtain⟨o,h1,h2⟩:=qb h
  obtain⟨j,rfl,h3⟩:=qa h2
  split at h3<;>cases h3
 have nood:∀(i:Nat) t ks vs,(capR src ρ)[i]?≠some (some (B.od t ks vs)):=fun i t ks vs h=>by
  unfold capR at h
  rw[Qd]at h
  obtain⟨o,h1,h2⟩:=qb h
  obtain⟨j,rfl,h3⟩:=qa h2
  split at h3<;>cases h3
 refine SR.mkSh (.refl s.seen) (by simp[capσ,capR]) (fun i d h=>?_) noow nood
 unfold capR at h
 rw[Qd]at h
 obtain⟨o,h1,h2⟩:=qb h
 obtain⟨j,rfl,h3⟩:=qa h2
 split at h3
 ·rename_i d' hd
  cases h3
  obtain⟨v,q1,q2⟩:=s.sh j _ hd
  refine⟨v,?_,q2⟩
  unfold capσ
  rw[Qd,h1]
  show some ((σ[j]?).join)=some (some v)
  rw[q1]
  rfl
 ·cases h3
def Yeu(gt:D->Ro->Option Ro)(fc:Ro->Option Bool)(fe:Ro->Option D)(ρ:Ro):List D->Option (List D)
 | []=>some []
 | d::ds=>(gt d ρ).bind fun ρ1=>(fc ρ1).bind fun k=>if k=true then (fe ρ1).bind fun v=>(Yeu gt fc fe ρ ds).map (v::·)else Yeu gt fc fe ρ ds
def Yb2(gl:Ro->Option (List D))(src:List (Option Nat))(gt:D->Ro->Option Ro)(fc:Ro->Option Bool)(fe:Ro->Option D):Ro->Option (List D):=fun ρ=>(gl ρ).bind fun ds=>Yeu gt fc fe (capR src ρ) ds
def tY:Ro->Option Bool:=fun _=>some true
theorem Yvl{σ:L2.St}{H:Hp}{Q:Bool->Hp->Prop}(h:tTof K tY σ H Q):tYes σ H Q:=by
 obtain⟨ρ,k,H0,G0,G,e,s,h⟩:=h
 cases e
 exact h H G (.refl s.seen)
theorem Yyq:PIfs X [] (tTof X.K tY):=fun pins s σ H Q I h=>Yu0 pins s σ H Q I (Yvl h)
theorem Ybd{src:List (Option Nat)}{i:Nat}(h:src[i]?=some none):∀ρ d ρ1,gSet i d (capR src ρ)=some ρ1->Le (capR src ρ) ρ1:=fun ρ d ρ1 e=>by
 cases e
 refine⟨by simp,fun j b hb=>?_⟩
 by_cases hj:j=i
 ·subst hj
  unfold capR at hb
  rw[Qd,h]at hb
  cases hb
 ·rw[Qa (Ne.symm hj)];exact hb
theorem Yne{src:List (Option Nat)}{i k:Nat}(h:src[i]?=some none)(h':src[k]?=some none):∀ρ d ρ1,Ydl i k d (capR src ρ)=some ρ1->Le (capR src ρ) ρ1:=fun ρ d ρ1 e=>by
 unfold Ydl at e
 split at e
 ·cases e
  refine⟨by simp,fun j b hb=>?_⟩
  have ne:∀n,src[n]?=some none->j≠n:=fun n hn z=>by
   subst z
   unfold capR at hb
   rw[Qd,hn]at hb
   cases hb
  rw[Qa (Ne.symm (ne k h')),Qa (Ne.symm (ne i h))];exact hb
 ·cases e
theorem Yqb{src:List (Option Nat)}{gt:D->Ro->Option Ro}{fc:Ro->Option Bool}{fe:Ro->Option D}(hle:∀ρ d ρ1,gt d (capR src ρ)=some ρ1->Le (capR src ρ) ρ1){σ:L2.St}{H:Hp}{Q:VK}
 (h:tFof K (Yb2 gl src gt fc fe) σ H Q):tLC (tIof K gl) src (gOf K gt) (tTof K fc) (tOf K fe) σ H Q:=by
 obtain⟨ρ,l,H0,G0,G,e,s,h⟩:=h
 unfold Yb2 at e
 obtain⟨ds,h1,h2⟩:=qa e
 refine⟨ρ,ds,H0,G0,G,h1,s,fun J H1 G1 g1 wk p hp=>?_⟩
 have s1:=s.grow g1
 have sc:=s1.cap src
 have gp:G1 p=none:=s1.seen.free hp
 refine⟨fun i m σ' H'=>m=ds.length - i/\i<=ds.length/\∃G' done xs rest,SR K H1 G1 σ' H' G' (capR src ρ)/\H' p=some (.lst xs)/\G' p=none/\RpL K G' done xs/\xs.length<=i/\Yeu gt fc fe (capR src ρ) (ds.drop i)=some rest/\done++rest=l,
  ⟨_,rfl,Qb _,G1,[],[],l,sc.grow (Gr.hid s1.seen hp _),Yo,gp,.nil,Qb _,h2,rfl⟩,?_⟩
 rintro i m σ' H' ⟨rfl,hi,G',done,xs,rest,s',hx,gx,rx,hl,e',hd⟩
 have W:=wk.2 i H' G' s'.gr.g s'.seen
 by_cases hlt:i < ds.length
 ·have hdi:ds[i]?=some ds[i]:=qp hlt
  obtain⟨go,yl⟩:=W.1 _ hdi
  rw[List.drop_eq_getElem_cons hlt,Yeu]at e'
  obtain⟨ρ1,e1,e'⟩:=qa e'
  obtain⟨k,e2,e'⟩:=qa e'
  refine .inr ⟨go,fun x H2 y=>?_⟩
  obtain⟨G2,g2,r2⟩:=yl x H2 y
  have keep:∀{Ha Ga Hb Gb:Hp},Gr Ha Ga Hb Gb->Ha p=some (.lst xs)->Ga p=none->Hb p=some (.lst xs)/\Gb p=none:=fun {Ha Ga Hb Gb} g e1 e2=>by
   refine⟨g.h _ _ e1,?_⟩
   cases q:Gb p with
   | none=>rfl
   | some o=>
     have:=g.n p e2 (by rw[q];exact fun z=>nomatch z)
     rw[e1]at this
     cases this
  obtain⟨hx2,gx2⟩:=keep g2 hx gx
  refine⟨_,capR src ρ,ρ1,H1,G1,G2,e1,s'.grow g2,r2,fun σ3 s3=>?_⟩
  refine tTof.at e2 s3 fun H4 G4 g4 s4=>?_
  obtain⟨hx4,gx4⟩:=keep g4 hx2 gx2
  have le:=hle ρ _ ρ1 e1
  cases k with
  | false=>
    rw[if_neg qh]at e' ⊢
    exact⟨ds.length - (i+1),by lia,rfl,hlt,G4,done,xs,rest,s4.le le,hx4,gx4,(rx.mono g2.g).mono g4.g,by lia,e',hd⟩
  | true=>
    rw[if_pos rfl]at e' ⊢
    obtain⟨v,e3,e'⟩:=qa e'
    obtain⟨rest',e4,rfl⟩:=qb e'
    refine tOf.at e3 s4 fun w H5 G5 g5 r5 s5=>?_
    obtain⟨hx5,gx5⟩:=keep g5 hx4 gx4
    have hz:=wk.1
    refine⟨xs,hx5,by lia,ds.length - (i+1),by lia,rfl,hlt,G5,done++[v],xs++[w],rest',?_,Yo,gx5,(((rx.mono g2.g).mono g4.g).mono g5.g).append (.one r5),by simp;lia,e4,by simpa using hd⟩
    have s6:=s5.le le
    have noow:∀(i:Nat) l,(capR src ρ)[i]?≠some (some (B.ow l)):=fun i l h=>by
     unfold capR at h
     rw[Qd]at h
     obtain⟨o,h1,h2⟩:=qb h
     obtain⟨j,rfl,h3⟩:=qa h2
     split at h3<;>cases h3
    have nood:∀(i:Nat) t ks vs,(capR src ρ)[i]?≠some (some (B.od t ks vs)):=fun i t ks vs h=>by
     unfold capR at h
     rw[Qd]at h
     obtain⟨o,h1,h2⟩:=qb h
     obtain⟨j,rfl,h3⟩:=qa h2
     split at h3<;>cases h3
    refine SR.mkSh ⟨fun b o q=>?_,s6.gr.g,fun b o q=>?_,s6.gr.n⟩ s6.len s6.sh noow nood
    ·rw[Yh (Yw q hp)];exact s6.gr.h b o q
    ·rw[Yh (Yw q gx5)];exact s6.gr.s b o q
 ·have ei:i=ds.length:=by lia
  subst ei
  rw[List.drop_length,Yeu]at e'
  cases e'
  rw[List.append_nil]at hd
  subst hd
  exact .inl ⟨W.2 (qs _),h p xs H' G' (g1.trans s'.gr) (g1.h.free hp) gx hx rx⟩
section
variable {elt iter:Expr} {ifs:List Expr} {scope:Scope} {N:List Str} {src:List (Option Nat)} {gt:D->Ro->Option Ro} {fc:Ro->Option Bool} {fe:Ro->Option D}
theorem Yvm(S:CompSc X.N X.env.scope N src scope)(hc:X.calm=true)(hit:MI X tg iter gl)(hg:∀cl C fp s H,MG (Yah X scope N cl C fp s H) tg gt)(hi:∀cl C fp s H,PIfs (Yah X scope N cl C fp s H) ifs (tTof X.K fc))(he:∀cl C fp s H,ME (Yah X scope N cl C fp s H) elt fe)
 (hle:∀ρ d ρ1,gt d (capR src ρ)=some ρ1->Le (capR src ρ) ρ1) (hs:∀x,foldedSetIterable iter X.env x=pure x:=by intro _;rfl):MF X (.ListComp elt [⟨tg,iter,ifs,0⟩] scope pos) (Yb2 gl src gt fc fe):=
 PE.imp (Yu2 S hc hit hg hi he hs) fun _ _ _ h=>Yqb hle h
theorem Yvn(i:Nat){y:Str}{py spos:Pos}(hN:X.N.Nodup)(S:CompSc X.N X.env.scope N src scope)(hc:X.calm=true)(hit:MI X tg iter gl)(hg:∀cl C fp s H,MG (Yah X scope N cl C fp s H) tg gt)(hi:∀cl C fp s H,PIfs (Yah X scope N cl C fp s H) ifs (tTof X.K fc))(he:∀cl C fp s H,ME (Yah X scope N cl C fp s H) elt fe)
 (hle:∀ρ d ρ1,gt d (capR src ρ)=some ρ1->Le (capR src ρ) ρ1) (hsw:swapsWith (.ListComp elt [⟨tg,iter,ifs,0⟩] scope pos) (some (.Name y py)) spos.line X.env=pure true:=by rfl) (hy:X.N[i]?=some y:=by rfl) (hx:Loc X.env.scope y:=by first | exact Or.inl rfl | exact Or.inr rfl)
 (hf:X.fn y=true\/X.env.scope.names.lookup y=some .local:=by first | exact .inl rfl | exact .inr rfl) (hs:∀x,foldedSetIterable iter X.env x=pure x:=by intro _;rfl):MS X (.Assign [.Name y py] (.ListComp elt [⟨tg,iter,ifs,0⟩] scope pos) spos) (sOwn i (Yb2 gl src gt fc fe)):=
 PS.imp (Yu3 S hc hit hg hi he hN hy hx hsw hf hs) fun F σ H h=>by
  obtain⟨ρ,out,H0,G0,G,e,s,h⟩:=h
  obtain⟨l,h1,rfl⟩:=qb e
  exact Yqb hle ⟨ρ,l,H0,G0,G,h1,s,fun p xs H' G' g hp gp e' r=>h _ H' G' (s.set_ow i g hp gp e' r)⟩
end
def Yv(n:Nat)(ds:List D):Ro:=ds.map (fun d=>some (.sh d))++List.replicate (n - ds.length) none
def runB(k n:Nat)(fb:Ro->Option Out)(ds:List D):Option D:=if ds.length=k then (fb (Yv n ds)).bind fun
 | .rt d=>some d
 | .nx _=>some .non
 | _=>none
 else none
theorem SR.start{H G:Hp}{ds:List D}{vs:List V}{N:List Str}(s:Same G H)(r:RpL K G ds vs):SR K H G (start N vs) H G (Yv N.length ds):=by
 have hl:=r.length
 have noow:∀(i:Nat) l,(Yv N.length ds)[i]?≠some (some (B.ow l)):=fun i l h=>by
  unfold Yv at h
  rw[List.getElem?_append]at h
  split at h
  ·rw[Qd]at h
   obtain⟨d,_,h2⟩:=qb h
   cases h2
  ·rw[List.getElem?_replicate]at h
   split at h<;>cases h
 have nood:∀(i:Nat) t ks vs,(Yv N.length ds)[i]?≠some (some (B.od t ks vs)):=fun i t ks vs h=>by
  unfold Yv at h
  rw[List.getElem?_append]at h
  split at h
  ·rw[Qd]at h
   obtain⟨d,_,h2⟩:=qb h
   cases h2
  ·rw[List.getElem?_replicate]at h
   split at h<;>cases h
 refine SR.mkSh (.refl s) (by simp[L2.start,Yv,hl]) (fun i d h=>?_) noow nood
 unfold Yv at h
 rw[List.getElem?_append]at h
 split at h
 ·rename_i hi
  rw[Qd]at h
  obtain⟨d',h1,h2⟩:=qb h
  cases h2
  obtain⟨v,h3,h4⟩:=r.get h1
  refine⟨v,?_,h4⟩
  unfold L2.start
  rw[List.getElem?_append_left (by rw[qe,hl];simpa using hi),Qd,h3]
  rfl
 ·rw[List.getElem?_replicate]at h
  split at h<;>cases h
section
variable {P:Program} {w:World} {mg:Str->Option Value} {base:Heap}
theorem Yqc{x qual:Str}{st:Stmt}{f:Addr}{fd:FuncData}{N ps:List Str}{k n m:Nat}{fb:Ro->Option Out}(F:Fun K x qual st f fd)(S:FnScope N ps (defScope st))(hn:N.length=n)(hm:ps.length=m)
 (hb:∀(cdv:Value) (A:Around) (outer:List Env) (s:Shared) (H:Hp) (E:XK),Room k (A.deeper (envOfC qual (defScope st) s.heap.objs.size f cdv))->MB (cxOf CX0 P w K mg base N qual (defScope st) f cdv A outer s H E).nox (defBody st) fb) :
 FnOk P w K mg base CX0 (k+1) f fd ps (spOf K m (runB m n fb)):=by
 refine F.ok S (fun vs H Q E h=>by rw[h.1,hm]) fun cdv A outer s H vs Q E hr h=>?_
 obtain⟨hl,ds,d,G,sm,r,e,q⟩:=h
 refine⟨_,hb cdv A outer s H E hr,?_⟩
 unfold runB at e
 split at e
 ·rename_i hds
  obtain⟨o,h1,h2⟩:=qa e
  refine⟨Yv n ds,o,H,G,G,h1,by rw[<-hn];exact SR.start sm r,?_⟩
  cases o with
  | rt d'=>cases h2;exact fun v H' G' g r'=>q v H' G' g r'
  | nx ρ=>cases h2;exact fun σ' H' G' s'=>q .non H' G' s'.gr (by rw[Rp])
  | bk ρ=>cases h2
  | ct ρ=>cases h2
 ·cases e
end
end
end
section
variable {K:W.Frag}
def Okf(P:Program)(w:World)(K:W.Frag)(mg:Str->Option Value)(base:Heap)(k n:Nat)(x:Str)(ps:List Str)(fn:List D->Option D):Prop:=
 ∃a fd,FnOk P w K mg base CX0 k a fd ps (spOf K n fn)/\Binds K fd ps []/\W.keepIn K (.ref a)=true/\mg x=some (.ref a)
theorem Yyr{P:Program}{w:World}{K:W.Frag}{mg:Str->Option Value}{base:Heap}{k n:Nat}{x q:Str}{ps:List Str}{fn:List D->Option D}{st:Stmt}{a:Addr}{fd:FuncData}(F:Fun K x q st a fd)(b:Binds K fd ps [])
 (hm:mg x=some (.ref a)) (h:FnOk P w K mg base CX0 k a fd ps (spOf K n fn)):Okf P w K mg base k n x ps fn:=⟨a,fd,h,b,F.kp,hm⟩
section
variable {X:Cx} {a b e:Expr} {es:List Expr} {fa fb:Ro->Option D} {ga:Ro->Option (List D)} {pos:Pos}
theorem Ysl{j k n:Nat}{x:Str}{p:Pos}{ps:List Str}{fn:List D->Option D}(c:Okf X.prog X.w X.K X.mg X.base j n x ps fn)(hr:Room k X.A)(hg:Gl X x)(ha:MA X (e::es) ga)(hl:∀ρ l,ga ρ=some l->l.length=n)
 (hj:j<=k:=by first | exact qs _ | lia) (hdb:(x==("__debug__":Str))=false:=by decide) (he:starEach (e::es) X.env=(false,eval e X.env)::starEach es X.env:=by rfl) (hpl:(backTo pos (starEach es X.env)).any (·.1)=false:=by rfl) :
 ME X (.Call (.Name x p) (e::es) [] pos) (cC ga fn):=by
 obtain⟨a,fd,F,hb,hk,hm⟩:=c
 exact Yvh F (hr.mono hj) hg hm hk hb ha hdb he hpl hl
theorem Yys(ha:MC X a fa)(hb:MC X b fb):ME X (.BinOp a .Add b pos) (b2 fa fb addI):=Ym8 Yxe Yu9 ha hb
def catD:D->D->Option (List D)
 | .lst a,.lst b=>if a.length+b.length<=cap6 then some (a++b)else none
 | _,_=>none
def y0q:R2:=fun x y H Q=>∃l b xs zs,x=.ref l/\y=.ref b/\Rd H l (.lst xs)/\Rd H b (.lst zs)/\xs.length+zs.length<=sizeLine/\∀p,H p=none->Q (.ref p) (upd H p (.lst (xs++zs)))
theorem Yvo:OpR X (binaryOp .Add) y0q:=by
 intro pins s σ H x y v u Q I rx ry h
 obtain⟨l,b,xs,zs,rfl,rfl,hH,hB,hz,q⟩:=h
 cases rx
 cases ry
 obtain⟨z,its,n,r,e⟩:=hH.ok I.hok
 obtain⟨z2,its2,n2,r2,e2⟩:=hB.ok I.hok
 have hl:=r.length
 have hl2:=r2.length
 refine PySem.P.add_list e e2 ?_ (by rw[qj,qj];lia)
 have ea:its.toArray++its2.toArray=(its++its2).toArray:=by simp
 rw[ea]
 exact⟨.ref _,_,I.lnew (t':=s.toks) (r.append r2) (by rw[qw];lia),rfl,q _ I.fresh⟩
theorem Yyt(ha:MC X a fa)(hb:MC X b fb):MF X (.BinOp a .Add b pos) (b2 fa fb catD):=PE.imp (Yxd Yvo ha hb) fun σ H Q hx_=>by
 obtain⟨ρ,l,H0,G0,G,e,s,h⟩:=hx_
 obtain⟨dx,dy,h1,h2,h3⟩:=Yi1 e
 refine tCof.at h1 s fun v H1 G1 g1 r1 s1=>tCof.at h2 s1 fun u H2 G2 g2 r2 s2=>?_
 unfold catD at h3
 split at h3
 ·rename_i l1 l2
  split at h3
  ·rename_i hz
   cases h3
   have r1':=r1.grow g2
   rw[Ct]at r1' r2
   obtain⟨p,xs,rfl,gp,rl⟩:=r1'
   obtain⟨q,zs,rfl,gq,rm⟩:=r2
   refine⟨p,q,xs,zs,rfl,rfl,gp,gq,by rw[rl.length,rm.length];exact Yc5 hz,fun m hm=>?_⟩
   exact h m _ _ G2 ((g1.trans g2).trans (.hid s2.seen hm _)) (g1.h.free (g2.h.free hm)) (s2.seen.free hm) Yo (rl.append rm)
  ·cases h3
 ·cases h3
def Ycz:D->String
 | .non=>"NoneType"
 | .bl _=>"bool"
 | .int _=>"int"
 | .str _=>"str"
 | .tup _=>"tuple"
 | .lst _=>"list"
 | .scr _=>"list"
 | .dct _ _ _=>"dict"
 | .obj _ _ _=>"dict"
 | .adr _=>"dict"
def Ykh:D->Bool
 | .scr _=>false
 | .dct _ _ _=>false
 | .obj _ _ _=>false
 | .adr _=>false
 | _=>true
def isiD(T:String)(d:D):Option Bool:=if Ykh d=true then some (Ycz d==T||(T=="int"&&Ycz d=="bool"))else none
theorem Yvp{G H:Hp}{d:D}{v:V}(hn:Ykh d=true)(r:Ct K G H d v):TyOf K H v (.type (Ycz d)):=by
 cases d<;>rw[Ct]at r
 ·subst r;exact .non
 ·subst r;exact .bl _
 ·subst r;exact .int _
 ·obtain⟨rfl,_⟩:=r;exact .str _
 ·obtain⟨a,xs,rfl,g,_⟩:=r;exact .tup g.1
 ·obtain⟨a,xs,rfl,g,_⟩:=r
  rcases g with g | ⟨o,g⟩
  ·exact .lst g
  ·exact .frz g
 ·cases hn
 ·cases hn
 ·cases hn
 ·cases hn
def Kit(T:String):Prop:=∀(K:W.Frag) (d:D),W.kitOne K (.type (Ycz d)) (.type T)=some (Ycz d==T||(T=="int"&&Ycz d=="bool"))
theorem Yvq:Kit "int":=fun K d=>by cases d<;>rfl
theorem Ygf:Kit "bool":=fun K d=>by cases d<;>rfl
theorem Yi6:Kit "str":=fun K d=>by cases d<;>rfl
theorem Yki:Kit "tuple":=fun K d=>by cases d<;>rfl
theorem Ysm{T:String}(hk:Kit T):Ycw X (.builtin "isinstance") (fun xs H Q=>∃x d G,xs=[x,.ty T]/\Ykh d=true/\Ct X.K G H d x/\Q (.bl (Ycz d==T||(T=="int"&&Ycz d=="bool"))) H):=by
 intro pins s σ H xs us Q I r h
 obtain⟨x,d,G,rfl,hn,rx,q⟩:=h
 obtain⟨u,w',rfl,r1,r2⟩:=Yr3 r
 cases (show w'=Value.type T from r2)
 exact Ypg I r1 (Yvp hn rx) (hk X.K d) fun tk=>⟨.bl _,H,I.tok tk,rfl,q⟩
theorem Yyu{T:String}{tn:Str}{p p2:Pos}(ha:MC X a fa)(hg:Gl X "isinstance")(hg2:Gl X tn)(hm:X.mg "isinstance"=none)(hm2:X.mg tn=none)(hv2:bootBuiltins tn=some (.type T))(hk:Kit T)(hv:bootBuiltins "isinstance"=some (.builtin "isinstance"):=by decide +kernel)
 (hn2:tn≠"__name__":=by decide) (hd2:(tn==("__debug__":Str))=false:=by decide)
 (hs:starEach [a,.Name tn p2] X.env=(false,eval a X.env)::starEach [.Name tn p2] X.env:=by rfl) (hs2:starEach [.Name tn p2] X.env=(false,eval (.Name tn p2) X.env)::starEach [] X.env:=by rfl) (hpl:(backTo pos (starEach [.Name tn p2] X.env)).any (·.1)=false:=by rfl) :
 ME X (.Call (.Name "isinstance" p) [a,.Name tn p2] [] pos) (mB (b1 fa (isiD T))):=
 PE.imp (Ygd (Ysm hk) hg hm hv (Yas ha (Yas (Yuj hg2 hm2 hv2 (v:=.ty T) rfl hn2 hd2) Ybz hs2) hs) (by decide) (by decide) hs hpl) fun σ H Q hx_=>by
  obtain⟨ρ,d,H0,G0,G,e,s,h⟩:=hx_
  obtain⟨k,ek,rfl⟩:=Ylx e
  obtain⟨x,h1,h2⟩:=Ybs ek
  unfold isiD at h2
  split at h2
  ·cases h2
   exact tCof.at h1 s fun v H1 G1 g1 r1 s1=>⟨v,x,G1,rfl,by assumption,r1,h _ H1 G1 g1 (by rw[Rp])⟩
  ·cases h2
end
end
section
variable {K:W.Frag}
def insI(a:Int):List Int->List Int
 | []=>[a]
 | b::l=>if a<=b then a::b::l else b::insI a l
def Yc0:List Int->List Int
 | []=>[]
 | a::l=>insI a (Yc0 l)
theorem Ygv(a:Int):∀l:List Int,(insI a l).Perm (a::l)
 | []=>.refl _
 | b::l=>by
   rw[insI]
   split
   ·exact .refl _
   ·exact((Ygv a l).cons b).trans (.swap a b l)
theorem Yax:∀l:List Int,(Yc0 l).Perm l
 | []=>.refl _
 | a::l=>(Ygv a _).trans ((Yax l).cons a)
theorem Ygw(a:Int):∀l:List Int,l.Pairwise (·<=·)->(insI a l).Pairwise (·<=·)
 | [],_=>by simp[insI]
 | b::l,h=>by
   rw[insI]
   split
   ·rename_i hab
    refine List.pairwise_cons.mpr ⟨fun x hx=>?_,h⟩
    rcases qr hx with rfl | hx
    ·exact hab
    ·exact Int.le_trans hab ((List.pairwise_cons.mp h).1 x hx)
   ·rename_i hab
    refine List.pairwise_cons.mpr ⟨fun x hx=>?_,Ygw a l (List.pairwise_cons.mp h).2⟩
    rcases qr ((Ygv a l).mem_iff.mp hx)with rfl | hx
    ·lia
    ·exact(List.pairwise_cons.mp h).1 x hx
theorem Yat:∀l:List Int,(Yc0 l).Pairwise (·<=·)
 | []=>.nil
 | a::l=>Ygw a _ (Yat l)
section
variable {prog:Program} {w:World} {A:Around} {E:Value->Shared->Prop} {s:Shared}
theorem Yof{l:Addr}{vs:List Value}{Q:Value->Shared->Prop}(hl:s.heap.IsList l vs.toArray)(h2:vs.length < 2)
 (h:Q (.ref (s.heap.objs.size+1)) { s with heap:=sortedAll s.heap vs vs.toArray }):wpAny (model prog w) A (call (.builtin "sorted") [.ref l]) Q E s:=by
 refine Calls.call_function_entry kind_sorted plain_sorted entry_sorted (args_sorted1 _) ?_
 unfold Builtin.«sorted»
 refine wpAny_bind (m:=checkCount "sorted" 1 1 _) (wpAny_pure ?_)
 refine wpAny_bind (collect_list hl ?_ (by rw[sizeLine_eq];lia))
 refine wpAny_bind (wpAny_newList ?_ (by rw[sizeLine_eq];lia))
 have hsz:((s.heap.push (seqObj "list" #[] 0)).update s.heap.objs.size (Obj.mapSeq (·++vs.toArray))).objs.size=s.heap.objs.size+1:=by
  rw[Heap.size_update,size_push']
 have hoL:(((s.heap.push (seqObj "list" #[] 0)).update s.heap.objs.size (Obj.mapSeq (·++vs.toArray))).push (seqObj "list" vs.toArray 0)).get? (s.heap.objs.size+1)=some (seqObj "list" vs.toArray 0):=by
  rw[<-hsz];exact qo _ rfl
 show wpAny _ _ _ _ _ { s with heap:=((s.heap.push (seqObj "list" #[] 0)).update s.heap.objs.size (Obj.mapSeq (·++vs.toArray))).push (seqObj "list" vs.toArray 0) }
 rw[hsz]
 refine wpAny_bind (wpAny_holding (wpAny_call_entry slot_list_sort ⟨_,hoL,rfl⟩ entry_list_sort ?body (args_list_sort _)))
 case body=>
  rw[list_sort_plain]
  generalize hS:({ s with heap:=((s.heap.push (seqObj "list" #[] 0)).update s.heap.objs.size (Obj.mapSeq (·++vs.toArray))).push (seqObj "list" vs.toArray 0) }:Shared)=S at *
  have hoS:S.heap.get? (s.heap.objs.size+1)=some (seqObj "list" vs.toArray 0):=by rw[<-hS];exact hoL
  have ha:s.heap.objs.size+1 < S.heap.objs.size:=qk hoS
  refine wpAny_bind (listItems_at hoS rfl ?_)
  refine wpAny_bind (listUpdate_at hoS rfl ?_ (by rw[qj,sizeLine_eq];lia) (Qb _))
  obtain⟨e1,ho1⟩:∃e1,(S.heap.update (s.heap.objs.size+1) (Obj.mapSeq fun _=>#[])).get? (s.heap.objs.size+1)=some (seqObj "list" #[] e1):=⟨_,get?_update_seq hoS (fun _=>#[])⟩
  refine wpAny_bind (seqEpoch_at ho1 rfl ?_)
  refine wpAny_bind (wpAny_newTuple ?_ (by show vs.length<=_;rw[sizeLine_eq];lia))
  refine wpAny_bind (wpAny_newList ?_ (Qb _))
  refine wpAny_holding ?_
  have ho6:(((S.heap.update (s.heap.objs.size+1) (Obj.mapSeq fun _=>#[])).push (seqObj "tuple" vs.toArray 0)).push (seqObj "list" #[] 0)).get? (s.heap.objs.size+1)=some (seqObj "list" #[] e1):=by
   rw[Heap.get?_push_ne _ _ _ (by rw[size_push',Heap.size_update];exact ql (qu ha)),Heap.get?_push_ne _ _ _ (by rw[Heap.size_update];exact ql ha)]
   exact ho1
  show wpAny (model prog w) _ _ _ _ { S with heap:=((S.heap.update (s.heap.objs.size+1) (Obj.mapSeq fun _=>#[])).push (seqObj "tuple" vs.toArray 0)).push (seqObj "list" #[] 0) }
  dsimp only
  have hlt:vs.toArray.size < 2:=by rw[qj];exact h2
  rw[if_pos hlt,if_pos hlt]
  refine wpAny_bind (wpAny_pure ?_)
  rw[StateT.run_pure]
  refine wpAny_bind (wpAny_pure ?_)
  dsimp only
  refine wpAny_bind (seqEpoch_at ho6 rfl ?_)
  refine wpAny_bind (listUpdate_at ho6 rfl ?_ (hsz2:=by rw[Array.size_map];show(pairsOf vs).size<=_;rw[pairsOf_size,sizeLine_eq];lia))
  simp only[bne_self_eq_false,Bool.false_eq_true,if_false]
  have hout:(arrOf (SortSt.mk' general' (vs.toArray.zip vs.toArray) #[] 7 none)).map (·.2)=vs.toArray:=by
   show(vs.toArray.zip vs.toArray).map (·.2)=vs.toArray
   apply Array.toList_inj.mp
   simp[List.map_snd_zip]
  refine wpAny_pure ⟨_,rfl,wpAny_pure ⟨_,rfl,?_⟩⟩
  have hh:=h
  unfold sortedAll sortedHeap at hh
  rw[<-hS,hout]
  exact hh
def plt(j:Int)(q:Bool)(i:Int)(p:Bool):Bool:=if j=i then (!q&&p)else decide (j < i)
theorem Yvr{b c:Addr}{i j:Int}{p q:Bool}{t u:Tok}{R:Bool->Shared->Prop}(hb:IsTup s.heap b #[.int i t,.bool p])(hc:IsTup s.heap c #[.int j u,.bool q])(h:R (plt j q i p) s) :
 wpAny (model prog w) A (keyLt' (tuples' true) (.ref c) (.ref b)) R E s:=by
 obtain⟨ob,h1,_,n1,d1⟩:=hb
 obtain⟨oc,h2,_,n2,d2⟩:=hc
 refine W.kat_lt h2 d2 h1 d1 ?_
 show W.KatLex prog w A true false R [(.int j u,.int i t),(.bool q,.bool p)] 0 s
 unfold plt at h
 refine W.kat_cons (SeqAt.EqAt.int_int j u i t prog w _ _ (W.kat_go (fun e=>W.kat_yes (W.kat_cons (SeqAt.EqAt.bool_bool q p prog w _ _ (W.kat_go (fun e2=>W.kat_yes (W.kat_nil ?_)) fun e2=>W.kat_no (W.kat_one _ _ (lt_bool ?_)))))) fun e=>W.kat_no ?_))
 ·have e':j=i:=by simpa using e
  have e2':q=p:=by simpa using e2
  rw[if_pos e',e2']at h
  cases p<;>exact h
 ·have e':j=i:=by simpa using e
  rw[if_pos e']at h
  show R _ s
  cases p<;>cases q<;>first | exact h | simp at e2
 ·have e':¬j=i:=by simpa using e
  rw[if_neg e']at h
  exact oneLt_int h
theorem Yog{cmp:Nat->Nat->(Bool->Shared->Prop)->Shared->Prop}{G:Array Nat->Shared->Prop}{S:Shared}(h:cmp 1 0 (fun k s'=>if k=true then G #[1,0] s' else G #[0,1] s') S):(W.kas_sort 2).kasWp cmp G S:=by
 show cmp 1 0 (fun k s'=>W.KasT.kasWp cmp _ G s') S
 have e:∀(k:Bool) (s':Shared),(if k=true then G #[1,0] s' else G #[0,1] s')=W.KasT.kasWp cmp (W.KasT.bind (W.KasT.bind (if k=true then W.KasT.ret 1 else W.kas_asc (List.toArray (List.range 2)) 0 2)
  fun n=>if (n==2)=true then W.KasT.ret (n,List.toArray (List.range 2))else if n > 1 then .ask ((List.toArray (List.range 2)).getD 0 0) ((List.toArray (List.range 2)).getD (n - 1) 0) fun c=>if c=true then .ret (n,List.toArray (List.range 2))else W.kas_descPart n 2 (W.kas_rev (List.toArray (List.range 2)) 0 n)
   else W.kas_descPart n 2 (List.toArray (List.range 2))) fun r=>if r.1 < 2 then W.kas_bin (2 - max r.1 1) r.2 (max r.1 1)else .ret r.2) G s':=fun k s'=>by cases k<;>rfl
 have e2:(fun(k:Bool) (s':Shared)=>if k=true then G #[1,0] s' else G #[0,1] s')=_:=funext fun k=>funext fun s'=>e k s'
 rw[e2]at h
 exact h
theorem Yoh{l b c:Addr}{i j:Int}{p q:Bool}{t u:Tok}{Q:Value->Shared->Prop}(hl:s.heap.IsList l #[.ref b,.ref c])(hb:IsTup s.heap b #[.int i t,.bool p])(hc:IsTup s.heap c #[.int j u,.bool q])
 (h:Q (.ref (s.heap.objs.size+1)) { s with heap:=sortedAll s.heap [.ref b,.ref c] (if plt j q i p=true then #[.ref c,.ref b]else #[.ref b,.ref c]) }):wpAny (model prog w) A (call (.builtin "sorted") [.ref l]) Q E s:=by
 generalize hvs:[Value.ref b,Value.ref c]=vs at *
 have hl':s.heap.IsList l vs.toArray:=hl
 have hlen:vs.length=2:=by rw[<-hvs];rfl
 refine Calls.call_function_entry kind_sorted plain_sorted entry_sorted (args_sorted1 _) ?_
 unfold Builtin.«sorted»
 refine wpAny_bind (m:=checkCount "sorted" 1 1 _) (wpAny_pure ?_)
 refine wpAny_bind (collect_list hl' ?_ (by rw[sizeLine_eq];lia))
 refine wpAny_bind (wpAny_newList ?_ (by rw[sizeLine_eq];lia))
 have hsz:((s.heap.push (seqObj "list" #[] 0)).update s.heap.objs.size (Obj.mapSeq (·++vs.toArray))).objs.size=s.heap.objs.size+1:=by
  rw[Heap.size_update,size_push']
 have hoL:(((s.heap.push (seqObj "list" #[] 0)).update s.heap.objs.size (Obj.mapSeq (·++vs.toArray))).push (seqObj "list" vs.toArray 0)).get? (s.heap.objs.size+1)=some (seqObj "list" vs.toArray 0):=by
  rw[<-hsz];exact qo _ rfl
 have keep0:∀b o,s.heap.get? b=some o->(((s.heap.push (seqObj "list" #[] 0)).update s.heap.objs.size (Obj.mapSeq (·++vs.toArray))).push (seqObj "list" vs.toArray 0)).get? b=some o:=fun b o q=>by
  have hlt:b < s.heap.objs.size:=qk q
  rw[Heap.get?_push_ne _ _ _ (by rw[hsz];exact ql (qu hlt)),Heap.get?_update_ne _ _ _ _ (ql hlt),Heap.get?_push_ne _ _ _ (ql hlt)]
  exact q
 show wpAny _ _ _ _ _ { s with heap:=((s.heap.push (seqObj "list" #[] 0)).update s.heap.objs.size (Obj.mapSeq (·++vs.toArray))).push (seqObj "list" vs.toArray 0) }
 rw[hsz]
 refine wpAny_bind (wpAny_holding (wpAny_call_entry slot_list_sort ⟨_,hoL,rfl⟩ entry_list_sort ?body (args_list_sort _)))
 case body=>
  rw[list_sort_plain]
  generalize hS:({ s with heap:=((s.heap.push (seqObj "list" #[] 0)).update s.heap.objs.size (Obj.mapSeq (·++vs.toArray))).push (seqObj "list" vs.toArray 0) }:Shared)=S at *
  have hoS:S.heap.get? (s.heap.objs.size+1)=some (seqObj "list" vs.toArray 0):=by rw[<-hS];exact hoL
  have keepS:∀b o,s.heap.get? b=some o->S.heap.get? b=some o:=by rw[<-hS];exact keep0
  have ha:s.heap.objs.size+1 < S.heap.objs.size:=qk hoS
  refine wpAny_bind (listItems_at hoS rfl ?_)
  refine wpAny_bind (listUpdate_at hoS rfl ?_ (by rw[qj,sizeLine_eq];lia) (Qb _))
  obtain⟨e1,ho1⟩:∃e1,(S.heap.update (s.heap.objs.size+1) (Obj.mapSeq fun _=>#[])).get? (s.heap.objs.size+1)=some (seqObj "list" #[] e1):=⟨_,get?_update_seq hoS (fun _=>#[])⟩
  refine wpAny_bind (seqEpoch_at ho1 rfl ?_)
  refine wpAny_bind (wpAny_newTuple ?_ (by show vs.length<=_;rw[sizeLine_eq];lia))
  refine wpAny_bind (wpAny_newList ?_ (Qb _))
  refine wpAny_holding ?_
  have ho6:(((S.heap.update (s.heap.objs.size+1) (Obj.mapSeq fun _=>#[])).push (seqObj "tuple" vs.toArray 0)).push (seqObj "list" #[] 0)).get? (s.heap.objs.size+1)=some (seqObj "list" #[] e1):=by
   rw[Heap.get?_push_ne _ _ _ (by rw[size_push',Heap.size_update];exact ql (qu ha)),Heap.get?_push_ne _ _ _ (by rw[Heap.size_update];exact ql ha)]
   exact ho1
  have keep6:∀b o,s.heap.get? b=some o->(((S.heap.update (s.heap.objs.size+1) (Obj.mapSeq fun _=>#[])).push (seqObj "tuple" vs.toArray 0)).push (seqObj "list" #[] 0)).get? b=some o:=fun b o q=>by
   have hlt:b < s.heap.objs.size:=qk q
   refine qd _ (qd _ ?_)
   rw[Heap.get?_update_ne _ _ _ _ (ql (qu hlt))]
   exact keepS b o q
  generalize hS6:({ S with heap:=((S.heap.update (s.heap.objs.size+1) (Obj.mapSeq fun _=>#[])).push (seqObj "tuple" vs.toArray 0)).push (seqObj "list" #[] 0) }:Shared)=S6
  have ho7:S6.heap.get? (s.heap.objs.size+1)=some (seqObj "list" #[] e1):=by rw[<-hS6];exact ho6
  have tb:IsTup S6.heap b #[.int i t,.bool p]:=by
   obtain⟨o,a1,a2⟩:=hb
   exact⟨o,by rw[<-hS6];exact keep6 b o a1,a2⟩
  have tc:IsTup S6.heap c #[.int j u,.bool q]:=by
   obtain⟨o,a1,a2⟩:=hc
   exact⟨o,by rw[<-hS6];exact keep6 c o a1,a2⟩
  dsimp only
  have hn2:¬vs.toArray.size < 2:=by rw[qj];lia
  rw[if_neg hn2,if_neg hn2]
  have kt:W.KatTups S6.heap vs [.int i t,.int j u]:=by
   obtain⟨ob,b1,b2,n1,b3⟩:=tb
   obtain⟨oc,c1,c2,n2,c3⟩:=tc
   rw[<-hvs]
   exact .cons b1 b2 b3 rfl (.cons c1 c2 c3 rfl .nil)
  refine wpAny_bind (W.kat_kind (T:=.type "int") kt (qu (qx 0)) (fun v hv=>?_) (by decide) ?_)
  ·rcases qr hv with rfl | hv
   ·exact .of_pure rfl
   ·rcases qr hv with rfl | hv
    ·exact .of_pure rfl
    ·cases hv
  have hcmp:wpAny (model prog w) A.in1.in1 (keyLt' (tuples' true) (vs.getD 1 Value.none) (vs.getD 0 Value.none)) (fun k s'=>k=plt j q i p/\s'=S6) (fun _ _=>False) S6:=by
   rw[<-hvs]
   exact Yvr tb tc ⟨rfl,rfl⟩
  refine wpAny_bind (wpAny_mono (W.kat_run (ks:=vs) (vs:=vs) (κ:=tuples' true) (G:=fun pm s'=>s'=S6/\pm=if plt j q i p=true then #[1,0]else #[0,1])
   (Q:=fun st' s'=>s'=S6/\failedOf st'=none/\(arrOf st').map (·.2)=if plt j q i p=true then #[.ref c,.ref b]else #[.ref b,.ref c]) rfl (by lia) (by lia) (fun pm st' s' a1 a2 a3 a4=>?_) ?_) ?_ fun _ _ e=>e)
  ·obtain⟨rfl,rfl⟩:=a4
   refine⟨rfl,a3,?_⟩
   rw[W.kat_snds rfl a2,<-hvs]
   cases plt j q i p<;>rfl
  ·rw[hlen]
   refine Yog ?_
   refine wpAny_mono hcmp (fun k s' hk=>?_) fun _ _ x=>x
   obtain⟨rfl,rfl⟩:=hk
   cases plt j q i p
   ·exact⟨rfl,rfl⟩
   ·exact⟨rfl,rfl⟩
  rintro⟨⟨⟩,st'⟩ s' ⟨rfl,hf,hout⟩
  dsimp only
  refine wpAny_bind (seqEpoch_at ho7 rfl ?_)
  refine wpAny_bind (listUpdate_at ho7 rfl ?_ (Qb _) (by rw[hout,sizeLine_eq];cases plt j q i p<;>exact(by decide:2<=16777216+1)))
  rw[hf]
  simp only[bne_self_eq_false,Bool.false_eq_true,if_false]
  refine wpAny_pure ⟨_,rfl,wpAny_pure ⟨_,rfl,?_⟩⟩
  have hh:=h
  unfold sortedAll sortedHeap at hh
  rw[<-hS6,<-hS,hout]
  subst hvs
  exact hh
end
def Ydr:List D->Option (List Int)
 | []=>some []
 | .int i::l=>(Ydr l).map (i::·)
 | _=>none
def prI:D->Option (Int × Bool)
 | .tup [.int j,.bl q]=>some (j,q)
 | _=>none
def Yto(e d:D):Option Bool:=(prI e).bind fun x=>(prI d).map fun y=>plt x.1 x.2 y.1 y.2
theorem Yfs{α:Type}{x:α}{P:Prop}(h:none=some x):P:=by cases h
theorem Ynf{d:D}{x:Int × Bool}(h:prI d=some x):d=.tup [.int x.1,.bl x.2]:=by
 cases d with
 | tup l=>cases l with
   | nil=>exact Yfs h
   | cons a l=>cases a with
     | int j=>cases l with
       | nil=>exact Yfs h
       | cons b l=>cases b with
         | bl q=>cases l with
           | nil=>exact Option.some.inj h ▸ rfl
           | cons _ _=>exact Yfs h
         | _=>exact Yfs h
     | _=>exact Yfs h
 | _=>exact Yfs h
def Ysn(l:List D):Option (List D):=match Ydr l with
 | some ns=>if ns.length < 64 then some ((Yc0 ns).map D.int)else none
 | none=>match l with
   | [d]=>some [d]
   | [d,e]=>(Yto e d).map fun k=>if k=true then [e,d]else [d,e]
   | _=>none
def Ykj:List D->Option (List D)
 | [.lst l]=>Ysn l
 | _=>none
theorem Yft:∀{l:List D} {ns:List Int},Ydr l=some ns->l=ns.map D.int
 | [],ns,h=>by cases h;rfl
 | .int i::l,ns,h=>by
   rw[Ydr]at h
   obtain⟨m,h1,rfl⟩:=qb h
   rw[Yft h1]
   rfl
 | .non::l,ns,h=>by simp[Ydr]at h
 | .bl _::l,ns,h=>by simp[Ydr]at h
 | .str _::l,ns,h=>by simp[Ydr]at h
 | .tup _::l,ns,h=>by simp[Ydr]at h
 | .lst _::l,ns,h=>by simp[Ydr]at h
 | .scr _::l,ns,h=>by simp[Ydr]at h
 | .dct _ _ _::l,ns,h=>by simp[Ydr]at h
 | .obj _ _ _::l,ns,h=>by simp[Ydr]at h
 | .adr _::l,ns,h=>by simp[Ydr]at h
theorem Yi7{G:Hp}:∀{ns:List Int} {xs:List V},RpL K G (ns.map D.int) xs->xs=ns.map V.int
 | [],xs,h=>by rw[List.map_nil,RpL]at h;exact h
 | n::ns,xs,h=>by
   rw[qz,RpL]at h
   obtain⟨x,r,rfl,h1,h2⟩:=h
   rw[Rp]at h1
   rw[h1,Yi7 h2]
   rfl
def Yqd(H:Hp)(x:V)(i:Int)(p:Bool):Prop:=∃a,x=.ref a/\H a=some (.tup [.int i,.bl p])
def Yyv:List V->Hp->VK->Prop:=fun vs H Q=>∃a xs,vs=[.ref a]/\Rd H a (.lst xs)/\
 ((∃ns:List Int,xs=ns.map V.int/\ns.length < 64/\∀p,H p=none->Q (.ref p) (upd H p (.lst ((Yc0 ns).map V.int))))\/
  (xs.length < 2/\∀p,H p=none->Q (.ref p) (upd H p (.lst xs)))\/
  (∃x y i p j q,xs=[x,y]/\Yqd H x i p/\Yqd H y j q/\∀r,H r=none->Q (.ref r) (upd H r (.lst (if plt j q i p=true then [y,x]else [x,y])))))
theorem Yds{X:Cx}:Ycw X (.builtin "sorted") Yyv:=by
 intro pins s σ H xs us Q I r h
 obtain⟨a,ys,rfl,hr,h⟩:=h
 obtain⟨u,rfl,ru⟩:=Ygj r
 cases ru
 obtain⟨its,rv,pl,hz⟩:=I.list (.inl hr)
 have fin:∀(out:Array Value) (zs:List V),Vals zs out.toList->zs.length<=sizeLine->Q (.ref (s.heap.objs.size+1)) (upd H (s.heap.objs.size+1) (.lst zs))->EP X pins σ Q (.ref (s.heap.objs.size+1)) { s with heap:=sortedAll s.heap its out }:=fun out zs hv hz' hq=>by
  obtain⟨e,he⟩:=sortedAll_at s.heap its out
  exact⟨.ref (s.heap.objs.size+1),_,I.laid (t':=s.toks) (fun b o q=>sortedAll_old q) (Nat.le_succ _) (show ObjOk X.prog X.w _ _ _ (.lst zs) from⟨hz',out.toList,e,hv,by rw[Array.toArray_toList];exact he⟩),rfl,hq⟩
 have fr:H (s.heap.objs.size+1)=none:=I.hok.fresh (Nat.le_succ _)
 have hl:=rv.length
 rcases h with⟨ns,rfl,h64,q⟩ | ⟨h2,q⟩ | ⟨x,y,i,p,j,k,rfl,px,py,q⟩
 ·have hI:=Yfo rv
  refine sorted_ints pl.isList hI (by rw[hI.length];exact h64) fun out ns' h1 h2 h3=>?_
  have e:ns'=Yc0 ns:=W.ksm_same (h2.trans (Yax ns).symm) h3 (Yat ns)
  subst e
  have hn:(Yc0 ns).length=ns.length:=(Yax ns).length_eq
  exact fin out _ (Ye4 h1) (by rw[qe,hn,sizeLine_eq];lia) (q _ fr)
 ·refine Yof pl.isList (by lia) ?_
  exact fin its.toArray ys (by simpa using rv) hz (q _ fr)
 ·obtain⟨b,rfl,hb⟩:=px
  obtain⟨c,rfl,hc⟩:=py
  obtain⟨u1,u2,rfl,r1,r2⟩:=Yr3 rv
  cases r1
  cases r2
  obtain⟨_,ib,vb,tb⟩:=(show ObjOk X.prog X.w H s.heap b (.tup [.int i,.bl p]) from I.hok b _ hb)
  obtain⟨_,ic,vc,tc⟩:=(show ObjOk X.prog X.w H s.heap c (.tup [.int j,.bl k]) from I.hok c _ hc)
  obtain⟨w1,w2,rfl,⟨t,rfl⟩,w2e⟩:=Yr3 vb
  cases w2e
  obtain⟨w3,w4,rfl,⟨t',rfl⟩,w4e⟩:=Yr3 vc
  cases w4e
  refine Yoh (by simpa using pl.isList) (by simpa using tb) (by simpa using tc) ?_
  refine fin _ (if plt j k i p=true then [.ref c,.ref b]else [.ref b,.ref c]) ?_ (by rw[sizeLine_eq];cases plt j k i p<;>exact(by decide:2<=16777216)) (q _ fr)
  cases plt j k i p
  ·exact .cons rfl (.cons rfl .nil)
  ·exact .cons rfl (.cons rfl .nil)
theorem Ykk{G H:Hp}{d:D}{v:V}{i:Int}{p:Bool}(s:Same G H)(e:d=.tup [.int i,.bl p])(r:Rp K G d v):Yqd H v i p:=by
 subst e
 rw[Rp]at r
 obtain⟨a,xs,rfl,g,rl⟩:=r
 rw[RpL]at rl
 obtain⟨x,r',rfl,h1,h2⟩:=rl
 obtain⟨y,rfl,h3⟩:=Ygt h2
 rw[Rp]at h1
 rw[Rp]at h3
 subst h1;subst h3
 exact⟨a,rfl,s _ _ g⟩
theorem Yly{e d:D}{k:Bool}(h:Yto e d=some k):∃j q i p,e=.tup [.int j,.bl q]/\d=.tup [.int i,.bl p]/\k=plt j q i p:=by
 obtain⟨x,h1,h2⟩:=qa h
 obtain⟨y,h3,h4⟩:=qb h2
 exact⟨x.1,x.2,y.1,y.2,Ynf h1,Ynf h3,h4.symm⟩
theorem Yev:SemF K Yyv Ykj:=by
 intro vs ds l H G Q h s r q
 unfold Ykj at h
 split at h
 ·rename_i m
  obtain⟨v,rfl,rv⟩:=Ydq r
  rw[Ct]at rv
  obtain⟨a,xs,rfl,g,rl⟩:=rv
  refine⟨a,xs,rfl,g,?_⟩
  unfold Ysn at h
  split at h
  ·rename_i ns hns
   split at h
   ·rename_i h64
    cases h
    cases Yft hns
    refine .inl ⟨ns,Yi7 rl,h64,fun p hp=>?_⟩
    exact q p _ _ G (.hid s hp _) hp (s.free hp) Yo (.ints _)
   ·cases h
  ·split at h
   ·cases h
    refine .inr (.inl ⟨by rw[rl.length];exact qx 1,fun p hp=>?_⟩)
    exact q p _ _ G (.hid s hp _) hp (s.free hp) Yo rl
   ·rename_i d e
    obtain⟨k,h1,rfl⟩:=qb h
    obtain⟨j,y,i,x,rfl,rfl,rfl⟩:=Yly h1
    rw[RpL]at rl
    obtain⟨v1,r1,rfl,p1,rl⟩:=rl
    obtain⟨v2,rfl,p2⟩:=Ygt rl
    refine .inr (.inr ⟨v1,v2,i,x,j,y,rfl,Ykk s rfl p1,Ykk s rfl p2,fun p hp=>?_⟩)
    refine q p _ _ G (.hid s hp _) hp (s.free hp) Yo ?_
    cases plt j y i x
    ·exact .cons p1 (.one p2)
    ·exact .cons p2 (.one p1)
   ·cases h
 ·cases h
end
section
variable {K:W.Frag}
theorem Yso{P:Program}{w:World}{mg:Str->Option Value}{base:Heap}{k n:Nat}{x q:Str}{ps:List Str}{st:Stmt}{a:Addr}{fd:FuncData}(F:Fun K x q st a fd)(b:Binds K fd ps [])(hm:mg x=some (.ref a))(hn:ps.length=n) :
 Okf P w K mg base k n x ps (fun _=>none):=by
 have no:∀vs H Q E,¬spOf K n (fun _=>none) vs H Q E:=fun vs H Q E h=>by
  obtain⟨_,ds,d,G,_,_,e,_⟩:=h
  cases e
 exact⟨a,fd,⟨fun vs H Q E h=>absurd h (no vs H Q E),fun A outer s H args us vs Q E _ _ _ _ h=>absurd h (no vs H Q E)⟩,b,F.kp,hm⟩
section
variable {X:Cx} {e:Expr} {f fb:Ro->Option D} {pos pos':Pos}
def blsD:List D->Option (List Bool)
 | []=>some []
 | .bl b::l=>(blsD l).map (b::·)
 | _=>none
theorem Ykl:∀{l:List D} {bs:List Bool},blsD l=some bs->l=bs.map D.bl
 | [],bs,h=>by cases h;rfl
 | .bl i::l,bs,h=>by
   rw[blsD]at h
   obtain⟨m,h1,rfl⟩:=qb h
   rw[Ykl h1]
   rfl
 | .non::l,ns,h=>by simp[blsD]at h
 | .int _::l,ns,h=>by simp[blsD]at h
 | .str _::l,ns,h=>by simp[blsD]at h
 | .tup _::l,ns,h=>by simp[blsD]at h
 | .lst _::l,ns,h=>by simp[blsD]at h
 | .scr _::l,ns,h=>by simp[blsD]at h
 | .dct _ _ _::l,ns,h=>by simp[blsD]at h
 | .obj _ _ _::l,ns,h=>by simp[blsD]at h
 | .adr _::l,ns,h=>by simp[blsD]at h
theorem Yqe{G:Hp}:∀{bs:List Bool} {xs:List V},RpL K G (bs.map D.bl) xs->xs=bs.map V.bl
 | [],xs,h=>by rw[List.map_nil,RpL]at h;exact h
 | n::ns,xs,h=>by
   rw[qz,RpL]at h
   obtain⟨x,r,rfl,h1,h2⟩:=h
   rw[Rp]at h1
   rw[h1,Yqe h2]
   rfl
theorem Yi8:∀{bs:List Bool} {us:List Value},Vals (bs.map V.bl) us->us=bs.map Value.bool
 | [],us,h=>by cases h;rfl
 | b::bs,us,h=>by
   cases h with
   | cons r t=>
     cases (show _=Value.bool b from r)
     rw[Yi8 t]
     rfl
theorem Yqf(bs:List Bool):((List.range bs.length).any fun i=>bs.getD i false)=bs.any id:=by
 induction bs with
 | nil=>rfl
 | cons b bs ih=>
   rw[qq,List.range_succ_eq_map,List.any_cons,List.any_map,List.any_cons]
   have:(List.range bs.length).any ((fun i=>(b::bs).getD i false) ∘ Nat.succ)=(List.range bs.length).any fun i=>bs.getD i false:=by
    congr 1
   rw[this,ih]
   rfl
theorem Yqg(bs:List Bool):((List.range bs.length).all fun i=>bs.getD i false)=bs.all id:=by
 induction bs with
 | nil=>rfl
 | cons b bs ih=>
   rw[qq,List.range_succ_eq_map,List.all_cons,List.all_map,List.all_cons]
   have:(List.range bs.length).all ((fun i=>(b::bs).getD i false) ∘ Nat.succ)=(List.range bs.length).all fun i=>bs.getD i false:=by
    congr 1
   rw[this,ih]
   rfl
def rBls(g:List Bool->V):List V->Hp->VK->Prop:=fun vs H Q=>∃(a:Addr) (bs:List Bool),vs=[.ref a]/\Rd H a (.lst (bs.map V.bl))/\Q (g bs) H
theorem Ykm(A:Around)(prog:Program)(w:World)(bs:List Bool):TruthOf prog w A (fun i v=>((bs.map Value.bool).toArray)[i]?=some v) (fun i=>bs.getD i false):=fun i v s Q E hP hQ=>by
 have hP':(bs.map Value.bool)[i]?=some v:=by simpa using hP
 rw[Qd]at hP'
 obtain⟨b,h1,rfl⟩:=qb hP'
 refine wpAny_truthy_bool ?_
 have:bs.getD i false=b:=by simp[h1]
 rw[<-this]
 exact hQ
theorem Ykn{pins:List (Addr × Obj)}{s:Shared}{σ:L2.St}{H:Hp}{a:Addr}{its:List Value}{A:Around}{E:Value->Shared->Prop}{Q:Value->Shared->Prop}(hh:A.handled=none)(hl:s.heap.IsList a its.toArray)
 (h:∀s₂,s₂={ s with heap:=s.heap.push { cls:=.type "list_iterator",data:=.fields #[.ref a,.int 0 0] } }->Walks X.prog X.w A s.heap.objs.size [s.heap.objs.size,a] [s.heap.objs.size] its.toArray.size (fun i v=>its.toArray[i]?=some v) (fun i h=>h.IsListIter s.heap.objs.size a i/\h.IsList a its.toArray)->
  (s₂.heap.IsListIter s.heap.objs.size a 0/\s₂.heap.IsList a its.toArray)->Q (.ref s.heap.objs.size) s₂):wpAny (model X.prog X.w) A (pyIter (.ref a)) Q E s:=by
 have hne:a≠s.heap.objs.size:=by
  obtain⟨o,ho,_⟩:=hl
  exact ql (qk ho)
 refine wpAny_pyIter_list hl (h _ rfl (Walks.list hh _ a hne _) ⟨⟨_,qo _ rfl,rfl,rfl⟩,?_⟩)
 obtain⟨o,ho,r⟩:=hl
 exact⟨o,qd _ ho,r⟩
theorem Yf5{pins:List (Addr × Obj)}{s:Shared}{σ:L2.St}{H:Hp}{h':Heap}{tk:Nat}{o:Obj}(I:Inv X pins σ H s)(k:∀b u,b∉[s.heap.objs.size]->(s.heap.push o).get? b=some u->h'.get? b=some u):Inv X pins σ H { s with heap:=h',toks:=tk }:=
 I.kept fun b u q=>k b u (by
  intro z
  have e:b=s.heap.objs.size:=by simpa using z
  exact absurd (qk q) (by rw[e];exact Qe _)) (qd _ q)
theorem Ygx(hc:X.calm=true):Ycw X (.builtin "any") (rBls fun bs=>.bl (bs.any id)):=by
 intro pins s σ H xs us Q I r h
 obtain⟨a,bs,rfl,hr,q⟩:=h
 obtain⟨u,rfl,ru⟩:=Ygj r
 cases ru
 obtain⟨its,rv,pl,hz⟩:=I.list (.inl hr)
 cases Yi8 rv
 refine call_any_walk (Ykn (X:=X) (pins:=pins) (σ:=σ) (H:=H) (show X.A.in1.handled=none from I.ok.hd hc) pl.isList fun s₂ e W st=>?_)
 subst e
 refine⟨_,_,_,_,_,_,fun i=>bs.getD i false,rfl,W,st,Ykm _ _ _ bs,fun h' tk k=>⟨.bl _,H,(show Inv X pins σ H { s with heap:=h',toks:=tk } from Yf5 I k),?_,q⟩⟩
 show Value.bool _=Value.bool _
 rw[qj,qe,Yqf]
theorem Ygy(hc:X.calm=true):Ycw X (.builtin "all") (rBls fun bs=>.bl (bs.all id)):=by
 intro pins s σ H xs us Q I r h
 obtain⟨a,bs,rfl,hr,q⟩:=h
 obtain⟨u,rfl,ru⟩:=Ygj r
 cases ru
 obtain⟨its,rv,pl,hz⟩:=I.list (.inl hr)
 cases Yi8 rv
 refine call_all_walk (Ykn (X:=X) (pins:=pins) (σ:=σ) (H:=H) (show X.A.in1.handled=none from I.ok.hd hc) pl.isList fun s₂ e W st=>?_)
 subst e
 refine⟨_,_,_,_,_,_,fun i=>bs.getD i false,rfl,W,st,Ykm _ _ _ bs,fun h' tk k=>⟨.bl _,H,(show Inv X pins σ H { s with heap:=h',toks:=tk } from Yf5 I k),?_,q⟩⟩
 show Value.bool _=Value.bool _
 rw[qj,qe,Yqg]
def anyC:List D->Option D
 | [.lst l]=>(blsD l).map fun bs=>.bl (bs.any id)
 | _=>none
def allC:List D->Option D
 | [.lst l]=>(blsD l).map fun bs=>.bl (bs.all id)
 | _=>none
theorem Yqh{g:List Bool->V}{gd:List Bool->D}{m:List D->Option D}(hm:∀ds d,m ds=some d->∃l bs,ds=[.lst l]/\blsD l=some bs/\d=gd bs)(hg:∀G bs,Rp K G (gd bs) (g bs)):SemC K (rBls g) m:=by
 intro vs ds d H G Q h s r q
 obtain⟨l,bs,rfl,h1,rfl⟩:=hm ds d h
 obtain⟨v,rfl,rv⟩:=Ydq r
 rw[Ct]at rv
 obtain⟨a,xs,rfl,g',rl⟩:=rv
 cases Ykl h1
 cases Yqe rl
 exact⟨a,bs,rfl,g',q _ H G (.refl s) (hg G bs)⟩
theorem Ylz:SemC K (rBls fun bs=>.bl (bs.any id)) anyC:=Yqh (gd:=fun bs=>.bl (bs.any id)) (fun ds d h=>by
 unfold anyC at h
 split at h
 ·obtain⟨bs,h1,rfl⟩:=qb h
  exact⟨_,bs,rfl,h1,rfl⟩
 ·cases h) fun G bs=>by rw[Rp]
theorem Yl0:SemC K (rBls fun bs=>.bl (bs.all id)) allC:=Yqh (gd:=fun bs=>.bl (bs.all id)) (fun ds d h=>by
 unfold allC at h
 split at h
 ·obtain⟨bs,h1,rfl⟩:=qb h
  exact⟨_,bs,rfl,h1,rfl⟩
 ·cases h) fun G bs=>by rw[Rp]
def Yoi(i:Nat)(fi f:Ro->Option D)(g:List D->D->D->Option (List D)):Ro->Option Out:=fun ρ=>(f ρ).bind fun d=>(getO i ρ).bind fun l=>(fi ρ).bind fun k=>(g l k d).map fun l'=>.nx (ρ.set i (some (.ow l')))
def setD(l:List D)(k d:D):Option (List D):=(intD k).bind fun i=>(ixN l.length i).map fun j=>l.set j d
theorem Yoj(i:Nat){x:Str}{ie:Expr}{p2 p3:Pos}(hb:MC X ie fb)(he:ME X e f)(hN:X.N[i]?=some x:=by rfl)(hv:Vis X.env.scope x:=by first | exact Or.inl rfl | exact Or.inr (Or.inl rfl) | exact Or.inr (Or.inr rfl))
 (hd:(x==("__debug__":Str))=false:=by decide) (hcd:(x==("__classdict__":Str))=false:=by decide)
 (ha:∀v,assign (.Subscript (.Name x p2) ie p3) X.env v=(do
  let ov <-holding [v] (eval (.Name x p2) X.env)
  let iv <-holding [v,ov] (eval ie X.env)
  standAt p3
  holding [v,ov,iv] (setItem ov iv v)
  release [v,ov,iv] []):=by intro _;rfl)
 (hs:swapsWithSole [.Subscript (.Name x p2) ie p3] e pos.line X.env=pure false:=by rfl) (hw:swappedStores [.Subscript (.Name x p2) ie p3] e X.env=pure none:=by rfl)
 (h1:(assignEach [.Subscript (.Name x p2) ie p3] X.env).map (·.2)=[assign (.Subscript (.Name x p2) ie p3) X.env]:=by rfl):MS X (.Assign [.Subscript (.Name x p2) ie p3] e pos) (Yoi i fb f setD):=
 PS.imp (Yxc he (Yxb (Ye2 hN hv hd hcd) hb Yr8 ha) hs hw h1) fun F σ H hx_=>by
  obtain⟨ρ,out,H0,G0,G,e,s,h⟩:=hx_
  unfold Yoi at e
  obtain⟨d,h1,e⟩:=qa e
  obtain⟨l,h2,e⟩:=qa e
  obtain⟨k,h3,e⟩:=qa e
  obtain⟨l',h4,rfl⟩:=qb e
  unfold setD at h4
  obtain⟨n,h5,h4⟩:=qa h4
  obtain⟨j,h6,rfl⟩:=qb h4
  refine tOf.at h1 s fun v H1 G1 g1 r1 s1=>?_
  obtain⟨a,xs,ha,hH,hr,hG⟩:=Ynd s1 h2
  refine⟨_,ha,tCof.at h3 s1 fun u H2 G2 g2 r2 s2=>?_⟩
  cases k<;>simp[intD]at h5
  subst h5
  rw[Ct]at r2
  subst r2
  refine⟨a,xs,_,j,rfl,rfl,g2.h _ _ hH,by rw[hr.length];exact h6,?_⟩
  exact h σ _ G2 (s2.mut (Ydp h2) ha ((hr.mono g2.g).set j (r1.mono g2.g)))
end
end
section
variable {K:W.Frag}
section
variable {prog:Program} {w:World} {A:Around} {E:Value->Shared->Prop} {s:Shared}
theorem Yfu{it t:Addr}{i:Nat}{items:Array Value}{x:Value}{Q:Value->Shared->Prop}(hit:s.heap.IsTupleIter it t i)
 (ht:s.heap.IsTuple t items) (hx:items[i]?=some x)
 (hQ:∀h',h'.IsTupleIter it t (i+1)->Heap.SameBut it s.heap h'->Q x { s with heap:=h' }) :
 wpAny (model prog w) A (Builtin.SmallTypes.nextOf (.ref it)) Q E s:=by
 obtain⟨o,ho,hc,hd⟩:=id hit
 obtain⟨ol,hol,_,nl,hdl⟩:=ht
 unfold Builtin.SmallTypes.nextOf
 refine wpAny_bind (wpAny_callSpecial?_slot (name:=Str.ofString "__next__") hit.typeIs F.slot_tuple_iterator_next
  (wpAny_call_entry F.slot_tuple_iterator_next hit.typeIs F.entry_tuple_iterator_next ?_ (F.args_tuple_iterator_next_1 _)))
 show wpAny _ _ (field (.ref it) 0 >>= _) _ _ s
 refine wpAny_bind (wpAny_field ho hd (x:=.ref t) rfl ?_)
 show wpAny _ _ (if (Value.ref t==Value.none)=true then _ else _) _ _ s
 rw[if_neg (show ¬((Value.ref t==Value.none)=true) from qh)]
 show wpAny _ _ (field (.ref it) 1 >>= _) _ _ s
 refine wpAny_bind (wpAny_field ho hd (x:=.int i 0) rfl ?_)
 show wpAny _ _ (seqItems? (.ref t) >>= _) _ _ s
 refine wpAny_bind (wpAny_seqItems hol hdl ?_)
 simp only[Int.toNat_natCast,hx]
 refine wpAny_bind (wpAny_setField ho hd (by simp) (wpAny_pure ⟨x,rfl,wpAny_pure (hQ _ ?_ (Heap.SameBut.update ..))⟩))
 exact⟨_,Heap.get?_update_self _ ho (Obj.isFreed_of_fields (Obj.data_mapFields hd _)),(Obj.cls_mapFields ..).trans hc,by
  rw[Obj.data_mapFields hd];simp[rawInt]⟩
theorem Yga{it l:Addr}{i:Nat}{items:Array Value}{Q:Value->Shared->Prop}(hh:A.handled=none)
 (hit:s.heap.IsTupleIter it l i) (hl:s.heap.IsTuple l items) (hx:items[i]?=none)
 (hE:∀h' e,Heap.ExtBut it s.heap h'->(∃o,h'.get? e=some o/\o.cls=.type "StopIteration")->E (.ref e) { s with heap:=h' }) :
 wpAny (model prog w) A (Builtin.SmallTypes.nextOf (.ref it)) Q E s:=by
 obtain⟨o,ho,hc,hd⟩:=id hit
 obtain⟨ol,hol,_,nl,hdl⟩:=hl
 unfold Builtin.SmallTypes.nextOf
 refine wpAny_bind (wpAny_callSpecial?_slot (name:=Str.ofString "__next__") hit.typeIs F.slot_tuple_iterator_next
  (wpAny_call_entry F.slot_tuple_iterator_next hit.typeIs F.entry_tuple_iterator_next ?_ (F.args_tuple_iterator_next_1 _)))
 show wpAny _ _ (field (.ref it) 0 >>= _) _ _ s
 refine wpAny_bind (wpAny_field ho hd (x:=.ref l) rfl ?_)
 show wpAny _ _ (if (Value.ref l==Value.none)=true then _ else _) _ _ s
 rw[if_neg (show ¬((Value.ref l==Value.none)=true) from qh)]
 show wpAny _ _ (field (.ref it) 1 >>= _) _ _ s
 refine wpAny_bind (wpAny_field ho hd (x:=.int i 0) rfl ?_)
 show wpAny _ _ (seqItems? (.ref l) >>= _) _ _ s
 refine wpAny_bind (wpAny_seqItems hol hdl ?_)
 simp only[Int.toNat_natCast,hx]
 refine wpAny_bind (wpAny_rule (wpAny_bind (wpAny_setField ho hd (by simp) ?_)))
 show wpAny _ _ (newExc (.type "StopIteration") [] >>= _) _ _ _
 refine wpAny_bind ?_
 simp only[newExc,newTuple]
 refine wpAny_bind (wpAny_newObj_type ?_ (by size_fits))
 refine wpAny_bind (m:=firstArgMember _ _) (wpAny_of_eq (a:=Value.none) (by first | rfl | (simp only[firstArgMember];rfl)) ?_)
 refine wpAny_newObj_type ?_ (by size_fits)
 simp only[raiseNew]
 refine wpAny_bind (wpAny_handled ?_)
 first | rw[show A.in1.handled=none from hh] | rw[hh]
 refine wpAny_bind (wpAny_pure (wpAny_throw ?_))
 exact hE _ _ (((Heap.SameBut.update ..).extBut.push _).push _) ⟨_,qo _ rfl,rfl⟩
theorem Ygz{e it l:Addr}{i:Nat}{items:Array Value}{x old:Value}{Q:Value->Shared->Prop}
 (he:IsEnum s.heap e it i old) (hit:s.heap.IsTupleIter it l i) (hl:s.heap.IsTuple l items) (hx:items[i]?=some x) (hne:e≠it)
 (hQ:∀h',IsEnumOut h' e it ((i:Int)+1) x s.heap.objs.size->h'.IsTupleIter it l (i+1)->
  h'.get? s.heap.objs.size=some { cls:=.type "tuple",data:=.seq #[.int i s.toks,x] }->h'.objs.size=s.heap.objs.size+1->
  (∀b o,b≠e->b≠it->s.heap.get? b=some o->h'.get? b=some o)->Q (.ref s.heap.objs.size) { s with heap:=h',toks:=s.toks+1 }) :
 wpAny (model prog w) A (Builtin.«enumerate.__next__» ⟨[.ref e],[]⟩) (fun fin s'=>∃v,fin=.done (.ret v)/\Q v s') E s:=by
 obtain⟨hp,g,d,tk,os⟩:=s
 show wpAny _ _ (field (.ref e) 2 >>= _) _ _ _
 refine wpAny_bind (wpAny_field he rfl (x:=.ref it) rfl ?_)
 refine wpAny_bind (Yfu hit hl hx fun h₁ hit₁ hs₁=>?_)
 replace hs₁:Heap.SameBut it hp h₁:=hs₁
 have he₁:IsEnum h₁ e it i old:=(hs₁.2 e hne).trans he
 show wpAny _ _ (field (.ref e) 3 >>= _) _ _ ⟨h₁,g,d,tk,os⟩
 refine wpAny_bind (wpAny_field he₁ rfl (x:=rawInt i) rfl ?_)
 show wpAny _ _ (field (.ref e) 4 >>= _) _ _ ⟨h₁,g,d,tk,os⟩
 refine wpAny_bind (wpAny_field he₁ rfl (x:=.none) rfl ?_)
 show wpAny _ _ (mkInt i >>= _) _ _ ⟨h₁,g,d,tk,os⟩
 refine wpAny_bind (wpAny_mkInt ?_)
 show wpAny _ _ (setField (.ref e) 3 (rawInt ((i:Int)+1)) >>= _) _ _ ⟨h₁,g,d,tk+1,os⟩
 refine wpAny_bind (wpAny_setField_rec he₁ (by simp) fun h₂ he₂ hs₂=>?_)
 replace hs₂:Heap.SameBut e h₁ h₂:=hs₂
 replace he₂:IsEnum h₂ e it ((i:Int)+1) old:=he₂
 show wpAny _ _ (setField (.ref e) 4 .none >>= _) _ _ ⟨h₂,g,d,tk+1,os⟩
 refine wpAny_bind (wpAny_setField_rec he₂ (by simp) fun h₃ he₃ hs₃=>?_)
 replace hs₃:Heap.SameBut e h₂ h₃:=hs₃
 replace he₃:IsEnum h₃ e it ((i:Int)+1) old:=he₃
 show wpAny _ _ (newTuple [.int i tk,x] >>= _) _ _ ⟨h₃,g,d,tk+1,os⟩
 refine wpAny_bind (wpAny_newTuple ?_)
 have he₄:IsEnum (h₃.push { cls:=.type "tuple",data:=.seq #[.int i tk,x] }) e it ((i:Int)+1) old:=qd _ he₃
 generalize hh₄:h₃.push { cls:=.type "tuple",data:=.seq #[.int i tk,x] }=h₄ at he₄
 have hsz:h₃.objs.size=hp.objs.size:=by rw[hs₃.1,hs₂.1,hs₁.1]
 have hel:e < hp.objs.size:=qk he
 have ht₄:h₄.get? hp.objs.size=some { cls:=.type "tuple",data:=.seq #[.int i tk,x] }:=by rw[<-hh₄,<-hsz];exact qo _ rfl
 have hz₄:h₄.objs.size=hp.objs.size+1:=by rw[<-hh₄,Heap.size_push,hsz]
 have hk₄:∀b o,b≠e->b≠it->hp.get? b=some o->h₄.get? b=some o:=fun b o hbe hbi hb=>by
  rw[<-hh₄];exact qd _ (hs₃.extBut b o hbe (hs₂.extBut b o hbe (hs₁.extBut b o hbi hb)))
 have hit₄:h₄.IsTupleIter it l (i+1):=by
  rw[<-hh₄];obtain⟨o,ho,r⟩:=(hit₁.at fun o q=>hs₃.extBut it o (Ne.symm hne) (hs₂.extBut it o (Ne.symm hne) q));exact⟨o,qd _ ho,r⟩
 show wpAny _ _ (Builtin.SmallTypes.ownedTupleIsFree (.ref e) >>= _) _ _ ⟨h₄,g,d,tk+1,os⟩
 rw[hsz]
 clear hh₄ he₃ hs₃ he₂ hs₂ he₁ hs₁ hit₁ hsz h₃ h₂ h₁
 refine wpAny_bind ?_
 ·unfold Builtin.SmallTypes.ownedTupleIsFree
  refine wpAny_bind (wpAny_field he₄ rfl (x:=.none) rfl (wpAny_pure ?_))
  simp only[if_true]
  refine wpAny_bind (wpAny_rule ?_)
  refine wpAny_bind (wpAny_field he₄ rfl (x:=old) rfl ?_)
  refine wpAny_bind (wpAny_setField_rec he₄ (by simp) fun h₅ he₅ hs₅=>?_)
  replace hs₅:Heap.SameBut e h₄ h₅:=hs₅
  replace he₅:IsEnum h₅ e it ((i:Int)+1) x:=he₅
  show wpAny _ _ (Builtin.SmallTypes.ownedTupleHandOut (.ref e) (.ref hp.objs.size) >>= _) _ _ ⟨h₅,g,d,tk+1,os⟩
  refine wpAny_bind ?_
  ·unfold Builtin.SmallTypes.ownedTupleHandOut
   refine wpAny_bind (wpAny_setField_rec he₅ (by simp) fun h₆ he₆ hs₆=>?_)
   replace hs₆:Heap.SameBut e h₅ h₆:=hs₆
   replace he₆:IsEnumOut h₆ e it ((i:Int)+1) x hp.objs.size:=he₆
   refine wpAny_setField_rec he₆ (by simp) fun h₇ he₇ hs₇=>?_
   replace hs₇:Heap.SameBut e h₆ h₇:=hs₇
   replace he₇:IsEnumOut h₇ e it ((i:Int)+1) x hp.objs.size:=he₇
   refine wpAny_bind (wpAny_letGo (wpAny_pure ⟨_,rfl,hQ h₇ he₇ ?_ ?_ ?_ ?_⟩))
   ·exact hit₄.at fun o q=>hs₇.extBut it o (Ne.symm hne) (hs₆.extBut it o (Ne.symm hne) (hs₅.extBut it o (Ne.symm hne) q))
   ·exact hs₇.extBut _ _ (Nat.ne_of_gt hel) (hs₆.extBut _ _ (Nat.ne_of_gt hel) (hs₅.extBut _ _ (Nat.ne_of_gt hel) ht₄))
   ·rw[hs₇.1,hs₆.1,hs₅.1,hz₄]
   ·exact fun b o hbe hbi hb=>hs₇.extBut b o hbe (hs₆.extBut b o hbe (hs₅.extBut b o hbe (hk₄ b o hbe hbi hb)))
theorem Yfv{e it l:Addr}{i:Nat}{items:Array Value}{x old:Value}{Q:Option Value->Shared->Prop}
 (he:IsEnum s.heap e it i old) (hit:s.heap.IsTupleIter it l i) (hl:s.heap.IsTuple l items) (hx:items[i]?=some x) (hne:e≠it)
 (hQ:∀h',IsEnumOut h' e it ((i:Int)+1) x s.heap.objs.size->h'.IsTupleIter it l (i+1)->
  h'.get? s.heap.objs.size=some { cls:=.type "tuple",data:=.seq #[.int i s.toks,x] }->h'.objs.size=s.heap.objs.size+1->
  (∀b o,b≠e->b≠it->s.heap.get? b=some o->h'.get? b=some o)->Q (some (.ref s.heap.objs.size)) { s with heap:=h',toks:=s.toks+1 }) :
 wpAny (model prog w) A (pyNext (.ref e)) Q E s:=by
 have hT:s.TypeIs (.ref e) "enumerate":=⟨_,he,rfl⟩
 unfold pyNext
 exact wpAny_bind (wpAny_attempt (wpAny_callSpecial?_slot (name:=Str.ofString "__next__") hT F.slot_enumerate_next
  (wpAny_call_entry F.slot_enumerate_next hT F.entry_enumerate_next
   (Ygz he hit hl hx hne fun h' a b c d k=>wpAny_pure (hQ h' a b c d k)) (F.args_enumerate_next_1 _))))
theorem Ygb{e it l:Addr}{i:Nat}{items:Array Value}{old:Value}{Q:Option Value->Shared->Prop}(hh:A.handled=none)
 (he:IsEnum s.heap e it i old) (hit:s.heap.IsTupleIter it l i) (hl:s.heap.IsTuple l items) (hx:items[i]?=none)
 (hQ:∀h',Heap.ExtBut it s.heap h'->Q none { s with heap:=h' }):wpAny (model prog w) A (pyNext (.ref e)) Q E s:=by
 have hT:s.TypeIs (.ref e) "enumerate":=⟨_,he,rfl⟩
 unfold pyNext
 refine wpAny_bind (wpAny_attempt (wpAny_callSpecial?_slot (name:=Str.ofString "__next__") hT F.slot_enumerate_next
  (wpAny_call_entry F.slot_enumerate_next hT F.entry_enumerate_next ?_ (F.args_enumerate_next_1 _))))
 show wpAny _ _ (field (.ref e) 2 >>= _) _ _ _
 refine wpAny_bind (wpAny_field he rfl (x:=.ref it) rfl ?_)
 refine wpAny_bind (Yga hh hit hl hx fun h' x he' hx'=>?_)
 obtain⟨o,ho,hc⟩:=hx'
 refine wpAny_bind (wpAny_isInstance (T:="StopIteration") (b:=true) ⟨o,ho,hc⟩ isSubtype_stop ?_)
 exact wpAny_pure (hQ _ he')
theorem Yg0(l:Addr)(items:Array Value)(n:Nat)(dct:Option Addr)(sl:Array (Option Value)) :
 Meets (Builtin.«enumerate.__new__» ⟨[.type "enumerate",.ref l],[]⟩) (fun _ R s=>s.heap.get? l=some { cls:=.type "tuple",dict:=dct,data:=.seq items n,slots:=sl }/\
  R (.ok (.ret (.ref (s.heap.push { cls:=.type "tuple_iterator",data:=.fields #[.ref l,.int 0 0] }).objs.size)))
   { s with heap:=(s.heap.push { cls:=.type "tuple_iterator",data:=.fields #[.ref l,.int 0 0] }).push { cls:=.type "enumerate",data:=.fields #[.none,.bool false,.ref s.heap.objs.size,rawInt 0,.none,.none] } }):=
 .of_wp fun prog w A R s h=>by
  obtain⟨hp,g,d,tk,os⟩:=s;obtain⟨hl,h⟩:=h
  have hsub:=sub_enumerate
  have hL:Heap.IsTuple (Shared.heap ⟨hp,g,d,tk,os⟩) l items:=⟨_,hl,rfl,n,rfl⟩
  wp_walk using PySem.AutoSeq1.wpAny_loadPart' hl
  refine wpAny_stack_any fun st=>wpAny_pure ?_
  split
  ·rename_i c _ _ _ _ _
   cases (c==Value.type "enumerate")
   ·wp_walk using PySem.AutoSeq1.wpAny_loadPart' hl,wpAny_pyIter_tuple hL
    exact⟨_,rfl,h⟩
   ·wp_walk using PySem.AutoSeq1.wpAny_loadPart' hl,wpAny_pyIter_tuple hL
    exact⟨_,rfl,h⟩
  ·wp_walk using PySem.AutoSeq1.wpAny_loadPart' hl,wpAny_pyIter_tuple hL
   exact⟨_,rfl,h⟩
theorem Yej{l:Addr}{items:Array Value}{Q:Value->Shared->Prop}(hL:s.heap.IsTuple l items)
 (h:∀h',IsEnum h' (s.heap.objs.size+1) s.heap.objs.size 0 .none->h'.IsTupleIter s.heap.objs.size l 0->h'.objs.size=s.heap.objs.size+2->
  (∀b o,s.heap.get? b=some o->h'.get? b=some o)->Q (.ref (s.heap.objs.size+1)) { s with heap:=h' }) :
 wpAny (model prog w) A (call (.type "enumerate") [.ref l]) Q E s:=by
 obtain⟨⟨c,dct,dt,sl⟩,hl,hc,n,hd⟩:=hL
 replace hc:c=.type "tuple":=hc
 replace hd:dt=.seq items n:=hd
 subst hc hd
 refine callType_new F.called_enumerate (by decide) (F.typeCall_enumerate_1 _) (F.newCall_enumerate_1 _) (fun obj=>F.args_object_init_2 obj _) F.entry_enumerate_new
  (Yg0 l items n dct sl) ⟨hl,?_⟩
 have hz:(s.heap.push { cls:=.type "tuple_iterator",data:=.fields #[.ref l,.int 0 0] }).objs.size=s.heap.objs.size+1:=Heap.size_push ..
 show _/\_
 rw[hz]
 have he:IsEnum ((s.heap.push { cls:=.type "tuple_iterator",data:=.fields #[.ref l,.int 0 0] }).push
  { cls:=.type "enumerate",data:=.fields #[.none,.bool false,.ref s.heap.objs.size,rawInt 0,.none,.none] }) (s.heap.objs.size+1) s.heap.objs.size 0 .none:=by
  have:=qo (s.heap.push { cls:=.type "tuple_iterator",data:=.fields #[.ref l,.int 0 0] })
   (o:={ cls:=.type "enumerate",data:=.fields #[.none,.bool false,.ref s.heap.objs.size,rawInt 0,.none,.none] }) rfl
  rw[hz]at this;exact this
 refine⟨⟨_,he,rfl⟩,h _ he ⟨_,qd _ (qo _ rfl),rfl,rfl⟩ (by rw[Heap.size_push,hz]) fun b o x=>qd _ (qd _ x)⟩
end
theorem Yfb{X:Cx}{pins:List (Addr × Obj)}{σ:L2.St}{H:Hp}{s:Shared}{h':Heap}{t':Nat}{ch:List Addr}{T:Addr}{o:HO}(I:Inv X pins σ H s)(hf:∀b∈ch,FpOk X pins H b)
 (k:∀b u,b∉ch->s.heap.get? b=some u->h'.get? b=some u) (hT:s.heap.objs.size<=T) (new:ObjOk X.prog X.w (upd H T o) h' T o):Inv X pins σ (upd H T o) { s with heap:=h',toks:=t' }:=by
 have fr:H T=none:=I.hok.fresh hT
 have nch:∀b u,H b=some u->b∉ch:=fun b u e z=>by rw[(hf b z).1]at e;cases e
 refine I.step (g':=s.gens) (d':=s.drawn) (ch:=ch) (fun b hb=>?_) (fun b u _ _ hc e _=>k b u hc e) (fun b u _ _ hc e _=>⟨u.slots,k b u hc e⟩) (fun b u _ e n=>?_)
  (fun b u hc e=>⟨u,k b u hc e⟩) (fun b xs e=>?_) (fun b u xs e=>?_) (fun b ps e=>⟨#[],?_⟩) (fun m hm=>?_) (fun b u e=>?_) I.bare
 ·obtain⟨_,f1,_,f3,f4,f5⟩:=hf b hb
  exact⟨f3,f1,f4,f5⟩
 ·rw[Yh (ql (Qc (qk e) hT))];exact n
 ·rw[Yh (Yw e fr)];exact e
 ·rw[Yh (Yw e fr)];exact e
 ·rw[Yh (Yw e fr),e];simp
 ·obtain⟨ob,es,ep,ho,r⟩:=hm
  exact⟨ob,es,ep,k _ ob (fun z=>(hf _ z).2.1 rfl) ho,r⟩
 ·by_cases hb:b=T
  ·subst hb;rw[Yo]at e;cases e;exact new
  ·rw[Yh hb]at e
   refine(I.hok b u e).stay (fun c v hc q=>k c v ?_ q) (fun c q=>by rw[Yh (Yw q fr)];exact q) fun c xs q=>by rw[Yh (Yw q fr)];exact q
   rcases hc with z | z
   ·rw[z];exact nch b u e
   ·exact nch c _ z
def IteL(K:W.Frag)(a:Addr):It:=
 ⟨fun i H=>∃xs x,SqL K H a xs/\xs[i]?=some x,fun i H x H'=>∃y p,(∀xs,SqL K H a xs->xs[i]?=some y)/\H p=none/\x=.ref p/\H'=upd H p (.tup [.int i,y]),fun i H=>∃xs,SqL K H a xs/\xs.length<=i⟩
def IteT(K:W.Frag)(a:Addr):It:=
 ⟨fun i H=>∃xs x,SqT K H a xs/\xs[i]?=some x,fun i H x H'=>∃y p,(∀xs,SqT K H a xs->xs[i]?=some y)/\H p=none/\x=.ref p/\H'=upd H p (.tup [.int i,y]),fun i H=>∃xs,SqT K H a xs/\xs.length<=i⟩
section
variable {elts:List Expr} {x1:Nat} {pt:Pos}
theorem Yok{P:Program}{w:World}(a it e:Addr)(hei:e≠it):Turn P w K (.Tuple elts x1 pt) (IteL K a) [e,it] e (fun i h=>(∃old,IsEnum h e it i old)/\h.IsListIter it a i) where
 mem:=by simp
 obj:=fun i h st b hb=>by
  obtain⟨⟨old,he⟩,hit⟩:=st
  rcases qr hb with rfl | hb
  ·exact⟨_,he,fun v z=>by cases z⟩
  ·have z:b=it:=by simpa using hb
   subst z
   obtain⟨o,q,c,d⟩:=hit
   exact⟨o,q,fun v z=>by rw[d]at z;cases z⟩
 keep:=fun i h h' st k=>by
  obtain⟨⟨old,he⟩,hit⟩:=st
  exact⟨⟨old,k e (by simp) _ he⟩,hit.at fun o q=>k it (by simp) o q⟩
 item:=by
  intro X hP hw hK hc i pins s σ H E I hf st hg
  subst hP hw hK
  obtain⟨xs,x,hq,hx⟩:=hg
  obtain⟨its,rv,p,hz⟩:=I.list hq
  obtain⟨u,hu,ru⟩:=rv.get hx
  obtain⟨⟨old,he⟩,hit⟩:=st
  refine wpAny_pyNext_enum_item he hit p.isList (x:=u) (by simpa using hu) hei fun h' ho hit' hT hsz hk=>?_
  refine⟨_,rfl,wpAny_letOwnedTupleGo_enum ho fun h2 he2 hs2=>?_⟩
  have fr:H s.heap.objs.size=none:=I.fresh
  have hne:∀b∈[e,it],b≠s.heap.objs.size:=fun b hb z=>by
   rcases qr hb with rfl | hb
   ·exact absurd (qk he) (by rw[z];exact Qe _)
   ·have z2:b=it:=by simpa using hb
    subst z2
    obtain⟨o,q,_⟩:=hit
    exact absurd (qk q) (by rw[z];exact Qe _)
  have kk:∀b o,b∉[e,it]->s.heap.get? b=some o->h2.get? b=some o:=fun b o hb q=>by
   have h1:b≠e:=fun z=>hb (by simp[z])
   have h3:b≠it:=fun z=>hb (by simp[z])
   exact(hs2.2 b h1).trans (hk b o h1 h3 q)
  have tT:h2.get? s.heap.objs.size=some { cls:=.type "tuple",data:=.seq #[.int i s.toks,u] }:=(hs2.2 _ (Ne.symm (hne e (by simp)))).trans hT
  refine⟨.ref s.heap.objs.size,upd H s.heap.objs.size (.tup [.int i,x]),(show Inv X pins σ _ { s with heap:=h2,toks:=s.toks+1 } from Yfb (s:=s) (t':=s.toks+1) I hf kk (qs _) ?_),rfl,⟨x,s.heap.objs.size,fun ys hy=>by rw[I.list_inj hy hq];exact hx,fr,rfl,rfl⟩,⟨⟨_,by simpa using he2⟩,hit'.at fun o q=>(hs2.2 it (Ne.symm hei)).trans q⟩,fun b hb=>?_⟩
  ·exact⟨by rw[sizeLine_eq];show 2<=16777216;decide,[.int i s.toks,u],.cons ⟨_,rfl⟩ (.cons ru .nil),_,tT,rfl,0,rfl⟩
  ·rw[Yh (hne b hb)];exact(hf b hb).1
 done:=by
  intro X hP hw hK hc i pins s σ H E I hf st hg
  subst hP hw hK
  obtain⟨xs,hq,hx⟩:=hg
  obtain⟨its,rv,p,hz⟩:=I.list hq
  obtain⟨⟨old,he⟩,hit⟩:=st
  obtain⟨f0,f1,f2,f3,f4,f5⟩:=hf it (by simp)
  have hl:=rv.length
  exact wpAny_pyNext_enum_end (I.ok.hd hc) he hit p.isList (by simp;lia) fun h' eb=>⟨rfl,I.turned (t':=s.toks) (fun b o hb e=>eb b o hb e) f0 f1 f3 f4 f5⟩
 self:=fun _ _ _ _ _ st h=>let ⟨⟨_,he⟩,_⟩:=st;wpAny_pyIter_enum he h
theorem Yol{P:Program}{w:World}(a it e:Addr)(hei:e≠it):Turn P w K (.Tuple elts x1 pt) (IteT K a) [e,it] e (fun i h=>(∃old,IsEnum h e it i old)/\h.IsTupleIter it a i) where
 mem:=by simp
 obj:=fun i h st b hb=>by
  obtain⟨⟨old,he⟩,hit⟩:=st
  rcases qr hb with rfl | hb
  ·exact⟨_,he,fun v z=>by cases z⟩
  ·have z:b=it:=by simpa using hb
   subst z
   obtain⟨o,q,c,d⟩:=hit
   exact⟨o,q,fun v z=>by rw[d]at z;cases z⟩
 keep:=fun i h h' st k=>by
  obtain⟨⟨old,he⟩,hit⟩:=st
  exact⟨⟨old,k e (by simp) _ he⟩,hit.at fun o q=>k it (by simp) o q⟩
 item:=by
  intro X hP hw hK hc i pins s σ H E I hf st hg
  subst hP hw hK
  obtain⟨xs,x,hq,hx⟩:=hg
  obtain⟨its,rv,p,hz⟩:=I.tuple hq
  obtain⟨u,hu,ru⟩:=rv.get hx
  obtain⟨⟨old,he⟩,hit⟩:=st
  refine Yfv he hit (show s.heap.IsTuple a its.toArray from p) (x:=u) (by simpa using hu) hei fun h' ho hit' hT hsz hk=>?_
  refine⟨_,rfl,wpAny_letOwnedTupleGo_enum ho fun h2 he2 hs2=>?_⟩
  have fr:H s.heap.objs.size=none:=I.fresh
  have hne:∀b∈[e,it],b≠s.heap.objs.size:=fun b hb z=>by
   rcases qr hb with rfl | hb
   ·exact absurd (qk he) (by rw[z];exact Qe _)
   ·have z2:b=it:=by simpa using hb
    subst z2
    obtain⟨o,q,_⟩:=hit
    exact absurd (qk q) (by rw[z];exact Qe _)
  have kk:∀b o,b∉[e,it]->s.heap.get? b=some o->h2.get? b=some o:=fun b o hb q=>by
   have h1:b≠e:=fun z=>hb (by simp[z])
   have h3:b≠it:=fun z=>hb (by simp[z])
   exact(hs2.2 b h1).trans (hk b o h1 h3 q)
  have tT:h2.get? s.heap.objs.size=some { cls:=.type "tuple",data:=.seq #[.int i s.toks,u] }:=(hs2.2 _ (Ne.symm (hne e (by simp)))).trans hT
  refine⟨.ref s.heap.objs.size,upd H s.heap.objs.size (.tup [.int i,x]),(show Inv X pins σ _ { s with heap:=h2,toks:=s.toks+1 } from Yfb (s:=s) (t':=s.toks+1) I hf kk (qs _) ?_),rfl,⟨x,s.heap.objs.size,fun ys hy=>by rw[I.tuple_inj hy hq];exact hx,fr,rfl,rfl⟩,⟨⟨_,by simpa using he2⟩,hit'.at fun o q=>(hs2.2 it (Ne.symm hei)).trans q⟩,fun b hb=>?_⟩
  ·exact⟨by rw[sizeLine_eq];show 2<=16777216;decide,[.int i s.toks,u],.cons ⟨_,rfl⟩ (.cons ru .nil),_,tT,rfl,0,rfl⟩
  ·rw[Yh (hne b hb)];exact(hf b hb).1
 done:=by
  intro X hP hw hK hc i pins s σ H E I hf st hg
  subst hP hw hK
  obtain⟨xs,hq,hx⟩:=hg
  obtain⟨its,rv,p,hz⟩:=I.tuple hq
  obtain⟨⟨old,he⟩,hit⟩:=st
  obtain⟨f0,f1,f2,f3,f4,f5⟩:=hf it (by simp)
  have hl:=rv.length
  exact Ygb (I.ok.hd hc) he hit (show s.heap.IsTuple a its.toArray from p) (by simp;lia) fun h' eb=>⟨rfl,I.turned (t':=s.toks) (fun b o hb e=>eb b o hb e) f0 f1 f3 f4 f5⟩
 self:=fun _ _ _ _ _ st h=>let ⟨⟨_,he⟩,_⟩:=st;wpAny_pyIter_enum he h
variable {X:Cx} {pos:Pos}
def y0r(K:W.Frag)(ta:TA):TI:=fun σ H R=>ta σ H fun vs H1=>∃a xs,vs=[.ref a]/\((SqL K H1 a xs/\(xs.length<=sizeLine->R (IteL K a) H1))\/(SqT K H1 a xs/\(xs.length<=sizeLine->R (IteT K a) H1)))
theorem Yvs{l:Expr}{ta:TA}{p:Pos}(hg:Gl X "enumerate")(hm:X.mg "enumerate"=none)(ha:PA X [l] ta)(hs:starEach [l] X.env=[(false,eval l X.env)]:=by rfl):PI X (.Tuple elts x1 pt) (.Call (.Name "enumerate" p) [l] [] pos) (y0r X.K ta):=by
 intro pins s σ H R I h
 refine Call_ (Yj2 I hg hm boot_enumerate (PyProof.Rows.callWith_type1 (thn (ha pos pins s σ H _ I h) fun us s1 hx_=>?_) hs rfl))
 obtain⟨vs,H1,I1,r1,q1⟩:=hx_
 obtain⟨a,xs,rfl,q⟩:=q1
 obtain⟨u,rfl,ru⟩:=Ygj r1
 cases ru
 have fin:∀(h':Heap),h'.objs.size=s1.heap.objs.size+2->(∀b o,s1.heap.get? b=some o->h'.get? b=some o)->∀b∈[s1.heap.objs.size+1,s1.heap.objs.size],FpOk X pins H1 b:=fun h' hz hk b hb=>by
  have hb':s1.heap.objs.size<=b:=by
   rcases qr hb with rfl | hb
   ·exact Nat.le_succ _
   ·have:b=s1.heap.objs.size:=by simpa using hb
    lia
  exact I1.fpOk hb' (I1.hok.fresh hb')
 rcases q with⟨hq,q⟩ | ⟨hq,q⟩
 ·obtain⟨its,rv,pl,hz⟩:=I1.list hq
  refine call_enumerate_list pl.isList fun h' he hit hsz hk=>wpAny_pyIter_enum (s:={ s1 with heap:=h' }) he ?_
  exact⟨_,[s1.heap.objs.size+1,s1.heap.objs.size],_,_,H1,rfl,I1.kept (t':=s1.toks) hk,Yok a s1.heap.objs.size _ (Nat.succ_ne_self _),⟨⟨_,he⟩,hit⟩,fin h' hsz hk,q hz⟩
 ·obtain⟨its,rv,pl,hz⟩:=I1.tuple hq
  refine Yej (show s1.heap.IsTuple a its.toArray from pl) fun h' he hit hsz hk=>wpAny_pyIter_enum (s:={ s1 with heap:=h' }) he ?_
  exact⟨_,[s1.heap.objs.size+1,s1.heap.objs.size],_,_,H1,rfl,I1.kept (t':=s1.toks) hk,Yol a s1.heap.objs.size _ (Nat.succ_ne_self _),⟨⟨_,he⟩,hit⟩,fin h' hsz hk,q hz⟩
def Yg1(l:List D):List D:=(List.range l.length).map fun i:Nat=>.tup [.int (i:Int),l.getD i .non]
def Yl1(c:D):Option (List D):=(Ys c).map Yg1
theorem Yg2{l:List D}{i:Nat}{d:D}(h:(Yg1 l)[i]?=some d):∃e,l[i]?=some e/\d=.tup [.int i,e]:=by
 unfold Yg1 at h
 rw[Qd]at h
 obtain⟨j,h1,rfl⟩:=qb h
 have hj:i < l.length:=by
  have:=(qm h1).1
  simpa using this
 rw[List.getElem?_range hj]at h1
 cases h1
 exact⟨l[i],qp hj,by simp[hj]⟩
theorem Ya6(l:List D):(Yg1 l).length=l.length:=by simp[Yg1]
theorem Gr.newTup{H G:Hp}{d:D}{x:V}(s:Same G H){p:Addr}(hp:H p=none)(i:Nat)(r:Rp K G d x):∃G3,Gr H G (upd H p (.tup [.int i,x])) G3/\Rp K G3 (.tup [.int i,d]) (.ref p):=by
 refine⟨_,Gr.new s hp (.tup [.int i,x]),?_⟩
 rw[Rp]
 exact⟨p,_,rfl,Yo,.cons (by rw[Rp]) (.one (r.mono (Gr.new s hp _).g))⟩
theorem Yko{l:Expr}{f:Ro->Option D}{p:Pos}(hg:Gl X "enumerate")(hm:X.mg "enumerate"=none)(hl:ME X l f)(hs:starEach [l] X.env=[(false,eval l X.env)]:=by rfl) :
 MI X (.Tuple elts x1 pt) (.Call (.Name "enumerate" p) [l] [] pos) (b1 f Yl1):=
 PI.imp (Yvs hg hm (Yp1 hl Ytm hs) hs) fun σ H R hx_=>by
  obtain⟨ρ,ds,H0,G0,G,e,s,h⟩:=hx_
  obtain⟨c,h1,h2⟩:=Ybs e
  obtain⟨l,h3,rfl⟩:=qb h2
  refine tAof.at (show Ye f aNil ρ=some [c] by simp[Ye,aNil,h1]) s fun vs H1 G1 g1 r1 s1=>?_
  obtain⟨v,rfl,rv⟩:=Ygt r1
  rcases Yab h3 with rfl | rfl | ⟨ns,rfl,rfl⟩
  ·rw[Rp]at rv
   obtain⟨p,xs,rfl,g,rl⟩:=rv
   refine⟨p,xs,rfl,.inr ⟨.inl (.inl (s1.seen _ _ g)),fun hz=>h _ H1 G1 g1 ⟨by rw[Ya6,<-rl.length];exact hz,fun i H2 G2 e1 e2=>⟨fun d hd=>?_,fun hi=>⟨xs,.inl (.inl (e2 _ _ (e1 _ _ g))),by rw[rl.length,<-Ya6 l];exact hi⟩⟩⟩⟩⟩
   obtain⟨d',hd',rfl⟩:=Yg2 hd
   obtain⟨x,hx,rx⟩:=rl.get hd'
   refine⟨⟨xs,x,.inl (.inl (e2 _ _ (e1 _ _ g))),hx⟩,fun y H3 q=>?_⟩
   obtain⟨y',q',a1,a2,rfl,rfl⟩:=q
   have:=a1 xs (.inl (.inl (e2 _ _ (e1 _ _ g))))
   rw[hx]at this
   cases this
   exact Gr.newTup e2 a2 i (rx.mono e1)
  ·rw[Rp]at rv
   obtain⟨p,xs,rfl,g,rl⟩:=rv
   refine⟨p,xs,rfl,.inl ⟨.inl (Yap s1.seen g),fun hz=>h _ H1 G1 g1 ⟨by rw[Ya6,<-rl.length];exact hz,fun i H2 G2 e1 e2=>⟨fun d hd=>?_,fun hi=>⟨xs,.inl (Yap e2 (Yap e1 g)),by rw[rl.length,<-Ya6 l];exact hi⟩⟩⟩⟩⟩
   obtain⟨d',hd',rfl⟩:=Yg2 hd
   obtain⟨x,hx,rx⟩:=rl.get hd'
   refine⟨⟨xs,x,.inl (Yap e2 (Yap e1 g)),hx⟩,fun y H3 q=>?_⟩
   obtain⟨y',q',a1,a2,rfl,rfl⟩:=q
   have:=a1 xs (.inl (Yap e2 (Yap e1 g)))
   rw[hx]at this
   cases this
   exact Gr.newTup e2 a2 i (rx.mono e1)
  ·rw[Rp]at rv
   obtain⟨p,rfl,g⟩:=rv
   have rl:RpL X.K G1 (ns.map D.int) (ns.map V.int):=.ints ns
   refine⟨p,_,rfl,.inl ⟨s1.seen.seq g,fun hz=>h _ H1 G1 g1 ⟨by rw[Ya6,<-rl.length];exact hz,fun i H2 G2 e1 e2=>⟨fun d hd=>?_,fun hi=>⟨_,e2.seq (e1.seq g),by rw[rl.length,<-Ya6];exact hi⟩⟩⟩⟩⟩
   obtain⟨d',hd',rfl⟩:=Yg2 hd
   obtain⟨x,hx,rx⟩:=rl.get hd'
   refine⟨⟨_,x,e2.seq (e1.seq g),hx⟩,fun y H3 q=>?_⟩
   obtain⟨y',q',a1,a2,rfl,rfl⟩:=q
   have:=a1 _ (e2.seq (e1.seq g))
   rw[hx]at this
   cases this
   exact Gr.newTup e2 a2 i (rx.mono e1)
end
end
section
variable {K:W.Frag}
end
section
open Sem (wp)
variable {K:W.Frag}
end
section
variable {K:W.Frag}
section
variable {X:Cx} {e ie:Expr} {f fb:Ro->Option D} {pos:Pos}
def rExt:V->List V->Hp->VK->Prop:=fun x vs H Q=>∃l b xs zs,x=.ref l/\vs=[.ref b]/\H l=some (.lst xs)/\Rd H b (.lst zs)/\xs.length+zs.length<=sizeLine/\Q .non (upd H l (.lst (xs++zs)))
theorem Yyw:MtM X "list.extend" rExt:=by
 intro pins s σ H x vs v us Q I rx rv h
 obtain⟨l,b,xs,zs,rfl,rfl,hH,hB,hz,q⟩:=h
 cases rx
 obtain⟨u,rfl,ru⟩:=rv.one
 cases ru
 obtain⟨z,its,n,r,hl,e⟩:=I.lstM hH
 obtain⟨z2,its2,n2,r2,e2⟩:=hB.ok I.hok
 have hl2:=r2.length
 have hsz:its.toArray.size+its2.toArray.size<=sizeLine:=by rw[qj,qj];lia
 have hlong:¬(!its.toArray.isEmpty&&Builtin.List.listTooLong (its.toArray.size+its2.toArray.size))=true:=by
  rw[Yr9 hsz,Bool.and_false]
  exact qh
 refine call_meets F.slot_list_extend ⟨_,e,rfl⟩ F.entry_list_extend (F.args_list_extend_2 _ _)
  (AutoSeq1.list_extend_list_list_0 l its.toArray n b its2.toArray n2 hlong (by rw[qj];lia) (by lia)) ⟨e,e2,?_⟩
 refine⟨.non,_,I.lset (its':=its++its2) hH e (by simp) (r.append r2) ?_,rfl,q⟩
 rw[qw]
 lia
def extD(l:List D)(d:D):Option (List D):=match d with
 | .lst m=>if l.length+m.length<=cap6 then some (l++m)else none
 | _=>none
theorem Yqi(i:Nat){x:Str}{p2 apos cpos:Pos}(he:ME X e f)(hN:X.N[i]?=some x:=by rfl)(hv:Vis X.env.scope x:=by first | exact Or.inl rfl | exact Or.inr (Or.inl rfl) | exact Or.inr (Or.inr rfl))
 (hd:(x==("__debug__":Str))=false:=by decide) (hcd:(x==("__classdict__":Str))=false:=by decide) (hse:swapsWith (.Call (.Attribute (.Name x p2) "extend" apos) [e] [] cpos) none pos.line X.env=pure false:=by rfl)
 (hs:starEach [e] X.env=[(false,eval e X.env)]:=by rfl)
 (hfew:((backTo cpos (starEach [e] X.env)).all (fun x=>!x.1)&&(backToKw cpos (keywordEach [] X.env)).all (fun x=>x.1.isSome)&&decide ([e].length+([]:List Keyword).length+(if ([]:List Keyword).isEmpty then 0 else 1) < 30))=true:=by rfl)
 (hline:(apos.endLine==cpos.line)=true:=by rfl) (hbase:attributeBase (.Name x p2) "extend" X.env (eval (.Name x p2) X.env)=eval (.Name x p2) X.env:=by rfl) :
 MS X (.Expr (.Call (.Attribute (.Name x p2) "extend" apos) [e] [] cpos) pos) (sMut i f extD):=
 PS.imp (Yeq (Ypk PySem.F.plainAttrs_list PySem.F.slot_list_extend PySem.F.type_list_extend Yyw (Ye2 hN hv hd hcd) (Yas he Ybz hs) hbase hfew hline hs rfl) hse) fun F σ H hx_=>by
  obtain⟨ρ,out,H0,G0,G,e,s,h⟩:=hx_
  unfold sMut at e
  obtain⟨l,h1,e⟩:=qa e
  obtain⟨d,h2,e⟩:=qa e
  obtain⟨l',h3,rfl⟩:=qb e
  unfold extD at h3
  split at h3
  ·rename_i m
   split at h3
   ·rename_i hl
    cases h3
    obtain⟨a,xs,ha,hH,hr,hG⟩:=Ynd s h1
    refine⟨_,ha,.inl ⟨rfl,xs,SqL.of hH⟩,tOf.at h2 s fun v H1 G1 g1 r1 s1=>?_⟩
    rw[Rp]at r1
    obtain⟨b,zs,rfl,gb,rz⟩:=r1
    refine⟨a,b,xs,zs,rfl,rfl,g1.h _ _ hH,Yap s1.seen gb,?_,h σ _ G1 (s1.mut (Ydp h1) ha ((hr.mono g1.g).append rz))⟩
    rw[hr.length,rz.length]
    exact Yc5 hl
   ·cases h3
  ·cases h3
end
end
section
variable {K:W.Frag}
def GI(mg:Str->Option Value)(x:Str)(i:Int):Prop:=∃t,mg x=some (.int i t)
section
variable {X:Cx} {ke:Expr} {fk:Ro->Option D} {pos px:Pos} {x:Str}
theorem Yvt{i:Int}(g:GI X.mg x i)(hg:Gl X x)(hd:(x==("__debug__":Str))=false:=by decide):ME X (.Name x px) (kD (.int i)):=by
 obtain⟨t,hm⟩:=g
 exact Ye8 (v:=.int i) (Yo5 (v:=.int i) hg hm ⟨t,rfl⟩ hd) (fun _ _ _ q=>q) fun _=>by rw[Rp]
end
def tK(x:Str):TE:=fun _ H Q=>Q (.str x) H
structure MP(X:Cx)(pos:Pos)(keys:List (Option Expr))(values:List Expr)(ks:List Str)(fs:List (Ro->Option D)):Prop where
 len:ks.length=fs.length
 pps:PPs X pos keys values ((ks.zip fs).map fun p=>(tK p.1,tOf X.K p.2))
 all:keys.all (·.isSome)=true
 kv:keys.length=values.length
 kk:keys.length=ks.length
end
section
variable {K:W.Frag}
structure DtH(H:Hp)(a:Addr)(nks:List (List Int × Addr))(vxs:List V):Prop where
 at':∃ep,H a=some (dTo a nks vxs ep)
 len:nks.length=vxs.length
 nd:(nks.map (·.1)).Nodup
 keys:∀p∈nks,∃ys,H p.2=some (.tup ys)/\Yu7 ys=some p.1
end
section
end
section
section
variable {X:Cx} {a b c e:Expr} {fa fb fc:Ro->Option D} {pos:Pos} {st:Stmt}
def nS:Ro->Option Out:=fun _=>none
theorem Ysp:MS X st nS:=fun _ _ _ _ _ _ ⟨_,_,_,_,_,h,_⟩=>nomatch h
end
end
section
section
variable {X:Cx} {e:Expr} {f:Ro->Option D} {fc:Ro->Option Bool} {gl:Ro->Option (List D)} {K:W.Frag}
def Yqj:D->Bool
 | .non | .bl _ | .int _ | .str _=>true
 | _=>false
def scal(d:D):Option D:=if Yqj d=true then some d else none
theorem Rp.scal{G G':Hp}{d:D}{v:V}(h:Yqj d=true)(r:Rp K G d v):Rp K G' d v:=by
 cases d<;>first | (rw[Rp]at r ⊢;exact r) | cases h
theorem Gr.back{H G H' G' G1:Hp}(s:Same G H)(g:Gr H G1 H' G'):Gr H G H' G:=⟨g.h,Same.refl _,s.trans g.h,fun _ h h'=>absurd h h'⟩
def Yvu(is:List Nat)(f:Ro->Option Bool):Ro->Option Bool:=fun ρ=>f (frz is ρ)
mutual
def plB:D->Bool
 | .non=>true
 | .bl _=>true
 | .int _=>true
 | .str _=>true
 | .tup l=>plBL l
 | .lst _=>false
 | .scr _=>false
 | .dct _ _ _=>false
 | .obj _ _ _=>false
 | .adr _=>false
def plBL:List D->Bool
 | []=>true
 | d::l=>plB d&&plBL l
end
mutual
theorem Rp.plain{G G':Hp}(hG:∀b ys,G b=some (HO.tup ys)->G' b=some (HO.tup ys)):∀{d:D} {v:V},plB d=true->Rp K G d v->Rp K G' d v
 | .non,_,_,r=>by rw[Rp]at r ⊢;exact r
 | .bl _,_,_,r=>by rw[Rp]at r ⊢;exact r
 | .int _,_,_,r=>by rw[Rp]at r ⊢;exact r
 | .str _,_,_,r=>by rw[Rp]at r ⊢;exact r
 | .tup l,_,h,r=>by
   rw[Rp]at r ⊢
   rw[plB]at h
   obtain⟨a,xs,e,g,q⟩:=r
   exact⟨a,xs,e,hG _ _ g,RpL.plain hG h q⟩
 | .lst _,_,h,_=>by rw[plB]at h;cases h
 | .scr _,_,h,_=>by rw[plB]at h;cases h
 | .dct _ _ _,_,h,_=>by rw[plB]at h;cases h
 | .obj _ _ _,_,h,_=>by rw[plB]at h;cases h
 | .adr _,_,h,_=>by rw[plB]at h;cases h
theorem RpL.plain{G G':Hp}(hG:∀b ys,G b=some (HO.tup ys)->G' b=some (HO.tup ys)):∀{l:List D} {xs:List V},plBL l=true->RpL K G l xs->RpL K G' l xs
 | [],_,_,r=>by rw[RpL]at r ⊢;exact r
 | d::l,_,h,r=>by
   rw[RpL]at r ⊢
   rw[plBL,Qg]at h
   obtain⟨x,xs,e,g,q⟩:=r
   exact⟨x,xs,e,Rp.plain hG h.1 g,RpL.plain hG h.2 q⟩
end
theorem Yvv(is:List Nat)(h:MT X e fc):MT X e (Yvu is fc):=PT.imp h fun σ H Q hx_=>by
 obtain⟨ρ,d,H0,G0,G,e,s,h⟩:=hx_
 obtain⟨G',s'⟩:=SR.frz is s
 exact⟨frz is ρ,d,H0,G0,G',e,s',fun H1 G1 g=>h H1 G (.back s.seen g)⟩
end
end
section
variable {K:W.Frag}
set_option maxRecDepth 100000
end
section
section
variable {X:Cx} {a b e:Expr} {fa fb f:Ro->Option D} {pos:Pos} {K:W.Frag}
theorem Yhu{M:Model}{A:Around}{E:Value->Shared->Prop}{s:Shared}{Q:Value->Shared->Prop}{v:Value}{k:Bool}(hb:∀id,v≠.builtin id)(h:Q (.bool (!(v==.bool k))) s):wpAny M A (compareOp .IsNot v (.bool k)) Q E s:=by
 cases v<;>first | exact wpAny_pure h | exact absurd rfl (hb _)
def isBl(k:Bool):D->Bool
 | .bl j=>j==k
 | _=>false
def isB(neg:Bool):D->D->Option Bool
 | d,.bl k=>some (isBl k d != neg)
 | _,_=>none
theorem vbl{x:V}{v:Value}(r:RelV x v)(k:Bool):(v==.bool k)=decide (x=.bl k):=by
 cases x with
 | bl j=>
   cases (show v=Value.bool j from r)
   by_cases h:j=k
   ·subst h;simp
   ·simp[h]
 | non=>cases (show v=Value.none from r);rfl
 | int i=>obtain⟨t,rfl⟩:=r;rfl
 | str i=>obtain⟨t,rfl⟩:=r;rfl
 | ref i=>cases (show v=Value.ref i from r);rfl
 | _=>first | (obtain⟨t,rfl⟩:=r;rfl) | (cases r;rfl)
theorem nobl{x:V}{v:Value}(r:RelV x v):∀id,v≠.builtin id:=fun id z=>by
 subst z
 cases x<;>first | (obtain⟨t,h⟩:=r;cases h;done) | (cases r;done)
theorem Yvw:OpR X (compareOp .IsNot) (fun x y H Q=>∃k,y=.bl k/\Q (.bl (decide (x=.bl k) != true)) H):=by
 intro pins s σ H x y v u Q I rx ry h
 obtain⟨k,rfl,q⟩:=h
 cases ry
 refine Yhu (nobl rx) ⟨_,H,I,?_,q⟩
 rw[vbl rx]
 simp
 rfl
theorem Yvx{G H:Hp}{d:D}{v:V}(r:Ct K G H d v)(k:Bool):decide (v=.bl k)=isBl k d:=by
 cases d with
 | bl j=>
   rw[Ct]at r
   subst r
   by_cases h:j=k
   ·subst h;simp[isBl]
   ·simp[isBl,h]
 | non=>rw[Ct]at r;subst r;simp[isBl]
 | int i=>rw[Ct]at r;subst r;simp[isBl]
 | str i=>rw[Ct]at r;obtain⟨rfl,_⟩:=r;simp[isBl]
 | tup l=>rw[Ct]at r;obtain⟨a,xs,rfl,_⟩:=r;simp[isBl]
 | lst l=>rw[Ct]at r;obtain⟨a,xs,rfl,_⟩:=r;simp[isBl]
 | scr l=>rw[Ct]at r;obtain⟨a,rfl,_⟩:=r;simp[isBl]
 | dct t l m=>rw[Ct]at r;obtain⟨a,xs,ys,rfl,_⟩:=r;simp[isBl]
 | obj t l m=>rw[Ct]at r;obtain⟨a,C,dx,xs,rfl,_⟩:=r;simp[isBl]
 | adr a=>rw[Ct]at r;subst r;simp[isBl]
theorem Yvy{neg:Bool}:Yht K (fun x y H Q=>∃k,y=.bl k/\Q (.bl (decide (x=.bl k) != neg)) H) (isB neg):=by
 intro x y dx dy c H G Q h s rx ry q
 unfold isB at h
 split at h
 ·rename_i k
  cases h
  have e:=Yvx rx k
  rw[Ct]at ry
  subst ry
  exact⟨k,rfl,by rw[e];exact q⟩
 ·cases h
theorem Yvz(ha:MC X a fa)(hb:MC X b fb):MT X (.Compare a [.IsNot] [b] pos) (b2 fa fb (isB true)):=Ye9 Yvw Yvy ha hb (Ycx _)
end
end
section
set_option maxRecDepth 100000
def Ytp:List D->Option (List (Int × D))
 | []=>some []
 | .tup [.int i,v]::l=>(Ytp l).map ((i,v)::·)
 | _=>none
def pairsOf:D->Option (List (Int × D))
 | .lst l=>Ytp l
 | _=>none
variable {K:W.Frag}
end
section
def Yv0:List Value->List Str->Prop:=Paired fun v k=>(∃t,v=.str k t)/\PyData.strOk k=true
def GT(K:W.Frag)(mg:Str->Option Value)(x:Str)(ks:List Str):Prop:=∃p o its n,mg x=some (.ref p)/\K.lookup p=some o/\o.cls=.type "tuple"/\o.data=.seq its n/\Yv0 its.toList ks
theorem Yii{h:Heap}:∀{vs:List Value} {ks:List Str},Yv0 vs ks->∃as,ReadsAll h vs (ks.map PyData.str) as/\PyData.canLayAll0 (ks.map PyData.str)=true
 | _,_,.nil=>⟨_,.nil,by simp[PyData.canLayAll0]⟩
 | _,_,.cons r t=>by
   obtain⟨⟨tk,rfl⟩,hk⟩:=r
   obtain⟨as,h1,h2⟩:=Yii (h:=h) t
   exact⟨_,.cons (.str _ tk) h1,by simp[PyData.canLayAll0,PyData.canLay0,h2,hk]⟩
def inG(neg:Bool)(ks:List Str):D->Option Bool
 | .str k=>some (decide (k∈ks) != neg)
 | _=>none
def rInG(p:Addr)(ks:List Str)(neg:Bool):R2:=fun x y H Q=>∃k,x=.str k/\PyData.strOk k=true/\y=.ref p/\Q (.bl (decide (k∈ks) != neg)) H
theorem Yqk(k:Str):∀ks:List Str,((ks.map PyData.str).any fun y=>PyData.eqv y (.str k))=decide (k∈ks)
 | []=>rfl
 | a::ks=>by
   rw[qz,List.any_cons,Yqk k ks]
   have e:PyData.eqv (.str a) (.str k)=decide (k=a):=by
    simp only[PyData.eqv]
    rw[show(a==k)=decide (a=k) from rfl]
    exact decide_eq_decide.mpr ⟨fun h=>h.symm,fun h=>h.symm⟩
   rw[e]
   by_cases h:k=a<;>simp[h]
end
section
end
section
set_option maxRecDepth 100000
section
variable {prog:Program} {w:World} {A:Around} {E:Value->Shared->Prop} {s:Shared}
theorem Yl2:isSubtype (.type "set") (.type "set")=pure true:=by rw[isSubtype_type];kernel_rfl
theorem Yv1{vals:List Int}:∀{acc:List Value},acc.length=vals.length->(∀(j:Nat) v,acc[j]?=some v->PInt vals j v)->IntsAre acc vals:=by
 induction vals with
 | nil=>
   intro acc h _
   rw[List.length_eq_zero_iff.mp h]
   exact .nil
 | cons k r ih=>
   intro acc h hp
   match acc,h with
   | v::acc,h=>
     obtain⟨k',t,e1,e2⟩:=hp 0 v rfl
     simp at e1
     subst e1
     subst e2
     refine .cons _ t (ih (by simpa using h) fun j v hj=>?_)
     obtain⟨k',t,e1,e2⟩:=hp (j+1) v (by simpa using hj)
     exact⟨k',t,by simpa using e1,e2⟩
theorem Yl3{a:Addr}{ns:List Int}(hh:A.handled=none)(hS:SetI prog w s.heap a ns){Q:List Value->Shared->Prop}
 (hQ:∀(h':Heap) (d':Drawn) (tk:Nat) (acc:List Value) (vals:List Int),s.heap.objs.size<=h'.objs.size->(∀b o,s.heap.get? b=some o->h'.get? b=some o)->IntsAre acc vals->vals.Perm ns->Q acc { s with heap:=h',drawn:=d',toks:=tk }) :
 wpAny (model prog w) A (collect (.ref a)) Q E s:=by
 obtain⟨o,es,ep,t,ho,hex,hd,_⟩:=id hS
 have hlt:a < s.heap.objs.size:=qk ho
 have hlen:=hS.len
 unfold collect
 refine wpAny_bind (wpAny_runValue (codeAny_builtin F.entry_proto_collect ?_))
 rw[Around.under_plainId F.plain_proto_collect _]
 show wpAny _ A.in1 (newList [] >>= fun l=>again (.builtin "list.__iadd__" ⟨[l,.ref a],[]⟩)) _ _ s
 refine wpAny_bind (wpAny_newObj_type ?_)
 refine wpAny_pure ⟨plainId_quiet F.plain_list_iadd _,codeAny_builtin F.entry_list_iadd ?_⟩
 rw[Around.under_plainId F.plain_list_iadd _]
 generalize hH:s.heap.push { cls:=.type "list",data:=.seq ([]:List Value).toArray }=H
 have hHs:H.objs.size=s.heap.objs.size+1:=by rw[<-hH,Heap.size_push]
 have keepH:∀b o,s.heap.get? b=some o->H.get? b=some o:=fun b o e=>by rw[<-hH];exact qd _ e
 have hL:H.get? s.heap.objs.size=some { cls:=.type "list",data:=.seq ([]:List Value).toArray }:=by rw[<-hH];exact qo _ rfl
 have hoH:=keepH a o ho
 have hT:Shared.TypeIs { s with heap:=H } (.ref a) "set":=⟨o,hoH,hex.1⟩
 have hSI:s.heap.objs.size≠a:=fun z=>by rw[<-z]at hlt;exact absurd hlt (Qe _)
 have h1:Builtin.List.listSameRef (.ref s.heap.objs.size) (.ref a)=false:=by simp[Builtin.List.listSameRef,hSI]
 show wpAny _ A.in1 (Builtin.List.listExtendWith (.ref s.heap.objs.size) (.ref a) (.ref s.heap.objs.size)) _ _ _
 unfold Builtin.List.listExtendWith
 refine wpAny_bind (wpAny_typeOf hT ?_)
 have h2:(Value.type "set"==Value.type "list")=false:=by decide
 have h3:(Value.type "set"==Value.type "tuple")=false:=by decide
 simp only[h1,h2,h3,Bool.or_false,Bool.false_eq_true,if_false]
 refine wpAny_bind (Yse (s:={ s with heap:=H }) (hS.at fun o e=>keepH a o e) fun h' d' I fp vals St keep hI hIf hfp hp hW hst hty=>?_)
 have ho':=keep a o hoH
 have hT':Shared.TypeIs { s with heap:=h',drawn:=d' } (.ref a) "set":=⟨o,ho',hex.1⟩
 refine wpAny_bind (wpAny_holding ?_)
 unfold Builtin.List.listLengthHint
 refine wpAny_bind (wpAny_specialOf hT' F.slot_set_len.lookup ?_)
 (generalize hid:("set.__len__":String)=id0;(fail_if_success (clear hid id0));wp_delta;rw[show splitId id0=some ("set","__len__") from by subst hid;decide +kernel];subst hid)
 refine wpAny_bind (wpAny_isInstance (b:=true) hT' Yl2 ?_)
 show wpAny _ A.in1 (typeOf (Value.ref a) >>= _) _ _ _
 refine wpAny_bind (wpAny_typeOf hT' ?_)
 refine wpAny_pure ?_
 rw[if_pos (by decide)]
 refine wpAny_bind (wpAny_rule ?_)
 have hSf:s.heap.objs.size∉fp:=fun hm=>by
  rcases(hfp _ hm).2 with z | z
  ·exact hSI z
  ·rw[show({ s with heap:=H }:Shared).heap.objs.size=H.objs.size from rfl,hHs]at z
   exact absurd z (Nat.not_le.mpr (qx _))
 have hS₁:h'.get? s.heap.objs.size=some { cls:=.type "list",data:=.seq ([]:List Value).toArray }:=keep _ _ hL
 refine wpAny_bind ?_
 show wpAny _ A.in1 (updateSeq s.heap.objs.size (·.push .none) >>= fun _=>updateSeq s.heap.objs.size (·.pop)) _ _ _
 refine wpAny_bind (wpAny_updateSeq hS₁ rfl ?_)
 have hS₂:=Heap.get?_update_self (Obj.mapSeq (·.push Value.none)) hS₁ rfl
 refine wpAny_updateSeq hS₂ rfl ?_
 have hS₃:=Heap.get?_update_self (Obj.mapSeq (·.pop)) hS₂ rfl
 have oth:∀b o,b≠s.heap.objs.size->h'.get? b=some o->
  ((h'.update s.heap.objs.size (Obj.mapSeq (·.push Value.none))).update s.heap.objs.size (Obj.mapSeq (·.pop))).get? b=some o:=
  fun b o hb e=>(Heap.get?_update_other _ _ (Ne.symm hb)).trans ((Heap.get?_update_other _ _ (Ne.symm hb)).trans e)
 have W:=(hW A.in1 hh).toS
 refine wpAny_pure ⟨plainId_quiet F.plain_extend_loop _,codeAny_extend_loopS W (fits_of_scanBound hlen) _ hSf _ ns.length 0 _ _ _ rfl (Qb _)
  (W.frame 0 ({ s with heap:=h',drawn:=d' }:Shared) _ s.toks hst (qs _) fun b hb o e=>oth b o (fun h=>hSf (h ▸ hb)) e) hS₃ (ItemsOf.nil _) fun s' acc' c' hm hS' hacc=>?_⟩
 show wpAny _ A (load s.heap.objs.size >>= _) _ _ s'
 refine wpAny_bind (wpAny_load hS' ?_)
 have eg:s'.gens=s.gens:=hm.gens
 have ed:s'.drawn=d':=hm.drawn
 have eo:s'.os=s.os:=hm.os
 have es':s'={ s with heap:=s'.heap,drawn:=d',toks:=s'.toks }:=by
  obtain⟨a1,a2,a3,a4,a5⟩:=s'
  simp only at eg ed eo
  subst eg;subst ed;subst eo
  rfl
 rw[es']
 refine wpAny_pure (hQ s'.heap d' s'.toks acc'.toList vals (Nat.le_of_lt (qk hS')) (fun b ob e=>?_) (Yv1 (by rw[qi,hacc.1,hp.length_eq]) fun j v hj=>hacc.2 j v (by rw[<-Array.getElem?_toList];exact hj)) hp)
 have hb:b < s.heap.objs.size:=qk e
 refine hm.heap b ob (fun hm'=>?_) (oth b ob (ql hb) (keep b ob (keepH b ob e)))
 rcases qr hm' with z | z
 ·rw[z]at hb;exact absurd hb (Qe _)
 ·rw[List.mem_singleton.mp z]at hb
  have:H.objs.size<=I:=hI
  rw[hHs]at this
  exact absurd (Qc hb (qy (Nat.le_succ _) this)) (Qe _)
theorem Yom{a:Addr}{ns:List Int}(hh:A.handled=none)(hS:SetI prog w s.heap a ns)(h64:ns.length < 64){Q:Value->Shared->Prop}
 (hQ:∀(h':Heap) (d':Drawn) (tk e:Nat) (p:Addr) (out:Array Value) (ns':List Int),(∀b o,s.heap.get? b=some o->h'.get? b=some o)->s.heap.objs.size<=p->h'.get? p=some (seqObj "list" out e)->IntsAre out.toList ns'->ns'.Perm ns->ns'.Pairwise (·<=·)->
  Q (.ref p) { s with heap:=h',drawn:=d',toks:=tk }):wpAny (model prog w) A (call (.builtin "sorted") [.ref a]) Q E s:=by
 refine Calls.call_function_entry kind_sorted plain_sorted entry_sorted (args_sorted1 _) ?_
 unfold Builtin.«sorted»
 refine wpAny_bind (m:=checkCount "sorted" 1 1 _) (wpAny_pure ?_)
 refine wpAny_bind (Yl3 (A:=A.in1) hh hS fun h' d' tk acc vals hle keep hI hp=>?_)
 have hl:acc.length=vals.length:=IntsAre.length hI
 have h64':acc.length < 64:=by rw[hl,hp.length_eq];exact h64
 refine wpAny_bind (wpAny_newList ?_ (by rw[sizeLine_eq];lia))
 have hoL:(h'.push (seqObj "list" acc.toArray 0)).get? h'.objs.size=some (seqObj "list" acc.toArray 0):=qo _ rfl
 show wpAny _ _ _ _ _ { s with heap:=h'.push (seqObj "list" acc.toArray 0),drawn:=d',toks:=tk }
 refine wpAny_bind (wpAny_holding (wpAny_call_entry slot_list_sort ⟨_,hoL,rfl⟩ entry_list_sort (list_sort_tree (s:={ s with heap:=h'.push (seqObj "list" acc.toArray 0),drawn:=d',toks:=tk }) hoL hI h64' fun out ns' a1 a2 a3=>⟨_,rfl,?_⟩) (args_list_sort _)))
 obtain⟨e,he⟩:=sortedHeap_at (n:=0) (out:=out) hoL
 refine wpAny_pure ⟨_,rfl,hQ _ d' tk e h'.objs.size out ns' (fun b o eb=>?_) hle he a1 (a2.trans hp) a3⟩
 have hb:=qk (keep b o eb)
 rw[sortedHeap_old (ql hb) (by rw[size_push'];exact qu hb)]
 exact qd _ (keep b o eb)
end
def setO(P:Program)(w:World)(p:Addr)(ms:List Int):HO:=.ext fun h=>SetI P w h p ms
theorem Yql{P:Program}{w:World}{H:Hp}{h:Heap}{p:Addr}{ms:List Int}(x:SetI P w h p ms):ObjOk P w H h p (setO P w p ms):=by
 refine⟨x,?_,fun h1 h2 e k=>e.at k⟩
 obtain⟨o,_,_,_,ho,_⟩:=x
 exact⟨o,ho⟩
section
variable {X:Cx} {pins:List (Addr × Obj)} {σ:L2.St} {H:Hp} {s:Shared} {e:Expr} {f:Ro->Option D} {p p2 pos pos2:Pos}
theorem _root_.L2.Inv.dr(I:Inv X pins σ H s)(d':Drawn):Inv X pins σ H { s with drawn:=d' }:=⟨I.ok,I.os,I.bare,I.base,I.loc,I.cell,I.free,I.freeC,I.pin,I.hok,I.len⟩
theorem Ykp{ns:List Int}{us:List Value}(r:Vals (ns.map V.int) us):IntsAre us ns:=Yfo r
def y0s(K:W.Frag)(P:Program)(w:World):List V->Hp->VK->Prop:=fun xs H Q=>∃a ns,xs=[.ref a]/\(SqL K H a (ns.map V.int)\/SqT K H a (ns.map V.int))/\ns.length < 4000/\∀p ms,H p=none->ms.Perm (ddup [] ns)->Q (.ref p) (upd H p (setO P w p ms))
theorem Yqm(hc:X.calm=true):Ycw X (.type "set") (y0s X.K X.prog X.w):=by
 intro pins s σ H xs us Q I r h
 obtain⟨a,ns,rfl,hq,hl,q⟩:=h
 obtain⟨u,rfl,rx⟩:=Ygj r
 cases rx
 have hh:X.A.handled=none:=I.ok.hd hc
 have hsb:scanBound=4096:=rfl
 rcases hq with hq | hq
 ·obtain⟨its,rv,pl,hz⟩:=I.list hq
  have hlen:=rv.length
  rw[qe]at hlen
  refine Yiz hh pl.isList (by simpa using Ykp rv) (by rw[qj,hsb];lia) fun h' tk ms hS hp hk=>?_
  exact⟨.ref s.heap.objs.size,_,I.laid (t':=tk) (fun b o e=>hk b o (qk e) e) (qs _) (Yql hS),rfl,q _ ms (I.hok.fresh (qs _)) hp⟩
 ·obtain⟨its,rv,pl,hz⟩:=I.tuple hq
  have hlen:=rv.length
  rw[qe]at hlen
  refine Yhr hh pl (by simpa using Ykp rv) (by rw[qj,hsb];lia) fun h' tk ms hS hp hk=>?_
  exact⟨.ref s.heap.objs.size,_,I.laid (t':=tk) (fun b o e=>hk b o (qk e) e) (qs _) (Yql hS),rfl,q _ ms (I.hok.fresh (qs _)) hp⟩
def Yyx(P:Program)(w:World):List V->Hp->VK->Prop:=fun xs H Q=>∃a ms,xs=[.ref a]/\H a=some (setO P w a ms)/\ms.length < 64/\∀p,H p=none->Q (.ref p) (upd H p (.lst ((Yc0 ms).map V.int)))
theorem Yon(hc:X.calm=true):Ycw X (.builtin "sorted") (Yyx X.prog X.w):=by
 intro pins s σ H xs us Q I r h
 obtain⟨a,ms,rfl,hq,hl,q⟩:=h
 obtain⟨u,rfl,rx⟩:=Ygj r
 cases rx
 have hh:X.A.handled=none:=I.ok.hd hc
 have hS:SetI X.prog X.w s.heap a ms:=(show ObjOk X.prog X.w H s.heap a (setO X.prog X.w a ms) from I.hok a _ hq).1
 refine Yom hh hS hl fun h' d' tk e p out ns' keep hp he hI hpm hs=>?_
 have en:ns'=Yc0 ms:=W.ksm_same (hpm.trans (Yax ms).symm) hs (Yat ms)
 subst en
 have hn:(Yc0 ms).length=ms.length:=(Yax ms).length_eq
 refine⟨.ref p,_,Inv.laid (t':=tk) (I.dr d') keep hp (show ObjOk X.prog X.w _ _ _ (.lst ((Yc0 ms).map V.int)) from⟨by rw[qe,hn,sizeLine_eq];lia,out.toList,e,Ye4 hI,by rw[Array.toArray_toList];exact he⟩),rfl,q _ (I.hok.fresh hp)⟩
def Yqn(l:List D):Option (List D):=match Ydr l with
 | some ns=>if ns.length < 4000/\(ddup [] ns).length < 64 then some ((Yc0 (ddup [] ns)).map D.int)else none
 | none=>none
theorem Yi9{a b:List Int}(h:a.Perm b):Yc0 a=Yc0 b:=W.ksm_same (((Yax a).trans h).trans (Yax b).symm) (Yat a) (Yat b)
def Yfc(f:Ro->Option D):Ro->Option (List D):=fun ρ=>(b1 f Ys ρ).bind Yqn
theorem nr0{α:Sort _}{a b:α}(h:a=b):a=b:=h
@[simp] theorem ap_sortsetF{ρ:Ro}:Yfc f ρ=((f ρ).bind Ys).bind Yqn:=nr0 rfl
theorem Yoo(hc:X.calm=true)(hg:Gl X "sorted")(hm:X.mg "sorted"=none)(hg2:Gl X "set")(hm2:X.mg "set"=none)(ha:MC X e f)(hs:starEach [e] X.env=[(false,eval e X.env)]:=by rfl)
 (he:starEach [.Call (.Name "set" p2) [e] [] pos2] X.env=[(false,eval (.Call (.Name "set" p2) [e] [] pos2) X.env)]:=by rfl)
 (hpl:(backTo pos2 (starEach [] X.env)).any (·.1)=false:=by rfl) (hpl2:(backTo pos (starEach [] X.env)).any (·.1)=false:=by rfl) :
 MF X (.Call (.Name "sorted" p) [.Call (.Name "set" p2) [e] [] pos2] [] pos) (Yfc f):=
 PE.imp (Ygd (Yon hc) hg hm boot_sorted (Yas (Ygo (Yqm hc) hg2 hm2 boot_set (Ync ha Yp2 hs) (by decide) (by decide) hs hpl) Ybz he) (by decide) (by decide) he hpl2) fun σ H Q hx_=>by
  obtain⟨ρ,l,H0,G0,G,e,s,h⟩:=hx_
  unfold Yfc at e
  obtain⟨l0,h1,e⟩:=qa e
  obtain⟨d,h2,h3⟩:=Ybs h1
  refine tCAof.at (show Ye f aNil ρ=some [d] by simp[Ye,aNil,h2]) s fun vs H1 G1 g1 r1 s1=>?_
  obtain⟨v,rfl,rv⟩:=Ydq r1
  obtain⟨q,xs,rfl,hq,rl⟩:=Yp6 (K:=X.K) h3 rv
  unfold Yqn at e
  split at e
  ·rename_i ns hns
   split at e
   ·rename_i hl
    cases e
    cases Yft hns
    cases Yi7 rl
    refine⟨q,ns,rfl,hq,hl.1,fun m ms hm' hp=>?_⟩
    have g2:=Gr.hid s1.seen hm' (setO X.prog X.w m ms)
    have s2:=s1.grow g2
    refine⟨m,ms,rfl,Yo,by rw[hp.length_eq];exact hl.2,fun r hr=>?_⟩
    rw[Yi9 hp]
    refine h r _ _ G1 ((g1.trans g2).trans (.hid s2.seen hr _)) ((g1.trans g2).h.free hr) (s2.seen.free hr) Yo (.ints _)
   ·cases e
  ·cases e
end
end
section
def y0t:List Nat:=[8,16,32,64,128]
end
section
end
section
set_option maxRecDepth 100000
end
section
set_option maxRecDepth 100000
section
variable {prog:Program} {w:World} {A:Around} {E:Value->Shared->Prop} {s:Shared}
structure SetQ(w:World)(h:Heap)(a:Addr)(us:List (Int × Addr)):Prop where
 ex:∃o es ep t,h.get? a=some o/\o.ExactSet/\o.data=.set es ep t/\es.toList=us.map (fun u=>(u.1,Value.ref u.2))/\t.fits es.size=true/\t.mask=7/\t.dummies=#[]/\t.place.toList=us.map (fun u=>SetTable.bits u.1 % 8)/\Tab (byT w) t
end
end
section
set_option maxRecDepth 100000
end
section
end
section
set_option maxRecDepth 100000
def advM(mask:Nat)(p:SetTable.Probe):SetTable.Probe:=SetTable.advance { mask:=mask,place:=#[],dummies:=#[],finger:=0,led:=false,moves:=0,plain:=false } p
def itP(mask:Nat):Nat->SetTable.Probe->SetTable.Probe
 | 0,p=>p
 | k+1,p=>itP mask k (advM mask p)
def stP(mask i perturb:Nat):SetTable.Probe:={ j:=i,more:=SetTable.runEnd mask i - i,i,perturb,dummy:=none }
def Way(mask:Nat)(occ:Nat->Prop)(p:SetTable.Probe)(j:Nat):Prop:=∃k,(itP mask k p).j=j/\∀m,m < k->occ (itP mask m p).j
abbrev hSt(mask:Nat)(h:Int):SetTable.Probe:=stP mask (SetTable.bits h % (mask+1)) (SetTable.bits h)
section
variable {t:SetTable} {hA:Nat->Int} {h:Int}
structure Clean(t:SetTable)(n:Nat):Prop where
 hs:t.mask+1∈y0t
 dm:t.dummies=#[]
 rise:Rise t.place
 le:∀j∈t.place.toList,j<=t.mask
 sz:t.place.size=n
 room:n<=t.mask
end
end
section
set_option maxRecDepth 100000
def bI(b:Bool):Int:=if b then 1 else 0
def bH(bs:List Bool):Int:=Yxq (bs.map bI)
def TupB(h:Heap)(u:Addr)(bs:List Bool):Prop:=bs.length<=4/\∃o n,h.get? u=some o/\o.cls=.type "tuple"/\o.data=.seq (bs.map Value.bool).toArray n
structure SetB(w:World)(h:Heap)(S:Addr)(us:List (Addr × List Bool)):Prop where
 ex:∃o es ep t,h.get? S=some o/\o.ExactSet/\o.data=.set es ep t/\es.toList.Perm (us.map fun u=>(bH u.2,Value.ref u.1))/\t.fits es.size=true/\Clean t es.size/\Tab (byT w) t/\es.size * 5 < t.mask * 3/\∀q∈es.toList.zip t.place.toList,Way t.mask (·∈t.place.toList) (hSt t.mask q.1.1) q.2
 keys:(us.map (·.2)).Nodup
 tups:∀u∈us,TupB h u.1 u.2
 few:us.length<=24
end
section
set_option maxRecDepth 100000
section
variable {n:Nat} {key:Nat->Nat} {cmp:Nat->Nat->(Bool->Shared->Prop)->Shared->Prop} {s:Shared}
variable (hinj:∀i j,i < n->j < n->key i=key j->i=j) (hc:∀i j (C:Bool->Shared->Prop),i < n->j < n->C (decide (key i < key j)) s->cmp i j C s)
include hinj hc
omit hinj hc in
omit hinj hc in
omit hinj hc in
end
end
section
section
variable {X:Cx} {e:Expr} {f:Ro->Option D} {p p2 pos pos2:Pos}
def sExp(f:Ro->Option D):Ro->Option Out:=fun ρ=>(f ρ).map fun _=>.nx ρ
theorem Yv2(he:ME X e f)(hse:swapsWith e none pos.line X.env=pure false:=by rfl):MS X (.Expr e pos) (sExp f):=PS.imp (Yeq he hse) fun F σ H hx_=>by
 obtain⟨ρ,out,H0,G0,G,e,s,h⟩:=hx_
 obtain⟨d,h1,rfl⟩:=qb e
 exact tOf.at h1 s fun v H1 G1 g1 r1 s1=>h σ H1 G1 s1
end
end
section
set_option maxRecDepth 100000
end
section
structure ZE(X:Cx)(e:Expr)(f:Ro->Option D):Prop where
 un:ME X e f
structure ZC(X:Cx)(e:Expr)(f:Ro->Option D):Prop where
 un:MC X e f
structure ZCA(X:Cx)(es:List Expr)(f:Ro->Option (List D)):Prop where
 un:MCA X es f
structure ZF(X:Cx)(e:Expr)(f:Ro->Option (List D)):Prop where
 un:MF X e f
structure ZT(X:Cx)(e:Expr)(f:Ro->Option Bool):Prop where
 un:MT X e f
structure ZW(X:Cx)(e:Expr)(f:Ro->Option Bool):Prop where
 un:MW X e f
structure ZA(X:Cx)(es:List Expr)(f:Ro->Option (List D)):Prop where
 un:MA X es f
structure ZI(X:Cx)(tg iter:Expr)(f:Ro->Option (List D)):Prop where
 un:MI X tg iter f
structure ZS(X:Cx)(st:Stmt)(f:Ro->Option Out):Prop where
 un:MS X st f
structure ZB(X:Cx)(sts:List Stmt)(f:Ro->Option Out):Prop where
 un:MB X sts f
structure ZG(X:Cx)(tg:Expr)(gt:D->Ro->Option Ro):Prop where
 un:MG X tg gt
structure ZIfs(X:Cx)(K:W.Frag)(ifs:List Expr)(f:Ro->Option Bool):Prop where
 un:PIfs X ifs (tTof K f)
structure ZO(X:Cx)(e:Option Expr)(f:Option (Ro->Option D)):Prop where
 un:PO X e (tO X.K f)
structure ZP(X:Cx)(pos:Pos)(keys:List (Option Expr))(values:List Expr)(ks:List Str)(fs:List (Ro->Option D)):Prop where
 un:MP X pos keys values ks fs
section
variable {K:W.Frag} {X:Cx} {H0 G0 H G:Hp} {σ:L2.St} {ρ:Ro} {a b c e:Expr} {es:List Expr} {fa fb fc f:Ro->Option D} {ga:Ro->Option (List D)} {pos:Pos}
theorem Yc{e:Expr}{f:Ro->Option D}(h:ZE X e f):ZC X e f:=⟨ME.mc h.un⟩
theorem Yg(i:Nat){x:Str}(hN:X.N[i]?=some x:=by rfl)(hv:Vis X.env.scope x:=by first | exact Or.inl rfl | exact Or.inr (Or.inl rfl) | exact Or.inr (Or.inr rfl))(hd:(x==("__debug__":Str))=false:=by decide)(hcd:(x==("__classdict__":Str))=false:=by decide):ZE X (.Name x pos) (getV i):=⟨Yxr i hN hv hd hcd⟩
theorem Yb(i:Nat){x:Str}(hN:X.N[i]?=some x:=by rfl)(hv:Vis X.env.scope x:=by first | exact Or.inl rfl | exact Or.inr (Or.inl rfl) | exact Or.inr (Or.inr rfl))(hd:(x==("__debug__":Str))=false:=by decide)(hcd:(x==("__classdict__":Str))=false:=by decide):ZC X (.Name x pos) (getC i):=⟨Yxs i hN hv hd hcd⟩
theorem Yi{i:Int}{j}:ZE X (.Constant (.int i) j pos) (kD (.int i)):=⟨Yxt ⟩
theorem Yg3{k:Bool}{j}:ZE X (.Constant (.bool k) j pos) (kD (.bl k)):=⟨y0b ⟩
theorem Yar{j}:ZE X (.Constant .none j pos) (kD .non):=⟨Yxu ⟩
theorem Yag{x:Str}{j}(hx:PyData.strOk x=true:=by decide +kernel):ZE X (.Constant (.str x) j pos) (kD (.str x)):=⟨Yxv hx⟩
theorem Yqo(ha:ZC X a fa)(hb:ZC X b fb):ZE X (.BinOp a .Mult b pos) (b2 fa fb mulI):=⟨Yxw ha.un hb.un⟩
theorem Yca(ha:ZC X a fa)(hb:ZC X b fb):ZE X (.BinOp a .FloorDiv b pos) (b2 fa fb divI):=⟨Yxx ha.un hb.un⟩
theorem Yak(ha:ZC X a fa)(hb:ZC X b fb):ZE X (.BinOp a .Mod b pos) (b2 fa fb modI):=⟨Yxy ha.un hb.un⟩
theorem Yyy(ha:ZC X a fa)(hb:ZC X b fb):ZE X (.Compare a [.Gt] [b] pos) (mB (b2 fa fb gtI)):=⟨y0d ha.un hb.un⟩
theorem Yyz(ha:ZC X a fa)(hb:ZC X b fb):ZE X (.Compare a [.GtE] [b] pos) (mB (b2 fa fb geI)):=⟨y0e ha.un hb.un⟩
theorem Yqp(ha:ZC X a fa)(hb:ZC X b fb):ZT X (.Compare a [.Lt] [b] pos) (b2 fa fb ltI):=⟨y0f ha.un hb.un⟩
theorem Ytq(ha:ZC X a fa)(hb:ZC X b fb):ZT X (.Compare a [.Gt] [b] pos) (b2 fa fb gtI):=⟨y0g ha.un hb.un⟩
theorem Yaz(hu:X.A.units+64 < cLine)(ha:ZC X a fa)(hb:ZC X b fb):ZE X (.Compare a [.Eq] [b] pos) (mB (b2 fa fb (eqM false))):=⟨y0h hu ha.un hb.un⟩
theorem Ytr(hu:X.A.units+64 < cLine)(ha:ZC X a fa)(hb:ZC X b fb):ZE X (.Compare a [.NotEq] [b] pos) (mB (b2 fa fb (eqM true))):=⟨y0i hu ha.un hb.un⟩
theorem Ycb(hu:X.A.units+64 < cLine)(ha:ZC X a fa)(hb:ZC X b fb):ZT X (.Compare a [.Eq] [b] pos) (b2 fa fb (eqM false)):=⟨y0j hu ha.un hb.un⟩
theorem Yng(hu:X.A.units+64 < cLine)(ha:ZC X a fa)(hb:ZC X b fb):ZT X (.Compare a [.NotEq] [b] pos) (b2 fa fb (eqM true)):=⟨y0k hu ha.un hb.un⟩
theorem Yts(hu:X.A.units+64 < cLine)(ha:ZC X a fa)(hb:ZC X b fb)(hm:behindInMarks .In b=false:=by with_unfolding_all rfl):ZT X (.Compare a [.In] [b] pos) (b2 fa fb (inM false)):=⟨y0l hu ha.un hb.un hm⟩
theorem Yl4(hu:X.A.units+64 < cLine)(ha:ZC X a fa)(hb:ZC X b fb)(hm:behindInMarks .NotIn b=false:=by with_unfolding_all rfl):ZT X (.Compare a [.NotIn] [b] pos) (b2 fa fb (inM true)):=⟨Yx0 hu ha.un hb.un hm⟩
end
section
variable {K:W.Frag} {X:Cx} {a b c e tg elt iter ie ke:Expr} {es rest ifs elts:List Expr} {fa fb f fe fk:Ro->Option D} {fc fd:Ro->Option Bool} {ga gl:Ro->Option (List D)} {pos p pos' pt px:Pos} {x:Str} {id T:String} {r:List V->Hp->VK->Prop} {g:List D->Option D} {gf:List D->Option (List D)} {st:Stmt} {sts:List Stmt} {fs gs:Ro->Option Out} {scope:Scope} {N:List Str} {src:List (Option Nat)} {gt:D->Ro->Option Ro} {P:Program} {w:World} {mg:Str->Option Value} {base:Heap} {x1:Nat}
theorem Yau(ha:ZC X a fa)(he:∀whole,isTrue a X.env whole=(do let v <-whole;standAt a.pos;holding [v] (truthy v)):=by intro _;rfl):ZT X a (b1 fa truD):=⟨Yx1 ha.un he⟩
theorem Yfd(ha:ZT X a fc):ZW X (.BoolOp .And [a] pos) fc:=⟨Yvb ha.un⟩
theorem Yg4(ha:ZT X a fc):ZW X (.BoolOp .Or [a] pos) fc:=⟨Yx2 ha.un⟩
theorem Yg5(ha:ZT X a fc)(hb:ZW X (.BoolOp .And (b::rest) pos) fd):ZW X (.BoolOp .And (a::b::rest) pos) (andT fc fd):=⟨Yx4 ha.un hb.un⟩
theorem Ykq(ha:ZT X a fc)(hb:ZW X (.BoolOp .Or (b::rest) pos) fd):ZW X (.BoolOp .Or (a::b::rest) pos) (orT fc fd):=⟨y0m ha.un hb.un⟩
theorem Yc6(ha:ZT X a fc):ZT X (.UnaryOp .Not a pos) (notT fc):=⟨Yx5 ha.un⟩
theorem Yc7(ha:ZE X a fa):ZE X (.BoolOp .And [a] pos) fa:=⟨Yvd ha.un⟩
theorem Ydt(ha:ZE X a fa)(hb:ZE X (.BoolOp .And (b::rest) pos) fb):ZE X (.BoolOp .And (a::b::rest) pos) (andV fa fb):=⟨Yx6 ha.un hb.un⟩
theorem Yv3(ha:ZE X a fa):ZE X (.UnaryOp .Not a pos) (notV fa):=⟨Yx7 ha.un⟩
theorem Ytt(hc:ZT X c fc)(ha:ZE X a fa)(hb:ZE X b fb):ZE X (.IfExp c a b pos) (ifV fc fa fb):=⟨y0n hc.un ha.un hb.un⟩
theorem Yqq(ha:ZC X a fa)(hb:ZC X b fb):ZE X (.Compare a [.Is] [b] pos) (mB (b2 fa fb (isN false))):=⟨Yx8 ha.un hb.un⟩
theorem Ysq(ha:ZC X a fa)(hb:ZC X b fb):ZE X (.Compare a [.IsNot] [b] pos) (mB (b2 fa fb (isN true))):=⟨Yve ha.un hb.un⟩
theorem Yja(ha:ZC X a fa)(hb:ZC X b fb):ZT X (.Compare a [.Is] [b] pos) (b2 fa fb (isN false)):=⟨Yx9 ha.un hb.un⟩
theorem Ynh(ha:ZC X a fa)(hb:ZC X b fb):ZT X (.Compare a [.IsNot] [b] pos) (b2 fa fb (isN true)):=⟨Yvf ha.un hb.un⟩
theorem Yn(ha:ZC X a fa)(hb:ZC X b fb)(hs:Yis b:=by intro _ _;rfl):ZE X (.Subscript a b pos) (b2 fa fb ixD):=⟨Yvg ha.un hb.un hs⟩
theorem Ykr{lo hi:Option Expr}{fl fh:Option (Ro->Option D)}{p2:Pos}(ha:ZC X a fa)(hl:ZO X lo fl)(hh:ZO X hi fh):ZF X (.Subscript a (.Slice lo hi none p2) pos) (slF fa fl fh):=⟨Ysg ha.un hl.un hh.un⟩
theorem Yni(h:ZC X e f):ZO X (some e) (some f):=⟨y0o h.un⟩
theorem Yal{g:Ro->Option (List D)}(h:ZF X e g):ZE X e (lF g):=⟨MF.me h.un⟩
theorem Yp :ZA X [] aNil:=⟨Ytm ⟩
theorem Yd(ha:ZE X e f)(hr:ZA X es ga)(hs:starEach (e::es) X.env=(false,eval e X.env)::starEach es X.env:=by rfl):ZA X (e::es) (Ye f ga):=⟨Yp1 ha.un hr.un hs⟩
theorem Yq :ZCA X [] aNil:=⟨Yp2 ⟩
theorem Yl(ha:ZC X e f)(hr:ZCA X es ga)(hs:starEach (e::es) X.env=(false,eval e X.env)::starEach es X.env:=by rfl):ZCA X (e::es) (Ye f ga):=⟨Ync ha.un hr.un hs⟩
theorem Ycp{x1}(h:ZA X es ga):ZE X (.Tuple es x1 pos) (dTup ga):=⟨Yyc h.un⟩
theorem Ycc(h:ZA X es ga):ZF X (.List es pos) (dLst ga):=⟨Yyd h.un⟩
theorem Yy(hc:Ycw X (.builtin id) r)(hr:SemC X.K r g)(hg:Gl X x)(hm:X.mg x=none)(hv:bootBuiltins x=some (.builtin id))(ha:ZCA X (e::es) ga)(hn:x≠"__name__":=by decide)(hdb:(x==("__debug__":Str))=false:=by decide)(he:starEach (e::es) X.env=(false,eval e X.env)::starEach es X.env:=by rfl)(hpl:(backTo pos (starEach es X.env)).any (·.1)=false:=by rfl):ZE X (.Call (.Name x p) (e::es) [] pos) (cC ga g):=⟨Ysh hc hr hg hm hv ha.un hn hdb he hpl⟩
theorem Yg6(hc:Ycw X (.builtin id) r)(hr:SemF X.K r gf)(hg:Gl X x)(hm:X.mg x=none)(hv:bootBuiltins x=some (.builtin id))(ha:ZCA X (e::es) ga)(hn:x≠"__name__":=by decide)(hdb:(x==("__debug__":Str))=false:=by decide)(he:starEach (e::es) X.env=(false,eval e X.env)::starEach es X.env:=by rfl)(hpl:(backTo pos (starEach es X.env)).any (·.1)=false:=by rfl):ZF X (.Call (.Name x p) (e::es) [] pos) (cF ga gf):=⟨Ysi hc hr hg hm hv ha.un hn hdb he hpl⟩
theorem y8(hc:Ycw X (.type T) r)(hr:SemC X.K r g)(hg:Gl X x)(hm:X.mg x=none)(hv:bootBuiltins x=some (.type T))(ha:ZCA X (e::es) ga)(hn:x≠"__name__":=by decide)(hdb:(x==("__debug__":Str))=false:=by decide)(he:starEach (e::es) X.env=(false,eval e X.env)::starEach es X.env:=by rfl)(hpl:(backTo pos (starEach es X.env)).any (·.1)=false:=by rfl):ZE X (.Call (.Name x p) (e::es) [] pos) (cC ga g):=⟨Yp4 hc hr hg hm hv ha.un hn hdb he hpl⟩
theorem Yfw(hc:Ycw X (.type T) r)(hr:SemF X.K r gf)(hg:Gl X x)(hm:X.mg x=none)(hv:bootBuiltins x=some (.type T))(ha:ZCA X (e::es) ga)(hn:x≠"__name__":=by decide)(hdb:(x==("__debug__":Str))=false:=by decide)(he:starEach (e::es) X.env=(false,eval e X.env)::starEach es X.env:=by rfl)(hpl:(backTo pos (starEach es X.env)).any (·.1)=false:=by rfl):ZF X (.Call (.Name x p) (e::es) [] pos) (cF ga gf):=⟨Yp5 hc hr hg hm hv ha.un hn hdb he hpl⟩
theorem y7 :ZB X [] sNil:=⟨Yye ⟩
theorem Yk(h1:ZS X st fs)(h2:ZB X sts gs):ZB X (st::sts) (sSeq fs gs):=⟨Yvi h1.un h2.un⟩
theorem Ym(h1:ZS X st fs):ZB X [st] fs:=⟨Yyf h1.un⟩
theorem Yl5(is:List Nat)(h:ZS X st fs):ZS X st (wF is fs):=⟨Yyg is h.un⟩
theorem Yai(i:Nat){x:Str}(hN:X.N.Nodup)(he:ZE X e f)(hi:X.N[i]?=some x:=by rfl)(hx:Loc X.env.scope x:=by first | exact Or.inl rfl | exact Or.inr rfl)(hs:swapsWith e (some (.Name x pos')) pos.line X.env=pure false:=by rfl)(hf:X.fn x=true\/X.env.scope.names.lookup x=some .local:=by first | exact .inl rfl | exact .inr rfl):ZS X (.Assign [.Name x pos'] e pos) (sSet i f):=⟨Yyj i hN he.un hi hx hs hf⟩
theorem Yfx(i:Nat){x:Str}(hN:X.N.Nodup)(he:ZF X e gl)(hi:X.N[i]?=some x:=by rfl)(hx:Loc X.env.scope x:=by first | exact Or.inl rfl | exact Or.inr rfl)(hs:swapsWith e (some (.Name x pos')) pos.line X.env=pure false:=by rfl)(hf:X.fn x=true\/X.env.scope.names.lookup x=some .local:=by first | exact .inl rfl | exact .inr rfl):ZS X (.Assign [.Name x pos'] e pos) (sOwn i gl):=⟨Yyk i hN he.un hi hx hs hf⟩
theorem Yr(he:ZE X e f):ZS X (.Return (some e) pos) (sRet f):=⟨Yyl he.un⟩
theorem Yad{c:Expr}{a b:List Stmt}{fc:Ro->Option Bool}(hc:ZT X c fc)(ha:ZB X a fs)(hb:ZB X b gs):ZS X (.If c a b pos) (sIf fc fs gs):=⟨y0p hc.un ha.un hb.un⟩
theorem Yd8(i:Nat){x:Str}{p2 apos cpos:Pos}(he:ZE X e f)(hN:X.N[i]?=some x:=by rfl)(hv:Vis X.env.scope x:=by first | exact Or.inl rfl | exact Or.inr (Or.inl rfl) | exact Or.inr (Or.inr rfl))(hd:(x==("__debug__":Str))=false:=by decide)(hcd:(x==("__classdict__":Str))=false:=by decide)(hse:swapsWith (.Call (.Attribute (.Name x p2) "append" apos) [e] [] cpos) none pos.line X.env=pure false:=by rfl)(hs:starEach [e] X.env=[(false,eval e X.env)]:=by rfl)(hfew:((backTo cpos (starEach [e] X.env)).all (fun x=>!x.1)&&(backToKw cpos (keywordEach [] X.env)).all (fun x=>x.1.isSome)&&decide ([e].length+([]:List Keyword).length+(if ([]:List Keyword).isEmpty then 0 else 1) < 30))=true:=by rfl)(hline:(apos.endLine==cpos.line)=true:=by rfl)(hbase:attributeBase (.Name x p2) "append" X.env (eval (.Name x p2) X.env)=eval (.Name x p2) X.env:=by rfl):ZS X (.Expr (.Call (.Attribute (.Name x p2) "append" apos) [e] [] cpos) pos) (sMut i f appD):=⟨Yp8 i he.un hN hv hd hcd hse hs hfew hline hbase⟩
theorem Ya4{l:Expr}(hl:ZE X l f):ZI X tg l (b1 f Ys):=⟨Yyn hl.un⟩
theorem Yc1{a:Expr}{ga:Ro->Option (List D)}{p:Pos}(hg:Gl X "range")(hm:X.mg "range"=none)(ha:ZA X [a] ga)(hs:starEach [a] X.env=[(false,eval a X.env)]:=by rfl):ZI X tg (.Call (.Name "range" p) [a] [] pos) (cF ga rng1):=⟨Yqa hg hm ha.un hs⟩
theorem Yac(i:Nat){x:Str}(hN:X.N.Nodup)(hi:X.N[i]?=some x:=by rfl)(hx:Loc X.env.scope x:=by first | exact Or.inl rfl | exact Or.inr rfl)(hf:X.fn x=true\/X.env.scope.names.lookup x=some .local:=by first | exact .inl rfl | exact .inr rfl):ZG X (.Name x pos) (gSet i):=⟨Yvj i hN hi hx hf⟩
theorem Ygg(i j:Nat){x y:Str}{px py:Pos}{k:Nat}(hc:X.calm=true)(hN:X.N.Nodup)(hi:X.N[i]?=some x:=by rfl)(hj:X.N[j]?=some y:=by rfl)(hx:Loc X.env.scope x:=by first | exact Or.inl rfl | exact Or.inr rfl)(hy:Loc X.env.scope y:=by first | exact Or.inl rfl | exact Or.inr rfl)(hf:X.fn x=true\/X.env.scope.names.lookup x=some .local:=by first | exact .inl rfl | exact .inr rfl)(hf2:X.fn y=true\/X.env.scope.names.lookup y=some .local:=by first | exact .inl rfl | exact .inr rfl):ZG X (.Tuple [.Name x px,.Name y py] k pos) (Ydl i j):=⟨Yvk i j hc hN hi hj hx hy hf hf2⟩
theorem Yfy{iter:Expr}{body:List Stmt}{gt:D->Ro->Option Ro}(hp:PassesOwn (model X.prog X.w) X.A X.env X.xe)(hc:X.calm=true)(hi:ZI X tg iter gl)(hg:ZG X tg gt)(hb:ZB X body fs)(hs:∀x,foldedSetIterable iter X.env x=pure x:=by intro _;rfl):ZS X (.For tg iter body [] pos) (sFor gl gt fs):=⟨Yyp hp hc hi.un hg.un hb.un hs⟩
theorem Ycq :ZIfs X X.K [] tY:=⟨Yyq ⟩
theorem Ya1(S:CompSc X.N X.env.scope N src scope)(hc:X.calm=true)(hit:ZI X tg iter gl)(hg:∀cl C fp s H,ZG (Yah X scope N cl C fp s H) tg gt)(hi:∀cl C fp s H,ZIfs (Yah X scope N cl C fp s H) X.K ifs fc)(he:∀cl C fp s H,ZE (Yah X scope N cl C fp s H) elt fe)(hle:∀ρ d ρ1,gt d (capR src ρ)=some ρ1->Le (capR src ρ) ρ1)(hs:∀x,foldedSetIterable iter X.env x=pure x:=by intro _;rfl):ZF X (.ListComp elt [⟨tg,iter,ifs,0⟩] scope pos) (Yb2 gl src gt fc fe):=⟨Yvm S hc hit.un (fun cl C fp s H=>(hg cl C fp s H).un) (fun cl C fp s H=>(hi cl C fp s H).un) (fun cl C fp s H=>(he cl C fp s H).un) hle hs⟩
theorem Yjb(i:Nat){y:Str}{py spos:Pos}(hN:X.N.Nodup)(S:CompSc X.N X.env.scope N src scope)(hc:X.calm=true)(hit:ZI X tg iter gl)(hg:∀cl C fp s H,ZG (Yah X scope N cl C fp s H) tg gt)(hi:∀cl C fp s H,ZIfs (Yah X scope N cl C fp s H) X.K ifs fc)(he:∀cl C fp s H,ZE (Yah X scope N cl C fp s H) elt fe)(hle:∀ρ d ρ1,gt d (capR src ρ)=some ρ1->Le (capR src ρ) ρ1)(hsw:swapsWith (.ListComp elt [⟨tg,iter,ifs,0⟩] scope pos) (some (.Name y py)) spos.line X.env=pure true:=by rfl)(hy:X.N[i]?=some y:=by rfl)(hx:Loc X.env.scope y:=by first | exact Or.inl rfl | exact Or.inr rfl)(hf:X.fn y=true\/X.env.scope.names.lookup y=some .local:=by first | exact .inl rfl | exact .inr rfl)(hs:∀x,foldedSetIterable iter X.env x=pure x:=by intro _;rfl):ZS X (.Assign [.Name y py] (.ListComp elt [⟨tg,iter,ifs,0⟩] scope pos) spos) (sOwn i (Yb2 gl src gt fc fe)):=⟨Yvn i hN S hc hit.un (fun cl C fp s H=>(hg cl C fp s H).un) (fun cl C fp s H=>(hi cl C fp s H).un) (fun cl C fp s H=>(he cl C fp s H).un) hle hsw hy hx hf hs⟩
theorem Yfz{x qual:Str}{st:Stmt}{f:Addr}{fd:FuncData}{N ps:List Str}{k n m:Nat}{fb:Ro->Option Out}(F:Fun K x qual st f fd)(S:FnScope N ps (defScope st))(hn:N.length=n)(hm:ps.length=m)(hb:∀(cdv:Value) (A:Around) (outer:List Env) (s:Shared) (H:Hp) (E:XK),Room k (A.deeper (envOfC qual (defScope st) s.heap.objs.size f cdv))->ZB (cxOf CX0 P w K mg base N qual (defScope st) f cdv A outer s H E).nox (defBody st) fb):FnOk P w K mg base CX0 (k+1) f fd ps (spOf K m (runB m n fb)):=Yqc F S hn hm (fun cdv A outer s H E hr=>(hb cdv A outer s H E hr).un)
theorem Yu{j k n:Nat}{x:Str}{p:Pos}{ps:List Str}{fn:List D->Option D}(c:Okf X.prog X.w X.K X.mg X.base j n x ps fn)(hr:Room k X.A)(hg:Gl X x)(ha:ZA X (e::es) ga)(hl:∀ρ l,ga ρ=some l->l.length=n)(hj:j<=k:=by first | exact qs _ | lia)(hdb:(x==("__debug__":Str))=false:=by decide)(he:starEach (e::es) X.env=(false,eval e X.env)::starEach es X.env:=by rfl)(hpl:(backTo pos (starEach es X.env)).any (·.1)=false:=by rfl):ZE X (.Call (.Name x p) (e::es) [] pos) (cC ga fn):=⟨Ysl c hr hg ha.un hl hj hdb he hpl⟩
theorem Yv4(ha:ZC X a fa)(hb:ZC X b fb):ZE X (.BinOp a .Add b pos) (b2 fa fb addI):=⟨Yys ha.un hb.un⟩
theorem Yv5(ha:ZC X a fa)(hb:ZC X b fb):ZF X (.BinOp a .Add b pos) (b2 fa fb catD):=⟨Yyt ha.un hb.un⟩
theorem Ycd{T:String}{tn:Str}{p p2:Pos}(ha:ZC X a fa)(hg:Gl X "isinstance")(hg2:Gl X tn)(hm:X.mg "isinstance"=none)(hm2:X.mg tn=none)(hv2:bootBuiltins tn=some (.type T))(hk:Kit T)(hv:bootBuiltins "isinstance"=some (.builtin "isinstance"):=by decide +kernel)(hn2:tn≠"__name__":=by decide)(hd2:(tn==("__debug__":Str))=false:=by decide)(hs:starEach [a,.Name tn p2] X.env=(false,eval a X.env)::starEach [.Name tn p2] X.env:=by rfl)(hs2:starEach [.Name tn p2] X.env=(false,eval (.Name tn p2) X.env)::starEach [] X.env:=by rfl)(hpl:(backTo pos (starEach [.Name tn p2] X.env)).any (·.1)=false:=by rfl):ZE X (.Call (.Name "isinstance" p) [a,.Name tn p2] [] pos) (mB (b1 fa (isiD T))):=⟨Yyu ha.un hg hg2 hm hm2 hv2 hk hv hn2 hd2 hs hs2 hpl⟩
theorem Yl6(i:Nat){x:Str}{ie:Expr}{p2 p3:Pos}(hb:ZC X ie fb)(he:ZE X e f)(hN:X.N[i]?=some x:=by rfl)(hv:Vis X.env.scope x:=by first | exact Or.inl rfl | exact Or.inr (Or.inl rfl) | exact Or.inr (Or.inr rfl))(hd:(x==("__debug__":Str))=false:=by decide)(hcd:(x==("__classdict__":Str))=false:=by decide)(ha:∀v,assign (.Subscript (.Name x p2) ie p3) X.env v=(do
 let ov <-holding [v] (eval (.Name x p2) X.env)
 let iv <-holding [v,ov] (eval ie X.env)
 standAt p3
 holding [v,ov,iv] (setItem ov iv v)
 release [v,ov,iv] []):=by intro _;rfl) (hs:swapsWithSole [.Subscript (.Name x p2) ie p3] e pos.line X.env=pure false:=by rfl) (hw:swappedStores [.Subscript (.Name x p2) ie p3] e X.env=pure none:=by rfl) (h1:(assignEach [.Subscript (.Name x p2) ie p3] X.env).map (·.2)=[assign (.Subscript (.Name x p2) ie p3) X.env]:=by rfl):ZS X (.Assign [.Subscript (.Name x p2) ie p3] e pos) (Yoi i fb f setD):=⟨Yoj i hb.un he.un hN hv hd hcd ha hs hw h1⟩
theorem Yc8{l:Expr}{f:Ro->Option D}{p:Pos}(hg:Gl X "enumerate")(hm:X.mg "enumerate"=none)(hl:ZE X l f)(hs:starEach [l] X.env=[(false,eval l X.env)]:=by rfl):ZI X (.Tuple elts x1 pt) (.Call (.Name "enumerate" p) [l] [] pos) (b1 f Yl1):=⟨Yko hg hm hl.un hs⟩
theorem Yop(i:Nat){x:Str}{p2 apos cpos:Pos}(he:ZE X e f)(hN:X.N[i]?=some x:=by rfl)(hv:Vis X.env.scope x:=by first | exact Or.inl rfl | exact Or.inr (Or.inl rfl) | exact Or.inr (Or.inr rfl))(hd:(x==("__debug__":Str))=false:=by decide)(hcd:(x==("__classdict__":Str))=false:=by decide)(hse:swapsWith (.Call (.Attribute (.Name x p2) "extend" apos) [e] [] cpos) none pos.line X.env=pure false:=by rfl)(hs:starEach [e] X.env=[(false,eval e X.env)]:=by rfl)(hfew:((backTo cpos (starEach [e] X.env)).all (fun x=>!x.1)&&(backToKw cpos (keywordEach [] X.env)).all (fun x=>x.1.isSome)&&decide ([e].length+([]:List Keyword).length+(if ([]:List Keyword).isEmpty then 0 else 1) < 30))=true:=by rfl)(hline:(apos.endLine==cpos.line)=true:=by rfl)(hbase:attributeBase (.Name x p2) "extend" X.env (eval (.Name x p2) X.env)=eval (.Name x p2) X.env:=by rfl):ZS X (.Expr (.Call (.Attribute (.Name x p2) "extend" apos) [e] [] cpos) pos) (sMut i f extD):=⟨Yqi i he.un hN hv hd hcd hse hs hfew hline hbase⟩
theorem Ysr{i:Int}(g:GI X.mg x i)(hg:Gl X x)(hd:(x==("__debug__":Str))=false:=by decide):ZE X (.Name x px) (kD (.int i)):=⟨Yvt g hg hd⟩
end
section
variable {X:Cx} {a b c e:Expr} {fa fb fc:Ro->Option D} {pos:Pos} {st:Stmt}
theorem Yc2 :ZS X st nS:=⟨Ysp ⟩
end
section
variable {X:Cx} {e a b:Expr} {f fa fb:Ro->Option D} {fc:Ro->Option Bool} {gl:Ro->Option (List D)} {K:W.Frag} {pos:Pos}
theorem Yss(is:List Nat)(h:ZT X e fc):ZT X e (Yvu is fc):=⟨Yvv is h.un⟩
theorem Ynj(ha:ZC X a fa)(hb:ZC X b fb):ZT X (.Compare a [.IsNot] [b] pos) (b2 fa fb (isB true)):=⟨Yvz ha.un hb.un⟩
end
theorem Yfe{X:Cx}{c:Expr}{f:Ro->Option Bool}(h:ZT X c f):ZIfs X X.K [c] f:=⟨Yu1 h.un⟩
theorem Yem{X:Cx}{e:Expr}{f:Ro->Option Bool}(h:ZW X e f):ZT X e f:=⟨PW.pt h.un⟩
end
section
section
variable {X:Cx} {e:Expr} {f:Ro->Option D} {p p2 pos pos2:Pos}
theorem Yl7(hc:X.calm=true)(hg:Gl X "sorted")(hm:X.mg "sorted"=none)(hg2:Gl X "set")(hm2:X.mg "set"=none)(ha:ZC X e f)(hs:starEach [e] X.env=[(false,eval e X.env)]:=by rfl)(he:starEach [.Call (.Name "set" p2) [e] [] pos2] X.env=[(false,eval (.Call (.Name "set" p2) [e] [] pos2) X.env)]:=by rfl)(hpl:(backTo pos2 (starEach [] X.env)).any (·.1)=false:=by rfl)(hpl2:(backTo pos (starEach [] X.env)).any (·.1)=false:=by rfl):ZF X (.Call (.Name "sorted" p) [.Call (.Name "set" p2) [e] [] pos2] [] pos) (Yfc f):=⟨Yoo hc hg hm hg2 hm2 ha.un hs he hpl hpl2⟩
theorem Yst(he:ZE X e f)(hse:swapsWith e none pos.line X.env=pure false:=by rfl):ZS X (.Expr e pos) (sExp f):=⟨Yv2 he.un hse⟩
end
end
section
variable {K:W.Frag}
def wo(H:Hp)(p:Addr):Hp:=fun a=>if a=p then none else H a
def y0u(K:W.Frag)(j:Nat)(x:Option (Option V))(H0 G0:Hp)(F:Ends):Out->Prop
 | .nx ρ'=>∀σ' H' G',SR K H0 G0 σ' H' G' ρ'->σ'[j]?=x->F.nx σ' H'
 | .rt _=>False
 | .bk ρ'=>∀σ' H' G',SR K H0 G0 σ' H' G' ρ'->σ'[j]?=x->F.bk σ' H'
 | .ct ρ'=>∀σ' H' G',SR K H0 G0 σ' H' G' ρ'->σ'[j]?=x->F.ct σ' H'
def sOfK(K:W.Frag)(j:Nat)(f:Ro->Option Out):TS:=fun F σ H=>∃ρ out H0 G0 G,f ρ=some out/\SR K H0 G0 σ H G ρ/\y0u K j σ[j]? H0 G0 F out
structure KS(j:Nat)(X:Cx)(st:Stmt)(f:Ro->Option Out):Prop where
 un:PS X st (sOfK X.K j f)
structure KB(j:Nat)(X:Cx)(sts:List Stmt)(f:Ro->Option Out):Prop where
 un:PSs X sts (sOfK X.K j f)
def sOfR(K:W.Frag)(j r:Nat)(fb:Ro->Option Out):TS:=fun F σ H=>∃ρ ρ' l d H0 G0 G,fb ρ=some (.nx ρ')/\getO j ρ'=some l/\getV r (frz [r] ρ')=some d/\SR K H0 G0 σ H G ρ/\
 ∀v σ' H' G',SR K H0 G0 σ' H' G' (frz [r] ρ')->σ'[j]?=σ[j]?->Rp K G' d v->F.rt v H'
structure KR(j r:Nat)(X:Cx)(sts:List Stmt)(f:Ro->Option Out):Prop where
 un:PSs X sts (sOfR X.K j r f)
def sOfL(K:W.Frag)(gl:Ro->Option (List D))(fb:Ro->Option Out):TS:=fun F σ H=>∃ρ ρ' l H0 G0 G,fb ρ=some (.nx ρ')/\gl ρ'=some l/\SR K H0 G0 σ H G ρ/\
 ∀p xs H' G',Gr H0 G0 H' G'->H0 p=none->G' p=none->H' p=some (.lst xs)->RpL K G' l xs->F.rt (.ref p) H'
structure KL(gl:Ro->Option (List D))(X:Cx)(sts:List Stmt)(f:Ro->Option Out):Prop where
 un:PSs X sts (sOfL X.K gl f)
theorem len1{us:List Value}(h:us.length=1):∃a0,us=[a0]:=List.length_eq_one_iff.mp h
theorem len2{us:List Value}(h:us.length=2):∃a0 a1,us=[a0,a1]:=by
 cases us with
 | nil=>cases h
 | cons a us=>
   obtain⟨b0,rfl⟩:=len1 (Nat.succ.inj h)
   exact⟨a,b0,rfl⟩
theorem len3{us:List Value}(h:us.length=3):∃a0 a1 a2,us=[a0,a1,a2]:=by
 cases us with
 | nil=>cases h
 | cons a us=>
   obtain⟨b0,b1,rfl⟩:=len2 (Nat.succ.inj h)
   exact⟨a,b0,b1,rfl⟩
theorem len4{us:List Value}(h:us.length=4):∃a0 a1 a2 a3,us=[a0,a1,a2,a3]:=by
 cases us with
 | nil=>cases h
 | cons a us=>
   obtain⟨b0,b1,b2,rfl⟩:=len3 (Nat.succ.inj h)
   exact⟨a,b0,b1,b2,rfl⟩
theorem len5{us:List Value}(h:us.length=5):∃a0 a1 a2 a3 a4,us=[a0,a1,a2,a3,a4]:=by
 cases us with
 | nil=>cases h
 | cons a us=>
   obtain⟨b0,b1,b2,b3,rfl⟩:=len4 (Nat.succ.inj h)
   exact⟨a,b0,b1,b2,b3,rfl⟩
theorem len6{us:List Value}(h:us.length=6):∃a0 a1 a2 a3 a4 a5,us=[a0,a1,a2,a3,a4,a5]:=by
 cases us with
 | nil=>cases h
 | cons a us=>
   obtain⟨b0,b1,b2,b3,b4,rfl⟩:=len5 (Nat.succ.inj h)
   exact⟨a,b0,b1,b2,b3,b4,rfl⟩
theorem len7{us:List Value}(h:us.length=7):∃a0 a1 a2 a3 a4 a5 a6,us=[a0,a1,a2,a3,a4,a5,a6]:=by
 cases us with
 | nil=>cases h
 | cons a us=>
   obtain⟨b0,b1,b2,b3,b4,b5,rfl⟩:=len6 (Nat.succ.inj h)
   exact⟨a,b0,b1,b2,b3,b4,b5,rfl⟩
end
end M
namespace M
open PySem L2
theorem nr{α:Sort _}{a b:α}(h:a=b):a=b:=h
section
variable {ρ:Ro}
@[simp] theorem ap_b2{α:Type}(fa fb:Ro->Option D)(g:D->D->Option α):b2 fa fb g ρ=(fa ρ).bind fun x=>(fb ρ).bind fun y=>g x y:=nr rfl
@[simp] theorem Yy0{α:Type}(fa:Ro->Option D)(g:D->Option α):b1 fa g ρ=(fa ρ).bind g:=nr rfl
@[simp] theorem ap_kD(d:D):kD d ρ=some d:=nr rfl
@[simp] theorem ap_mB(f:Ro->Option Bool):mB f ρ=(f ρ).map D.bl:=nr rfl
@[simp] theorem ap_andT(f g:Ro->Option Bool):andT f g ρ=(f ρ).bind fun k=>if k=true then g ρ else some false:=nr rfl
@[simp] theorem ap_orT(f g:Ro->Option Bool):orT f g ρ=(f ρ).bind fun k=>if k=true then some true else g ρ:=nr rfl
@[simp] theorem ap_notT(f:Ro->Option Bool):notT f ρ=(f ρ).map (!·):=nr rfl
@[simp] theorem ap_andV(f g:Ro->Option D):andV f g ρ=((f ρ).bind blD).bind fun k=>if k=true then g ρ else some (.bl false):=nr rfl
@[simp] theorem ap_notV(f:Ro->Option D):notV f ρ=((f ρ).bind blD).map fun k=>.bl (!k):=nr rfl
@[simp] theorem ap_ifV(c:Ro->Option Bool)(f g:Ro->Option D):ifV c f g ρ=(c ρ).bind fun k=>if k=true then f ρ else g ρ:=nr rfl
@[simp] theorem ap_lF(f:Ro->Option (List D)):lF f ρ=(f ρ).map D.lst:=nr rfl
@[simp] theorem ap_aNil:aNil ρ=some []:=nr rfl
@[simp] theorem ap_aCons(f:Ro->Option D)(g:Ro->Option (List D)):Ye f g ρ=(f ρ).bind fun d=>(g ρ).map (d::·):=nr rfl
@[simp] theorem ap_dTup(f:Ro->Option (List D)):dTup f ρ=(f ρ).bind fun l=>if l.length<=cap6 then some (.tup l)else none:=nr rfl
@[simp] theorem ap_dLst(f:Ro->Option (List D)):dLst f ρ=(f ρ).bind fun l=>if l.length<=cap6 then some l else none:=nr rfl
@[simp] theorem ap_cC(f:Ro->Option (List D))(g:List D->Option D):cC f g ρ=(f ρ).bind g:=nr rfl
@[simp] theorem ap_cF(f:Ro->Option (List D))(g:List D->Option (List D)):cF f g ρ=(f ρ).bind g:=nr rfl
@[simp] theorem ap_slF(f:Ro->Option D)(lo hi:Option (Ro->Option D)):slF f lo hi ρ=((f ρ).bind lstD).bind fun l=>(optI lo ρ).bind fun i=>(optI hi ρ).bind fun j=>some (cutD l i j):=nr rfl
@[simp] theorem ap_optS(f:Ro->Option D):optI (some f) ρ=((f ρ).bind intD).map some:=nr rfl
@[simp] theorem ap_sNil:sNil ρ=some (.nx ρ):=nr rfl
@[simp] theorem ap_sSet(i:Nat)(f:Ro->Option D):sSet i f ρ=(f ρ).map fun d=>.nx (ρ.set i (some (.sh d))):=nr rfl
@[simp] theorem ap_sOwn(i:Nat)(f:Ro->Option (List D)):sOwn i f ρ=(f ρ).map fun l=>.nx (ρ.set i (some (.ow l))):=nr rfl
@[simp] theorem ap_sRet(f:Ro->Option D):sRet f ρ=(f ρ).map .rt:=nr rfl
@[simp] theorem ap_sIf(c:Ro->Option Bool)(f g:Ro->Option Out):sIf c f g ρ=(c ρ).bind fun k=>if k=true then f ρ else g ρ:=nr rfl
@[simp] theorem ap_sMut(i:Nat)(f:Ro->Option D)(g:List D->D->Option (List D)):sMut i f g ρ=(getO i ρ).bind fun l=>(f ρ).bind fun d=>(g l d).map fun l'=>.nx (ρ.set i (some (.ow l'))):=nr rfl
@[simp] theorem ap_sFor(gl:Ro->Option (List D))(gt:D->Ro->Option Ro)(fb:Ro->Option Out):sFor gl gt fb ρ=(gl ρ).bind fun ds=>forM gt fb ds ρ:=nr rfl
@[simp] theorem ap_fComp(gl:Ro->Option (List D))(src:List (Option Nat))(gt:D->Ro->Option Ro)(fc:Ro->Option Bool)(fe:Ro->Option D):Yb2 gl src gt fc fe ρ=(gl ρ).bind fun ds=>Yeu gt fc fe (capR src ρ) ds:=nr rfl
@[simp] theorem ap_wF(is:List Nat)(f:Ro->Option Out):wF is f ρ=f (frz is ρ):=nr rfl
@[simp] theorem ap_tY:tY ρ=some true:=nr rfl
@[simp] theorem ap_gSet(i:Nat)(d:D):gSet i d ρ=some (ρ.set i (some (.sh d))):=nr rfl
def Yv6(g:Ro->Option Out):Out->Option Out
 | .nx ρ'=>g ρ'
 | o=>some o
@[simp] theorem thenS_nx(g:Ro->Option Out)(ρ':Ro):Yv6 g (.nx ρ')=g ρ':=nr rfl
@[simp] theorem thenS_rt(g:Ro->Option Out)(d:D):Yv6 g (.rt d)=some (.rt d):=nr rfl
@[simp] theorem ap_sSeq(f g:Ro->Option Out):sSeq f g ρ=(f ρ).bind (Yv6 g):=nr rfl
def endB:Out->Option D
 | .rt d=>some d
 | .nx _=>some .non
 | _=>none
@[simp] theorem endB_rt(d:D):endB (.rt d)=some d:=nr rfl
@[simp] theorem endB_nx(ρ:Ro):endB (.nx ρ)=some .non:=nr rfl
theorem Yam{k n:Nat}{fb:Ro->Option Out}{ds:List D}(h:ds.length=k):runB k n fb ds=(fb (Yv n ds)).bind endB:=by
 unfold runB
 rw[if_pos h]
 rfl
@[simp] theorem frz_nil:frz [] ρ=ρ:=nr rfl
@[simp] theorem frz_cons(i:Nat)(is:List Nat):frz (i::is) ρ=frz is (frz1 i ρ):=nr rfl
end
@[simp] theorem add_int'(i j:Int):addI (.int i) (.int j)=some (.int (i+j)):=nr rfl
theorem Ynk{i j:Int}(h:-(2 ^ 64) < i/\i < 2 ^ 64):mulI (.int i) (.int j)=some (.int (i * j)):=by
 simp only[mulI,i2]
 rw[if_pos]
 simp only[Bool.or_eq_true,Qg,decide_eq_true_eq]
 exact .inl h
@[simp] theorem Ynl{i j:Int}(h:0 < j)(h':j < 1073741824):divI (.int i) (.int j)=some (.int (i / j)):=by
 simp only[divI,i2]
 rw[if_pos]
 simp only[Qg,decide_eq_true_eq]
 exact⟨h,h'⟩
@[simp] theorem Yqr{i j:Int}(h:0 < j):modI (.int i) (.int j)=some (.int (i % j)):=by
 simp only[modI,i2]
 rw[if_pos]
 simp only[decide_eq_true_eq]
 exact h
@[simp] theorem lt_int'(i j:Int):ltI (.int i) (.int j)=some (decide (i < j)):=nr rfl
@[simp] theorem gt_int'(i j:Int):gtI (.int i) (.int j)=some (decide (j < i)):=nr rfl
@[simp] theorem ge_int'(i j:Int):geI (.int i) (.int j)=some (decide (j<=i)):=nr rfl
@[simp] theorem blD_bl(b:Bool):blD (.bl b)=some b:=nr rfl
@[simp] theorem truD_bl(b:Bool):truD (.bl b)=some b:=nr rfl
@[simp] theorem itemsOf_tup(l:List D):Ys (.tup l)=some l:=nr rfl
@[simp] theorem itemsOf_lst(l:List D):Ys (.lst l)=some l:=nr rfl
@[simp] theorem itemsOf_scr(ns:List Int):Ys (.scr ns)=some (ns.map D.int):=nr rfl
@[simp] theorem lenC_one(c:D):lenC [c]=(Ys c).map fun l=>.int l.length:=nr rfl
@[simp] theorem tupC_one(c:D):tupC [c]=(Ys c).map D.tup:=nr rfl
@[simp] theorem listF_one(c:D):Yp7 [c]=Ys c:=nr rfl
@[simp] theorem intC_bl(b:Bool):intC [.bl b]=some (.int (if b then 1 else 0)):=nr rfl
@[simp] theorem ixD_int(c:D)(i:Int):ixD c (.int i)=(Ys c).bind fun l=>atI l i:=nr rfl
@[simp] theorem lstD_scr(ns:List Int):lstD (.scr ns)=some (ns.map D.int):=nr rfl
@[simp] theorem intD_int(i:Int):intD (.int i)=some i:=nr rfl
@[simp] theorem Yqs(i j:Int):eqD (.int i) (.int j)=(i==j):=by simp[eqD,toPy,PyData.eqv]
@[simp] theorem Ytu(i j:Bool):eqD (.bl i) (.bl j)=(i==j):=by simp[eqD,toPy,PyData.eqv]
@[simp] theorem Yv7(i j:Str):eqD (.str i) (.str j)=(i==j):=by simp[eqD,toPy,PyData.eqv]
@[simp] theorem Yqt(l m:List D):eqD (.tup l) (.tup m)=eqL l m:=by simp[eqD,eqL,toPy,PyData.eqv]
@[simp] theorem Yv8:eqL [] []=true:=by simp[eqL,Yck,PyData.eqvAll]
@[simp] theorem Ynm(a b:D)(l m:List D):eqL (a::l) (b::m)=(eqD a b&&eqL l m):=by simp[eqL,eqD,Yck,PyData.eqvAll]
@[simp] theorem dep_int(i:Int):dep (.int i)=0:=by simp[dep]
@[simp] theorem Ytv(i:Bool):dep (.bl i)=0:=by simp[dep]
@[simp] theorem dep_str(i:Str):dep (.str i)=0:=by simp[dep]
@[simp] theorem dep_non:dep .non=0:=by simp[dep]
@[simp] theorem Ydu(l:List D):dep (.tup l)=depL l+1:=by simp[dep]
@[simp] theorem Ynn:depL []=0:=by simp[depL]
@[simp] theorem Ybl(d:D)(l:List D):depL (d::l)=max (dep d) (depL l):=by simp[depL]
theorem Yij{neg:Bool}{d e:D}(h:dep d<=60)(h':dep e<=60):eqM neg d e=some (if neg then !eqD d e else eqD d e):=by
 unfold eqM
 rw[if_pos ⟨h,h'⟩]
theorem Ytw{neg:Bool}{d c:D}{l:List D}(hc:Ys c=some l)(h:dep d<=60)(h':depL l<=60):inM neg d c=some (if neg then !inD d l else inD d l):=by
 unfold inM
 rw[hc,qc,if_pos ⟨h',h⟩]
theorem Ydv{gt:D->Ro->Option Ro}{fc:Ro->Option Bool}{fe:Ro->Option D}{ρ:Ro}{α:Type}(enc:α->D)(p:α->Bool)(f:α->D):∀(l:List α),(∀a∈l,∃ρ1,gt (enc a) ρ=some ρ1/\fc ρ1=some (p a)/\(p a=true->fe ρ1=some (f a)))->
 Yeu gt fc fe ρ (l.map enc)=some ((l.filter p).map f)
 | [],_=>rfl
 | a::l,h=>by
   obtain⟨ρ1,h1,h2,h3⟩:=h a qg
   have ih:=Ydv enc p f l fun b hb=>h b (qf _ hb)
   rw[qz,Yeu,h1,qc,h2,qc]
   cases hp:p a with
   | true=>
     rw[if_pos rfl,h3 hp,qc,ih,List.filter_cons_of_pos hp]
     rfl
   | false=>rw[if_neg qh,ih,List.filter_cons_of_neg (by rw[hp];exact qh)]
@[simp] theorem atI_zero{α:Type}(a:α)(l:List α):atI (a::l) 0=some a:=by
 have:=Ylu (xs:=a::l) (j:=0) (v:=a) rfl
 simpa using this
@[simp] theorem atI_one{α:Type}(a b:α)(l:List α):atI (a::b::l) 1=some b:=by
 have:=Ylu (xs:=a::b::l) (j:=1) (v:=b) rfl
 simpa using this
theorem Yff{gt:D->Ro->Option Ro}{fb:Ro->Option Out}{α:Type}(enc:α->D)(I:List α->Ro->Prop):∀(l pre:List α) (ρ:Ro),I pre ρ->
 (∀q a r ρ,pre++l=q++a::r->I q ρ->∃ρ1 ρ2,gt (enc a) ρ=some ρ1/\fb ρ1=some (.nx ρ2)/\I (q++[a]) ρ2)->∃ρ',M.forM gt fb (l.map enc) ρ=some (.nx ρ')/\I (pre++l) ρ'
 | [],pre,ρ,h0,_=>⟨ρ,rfl,by rw[List.append_nil];exact h0⟩
 | a::l,pre,ρ,h0,hs=>by
   obtain⟨ρ1,ρ2,e1,e2,h2⟩:=hs pre a l ρ rfl h0
   obtain⟨ρ',e3,h3⟩:=Yff enc I l (pre++[a]) ρ2 h2 fun q b r ρ e hI=>hs q b r ρ (by rw[<-e,List.append_assoc];rfl) hI
   refine⟨ρ',?_,by rw[List.append_assoc]at h3;exact h3⟩
   rw[qz,M.forM,e1,qc,e2,qc]
   exact e3
theorem Yjc(a n:Int):rngD a n=(List.range (n - a).toNat).map fun i=>D.int (a+(i:Nat)):=rfl
theorem Yg7{n:Int}(h:-1000000<=n)(h':n<=1000000):rng1 [.int n]=some (rngD 0 n):=by
 have hcap:(cap6:Int)=1000000:=by decide
 simp only[rng1]
 rw[if_pos]
 simp only[Qg,decide_eq_true_eq]
 lia
theorem Yfg{α:Type}{l:List α}{i:Nat}(h:i < l.length):atI l (i:Int)=some l[i]:=Ylu (qp h)
theorem Yjd{α β:Type}(f:α->β)(l:List α)(i:Int):atI (l.map f) i=(atI l i).map f:=by
 unfold atI
 rw[qe]
 cases ixN l.length i with
 | none=>rfl
 | some j=>
   show(l.map f)[j]?=(l[j]?).map f
   rw[Qd]
end M
namespace M
open PySem L2
@[simp] theorem nat_eq_iff(x b:Nat):((x:Int)=(b:Int))↔x=b:=by lia
@[simp] theorem Yv9(neg:Bool)(i j:Int):eqM neg (.int i) (.int j)=some (if neg then !decide (i=j)else decide (i=j)):=by
 rw[Yij (by simp) (by simp),Yqs];rfl
@[simp] theorem eqM_bl(neg:Bool)(i j:Bool):eqM neg (.bl i) (.bl j)=some (if neg then !(i==j)else i==j):=by
 rw[Yij (by simp) (by simp),Ytu]
@[simp] theorem isN_non(neg:Bool):isN neg .non .non=some (if neg then false else true):=by cases neg<;>rfl
@[simp] theorem isN_int(neg:Bool)(i:Int):isN neg (.int i) .non=some (if neg then true else false):=by cases neg<;>rfl
@[simp] theorem isN_bl(neg:Bool)(l:Bool):isN neg (.bl l) .non=some (if neg then true else false):=by cases neg<;>rfl
@[simp] theorem Ygh{α:Type}(f:α->Bool):∀l:List α,blsD (l.map fun a=>.bl (f a))=some (l.map f)
 | []=>rfl
 | a::l=>by rw[qz,blsD,Ygh f l];rfl
@[simp] theorem Yks{α:Type}(f:α->Int):∀l:List α,Ydr (l.map fun a=>.int (f a))=some (l.map f)
 | []=>rfl
 | a::l=>by rw[qz,Ydr,Yks f l];rfl
@[simp] theorem Ykt(l:List Int):Ydr (l.map D.int)=some l:=by simpa using Yks id l
@[simp] theorem anyC_lst(l:List D):anyC [.lst l]=(blsD l).map fun bs=>.bl (bs.any id):=nr rfl
@[simp] theorem Ysu(l:List D):allC [.lst l]=(blsD l).map fun bs=>.bl (bs.all id):=nr rfl
@[simp] theorem ap_sMut2{ρ:Ro}(i:Nat)(fi f:Ro->Option D)(g:List D->D->D->Option (List D)):Yoi i fi f g ρ=(f ρ).bind fun d=>(getO i ρ).bind fun l=>(fi ρ).bind fun k=>(g l k d).map fun l'=>.nx (ρ.set i (some (.ow l'))):=nr rfl
@[simp] theorem enumD_of(c:D):Yl1 c=(Ys c).map Yg1:=nr rfl
@[simp] theorem cap6_eq:cap6=1000000:=nr rfl
@[simp] theorem gV0(d:D)(r:Ro):getV 0 (some (.sh d)::r)=some d:=nr rfl
@[simp] theorem gC0(d:D)(r:Ro):getC 0 (some (.sh d)::r)=some d:=nr rfl
@[simp] theorem gC0o(l:List D)(r:Ro):getC 0 (some (.ow l)::r)=some (.lst l):=nr rfl
@[simp] theorem gO0(l:List D)(r:Ro):getO 0 (some (.ow l)::r)=some l:=nr rfl
@[simp] theorem gVs(n:Nat)(b:Option B)(r:Ro):getV (n+1) (b::r)=getV n r:=by simp[getV]
@[simp] theorem gCs(n:Nat)(b:Option B)(r:Ro):getC (n+1) (b::r)=getC n r:=by simp[getC]
@[simp] theorem gOs(n:Nat)(b:Option B)(r:Ro):getO (n+1) (b::r)=getO n r:=by simp[getO]
@[simp] theorem frz0o(l:List D)(r:Ro):frz1 0 (some (.ow l)::r)=some (.sh (.lst l))::r:=nr rfl
@[simp] theorem frz_s(n:Nat)(b:Option B)(r:Ro):frz1 (n+1) (b::r)=b::frz1 n r:=by
 unfold frz1
 rw[List.getElem?_cons_succ]
 cases h:r[n]? with
 | none=>rfl
 | some o=>
   cases o with
   | none=>rfl
   | some b=>cases b<;>rfl
theorem Yku{fe:Ro->Option D}{r:Ro}{α:Type}{enc:α->D}(f:α->D){l:List α}(h:∀a∈l,fe (some (.sh (enc a))::r)=some (f a)):Yeu (gSet 0) tY fe (none::r) (l.map enc)=some (l.map f):=by
 have:=Ydv (gt:=gSet 0) (fc:=tY) (fe:=fe) (ρ:=none::r) enc (fun _=>true) f l fun a ha=>⟨_,rfl,rfl,fun _=>h a ha⟩
 rw[List.filter_eq_self.mpr (fun _ _=>rfl)]at this
 exact this
theorem Yno{fc:Ro->Option Bool}{fe:Ro->Option D}{r:Ro}{α:Type}{enc:α->D}(p:α->Bool)(f:α->D){l:List α}(h1:∀a∈l,fc (some (.sh (enc a))::r)=some (p a))(h2:∀a∈l,p a=true->fe (some (.sh (enc a))::r)=some (f a)) :
 Yeu (gSet 0) fc fe (none::r) (l.map enc)=some ((l.filter p).map f):=
 Ydv (gt:=gSet 0) enc p f l fun a ha=>⟨_,rfl,h1 a ha,h2 a ha⟩
theorem Yy1{fc:Ro->Option Bool}{fe:Ro->Option D}{r:Ro}{α:Type}{e1 e2:α->D}(p:α->Bool)(f:α->D){l:List α}(h1:∀a∈l,fc (some (.sh (e1 a))::some (.sh (e2 a))::r)=some (p a))(h2:∀a∈l,p a=true->fe (some (.sh (e1 a))::some (.sh (e2 a))::r)=some (f a)) :
 Yeu (Ydl 0 1) fc fe (none::none::r) (l.map fun a=>.tup [e1 a,e2 a])=some ((l.filter p).map f):=
 Ydv (gt:=Ydl 0 1) (fun a=>.tup [e1 a,e2 a]) p f l fun a ha=>⟨_,rfl,h1 a ha,h2 a ha⟩
theorem Ykv{α:Type}(enc:α->D)(d:α)(l:List α):Yg1 (l.map enc)=(List.range l.length).map fun i=>.tup [.int i,enc (l.getD i d)]:=by
 unfold Yg1
 rw[qe]
 refine List.map_congr_left fun i hi=>?_
 have h:=List.mem_range.mp hi
 simp[h]
end M
namespace Bk
open PySem L2 M
abbrev Say:=Nat × Bool
inductive Kd where
 | e | s | i | n
 deriving DecidableEq
inductive Rl where
 | ei (l:List Say)
 | su (b:List Nat) (o:Bool)
 | im (b:List Nat) (h:Option Nat)
 deriving DecidableEq
def kS:Kd->Str
 | .e=>Str.ofString "eithers"
 | .s=>Str.ofString "sums"
 | .i=>Str.ofString "ifs"
 | .n=>Str.ofString "nots"
def kdD(k:Kd):D:=.str (kS k)
abbrev nD(n:Nat):D:=.int n
def sayD(s:Say):D:=.tup [.int s.1,.bl s.2]
def optD:Option Nat->D
 | none=>.non
 | some n=>.int n
def rlD:Rl->D
 | .ei l=>.tup (l.map sayD)
 | .su b o=>.tup [.tup (b.map nD),.bl o]
 | .im b h=>.tup [.tup (b.map nD),optD h]
def Yt(k:Kd)(R:List Rl):D:=.tup [kdD k,.tup (R.map rlD)]
@[simp] theorem dep_kd(k:Kd):dep (kdD k)=0:=by simp[kdD]
@[simp] theorem dep_say(s:Say):dep (sayD s)=1:=by simp[sayD]
@[simp] theorem Yqu(h:Option Nat):dep (optD h)=0:=by cases h<;>simp[optD]
theorem Yy2:∀{k j:Kd},kS k=kS j->k=j:=by
 intro k j
 cases k<;>cases j<;>first | (intro _;rfl) | (intro h;exact absurd h (by decide +kernel))
@[simp] theorem Yy3(k j:Kd):eqD (kdD k) (kdD j)=decide (k=j):=by
 rw[kdD,kdD,Yv7]
 by_cases h:k=j
 ·simp[h]
 ·have h':¬kS k=kS j:=fun e=>h (Yy2 e)
  simp[h,h']
theorem Yqv(neg:Bool)(k j:Kd):eqM neg (kdD k) (kdD j)=some (if neg then !decide (k=j)else decide (k=j)):=by
 rw[Yij (by simp) (by simp),Yy3]
@[simp] theorem eqM_e(neg:Bool)(k:Kd):eqM neg (kdD k) (.str (Str.ofString "eithers"))=some (if neg then !decide (k=.e)else decide (k=.e)):=Yqv neg k .e
@[simp] theorem eqM_s(neg:Bool)(k:Kd):eqM neg (kdD k) (.str (Str.ofString "sums"))=some (if neg then !decide (k=.s)else decide (k=.s)):=Yqv neg k .s
@[simp] theorem eqM_i(neg:Bool)(k:Kd):eqM neg (kdD k) (.str (Str.ofString "ifs"))=some (if neg then !decide (k=.i)else decide (k=.i)):=Yqv neg k .i
@[simp] theorem Yy4(a b:Nat):eqD (nD a) (nD b)=decide (a=b):=by
 rw[nD,nD,Yqs]
 by_cases h:a=b
 ·simp[h]
 ·have:¬(a:Int)=b:=by lia
  simp[h,this]
@[simp] theorem Ywa(s t:Say):eqD (sayD s) (sayD t)=decide (s=t):=by
 obtain⟨a,p⟩:=s
 obtain⟨b,q⟩:=t
 have:=Yy4 a b
 simp only[nD]at this
 simp only[sayD,Yqt,Ynm,this,Ytu,Yv8,Bool.and_true]
 by_cases h1:a=b<;>by_cases h2:p=q<;>simp[h1,h2]
theorem Yl8{α:Type} [DecidableEq α] {enc:α->D} (he:∀a b,eqD (enc a) (enc b)=decide (a=b)) (s:α):∀l:List α,inD (enc s) (l.map enc)=decide (s∈l)
 | []=>by simp[inD]
 | t::l=>by
   have ih:=Yl8 he s l
   unfold inD at ih ⊢
   rw[qz,List.any_cons,ih,he]
   by_cases h1:t=s
   ·simp[h1]
   ·have h1':¬s=t:=fun e=>h1 e.symm
    simp[h1,h1']
theorem Yqw:∀{l:List D} {d:D},d∈l->dep d<=depL l
 | e::l,d,h=>by
   rw[Ybl]
   rcases qr h with rfl | h
   ·exact Nat.le_max_left _ _
   ·exact qy (Yqw h) (Nat.le_max_right _ _)
theorem Yew{n:Nat}:∀{l:List D},(∀d∈l,dep d<=n)->depL l<=n
 | [],_=>by simp
 | d::l,h=>by
   rw[Ybl]
   exact Nat.max_le.mpr ⟨h d qg,Yew fun e he=>h e (qf _ he)⟩
theorem Ytx{c:D}(s:Say)(l:List Say)(neg:Bool)(hc:Ys c=some (l.map sayD)):inM neg (sayD s) c=some (if neg then !decide (s∈l)else decide (s∈l)):=by
 rw[Ytw hc (by simp) (Yew fun d hd=>by obtain⟨x,_,rfl⟩:=qv hd;simp),Yl8 Ywa]
 by_cases hm:s∈l<;>simp[hm]
theorem in_n{c:D}(s:Nat)(l:List Nat)(neg:Bool)(hc:Ys c=some (l.map nD)):inM neg (nD s) c=some (if neg then !decide (s∈l)else decide (s∈l)):=by
 rw[Ytw hc (by simp) (Yew fun d hd=>by obtain⟨x,_,rfl⟩:=qv hd;simp),Yl8 Yy4]
@[simp] theorem ix_say0(s:Say):(Ys (sayD s)).bind (fun l=>atI l 0)=some (.int s.1):=by simp[sayD]
@[simp] theorem ix_say1(s:Say):(Ys (sayD s)).bind (fun l=>atI l 1)=some (.bl s.2):=by simp[sayD]
@[simp] theorem items_ei(l:List Say):Ys (rlD (.ei l))=some (l.map sayD):=nr rfl
@[simp] theorem items_su(b:List Nat)(o:Bool):Ys (rlD (.su b o))=some [.tup (b.map nD),.bl o]:=nr rfl
@[simp] theorem items_im(b:List Nat)(h:Option Nat):Ys (rlD (.im b h))=some [.tup (b.map nD),optD h]:=nr rfl
@[simp] theorem items_book(k:Kd)(R:List Rl):Ys (Yt k R)=some [kdD k,.tup (R.map rlD)]:=nr rfl
def at'(ev:List Bool)(n:Nat):Bool:=ev.getD n false
theorem Ysv{ev:List Bool}{n:Nat}(h:n < ev.length):atI (ev.map D.bl) (n:Int)=some (.bl (at' ev n)):=by
 rw[Yjd,Yfg h]
 simp[at',h]
def In(k:Kd)(n:Nat):Rl->Prop
 | .ei l=>k=.e/\∀s∈l,s.1 < n
 | .su b _=>k=.s/\∀x∈b,x < n
 | .im b h=>(k=.i\/k=.n)/\(∀x∈b,x < n)/\∀x,h=some x->x < n
def slt(s t:Say):Prop:=s.1 < t.1\/(s.1=t.1/\s.2=false/\t.2=true)
def Srt:Rl->Prop
 | .ei l=>l.length<=2/\l.Pairwise slt
 | .su b _=>b.Pairwise (· < ·)
 | .im b _=>b.Pairwise (· < ·)
def hd(ev:List Bool)(w:Bool):Option Nat->Bool
 | none=>false
 | some x=>at' ev x==w
def nth(R:List Rl)(i:Nat):Rl:=R.getD i (.ei [])
theorem Ywb{R:List Rl}{i:Nat}(h:i < R.length):nth R i∈R:=by simp[nth,h]
theorem Ywc(R:List Rl):Yg1 (R.map rlD)=(List.range R.length).map fun i:Nat=>.tup [.int (i:Int),rlD (nth R i)]:=Ykv rlD (.ei []) R
def so(k:Kd)(ev:List Bool):Rl->Bool
 | .ei l=>l.any fun s=>at' ev s.1==s.2
 | .su b o=>decide ((b.filter (at' ev)).length % 2=1)==o
 | .im b h=>(b.any fun x=>at' ev x != decide (k=.i))||hd ev (decide (k=.i)) h
end Bk
namespace Bk
def brk(k:Kd)(ev:List Bool)(R:List Rl):List Nat:=(List.range R.length).filter fun i=>!so k ev (nth R i)
end Bk
namespace Bk
open PySem L2 M
def wo(b:Nat)(l:List Nat):List Nat:=l.filter fun x=>!decide (x=b)
def woS(b:Nat)(l:List Say):List Say:=l.filter fun s=>!decide (s.1=b)
theorem Yqx(k:Kd)(R:List Rl):D.tup [kdD k,.tup (R.map rlD)]=Yt k R:=rfl
theorem Ywd(l:List Say):D.tup (l.map sayD)=rlD (.ei l):=rfl
theorem Yqy(l:List Nat)(h:Option Nat):D.tup [.tup (l.map nD),optD h]=rlD (.im l h):=rfl
theorem Ysw(l:List Nat):D.tup [.tup (l.map nD),.non]=rlD (.im l none):=rfl
def Ybm(k:Kd)(b:Nat)(lit:Bool):Rl->Option Rl
 | .ei l=>if (b,lit)∈l then none else some (.ei (woS b l))
 | .su l o=>if b∈l then (if wo b l=[]/\o=lit then none else some (.su (wo b l) (o != lit)))else some (.su l o)
 | .im l h=>if (h=some b/\lit=decide (k=.i))\/(b∈l/\¬lit=decide (k=.i))then none else some (.im (wo b l) (if h=some b then none else h))
def optR:Option Rl->D
 | none=>.non
 | some r=>rlD r
@[simp] theorem isN_rl(neg:Bool)(r:Rl):isN neg (rlD r) .non=some (if neg then true else false):=by cases r<;>cases neg<;>rfl
@[simp] theorem eqM_opt(neg:Bool)(h:Option Nat)(b:Nat):eqM neg (optD h) (.int (b:Int))=some (if neg then !decide (h=some b)else decide (h=some b)):=by
 cases h with
 | none=>
   rw[Yij (by simp) (by simp)]
   have:eqD (optD none) (.int (b:Int))=false:=by simp[optD,eqD,toPy,PyData.eqv]
   rw[this]
   simp
 | some x=>
   show eqM neg (.int (x:Int)) (.int (b:Int))=_
   rw[Yv9]
   simp
theorem opts:∀Q:List (Option Rl),((Q.filter fun o=>o.isSome).map optR)=(Q.filterMap id).map rlD
 | []=>rfl
 | none::Q=>by
   have:=opts Q
   simpa using this
 | some r::Q=>by
   have:=opts Q
   simp[this,optR]
mutual
def Pl:D->Prop
 | .tup l=>l.length<=1000000/\PlL l
 | .lst _=>False
 | .scr _=>False
 | .dct _ _ _=>False
 | .obj _ _ _=>False
 | .adr _=>False
 | _=>True
def PlL:List D->Prop
 | []=>True
 | d::l=>Pl d/\PlL l
end
theorem PlL_iff:∀{l:List D},PlL l↔∀d∈l,Pl d
 | []=>by simp[PlL]
 | d::l=>by simp[PlL,PlL_iff (l:=l)]
theorem Yy5(s:Say):Pl (sayD s):=by simp[sayD,Pl,PlL]
theorem y0v(k:Kd):Pl (kdD k):=by simp[kdD,Pl]
theorem Yy6(h:Option Nat):Pl (optD h):=by cases h<;>simp[optD,Pl]
theorem Yy7{b:List Nat}(h:b.length<=1000000):Pl (.tup (b.map nD)):=by
 rw[Pl]
 refine⟨by simpa using h,PlL_iff.mpr fun d hd=>?_⟩
 obtain⟨x,_,rfl⟩:=qv hd
 simp[Pl]
def sz:Rl->Nat
 | .ei l=>l.length
 | .su b _=>b.length
 | .im b _=>b.length
theorem y0w{r:Rl}(h:sz r<=1000000):Pl (rlD r):=by
 cases r with
 | ei l=>
   rw[rlD,Pl]
   refine⟨by simpa [sz]using h,PlL_iff.mpr fun d hd=>?_⟩
   obtain⟨x,_,rfl⟩:=qv hd
   exact Yy5 x
 | su b o=>
   rw[rlD,Pl]
   exact⟨by simp,Yy7 h,by simp[Pl],by simp[PlL]⟩
 | im b o=>
   rw[rlD,Pl]
   exact⟨by simp,Yy7 h,Yy6 o,by simp[PlL]⟩
theorem Ywe{k:Kd}{R:List Rl}(h:R.length<=1000000)(hR:∀r∈R,sz r<=1000000):Pl (Yt k R):=by
 rw[Yt,Pl]
 refine⟨by simp,y0v k,?_,by simp[PlL]⟩
 rw[Pl]
 refine⟨by simpa using h,PlL_iff.mpr fun d hd=>?_⟩
 obtain⟨r,hr,rfl⟩:=qv hd
 exact y0w (hR r hr)
theorem Yty(b:List Nat):dep (.tup (b.map nD))<=1:=by
 rw[Ydu]
 have:depL (b.map nD)<=0:=Yew fun d hd=>by
  obtain⟨x,_,rfl⟩:=qv hd
  simp
 lia
theorem Yy8(r:Rl):dep (rlD r)<=2:=by
 cases r with
 | ei l=>
   rw[rlD,Ydu]
   have:depL (l.map sayD)<=1:=Yew fun d hd=>by
    obtain⟨x,_,rfl⟩:=qv hd
    simp
   lia
 | su b o=>
   have:=Yty b
   rw[rlD,Ydu,Ybl,Ybl,Ynn]
   first | rw[Ytv] | rw[Yqu]
   lia
 | im b o=>
   have:=Yty b
   rw[rlD,Ydu,Ybl,Ybl,Ynn]
   first | rw[Ytv] | rw[Yqu]
   lia
theorem Ysx(k:Kd)(R:List Rl):dep (Yt k R)<=4:=by
 rw[Yt,Ydu,Ybl,Ybl,Ydu]
 have:depL (R.map rlD)<=2:=Yew fun d hd=>by
  obtain⟨x,_,rfl⟩:=qv hd
  exact Yy8 x
 simp
 lia
theorem Yqz{n:Nat}:∀{l:List Nat} {a:Nat},l.Pairwise (· < ·)->(∀x∈l,a<=x/\x < n)->l.length<=n - a
 | [],_,_,_=>Qb _
 | x::l,a,h,hl=>by
   have hx:=hl x qg
   have hp:=List.pairwise_cons.mp h
   have ih:=Yqz (n:=n) (l:=l) (a:=x+1) hp.2 fun y hy=>⟨hp.1 y hy,(hl y (qf _ hy)).2⟩
   rw[qq]
   lia
theorem Yq0{n:Nat}{l:List Nat}(h:l.Pairwise (· < ·))(hl:∀x∈l,x < n):l.length<=n:=Yqz (a:=0) h fun x hx=>⟨Qb _,hl x hx⟩
theorem y0x{k:Kd}{n:Nat}{r:Rl}(hi:In k n r)(hs:Srt r):sz r<=n+2:=by
 cases r with
 | ei l=>exact qy hs.1 (by lia)
 | su b o=>exact qy (Yq0 hs hi.2) (by lia)
 | im b o=>exact qy (Yq0 hs hi.2.1) (by lia)
end Bk
namespace Bk
def bcs:Rl->List Nat
 | .ei l=>l.map (·.1)
 | .su b _=>b
 | .im b none=>b
 | .im b (some x)=>b++[x]
theorem Yg8{b:Nat}{l:List Nat}(h:b∉l):wo b l=l:=List.filter_eq_self.mpr fun x hx=>by
 have:¬x=b:=fun e=>h (e ▸ hx)
 simp[this]
theorem Yoq{k:Kd}{b:Nat}{lit:Bool}{r:Rl}(h:b∉bcs r):Ybm k b lit r=some r:=by
 cases r with
 | ei l=>
   have h1:(b,lit)∉l:=fun e=>h (List.mem_map.mpr ⟨(b,lit),e,rfl⟩)
   have h2:woS b l=l:=List.filter_eq_self.mpr fun s hs=>by
    have:¬s.1=b:=fun e=>h (List.mem_map.mpr ⟨s,hs,e⟩)
    simp[this]
   simp[Ybm,h1,h2]
 | su l o=>simp[Ybm,show b∉l from h]
 | im l o=>
   cases o with
   | none=>
     have h1:b∉l:=h
     simp[Ybm,h1,Yg8 h1]
   | some x=>
     have h1:b∉l:=fun e=>h (by simp[bcs,e])
     have h2:¬x=b:=fun e=>h (by simp[bcs,e])
     simp[Ybm,h1,h2,Yg8 h1]
end Bk
namespace Bk
open PySem L2 M
theorem mem_wo{b x:Nat}{l:List Nat}:x∈wo b l↔x∈l/\x≠b:=by simp[wo]
theorem mem_woS{b:Nat}{s:Say}{l:List Say}:s∈woS b l↔s∈l/\s.1≠b:=by simp[woS]
theorem Ytz{k:Kd}{n:Nat}{r:Rl}(h:In k n r):∀x∈bcs r,x < n:=by
 cases r with
 | ei l=>
   intro x hx
   obtain⟨s,hs,rfl⟩:=qv hx
   exact h.2 s hs
 | su b o=>exact h.2
 | im b o=>
   intro x hx
   cases o with
   | none=>exact h.2.1 x hx
   | some y=>
     rcases qt hx with hx | hx
     ·exact h.2.1 x hx
     ·rw[List.mem_singleton.mp hx];exact h.2.2 y rfl
theorem Yt0{b:Nat}{ev:List Bool}:∀{l:List Nat},l.Pairwise (· < ·)->b∈l->(l.filter (at' ev)).length=((wo b l).filter (at' ev)).length+if at' ev b=true then 1 else 0
 | [],_,h=>by cases h
 | a::l,hp,h=>by
   have hp':=List.pairwise_cons.mp hp
   by_cases e:a=b
   ·subst e
    have hn:a∉l:=fun hm=>Qe _ (hp'.1 a hm)
    have hw:wo a (a::l)=l:=by
     have:=Yg8 hn
     simpa [wo]using this
    rw[hw]
    cases hat:at' ev a<;>simp[hat]
   ·have hm:b∈l:=by
     rcases qr h with z | z
     ·exact absurd z.symm e
     ·exact z
    have ih:=Yt0 (ev:=ev) hp'.2 hm
    have hw:wo b (a::l)=a::wo b l:=by simp[wo,e]
    rw[hw]
    cases hat:at' ev a<;>simp[hat,ih]
    lia
theorem Yq1{k:Kd}{n:Nat}{ev:List Bool}{b:Nat}{r q:Rl}(hi:In k n r)(hs:Srt r)(h:Ybm k b (at' ev b) r=some q) :
 so k ev q=so k ev r/\(∀x∈bcs q,x∈bcs r/\x≠b)/\(r≠.su [] false->q≠.su [] false)/\In k n q/\Srt q/\sz q<=sz r:=by
 cases r with
 | ei l=>
   rw[Ybm]at h
   split at h
   ·cases h
   ·rename_i hm
    cases h
    refine⟨?_,fun x hx=>?_,fun _ z=>(by cases z),⟨hi.1,fun s hs'=>hi.2 s (mem_woS.mp hs').1⟩,⟨qy (List.length_filter_le _ _) hs.1,hs.2.filter _⟩,List.length_filter_le _ _⟩
    ·rw[so,so,Bool.eq_iff_iff,List.any_eq_true,List.any_eq_true]
     refine⟨fun⟨s,h1,h2⟩=>⟨s,(mem_woS.mp h1).1,h2⟩,fun⟨s,h1,h2⟩=>⟨s,mem_woS.mpr ⟨h1,fun e=>hm ?_⟩,h2⟩⟩
     have:at' ev b=s.2:=by rw[<-e];simpa using h2
     rw[this,<-e]
     exact h1
    ·obtain⟨s,hs',rfl⟩:=qv hx
     exact⟨List.mem_map.mpr ⟨s,(mem_woS.mp hs').1,rfl⟩,(mem_woS.mp hs').2⟩
 | su l o=>
   rw[Ybm]at h
   split at h
   ·rename_i hm
    split at h
    ·cases h
    ·rename_i hc
     cases h
     have hp:l.Pairwise (· < ·):=hs
     have hpar:=Yt0 (ev:=ev) hp hm
     refine⟨?_,fun x hx=>mem_wo.mp hx,fun _ z=>hc ?_,⟨hi.1,fun x hx=>hi.2 x (mem_wo.mp hx).1⟩,hp.filter _,List.length_filter_le _ _⟩
     ·rw[so,so,hpar]
      generalize ((wo b l).filter (at' ev)).length=m
      cases at' ev b with
      | false=>cases o<;>simp
      | true=>
        have:((m+1) % 2=1)↔¬(m % 2=1):=by lia
        by_cases hmm:m % 2=1
        ·have h2:¬(m+1) % 2=1:=by lia
         cases o<;>simp[hmm,h2]
        ·have h2:(m+1) % 2=1:=by lia
         have h3:m % 2=0:=by lia
         cases o<;>simp[h3,h2]
     ·injection z with z1 z2
      exact⟨z1,by cases o<;>cases hat:at' ev b<;>simp[hat]at z2 ⊢⟩
   ·rename_i hm
    cases h
    exact⟨rfl,fun x hx=>⟨hx,fun e=>hm (e ▸ hx)⟩,fun z=>z,hi,hs,qs _⟩
 | im l o=>
   rw[Ybm]at h
   split at h
   ·cases h
   ·rename_i hc
    cases h
    have hp:l.Pairwise (· < ·):=hs
    have hc1:o=some b->¬at' ev b=decide (k=.i):=fun e z=>hc (.inl ⟨e,z⟩)
    have hc2:b∈l->at' ev b=decide (k=.i):=fun e=>Classical.byContradiction fun z=>hc (.inr ⟨e,z⟩)
    refine⟨?_,fun x hx=>?_,fun _ z=>(by cases z),⟨hi.1,fun x hx=>hi.2.1 x (mem_wo.mp hx).1,fun x hx=>?_⟩,hp.filter _,List.length_filter_le _ _⟩
    ·rw[so,so]
     have e1:((wo b l).any fun x=>at' ev x != decide (k=.i))=l.any fun x=>at' ev x != decide (k=.i):=by
      rw[Bool.eq_iff_iff,List.any_eq_true,List.any_eq_true]
      refine⟨fun⟨x,h1,h2⟩=>⟨x,(mem_wo.mp h1).1,h2⟩,fun⟨x,h1,h2⟩=>⟨x,mem_wo.mpr ⟨h1,fun e=>?_⟩,h2⟩⟩
      rw[e]at h1 h2
      rw[hc2 h1]at h2
      simp at h2
     rw[e1]
     by_cases ho:o=some b
     ·have:=hc1 ho
      rw[if_pos ho,ho,hd,hd]
      have:(at' ev b==decide (k=.i))=false:=by simpa using this
      rw[this]
     ·rw[if_neg ho]
    ·have key:x∈wo b l\/(o≠some b/\o=some x):=by
      by_cases ho:o=some b
      ·rw[if_pos ho]at hx
       exact .inl hx
      ·rw[if_neg ho]at hx
       cases o with
       | none=>exact .inl hx
       | some y=>
         rcases qt hx with hx | hx
         ·exact .inl hx
         ·rw[List.mem_singleton.mp hx];exact .inr ⟨ho,rfl⟩
     rcases key with hx | ⟨ho,hx⟩
     ·have:=mem_wo.mp hx
      refine⟨?_,this.2⟩
      cases o with
      | none=>exact this.1
      | some y=>exact List.mem_append_left _ this.1
     ·subst hx
      exact⟨Qi _ qg,fun e=>ho (by rw[e])⟩
    ·split at hx
     ·cases hx
     ·exact hi.2.2 x hx
mutual
theorem Ynp:∀d:D,Pl d->eqD d d=true
 | .non,_=>by simp[eqD,toPy,PyData.eqv]
 | .bl b,_=>by simp
 | .int i,_=>by simp
 | .str x,_=>by simp
 | .tup l,h=>by
   rw[Pl]at h
   rw[Yqt]
   exact Ynq l h.2
 | .lst l,h=>by rw[Pl]at h;exact h.elim
 | .scr l,h=>by rw[Pl]at h;exact h.elim
 | .dct _ _ _,h=>by rw[Pl]at h;exact h.elim
 | .obj _ _ _,h=>by rw[Pl]at h;exact h.elim
 | .adr _,h=>by rw[Pl]at h;exact h.elim
theorem Ynq:∀l:List D,PlL l->eqL l l=true
 | [],_=>by simp
 | d::l,h=>by
   rw[PlL]at h
   rw[Ynm,Ynp d h.1,Ynq l h.2]
   rfl
end
theorem Ynr{d:D}(h:Pl d)(hd:dep d<=60)(neg:Bool):eqM neg d d=some (!neg):=by
 rw[Yij hd hd,Ynp d h]
 cases neg<;>rfl
end Bk
namespace M
open PySem PySem.Spec PyProof.Rows L2
section
variable {K:W.Frag}
def fldD(c f:Str):D->Option D
 | .obj c' ks vs=>if c'=c then (ks.zip vs).lookup f else none
 | _=>none
def CF(K:W.Frag)(c f:Str):Prop:=∀C,W.nsIn K mainGlobals c=some (some (.ref C))->Cls K C/\NoAttr K C f
theorem RpL.look{G:Hp}{f:Str}:∀{ks:List Str} {vs:List D} {xs:List V} {d:D},RpL K G vs xs->(ks.zip vs).lookup f=some d->∃v,(ks.zip xs).lookup f=some v/\Rp K G d v
 | [],_,_,_,_,e=>by simp at e
 | _::_,[],_,_,_,e=>by simp at e
 | k::ks,d'::vs,xs,d,r,e=>by
   rw[RpL]at r
   obtain⟨x,xs',rfl,g,q⟩:=r
   rw[List.zip_cons_cons,Qf]at e ⊢
   cases h:(f==k)with
   | true=>
     rw[h]at e
     cases e
     exact⟨x,rfl,g⟩
   | false=>
     rw[h]at e
     exact RpL.look q e
section
variable {X:Cx} {e o:Expr} {fa fo:Ro->Option D} {pos apos:Pos} {c f:Str}
theorem Yy9(k:CF X.K c f)(he:ME X e fa)(hb:attributeBase e f X.env (eval e X.env)=eval e X.env:=by rfl):ME X (.Attribute e f pos) (b1 fa (fldD c f)):=
 PE.imp (Ype he hb) fun σ H Q hx_=>by
  obtain⟨ρ,d,H0,G0,G,e,s,h⟩:=hx_
  obtain⟨x,h1,h2⟩:=Ybs e
  refine tOf.at h1 s fun v H1 G1 g1 r1 s1=>?_
  cases x with
  | obj c' ks vs=>
    change (if c'=c then (ks.zip vs).lookup f else none)=some d at h2
    by_cases hc:c'=c
    ·rw[if_pos hc]at h2
     subst hc
     rw[Rp]at r1
     obtain⟨a,C,dx,xs,rfl,n,g,l,q⟩:=r1
     obtain⟨v,hv,rv⟩:=q.look h2
     exact⟨a,C,dx,_,v,rfl,s1.seen _ _ g,(k C n).1,(k C n).2,hv,h v H1 G1 g1 rv⟩
    ·rw[if_neg hc]at h2
     cases h2
  | _=>cases h2
def Okm(P:Program)(w:World)(K:W.Frag)(mg:Str->Option Value)(base:Heap)(k:Nat)(c m:Str)(ps:List Str)(sp:Sp):Prop:=
 ∃C f fd,FnOk P w K mg base CX0 k f fd ps sp/\Binds K fd ps []/\W.nsIn K mainGlobals c=some (some (.ref C))/\Cls K C/\Meth K C m f
def mthD(c m:Str)(fn:List D->Option D):D->Option D
 | .obj c' ks vs=>if c'=c/\m∉ks then fn [.obj c' ks vs]else none
 | _=>none
theorem Yq2{f:Str}:∀{ks:List Str} {xs:List V},f∉ks->(ks.zip xs).lookup f=none
 | [],_,_=>by simp
 | _::_,[],_=>by simp
 | k::ks,x::xs,h=>by
   rw[List.zip_cons_cons,Qf]
   have h1:(f==k)=false:=by
    rw[beq_eq_false_iff_ne]
    exact fun z=>h (by rw[z];exact qg)
   rw[h1]
   exact Yq2 fun z=>h (qf _ z)
theorem Ysy{j k:Nat}{m:Str}{ps:List Str}{fn:List D->Option D}{pl:Sem Bool}(O:Okm X.prog X.w X.K X.mg X.base j c m ps (spOf X.K 1 fn))(hr:Room k X.A)(ho:ME X o fo)(hj:j<=k:=by first | exact qs _ | omega)
 (ht:eval (.Call (.Attribute o m apos) [] [] pos) X.env=(do
  let ov <-eval o X.env
  standAt apos.atName
  let (f,first) <-holding [ov] (getMethod ov m pl)
  callWith pos f first (backTo pos (starEach [] X.env)) (backToKw pos (keywordEach [] X.env))):=by rfl):ME X (.Call (.Attribute o m apos) [] [] pos) (b1 fo (mthD c m fn)):=by
 intro pins s σ H Q I hx_
 obtain⟨ρ,d,H0,G0,G,e,sr,h⟩:=hx_
 obtain⟨x,h1,h2⟩:=Ybs e
 cases x with
 | obj c' ks vs=>
   change (if c'=c/\m∉ks then fn [.obj c' ks vs]else none)=some d at h2
   by_cases hc:c'=c/\m∉ks
   ·rw[if_pos hc]at h2
    obtain⟨rfl,hm⟩:=hc
    obtain⟨C,f,fd,F,hb,hn,cl,me⟩:=O
    refine Ym0 (E:=E0) ho cl me F (hr.mono hj) hb .nil Ypn ht pins s σ H Q I ?_
    refine tOf.at h1 sr fun v H1 G1 g1 r1 s1=>?_
    rw[Rp]at r1
    obtain⟨a,C',dx,xs,rfl,n,g,l,q⟩:=r1
    rw[hn]at n
    cases n
    refine⟨a,dx,_,rfl,s1.seen _ _ g,Yq2 hm,?_⟩
    refine⟨rfl,[_],d,G1,s1.seen,.one ?_,h2,fun v H' G' g2 r2=>h v H' G' (g1.trans g2) r2⟩
    rw[Rp]
    exact⟨a,C,dx,xs,rfl,hn,g,l,q⟩
   ·rw[if_neg hc]at h2
    cases h2
 | _=>cases h2
end
end
section
variable {K:W.Frag}
inductive OutW (τ:Type) where
 | nx (ρ:Ro) (t:τ) | rt (d:D) (t:τ) | bk (ρ:Ro) (t:τ) | ct (ρ:Ro) (t:τ)
def Off(l:Addr)(H H':Hp):Prop:=∀a,a≠l->H' a=H a
theorem Off.trans{l:Addr}{H H' H'':Hp}(a:Off l H H')(b:Off l H' H''):Off l H H'':=fun x hx=>(b x hx).trans (a x hx)
structure WR(K:W.Frag)(l:Addr)(o:HO)(H0 G0:Hp)(σ:L2.St)(H G:Hp)(ρ:Ro):Prop where
 sr:SR K H0 G0 σ H G ρ
 g0:G0 l=none
 h0:H0 l=some o
def ContW{τ:Type}(rep:τ->HO)(K:W.Frag)(l:Addr)(H0 G0:Hp)(F:Ends):OutW τ->Prop
 | .nx ρ' t=>∀σ' H' G' H1,Off l H0 H1->WR K l (rep t) H1 G0 σ' H' G' ρ'->F.nx σ' H'
 | .rt d t=>∀v H' G' H1,Off l H0 H1->H1 l=some (rep t)->Gr H1 G0 H' G'->Rp K G' d v->F.rt v H'
 | .bk ρ' t=>∀σ' H' G' H1,Off l H0 H1->WR K l (rep t) H1 G0 σ' H' G' ρ'->F.bk σ' H'
 | .ct ρ' t=>∀σ' H' G' H1,Off l H0 H1->WR K l (rep t) H1 G0 σ' H' G' ρ'->F.ct σ' H'
section
variable {τ:Type} {rep:τ->HO} {l:Addr} {H0 G0 H G H1:Hp} {σ:L2.St} {ρ:Ro} {o:HO} {F:Ends}
theorem ContW.off{out:OutW τ}(f:Off l H0 H1)(c:ContW rep K l H0 G0 F out):ContW rep K l H1 G0 F out:=by
 cases out with
 | nx ρ t=>exact fun σ' H' G' H2 g w=>c σ' H' G' H2 (f.trans g) w
 | rt d t=>exact fun v H' G' H2 g w=>c v H' G' H2 (f.trans g) w
 | bk ρ t=>exact fun σ' H' G' H2 g w=>c σ' H' G' H2 (f.trans g) w
 | ct ρ t=>exact fun σ' H' G' H2 g w=>c σ' H' G' H2 (f.trans g) w
theorem WR.no(w:WR K l o H0 G0 σ H G ρ):G l=none:=by
 cases h:G l with
 | none=>rfl
 | some u=>
   have:=w.sr.gr.n l w.g0 (by rw[h];exact fun z=>nomatch z)
   rw[w.h0]at this
   cases this
theorem WR.at(w:WR K l o H0 G0 σ H G ρ):H l=some o:=w.sr.gr.h _ _ w.h0
theorem WR.put(w:WR K l o H0 G0 σ H G ρ)(o':HO):WR K l o' (upd H0 l o') G0 σ (upd H l o') G ρ:=by
 have gl:=w.no
 have ne:∀{a:Addr},H0 a=none->a≠l:=fun h z=>by rw[z,w.h0]at h;cases h
 have s:=w.sr
 refine⟨⟨⟨fun b u e=>?_,s.gr.g,fun b u e=>?_,fun a h h'=>?_⟩,s.len,s.sh,fun i m e=>?_,s.ap,fun i t ks vs e=>?_,s.apd⟩,w.g0,Yo⟩
 ·by_cases z:b=l
  ·subst z;rw[Yo]at e ⊢;exact e
  ·rw[Yh z]at e ⊢;exact s.gr.h b u e
 ·rw[Yh (Yw e gl)];exact s.gr.s b u e
 ·have q:=s.gr.n a h h'
  rw[Yh (ne q)];exact q
 ·obtain⟨a,xs,q1,q2,q3,q4,q5⟩:=s.ow i m e
  exact⟨a,xs,q1,q2,by rw[Yh (ne q3)];exact q3,by rw[Yh (ne q3)];exact q4,q5⟩
 ·obtain⟨a,kxs,vxs,q1,q2,q3,q4,q5⟩:=s.od i t ks vs e
  exact⟨a,kxs,vxs,q1,q2,by rw[Yh (ne q3)];exact q3,q4.mono (Same.refl _) fun o z=>by rw[Yh (ne q3)];exact z,q5⟩
theorem Off.put(l:Addr)(H:Hp)(o:HO):Off l H (upd H l o):=fun _ h=>Yh h
end
def sOfW{τ:Type}(rep:τ->HO)(K:W.Frag)(l:Addr)(f:Ro->τ->Option (OutW τ)):TS:=fun F σ H=>∃ρ t out H0 G0 G,f ρ t=some out/\WR K l (rep t) H0 G0 σ H G ρ/\ContW rep K l H0 G0 F out
abbrev WS{τ:Type}(rep:τ->HO)(X:Cx)(l:Addr)(st:Stmt)(f:Ro->τ->Option (OutW τ)):Prop:=PS X st (sOfW rep X.K l f)
abbrev WB{τ:Type}(rep:τ->HO)(X:Cx)(l:Addr)(sts:List Stmt)(f:Ro->τ->Option (OutW τ)):Prop:=PSs X sts (sOfW rep X.K l f)
def Ycr{τ:Type}(f:Ro->Option Out):Ro->τ->Option (OutW τ):=fun ρ t=>(f ρ).map fun
 | .nx ρ'=>.nx ρ' t
 | .rt d=>.rt d t
 | .bk ρ'=>.bk ρ' t
 | .ct ρ'=>.ct ρ' t
def nilW{τ:Type}:Ro->τ->Option (OutW τ):=fun ρ t=>some (.nx ρ t)
def seqW{τ:Type}(f g:Ro->τ->Option (OutW τ)):Ro->τ->Option (OutW τ):=fun ρ t=>(f ρ t).bind fun
 | .nx ρ' t'=>g ρ' t'
 | o=>some o
def ifW{τ:Type}(c:Ro->τ->Option Bool)(f g:Ro->τ->Option (OutW τ)):Ro->τ->Option (OutW τ):=fun ρ t=>(c ρ t).bind fun k=>if k=true then f ρ t else g ρ t
def forW{τ:Type}(gt:D->Ro->Option Ro)(fb:Ro->τ->Option (OutW τ)):List D->Ro->τ->Option (OutW τ)
 | [],ρ,t=>some (.nx ρ t)
 | d::ds,ρ,t=>(gt d ρ).bind fun ρ1=>(fb ρ1 t).bind fun
   | .nx ρ2 t2=>forW gt fb ds ρ2 t2
   | .ct ρ2 t2=>forW gt fb ds ρ2 t2
   | .bk ρ2 t2=>some (.nx ρ2 t2)
   | .rt d t2=>some (.rt d t2)
def Ykw{τ:Type}(gl:Ro->Option (List D))(gt:D->Ro->Option Ro)(fb:Ro->τ->Option (OutW τ)):Ro->τ->Option (OutW τ):=fun ρ t=>(gl ρ).bind fun ds=>forW gt fb ds ρ t
section
variable {τ:Type} {rep:τ->HO} {X:Cx} {l:Addr} {st:Stmt} {sts:List Stmt} {fs gs:Ro->τ->Option (OutW τ)} {pos:Pos} {tg:Expr} {gl:Ro->Option (List D)}
theorem Ywf{f:Ro->Option Out}(h:MS X st f):WS rep X l st (Ycr f):=PS.imp h fun F σ H hx_=>by
 obtain⟨ρ,t,out,H0,G0,G,e,w,c⟩:=hx_
 obtain⟨o,h1,rfl⟩:=qb e
 refine⟨ρ,o,H0,G0,G,h1,w.sr,?_⟩
 cases o with
 | nx ρ'=>exact fun σ' H' G' s'=>c σ' H' G' H0 (fun _ _=>rfl) ⟨s',w.g0,w.h0⟩
 | rt d=>exact fun v H' G' g r=>c v H' G' H0 (fun _ _=>rfl) w.h0 g r
 | bk ρ'=>exact fun σ' H' G' s'=>c σ' H' G' H0 (fun _ _=>rfl) ⟨s',w.g0,w.h0⟩
 | ct ρ'=>exact fun σ' H' G' s'=>c σ' H' G' H0 (fun _ _=>rfl) ⟨s',w.g0,w.h0⟩
theorem Yza:WB rep X l [] (nilW (τ:=τ)):=PSs.imp Ylq fun F σ H hx_=>by
 obtain⟨ρ,t,out,H0,G0,G,e,w,c⟩:=hx_
 cases e
 exact c σ H G H0 (fun _ _=>rfl) w
theorem Yzb(h:WS rep X l st fs):WB rep X l [st] fs:=Yiq h
theorem Ywg(h1:WS rep X l st fs)(h2:WB rep X l sts gs):WB rep X l (st::sts) (seqW fs gs):=PSs.imp (Ycl h1 h2) fun F σ H hx_=>by
 obtain⟨ρ,t,out,H0,G0,G,e,w,c⟩:=hx_
 unfold seqW at e
 obtain⟨o,h3,e⟩:=qa e
 cases o with
 | nx ρ' t'=>exact⟨ρ,t,.nx ρ' t',H0,G0,G,h3,w,fun σ' H' G' H1 f w'=>⟨ρ',t',out,H1,G0,G',e,w',c.off f⟩⟩
 | rt d t'=>cases e;exact⟨ρ,t,.rt d t',H0,G0,G,h3,w,c⟩
 | bk ρ' t'=>cases e;exact⟨ρ,t,.bk ρ' t',H0,G0,G,h3,w,c⟩
 | ct ρ' t'=>cases e;exact⟨ρ,t,.ct ρ' t',H0,G0,G,h3,w,c⟩
def WT(rep:τ->HO)(X:Cx)(l:Addr)(c:Expr)(f:Ro->τ->Option Bool):Prop:=PT X c fun σ H Q=>∃ρ t k H0 G0 G,f ρ t=some k/\WR X.K l (rep t) H0 G0 σ H G ρ/\∀H' G',Gr H G H' G'->Q k H'
theorem y0y{c:Expr}{a b:List Stmt}{fc:Ro->τ->Option Bool}(hc:WT rep X l c fc)(ha:WB rep X l a fs)(hb:WB rep X l b gs):WS rep X l (.If c a b pos) (ifW fc fs gs):=PS.imp (Yul hc ha hb) fun F σ H hx_=>by
 obtain⟨ρ,t,out,H0,G0,G,e,w,c⟩:=hx_
 unfold ifW at e
 obtain⟨k,h1,e⟩:=qa e
 refine⟨ρ,t,k,H0,G0,G,h1,w,fun H1 G1 g1=>?_⟩
 have w1:WR X.K l (rep t) H0 G0 σ H1 G1 ρ:=⟨w.sr.grow g1,w.g0,w.h0⟩
 cases k with
 | true=>
   rw[if_pos rfl]at e
   exact iteT ⟨ρ,t,out,H0,G0,G1,e,w1,c⟩
 | false=>
   rw[if_neg qh]at e
   exact iteF ⟨ρ,t,out,H0,G0,G1,e,w1,c⟩
theorem Yex{gt:D->Ro->Option Ro}{fb:Ro->τ->Option (OutW τ)}:∀(ds:List D) (ρ:Ro) (t:τ) (out:OutW τ),forW gt fb ds ρ t=some out->(∃ρ' t',out=.nx ρ' t')\/∃d t',out=.rt d t'
 | [],ρ,t,out,h=>by cases h;exact .inl ⟨_,_,rfl⟩
 | d::ds,ρ,t,out,h=>by
   rw[forW]at h
   obtain⟨ρ1,h1,h⟩:=qa h
   obtain⟨o,h2,h⟩:=qa h
   cases o with
   | nx ρ2 t2=>exact Yex ds ρ2 t2 out h
   | ct ρ2 t2=>exact Yex ds ρ2 t2 out h
   | bk ρ2 t2=>cases h;exact .inl ⟨_,_,rfl⟩
   | rt d t2=>cases h;exact .inr ⟨_,_,rfl⟩
end
end
section
variable {K:W.Frag}
abbrev wl(t:List Bool):HO:=.lst (t.map V.bl)
abbrev wks:List Str:=["book","hands","truths"]
abbrev watD(b h x:D):D:=.obj "Watch" wks [b,h,x]
def thw(l i:Nat)(ρ:Ro)(t:List Bool):Option Ro:=match ρ[i]? with
 | some (some (.sh (.obj c ks [b,h,.adr l'])))=>if l'=l then some (ρ.set i (some (.sh (.obj c ks [b,h,.lst (t.map D.bl)]))))else none
 | _=>none
theorem Yl9{G:Hp}:∀t:List Bool,RpL K G (t.map D.bl) (t.map V.bl)
 | []=>.nil
 | b::t=>.cons (by rw[Rp]) (Yl9 t)
theorem RpL.three{G:Hp}{a b c:D}{xs:List V}(r:RpL K G [a,b,c] xs):∃x y z,xs=[x,y,z]/\Rp K G a x/\Rp K G b y/\Rp K G c z:=by
 rw[RpL]at r
 obtain⟨x,r1,rfl,h1,r⟩:=r
 rw[RpL]at r
 obtain⟨y,r2,rfl,h2,r⟩:=r
 rw[RpL]at r
 obtain⟨z,r3,rfl,h3,r⟩:=r
 rw[RpL]at r
 subst r
 exact⟨x,y,z,rfl,h1,h2,h3⟩
section
variable {l:Addr} {H0 G0 H G:Hp} {σ:L2.St} {ρ ρ1:Ro} {t:List Bool} {X:Cx} {e:Expr} {f:Ro->Option D} {pos:Pos}
theorem WR.thaw{i:Nat}(w:WR K l (wl t) H0 G0 σ H G ρ)(e:thw l i ρ t=some ρ1):∃H2 G1,SR K H2 G0 σ H G1 ρ1/\∀H' G',Gr H G1 H' G'->Gr H G H' G:=by
 unfold thw at e
 split at e
 ·rename_i c ks b h l' hi
  by_cases hl:l'=l
  ·rw[if_pos hl]at e
   cases e
   subst hl
   have s:=w.sr
   have gl:=w.no
   have ne:∀{a:Addr},H0 a=none->a≠l':=fun h z=>by rw[z,w.h0]at h;cases h
   have sm:Same G (upd G l' (wl t)):=fun b o e=>by rw[Yh (Yw e gl)];exact e
   refine⟨fun a=>if a=l' then none else H0 a,upd G l' (wl t),⟨⟨fun b o e=>?_,s.gr.g.trans sm,fun b o e=>?_,fun b h h'=>?_⟩,by simp[s.len],fun j d e=>?_,fun j m e=>?_,fun j k m m' a b' h1 h2 h3 h4 h5=>?_,fun j t1 ks vs e=>?_,fun j k ta ka va tb kb vb a b' h1 h2 h3 h4 h5=>?_⟩,fun H' G' g=>.back s.seen g⟩
   ·by_cases z:b=l'
    ·simp only[if_pos z]at e;cases e
    ·simp only[if_neg z]at e;exact s.gr.h b o e
   ·by_cases z:b=l'
    ·subst z;rw[Yo]at e;rw[<-e];exact w.at
    ·rw[Yh z]at e;exact s.gr.s b o e
   ·by_cases z:b=l'
    ·exact if_pos z
    ·rw[Yh z]at h'
     show(if b=l' then none else H0 b)=none
     rw[if_neg z];exact s.gr.n b h h'
   ·rcases Yj e with⟨rfl,e1,hlt⟩ | ⟨hj,e⟩
    ·cases e1
     obtain⟨v,q1,q2⟩:=s.sh j _ hi
     refine⟨v,q1,?_⟩
     rw[Rp]at q2 ⊢
     obtain⟨a,C,dx,xs,e1,n,g,lx,q⟩:=q2
     obtain⟨x,y,z,rfl,h1,h2,h3⟩:=q.three
     refine⟨a,C,dx,[x,y,z],e1,n,sm _ _ g,lx,.cons (h1.mono sm) (.cons (h2.mono sm) (.one ?_))⟩
     rw[Rp]at h3
     rw[Rp]
     exact⟨l',t.map V.bl,h3,.inl Yo,Yl9 t⟩
    ·obtain⟨v,q1,q2⟩:=s.sh j d e
     exact⟨v,q1,q2.mono sm⟩
   ·rcases Yj e with⟨rfl,e1,_⟩ | ⟨hj,e⟩
    ·cases e1
    ·obtain⟨a,xs,q1,q2,q3,q4,q5⟩:=s.ow j m e
     exact⟨a,xs,q1,by rw[Yh (ne q3)];exact q2,by show(if a=l' then none else H0 a)=none;rw[if_neg (ne q3)];exact q3,q4,q5.mono sm⟩
   ·rcases Yj h1 with⟨rfl,e1,_⟩ | ⟨hj,h1⟩
    ·cases e1
    ·rcases Yj h2 with⟨rfl,e1,_⟩ | ⟨hk,h2⟩
     ·cases e1
     ·exact s.ap j k m m' a b' h1 h2 h3 h4 h5
   ·rcases Yj e with⟨rfl,e1,_⟩ | ⟨hj,e⟩
    ·cases e1
    ·obtain⟨a,kxs,vxs,q1,q2,q3,q4,q5,q6⟩:=s.od j t1 ks vs e
     exact⟨a,kxs,vxs,q1,by rw[Yh (ne q3)];exact q2,by show(if a=l' then none else H0 a)=none;rw[if_neg (ne q3)];exact q3,q4.mono sm fun _ z=>z,q5.mono sm,q6.mono sm⟩
   ·rcases Yj h1 with⟨rfl,e1,_⟩ | ⟨hj,h1⟩
    ·cases e1
    ·rcases Yj h2 with⟨rfl,e1,_⟩ | ⟨hk,h2⟩
     ·cases e1
     ·exact s.apd j k ta ka va tb kb vb a b' h1 h2 h3 h4 h5
  ·rw[if_neg hl]at e
   cases e
 ·cases e
theorem Ywh(i:Nat){c:Expr}{fc:Ro->Option Bool}(h:MT X c fc):WT wl X l c fun ρ t=>(thw l i ρ t).bind fc:=PT.imp h fun σ H Q hx_=>by
 obtain⟨ρ,t,k,H0,G0,G,e,w,c⟩:=hx_
 obtain⟨ρ1,h1,h2⟩:=qa e
 obtain⟨H2,G1,s1,bk⟩:=w.thaw h1
 exact⟨ρ1,k,H2,G0,G1,h2,s1,fun H' G' g=>c H' G (bk H' G' g)⟩
def retL(l i:Nat)(f:Ro->Option D):Ro->List Bool->Option (OutW (List Bool)):=fun ρ t=>(thw l i ρ t).bind fun ρ1=>(f ρ1).bind fun d=>if Yqj d=true then some (.rt d t)else none
theorem Ywi(i:Nat)(h:ME X e f):WS wl X l (.Return (some e) pos) (retL l i f):=PS.imp (Yo6 h) fun F σ H hx_=>by
 obtain⟨ρ,t,out,H0,G0,G,e,w,c⟩:=hx_
 unfold retL at e
 obtain⟨ρ1,h1,e⟩:=qa e
 obtain⟨d,h2,e⟩:=qa e
 split at e
 ·rename_i hs
  cases e
  obtain⟨H2,G1,s1,bk⟩:=w.thaw h1
  exact⟨ρ1,d,H2,G0,G1,h2,s1,fun v H' G' g r=>c v H' G H0 (fun _ _=>rfl) w.h0 (w.sr.gr.trans (bk H' G' g)) (r.scal hs)⟩
 ·cases e
def appW(l i:Nat)(f:Ro->Option D):Ro->List Bool->Option (OutW (List Bool)):=fun ρ t=>match ρ[i]? with
 | some (some (.sh (.obj c ks [_,_,.adr l'])))=>if l'=l/\c="Watch"/\ks=wks/\t.length < 1000000 then (f ρ).bind fun
  | .bl k=>some (.nx ρ (t++[k]))
  | _=>none
  else none
 | _=>none
theorem Yzc(i:Nat){x:Str}{p1 p2 apos cpos:Pos}(k:CF X.K "Watch" "truths")(he:ME X e f)(hN:X.N[i]?=some x:=by rfl)(hv:Vis X.env.scope x:=by first | exact Or.inl rfl | exact Or.inr (Or.inl rfl) | exact Or.inr (Or.inr rfl))
 (hd:(x==("__debug__":Str))=false:=by decide) (hcd:(x==("__classdict__":Str))=false:=by decide) (hse:swapsWith (.Call (.Attribute (.Attribute (.Name x p1) "truths" p2) "append" apos) [e] [] cpos) none pos.line X.env=pure false:=by rfl)
 (hs:starEach [e] X.env=[(false,eval e X.env)]:=by rfl)
 (hfew:((backTo cpos (starEach [e] X.env)).all (fun x=>!x.1)&&(backToKw cpos (keywordEach [] X.env)).all (fun x=>x.1.isSome)&&decide ([e].length+([]:List Keyword).length+(if ([]:List Keyword).isEmpty then 0 else 1) < 30))=true:=by rfl)
 (hline:(apos.endLine==cpos.line)=true:=by rfl) (hbase:attributeBase (.Attribute (.Name x p1) "truths" p2) "append" X.env (eval (.Attribute (.Name x p1) "truths" p2) X.env)=eval (.Attribute (.Name x p1) "truths" p2) X.env:=by rfl)
 (hb1:attributeBase (.Name x p1) "truths" X.env (eval (.Name x p1) X.env)=eval (.Name x p1) X.env:=by rfl) :
 WS wl X l (.Expr (.Call (.Attribute (.Attribute (.Name x p1) "truths" p2) "append" apos) [e] [] cpos) pos) (appW l i f):=
 PS.imp (Yeq (Ypk PySem.F.plainAttrs_list PySem.F.slot_list_append PySem.F.type_list_append Ydn (Ype (Ye2 hN hv hd hcd) hb1) (Yas he Ybz hs) hbase hfew hline hs rfl) hse) fun F σ H hx_=>by
  obtain⟨ρ,t,out,H0,G0,G,e,w,c⟩:=hx_
  unfold appW at e
  split at e
  ·rename_i c' ks b h l' hi
   split at e
   ·rename_i hc
    obtain⟨rfl,rfl,rfl,ht⟩:=hc
    obtain⟨d,h2,e⟩:=qa e
    cases d with
    | bl kk=>
      cases e
      obtain⟨v,q1,q2⟩:=w.sr.sh i _ hi
      rw[Rp]at q2
      obtain⟨a,C,dx,xs,rfl,n,g,lx,q⟩:=q2
      obtain⟨y1,y2,y3,rfl,r1,r2,r3⟩:=q.three
      rw[Rp]at r3
      subst r3
      refine⟨_,q1,a,C,dx,_,.ref l',rfl,w.sr.seen _ _ g,(k C n).1,(k C n).2,rfl,.inl ⟨rfl,_,SqL.of w.at⟩,tOf.at h2 w.sr fun v H1 G1 g1 r1 s1=>?_⟩
      rw[Rp]at r1
      subst r1
      have w1:WR X.K l' (wl t) H0 G0 σ H1 G1 ρ:=⟨s1,w.g0,w.h0⟩
      refine⟨l',t.map V.bl,_,rfl,rfl,w1.at,?_,?_⟩
      ·rw[qe]
       exact Qc ht (Yc5 (qs _))
      ·have w2:=w1.put (wl (t++[kk]))
       have e2:wl (t++[kk])=HO.lst (t.map V.bl++[V.bl kk]):=by
        show HO.lst ((t++[kk]).map V.bl)=_
        rw[List.map_append]
        rfl
       have:=c σ _ G1 _ (Off.put l' H0 _) w2
       rw[e2]at this
       exact this
    | _=>cases e
   ·cases e
  ·cases e
end
end
section
variable {K:W.Frag}
def spS(K:W.Frag)(g:Addr->Ro->List Bool->Option (OutW (List Bool))):Sp:=fun vs H Q _=>vs.length=2/\∃a l vb vh k b h t d C dx G,vs=[.ref a,.bl k]/\W.nsIn K mainGlobals "Watch"=some (some (.ref C))/\Same G H/\G a=some (.ins C dx (wks.zip [vb,vh,.ref l]))/\G l=none/\H l=some (wl t)/\Rp K G b vb/\Rp K G h vh/\
 g l [some (.sh (watD b h (.adr l))),some (.sh (.bl k))] t=some (.rt d (t++[k]))/\∀v H' G',(∀x o,x≠l->H x=some o->H' x=some o)->H' l=some (wl (t++[k]))->Rp K G' d v->Q v H'
section
variable {P:Program} {w:World} {mg:Str->Option Value} {base:Heap}
theorem Yq3{st:Stmt}{f:Addr}{fd:FuncData}{N:List Str}{k:Nat}{x q:Str}{ps:List Str}{g:Addr->Ro->List Bool->Option (OutW (List Bool))}(F:Fun K x q st f fd)(S:FnScope N ps (defScope st))(hn:N.length=2)(hp:ps.length=2)
 (hb:∀(l:Addr) (cdv:Value) (A:Around) (outer:List Env) (s:Shared) (H:Hp) (E:XK),Room k (A.deeper (envOfC q (defScope st) s.heap.objs.size f cdv))->WB wl (cxOf CX0 P w K mg base N q (defScope st) f cdv A outer s H E).nox l (defBody st) (g l)) :
 FnOk P w K mg base CX0 (k+1) f fd ps (spS K g):=by
 refine F.ok S (fun vs H Q E h=>by rw[h.1,hp]) fun cdv A outer s H vs Q E hr h=>?_
 obtain⟨hl,a,l,vb,vh,kk,b,h,t,d,C,dx,G,rfl,n,sm,ga,gl,hll,rb,rh,e,q⟩:=h
 refine⟨_,hb l cdv A outer s H E hr,?_⟩
 have r:RpL K G [watD b h (.adr l),.bl kk] [V.ref a,V.bl kk]:=.cons (by rw[Rp];exact⟨a,C,dx,[vb,vh,.ref l],rfl,n,ga,rfl,.cons rb (.cons rh (.one (by rw[Rp])))⟩) (.one (by rw[Rp]))
 have s0:SR K H G (start N [V.ref a,V.bl kk]) H G [some (.sh (watD b h (.adr l))),some (.sh (.bl kk))]:=by
  have:=SR.start (N:=N) sm r
  rw[hn]at this
  exact this
 exact⟨_,t,.rt d (t++[kk]),H,G,G,e,⟨s0,gl,hll⟩,fun v H' G' H1 f1 h1 g1 r1=>q v H' G' (fun x o hx ho=>g1.h _ _ (by rw[f1 x hx];exact ho)) (g1.h _ _ h1) r1⟩
end
end
section
variable {K:W.Frag}
def spI(K:W.Frag)(f1:Ro->Option Out)(f2 f3:Ro->Option D):Sp:=fun vs H Q _=>vs.length=3/\∃x C dx vb vh b h d2 d3 G,vs=[.ref x,vb,vh]/\W.nsIn K mainGlobals "Watch"=some (some (.ref C))/\H x=some (.ins C dx [])/\G x=none/\Same G H/\Rp K G b vb/\Rp K G h vh/\
 f1 [some (.sh (.adr x)),some (.sh b),some (.sh h)]=some (.nx [some (.sh (.adr x)),some (.sh b),some (.sh h)])/\f2 [some (.sh (.adr x)),some (.sh b),some (.sh h)]=some d2/\f3 [some (.sh (.adr x)),some (.sh b),some (.sh h)]=some d3/\
 ∀l y1 y2 H' G',(∀y o,y≠x->H y=some o->H' y=some o)->H' x=some (.ins C dx (wks.zip [y1,y2,.ref l]))->H l=none->l≠x->H' l=some (wl [])->G' l=none->G' x=none->Same G G'->Same G' H'->(∀y,G y=none->G' y≠none->H y=none)->Rp K G' d2 y1->Rp K G' d3 y2->Q .non H'
section
variable {P:Program} {w:World} {mg:Str->Option Value} {base:Heap}
theorem Ywj{st:Stmt}{f:Addr}{fd:FuncData}{N:List Str}{k:Nat}{x q:Str}{ps:List Str}{f1:Ro->Option Out}{f2 f3:Ro->Option D}(F:Fun K x q st f fd)(S:FnScope N ps (defScope st))(hn:N.length=3)(hp:ps.length=3)
 (k1:CF K "Watch" "book") (k2:CF K "Watch" "hands") (k3:CF K "Watch" "truths")
 (hb:∀(cdv:Value) (A:Around) (outer:List Env) (s:Shared) (H:Hp) (E:XK),Room k (A.deeper (envOfC q (defScope st) s.heap.objs.size f cdv))->PSs (cxOf CX0 P w K mg base N q (defScope st) f cdv A outer s H E).nox (defBody st) (tSeq (sOf K f1) (tSeq (sFld K (tVar 0) (tOf K f2) "book") (tSeq (sFld K (tVar 0) (tOf K f3) "hands") (sFld K (tVar 0) (tLst tNil) "truths"))))) :
 FnOk P w K mg base CX0 (k+1) f fd ps (spI K f1 f2 f3):=by
 refine F.ok S (fun vs H Q E h=>by rw[h.1,hp]) fun cdv A outer s H vs Q E hr h=>?_
 obtain⟨hl,x,C,dx,vb,vh,b,h,d2,d3,G,rfl,n,hx,gx,sm,rb,rh,e1,e2,e3,q⟩:=h
 refine⟨_,hb cdv A outer s H E hr,?_⟩
 have r:RpL K G [.adr x,b,h] [V.ref x,vb,vh]:=.cons (by rw[Rp]) (.cons rb (.one rh))
 have s0:SR K H G (start N [V.ref x,vb,vh]) H G [some (.sh (.adr x)),some (.sh b),some (.sh h)]:=by
  have:=SR.start (N:=N) sm r
  rw[hn]at this
  exact this
 refine⟨_,_,H,G,G,e1,s0,fun σ H1 G1 s1=>?_⟩
 have w1:WR K x (.ins C dx []) H G σ H1 G1 [some (.sh (.adr x)),some (.sh b),some (.sh h)]:=⟨s1,gx,hx⟩
 have self:∀{Ha Ga Hb Gb:Hp},SR K Ha Ga σ Hb Gb [some (.sh (.adr x)),some (.sh b),some (.sh h)]->σ[0]?=some (some (V.ref x)):=fun s=>by
  obtain⟨v,q1,q2⟩:=s.sh 0 _ rfl
  rw[Rp]at q2
  rw[q1,q2]
 refine tOf.at e2 s1 fun y1 H2 G2 g2 r2 s2=>?_
 have w2:WR K x (.ins C dx []) H G σ H2 G2 _:=⟨s2,gx,hx⟩
 refine⟨_,self s2,x,C,dx,[],rfl,w2.at,(k1 C n).1,(k1 C n).2,by decide,?_⟩
 have w3:=w2.put (.ins C dx (putF "book" y1 []))
 refine tOf.at e3 w3.sr fun y2 H4 G4 g4 r4 s4=>?_
 have w4:WR K x (.ins C dx (putF "book" y1 [])) _ G σ H4 G4 _:=⟨s4,gx,Yo⟩
 refine⟨_,self s4,x,C,dx,_,rfl,w4.at,(k2 C n).1,(k2 C n).2,by show 1 < 1000;decide,?_⟩
 have w5:=w4.put (.ins C dx (putF "hands" y2 (putF "book" y1 [])))
 refine⟨Qb _,fun l hl5=>?_⟩
 have hlx:l≠x:=fun z=>by rw[z,Yo]at hl5;cases hl5
 have e6:(upd (upd H4 x (.ins C dx (putF "hands" y2 (putF "book" y1 [])))) l (.lst [])) x=some (.ins C dx (putF "hands" y2 (putF "book" y1 []))):=by
  rw[Yh (Ne.symm hlx),Yo]
 refine⟨_,self w5.sr,x,C,dx,_,rfl,e6,(k3 C n).1,(k3 C n).2,by show 2 < 1000;decide,?_⟩
 have g4l:G4 l=none:=w5.sr.seen.free hl5
 have keep:∀y o,y≠x->H y=some o->H4 y=some o:=fun y o hy ho=>by
  have:=w5.sr.gr.h y o (by rw[Yh hy,Yh hy];exact ho)
  rw[Yh hy]at this
  exact this
 have hlH:H l=none:=by
  cases z:H l with
  | none=>rfl
  | some o=>
    have:=keep l o hlx z
    rw[Yh hlx]at hl5
    rw[this]at hl5
    cases hl5
 refine q l y1 y2 _ G4 (fun y o hy ho=>?_) ?_ hlH hlx ?_ g4l w5.no (s1.gr.g.trans (g2.g.trans g4.g)) (fun y o ho=>?_) (fun y hy hy'=>?_) (r2.mono g4.g) r4
 ·have h1:=keep y o hy ho
  have hyl:y≠l:=fun z=>by rw[z,hlH]at ho;cases ho
  rw[Yh hy,Yh hyl,Yh hy]
  exact h1
 ·rw[Yo]
  rfl
 ·rw[Yh hlx,Yo]
  rfl
 ·have hyx:y≠x:=fun z=>by rw[z,w5.no]at ho;cases ho
  have hyl:y≠l:=fun z=>by rw[z,g4l]at ho;cases ho
  rw[Yh hyx,Yh hyl]
  exact w5.sr.seen y o ho
 ·have hyx:y≠x:=fun z=>hy' (by rw[z];exact w5.no)
  have:=w5.sr.gr.n y hy hy'
  rw[Yh hyx,Yh hyx]at this
  exact this
end
def ifP(p:Prop)(a:Option Out):Option Out:=@ite _ p (Classical.propDecidable p) a none
theorem Yq4{p:Prop}{a:Option Out}(h:p):ifP p a=a:=@if_pos p (Classical.propDecidable p) h _ _ _
theorem Ysz{p:Prop}{a:Option Out}{o:Out}(e:ifP p a=some o):p/\a=some o:=by
 by_cases h:p
 ·rw[Yq4 h]at e
  exact⟨h,e⟩
 ·have:ifP p a=none:=@if_neg p (Classical.propDecidable p) h _ _ _
  rw[this]at e
  cases e
end
section
abbrev Wm:=Ro->List Bool->Option (OutW (List Bool))
structure ZWS(X:Cx)(l:Addr)(st:Stmt)(f:Wm):Prop where
 un:WS wl X l st f
structure ZWB(X:Cx)(l:Addr)(sts:List Stmt)(f:Wm):Prop where
 un:WB wl X l sts f
structure ZWT(X:Cx)(l:Addr)(c:Expr)(f:Ro->List Bool->Option Bool):Prop where
 un:WT wl X l c f
def Yq5(l i:Nat)(f:Ro->Option Bool):Ro->List Bool->Option Bool:=fun ρ t=>(thw l i ρ t).bind f
section
variable {X:Cx} {l:Addr} {st:Stmt} {sts:List Stmt} {fs gs:Wm} {pos apos:Pos} {tg e o:Expr} {gl:Ro->Option (List D)} {f fa fo:Ro->Option D} {c m:Str}
theorem zuS{f:Ro->Option Out}(h:ZS X st f):PS X st (sOf X.K f):=h.un
theorem zuE(h:ZE X e f):PE X e (tOf X.K f):=h.un
theorem Yje{f:Ro->Option Out}(h:ZS X st f):ZWS X l st (Ycr f):=⟨Ywf h.un⟩
theorem Yq6:ZWB X l [] nilW:=⟨Yza⟩
theorem Yjf(h:ZWS X l st fs):ZWB X l [st] fs:=⟨Yzb h.un⟩
theorem Ygi(h1:ZWS X l st fs)(h2:ZWB X l sts gs):ZWB X l (st::sts) (seqW fs gs):=⟨Ywg h1.un h2.un⟩
theorem Yns(i:Nat){c:Expr}{f:Ro->Option Bool}(h:ZT X c f):ZWT X l c (Yq5 l i f):=⟨Ywh i h.un⟩
theorem Yt1{c:Expr}{a b:List Stmt}{fc:Ro->List Bool->Option Bool}(hc:ZWT X l c fc)(ha:ZWB X l a fs)(hb:ZWB X l b gs):ZWS X l (.If c a b pos) (ifW fc fs gs):=⟨y0y hc.un ha.un hb.un⟩
theorem Ys0(i:Nat)(h:ZE X e f):ZWS X l (.Return (some e) pos) (retL l i f):=⟨Ywi i h.un⟩
theorem Ywk(i:Nat){x:Str}{p1 p2 apos cpos:Pos}(k:CF X.K "Watch" "truths")(he:ZE X e f)(hN:X.N[i]?=some x:=by rfl)(hv:Vis X.env.scope x:=by first | exact Or.inl rfl | exact Or.inr (Or.inl rfl) | exact Or.inr (Or.inr rfl))
 (hd:(x==("__debug__":Str))=false:=by decide) (hcd:(x==("__classdict__":Str))=false:=by decide) (hse:swapsWith (.Call (.Attribute (.Attribute (.Name x p1) "truths" p2) "append" apos) [e] [] cpos) none pos.line X.env=pure false:=by rfl)
 (hs:starEach [e] X.env=[(false,eval e X.env)]:=by rfl)
 (hfew:((backTo cpos (starEach [e] X.env)).all (fun x=>!x.1)&&(backToKw cpos (keywordEach [] X.env)).all (fun x=>x.1.isSome)&&decide ([e].length+([]:List Keyword).length+(if ([]:List Keyword).isEmpty then 0 else 1) < 30))=true:=by rfl)
 (hline:(apos.endLine==cpos.line)=true:=by rfl) (hbase:attributeBase (.Attribute (.Name x p1) "truths" p2) "append" X.env (eval (.Attribute (.Name x p1) "truths" p2) X.env)=eval (.Attribute (.Name x p1) "truths" p2) X.env:=by rfl)
 (hb1:attributeBase (.Name x p1) "truths" X.env (eval (.Name x p1) X.env)=eval (.Name x p1) X.env:=by rfl) :
 ZWS X l (.Expr (.Call (.Attribute (.Attribute (.Name x p1) "truths" p2) "append" apos) [e] [] cpos) pos) (appW l i f):=⟨Yzc i k he.un hN hv hd hcd hse hs hfew hline hbase hb1⟩
theorem Ycs{f:Str}(k:CF X.K c f)(he:ZE X e fa)(hb:attributeBase e f X.env (eval e X.env)=eval e X.env:=by rfl):ZE X (.Attribute e f pos) (b1 fa (fldD c f)):=⟨Yy9 k he.un hb⟩
theorem Ybn{j k:Nat}{ps:List Str}{fn:List D->Option D}{pl:Sem Bool}(O:Okm X.prog X.w X.K X.mg X.base j c m ps (spOf X.K 1 fn))(hr:Room k X.A)(ho:ZE X o fo)(hj:j<=k:=by first | exact qs _ | omega)
 (ht:eval (.Call (.Attribute o m apos) [] [] pos) X.env=(do
  let ov <-eval o X.env
  standAt apos.atName
  let (f,first) <-holding [ov] (getMethod ov m pl)
  callWith pos f first (backTo pos (starEach [] X.env)) (backToKw pos (keywordEach [] X.env))):=by rfl):ZE X (.Call (.Attribute o m apos) [] [] pos) (b1 fo (mthD c m fn)):=⟨Ysy O hr ho.un hj ht⟩
def OkI(P:Program)(w:World)(K:W.Frag)(mg:Str->Option Value)(base:Heap)(k:Nat)(ps:List Str)(f1:Ro->Option Out)(f2 f3:Ro->Option D):Prop:=
 ∃C f fd,W.nsIn K mainGlobals "Watch"=some (some (.ref C))/\mg "Watch"=some (.ref C)/\Mk K C f/\FnOk P w K mg base CX0 k f fd ps (spI K f1 f2 f3)/\Binds K fd ps []
end
def Mq(K:W.Frag)(c m q:Str)(st:Stmt):Prop:=∃C f fd,W.nsIn K mainGlobals c=some (some (.ref C))/\Cls K C/\Meth K C m f/\Fun K m q st f fd
theorem mq_mk{K:W.Frag}{c m q:Str}{st:Stmt}{C f:Addr}{oc:Value}{od an:Option Addr}{osl:Array (Option Value)}{kV doc pm cdv ct:Value}(a:W.nsIn K mainGlobals c=some (some (.ref C)))(pg:W.plainGet K C Str.empty=true)(hd:W.hasDictIn K C=true)(po:W.plainOver K C=true)(sa:W.findIn K (.ref C) "__setattr__"=some (some (.builtin "object.__setattr__")))
 (i:W.findIn K (.ref C) m=some (some (.ref f))) (n:W.isFn K (.ref f)=true) (l:K.lookup f=some ⟨oc,od,.func (W.fnOf m q (defArgs st) (defBody st) (defScope st) .none kV doc pm an cdv ct),osl⟩) (cd:W.codeIn K cdv q=true) (k:W.keepIn K (.ref f)=true):Mq K c m q st:=
 ⟨C,f,_,a,⟨pg,hd,po,sa⟩,⟨i,n,k⟩,Ym2 l cd k⟩
def Nq(K:W.Frag)(c f:Str):Prop:=∃C,W.nsIn K mainGlobals c=some (some (.ref C))/\Cls K C/\NoAttr K C f
theorem nq_mk{K:W.Frag}{c f:Str}{C:Addr}(a:W.nsIn K mainGlobals c=some (some (.ref C)))(pg:W.plainGet K C Str.empty=true)(hd:W.hasDictIn K C=true)(po:W.plainOver K C=true)(sa:W.findIn K (.ref C) "__setattr__"=some (some (.builtin "object.__setattr__")))(n:W.findIn K (.ref C) f=some none):Nq K c f:=
 ⟨C,a,⟨pg,hd,po,sa⟩,n⟩
theorem Nq.cf{K:W.Frag}{c f:Str}(h:Nq K c f):CF K c f:=fun C e=>by
 obtain⟨C',a,cl,n⟩:=h
 rw[a]at e
 cases e
 exact⟨cl,n⟩
def Iq(K:W.Frag)(st:Stmt):Prop:=∃C f fd,W.nsIn K mainGlobals "Watch"=some (some (.ref C))/\Mk K C f/\Fun K "__init__" "Watch.__init__" st f fd
theorem iq_mk{K:W.Frag}{st:Stmt}{C f:Addr}{oc:Value}{od an:Option Addr}{osl:Array (Option Value)}{kV doc pm cdv ct:Value}(a:W.nsIn K mainGlobals "Watch"=some (some (.ref C)))(mk:W.makesIn K C=true)(kc:W.keepIn K (.ref C)=true)
 (i:W.findIn K (.ref C) "__init__"=some (some (.ref f))) (n:W.isFn K (.ref f)=true) (l:K.lookup f=some ⟨oc,od,.func (W.fnOf "__init__" "Watch.__init__" (defArgs st) (defBody st) (defScope st) .none kV doc pm an cdv ct),osl⟩) (cd:W.codeIn K cdv "Watch.__init__"=true) (k:W.keepIn K (.ref f)=true):Iq K st:=
 ⟨C,f,_,a,⟨mk,i,n,kc⟩,Ym2 l cd k⟩
def Bnm(x q:Str)(st:Stmt)(ps:List Str):Prop:=∀(kV doc pm:Value) (an:Option Addr) (cdv ct:Value) (us:List Value),us.length=ps.length->bindArgs (W.fnOf x q (defArgs st) (defBody st) (defScope st) .none kV doc pm an cdv ct) ⟨us,[]⟩=pure (ps.zip us)
section
variable {P:Program} {w:World} {K:W.Frag} {mg:Str->Option Value} {base:Heap}
theorem okmn{c x q:Str}{st:Stmt}{k n m:Nat}{N ps:List Str}{fb:Ro->Option Out}(F:Mq K c x q st)(S:FnScope N ps (defScope st))(hb:∀{f:Addr} {cdv:Value} {A:Around} {outer:List Env} {s:Shared} {H:Hp} {E:XK},Room k (A.deeper (envOfC q (defScope st) s.heap.objs.size f cdv))->ZB (cxOf CX0 P w K mg base N q (defScope st) f cdv A outer s H E).nox (defBody st) fb)(hn:N.length=n:=by rfl)(hm:ps.length=m:=by rfl)
 (B:Bnm x q st ps:=by(intro _ _ _ _ _ _ us hl;first | (obtain⟨_,rfl⟩:=len1 hl;rfl) | (obtain⟨_,_,rfl⟩:=len2 hl;rfl) | (obtain⟨_,_,_,rfl⟩:=len3 hl;rfl))):Okm P w K mg base (k+1) c x ps (spOf K m (runB m n fb)):=by
 obtain⟨C,f,fd,a,cl,me,fu⟩:=F
 exact⟨C,f,fd,Yfz (k:=k) fu S hn hm fun _ _ _ _ _ _ hr=>hb hr,fu.binds B,a,cl,me⟩
theorem okms{c x q:Str}{st:Stmt}{k:Nat}{N ps:List Str}{g:Addr->Wm}(F:Mq K c x q st)(S:FnScope N ps (defScope st))(hb:∀{l:Addr} {f:Addr} {cdv:Value} {A:Around} {outer:List Env} {s:Shared} {H:Hp} {E:XK},Room k (A.deeper (envOfC q (defScope st) s.heap.objs.size f cdv))->ZWB (cxOf CX0 P w K mg base N q (defScope st) f cdv A outer s H E).nox l (defBody st) (g l))(hn:N.length=2:=by rfl)(hm:ps.length=2:=by rfl)
 (B:Bnm x q st ps:=by(intro _ _ _ _ _ _ us hl;obtain⟨_,_,rfl⟩:=len2 hl;rfl)):Okm P w K mg base (k+1) c x ps (spS K g):=by
 obtain⟨C,f,fd,a,cl,me,fu⟩:=F
 exact⟨C,f,fd,Yq3 fu S hn hm fun _ _ _ _ _ _ _ hr=>(hb hr).un,fu.binds B,a,cl,me⟩
theorem okin{st:Stmt}{k:Nat}{N ps:List Str}{f1:Ro->Option Out}{f2 f3:Ro->Option D}(F:Iq K st)(hW:∀C,W.nsIn K mainGlobals "Watch"=some (some (.ref C))->mg "Watch"=some (.ref C))(S:FnScope N ps (defScope st))(k1:CF K "Watch" "book")(k2:CF K "Watch" "hands")(k3:CF K "Watch" "truths")
 (hb:∀{f:Addr} {cdv:Value} {A:Around} {outer:List Env} {s:Shared} {H:Hp} {E:XK},Room k (A.deeper (envOfC "Watch.__init__" (defScope st) s.heap.objs.size f cdv))->PSs (cxOf CX0 P w K mg base N "Watch.__init__" (defScope st) f cdv A outer s H E).nox (defBody st) (tSeq (sOf K f1) (tSeq (sFld K (tVar 0) (tOf K f2) "book") (tSeq (sFld K (tVar 0) (tOf K f3) "hands") (sFld K (tVar 0) (tLst tNil) "truths"))))) (hn:N.length=3:=by rfl) (hm:ps.length=3:=by rfl)
 (B:Bnm "__init__" "Watch.__init__" st ps:=by(intro _ _ _ _ _ _ us hl;obtain⟨_,_,_,rfl⟩:=len3 hl;rfl)):OkI P w K mg base (k+1) ps f1 f2 f3:=by
 obtain⟨C,f,fd,a,mk,fu⟩:=F
 exact⟨C,f,fd,a,hW C a,mk,Ywj fu S hn hm k1 k2 k3 fun _ _ _ _ _ _ hr=>hb hr,fu.binds B⟩
end
end
section
section
variable {X:Cx} {a:Expr} {fa:Ro->Option D} {pos px:Pos} {x:Str} {ks:List Str}
theorem Yzd(hu:X.A.units+64 < cLine){p:Addr}{o:Obj}{its:Array Value}{n:Nat}(hl:X.K.lookup p=some o)(hc:o.cls=.type "tuple")(hd:o.data=.seq its n)(hs:Yv0 its.toList ks):OpR X (compareOp .In) (rInG p ks false):=by
 intro pins s σ H x y v u Q I rx ry h
 obtain⟨k,rfl,hk,rfl,q⟩:=h
 cases ry
 obtain⟨t,rfl⟩:=rx
 obtain⟨as,h1,h2⟩:=Yii (h:=s.heap) hs
 have ht:Reads s.heap (.ref p) (.tuple (ks.map PyData.str)) _:=.tuple (I.kIn p o hl) hc hd h1
 refine SeqAt.in_tuple_reads ht (.str k t) (by simpa [PyData.canLay0]using h2) (by simp[PyData.canLay0,hk]) ?_ ⟨.bl _,H,I,rfl,?_⟩
 ·have e:(PyData.str k).depth=0:=by simp[PyData.depth]
  rw[e]
  omega
 ·rw[Yqk]
  have e:decide (k∈ks)=(decide (k∈ks) != false):=by cases decide (k∈ks)<;>rfl
  rw[e]
  exact q
theorem Ywl(hu:X.A.units+64 < cLine)(g:GT X.K X.mg x ks)(hg:Gl X x)(ha:ZC X a fa)(hm:behindInMarks .In (.Name x px)=false:=by with_unfolding_all rfl)(hd:(x==("__debug__":Str))=false:=by decide):ZE X (.Compare a [.In] [.Name x px] pos) (mB (b1 fa (inG false ks))):=by
 obtain⟨p,o,its,n,hmg,hl,hc,hdt,hs⟩:=g
 refine⟨PE.imp (Ypb (Yzd hu hl hc hdt hs) ha.un (Yo5 (v:=.ref p) hg hmg rfl hd) hm) fun σ H Q hx_=>?_⟩
 obtain⟨ρ,b,H0,G0,G,e,s,h⟩:=hx_
 obtain⟨k,ek,rfl⟩:=Ylx e
 obtain⟨d,h1,h2⟩:=Ybs ek
 refine tCof.at h1 s fun v H1 G1 g1 r1 s1=>?_
 unfold inG at h2
 split at h2
 ·rename_i k
  cases h2
  rw[Ct]at r1
  exact⟨k,r1.1,r1.2,rfl,h _ H1 G1 g1 (by rw[Rp])⟩
 ·cases h2
end
end
section
variable {K:W.Frag}
def Offs(ks:List Addr)(H H':Hp):Prop:=∀a,a∉ks->H' a=H a
theorem Offs.trans{ks:List Addr}{H H' H'':Hp}(a:Offs ks H H')(b:Offs ks H' H''):Offs ks H H'':=fun x hx=>(b x hx).trans (a x hx)
abbrev Ts:=List (List Bool)
def Rps(ks:List Addr)(ts:Ts)(H:Hp):Prop:=ks.length=ts.length/\∀(i:Nat) a t,ks[i]?=some a->ts[i]?=some t->H a=some (wl t)
structure WM(K:W.Frag)(ks:List Addr)(ts:Ts)(H0 G0:Hp)(σ:L2.St)(H G:Hp)(ρ:Ro):Prop where
 sr:SR K H0 G0 σ H G ρ
 nd:ks.Nodup
 g0:∀a∈ks,G0 a=none
 h0:Rps ks ts H0
theorem Rps.mem{ks:List Addr}{ts:Ts}{H:Hp}(r:Rps ks ts H){a:Addr}(h:a∈ks):∃(i:Nat) (t:List Bool),ks[i]?=some a/\ts[i]?=some t/\H a=some (wl t):=by
 obtain⟨i,hi,e⟩:=List.mem_iff_getElem.mp h
 have h1:ks[i]?=some a:=by rw[qp hi,e]
 have hi2:i < ts.length:=by rw[<-r.1];exact hi
 exact⟨i,ts[i],h1,qp hi2,r.2 i a _ h1 (qp hi2)⟩
def ContM(K:W.Frag)(ks:List Addr)(H0 G0:Hp)(F:Ends):OutW Ts->Prop
 | .nx ρ' t=>∀σ' H' G' H1,Offs ks H0 H1->WM K ks t H1 G0 σ' H' G' ρ'->F.nx σ' H'
 | .rt d _=>∀v H' G' H1,Offs ks H0 H1->Gr H1 G0 H' G'->Rp K G' d v->F.rt v H'
 | .bk ρ' t=>∀σ' H' G' H1,Offs ks H0 H1->WM K ks t H1 G0 σ' H' G' ρ'->F.bk σ' H'
 | .ct ρ' t=>∀σ' H' G' H1,Offs ks H0 H1->WM K ks t H1 G0 σ' H' G' ρ'->F.ct σ' H'
section
variable {ks:List Addr} {ts:Ts} {H0 G0 H G H1:Hp} {σ:L2.St} {ρ:Ro} {F:Ends}
theorem ContM.off{out:OutW Ts}(f:Offs ks H0 H1)(c:ContM K ks H0 G0 F out):ContM K ks H1 G0 F out:=by
 cases out with
 | nx ρ t=>exact fun σ' H' G' H2 g w=>c σ' H' G' H2 (f.trans g) w
 | rt d t=>exact fun v H' G' H2 g w=>c v H' G' H2 (f.trans g) w
 | bk ρ t=>exact fun σ' H' G' H2 g w=>c σ' H' G' H2 (f.trans g) w
 | ct ρ t=>exact fun σ' H' G' H2 g w=>c σ' H' G' H2 (f.trans g) w
theorem WM.no(w:WM K ks ts H0 G0 σ H G ρ){a:Addr}(ha:a∈ks):G a=none:=by
 cases h:G a with
 | none=>rfl
 | some u=>
   have:=w.sr.gr.n a (w.g0 a ha) (by rw[h];exact fun z=>nomatch z)
   obtain⟨_,_,_,_,e⟩:=w.h0.mem ha
   rw[e]at this
   cases this
theorem WM.at(w:WM K ks ts H0 G0 σ H G ρ){i:Nat}{a:Addr}{t:List Bool}(h1:ks[i]?=some a)(h2:ts[i]?=some t):H a=some (wl t):=w.sr.gr.h _ _ (w.h0.2 i a t h1 h2)
theorem WM.grow{H' G':Hp}(w:WM K ks ts H0 G0 σ H G ρ)(g:Gr H G H' G'):WM K ks ts H0 G0 σ H' G' ρ:=⟨w.sr.grow g,w.nd,w.g0,w.h0⟩
theorem WM.ne(w:WM K ks ts H0 G0 σ H G ρ){a b:Addr}(ha:a∈ks)(h:H0 b=none):b≠a:=fun z=>by
 obtain⟨_,_,_,_,e⟩:=w.h0.mem ha
 rw[z,e]at h
 cases h
theorem WM.put(w:WM K ks ts H0 G0 σ H G ρ){i:Nat}{l:Addr}(hi:ks[i]?=some l)(t':List Bool):WM K ks (ts.set i t') (upd H0 l (wl t')) G0 σ (upd H l (wl t')) G ρ:=by
 have hl:l∈ks:=Qh hi
 have gl:=w.no hl
 have s:=w.sr
 refine⟨⟨⟨fun b u e=>?_,s.gr.g,fun b u e=>?_,fun a h h'=>?_⟩,s.len,s.sh,fun i m e=>?_,s.ap,fun i t ks vs e=>?_,s.apd⟩,w.nd,w.g0,⟨by rw[List.length_set];exact w.h0.1,fun j a t h1 h2=>?_⟩⟩
 ·by_cases z:b=l
  ·subst z;rw[Yo]at e ⊢;exact e
  ·rw[Yh z]at e ⊢;exact s.gr.h b u e
 ·rw[Yh (Yw e gl)];exact s.gr.s b u e
 ·have q:=s.gr.n a h h'
  rw[Yh (w.ne hl q)];exact q
 ·obtain⟨a,xs,q1,q2,q3,q4,q5⟩:=s.ow i m e
  exact⟨a,xs,q1,q2,by rw[Yh (w.ne hl q3)];exact q3,by rw[Yh (w.ne hl q3)];exact q4,q5⟩
 ·obtain⟨a,kxs,vxs,q1,q2,q3,q4,q5⟩:=s.od i t ks vs e
  exact⟨a,kxs,vxs,q1,q2,by rw[Yh (w.ne hl q3)];exact q3,q4.mono (Same.refl _) fun o z=>by rw[Yh (w.ne hl q3)];exact z,q5⟩
 ·by_cases z:j=i
  ·subst z
   rw[hi]at h1
   cases h1
   have hlt:j < ts.length:=by rw[<-w.h0.1];exact(qm hi).1
   rw[List.getElem?_set_self hlt]at h2
   cases h2
   exact Yo
  ·rw[Qa (Ne.symm z)]at h2
   have:a≠l:=fun y=>z (by
    subst y
    obtain⟨p1,e1⟩:=qm h1
    obtain⟨p2,e2⟩:=qm hi
    exact(List.getElem_inj w.nd).mp (e1.trans e2.symm))
   rw[Yh this]
   exact w.h0.2 j a t h1 h2
theorem Offs.put{ks:List Addr}{l:Addr}(hl:l∈ks)(H:Hp)(o:HO):Offs ks H (upd H l o):=fun a h=>Yh fun z=>h (by rw[z];exact hl)
theorem WM.rebase'(w:WM K ks ts H0 G0 σ H G ρ):∃H1,WM K ks ts H1 G σ H G ρ/\(∀H2 σ' H' G' ρ' ts',Offs ks H1 H2->WM K ks ts' H2 G σ' H' G' ρ'->∃H3,Offs ks H0 H3/\WM K ks ts' H3 G0 σ' H' G' ρ')/\∀H2 H' G',Offs ks H1 H2->Gr H2 G H' G'->∃H3,Offs ks H0 H3/\Gr H3 G0 H' G':=by
 classical
 have s:=w.sr
 let own:Addr->Prop:=fun a=>∃(i:Nat),((∃l:List D,ρ[i]?=some (some (B.ow l)))\/(∃t ks vs,ρ[i]?=some (some (B.od t ks vs))))/\σ[i]?=some (some (V.ref a))
 have hh:∀a,own a->H0 a=none:=fun a ha=>by
  obtain⟨i,e1,e2⟩:=ha
  rcases e1 with⟨l,e1⟩ | ⟨t,ks,vs,e1⟩
  ·obtain⟨b,xs,q1,_,q3,_⟩:=s.ow i l e1
   rw[e2]at q1;cases q1;exact q3
  ·obtain⟨b,kxs,vxs,q1,_,q3,_⟩:=s.od i t ks vs e1
   rw[e2]at q1;cases q1;exact q3
 have hl:∀a∈ks,¬own a:=fun a ha z=>by
  have:=hh a z
  obtain⟨_,_,_,_,e⟩:=w.h0.mem ha
  rw[e]at this;cases this
 have back:∀a,(if own a then (none:Option HO)else H a)=none->H0 a=none:=fun a h=>by
  by_cases o:own a
  ·exact hh a o
  ·rw[if_neg o]at h;exact s.gr.h.free h
 refine⟨fun a=>if own a then none else H a,⟨⟨⟨fun b o e=>?_,Same.refl _,s.gr.s,fun _ h h'=>absurd h h'⟩,s.len,s.sh,fun i l e=>?_,s.ap,fun i t ks vs e=>?_,s.apd⟩,w.nd,fun a ha=>w.no ha,⟨w.h0.1,fun i a t h1 h2=>?_⟩⟩,fun H2 σ' H' G' ρ' ts' f t=>?_,fun H2 H' G' f t=>?_⟩
 ·by_cases z:own b
  ·simp only[if_pos z]at e;cases e
  ·simp only[if_neg z]at e;exact e
 ·obtain⟨a,xs,q1,q2,q3,q4,q5⟩:=s.ow i l e
  exact⟨a,xs,q1,q2,if_pos ⟨i,.inl ⟨l,e⟩,q1⟩,q4,q5⟩
 ·obtain⟨a,kxs,vxs,q1,q2,q3,q4⟩:=s.od i t ks vs e
  exact⟨a,kxs,vxs,q1,q2,if_pos ⟨i,.inr ⟨t,ks,vs,e⟩,q1⟩,q4⟩
 ·show(if own a then none else H a)=_
  rw[if_neg (hl a (Qh h1))];exact w.at h1 h2
 ·refine⟨fun a=>if a∈ks then H2 a else H0 a,fun a ha=>if_neg ha,?_⟩
  have bk2:∀a,H2 a=none->(if a∈ks then H2 a else H0 a)=none:=fun a h=>by
   by_cases z:a∈ks
   ·rw[if_pos z];exact h
   ·rw[if_neg z]
    rw[f a z]at h
    exact back a h
  refine⟨⟨⟨fun b u e=>?_,s.gr.g.trans t.sr.gr.g,t.sr.gr.s,fun b h h'=>?_⟩,t.sr.len,t.sr.sh,fun i l e=>?_,t.sr.ap,fun i t1 ks vs e=>?_,t.sr.apd⟩,w.nd,w.g0,⟨t.h0.1,fun i a t1 h1 h2=>?_⟩⟩
  ·refine t.sr.gr.h b u ?_
   by_cases z:b∈ks
   ·simp only[if_pos z]at e;exact e
   ·simp only[if_neg z]at e
    rw[f b z]
    have z2:¬own b:=fun q=>by rw[hh b q]at e;cases e
    show(if own b then none else H b)=some u
    rw[if_neg z2];exact s.gr.h b u e
  ·by_cases z:G b=none
   ·exact bk2 b (t.sr.gr.n b z h')
   ·have q:=s.gr.n b h z
    have nl:b∉ks:=fun y=>z (w.no y)
    show(if b∈ks then H2 b else H0 b)=none
    rw[if_neg nl];exact q
  ·obtain⟨a,xs,q1,q2,q3,q4,q5⟩:=t.sr.ow i l e
   exact⟨a,xs,q1,q2,bk2 a q3,q4,q5⟩
  ·obtain⟨a,kxs,vxs,q1,q2,q3,q4⟩:=t.sr.od i t1 ks vs e
   exact⟨a,kxs,vxs,q1,q2,bk2 a q3,q4⟩
  ·show(if a∈ks then H2 a else H0 a)=_
   rw[if_pos (Qh h1)];exact t.h0.2 i a t1 h1 h2
 ·refine⟨fun a=>if a∈ks then H2 a else H0 a,fun a ha=>if_neg ha,⟨fun b u e=>?_,s.gr.g.trans t.g,t.s,fun b h h'=>?_⟩⟩
  ·refine t.h b u ?_
   by_cases z:b∈ks
   ·simp only[if_pos z]at e;exact e
   ·simp only[if_neg z]at e
    rw[f b z]
    have z2:¬own b:=fun q=>by rw[hh b q]at e;cases e
    show(if own b then none else H b)=some u
    rw[if_neg z2];exact s.gr.h b u e
  ·by_cases z:G b=none
   ·have h5:=t.n b z h'
    show(if b∈ks then H2 b else H0 b)=none
    by_cases z2:b∈ks
    ·rw[if_pos z2];exact h5
    ·rw[if_neg z2]
     rw[f b z2]at h5
     exact back b h5
   ·have q:=s.gr.n b h z
    have nl:b∉ks:=fun y=>z (w.no y)
    show(if b∈ks then H2 b else H0 b)=none
    rw[if_neg nl];exact q
end
abbrev Xm:=Ro->Ts->Option (OutW Ts)
def sOfM(K:W.Frag)(ks:List Addr)(f:Xm):TS:=fun F σ H=>∃ρ t out H0 G0 G,f ρ t=some out/\WM K ks t H0 G0 σ H G ρ/\ContM K ks H0 G0 F out
structure XS(X:Cx)(ks:List Addr)(st:Stmt)(f:Xm):Prop where
 un:PS X st (sOfM X.K ks f)
structure XB(X:Cx)(ks:List Addr)(sts:List Stmt)(f:Xm):Prop where
 un:PSs X sts (sOfM X.K ks f)
structure XT(X:Cx)(ks:List Addr)(c:Expr)(f:Ro->Ts->Option Bool):Prop where
 un:PT X c fun σ H Q=>∃ρ t k H0 G0 G,f ρ t=some k/\WM X.K ks t H0 G0 σ H G ρ/\∀H' G',Gr H G H' G'->Q k H'
section
variable {X:Cx} {ks:List Addr} {st:Stmt} {sts:List Stmt} {fs gs:Xm} {pos:Pos} {tg:Expr} {gl:Ro->Option (List D)}
theorem Yey{f:Ro->Option Out}(h:ZS X st f):XS X ks st (Ycr f):=⟨PS.imp h.un fun F σ H hx_=>by
 obtain⟨ρ,t,out,H0,G0,G,e,w,c⟩:=hx_
 obtain⟨o,h1,rfl⟩:=qb e
 refine⟨ρ,o,H0,G0,G,h1,w.sr,?_⟩
 cases o with
 | nx ρ'=>exact fun σ' H' G' s'=>c σ' H' G' H0 (fun _ _=>rfl) ⟨s',w.nd,w.g0,w.h0⟩
 | rt d=>exact fun v H' G' g r=>c v H' G' H0 (fun _ _=>rfl) g r
 | bk ρ'=>exact fun σ' H' G' s'=>c σ' H' G' H0 (fun _ _=>rfl) ⟨s',w.nd,w.g0,w.h0⟩
 | ct ρ'=>exact fun σ' H' G' s'=>c σ' H' G' H0 (fun _ _=>rfl) ⟨s',w.nd,w.g0,w.h0⟩⟩
theorem Yt2:XB X ks [] nilW:=⟨PSs.imp Ylq fun F σ H hx_=>by
 obtain⟨ρ,t,out,H0,G0,G,e,w,c⟩:=hx_
 cases e
 exact c σ H G H0 (fun _ _=>rfl) w⟩
theorem Yg9(h:XS X ks st fs):XB X ks [st] fs:=⟨Yiq h.un⟩
theorem Yct(h1:XS X ks st fs)(h2:XB X ks sts gs):XB X ks (st::sts) (seqW fs gs):=⟨PSs.imp (Ycl h1.un h2.un) fun F σ H hx_=>by
 obtain⟨ρ,t,out,H0,G0,G,e,w,c⟩:=hx_
 unfold seqW at e
 obtain⟨o,h3,e⟩:=qa e
 cases o with
 | nx ρ' t'=>exact⟨ρ,t,.nx ρ' t',H0,G0,G,h3,w,fun σ' H' G' H1 f w'=>⟨ρ',t',out,H1,G0,G',e,w',c.off f⟩⟩
 | rt d t'=>cases e;exact⟨ρ,t,.rt d t',H0,G0,G,h3,w,c⟩
 | bk ρ' t'=>cases e;exact⟨ρ,t,.bk ρ' t',H0,G0,G,h3,w,c⟩
 | ct ρ' t'=>cases e;exact⟨ρ,t,.ct ρ' t',H0,G0,G,h3,w,c⟩⟩
theorem Ywm{c:Expr}{a b:List Stmt}{fc:Ro->Ts->Option Bool}(hc:XT X ks c fc)(ha:XB X ks a fs)(hb:XB X ks b gs):XS X ks (.If c a b pos) (ifW fc fs gs):=⟨PS.imp (Yul hc.un ha.un hb.un) fun F σ H hx_=>by
 obtain⟨ρ,t,out,H0,G0,G,e,w,c⟩:=hx_
 unfold ifW at e
 obtain⟨k,h1,e⟩:=qa e
 refine⟨ρ,t,k,H0,G0,G,h1,w,fun H1 G1 g1=>?_⟩
 have w1:=w.grow g1
 cases k with
 | true=>
   rw[if_pos rfl]at e
   exact iteT ⟨ρ,t,out,H0,G0,G1,e,w1,c⟩
 | false=>
   rw[if_neg qh]at e
   exact iteF ⟨ρ,t,out,H0,G0,G1,e,w1,c⟩⟩
theorem Yt3{iter:Expr}{body:List Stmt}{gt:D->Ro->Option Ro}(hp:PassesOwn (model X.prog X.w) X.A X.env X.xe)(hc:X.calm=true)(hi:ZI X tg iter gl)(hg:ZG X tg gt)(hb:XB X ks body fs)
 (hs:∀x,foldedSetIterable iter X.env x=pure x:=by intro _;rfl):XS X ks (.For tg iter body [] pos) (Ykw gl gt fs):=
 ⟨PS.imp (Ytb hp hc hi.un hg.un hb.un hs) fun F σ H hx_=>by
  obtain⟨ρ,t,out,H0,G0,G,e,w,h⟩:=hx_
  unfold Ykw at e
  obtain⟨ds,h1,h2⟩:=qa e
  refine⟨ρ,ds,H0,G0,G,h1,w.sr,fun J H1 G1 g1 wk=>?_⟩
  have w1:=w.grow g1
  obtain⟨Hb,wb,back,backG⟩:=w1.rebase'
  have hout:=Yex ds ρ t out h2
  refine⟨fun i m σ' H'=>m=ds.length - i/\i<=ds.length/\∃ρ' t' G' Hc,Offs ks Hb Hc/\WM X.K ks t' Hc G1 σ' H' G' ρ'/\forW gt fs (ds.drop i) ρ' t'=some out,⟨_,rfl,Qb _,ρ,t,G1,Hb,fun _ _=>rfl,wb,h2⟩,?_⟩
  rintro i m σ' H' ⟨rfl,hi,ρ',t',G',Hc,fc,w',e'⟩
  have W:=wk.2 i H' G' w'.sr.gr.g w'.sr.seen
  by_cases hlt:i < ds.length
  ·have hd:ds[i]?=some ds[i]:=qp hlt
   obtain⟨go,yl⟩:=W.1 _ hd
   rw[List.drop_eq_getElem_cons hlt,forW]at e'
   obtain⟨ρ1,e1,e'⟩:=qa e'
   obtain⟨o,e2,e'⟩:=qa e'
   refine .inr ⟨go,fun σ' H'=>i+1<=ds.length/\∃ρ' t' G' Hc,Offs ks Hb Hc/\WM X.K ks t' Hc G1 σ' H' G' ρ'/\forW gt fs (ds.drop (i+1)) ρ' t'=some out,fun σ2 H2 q=>⟨ds.length - (i+1),by omega,rfl,q.1,q.2⟩,fun x H2 y=>?_⟩
   obtain⟨G2,g2,r2⟩:=yl x H2 y
   refine⟨_,ρ',ρ1,Hc,G1,G2,e1,w'.sr.grow g2,r2,fun σ3 s3=>?_⟩
   refine⟨ρ1,t',o,Hc,G1,G2,e2,⟨s3,w'.nd,w'.g0,w'.h0⟩,?_⟩
   cases o with
   | nx ρ2 t2=>exact fun σ4 H4 G4 Hd f4 w4=>⟨hlt,ρ2,t2,G4,Hd,fc.trans f4,w4,e'⟩
   | ct ρ2 t2=>exact fun σ4 H4 G4 Hd f4 w4=>⟨hlt,ρ2,t2,G4,Hd,fc.trans f4,w4,e'⟩
   | bk ρ2 t2=>
     cases e'
     exact fun σ4 H4 G4 Hd f4 w4=>by
      obtain⟨He,f5,w5⟩:=back _ _ _ _ _ _ (fc.trans f4) w4
      exact h σ4 H4 G4 He f5 w5
   | rt d t2=>
     cases e'
     refine fun v H4 G4 Hd f4 g4 r4=>?_
     obtain⟨He,f5,g5⟩:=backG _ _ _ (fc.trans f4) g4
     exact h v H4 G4 He f5 g5 r4
  ·have ei:i=ds.length:=by omega
   subst ei
   rw[List.drop_length,forW]at e'
   cases e'
   obtain⟨He,f5,w5⟩:=back _ _ _ _ _ _ fc w'
   exact .inl ⟨W.2 (qs _),h σ' H' G' He f5 w5⟩⟩
end
end
section
variable {K:W.Frag}
mutual
def thD(ks:List Addr)(ts:Ts):D->D
 | .adr a=>match (ks.zip ts).lookup a with
   | some t=>.lst (t.map D.bl)
   | none=>.adr a
 | .obj c f vs=>.obj c f (thL ks ts vs)
 | .lst l=>.lst (thL ks ts l)
 | .tup l=>.tup (thL ks ts l)
 | .non=>.non
 | .bl b=>.bl b
 | .int i=>.int i
 | .str x=>.str x
 | .scr ns=>.scr ns
 | .dct t a b=>.dct t a b
def thL(ks:List Addr)(ts:Ts):List D->List D
 | []=>[]
 | d::l=>thD ks ts d::thL ks ts l
end
def thB(ks:List Addr)(ts:Ts):B->B
 | .sh d=>.sh (thD ks ts d)
 | .ow l=>.ow (thL ks ts l)
 | .od t a b=>.od t a b
def thR(ks:List Addr)(ts:Ts)(ρ:Ro):Ro:=ρ.map (Option.map (thB ks ts))
section
variable {ks:List Addr} {ts:Ts} {G G':Hp}
mutual
theorem Rp.th(h:∀a t,(ks.zip ts).lookup a=some t->G' a=some (wl t))(s:Same G G'):∀{d:D} {v:V},Rp K G d v->Rp K G' (thD ks ts d) v
 | .adr a,_,r=>by
   rw[thD]
   rw[Rp]at r
   cases e:(ks.zip ts).lookup a with
   | none=>show Rp K G' (.adr a) _;rw[Rp];exact r
   | some t=>show Rp K G' (.lst (t.map D.bl)) _;rw[Rp];exact⟨a,t.map V.bl,r,.inl (h a t e),Yl9 t⟩
 | .obj c f vs,_,r=>by
   rw[thD]
   rw[Rp]at r ⊢
   obtain⟨a,C,dx,xs,e,n,g,l,q⟩:=r
   exact⟨a,C,dx,xs,e,n,s _ _ g,l,RpL.th h s q⟩
 | .lst l,_,r=>by
   rw[thD]
   rw[Rp]at r ⊢
   obtain⟨a,xs,e,g,q⟩:=r
   exact⟨a,xs,e,Yap s g,RpL.th h s q⟩
 | .tup l,_,r=>by
   rw[thD]
   rw[Rp]at r ⊢
   obtain⟨a,xs,e,g,q⟩:=r
   exact⟨a,xs,e,s _ _ g,RpL.th h s q⟩
 | .non,_,r=>by rw[thD];exact r.mono s
 | .bl _,_,r=>by rw[thD];exact r.mono s
 | .int _,_,r=>by rw[thD];exact r.mono s
 | .str _,_,r=>by rw[thD];exact r.mono s
 | .scr _,_,r=>by rw[thD];exact r.mono s
 | .dct _ _ _,_,r=>by rw[thD];exact r.mono s
theorem RpL.th(h:∀a t,(ks.zip ts).lookup a=some t->G' a=some (wl t))(s:Same G G'):∀{l:List D} {xs:List V},RpL K G l xs->RpL K G' (thL ks ts l) xs
 | [],_,r=>by rw[thL];rw[RpL]at r ⊢;exact r
 | d::l,_,r=>by
   rw[thL]
   rw[RpL]at r ⊢
   obtain⟨x,xs,e,g,q⟩:=r
   exact⟨x,xs,e,Rp.th h s g,RpL.th h s q⟩
end
theorem Yt4:∀{ks:List Addr} {ts:Ts} {a:Addr} {t:List Bool},(ks.zip ts).lookup a=some t->∃i:Nat,ks[i]?=some a/\ts[i]?=some t
 | [],_,_,_,h=>by simp at h
 | _::_,[],_,_,h=>by simp at h
 | k::ks,u::ts,a,t,h=>by
   rw[List.zip_cons_cons,Qf]at h
   cases e:(a==k)with
   | true=>
     rw[e]at h
     cases h
     exact⟨0,by simp[beq_iff_eq.mp e],rfl⟩
   | false=>
     rw[e]at h
     obtain⟨i,h1,h2⟩:=Yt4 h
     exact⟨i+1,by simpa using h1,by simpa using h2⟩
theorem Yq7:∀{ks:List Addr} {ts:Ts} {a:Addr},a∉ks->(ks.zip ts).lookup a=none
 | [],_,_,_=>by simp
 | _::_,[],_,_=>by simp
 | k::ks,u::ts,a,h=>by
   rw[List.zip_cons_cons,Qf]
   have e:(a==k)=false:=by
    rw[beq_eq_false_iff_ne]
    exact fun z=>h (by rw[z];exact qg)
   rw[e]
   exact Yq7 fun z=>h (qf _ z)
end
section
variable {ks:List Addr} {ts:Ts} {H0 G0 H G:Hp} {σ:L2.St} {ρ:Ro}
theorem Yez{i:Nat}{b:B}(h:(thR ks ts ρ)[i]?=some (some b)):∃b',ρ[i]?=some (some b')/\b=thB ks ts b':=by
 unfold thR at h
 rw[Qd]at h
 obtain⟨o,h1,h2⟩:=qb h
 obtain⟨b',rfl,h3⟩:=qb h2
 exact⟨b',h1,h3.symm⟩
theorem WM.thaw(w:WM K ks ts H0 G0 σ H G ρ):∃H2 G1,SR K H2 G0 σ H G1 (thR ks ts ρ)/\(∀H' G',Gr H G1 H' G'->Gr H G H' G)/\∀H' G' d v,Gr H G1 H' G'->plB d=true->Rp K G' d v->∃G2,Gr H G H' G2/\Rp K G2 d v:=by
 have s:=w.sr
 let G1:Hp:=fun a=>match (ks.zip ts).lookup a with
  | some t=>some (wl t)
  | none=>G a
 have hg1:∀a t,(ks.zip ts).lookup a=some t->G1 a=some (wl t):=fun a t e=>by
  show(match (ks.zip ts).lookup a with | some t=>some (wl t) | none=>G a)=_
  rw[e]
 have hg0:∀a,a∉ks->G1 a=G a:=fun a h=>by
  show(match (ks.zip ts).lookup a with | some t=>some (wl t) | none=>G a)=_
  rw[Yq7 h]
 have hin:∀a,a∈ks->∃t,G1 a=some (wl t)/\H a=some (wl t):=fun a h=>by
  cases e:(ks.zip ts).lookup a with
  | some t=>
    obtain⟨i,h1,h2⟩:=Yt4 e
    exact⟨t,hg1 a t e,w.at h1 h2⟩
  | none=>
    exfalso
    obtain⟨i,t,h1,h2,_⟩:=w.h0.mem h
    have hz:(ks.zip ts)[i]?=some (a,t):=by rw[List.getElem?_zip_eq_some];exact⟨h1,h2⟩
    have:=List.lookup_eq_none_iff.mp e (a,t) (Qh hz)
    simp at this
 have sm:Same G G1:=fun b o e=>by
  rw[hg0 b fun z=>by rw[w.no z]at e;cases e];exact e
 have tupb:∀b ys,G1 b=some (.tup ys)->G b=some (.tup ys):=fun b ys e=>by
  by_cases z:b∈ks
  ·obtain⟨t,h1,_⟩:=hin b z
   rw[h1]at e
   cases e
  ·rw[hg0 b z]at e;exact e
 refine⟨fun a=>if a∈ks then none else H0 a,G1,⟨⟨fun b o e=>?_,s.gr.g.trans sm,fun b o e=>?_,fun b h h'=>?_⟩,by simp[thR,s.len],fun j d e=>?_,fun j m e=>?_,fun j k m m' a b' h1 h2 h3 h4 h5=>?_,fun j t1 k1 v1 e=>?_,fun j k ta ka va tb kb vb a b' h1 h2 h3 h4 h5=>?_⟩,fun H' G' g=>.back s.seen g,fun H' G' d v g hp r=>?_⟩
 ·by_cases z:b∈ks
  ·simp only[if_pos z]at e;cases e
  ·simp only[if_neg z]at e;exact s.gr.h b o e
 ·by_cases z:b∈ks
  ·obtain⟨t,h1,h2⟩:=hin b z
   rw[h1]at e
   rw[h2];exact e
  ·rw[hg0 b z]at e;exact s.gr.s b o e
 ·by_cases z:b∈ks
  ·exact if_pos z
  ·rw[hg0 b z]at h'
   show(if b∈ks then none else H0 b)=none
   rw[if_neg z];exact s.gr.n b h h'
 ·obtain⟨b',q1,q2⟩:=Yez e
  cases b' with
  | sh d'=>
    cases q2
    obtain⟨v,p1,p2⟩:=s.sh j d' q1
    exact⟨v,p1,p2.th hg1 sm⟩
  | ow _=>cases q2
  | od _ _ _=>cases q2
 ·obtain⟨b',q1,q2⟩:=Yez e
  cases b' with
  | ow m'=>
    cases q2
    obtain⟨a,xs,p1,p2,p3,p4,p5⟩:=s.ow j m' q1
    have na:a∉ks:=fun z=>w.ne z p3 rfl
    exact⟨a,xs,p1,by rw[hg0 a na];exact p2,by show(if a∈ks then none else H0 a)=none;rw[if_neg na];exact p3,p4,p5.th hg1 sm⟩
  | sh _=>cases q2
  | od _ _ _=>cases q2
 ·obtain⟨b1,q1,q2⟩:=Yez h1
  obtain⟨b2,q3,q4⟩:=Yez h2
  cases b1 with
  | ow m1=>
    cases b2 with
    | ow m2=>exact s.ap j k m1 m2 a b' q1 q3 h3 h4 h5
    | sh _=>cases q4
    | od _ _ _=>cases q4
  | sh _=>cases q2
  | od _ _ _=>cases q2
 ·obtain⟨b',q1,q2⟩:=Yez e
  cases b' with
  | od t2 k2 v2=>
    cases q2
    obtain⟨a,kxs,vxs,p1,p2,p3,p4,p5,p6⟩:=s.od j _ _ _ q1
    have na:a∉ks:=fun z=>w.ne z p3 rfl
    exact⟨a,kxs,vxs,p1,by rw[hg0 a na];exact p2,by show(if a∈ks then none else H0 a)=none;rw[if_neg na];exact p3,p4.mono sm fun _ z=>z,p5.mono sm,p6.mono sm⟩
  | sh _=>cases q2
  | ow _=>cases q2
 ·obtain⟨b1,q1,q2⟩:=Yez h1
  obtain⟨b2,q3,q4⟩:=Yez h2
  cases b1 with
  | od _ _ _=>
    cases b2 with
    | od _ _ _=>exact s.apd j k _ _ _ _ _ _ a b' q1 q3 h3 h4 h5
    | sh _=>cases q4
    | ow _=>cases q4
  | sh _=>cases q2
  | ow _=>cases q2
 ·refine⟨fun a=>if H a=none then G' a else G a,⟨g.h,fun a o e=>?_,fun a o e=>?_,fun a h h'=>?_⟩,r.plain (fun b ys e=>?_) hp⟩
  ·have hH:H a≠none:=fun z=>by rw[s.seen _ _ e]at z;cases z
   show(if H a=none then G' a else G a)=some o
   rw[if_neg hH];exact e
  ·by_cases z:H a=none
   ·rw[if_pos z]at e;exact g.s _ _ e
   ·rw[if_neg z]at e;exact g.h _ _ (s.seen _ _ e)
  ·refine Classical.byContradiction fun z=>?_
   rw[if_neg z]at h'
   exact h' h
  ·show(if H b=none then G' b else G b)=some (HO.tup ys)
   by_cases z:H b=none
   ·rw[if_pos z];exact e
   ·rw[if_neg z]
    refine tupb b ys ?_
    cases q:G1 b with
    | none=>exact absurd (g.n b q (by rw[e];exact fun y=>nomatch y)) z
    | some o=>
      have:=g.g _ _ q
      rw[e]at this
      cases this
      rfl
end
def Yek:List Addr->Addr->Option Nat
 | [],_=>none
 | k::ks,a=>if k=a then some 0 else (Yek ks a).map (·+1)
theorem Ydw:∀{ks:List Addr} {a:Addr} {i:Nat},Yek ks a=some i->ks[i]?=some a
 | [],_,_,h=>by cases h
 | k::ks,a,i,h=>by
   rw[Yek]at h
   split at h
   ·rename_i e
    cases h
    rw[e]
    rfl
   ·obtain⟨j,h1,rfl⟩:=qb h
    simpa using Ydw h1
def Yjg(ks:List Addr)(f:Ro->Option Bool):Ro->Ts->Option Bool:=fun ρ ts=>f (thR ks ts ρ)
section
variable {X:Cx} {ks:List Addr} {e r:Expr} {f fr:Ro->Option D} {pos:Pos}
theorem Yma{c:Expr}{fc:Ro->Option Bool}(h:ZT X c fc):XT X ks c (Yjg ks fc):=⟨PT.imp h.un fun σ H Q hx_=>by
 obtain⟨ρ,t,k,H0,G0,G,e,w,c⟩:=hx_
 obtain⟨H2,G1,s1,bk,_⟩:=w.thaw
 exact⟨_,k,H2,G0,G1,e,s1,fun H' G' g=>c H' G (bk H' G' g)⟩⟩
def appT(ks:List Addr)(i:Nat)(f:Ro->Option D):Xm:=fun ρ ts=>(getO i ρ).bind fun l=>(f (thR ks ts ρ)).bind fun d=>if plB d=true/\l.length < 1000000 then some (.nx (ρ.set i (some (.ow (l++[d])))) ts)else none
theorem Ywn(i:Nat){x:Str}{p2 apos cpos:Pos}(he:ZE X e f)(hN:X.N[i]?=some x:=by rfl)(hv:Vis X.env.scope x:=by first | exact Or.inl rfl | exact Or.inr (Or.inl rfl) | exact Or.inr (Or.inr rfl))
 (hd:(x==("__debug__":Str))=false:=by decide) (hcd:(x==("__classdict__":Str))=false:=by decide) (hse:swapsWith (.Call (.Attribute (.Name x p2) "append" apos) [e] [] cpos) none pos.line X.env=pure false:=by rfl)
 (hs:starEach [e] X.env=[(false,eval e X.env)]:=by rfl)
 (hfew:((backTo cpos (starEach [e] X.env)).all (fun x=>!x.1)&&(backToKw cpos (keywordEach [] X.env)).all (fun x=>x.1.isSome)&&decide ([e].length+([]:List Keyword).length+(if ([]:List Keyword).isEmpty then 0 else 1) < 30))=true:=by rfl)
 (hline:(apos.endLine==cpos.line)=true:=by rfl) (hbase:attributeBase (.Name x p2) "append" X.env (eval (.Name x p2) X.env)=eval (.Name x p2) X.env:=by rfl) :
 XS X ks (.Expr (.Call (.Attribute (.Name x p2) "append" apos) [e] [] cpos) pos) (appT ks i f):=
 ⟨PS.imp (Yeq (Ypk PySem.F.plainAttrs_list PySem.F.slot_list_append PySem.F.type_list_append Ydn (Ye2 hN hv hd hcd) (Yas he.un Ybz hs) hbase hfew hline hs rfl) hse) fun F σ H hx_=>by
  obtain⟨ρ,ts,out,H0,G0,G,e,w,c⟩:=hx_
  unfold appT at e
  obtain⟨l,h1,e⟩:=qa e
  obtain⟨d,h2,e⟩:=qa e
  split at e
  ·rename_i hp
   cases e
   obtain⟨a,xs,ha,hH,hr,hG⟩:=Ynd w.sr h1
   obtain⟨H2,G1,s1,bk,pl⟩:=w.thaw
   refine⟨_,ha,.inl ⟨rfl,xs,SqL.of hH⟩,_,d,H2,G0,G1,h2,s1,fun v H' G' g rv=>?_⟩
   obtain⟨G2,g2,rv2⟩:=pl H' G' d v g hp.1 rv
   have w2:=w.grow g2
   refine⟨a,xs,v,rfl,rfl,g2.h _ _ hH,?_,c σ _ G2 H0 (fun _ _=>rfl) ⟨w2.sr.mut (Ydp h1) ha ((hr.mono g2.g).append (.one rv2)),w.nd,w.g0,w.h0⟩⟩
   rw[hr.length]
   exact Qc hp.2 (Yc5 (qs _))
  ·cases e⟩
def Yor(ks:List Addr)(fr f:Ro->Option D):Xm:=fun ρ ts=>(fr ρ).bind fun
 | .adr a=>(Yek ks a).bind fun i=>(f ρ).bind fun
   | .bl k=>(ts[i]?).bind fun t=>if t.length < 1000000 then some (.nx ρ (ts.set i (t++[k])))else none
   | _=>none
 | _=>none
theorem Ywo{apos cpos:Pos}(hr:ZE X r fr)(he:ZE X e f)(hse:swapsWith (.Call (.Attribute r "append" apos) [e] [] cpos) none pos.line X.env=pure false:=by rfl)
 (hs:starEach [e] X.env=[(false,eval e X.env)]:=by rfl)
 (hfew:((backTo cpos (starEach [e] X.env)).all (fun x=>!x.1)&&(backToKw cpos (keywordEach [] X.env)).all (fun x=>x.1.isSome)&&decide ([e].length+([]:List Keyword).length+(if ([]:List Keyword).isEmpty then 0 else 1) < 30))=true:=by rfl)
 (hline:(apos.endLine==cpos.line)=true:=by rfl) (hbase:attributeBase r "append" X.env (eval r X.env)=eval r X.env:=by rfl) :
 XS X ks (.Expr (.Call (.Attribute r "append" apos) [e] [] cpos) pos) (Yor ks fr f):=
 ⟨PS.imp (Yeq (Ypk PySem.F.plainAttrs_list PySem.F.slot_list_append PySem.F.type_list_append Ydn hr.un (Yas he.un Ybz hs) hbase hfew hline hs rfl) hse) fun F σ H hx_=>by
  obtain⟨ρ,ts,out,H0,G0,G,e,w,c⟩:=hx_
  unfold Yor at e
  obtain⟨d0,h0,e⟩:=qa e
  cases d0 with
  | adr a=>
    obtain⟨i,h1,e⟩:=qa e
    obtain⟨d,h2,e⟩:=qa e
    have hi:=Ydw h1
    cases d with
    | bl kk=>
      obtain⟨t,h3,e⟩:=qa e
      split at e
      ·rename_i ht
       cases e
       refine tOf.at h0 w.sr fun v H1 G1 g1 r1 s1=>?_
       rw[Rp]at r1
       subst r1
       have w1:=w.grow g1
       refine⟨.inl ⟨rfl,_,SqL.of (w1.at hi h3)⟩,tOf.at h2 s1 fun v H2 G2 g2 r2 s2=>?_⟩
       rw[Rp]at r2
       subst r2
       have w2:=w1.grow g2
       refine⟨a,t.map V.bl,_,rfl,rfl,w2.at hi h3,?_,?_⟩
       ·rw[qe]
        exact Qc ht (Yc5 (qs _))
       ·have w3:=w2.put hi (t++[kk])
        have e2:wl (t++[kk])=HO.lst (t.map V.bl++[V.bl kk]):=by
         show HO.lst ((t++[kk]).map V.bl)=_
         rw[List.map_append]
         rfl
        have:=c σ _ G2 _ (Offs.put (Qh hi) H0 _) w3
        rw[e2]at this
        exact this
      ·cases e
    | _=>cases e
  | _=>cases e⟩
end
end
section
variable {K:W.Frag}
theorem Yq8{t:List Bool}{k:Bool}(h:t.getLast?=some k):(t.map V.bl)[(t.map V.bl).length - 1]?=some (V.bl k):=by
 rw[Qd,qe,<-List.getLast?_eq_getElem?,h]
 rfl
theorem Yq9(t:List Bool):(t.map V.bl).dropLast=(t.dropLast).map V.bl:=by rw[List.map_dropLast]
def Yos(ks:List Addr)(j:Nat)(fr:Ro->Option D):Xm:=fun ρ ts=>(fr ρ).bind fun
 | .adr a=>(Yek ks a).bind fun i=>(ts[i]?).bind fun t=>(t.getLast?).bind fun k=>some (.nx (ρ.set j (some (.sh (.bl k)))) (ts.set i t.dropLast))
 | _=>none
section
variable {X:Cx} {ks:List Addr} {e r:Expr} {f fr:Ro->Option D} {pos:Pos} {P:Program} {w:World} {mg:Str->Option Value} {base:Heap}
theorem Ywp(j:Nat){y:Str}{p1 apos cpos:Pos}(hN:X.N.Nodup)(hr:ZE X r fr)(hy:X.N[j]?=some y:=by rfl)(hx:Loc X.env.scope y:=by first | exact Or.inl rfl | exact Or.inr rfl)
 (hse:swapsWith (.Call (.Attribute r "pop" apos) [] [] cpos) (some (.Name y p1)) pos.line X.env=pure false:=by rfl) (hf:X.fn y=true\/X.env.scope.names.lookup y=some .local:=by first | exact .inl rfl | exact .inr rfl)
 (hline:(apos.endLine==cpos.line)=true:=by rfl) (hbase:attributeBase r "pop" X.env (eval r X.env)=eval r X.env:=by rfl) :
 XS X ks (.Assign [.Name y p1] (.Call (.Attribute r "pop" apos) [] [] cpos) pos) (Yos ks j fr):=
 ⟨PS.imp (Yh9 hN hy hx (Ytg PySem.F.plainAttrs_list PySem.F.slot_list_pop PySem.F.type_list_pop Yth hr.un hbase hline) hse hf) fun F σ H hx_=>by
  obtain⟨ρ,ts,out,H0,G0,G,e,w,c⟩:=hx_
  unfold Yos at e
  obtain⟨d0,h0,e⟩:=qa e
  cases d0 with
  | adr a=>
    obtain⟨i,h1,e⟩:=qa e
    obtain⟨t,h2,e⟩:=qa e
    obtain⟨k,h3,e⟩:=qa e
    cases e
    have hi:=Ydw h1
    refine tOf.at h0 w.sr fun v H1 G1 g1 r1 s1=>?_
    rw[Rp]at r1
    subst r1
    have w1:=w.grow g1
    refine⟨.inl ⟨rfl,_,SqL.of (w1.at hi h2)⟩,a,t.map V.bl,.bl k,rfl,rfl,w1.at hi h2,Yq8 h3,?_⟩
    have w2:=w1.put hi t.dropLast
    rw[Yq9]
    exact c _ _ G1 _ (Offs.put (Qh hi) H0 _) ⟨w2.sr.set_sh j (by rw[Rp]),w.nd,w.g0,w2.h0⟩
  | _=>cases e⟩
def Yot(ks:List Addr)(fr f:Ro->Option D)(g:Addr->Wm):Xm:=fun ρ ts=>(fr ρ).bind fun
 | .obj c fs [b,h,.adr l]=>if c="Watch"/\fs=wks then (Yek ks l).bind fun i=>(ts[i]?).bind fun t=>(f ρ).bind fun
  | .bl k=>(g l [some (.sh (watD b h (.adr l))),some (.sh (.bl k))] t).bind fun
    | .rt _ t'=>if t'=t++[k]then some (.nx ρ (ts.set i t'))else none
    | _=>none
  | _=>none
  else none
 | _=>none
theorem WM.after{ts:Ts}{H0 G0 H G H':Hp}{σ:L2.St}{ρ:Ro}{i:Nat}{l:Addr}{t':List Bool}(w:WM K ks ts H0 G0 σ H G ρ)(hi:ks[i]?=some l)(keep:∀x o,x≠l->H x=some o->H' x=some o)(hl:H' l=some (wl t')):WM K ks (ts.set i t') (upd H0 l (wl t')) G0 σ H' G ρ:=by
 have w2:=w.put hi t'
 have sm:Same (upd H l (wl t')) H':=fun x o ho=>by
  by_cases z:x=l
  ·subst z;rw[Yo]at ho;rw[<-ho];exact hl
  ·rw[Yh z]at ho;exact keep x o z ho
 exact w2.grow ⟨sm,Same.refl _,w2.sr.seen.trans sm,fun _ h h'=>absurd h h'⟩
theorem Yra{j' k:Nat}{ps:List Str}{apos cpos:Pos}{pl:Sem Bool}{g:Addr->Wm}(O:Okm X.prog X.w X.K X.mg X.base j' "Watch" "settle" ps (spS X.K g))(hr:Room k X.A)(ho:ZE X r fr)(he:ZE X e f)
 (hj:j'<=k:=by first | exact qs _ | omega) (hse:swapsWith (.Call (.Attribute r "settle" apos) [e] [] cpos) none pos.line X.env=pure false:=by rfl)
 (hst:starEach [e] X.env=(false,eval e X.env)::starEach [] X.env:=by rfl) (hpl:(backTo cpos (starEach [] X.env)).any (·.1)=false:=by rfl)
 (ht:eval (.Call (.Attribute r "settle" apos) [e] [] cpos) X.env=(do
  let ov <-eval r X.env
  standAt apos.atName
  let (f,first) <-holding [ov] (getMethod ov "settle" pl)
  callWith cpos f first (backTo cpos (starEach [e] X.env)) (backToKw cpos (keywordEach [] X.env))):=by rfl) :
 XS X ks (.Expr (.Call (.Attribute r "settle" apos) [e] [] cpos) pos) (Yot ks fr f g):=by
 obtain⟨C,fa,fd,F,hb,hn,cl,me⟩:=O
 refine⟨PS.imp (Yeq (Yuu (E:=E0) ho.un cl me F (hr.mono hj) hb .nil Ypn (Yas he.un Ybz hst) hst hpl ht) hse) fun F σ H hx_=>?_⟩
 obtain⟨ρ,ts,out,H0,G0,G,e,w,c⟩:=hx_
 unfold Yot at e
 obtain⟨d0,h0,e⟩:=qa e
 split at e
 ·rename_i c' fs b h l
  split at e
  ·rename_i hc
   obtain⟨rfl,rfl⟩:=hc
   obtain⟨i,h1,e⟩:=qa e
   obtain⟨t,h2,e⟩:=qa e
   obtain⟨dk,h3,e⟩:=qa e
   have hi:=Ydw h1
   cases dk with
   | bl kk=>
     obtain⟨o2,h4,e⟩:=qa e
     cases o2 with
     | rt d t'=>
       dsimp only at e
       split at e
       ·rename_i hsc
        subst hsc
        cases e
        refine tOf.at h0 w.sr fun v H1 G1 g1 r1 s1=>?_
        have w1:=w.grow g1
        rw[Rp]at r1
        obtain⟨a,C',dx,xs,rfl,n,ga,lx,q⟩:=r1
        rw[hn]at n
        cases n
        obtain⟨y1,y2,y3,rfl,q1,q2,q3⟩:=q.three
        rw[Rp]at q3
        subst q3
        refine⟨a,dx,_,rfl,s1.seen _ _ ga,rfl,tOf.at h3 s1 fun v H2 G2 g2 rv s2=>?_⟩
        rw[Rp]at rv
        subst rv
        have w2:=w1.grow g2
        refine⟨rfl,a,l,y1,y2,kk,b,h,t,d,C,dx,G2,rfl,hn,s2.seen,g2.g _ _ ga,w2.no (Qh hi),w2.at hi h2,q1.mono g2.g,q2.mono g2.g,h4,fun v H' G' keep hl' rd=>?_⟩
        exact c σ H' G2 _ (Offs.put (Qh hi) H0 _) (w2.after hi keep hl')
       ·cases e
     | _=>cases e
   | _=>cases e
  ·cases e
 ·cases e
def spB(K:W.Frag)(g:Addr->Wm):Sp:=fun vs H Q _=>vs.length=1/\∃a l vb vh b h t d t' C dx G,vs=[.ref a]/\W.nsIn K mainGlobals "Watch"=some (some (.ref C))/\Same G H/\G a=some (.ins C dx (wks.zip [vb,vh,.ref l]))/\G l=none/\H l=some (wl t)/\Rp K G b vb/\Rp K G h vh/\
 g l [some (.sh (watD b h (.adr l)))] t=some (.rt d t')/\∀v H' G',(∀x o,x≠l->H x=some o->H' x=some o)->H' l=some (wl t')->Rp K G' d v->Q v H'
def You(ks:List Addr)(j:Nat)(fr:Ro->Option D)(g:Addr->Wm):Xm:=fun ρ ts=>(fr ρ).bind fun
 | .obj c fs [b,h,.adr l]=>if c="Watch"/\fs=wks then (Yek ks l).bind fun i=>(ts[i]?).bind fun t=>(g l [some (.sh (watD b h (.adr l)))] t).bind fun
  | .rt d t'=>if Yqj d=true then some (.nx (ρ.set j (some (.sh d))) (ts.set i t'))else none
  | _=>none
  else none
 | _=>none
theorem Ywq(j:Nat){j' k:Nat}{y:Str}{ps:List Str}{p1 apos cpos:Pos}{pl:Sem Bool}{g:Addr->Wm}(O:Okm X.prog X.w X.K X.mg X.base j' "Watch" "back" ps (spB X.K g))(hr:Room k X.A)(hN:X.N.Nodup)(ho:ZE X r fr)
 (hj:j'<=k:=by first | exact qs _ | omega) (hy:X.N[j]?=some y:=by rfl) (hx:Loc X.env.scope y:=by first | exact Or.inl rfl | exact Or.inr rfl)
 (hse:swapsWith (.Call (.Attribute r "back" apos) [] [] cpos) (some (.Name y p1)) pos.line X.env=pure false:=by rfl) (hf:X.fn y=true\/X.env.scope.names.lookup y=some .local:=by first | exact .inl rfl | exact .inr rfl)
 (ht:eval (.Call (.Attribute r "back" apos) [] [] cpos) X.env=(do
  let ov <-eval r X.env
  standAt apos.atName
  let (f,first) <-holding [ov] (getMethod ov "back" pl)
  callWith cpos f first (backTo cpos (starEach [] X.env)) (backToKw cpos (keywordEach [] X.env))):=by rfl) :
 XS X ks (.Assign [.Name y p1] (.Call (.Attribute r "back" apos) [] [] cpos) pos) (You ks j fr g):=by
 obtain⟨C,fa,fd,F,hb,hn,cl,me⟩:=O
 refine⟨PS.imp (Yh9 hN hy hx (Ym0 (E:=E0) ho.un cl me F (hr.mono hj) hb .nil Ypn ht) hse hf) fun F σ H hx_=>?_⟩
 obtain⟨ρ,ts,out,H0,G0,G,e,w,c⟩:=hx_
 unfold You at e
 obtain⟨d0,h0,e⟩:=qa e
 split at e
 ·rename_i c' fs b h l
  split at e
  ·rename_i hc
   obtain⟨rfl,rfl⟩:=hc
   obtain⟨i,h1,e⟩:=qa e
   obtain⟨t,h2,e⟩:=qa e
   obtain⟨o2,h4,e⟩:=qa e
   have hi:=Ydw h1
   cases o2 with
   | rt d t'=>
     dsimp only at e
     split at e
     ·rename_i hsc
      cases e
      refine tOf.at h0 w.sr fun v H1 G1 g1 r1 s1=>?_
      have w1:=w.grow g1
      rw[Rp]at r1
      obtain⟨a,C',dx,xs,rfl,n,ga,lx,q⟩:=r1
      rw[hn]at n
      cases n
      obtain⟨y1,y2,y3,rfl,q1,q2,q3⟩:=q.three
      rw[Rp]at q3
      subst q3
      refine⟨a,dx,_,rfl,s1.seen _ _ ga,rfl,rfl,a,l,y1,y2,b,h,t,d,t',C,dx,G1,rfl,hn,s1.seen,ga,w1.no (Qh hi),w1.at hi h2,q1,q2,h4,fun v H' G' keep hl' rd=>?_⟩
      have w3:=w1.after hi keep hl'
      exact c _ H' G1 _ (Offs.put (Qh hi) H0 _) ⟨w3.sr.set_sh j (rd.scal hsc),w.nd,w.g0,w3.h0⟩
     ·cases e
   | _=>cases e
  ·cases e
 ·cases e
def Ynt(l i:Nat):Wm:=fun ρ t=>match ρ[i]? with
 | some (some (.sh (.obj c fs [_,_,.adr l'])))=>if l'=l/\c="Watch"/\fs=wks then (t.getLast?).bind fun k=>some (.rt (.bl k) t.dropLast)else none
 | _=>none
theorem Yov{l:Addr}(i:Nat){x:Str}{p1 p2 apos cpos:Pos}(k:CF X.K "Watch" "truths")(hN:X.N[i]?=some x:=by rfl)(hv:Vis X.env.scope x:=by first | exact Or.inl rfl | exact Or.inr (Or.inl rfl) | exact Or.inr (Or.inr rfl))
 (hd:(x==("__debug__":Str))=false:=by decide) (hcd:(x==("__classdict__":Str))=false:=by decide)
 (hline:(apos.endLine==cpos.line)=true:=by rfl) (hbase:attributeBase (.Attribute (.Name x p1) "truths" p2) "pop" X.env (eval (.Attribute (.Name x p1) "truths" p2) X.env)=eval (.Attribute (.Name x p1) "truths" p2) X.env:=by rfl)
 (hb1:attributeBase (.Name x p1) "truths" X.env (eval (.Name x p1) X.env)=eval (.Name x p1) X.env:=by rfl) :
 ZWS X l (.Return (some (.Call (.Attribute (.Attribute (.Name x p1) "truths" p2) "pop" apos) [] [] cpos)) pos) (Ynt l i):=
 ⟨PS.imp (Yo6 (Ytg PySem.F.plainAttrs_list PySem.F.slot_list_pop PySem.F.type_list_pop Yth (Ype (Ye2 hN hv hd hcd) hb1) hbase hline)) fun F σ H hx_=>by
  obtain⟨ρ,t,out,H0,G0,G,e,w,c⟩:=hx_
  unfold Ynt at e
  split at e
  ·rename_i c' fs b h l' hi
   split at e
   ·rename_i hc
    obtain⟨rfl,rfl,rfl⟩:=hc
    obtain⟨kk,h3,e⟩:=qa e
    cases e
    obtain⟨v,q1,q2⟩:=w.sr.sh i _ hi
    rw[Rp]at q2
    obtain⟨a,C,dx,xs,rfl,n,g,lx,q⟩:=q2
    obtain⟨y1,y2,y3,rfl,r1,r2,r3⟩:=q.three
    rw[Rp]at r3
    subst r3
    refine⟨_,q1,a,C,dx,_,.ref l',rfl,w.sr.seen _ _ g,(k C n).1,(k C n).2,rfl,.inl ⟨rfl,_,SqL.of w.at⟩,l',t.map V.bl,.bl kk,rfl,rfl,w.at,Yq8 h3,?_⟩
    have w2:=w.put (wl t.dropLast)
    rw[Yq9]
    exact c _ _ G _ (Off.put l' H0 _) w2.h0 w2.sr.gr (by rw[Rp])
   ·cases e
  ·cases e⟩
theorem Ywr{st:Stmt}{f:Addr}{fd:FuncData}{N:List Str}{k:Nat}{x q:Str}{ps:List Str}{g:Addr->Wm}(F:Fun K x q st f fd)(S:FnScope N ps (defScope st))(hn:N.length=1)(hp:ps.length=1)
 (hb:∀(l:Addr) (cdv:Value) (A:Around) (outer:List Env) (s:Shared) (H:Hp) (E:XK),Room k (A.deeper (envOfC q (defScope st) s.heap.objs.size f cdv))->WB wl (cxOf CX0 P w K mg base N q (defScope st) f cdv A outer s H E).nox l (defBody st) (g l)) :
 FnOk P w K mg base CX0 (k+1) f fd ps (spB K g):=by
 refine F.ok S (fun vs H Q E h=>by rw[h.1,hp]) fun cdv A outer s H vs Q E hr h=>?_
 obtain⟨hl,a,l,vb,vh,b,h,t,d,t',C,dx,G,rfl,n,sm,ga,gl,hll,rb,rh,e,q⟩:=h
 refine⟨_,hb l cdv A outer s H E hr,?_⟩
 have r:RpL K G [watD b h (.adr l)] [V.ref a]:=.one (by rw[Rp];exact⟨a,C,dx,[vb,vh,.ref l],rfl,n,ga,rfl,.cons rb (.cons rh (.one (by rw[Rp])))⟩)
 have s0:SR K H G (start N [V.ref a]) H G [some (.sh (watD b h (.adr l)))]:=by
  have:=SR.start (N:=N) sm r
  rw[hn]at this
  exact this
 exact⟨_,t,.rt d t',H,G,G,e,⟨s0,gl,hll⟩,fun v H' G' H1 f1 h1 g1 r1=>q v H' G' (fun x o hx ho=>g1.h _ _ (by rw[f1 x hx];exact ho)) (g1.h _ _ h1) r1⟩
theorem okmb{c x q:Str}{st:Stmt}{k:Nat}{N ps:List Str}{g:Addr->Wm}(F:Mq K c x q st)(S:FnScope N ps (defScope st))(hb:∀{l:Addr} {f:Addr} {cdv:Value} {A:Around} {outer:List Env} {s:Shared} {H:Hp} {E:XK},Room k (A.deeper (envOfC q (defScope st) s.heap.objs.size f cdv))->ZWB (cxOf CX0 P w K mg base N q (defScope st) f cdv A outer s H E).nox l (defBody st) (g l))(hn:N.length=1:=by rfl)(hm:ps.length=1:=by rfl)
 (B:Bnm x q st ps:=by(intro _ _ _ _ _ _ us hl;obtain⟨_,rfl⟩:=len1 hl;rfl)):Okm P w K mg base (k+1) c x ps (spB K g):=by
 obtain⟨C,f,fd,a,cl,me,fu⟩:=F
 exact⟨C,f,fd,Ywr fu S hn hm fun _ _ _ _ _ _ _ hr=>(hb hr).un,fu.binds B,a,cl,me⟩
end
end
section
variable {K:W.Frag}
def Ynu(f1:Ro->Option Out)(f2 f3:Ro->Option D)(b h d2 d3:D):Prop:=(∀x:Addr,f1 [some (.sh (.adr x)),some (.sh b),some (.sh h)]=some (.nx [some (.sh (.adr x)),some (.sh b),some (.sh h)]))/\(∀x:Addr,f2 [some (.sh (.adr x)),some (.sh b),some (.sh h)]=some d2/\f3 [some (.sh (.adr x)),some (.sh b),some (.sh h)]=some d3)/\plB d2=true/\plB d3=true
theorem Rps.snoc{ks:List Addr}{ts:Ts}{H:Hp}{l:Addr}(r:Rps ks ts H)(hl:l∉ks):Rps (ks++[l]) (ts++[[]]) (upd H l (wl [])):=by
 refine⟨by simp[r.1],fun i a t h1 h2=>?_⟩
 by_cases z:i < ks.length
 ·rw[List.getElem?_append_left z]at h1
  rw[List.getElem?_append_left (by rw[<-r.1];exact z)]at h2
  have:a≠l:=fun y=>hl (by rw[<-y];exact Qh h1)
  rw[Yh this]
  exact r.2 i a t h1 h2
 ·rw[List.getElem?_append_right (by omega)]at h1
  rw[List.getElem?_append_right (by rw[<-r.1];omega)]at h2
  have hi:i - ks.length=0:=by
   cases q:i - ks.length with
   | zero=>rfl
   | succ m=>rw[q]at h1;simp at h1
  have hi2:i - ts.length=0:=by rw[<-r.1];exact hi
  rw[hi]at h1
  rw[hi2]at h2
  cases h1
  cases h2
  exact Yo
theorem WM.new{ks:List Addr}{ts:Ts}{H0 G0 H G H' G':Hp}{σ:L2.St}{ρ:Ro}{l:Addr}(w:WM K ks ts H0 G0 σ H G ρ)(g:Gr H G H' G')(hl:H l=none)(hl':H' l=some (wl []))(gl':G' l=none):l∉ks/\WM K (ks++[l]) (ts++[[]]) (upd H0 l (wl [])) G0 σ H' G' ρ:=by
 have w1:=w.grow g
 have s:=w1.sr
 have hn:l∉ks:=fun z=>by
  obtain⟨i,t,h1,h2,_⟩:=w.h0.mem z
  have:=w.at h1 h2
  rw[hl]at this
  cases this
 have hH0:H0 l=none:=w.sr.gr.h.free hl
 refine⟨hn,⟨⟨fun b u e=>?_,s.gr.g,s.gr.s,fun a h h'=>?_⟩,s.len,s.sh,fun i m e=>?_,s.ap,fun i t ks vs e=>?_,s.apd⟩,?_,fun a ha=>?_,w.h0.snoc hn⟩
 ·by_cases z:b=l
  ·subst z;rw[Yo]at e;rw[<-e];exact hl'
  ·rw[Yh z]at e;exact s.gr.h b u e
 ·have n1:a≠l:=fun z=>h' (by rw[z];exact gl')
  rw[Yh n1]
  exact s.gr.n a h h'
 ·obtain⟨a,xs,q1,q2,q3,q4,q5⟩:=s.ow i m e
  obtain⟨a2,xs2,p1,_,_,p4,_⟩:=w.sr.ow i m e
  rw[q1]at p1
  cases p1
  have n1:a≠l:=fun z=>by rw[z,hl]at p4;cases p4
  exact⟨a,xs,q1,q2,by rw[Yh n1];exact q3,q4,q5⟩
 ·obtain⟨a,kxs,vxs,q1,q2,q3,q4,q5⟩:=s.od i t ks vs e
  obtain⟨a2,kx2,vx2,p1,_,_,p4,_⟩:=w.sr.od i t ks vs e
  rw[q1]at p1
  cases p1
  obtain⟨o',p5,_⟩:=p4.some
  have n1:a≠l:=fun z=>by rw[z,hl]at p5;cases p5
  exact⟨a,kxs,vxs,q1,q2,by rw[Yh n1];exact q3,q4,q5⟩
 ·rw[List.nodup_append]
  exact⟨w.nd,by simp,fun a ha b hb=>by
   have:b=l:=by simpa using hb
   rw[this]
   exact fun z=>hn (by rw[<-z];exact ha)⟩
 ·rcases qt ha with z | z
  ·exact w.g0 a z
  ·have:a=l:=by simpa using z
   rw[this]
   exact s.gr.g.free gl'
section
variable {X:Cx} {e1 e2 e3 e4:Expr} {a1 a2 a3 a4 f2 f3:Ro->Option D} {f1:Ro->Option Out} {pos:Pos} {sts:List Stmt}
def tMk(K:W.Frag)(is:List Nat)(f1:Ro->Option Out)(f2 f3 a1 a2:Ro->Option D):TE:=fun σ H Q=>∃ρ ks ts b h d2 d3 H0 G0 G,WM K ks ts H0 G0 σ H G ρ/\a1 (frz is ρ)=some b/\a2 (frz is ρ)=some h/\Ynu f1 f2 f3 b h d2 d3/\
 ∀l v H' G',Gr H G H' G'->H0 l=none->l∉ks->WM K (ks++[l]) (ts++[[]]) (upd H0 l (wl [])) G0 σ H' G' ρ->Rp K G' (watD d2 d3 (.adr l)) v->Q v H'
theorem Yze(is:List Nat){k k':Nat}{ps:List Str}{p2 cpos:Pos}(O:OkI X.prog X.w X.K X.mg X.base k ps f1 f2 f3)(hr:Room k' X.A)(hg:Gl X "Watch")(h1:ZE X e1 a1)(h2:ZE X e2 a2)(hk:k+1<=k':=by first | exact qs _ | omega)
 (hs1:starEach [e1,e2] X.env=(false,eval e1 X.env)::starEach [e2] X.env:=by rfl) (hs2:starEach [e2] X.env=(false,eval e2 X.env)::starEach [] X.env:=by rfl) (hpl:(backTo cpos (starEach [e2] X.env)).any (·.1)=false:=by rfl) :
 PE X (.Call (.Name "Watch" p2) [e1,e2] [] cpos) (tMk X.K is f1 f2 f3 a1 a2):=by
 obtain⟨C,f,fd,hC,hm,mk,F,hb⟩:=O
 refine PE.imp (Yuv (E:=E0) mk F (hr.mono hk) hg hm hb .nil Ypn (Yas h1.un (Yas h2.un Ybz hs2) hs1) (by decide) hs1 hpl) fun σ H Q hx_=>?_
 obtain⟨ρ,ks,ts,b,h,d2,d3,H0,G0,G,w,q1,q2,⟨c1,c2,p2,p3⟩,c⟩:=hx_
 have s:=w.sr
 obtain⟨Gf,sf,ht⟩:=SR.frzT is s
 refine tOf.at q1 sf fun v1 Ha Ga ga ra sa=>tOf.at q2 sa fun v2 Hb Gb gb rb sb=>?_
 intro x dx hx0 hdx hne
 have ganb:Gr H Gf Hb Gb:=ga.trans gb
 have gbx:Gb x=none:=sb.seen.free hx0
 have smc:Same Gb (upd (upd Hb dx (.own x)) x (.ins C dx [])):=fun a o ho=>by
  have h1:a≠x:=fun z=>by rw[z,gbx]at ho;cases ho
  have h2:a≠dx:=fun z=>by rw[z,sb.seen.free hdx]at ho;cases ho
  rw[Yh h1,Yh h2]
  exact sb.seen a o ho
 refine⟨rfl,x,C,dx,v1,v2,b,h,d2,d3,Gb,rfl,hC,Yo,gbx,smc,ra.mono gb.g,rb,c1 x,(c2 x).1,(c2 x).2,fun l y1 y2 H' G' keep hx' hl0 hlx hl' gl' gx' g1 g2 g3 r1 r2=>⟨rfl,?_⟩⟩
 have hHb:Same H Hb:=ganb.h
 have hHx:H x=none:=hHb.free hx0
 have hHdx:H dx=none:=hHb.free hdx
 have hbl:Hb l=none:=by
  cases z:Hb l with
  | none=>rfl
  | some o=>
    have hld:l≠dx:=fun y=>by rw[y,hdx]at z;cases z
    rw[Yh hlx,Yh hld,z]at hl0
    cases hl0
 have hHl:H l=none:=hHb.free hbl
 have smH:Same H H':=fun a o ho=>by
  have n1:a≠x:=fun z=>by rw[z,hHx]at ho;cases ho
  have n2:a≠dx:=fun z=>by rw[z,hHdx]at ho;cases ho
  exact keep a o n1 (by rw[Yh n1,Yh n2];exact hHb a o ho)
 let G2:Hp:=fun a=>if H a=none then (if a=x then some (.ins C dx (wks.zip [y1,y2,.ref l]))else G' a)else G a
 have hGG2:Same G G2:=fun a o ho=>by
  have hH:H a≠none:=fun z=>by rw[s.seen _ _ ho]at z;cases z
  show(if H a=none then _ else G a)=some o
  rw[if_neg hH];exact ho
 have hG2H:Same G2 H':=fun a o ho=>by
  have ho:(if H a=none then (if a=x then some (.ins C dx (wks.zip [y1,y2,.ref l]))else G' a)else G a)=some o:=ho
  by_cases z:H a=none
  ·rw[if_pos z]at ho
   by_cases z2:a=x
   ·rw[if_pos z2]at ho
    rw[z2,hx']
    exact ho
   ·rw[if_neg z2]at ho
    exact g2 a o ho
  ·rw[if_neg z]at ho
   exact smH a o (s.seen a o ho)
 have gr:Gr H G H' G2:=⟨smH,hGG2,hG2H,fun a ha ha'=>by
  have ha':(if H a=none then (if a=x then some (.ins C dx (wks.zip [y1,y2,.ref l]))else G' a)else G a)≠none:=ha'
  refine Classical.byContradiction fun z=>?_
  rw[if_neg z]at ha'
  exact ha' ha⟩
 have tupG:∀b ys,G' b=some (HO.tup ys)->G2 b=some (HO.tup ys):=fun b ys hb=>by
  show(if H b=none then (if b=x then _ else G' b)else G b)=_
  by_cases z:H b=none
  ·rw[if_pos z]
   have n1:b≠x:=fun y=>by rw[y,gx']at hb;cases hb
   rw[if_neg n1];exact hb
  ·rw[if_neg z]
   refine ht b ys ?_
   have hb1:Gb b=some (HO.tup ys):=by
    cases q:Gb b with
    | none=>
      have h3:=g3 b q (by rw[hb];exact fun y=>nomatch y)
      have n1:b≠x:=fun y=>by rw[y,Yo]at h3;cases h3
      have n2:b≠dx:=fun y=>by rw[y,hHdx]at z;exact z rfl
      rw[Yh n1,Yh n2]at h3
      exact absurd (hHb.free h3) z
    | some o=>
      have:=g1 _ _ q
      rw[hb]at this
      cases this
      rfl
   cases q:Gf b with
   | none=>exact absurd (ganb.n b q (by rw[hb1];exact fun y=>nomatch y)) z
   | some o=>
     have:=ganb.g _ _ q
     rw[hb1]at this
     cases this
     rfl
 have gl2:G2 l=none:=by
  show(if H l=none then (if l=x then _ else G' l)else G l)=none
  rw[if_pos hHl,if_neg hlx];exact gl'
 have hw:Rp X.K G2 (watD d2 d3 (.adr l)) (.ref x):=by
  rw[Rp]
  refine⟨x,C,dx,[y1,y2,.ref l],rfl,hC,?_,rfl,.cons (r1.plain tupG p2) (.cons (r2.plain tupG p3) (.one (by rw[Rp])))⟩
  show(if H x=none then (if x=x then _ else G' x)else G x)=_
  rw[if_pos hHx,if_pos rfl]
 obtain⟨hn,wn⟩:=w.new gr hHl hl' gl2
 exact c l _ H' G2 gr (s.gr.h.free hHl) hn wn hw
def Ys1(j:Nat)(is js:List Nat)(f1:Ro->Option Out)(f2 f3 a1 a2 a3 a4:Ro->Option D)(g:Addr->Addr->Xm):Ro->Option Out:=fun ρ=>ifP (∃b h d2 d3 b' h' d2' d3',a1 (frz is ρ)=some b/\a2 (frz is ρ)=some h/\Ynu f1 f2 f3 b h d2 d3/\a3 (frz js ρ)=some b'/\a4 (frz js ρ)=some h'/\Ynu f1 f2 f3 b' h' d2' d3'/\∀l m,l≠m->∃t,g l m (ρ.set j (some (.ow [watD d2 d3 (.adr l),watD d2' d3' (.adr m)]))) [[],[]]=some (.rt (.bl true) t)) (some (.rt (.bl true)))
theorem Yrb(j:Nat)(is js:List Nat){k k':Nat}{ps:List Str}{y:Str}{p1 p2 p3 cpos dpos lpos:Pos}{g:Addr->Addr->Xm}(O:OkI X.prog X.w X.K X.mg X.base k ps f1 f2 f3)(hr:Room k' X.A)(hg:Gl X "Watch")(h1:ZE X e1 a1)(h2:ZE X e2 a2)(h3:ZE X e3 a3)(h4:ZE X e4 a4)(hN:X.N.Nodup)(rest:∀l m,XB X [l,m] sts (g l m))(hk:k+1<=k':=by first | exact qs _ | omega)
 (hy:X.N[j]?=some y:=by rfl) (hx:Loc X.env.scope y:=by first | exact Or.inl rfl | exact Or.inr rfl) (hse:swapsWith (.List [.Call (.Name "Watch" p2) [e1,e2] [] cpos,.Call (.Name "Watch" p3) [e3,e4] [] dpos] lpos) (some (.Name y p1)) pos.line X.env=pure false:=by rfl) (hf:X.fn y=true\/X.env.scope.names.lookup y=some .local:=by first | exact .inl rfl | exact .inr rfl)
 (hs1:starEach [e1,e2] X.env=(false,eval e1 X.env)::starEach [e2] X.env:=by rfl) (hs2:starEach [e2] X.env=(false,eval e2 X.env)::starEach [] X.env:=by rfl) (hpl:(backTo cpos (starEach [e2] X.env)).any (·.1)=false:=by rfl)
 (hs3:starEach [e3,e4] X.env=(false,eval e3 X.env)::starEach [e4] X.env:=by rfl) (hs4:starEach [e4] X.env=(false,eval e4 X.env)::starEach [] X.env:=by rfl) (hpl2:(backTo dpos (starEach [e4] X.env)).any (·.1)=false:=by rfl)
 (hs5:starEach [.Call (.Name "Watch" p2) [e1,e2] [] cpos,.Call (.Name "Watch" p3) [e3,e4] [] dpos] X.env=(false,eval (.Call (.Name "Watch" p2) [e1,e2] [] cpos) X.env)::starEach [.Call (.Name "Watch" p3) [e3,e4] [] dpos] X.env:=by rfl)
 (hs6:starEach [.Call (.Name "Watch" p3) [e3,e4] [] dpos] X.env=(false,eval (.Call (.Name "Watch" p3) [e3,e4] [] dpos) X.env)::starEach [] X.env:=by rfl) :
 ZB X (.Assign [.Name y p1] (.List [.Call (.Name "Watch" p2) [e1,e2] [] cpos,.Call (.Name "Watch" p3) [e3,e4] [] dpos] lpos) pos::sts) (Ys1 j is js f1 f2 f3 a1 a2 a3 a4 g):=by
 have hrest:PSs X sts fun F σ H=>∃l m,sOfM X.K [l,m] (g l m) F σ H:=fun pins s σ H D I h=>by
  obtain⟨l,m,h⟩:=h
  exact(rest l m).un pins s σ H D I h
 refine⟨PSs.imp (Ycl (Yh9 hN hy hx (Yid (Yas (Yze is O hr hg h1 h2 hk hs1 hs2 hpl) (Yas (Yze js O hr hg h3 h4 hk hs3 hs4 hpl2) Ybz hs6) hs5)) hse hf) hrest) fun F σ H hx_=>?_⟩
 obtain⟨ρ,out,H0,G0,G,e,s,c⟩:=hx_
 unfold Ys1 at e
 obtain⟨⟨b,h,d2,d3,b',h',d2',d3',q1,q2,i1,q3,q4,i2,c3⟩,e⟩:=Ysz e
 cases e
 have w0:WM X.K [] [] H0 G0 σ H G ρ:=⟨s,List.nodup_nil,(fun a ha=>nomatch ha),rfl,fun i a t h1=>by simp at h1⟩
 refine⟨ρ,[],[],b,h,d2,d3,H0,G0,G,w0,q1,q2,i1,fun l v H1 G1 g1 hl hln w1 r1=>?_⟩
 refine⟨ρ,[]++[l],[]++[[]],b',h',d2',d3',upd H0 l (wl []),G0,G1,w1,q3,q4,i2,fun m v' H2 G2 g2 hm hmn w2 r2=>?_⟩
 refine⟨by show 2<=sizeLine;decide,fun p hp=>?_⟩
 have hlm:l≠m:=fun z=>hmn (by rw[z];simp)
 obtain⟨t,ht⟩:=c3 l m hlm
 have gp:G2 p=none:=w2.sr.seen.free hp
 have gg:Gr H2 G2 (upd H2 p (.lst [v,v'])) G2:=Gr.hid w2.sr.seen hp _
 have s3:=w2.sr.set_ow j gg hp gp Yo (.cons (r1.mono g2.g) (.one r2))
 refine⟨l,m,_,[[],[]],.rt (.bl true) t,upd (upd H0 l (wl [])) m (wl []),G0,G2,ht,⟨s3,w2.nd,w2.g0,w2.h0⟩,fun v H4 G4 H5 f5 g5 r5=>?_⟩
 refine c v H4 G4 ⟨fun a o ho=>?_,g5.g,g5.s,fun a ha ha'=>?_⟩ r5
 ·have n1:a≠l:=fun z=>by rw[z,hl]at ho;cases ho
  have hm0:H0 m=none:=by
   rw[Yh (Ne.symm hlm)]at hm
   exact hm
  have n2:a≠m:=fun z=>by rw[z,hm0]at ho;cases ho
  exact g5.h a o (by rw[f5 a (by simp[n1,n2]),Yh n2,Yh n1];exact ho)
 ·have h6:=g5.n a ha ha'
  by_cases z:a∈[l,m]
  ·rcases qr z with z | z
   ·rw[z];exact hl
   ·have z:a=m:=by simpa using z
    rw[z]
    rw[Yh (Ne.symm hlm)]at hm
    exact hm
  ·rw[f5 a z]at h6
   have n1:a≠l:=fun y=>z (by rw[y];simp)
   have n2:a≠m:=fun y=>z (by rw[y];simp)
   rw[Yh n2,Yh n1]at h6
   exact h6
def ifQ(p:Prop)(a:Option (OutW Ts)):Option (OutW Ts):=@ite _ p (Classical.propDecidable p) a none
theorem Yrc{p:Prop}{a:Option (OutW Ts)}(h:p):ifQ p a=a:=@if_pos p (Classical.propDecidable p) h _ _ _
theorem Ys2{p:Prop}{a:Option (OutW Ts)}{o:OutW Ts}(e:ifQ p a=some o):p/\a=some o:=by
 by_cases h:p
 ·rw[Yrc h]at e
  exact⟨h,e⟩
 ·have:ifQ p a=none:=@if_neg p (Classical.propDecidable p) h _ _ _
  rw[this]at e
  cases e
def Ynv(ks:List Addr)(j:Nat)(g:Addr->Addr->Xm):Xm:=fun ρ ts=>ifQ (∀l m,l≠m->l∉ks->m∉ks->∃t,g l m (ρ.set j (some (.ow [.adr l,.adr m]))) (ts++[[],[]])=some (.rt (.bl true) t)) (some (.rt (.bl true) ts))
theorem Yrd(j:Nat){ks:List Addr}{y:Str}{p1 lp1 lp2 lpos:Pos}{g:Addr->Addr->Xm}(hN:X.N.Nodup)(rest:∀l m,l∉ks->m∉ks->XB X (ks++[l,m]) sts (g l m))
 (hy:X.N[j]?=some y:=by rfl) (hx:Loc X.env.scope y:=by first | exact Or.inl rfl | exact Or.inr rfl) (hse:swapsWith (.List [.List [] lp1,.List [] lp2] lpos) (some (.Name y p1)) pos.line X.env=pure false:=by rfl) (hf:X.fn y=true\/X.env.scope.names.lookup y=some .local:=by first | exact .inl rfl | exact .inr rfl)
 (hs5:starEach [.List [] lp1,.List [] lp2] X.env=(false,eval (.List [] lp1) X.env)::starEach [.List [] lp2] X.env:=by rfl) (hs6:starEach [.List [] lp2] X.env=(false,eval (.List [] lp2) X.env)::starEach [] X.env:=by rfl) :
 XB X ks (.Assign [.Name y p1] (.List [.List [] lp1,.List [] lp2] lpos) pos::sts) (Ynv ks j g):=by
 have hrest:PSs X sts fun F σ H=>∃l m,l∉ks/\m∉ks/\sOfM X.K (ks++[l,m]) (g l m) F σ H:=fun pins s σ H D I h=>by
  obtain⟨l,m,hl,hm,h⟩:=h
  exact(rest l m hl hm).un pins s σ H D I h
 refine⟨PSs.imp (Ycl (Yh9 hN hy hx (Yid (Yas (Yid Ybz) (Yas (Yid Ybz) Ybz hs6) hs5)) hse hf) hrest) fun F σ H hx_=>?_⟩
 obtain⟨ρ,ts,out,H0,G0,G,e,w,c⟩:=hx_
 unfold Ynv at e
 obtain⟨c3,e⟩:=Ys2 e
 cases e
 refine⟨Qb _,fun l hl=>⟨Qb _,fun m hm=>⟨by show 2<=sizeLine;decide,fun p hp=>?_⟩⟩⟩
 have hlm:l≠m:=fun z=>by rw[<-z,Yo]at hm;cases hm
 obtain⟨n1,w1⟩:=w.new (Gr.hid w.sr.seen hl _) hl Yo (w.sr.seen.free hl)
 have hm0:H m=none:=by rw[Yh (Ne.symm hlm)]at hm;exact hm
 obtain⟨n2,w2⟩:=w1.new (Gr.hid w1.sr.seen hm _) hm Yo (w1.sr.seen.free hm)
 have gg:Gr (upd (upd H l (.lst [])) m (.lst [])) G (upd (upd (upd H l (.lst [])) m (.lst [])) p (.lst [V.ref l,V.ref m])) G:=Gr.hid w2.sr.seen hp _
 have s3:=w2.sr.set_ow (l:=[.adr l,.adr m]) j gg hp (w2.sr.seen.free hp) Yo (.cons (by rw[Rp]) (.one (by rw[Rp])))
 have n3:m∉ks:=fun z=>n2 (List.mem_append_left _ z)
 obtain⟨t,ht⟩:=c3 l m hlm n1 n3
 have e2:ks++[l]++[m]=ks++[l,m]:=by rw[List.append_assoc];rfl
 have e3:ts++[[]]++[[]]=ts++[[],[]]:=by rw[List.append_assoc];rfl
 have wn:=w2.nd
 have wg:=w2.g0
 have wh:=w2.h0
 rw[e2]at wn wg wh
 rw[e3]at wh
 have hl0:H0 l=none:=w.sr.gr.h.free hl
 have hm00:H0 m=none:=w.sr.gr.h.free hm0
 refine⟨l,m,n1,n3,_,ts++[[],[]],.rt (.bl true) t,upd (upd H0 l (wl [])) m (wl []),G0,G,ht,⟨s3,wn,wg,wh⟩,fun v H4 G4 H5 f5 g5 r5=>?_⟩
 have off:∀a,a∉ks->a≠l->a≠m->H5 a=H0 a:=fun a h1 h2 h3=>by
  rw[f5 a (by simp[h1,h2,h3]),Yh h3,Yh h2]
 refine c v H4 G4 (fun a=>if a∈ks then H5 a else H0 a) (fun a ha=>if_neg ha) ⟨fun a o ho=>?_,g5.g,g5.s,fun a ha ha'=>?_⟩ r5
 ·refine g5.h a o ?_
  by_cases z:a∈ks
  ·simp only[if_pos z]at ho;exact ho
  ·simp only[if_neg z]at ho
   rw[off a z (fun y=>by rw[y,hl0]at ho;cases ho) fun y=>by rw[y,hm00]at ho;cases ho]
   exact ho
 ·have h6:=g5.n a ha ha'
  show(if a∈ks then H5 a else H0 a)=none
  by_cases z:a∈ks
  ·rw[if_pos z];exact h6
  ·rw[if_neg z]
   by_cases z1:a=l
   ·rw[z1];exact hl0
   ·by_cases z2:a=m
    ·rw[z2];exact hm00
    ·rw[off a z z1 z2]at h6
     exact h6
end
end
end M
namespace Lw
open PySem PySem.Spec PyProof.Rows L2 M
def top(i:Nat):Stmt:=PySem.Challenge.pw_duskbook_k40_taken_back.main.body.getD i (.Pass ⟨0,0,0,0⟩)
def Ynw:List Str:=[(Str.ofString "keeper"),(Str.ofString "storm")]
set_option maxHeartbeats 4000000
def Fq(K:W.Frag)(mg:Str->Option Value)(x:Str)(i:Nat):Prop:=∃a fd,Fun K x x (top i) a fd/\mg x=some (.ref a)
def Fk(K:W.Frag)(x:Str)(i:Nat):Prop:=∃a fd,W.nsIn K mainGlobals x=some (some (.ref a))/\Fun K x x (top i) a fd
theorem Fk.on{K:W.Frag}{h:Heap}{mg:Str->Option Value}{x:Str}{i:Nat}(F:Fk K x i)(X:K.In h)(G:h.Ns mainGlobals mg):Fq K mg x i:=by
 obtain⟨a,fd,n,f⟩:=F
 exact⟨a,fd,f,W.mg_of X G n⟩
theorem fk_mk{K:W.Frag}{x:Str}{i:Nat}{f:Addr}{oc:Value}{od an:Option Addr}{osl:Array (Option Value)}{kV doc pm cdv ct:Value}(a:W.nsIn K mainGlobals x=some (some (.ref f)))(l:K.lookup f=some ⟨oc,od,.func (W.fnOf x x (defArgs (top i)) (defBody (top i)) (defScope (top i)) .none kV doc pm an cdv ct),osl⟩)(c:W.codeIn K cdv x=true)(k:W.keepIn K (.ref f)=true):Fk K x i:=⟨_,_,a,Ym2 l c k⟩
theorem fns{N ps:List Str}{sc:Scope}(a:sc.kind=.function:=by rfl)(b:sc.isCoroutine=false:=by rfl)(c:sc.isGenerator=false:=by rfl)(d:N.Nodup:=by decide +kernel)(e:N.take ps.length=ps:=by rfl)(f:∀x∈ps,sc.names.lookup x=some .local\/sc.names.lookup x=some .cell:=by decide +kernel)(g:∀y∈sc.names,y.2≠.free:=by decide +kernel):FnScope N ps sc:=⟨a,b,c,d,e,f,g⟩
def Bnd(x:Str)(i:Nat)(ps:List Str):Prop:=∀(kV doc pm:Value) (an:Option Addr) (cdv ct:Value) (us:List Value),us.length=ps.length->bindArgs (W.fnOf x x (defArgs (top i)) (defBody (top i)) (defScope (top i)) .none kV doc pm an cdv ct) ⟨us,[]⟩=pure (ps.zip us)
theorem okfn{P:Program}{w:World}{K:W.Frag}{mg:Str->Option Value}{base:Heap}{x:Str}{i k n m:Nat}{N ps:List Str}{fb:Ro->Option Out}(F:Fq K mg x i)(S:FnScope N ps (defScope (top i)))(hb:∀{f:Addr} {cdv:Value} {A:Around} {outer:List Env} {s:Shared} {H:Hp} {E:XK},Room k (A.deeper (envOfC x (defScope (top i)) s.heap.objs.size f cdv))->ZB (cxOf CX0 P w K mg base N x (defScope (top i)) f cdv A outer s H E).nox (defBody (top i)) fb)(hn:N.length=n:=by rfl)(hm:ps.length=m:=by rfl)(B:Bnd x i ps:=by(intro _ _ _ _ _ _ us hl;first | (obtain⟨_,rfl⟩:=len1 hl;rfl) | (obtain⟨_,_,rfl⟩:=len2 hl;rfl) | (obtain⟨_,_,_,rfl⟩:=len3 hl;rfl) | (obtain⟨_,_,_,_,rfl⟩:=len4 hl;rfl) | (obtain⟨_,_,_,_,_,rfl⟩:=len5 hl;rfl) | (obtain⟨_,_,_,_,_,_,rfl⟩:=len6 hl;rfl) | (obtain⟨_,_,_,_,_,_,_,rfl⟩:=len7 hl;rfl))):Okf P w K mg base (k+1) m x ps (runB m n fb):=by
 obtain⟨a,fd,f,h⟩:=F
 exact Yyr f (f.binds B) h (Yfz (k:=k) f S hn hm fun _ _ _ _ _ _ hr=>hb hr)
theorem okfr{P:Program}{w:World}{K:W.Frag}{mg:Str->Option Value}{base:Heap}{x:Str}{i m L:Nat}{ps:List Str}{mr:Nat->List D->Option D}(F:Fq K mg x i)(h0:mr 0=fun _=>none)(hs:∀{k j:Nat},Okf P w K mg base k m x ps (mr j)->L<=k->Okf P w K mg base (k+1) m x ps (mr (j+1)))(hm:ps.length=m:=by rfl)(B:Bnd x i ps:=by(intro _ _ _ _ _ _ us hl;first | (obtain⟨_,rfl⟩:=len1 hl;rfl) | (obtain⟨_,_,rfl⟩:=len2 hl;rfl) | (obtain⟨_,_,_,rfl⟩:=len3 hl;rfl) | (obtain⟨_,_,_,_,rfl⟩:=len4 hl;rfl) | (obtain⟨_,_,_,_,_,rfl⟩:=len5 hl;rfl) | (obtain⟨_,_,_,_,_,_,rfl⟩:=len6 hl;rfl) | (obtain⟨_,_,_,_,_,_,_,rfl⟩:=len7 hl;rfl))):∀j,Okf P w K mg base (L+j) m x ps (mr j)
 | 0=>by
   obtain⟨a,fd,f,h⟩:=F
   rw[h0]
   exact Yso f (f.binds B) h hm
 | j+1=>hs (okfr F h0 hs hm B j) (Nat.le_add_right _ _)
theorem aL1{f0:Ro->Option D}:∀ρ l,Ye f0 aNil ρ=some l->l.length=1:=Yfa fun _ _ h=>Ysj h
theorem aL2{f0 f1:Ro->Option D}:∀ρ l,Ye f0 (Ye f1 aNil) ρ=some l->l.length=2:=Yfa aL1
theorem aL3{f0 f1 f2:Ro->Option D}:∀ρ l,Ye f0 (Ye f1 (Ye f2 aNil)) ρ=some l->l.length=3:=Yfa aL2
theorem aL4{f0 f1 f2 f3:Ro->Option D}:∀ρ l,Ye f0 (Ye f1 (Ye f2 (Ye f3 aNil))) ρ=some l->l.length=4:=Yfa aL3
structure Bl(K:W.Frag)(w:World)(mg:Str->Option Value):Prop where
 Len:mg "len"=none
 Range:mg "range"=none
 List:mg "list"=none
 Tuple:mg "tuple"=none
 Int:mg "int"=none
 Bool:mg "bool"=none
 Str:mg "str"=none
 Sorted:mg "sorted"=none
 Any:mg "any"=none
 All:mg "all"=none
 Isinstance:mg "isinstance"=none
 Enumerate:mg "enumerate"=none
 Set:mg "set"=none
 g_BEACON_COUNT:GI mg "BEACON_COUNT" 60
 g_HANDS:GT K mg "HANDS" Ynw
 f8:Fq K mg "either_holds" 8
 f9:Fq K mg "sum_holds" 9
 f10:Fq K mg "if_holds" 10
 f11:Fq K mg "rule_holds" 11
 f12:Fq K mg "broken_rules" 12
 f13:Fq K mg "holds" 13
 f14:Fq K mg "beacons_in" 14
 f15:Fq K mg "beacons_of" 15
 f16:Fq K mg "without" 16
 f17:Fq K mg "either_left" 17
 f18:Fq K mg "sum_left" 18
 f19:Fq K mg "if_left" 19
 f20:Fq K mg "rule_left" 20
 f21:Fq K mg "left_behind" 21
 f24:Fq K mg "is_hand" 24
 f25:Fq K mg "check_hands" 25
 f28:Fq K mg "_law_cell" 28
 f29:Fq K mg "_law_mixed" 29
 f30:Fq K mg "_law_kind" 30
 f31:Fq K mg "_law_rule" 31
 f32:Fq K mg "_law_bits" 32
 f33:Fq K mg "_law_same" 33
 f34:Fq K mg "_law_text" 34
 w_evening:Mq K "Watch" "evening" "Watch.evening" (inClass (top 26) 2)
 w_left:Mq K "Watch" "left" "Watch.left" (inClass (top 26) 3)
 w_turn:Mq K "Watch" "turn" "Watch.turn" (inClass (top 26) 1)
 w_winner:Mq K "Watch" "winner" "Watch.winner" (inClass (top 26) 4)
 f35:Fq K mg "_law_right" 35
 w_settle:Mq K "Watch" "settle" "Watch.settle" (inClass (top 26) 5)
 w_init:Iq K (inClass (top 26) 0)
 w_back:Mq K "Watch" "back" "Watch.back" (inClass (top 26) 6)
 cW:∀C,W.nsIn K mainGlobals "Watch"=some (some (.ref C))->mg "Watch"=some (.ref C)
 n_book:Nq K "Watch" "book"
 n_hands:Nq K "Watch" "hands"
 n_truths:Nq K "Watch" "truths"
section
variable {P:Program} {w:World} {K:W.Frag} {mg:Str->Option Value} {base:Heap}
theorem Yha:FnScope ["rule","evening"] ["rule","evening"] (defScope (top 8)):=fns
theorem cs_either_holds_0:CompSc ["rule","evening"] (defScope (top 8)) ["saying","evening"] [none,some 1] (fsc [(".0",.local),("saying",.local),("evening",.free)]):=Yaf (by decide +kernel)
def Ybe:Ro->Option D:=(mB (b2 (b2 (getC 1) (b2 (getC 0) (kD (.int 0)) ixD) ixD) (b2 (getC 0) (kD (.int 1)) ixD) (eqM false)))
def Yen:Ro->Option Out:=(sRet (cC (Ye (lF (Yb2 (b1 (getV 0) Ys) [none,some 1] (gSet 0) tY (Ybe))) aNil) anyC))
def Ybi:List D->Option D:=runB 2 2 Yen
theorem Yhb(bl:Bl K w mg):Okf P w K mg base 1 2 "either_holds" ["rule","evening"] Ybi:=by
 refine okfn bl.f8 Yha fun hr=>?_
 exact(Ym (Yr (Yy (Ygx rfl) Ylz rfl bl.Any boot_any (Yl (Yc (Yal (Ya1 cs_either_holds_0 rfl (Ya4 (Yg 0)) (fun _ _ _ _ _=>(Yac 0 cs_either_holds_0.nd)) (fun _ _ _ _ _=>Ycq) (fun _ _ _ _ _=>(Yaz hr.units (Yc (Yn (Yb 1) (Yc (Yn (Yb 0) (Yc Yi))))) (Yc (Yn (Yb 0) (Yc Yi))))) (Ybd (i:=0) rfl)))) Yq))))
theorem sc_sum_holds:FnScope ["rule","evening","lit_ones"] ["rule","evening"] (defScope (top 9)):=fns
theorem cs_sum_holds_0:CompSc ["rule","evening","lit_ones"] (defScope (top 9)) ["beacon","evening"] [none,some 1] (fsc [(".0",.local),("beacon",.local),("evening",.free)]):=Yaf (by decide +kernel)
def Ycu:Ro->Option Bool:=(b1 (b2 (getC 1) (getC 0) ixD) truD)
def Ycv:Ro->Option D:=(getV 0)
def Yhc:Ro->Option Out:=(sSeq (sOwn 2 (Yb2 (b1 (b2 (getC 0) (kD (.int 0)) ixD) Ys) [none,some 1] (gSet 0) (Ycu) (Ycv))) (sRet (mB (b2 (mB (b2 (b2 (cC (Ye (getC 2) aNil) lenC) (kD (.int 2)) modI) (kD (.int 1)) (eqM false))) (b2 (getC 0) (kD (.int 1)) ixD) (eqM false)))))
def Yc9:List D->Option D:=runB 2 3 Yhc
theorem Ykx(bl:Bl K w mg):Okf P w K mg base 1 2 "sum_holds" ["rule","evening"] Yc9:=by
 refine okfn bl.f9 sc_sum_holds fun hr=>?_
 exact(Yk (Yjb 2 sc_sum_holds.nd cs_sum_holds_0 rfl (Ya4 (Yn (Yb 0) (Yc Yi))) (fun _ _ _ _ _=>(Yac 0 cs_sum_holds_0.nd)) (fun _ _ _ _ _=>(Yfe (Yau (Yc (Yn (Yb 1) (Yb 0)))))) (fun _ _ _ _ _=>(Yg 0)) (Ybd (i:=0) rfl)) (Ym (Yr (Yaz hr.units (Yc (Yaz hr.units (Yc (Yak (Yc (Yy Yx Yaq rfl bl.Len PySem.boot_len (Yl (Yb 2) Yq))) (Yc Yi))) (Yc Yi))) (Yc (Yn (Yb 0) (Yc Yi)))))))
theorem Ymb:FnScope ["rule","evening","lit"] ["rule","evening","lit"] (defScope (top 10)):=fns
theorem cs_if_holds_0:CompSc ["rule","evening","lit"] (defScope (top 10)) ["beacon","evening","lit"] [none,some 1,some 2] (fsc [(".0",.local),("beacon",.local),("evening",.free),("lit",.free)]):=Yaf (by decide +kernel)
def Yda:Ro->Option D:=(mB (b2 (b2 (getC 1) (getC 0) ixD) (getC 2) (eqM true)))
def Yd9:Ro->Option Out:=(sSeq (sIf (b1 (cC (Ye (lF (Yb2 (b1 (b2 (getC 0) (kD (.int 0)) ixD) Ys) [none,some 1,some 2] (gSet 0) tY (Yda))) aNil) anyC) truD) (sRet (kD (.bl true))) sNil) (sRet (andV (mB (b2 (b2 (getC 0) (kD (.int 1)) ixD) (kD .non) (isN true))) (mB (b2 (b2 (getC 1) (b2 (getC 0) (kD (.int 1)) ixD) ixD) (getC 2) (eqM false))))))
def Yea:List D->Option D:=runB 3 3 Yd9
theorem Ymc(bl:Bl K w mg):Okf P w K mg base 1 3 "if_holds" ["rule","evening","lit"] Yea:=by
 refine okfn bl.f10 Ymb fun hr=>?_
 exact(Yk (Yad (Yau (Yc (Yy (Ygx rfl) Ylz rfl bl.Any boot_any (Yl (Yc (Yal (Ya1 cs_if_holds_0 rfl (Ya4 (Yn (Yb 0) (Yc Yi))) (fun _ _ _ _ _=>(Yac 0 cs_if_holds_0.nd)) (fun _ _ _ _ _=>Ycq) (fun _ _ _ _ _=>(Ytr hr.units (Yc (Yn (Yb 1) (Yb 0))) (Yb 2))) (Ybd (i:=0) rfl)))) Yq)))) (Ym (Yr Yg3)) y7) (Ym (Yr (Ydt (Ysq (Yc (Yn (Yb 0) (Yc Yi))) (Yc Yar)) (Yc7 (Yaz hr.units (Yc (Yn (Yb 1) (Yc (Yn (Yb 0) (Yc Yi))))) (Yb 2)))))))
theorem Yjh:FnScope ["kind","rule","evening"] ["kind","rule","evening"] (defScope (top 11)):=fns
@[simp] def Yhv:Ro->Option Out:=(sRet (cC (Ye (getV 1) (Ye (getV 2) (Ye (mB (b2 (getC 0) (kD (.str "ifs")) (eqM false))) aNil))) Yea))
@[simp] def Yhw:Ro->Option Out:=(sSeq (sIf (b2 (getC 0) (kD (.str "sums")) (eqM false)) (sRet (cC (Ye (getV 1) (Ye (getV 2) aNil)) Yc9)) sNil) Yhv)
def Ybo:Ro->Option Out:=(sSeq (sIf (b2 (getC 0) (kD (.str "eithers")) (eqM false)) (sRet (cC (Ye (getV 1) (Ye (getV 2) aNil)) Ybi)) sNil) Yhw)
def Ycn:List D->Option D:=runB 3 3 Ybo
theorem Yji(bl:Bl K w mg):Okf P w K mg base 2 3 "rule_holds" ["kind","rule","evening"] Ycn:=by
 refine okfn bl.f11 Yjh fun hr=>?_
 exact(Yk (Yad (Ycb hr.units (Yb 0) (Yc Yag)) (Ym (Yr (Yu (Yhb bl) hr rfl (Yd (Yg 1) (Yd (Yg 2) Yp)) aL2))) y7) (Yk (Yad (Ycb hr.units (Yb 0) (Yc Yag)) (Ym (Yr (Yu (Ykx bl) hr rfl (Yd (Yg 1) (Yd (Yg 2) Yp)) aL2))) y7) (Ym (Yr (Yu (Ymc bl) hr rfl (Yd (Yg 1) (Yd (Yg 2) (Yd (Yaz hr.units (Yb 0) (Yc Yag)) Yp))) aL3)))))
theorem Yhd:FnScope ["book","evening"] ["book","evening"] (defScope (top 12)):=fns
theorem cs_broken_rules_0:CompSc ["book","evening"] (defScope (top 12)) ["place","rule","book","evening"] [none,none,some 0,some 1] (fsc [(".0",.local),("place",.local),("rule",.local),("rule_holds",.globalImplicit),("book",.free),("evening",.free)]):=Yaf (by decide +kernel)
def Ybf:Ro->Option Bool:=(notT (b1 (cC (Ye (b2 (getC 2) (kD (.int 0)) ixD) (Ye (getV 1) (Ye (getV 3) aNil))) Ycn) truD))
def Ybg:Ro->Option D:=(getV 0)
def Yeo:Ro->Option Out:=(sRet (lF (Yb2 (b1 (b2 (getC 0) (kD (.int 1)) ixD) Yl1) [none,none,some 0,some 1] (Ydl 0 1) (Ybf) (Ybg))))
def Ybj:List D->Option D:=runB 2 2 Yeo
theorem Yhe(bl:Bl K w mg):Okf P w K mg base 3 2 "broken_rules" ["book","evening"] Ybj:=by
 refine okfn bl.f12 Yhd fun hr=>?_
 exact(Ym (Yr (Yal (Ya1 cs_broken_rules_0 rfl (Yc8 rfl bl.Enumerate (Yn (Yb 0) (Yc Yi))) (fun _ _ _ _ _=>(Ygg 0 1 rfl cs_broken_rules_0.nd)) (fun _ _ _ _ _=>(Yfe (Yc6 (Yau (Yc (Yu (Yji bl) hr rfl (Yd (Yn (Yb 2) (Yc Yi)) (Yd (Yg 1) (Yd (Yg 3) Yp))) aL3)))))) (fun _ _ _ _ _=>(Yg 0)) (Yne (i:=0) (k:=1) rfl rfl)))))
theorem Ys3:FnScope ["book","evening"] ["book","evening"] (defScope (top 13)):=fns
def Yre:Ro->Option Out:=(sRet (mB (b2 (cC (Ye (cC (Ye (getV 0) (Ye (getV 1) aNil)) Ybj) aNil) lenC) (kD (.int 0)) (eqM false))))
def Yhf:List D->Option D:=runB 2 2 Yre
theorem Ynx(bl:Bl K w mg):Okf P w K mg base 4 2 "holds" ["book","evening"] Yhf:=by
 refine okfn bl.f13 Ys3 fun hr=>?_
 exact(Ym (Yr (Yaz hr.units (Yc (Yy Yx Yaq rfl bl.Len PySem.boot_len (Yl (Yc (Yu (Yhe bl) hr rfl (Yd (Yg 0) (Yd (Yg 1) Yp)) aL2)) Yq))) (Yc Yi))))
theorem Yjj:FnScope ["kind","rule"] ["kind","rule"] (defScope (top 14)):=fns
theorem cs_beacons_in_0:CompSc ["kind","rule"] (defScope (top 14)) ["saying"] [none] (fsc [(".0",.local),("saying",.local)]):=Yaf (by decide +kernel)
def Yce:Ro->Option D:=(b2 (getC 0) (kD (.int 0)) ixD)
@[simp] def Yhx:Ro->Option Out:=(sRet (lF (b2 (lF (cF (Ye (b2 (getC 1) (kD (.int 0)) ixD) aNil) Yp7)) (lF (dLst (Ye (b2 (getC 1) (kD (.int 1)) ixD) aNil))) catD)))
@[simp] def Yhy:Ro->Option Out:=(sSeq (sIf (orT (b2 (getC 0) (kD (.str "sums")) (eqM false)) (b2 (b2 (getC 1) (kD (.int 1)) ixD) (kD .non) (isN false))) (sRet (lF (cF (Ye (b2 (getC 1) (kD (.int 0)) ixD) aNil) Yp7))) sNil) Yhx)
def Ybp:Ro->Option Out:=(sSeq (sIf (b2 (getC 0) (kD (.str "eithers")) (eqM false)) (sRet (lF (Yb2 (b1 (getV 1) Ys) [none] (gSet 0) tY (Yce)))) sNil) Yhy)
def Ybq:List D->Option D:=runB 2 2 Ybp
theorem Yfh(bl:Bl K w mg):Okf P w K mg base 1 2 "beacons_in" ["kind","rule"] Ybq:=by
 refine okfn bl.f14 Yjj fun hr=>?_
 exact(Yk (Yad (Ycb hr.units (Yb 0) (Yc Yag)) (Ym (Yr (Yal (Ya1 cs_beacons_in_0 rfl (Ya4 (Yg 1)) (fun _ _ _ _ _=>(Yac 0 cs_beacons_in_0.nd)) (fun _ _ _ _ _=>Ycq) (fun _ _ _ _ _=>(Yn (Yb 0) (Yc Yi))) (Ybd (i:=0) rfl))))) y7) (Yk (Yad (Yem (Ykq (Ycb hr.units (Yb 0) (Yc Yag)) (Yg4 (Yja (Yc (Yn (Yb 1) (Yc Yi))) (Yc Yar))))) (Ym (Yr (Yal (Yfw Ydm Yi4 rfl bl.List boot_list (Yl (Yc (Yn (Yb 1) (Yc Yi))) Yq))))) y7) (Ym (Yr (Yal (Yv5 (Yc (Yal (Yfw Ydm Yi4 rfl bl.List boot_list (Yl (Yc (Yn (Yb 1) (Yc Yi))) Yq)))) (Yc (Yal (Ycc (Yd (Yn (Yb 1) (Yc Yi)) Yp))))))))))
theorem sc_beacons_of:FnScope ["book","found","rule"] ["book"] (defScope (top 15)):=fns
def Ycf:Ro->Option Out:=(sMut 1 (cC (Ye (b2 (getC 0) (kD (.int 0)) ixD) (Ye (getV 2) aNil)) Ybq) extD)
@[simp] def Yhz:Ro->Option Out:=(sRet (lF (Yfc (getC 1))))
@[simp] def Yh0:Ro->Option Out:=(sSeq (sFor (b1 (b2 (getC 0) (kD (.int 1)) ixD) Ys) (gSet 2) Ycf) Yhz)
def Yf6:Ro->Option Out:=(sSeq (sOwn 1 (dLst aNil)) Yh0)
def Yco:List D->Option D:=runB 1 3 Yf6
theorem Yjk(bl:Bl K w mg):Okf P w K mg base 2 1 "beacons_of" ["book"] Yco:=by
 refine okfn bl.f15 sc_beacons_of fun hr=>?_
 exact(Yk (Yfx 1 sc_beacons_of.nd (Ycc Yp)) (Yk (Yfy PassesOwn.never rfl (Ya4 (Yn (Yb 0) (Yc Yi))) (Yac 2 sc_beacons_of.nd) (Ym (Yop 1 (Yu (Yfh bl) hr rfl (Yd (Yn (Yb 0) (Yc Yi)) (Yd (Yg 2) Yp)) aL2)))) (Ym (Yr (Yal (Yl7 rfl rfl bl.Sorted rfl bl.Set (Yb 1)))))))
theorem Yow:FnScope ["beacons","beacon"] ["beacons","beacon"] (defScope (top 16)):=fns
theorem cs_without_0:CompSc ["beacons","beacon"] (defScope (top 16)) ["other","beacon"] [none,some 1] (fsc [(".0",.local),("other",.local),("beacon",.free)]):=Yaf (by decide +kernel)
def Ydx:Ro->Option Bool:=(b2 (getC 0) (getC 1) (eqM true))
def Ydy:Ro->Option D:=(getV 0)
def Yky:Ro->Option Out:=(sRet (cC (Ye (lF (Yb2 (b1 (getV 0) Ys) [none,some 1] (gSet 0) (Ydx) (Ydy))) aNil) tupC))
def Ydz:List D->Option D:=runB 2 2 Yky
theorem Yik(bl:Bl K w mg):Okf P w K mg base 1 2 "without" ["beacons","beacon"] Ydz:=by
 refine okfn bl.f16 Yow fun hr=>?_
 exact(Ym (Yr (y8 y6 Ybt rfl bl.Tuple boot_tuple (Yl (Yc (Yal (Ya1 cs_without_0 rfl (Ya4 (Yg 0)) (fun _ _ _ _ _=>(Yac 0 cs_without_0.nd)) (fun _ _ _ _ _=>(Yfe (Yng hr.units (Yb 0) (Yb 1)))) (fun _ _ _ _ _=>(Yg 0)) (Ybd (i:=0) rfl)))) Yq))))
theorem Yh1:FnScope ["rule","beacon","lit"] ["rule","beacon","lit"] (defScope (top 17)):=fns
theorem cs_either_left_0:CompSc ["rule","beacon","lit"] (defScope (top 17)) ["saying","beacon"] [none,some 1] (fsc [(".0",.local),("saying",.local),("beacon",.free)]):=Yaf (by decide +kernel)
def Ybu:Ro->Option Bool:=(b2 (b2 (getC 0) (kD (.int 0)) ixD) (getC 1) (eqM true))
def Ybv:Ro->Option D:=(getV 0)
def Ydb:Ro->Option Out:=(sSeq (sIf (b2 (dTup (Ye (getV 1) (Ye (getV 2) aNil))) (getC 0) (inM false)) (sRet (kD .non)) sNil) (sRet (cC (Ye (lF (Yb2 (b1 (getV 0) Ys) [none,some 1] (gSet 0) (Ybu) (Ybv))) aNil) tupC)))
def Yb3:List D->Option D:=runB 3 3 Ydb
theorem Yh2(bl:Bl K w mg):Okf P w K mg base 1 3 "either_left" ["rule","beacon","lit"] Yb3:=by
 refine okfn bl.f17 Yh1 fun hr=>?_
 exact(Yk (Yad (Yts hr.units (Yc (Ycp (Yd (Yg 1) (Yd (Yg 2) Yp)))) (Yb 0)) (Ym (Yr Yar)) y7) (Ym (Yr (y8 y6 Ybt rfl bl.Tuple boot_tuple (Yl (Yc (Yal (Ya1 cs_either_left_0 rfl (Ya4 (Yg 0)) (fun _ _ _ _ _=>(Yac 0 cs_either_left_0.nd)) (fun _ _ _ _ _=>(Yfe (Yng hr.units (Yc (Yn (Yb 0) (Yc Yi))) (Yb 1)))) (fun _ _ _ _ _=>(Yg 0)) (Ybd (i:=0) rfl)))) Yq)))))
theorem sc_sum_left:FnScope ["rule","beacon","lit","beacons","odd"] ["rule","beacon","lit"] (defScope (top 18)):=fns
@[simp] def Ykz:Ro->Option Out:=(sRet (dTup (Ye (getV 3) (Ye (getV 4) aNil))))
@[simp] def Yk0:Ro->Option Out:=(sSeq (sIf (andT (b2 (cC (Ye (getC 3) aNil) lenC) (kD (.int 0)) (eqM false)) (notT (b1 (getC 4) truD))) (sRet (kD .non)) sNil) Ykz)
@[simp] def Yk1:Ro->Option Out:=(sSeq (sSet 4 (mB (b2 (b2 (getC 0) (kD (.int 1)) ixD) (getC 2) (eqM true)))) Yk0)
def Yf0:Ro->Option Out:=(sSeq (sSet 3 (cC (Ye (b2 (getC 0) (kD (.int 0)) ixD) (Ye (getV 1) aNil)) Ydz)) Yk1)
def Yeb:List D->Option D:=runB 3 5 Yf0
theorem Ymd(bl:Bl K w mg):Okf P w K mg base 2 3 "sum_left" ["rule","beacon","lit"] Yeb:=by
 refine okfn bl.f18 sc_sum_left fun hr=>?_
 exact(Yk (Yai 3 sc_sum_left.nd (Yu (Yik bl) hr rfl (Yd (Yn (Yb 0) (Yc Yi)) (Yd (Yg 1) Yp)) aL2)) (Yk (Yai 4 sc_sum_left.nd (Ytr hr.units (Yc (Yn (Yb 0) (Yc Yi))) (Yb 2))) (Yk (Yad (Yem (Yg5 (Ycb hr.units (Yc (Yy Yx Yaq rfl bl.Len PySem.boot_len (Yl (Yb 3) Yq))) (Yc Yi)) (Yfd (Yc6 (Yau (Yb 4)))))) (Ym (Yr Yar)) y7) (Ym (Yr (Ycp (Yd (Yg 3) (Yd (Yg 4) Yp))))))))
theorem sc_if_left:FnScope ["rule","beacon","so","head"] ["rule","beacon","so"] (defScope (top 19)):=fns
@[simp] def Yme:Ro->Option Out:=(sRet (dTup (Ye (cC (Ye (b2 (getC 0) (kD (.int 0)) ixD) (Ye (getV 1) aNil)) Ydz) (Ye (getV 3) aNil))))
@[simp] def Ymf:Ro->Option Out:=(sSeq (sSet 3 (ifV (b2 (b2 (getC 0) (kD (.int 1)) ixD) (getC 1) (eqM false)) (kD .non) (b2 (getC 0) (kD (.int 1)) ixD))) Yme)
@[simp] def Ymg:Ro->Option Out:=(sSeq (sIf (andT (notT (b1 (getC 2) truD)) (b2 (getC 1) (b2 (getC 0) (kD (.int 0)) ixD) (inM false))) (sRet (kD .non)) sNil) Ymf)
def Yd0:Ro->Option Out:=(sSeq (sIf (andT (b1 (getC 2) truD) (b2 (b2 (getC 0) (kD (.int 1)) ixD) (getC 1) (eqM false))) (sRet (kD .non)) sNil) Ymg)
def Yfi:List D->Option D:=runB 3 4 Yd0
theorem Yox(bl:Bl K w mg):Okf P w K mg base 2 3 "if_left" ["rule","beacon","so"] Yfi:=by
 refine okfn bl.f19 sc_if_left fun hr=>?_
 exact(Yk (Yad (Yem (Yg5 (Yau (Yb 2)) (Yfd (Ycb hr.units (Yc (Yn (Yb 0) (Yc Yi))) (Yb 1))))) (Ym (Yr Yar)) y7) (Yk (Yad (Yem (Yg5 (Yc6 (Yau (Yb 2))) (Yfd (Yts hr.units (Yb 1) (Yc (Yn (Yb 0) (Yc Yi))))))) (Ym (Yr Yar)) y7) (Yk (Yai 3 sc_if_left.nd (Ytt (Ycb hr.units (Yc (Yn (Yb 0) (Yc Yi))) (Yb 1)) Yar (Yn (Yb 0) (Yc Yi)))) (Ym (Yr (Ycp (Yd (Yu (Yik bl) hr rfl (Yd (Yn (Yb 0) (Yc Yi)) (Yd (Yg 1) Yp)) aL2) (Yd (Yg 3) Yp))))))))
theorem Yk2:FnScope ["kind","rule","beacon","lit"] ["kind","rule","beacon","lit"] (defScope (top 20)):=fns
@[simp] def Yjl:Ro->Option Out:=(sRet (cC (Ye (getV 1) (Ye (getV 2) (Ye (mB (b2 (getC 3) (mB (b2 (getC 0) (kD (.str "ifs")) (eqM false))) (eqM false))) aNil))) Yfi))
@[simp] def Yjm:Ro->Option Out:=(sSeq (sIf (b2 (getC 0) (kD (.str "sums")) (eqM false)) (sRet (cC (Ye (getV 1) (Ye (getV 2) (Ye (getV 3) aNil))) Yeb)) sNil) Yjl)
@[simp] def Yjn:Ro->Option Out:=(sSeq (sIf (b2 (getC 0) (kD (.str "eithers")) (eqM false)) (sRet (cC (Ye (getV 1) (Ye (getV 2) (Ye (getV 3) aNil))) Yb3)) sNil) Yjm)
def Ycg:Ro->Option Out:=(sSeq (sIf (b2 (getC 2) (cC (Ye (getV 0) (Ye (getV 1) aNil)) Ybq) (inM true)) (sRet (getV 1)) sNil) Yjn)
def Ydc:List D->Option D:=runB 4 4 Ycg
theorem Yk3(bl:Bl K w mg):Okf P w K mg base 3 4 "rule_left" ["kind","rule","beacon","lit"] Ydc:=by
 refine okfn bl.f20 Yk2 fun hr=>?_
 exact(Yk (Yad (Yl4 hr.units (Yb 2) (Yc (Yu (Yfh bl) hr rfl (Yd (Yg 0) (Yd (Yg 1) Yp)) aL2))) (Ym (Yr (Yg 1))) y7) (Yk (Yad (Ycb hr.units (Yb 0) (Yc Yag)) (Ym (Yr (Yu (Yh2 bl) hr rfl (Yd (Yg 1) (Yd (Yg 2) (Yd (Yg 3) Yp))) aL3))) y7) (Yk (Yad (Ycb hr.units (Yb 0) (Yc Yag)) (Ym (Yr (Yu (Ymd bl) hr rfl (Yd (Yg 1) (Yd (Yg 2) (Yd (Yg 3) Yp))) aL3))) y7) (Ym (Yr (Yu (Yox bl) hr rfl (Yd (Yg 1) (Yd (Yg 2) (Yd (Yaz hr.units (Yb 3) (Yc (Yaz hr.units (Yb 0) (Yc Yag)))) Yp))) aL3))))))
theorem sc_left_behind:FnScope ["book","beacon","lit","turned"] ["book","beacon","lit"] (defScope (top 21)):=fns
theorem cs_left_behind_0:CompSc ["book","beacon","lit","turned"] (defScope (top 21)) ["rule","book","beacon","lit"] [none,some 0,some 1,some 2] (fsc [(".0",.local),("rule",.local),("rule_left",.globalImplicit),("beacon",.free),("book",.free),("lit",.free)]):=Yaf (by decide +kernel)
theorem cs_left_behind_1:CompSc ["book","beacon","lit","turned"] (defScope (top 21)) ["rule"] [none] (fsc [(".0",.local),("rule",.local)]):=Yaf (by decide +kernel)
def Ybw:Ro->Option D:=(cC (Ye (b2 (getC 1) (kD (.int 0)) ixD) (Ye (getV 0) (Ye (getV 2) (Ye (getV 3) aNil)))) Ydc)
def Ya2:Ro->Option Bool:=(b2 (getC 0) (kD .non) (isN true))
def Ya3:Ro->Option D:=(getV 0)
def Yfj:Ro->Option Out:=(sSeq (sOwn 3 (Yb2 (b1 (b2 (getC 0) (kD (.int 1)) ixD) Ys) [none,some 0,some 1,some 2] (gSet 0) tY (Ybw))) (wF [3] (sRet (dTup (Ye (b2 (getC 0) (kD (.int 0)) ixD) (Ye (cC (Ye (lF (Yb2 (b1 (getV 3) Ys) [none] (gSet 0) (Ya2) (Ya3))) aNil) tupC) aNil))))))
def Ya8:List D->Option D:=runB 3 4 Yfj
theorem Yep(bl:Bl K w mg):Okf P w K mg base 4 3 "left_behind" ["book","beacon","lit"] Ya8:=by
 refine okfn bl.f21 sc_left_behind fun hr=>?_
 exact(Yk (Yjb 3 sc_left_behind.nd cs_left_behind_0 rfl (Ya4 (Yn (Yb 0) (Yc Yi))) (fun _ _ _ _ _=>(Yac 0 cs_left_behind_0.nd)) (fun _ _ _ _ _=>Ycq) (fun _ _ _ _ _=>(Yu (Yk3 bl) hr rfl (Yd (Yn (Yb 1) (Yc Yi)) (Yd (Yg 0) (Yd (Yg 2) (Yd (Yg 3) Yp)))) aL4)) (Ybd (i:=0) rfl)) (Ym (Yl5 [3] (Yr (Ycp (Yd (Yn (Yb 0) (Yc Yi)) (Yd (y8 y6 Ybt rfl bl.Tuple boot_tuple (Yl (Yc (Yal (Ya1 cs_left_behind_1 rfl (Ya4 (Yg 3)) (fun _ _ _ _ _=>(Yac 0 cs_left_behind_1.nd)) (fun _ _ _ _ _=>(Yfe (Ynh (Yb 0) (Yc Yar)))) (fun _ _ _ _ _=>(Yg 0)) (Ybd (i:=0) rfl)))) Yq)) Yp)))))))
theorem Yoy:FnScope ["thing"] ["thing"] (defScope (top 24)):=fns
def Yrf:Ro->Option Out:=(sRet (andV (mB (b1 (getC 0) (isiD "str"))) (mB (b1 (getC 0) (inG false Ynw)))))
def Yhg:List D->Option D:=runB 1 1 Yrf
theorem Yoz(bl:Bl K w mg):Okf P w K mg base 1 1 "is_hand" ["thing"] Yhg:=by
 refine okfn bl.f24 Yoy fun hr=>?_
 exact(Ym (Yr (Ydt (Ycd (Yb 0) rfl rfl bl.Isinstance bl.Str boot_str (Yi6)) (Yc7 (Ywl hr.units bl.g_HANDS rfl (Yb 0))))))
theorem Yh3:FnScope ["book","hands"] ["book","hands"] (defScope (top 25)):=fns
theorem cs_check_hands_0:CompSc ["book","hands"] (defScope (top 25)) ["thing"] [none] (fsc [(".0",.local),("thing",.local),("is_hand",.globalImplicit)]):=Yaf (by decide +kernel)
theorem cs_check_hands_1:CompSc ["book","hands"] (defScope (top 25)) ["beacon","hands"] [none,some 1] (fsc [(".0",.local),("beacon",.local),("len",.globalImplicit),("hands",.free)]):=Yaf (by decide +kernel)
def Ybx:Ro->Option D:=(cC (Ye (getV 0) aNil) Yhg)
def Yby:Ro->Option D:=(mB (b2 (getC 0) (cC (Ye (getC 1) aNil) lenC) geI))
@[simp] def Yhh:Ro->Option Out:=(sIf (b1 (cC (Ye (lF (Yb2 (b1 (cC (Ye (getV 0) aNil) Yco) Ys) [none,some 1] (gSet 0) tY (Yby))) aNil) anyC) truD) nS sNil)
@[simp] def Yhi:Ro->Option Out:=(sSeq (sIf (notT (b1 (cC (Ye (lF (Yb2 (b1 (getV 1) Ys) [none] (gSet 0) tY (Ybx))) aNil) allC) truD)) nS sNil) Yhh)
def Ydd:Ro->Option Out:=(sSeq (sIf (b2 (cC (Ye (getC 1) aNil) lenC) (kD (.int 60)) gtI) nS sNil) Yhi)
def Ya9:List D->Option D:=runB 2 2 Ydd
theorem Yh4(bl:Bl K w mg):Okf P w K mg base 3 2 "check_hands" ["book","hands"] Ya9:=by
 refine okfn bl.f25 Yh3 fun hr=>?_
 exact(Yk (Yad (Ytq (Yc (Yy Yx Yaq rfl bl.Len PySem.boot_len (Yl (Yb 1) Yq))) (Yc (Ysr bl.g_BEACON_COUNT rfl))) (Ym Yc2) y7) (Yk (Yad (Yc6 (Yau (Yc (Yy (Ygy rfl) Yl0 rfl bl.All boot_all (Yl (Yc (Yal (Ya1 cs_check_hands_0 rfl (Ya4 (Yg 1)) (fun _ _ _ _ _=>(Yac 0 cs_check_hands_0.nd)) (fun _ _ _ _ _=>Ycq) (fun _ _ _ _ _=>(Yu (Yoz bl) hr rfl (Yd (Yg 0) Yp) aL1)) (Ybd (i:=0) rfl)))) Yq))))) (Ym Yc2) y7) (Ym (Yad (Yau (Yc (Yy (Ygx rfl) Ylz rfl bl.Any boot_any (Yl (Yc (Yal (Ya1 cs_check_hands_1 rfl (Ya4 (Yu (Yjk bl) hr rfl (Yd (Yg 0) Yp) aL1)) (fun _ _ _ _ _=>(Yac 0 cs_check_hands_1.nd)) (fun _ _ _ _ _=>Ycq) (fun _ _ _ _ _=>(Yyz (Yb 0) (Yc (Yy Yx Yaq rfl bl.Len PySem.boot_len (Yl (Yb 1) Yq))))) (Ybd (i:=0) rfl)))) Yq)))) (Ym Yc2) y7))))
theorem Ymh:FnScope ["script","k"] ["script","k"] (defScope (top 28)):=fns
def Yf1:Ro->Option Out:=(sSeq (sIf (b2 (getC 1) (cC (Ye (getC 0) aNil) lenC) ltI) (sRet (b2 (getC 0) (getC 1) ixD)) sNil) (sRet (kD (.int 0))))
def Yb7:List D->Option D:=runB 2 2 Yf1
theorem Ye0(bl:Bl K w mg):Okf P w K mg base 1 2 "_law_cell" ["script","k"] Yb7:=by
 refine okfn bl.f28 Ymh fun hr=>?_
 exact(Yk (Yad (Yqp (Yb 1) (Yc (Yy Yx Yaq rfl bl.Len PySem.boot_len (Yl (Yb 0) Yq)))) (Ym (Yr (Yn (Yb 0) (Yb 1)))) y7) (Ym (Yr Yi)))
theorem Yk4:FnScope ["cell","by"] ["cell","by"] (defScope (top 29)):=fns
def Yhj:Ro->Option Out:=(sRet (b2 (b2 (b2 (getC 0) (kD (.int 2305843009213693951)) modI) (getC 1) mulI) (kD (.int 2305843009213693951)) modI))
def Ych:List D->Option D:=runB 2 2 Yhj
theorem Yf7(bl:Bl K w mg):Okf P w K mg base 1 2 "_law_mixed" ["cell","by"] Ych:=by
 refine okfn bl.f29 Yk4 fun hr=>?_
 exact(Ym (Yr (Yak (Yc (Yqo (Yc (Yak (Yb 0) (Yc Yi))) (Yb 1))) (Yc Yi))))
theorem Ymi:FnScope ["cell"] ["cell"] (defScope (top 30)):=fns
def Yc3:Ro->Option Out:=(sRet (b2 (lF (dLst (Ye (kD (.str "eithers")) (Ye (kD (.str "sums")) (Ye (kD (.str "ifs")) (Ye (kD (.str "nots")) aNil)))))) (b2 (getC 0) (kD (.int 4)) modI) ixD))
def Yec:List D->Option D:=runB 1 1 Yc3
theorem Ymj(bl:Bl K w mg):Okf P w K mg base 1 1 "_law_kind" ["cell"] Yec:=by
 refine okfn bl.f30 Ymi fun hr=>?_
 exact(Ym (Yr (Yn (Yc (Yal (Ycc (Yd Yag (Yd Yag (Yd Yag (Yd Yag Yp))))))) (Yc (Yak (Yb 0) (Yc Yi))))))
theorem sc_law_rule:FnScope ["kind","cell","many","left","size","sayings","k","body"] ["kind","cell","many"] (defScope (top 31)):=fns
def Yb4:Ro->Option Out:=(sSeq (sIf (b2 (dTup (Ye (b2 (b2 (getC 3) (kD (.int 2)) divI) (getC 2) modI) (Ye (mB (b2 (b2 (getC 3) (kD (.int 2)) modI) (kD (.int 1)) (eqM false))) aNil))) (getC 5) (inM true)) (sMut 5 (dTup (Ye (b2 (b2 (getC 3) (kD (.int 2)) divI) (getC 2) modI) (Ye (mB (b2 (b2 (getC 3) (kD (.int 2)) modI) (kD (.int 1)) (eqM false))) aNil))) appD) sNil) (sSet 3 (b2 (getC 3) (b2 (kD (.int 2)) (getC 2) mulI) divI)))
def Yb5:Ro->Option Out:=(sSeq (sIf (b2 (b2 (getC 3) (getC 2) modI) (getC 7) (inM true)) (sMut 7 (b2 (getC 3) (getC 2) modI) appD) sNil) (sSet 3 (b2 (getC 3) (getC 2) divI)))
@[simp] def Yk5:Ro->Option Out:=(sRet (dTup (Ye (cC (Ye (lF (cF (Ye (getC 7) aNil) Ykj)) aNil) tupC) (Ye (b2 (lF (dLst (Ye (kD .non) (Ye (b2 (b2 (getC 3) (kD (.int 3)) divI) (getC 2) modI) aNil)))) (cC (Ye (mB (b2 (b2 (getC 3) (kD (.int 3)) modI) (kD (.int 0)) gtI)) aNil) intC) ixD) aNil))))
@[simp] def Yd1:Ro->Option Out:=(sSeq (sIf (b2 (getC 0) (kD (.str "sums")) (eqM false)) (sRet (dTup (Ye (cC (Ye (lF (cF (Ye (getC 7) aNil) Ykj)) aNil) tupC) (Ye (mB (b2 (b2 (getC 3) (kD (.int 2)) modI) (kD (.int 1)) (eqM false))) aNil)))) sNil) Yk5)
@[simp] def Yk6:Ro->Option Out:=(sSeq (sFor (cF (Ye (getV 4) aNil) rng1) (gSet 6) Yb5) Yd1)
@[simp] def Yk7:Ro->Option Out:=(sSeq (sOwn 7 (dLst aNil)) Yk6)
@[simp] def Yk8:Ro->Option Out:=(sSeq (sIf (b2 (getC 0) (kD (.str "eithers")) (eqM false)) (sSeq (sOwn 5 (dLst aNil)) (sSeq (sFor (cF (Ye (getV 4) aNil) rng1) (gSet 6) Yb4) (sRet (cC (Ye (lF (cF (Ye (getC 5) aNil) Ykj)) aNil) tupC)))) sNil) Yk7)
@[simp] def Yk9:Ro->Option Out:=(sSeq (sSet 3 (b2 (getC 3) (kD (.int 7)) divI)) Yk8)
@[simp] def Yla:Ro->Option Out:=(sSeq (sSet 4 (b2 (getC 3) (b2 (lF (dLst (Ye (kD (.int 7)) (Ye (kD (.int 3)) aNil)))) (cC (Ye (mB (b2 (getC 0) (kD (.str "eithers")) (eqM false))) aNil) intC) ixD) modI)) Yk9)
def Yed:Ro->Option Out:=(sSeq (sSet 3 (cC (Ye (getV 1) (Ye (kD (.int 1181783497276652981)) aNil)) Ych)) Yla)
def Yee:List D->Option D:=runB 3 8 Yed
theorem Ymk(bl:Bl K w mg):Okf P w K mg base 2 3 "_law_rule" ["kind","cell","many"] Yee:=by
 refine okfn bl.f31 sc_law_rule fun hr=>?_
 exact(Yk (Yai 3 sc_law_rule.nd (Yu (Yf7 bl) hr rfl (Yd (Yg 1) (Yd Yi Yp)) aL2)) (Yk (Yai 4 sc_law_rule.nd (Yak (Yb 3) (Yc (Yn (Yc (Yal (Ycc (Yd Yi (Yd Yi Yp))))) (Yc (y8 Ye3 Yi5 rfl bl.Int boot_int (Yl (Yc (Yaz hr.units (Yb 0) (Yc Yag))) Yq))))))) (Yk (Yai 3 sc_law_rule.nd (Yca (Yb 3) (Yc Yi))) (Yk (Yad (Ycb hr.units (Yb 0) (Yc Yag)) (Yk (Yfx 5 sc_law_rule.nd (Ycc Yp)) (Yk (Yfy PassesOwn.never rfl (Yc1 rfl bl.Range (Yd (Yg 4) Yp)) (Yac 6 sc_law_rule.nd) (Yk (Yad (Yl4 hr.units (Yc (Ycp (Yd (Yak (Yc (Yca (Yb 3) (Yc Yi))) (Yb 2)) (Yd (Yaz hr.units (Yc (Yak (Yb 3) (Yc Yi))) (Yc Yi)) Yp)))) (Yb 5)) (Ym (Yd8 5 (Ycp (Yd (Yak (Yc (Yca (Yb 3) (Yc Yi))) (Yb 2)) (Yd (Yaz hr.units (Yc (Yak (Yb 3) (Yc Yi))) (Yc Yi)) Yp))))) y7) (Ym (Yai 3 sc_law_rule.nd (Yca (Yb 3) (Yc (Yqo (Yc Yi) (Yb 2)))))))) (Ym (Yr (y8 y6 Ybt rfl bl.Tuple boot_tuple (Yl (Yc (Yal (Yg6 Yds Yev rfl bl.Sorted boot_sorted (Yl (Yb 5) Yq)))) Yq)))))) y7) (Yk (Yfx 7 sc_law_rule.nd (Ycc Yp)) (Yk (Yfy PassesOwn.never rfl (Yc1 rfl bl.Range (Yd (Yg 4) Yp)) (Yac 6 sc_law_rule.nd) (Yk (Yad (Yl4 hr.units (Yc (Yak (Yb 3) (Yb 2))) (Yb 7)) (Ym (Yd8 7 (Yak (Yb 3) (Yb 2)))) y7) (Ym (Yai 3 sc_law_rule.nd (Yca (Yb 3) (Yb 2)))))) (Yk (Yad (Ycb hr.units (Yb 0) (Yc Yag)) (Ym (Yr (Ycp (Yd (y8 y6 Ybt rfl bl.Tuple boot_tuple (Yl (Yc (Yal (Yg6 Yds Yev rfl bl.Sorted boot_sorted (Yl (Yb 7) Yq)))) Yq)) (Yd (Yaz hr.units (Yc (Yak (Yb 3) (Yc Yi))) (Yc Yi)) Yp))))) y7) (Ym (Yr (Ycp (Yd (y8 y6 Ybt rfl bl.Tuple boot_tuple (Yl (Yc (Yal (Yg6 Yds Yev rfl bl.Sorted boot_sorted (Yl (Yb 7) Yq)))) Yq)) (Yd (Yn (Yc (Yal (Ycc (Yd Yar (Yd (Yak (Yc (Yca (Yb 3) (Yc Yi))) (Yb 2)) Yp))))) (Yc (y8 Ye3 Yi5 rfl bl.Int boot_int (Yl (Yc (Yyy (Yc (Yak (Yb 3) (Yc Yi))) (Yc Yi))) Yq)))) Yp))))))))))))
theorem sc_law_bits:FnScope ["cell","many","left","bits","k"] ["cell","many"] (defScope (top 32)):=fns
def Yde:Ro->Option Out:=(sSeq (sMut 3 (mB (b2 (b2 (getC 2) (kD (.int 2)) modI) (kD (.int 1)) (eqM false))) appD) (sSet 2 (b2 (getC 2) (kD (.int 2)) divI)))
@[simp] def Ylb:Ro->Option Out:=(wF [3] (sRet (getV 3)))
@[simp] def Ylc:Ro->Option Out:=(sSeq (sFor (cF (Ye (getV 1) aNil) rng1) (gSet 4) Yde) Ylb)
@[simp] def Yld:Ro->Option Out:=(sSeq (sOwn 3 (dLst aNil)) Ylc)
def Yil:Ro->Option Out:=(sSeq (sSet 2 (cC (Ye (getV 0) (Ye (kD (.int 1442695040888963407)) aNil)) Ych)) Yld)
def Yef:List D->Option D:=runB 2 5 Yil
theorem Yml(bl:Bl K w mg):Okf P w K mg base 2 2 "_law_bits" ["cell","many"] Yef:=by
 refine okfn bl.f32 sc_law_bits fun hr=>?_
 exact(Yk (Yai 2 sc_law_bits.nd (Yu (Yf7 bl) hr rfl (Yd (Yg 0) (Yd Yi Yp)) aL2)) (Yk (Yfx 3 sc_law_bits.nd (Ycc Yp)) (Yk (Yfy PassesOwn.never rfl (Yc1 rfl bl.Range (Yd (Yg 1) Yp)) (Yac 4 sc_law_bits.nd) (Yk (Yd8 3 (Yaz hr.units (Yc (Yak (Yb 2) (Yc Yi))) (Yc Yi))) (Ym (Yai 2 sc_law_bits.nd (Yca (Yb 2) (Yc Yi)))))) (Ym (Yl5 [3] (Yr (Yg 3)))))))
theorem Ymm:FnScope ["found","due"] ["found","due"] (defScope (top 33)):=fns
theorem cs_law_same_0:CompSc ["found","due"] (defScope (top 33)) ["k","found","due"] [none,some 0,some 1] (fsc [(".0",.local),("k",.local),("_law_same",.globalImplicit),("due",.free),("found",.free)]):=Yaf (by decide +kernel)
def Ydf(rec:List D->Option D):Ro->Option D:=(cC (Ye (b2 (getC 1) (getC 0) ixD) (Ye (b2 (getC 2) (getC 0) ixD) aNil)) rec)
def Yb8(rec:List D->Option D):Ro->Option Out:=(sSeq (sIf (b1 (mB (b1 (getC 1) (isiD "tuple"))) truD) (sSeq (sIf (orT (notT (b1 (mB (b1 (getC 0) (isiD "tuple"))) truD)) (b2 (cC (Ye (getC 0) aNil) lenC) (cC (Ye (getC 1) aNil) lenC) (eqM true))) (sRet (kD (.bl false))) sNil) (sRet (cC (Ye (lF (Yb2 (cF (Ye (cC (Ye (getC 1) aNil) lenC) aNil) rng1) [none,some 0,some 1] (gSet 0) tY (Ydf rec))) aNil) allC))) sNil) (sSeq (sIf (b2 (getC 1) (kD .non) (isN false)) (sRet (mB (b2 (getC 0) (kD .non) (isN false)))) sNil) (sSeq (sIf (b1 (mB (b1 (getC 1) (isiD "bool"))) truD) (sRet (andV (mB (b1 (getC 0) (isiD "bool"))) (mB (b2 (getC 0) (getC 1) (eqM false))))) sNil) (sSeq (sIf (b1 (mB (b1 (getC 1) (isiD "str"))) truD) (sRet (andV (mB (b1 (getC 0) (isiD "str"))) (mB (b2 (getC 0) (getC 1) (eqM false))))) sNil) (sRet (andV (mB (b1 (getC 0) (isiD "int"))) (andV (notV (mB (b1 (getC 0) (isiD "bool")))) (mB (b2 (getC 0) (getC 1) (eqM false))))))))))
def Yav:Nat->List D->Option D
 | 0=>fun _=>none
 | k+1=>runB 2 2 (Yb8 (Yav k))
def Yf2:List D->Option D:=Yav 12
theorem Yle(bl:Bl K w mg){k j:Nat}(rc:Okf P w K mg base k 2 "_law_same" ["found","due"] (Yav j))(hk:0<=k):Okf P w K mg base (k+1) 2 "_law_same" ["found","due"] (Yav (j+1)):=by
 refine okfn bl.f33 Ymm fun hr=>?_
 exact(Yk (Yad (Yau (Yc (Ycd (Yb 1) rfl rfl bl.Isinstance bl.Tuple boot_tuple (Yki)))) (Yk (Yad (Yem (Ykq (Yc6 (Yau (Yc (Ycd (Yb 0) rfl rfl bl.Isinstance bl.Tuple boot_tuple (Yki))))) (Yg4 (Yng hr.units (Yc (Yy Yx Yaq rfl bl.Len PySem.boot_len (Yl (Yb 0) Yq))) (Yc (Yy Yx Yaq rfl bl.Len PySem.boot_len (Yl (Yb 1) Yq))))))) (Ym (Yr Yg3)) y7) (Ym (Yr (Yy (Ygy rfl) Yl0 rfl bl.All boot_all (Yl (Yc (Yal (Ya1 cs_law_same_0 rfl (Yc1 rfl bl.Range (Yd (Yy Yx Yaq rfl bl.Len PySem.boot_len (Yl (Yb 1) Yq)) Yp)) (fun _ _ _ _ _=>(Yac 0 cs_law_same_0.nd)) (fun _ _ _ _ _=>Ycq) (fun _ _ _ _ _=>(Yu rc hr rfl (Yd (Yn (Yb 1) (Yb 0)) (Yd (Yn (Yb 2) (Yb 0)) Yp)) aL2)) (Ybd (i:=0) rfl)))) Yq))))) y7) (Yk (Yad (Yja (Yb 1) (Yc Yar)) (Ym (Yr (Yqq (Yb 0) (Yc Yar)))) y7) (Yk (Yad (Yau (Yc (Ycd (Yb 1) rfl rfl bl.Isinstance bl.Bool boot_bool (Ygf)))) (Ym (Yr (Ydt (Ycd (Yb 0) rfl rfl bl.Isinstance bl.Bool boot_bool (Ygf)) (Yc7 (Yaz hr.units (Yb 0) (Yb 1)))))) y7) (Yk (Yad (Yau (Yc (Ycd (Yb 1) rfl rfl bl.Isinstance bl.Str boot_str (Yi6)))) (Ym (Yr (Ydt (Ycd (Yb 0) rfl rfl bl.Isinstance bl.Str boot_str (Yi6)) (Yc7 (Yaz hr.units (Yb 0) (Yb 1)))))) y7) (Ym (Yr (Ydt (Ycd (Yb 0) rfl rfl bl.Isinstance bl.Int boot_int (Yvq)) (Ydt (Yv3 (Ycd (Yb 0) rfl rfl bl.Isinstance bl.Bool boot_bool (Ygf))) (Yc7 (Yaz hr.units (Yb 0) (Yb 1)))))))))))
theorem Ymn(bl:Bl K w mg):Okf P w K mg base 12 2 "_law_same" ["found","due"] Yf2:=okfr (L:=0) (mr:=Yav) bl.f33 rfl (Yle bl) (j:=12)
theorem Ymo:FnScope ["found","due"] ["found","due"] (defScope (top 34)):=fns
def Yo0:Ro->Option Out:=(sSeq (sIf (b2 (getC 1) (kD .non) (isN false)) (sRet (mB (b2 (getC 0) (kD .non) (isN false)))) sNil) (sRet (andV (mB (b1 (getC 0) (isiD "str"))) (mB (b2 (getC 0) (getC 1) (eqM false))))))
def Ybh:List D->Option D:=runB 2 2 Yo0
theorem Yhk(bl:Bl K w mg):Okf P w K mg base 1 2 "_law_text" ["found","due"] Ybh:=by
 refine okfn bl.f34 Ymo fun hr=>?_
 exact(Yk (Yad (Yja (Yb 1) (Yc Yar)) (Ym (Yr (Yqq (Yb 0) (Yc Yar)))) y7) (Ym (Yr (Ydt (Ycd (Yb 0) rfl rfl bl.Isinstance bl.Str boot_str (Yi6)) (Yc7 (Yaz hr.units (Yb 0) (Yb 1)))))))
theorem Ygc:FnScope ["self"] ["self"] (defScope (inClass (top 26) 2)):=fns
def Yd2:Ro->Option Out:=(sRet (cC (Ye (b1 (getV 0) (fldD "Watch" "truths")) aNil) tupC))
def Yz:List D->Option D:=runB 1 1 Yd2
theorem Ydk(bl:Bl K w mg):Okm P w K mg base 1 "Watch" "evening" ["self"] (spOf K 1 Yz):=by
 refine okmn bl.w_evening Ygc fun hr=>?_
 exact(Ym (Yr (y8 y6 Ybt rfl bl.Tuple boot_tuple (Yl (Yc (Ycs bl.n_truths.cf (Yg 0))) Yq))))
theorem sc_Watch_left:FnScope ["self","book","beacon","lit"] ["self"] (defScope (inClass (top 26) 3)):=fns
def Yba:Ro->Option Out:=(sSet 1 (cC (Ye (getV 1) (Ye (getV 2) (Ye (getV 3) aNil))) Ya8))
@[simp] def Yh5:Ro->Option Out:=(sRet (getV 1))
@[simp] def Yh6:Ro->Option Out:=(sSeq (sFor (b1 (b1 (getV 0) (fldD "Watch" "truths")) Yl1) (Ydl 2 3) Yba) Yh5)
def Yf8:Ro->Option Out:=(sSeq (sSet 1 (b1 (getV 0) (fldD "Watch" "book"))) Yh6)
def Ybr:List D->Option D:=runB 1 4 Yf8
theorem Yjo(bl:Bl K w mg):Okm P w K mg base 5 "Watch" "left" ["self"] (spOf K 1 Ybr):=by
 refine okmn bl.w_left sc_Watch_left fun hr=>?_
 exact(Yk (Yai 1 sc_Watch_left.nd (Ycs bl.n_book.cf (Yg 0))) (Yk (Yfy PassesOwn.never rfl (Yc8 rfl bl.Enumerate (Ycs bl.n_truths.cf (Yg 0))) (Ygg 2 3 rfl sc_Watch_left.nd) (Ym (Yai 1 sc_Watch_left.nd (Yu (Yep bl) hr rfl (Yd (Yg 1) (Yd (Yg 2) (Yd (Yg 3) Yp))) aL3)))) (Ym (Yr (Yg 1)))))
theorem Yjp:FnScope ["self"] ["self"] (defScope (inClass (top 26) 1)):=fns
def Yd3:Ro->Option Out:=(sSeq (sIf (b2 (cC (Ye (b1 (getV 0) (fldD "Watch" "truths")) aNil) lenC) (cC (Ye (b1 (getV 0) (fldD "Watch" "hands")) aNil) lenC) (eqM false)) (sRet (kD .non)) sNil) (sRet (b2 (b1 (getV 0) (fldD "Watch" "hands")) (cC (Ye (b1 (getV 0) (fldD "Watch" "truths")) aNil) lenC) ixD)))
def Yaa:List D->Option D:=runB 1 1 Yd3
theorem Ydg(bl:Bl K w mg):Okm P w K mg base 1 "Watch" "turn" ["self"] (spOf K 1 Yaa):=by
 refine okmn bl.w_turn Yjp fun hr=>?_
 exact(Yk (Yad (Ycb hr.units (Yc (Yy Yx Yaq rfl bl.Len PySem.boot_len (Yl (Yc (Ycs bl.n_truths.cf (Yg 0))) Yq))) (Yc (Yy Yx Yaq rfl bl.Len PySem.boot_len (Yl (Yc (Ycs bl.n_hands.cf (Yg 0))) Yq)))) (Ym (Yr Yar)) y7) (Ym (Yr (Yn (Yc (Ycs bl.n_hands.cf (Yg 0))) (Yc (Yy Yx Yaq rfl bl.Len PySem.boot_len (Yl (Yc (Ycs bl.n_truths.cf (Yg 0))) Yq)))))))
theorem Yhl:FnScope ["self"] ["self"] (defScope (inClass (top 26) 4)):=fns
def Ybk:Ro->Option Out:=(sSeq (sIf (b2 (b1 (getV 0) (mthD "Watch" "turn" Yaa)) (kD .non) (isN true)) (sRet (kD .non)) sNil) (sRet (ifV (b1 (cC (Ye (b1 (getV 0) (fldD "Watch" "book")) (Ye (b1 (getV 0) (fldD "Watch" "truths")) aNil)) Yhf) truD) (kD (.str "keeper")) (kD (.str "storm")))))
def Yae:List D->Option D:=runB 1 1 Ybk
theorem Yd4(bl:Bl K w mg):Okm P w K mg base 5 "Watch" "winner" ["self"] (spOf K 1 Yae):=by
 refine okmn bl.w_winner Yhl fun hr=>?_
 exact(Yk (Yad (Ynh (Yc (Ybn (Ydg bl) hr (Yg 0))) (Yc Yar)) (Ym (Yr Yar)) y7) (Ym (Yr (Ytt (Yau (Yc (Yu (Ynx bl) hr rfl (Yd (Ycs bl.n_book.cf (Yg 0)) (Yd (Ycs bl.n_truths.cf (Yg 0)) Yp)) aL2))) Yag Yag))))
theorem sc_law_right:FnScope ["watch","book","hands","evening","turn","won","rest","beacon","lit"] ["watch","book","hands","evening"] (defScope (top 35)):=fns
def Ya0:Ro->Option Out:=(sSet 6 (cC (Ye (getV 6) (Ye (getV 7) (Ye (getV 8) aNil))) Ya8))
@[simp] def Yjq:Ro->Option Out:=(sRet (andV (mB (b2 (b1 (getV 0) (mthD "Watch" "left" Ybr)) (getC 6) (eqM false))) (cC (Ye (b1 (getV 0) (mthD "Watch" "winner" Yae)) (Ye (getV 5) aNil)) Ybh)))
@[simp] def Yjr:Ro->Option Out:=(sSeq (sIf (orT (notT (b1 (cC (Ye (b1 (getV 0) (mthD "Watch" "evening" Yz)) (Ye (cC (Ye (getC 3) aNil) tupC) aNil)) Yf2) truD)) (notT (b1 (cC (Ye (b1 (getV 0) (mthD "Watch" "turn" Yaa)) (Ye (getV 4) aNil)) Ybh) truD))) (sRet (kD (.bl false))) sNil) Yjq)
@[simp] def Yjs:Ro->Option Out:=(sSeq (sFor (b1 (getV 3) Yl1) (Ydl 7 8) Ya0) Yjr)
@[simp] def Yb6:Ro->Option Out:=(sSeq (sSet 6 (getV 1)) Yjs)
@[simp] def Ydh:Ro->Option Out:=(sSeq (sIf (b2 (cC (Ye (getC 3) aNil) lenC) (cC (Ye (getC 2) aNil) lenC) ltI) (sSet 4 (b2 (getC 2) (cC (Ye (getC 3) aNil) lenC) ixD)) (sSet 5 (b2 (lF (dLst (Ye (kD (.str "storm")) (Ye (kD (.str "keeper")) aNil)))) (cC (Ye (cC (Ye (getV 1) (Ye (getV 3) aNil)) Yhf) aNil) intC) ixD))) Yb6)
@[simp] def Ydi:Ro->Option Out:=(sSeq (sSet 5 (kD .non)) Ydh)
def Ye1:Ro->Option Out:=(sSeq (sSet 4 (kD .non)) Ydi)
def Ya5:List D->Option D:=runB 4 9 Ye1
theorem Ylf(bl:Bl K w mg):Okf P w K mg base 13 4 "_law_right" ["watch","book","hands","evening"] Ya5:=by
 refine okfn bl.f35 sc_law_right fun hr=>?_
 exact(Yk (Yai 4 sc_law_right.nd Yar) (Yk (Yai 5 sc_law_right.nd Yar) (Yk (Yad (Yqp (Yc (Yy Yx Yaq rfl bl.Len PySem.boot_len (Yl (Yb 3) Yq))) (Yc (Yy Yx Yaq rfl bl.Len PySem.boot_len (Yl (Yb 2) Yq)))) (Ym (Yai 4 sc_law_right.nd (Yn (Yb 2) (Yc (Yy Yx Yaq rfl bl.Len PySem.boot_len (Yl (Yb 3) Yq)))))) (Ym (Yai 5 sc_law_right.nd (Yn (Yc (Yal (Ycc (Yd Yag (Yd Yag Yp))))) (Yc (y8 Ye3 Yi5 rfl bl.Int boot_int (Yl (Yc (Yu (Ynx bl) hr rfl (Yd (Yg 1) (Yd (Yg 3) Yp)) aL2)) Yq))))))) (Yk (Yai 6 sc_law_right.nd (Yg 1)) (Yk (Yfy PassesOwn.never rfl (Yc8 rfl bl.Enumerate (Yg 3)) (Ygg 7 8 rfl sc_law_right.nd) (Ym (Yai 6 sc_law_right.nd (Yu (Yep bl) hr rfl (Yd (Yg 6) (Yd (Yg 7) (Yd (Yg 8) Yp))) aL3)))) (Yk (Yad (Yem (Ykq (Yc6 (Yau (Yc (Yu (Ymn bl) hr rfl (Yd (Ybn (Ydk bl) hr (Yg 0)) (Yd (y8 y6 Ybt rfl bl.Tuple boot_tuple (Yl (Yb 3) Yq)) Yp)) aL2)))) (Yg4 (Yc6 (Yau (Yc (Yu (Yhk bl) hr rfl (Yd (Ybn (Ydg bl) hr (Yg 0)) (Yd (Yg 4) Yp)) aL2))))))) (Ym (Yr Yg3)) y7) (Ym (Yr (Ydt (Yaz hr.units (Yc (Ybn (Yjo bl) hr (Yg 0))) (Yb 6)) (Yc7 (Yu (Yhk bl) hr rfl (Yd (Ybn (Yd4 bl) hr (Yg 0)) (Yd (Yg 5) Yp)) aL2)))))))))))
theorem Yhm:FnScope ["self","lit"] ["self","lit"] (defScope (inClass (top 26) 5)):=fns
def Yaj(l:Addr):Wm:=(seqW (ifW (Yq5 l 0 (b2 (b1 (getV 0) (mthD "Watch" "turn" Yaa)) (kD .non) (isN false))) (Ycr nS) nilW) (seqW (Ycr (sIf (andT (b2 (getC 1) (kD (.bl true)) (isB true)) (b2 (getC 1) (kD (.bl false)) (isB true))) nS sNil)) (seqW (appW l 0 (getV 1)) (retL l 0 (b1 (getV 0) (mthD "Watch" "winner" Yae))))))
theorem Yhn(bl:Bl K w mg):Okm P w K mg base 6 "Watch" "settle" ["self","lit"] (spS K Yaj):=by
 refine okms bl.w_settle Yhm fun hr=>?_
 exact(Ygi (Yt1 (Yns 0 (Yja (Yc (Ybn (Ydg bl) hr (Yg 0))) (Yc Yar))) (Yjf (Yje Yc2)) Yq6) (Ygi (Yje (Yad (Yem (Yg5 (Ynj (Yb 1) (Yc Yg3)) (Yfd (Ynj (Yb 1) (Yc Yg3))))) (Ym Yc2) y7)) (Ygi (Ywk 0 bl.n_truths.cf (Yg 1)) (Yjf (Ys0 0 (Ybn (Yd4 bl) hr (Yg 0)))))))
theorem Yho:FnScope ["self","book","hands"] ["self","book","hands"] (defScope (inClass (top 26) 0)):=fns
def Ybb:Ro->Option Out:=(sExp (cC (Ye (getV 1) (Ye (getV 2) aNil)) Ya9))
def Yci:Ro->Option D:=(getV 1)
def Ycj:Ro->Option D:=(cC (Ye (getC 2) aNil) tupC)
theorem Yhp(bl:Bl K w mg):OkI P w K mg base 4 ["self","book","hands"] Ybb Yci Ycj:=by
 refine okin bl.w_init bl.cW Yho bl.n_book.cf bl.n_hands.cf bl.n_truths.cf fun hr=>?_
 exact(Ycl (zuS (Yst (Yu (Yh4 bl) hr rfl (Yd (Yg 1) (Yd (Yg 2) Yp)) aL2))) (Ycl (Ypf (pv 0) (zuE (Yg 1)) rfl) (Ycl (Ypf (pv 0) (zuE (y8 y6 Ybt rfl bl.Tuple boot_tuple (Yl (Yb 2) Yq))) rfl) (Yiq (Ypf (pv 0) (Yid Ybz) rfl)))))
theorem Yjt:FnScope ["self"] ["self"] (defScope (inClass (top 26) 6)):=fns
def Yaw(l:Addr):Wm:=(seqW (ifW (Yq5 l 0 (b2 (cC (Ye (b1 (getV 0) (fldD "Watch" "truths")) aNil) lenC) (kD (.int 0)) (eqM false))) (Ycr nS) nilW) (Ynt l 0))
theorem Yju(bl:Bl K w mg):Okm P w K mg base 1 "Watch" "back" ["self"] (spB K Yaw):=by
 refine okmb bl.w_back Yjt fun hr=>?_
 exact(Ygi (Yt1 (Yns 0 (Ycb hr.units (Yc (Yy Yx Yaq rfl bl.Len PySem.boot_len (Yl (Yc (Ycs bl.n_truths.cf (Yg 0))) Yq))) (Yc Yi))) (Yjf (Yje Yc2)) Yq6) (Yjf (Yov 0 bl.n_truths.cf)))
theorem sc_law:FnScope ["script","kind","many","book","hands","handed","watches","evenings","held","cell","at","due","found","k"] ["script"] (defScope (top 36)):=fns
theorem cs_law_0:CompSc ["script","kind","many","book","hands","handed","watches","evenings","held","cell","at","due","found","k"] (defScope (top 36)) ["cell","kind","many"] [none,some 1,some 2] (fsc [(".0",.local),("cell",.local),("_law_rule",.globalImplicit),("kind",.free),("many",.free)]):=Yaf (by decide +kernel)
theorem cs_law_1:CompSc ["script","kind","many","book","hands","handed","watches","evenings","held","cell","at","due","found","k"] (defScope (top 36)) ["bit"] [none] (fsc [(".0",.local),("bit",.local),("int",.globalImplicit)]):=Yaf (by decide +kernel)
theorem cs_law_2:CompSc ["script","kind","many","book","hands","handed","watches","evenings","held","cell","at","due","found","k"] (defScope (top 36)) ["found","due"] [none,none] (fsc [(".0",.local),("found",.local),("due",.local)]):=Yaf (by decide +kernel)
def Yjv:Ro->Option D:=(cC (Ye (getV 1) (Ye (getV 0) (Ye (getV 2) aNil))) Yee)
def Yny:Ro->Option D:=(b2 (lF (dLst (Ye (kD (.str "storm")) (Ye (kD (.str "keeper")) aNil)))) (cC (Ye (getC 0) aNil) intC) ixD)
def Yeg(l m p q:Addr):Xm:=(ifW (Yjg ([l,m]++[p,q]) (Yvu [4] (notT (b1 (cC (Ye (b2 (getC 6) (getC 13) ixD) (Ye (getV 3) (Ye (getV 4) (Ye (b2 (getC 7) (getC 13) ixD) aNil)))) Ya5) truD)))) (Ycr (sRet (kD (.bl false)))) nilW)
def Yfk(l m p q:Addr):Xm:=(seqW (Ycr (sSet 10 (b2 (getC 9) (kD (.int 2)) modI))) (seqW (appT ([l,m]++[p,q]) 8 (dTup (Ye (b1 (b2 (getC 6) (getC 10) ixD) (mthD "Watch" "evening" Yz)) (Ye (cC (Ye (b2 (getC 7) (getC 10) ixD) aNil) tupC) aNil)))) (seqW (ifW (Yjg ([l,m]++[p,q]) (andT (b2 (cC (Ye (b2 (getC 7) (getC 10) ixD) aNil) lenC) (kD (.int 0)) gtI) (orT (b2 (b2 (b2 (getC 9) (kD (.int 2)) divI) (kD (.int 3)) modI) (kD (.int 0)) (eqM false)) (b2 (cC (Ye (b2 (getC 7) (getC 10) ixD) aNil) lenC) (getC 2) (eqM false))))) (seqW (Yos ([l,m]++[p,q]) 11 (b2 (getC 7) (getC 10) ixD)) (seqW (You ([l,m]++[p,q]) 12 (b2 (getC 6) (getC 10) ixD) Yaw) (Ycr (sIf (orT (notT (b1 (mB (b1 (getC 12) (isiD "bool"))) truD)) (b2 (getC 12) (getC 11) (eqM true))) (sRet (kD (.bl false))) sNil)))) (ifW (Yjg ([l,m]++[p,q]) (b2 (cC (Ye (b2 (getC 7) (getC 10) ixD) aNil) lenC) (getC 2) ltI)) (seqW (Yot ([l,m]++[p,q]) (b2 (getC 6) (getC 10) ixD) (mB (b2 (b2 (b2 (getC 9) (kD (.int 6)) divI) (kD (.int 2)) modI) (kD (.int 1)) (eqM false))) Yaj) (Yor ([l,m]++[p,q]) (b2 (getC 7) (getC 10) ixD) (mB (b2 (b2 (b2 (getC 9) (kD (.int 6)) divI) (kD (.int 2)) modI) (kD (.int 1)) (eqM false))))) nilW)) (Ykw (cF (Ye (kD (.int 2)) aNil) rng1) (gSet 13) (Yeg l m p q)))))
def Yfl:Ro->Option D:=(mB (b2 (getC 0) (getC 1) (eqM false)))
def Yrg(l m p q:Addr):Xm:=(Ycr (wF [8] (sRet (cC (Ye (lF (Yb2 (b1 (getV 8) Ys) [none,none] (Ydl 0 1) tY (Yfl))) aNil) allC))))
def Yrh(l m p q:Addr):Xm:=(seqW (Ykw (b1 (lF (slF (getC 0) (some (kD (.int 19))) (some (kD (.int 63))))) Ys) (gSet 9) (Yfk l m p q)) (Yrg l m p q))
def Ymp(l m p q:Addr):Xm:=(seqW (Ycr (sOwn 8 (dLst aNil))) (Yrh l m p q))
def Yri(l m:Addr):Xm:=(Ynv [l,m] 7 (Ymp l m))
def Yrj(l m:Addr):Xm:=(seqW (Ycr (Yoi 5 (kD (.int 0)) (kD (.str "nobody")) setD)) (Yri l m))
def Ymq(l m:Addr):Xm:=(seqW (Ycr (sMut 5 (kD (.str "nobody")) appD)) (Yrj l m))
def Ymr:Ro->Option Out:=(Ys1 6 [5] [] Ybb Yci Ycj (getV 3) (getV 5) (getV 3) (cC (Ye (getC 4) aNil) tupC) Ymq)
def Yrk:Ro->Option Out:=(sSeq (sOwn 5 (cF (Ye (getC 4) aNil) Yp7)) Ymr)
def Yrl:Ro->Option Out:=(sSeq (sOwn 4 (Yb2 (b1 (cC (Ye (cC (Ye (getV 0) (Ye (kD (.int 1)) aNil)) Yb7) (Ye (getV 2) aNil)) Yef) Ys) [none] (gSet 0) tY (Yny))) Yrk)
def Yrm:Ro->Option Out:=(sSeq (sSet 3 (dTup (Ye (getV 1) (Ye (cC (Ye (lF (Yb2 (b1 (lF (slF (getC 0) (some (kD (.int 3))) (some (kD (.int 19))))) Ys) [none,some 1,some 2] (gSet 0) tY (Yjv))) aNil) tupC) aNil)))) Yrl)
def Yrn:Ro->Option Out:=(sSeq (sSet 2 (b2 (kD (.int 1)) (b2 (b2 (cC (Ye (getV 0) (Ye (kD (.int 0)) aNil)) Yb7) (kD (.int 4)) divI) (kD (.int 12)) modI) addI)) Yrm)
def Yzf:Ro->Option Out:=(sSeq (sSet 1 (cC (Ye (cC (Ye (getV 0) (Ye (kD (.int 0)) aNil)) Yb7) aNil) Yec)) Yrn)
def Yms:List D->Option D:=runB 1 14 Yzf
theorem Yzg(bl:Bl K w mg){a:Addr}{fd:FuncData}(F:Fun K "law" "law" (top 36) a fd):FnOk P w K mg base CX0 14 a fd ["script"] (spOf K 1 Yms):=by
 refine Yfz (k:=13) F sc_law rfl rfl fun cdv A outer s H E hr=>?_
 exact(Yk (Yai 1 sc_law.nd (Yu (Ymj bl) hr rfl (Yd (Yu (Ye0 bl) hr rfl (Yd (Yg 0) (Yd Yi Yp)) aL2) Yp) aL1)) (Yk (Yai 2 sc_law.nd (Yv4 (Yc Yi) (Yc (Yak (Yc (Yca (Yc (Yu (Ye0 bl) hr rfl (Yd (Yg 0) (Yd Yi Yp)) aL2)) (Yc Yi))) (Yc Yi))))) (Yk (Yai 3 sc_law.nd (Ycp (Yd (Yg 1) (Yd (y8 y6 Ybt rfl bl.Tuple boot_tuple (Yl (Yc (Yal (Ya1 cs_law_0 rfl (Ya4 (Yal (Ykr (fl:=(some (kD (.int 3)))) (fh:=(some (kD (.int 19)))) (Yb 0) (Yni (Yc Yi)) (Yni (Yc Yi))))) (fun _ _ _ _ _=>(Yac 0 cs_law_0.nd)) (fun _ _ _ _ _=>Ycq) (fun _ _ _ _ _=>(Yu (Ymk bl) hr rfl (Yd (Yg 1) (Yd (Yg 0) (Yd (Yg 2) Yp))) aL3)) (Ybd (i:=0) rfl)))) Yq)) Yp)))) (Yk (Yjb 4 sc_law.nd cs_law_1 rfl (Ya4 (Yu (Yml bl) hr rfl (Yd (Yu (Ye0 bl) hr rfl (Yd (Yg 0) (Yd Yi Yp)) aL2) (Yd (Yg 2) Yp)) aL2)) (fun _ _ _ _ _=>(Yac 0 cs_law_1.nd)) (fun _ _ _ _ _=>Ycq) (fun _ _ _ _ _=>(Yn (Yc (Yal (Ycc (Yd Yag (Yd Yag Yp))))) (Yc (y8 Ye3 Yi5 rfl bl.Int boot_int (Yl (Yb 0) Yq))))) (Ybd (i:=0) rfl)) (Yk (Yfx 5 sc_law.nd (Yfw Ydm Yi4 rfl bl.List boot_list (Yl (Yb 4) Yq))) (Yrb 6 [5] [] (Yhp bl) hr rfl (Yg 3) (Yg 5) (Yg 3) (y8 y6 Ybt rfl bl.Tuple boot_tuple (Yl (Yb 4) Yq)) sc_law.nd (fun l m=>(Yct (Yey (Yd8 5 Yag)) (Yct (Yey (Yl6 5 (Yc Yi) Yag)) (Yrd 7 sc_law.nd (fun p q _ _=>(Yct (Yey (Yfx 8 sc_law.nd (Ycc Yp))) (Yct (Yt3 PassesOwn.never rfl (Ya4 (Yal (Ykr (fl:=(some (kD (.int 19)))) (fh:=(some (kD (.int 63)))) (Yb 0) (Yni (Yc Yi)) (Yni (Yc Yi))))) (Yac 9 sc_law.nd) (Yct (Yey (Yai 10 sc_law.nd (Yak (Yb 9) (Yc Yi)))) (Yct (Ywn 8 (Ycp (Yd (Ybn (Ydk bl) hr (Yn (Yb 6) (Yb 10))) (Yd (y8 y6 Ybt rfl bl.Tuple boot_tuple (Yl (Yc (Yn (Yb 7) (Yb 10))) Yq)) Yp)))) (Yct (Ywm (Yma (Yem (Yg5 (Ytq (Yc (Yy Yx Yaq rfl bl.Len PySem.boot_len (Yl (Yc (Yn (Yb 7) (Yb 10))) Yq))) (Yc Yi)) (Yfd (Yem (Ykq (Ycb hr.units (Yc (Yak (Yc (Yca (Yb 9) (Yc Yi))) (Yc Yi))) (Yc Yi)) (Yg4 (Ycb hr.units (Yc (Yy Yx Yaq rfl bl.Len PySem.boot_len (Yl (Yc (Yn (Yb 7) (Yb 10))) Yq))) (Yb 2))))))))) (Yct (Ywp 11 sc_law.nd (Yn (Yb 7) (Yb 10))) (Yct (Ywq 12 (Yju bl) hr sc_law.nd (Yn (Yb 6) (Yb 10))) (Yg9 (Yey (Yad (Yem (Ykq (Yc6 (Yau (Yc (Ycd (Yb 12) rfl rfl bl.Isinstance bl.Bool boot_bool (Ygf))))) (Yg4 (Yng hr.units (Yb 12) (Yb 11))))) (Ym (Yr Yg3)) y7))))) (Yg9 (Ywm (Yma (Yqp (Yc (Yy Yx Yaq rfl bl.Len PySem.boot_len (Yl (Yc (Yn (Yb 7) (Yb 10))) Yq))) (Yb 2))) (Yct (Yra (Yhn bl) hr (Yn (Yb 6) (Yb 10)) (Yaz hr.units (Yc (Yak (Yc (Yca (Yb 9) (Yc Yi))) (Yc Yi))) (Yc Yi))) (Yg9 (Ywo (Yn (Yb 7) (Yb 10)) (Yaz hr.units (Yc (Yak (Yc (Yca (Yb 9) (Yc Yi))) (Yc Yi))) (Yc Yi))))) Yt2))) (Yg9 (Yt3 PassesOwn.never rfl (Yc1 rfl bl.Range (Yd Yi Yp)) (Yac 13 sc_law.nd) (Yg9 (Ywm (Yma (Yss [4] (Yc6 (Yau (Yc (Yu (Ylf bl) hr rfl (Yd (Yn (Yb 6) (Yb 13)) (Yd (Yg 3) (Yd (Yg 4) (Yd (Yn (Yb 7) (Yb 13)) Yp)))) aL4)))))) (Yg9 (Yey (Yr Yg3))) Yt2)))))))) (Yg9 (Yey (Yl5 [8] (Yr (Yy (Ygy rfl) Yl0 rfl bl.All boot_all (Yl (Yc (Yal (Ya1 cs_law_2 rfl (Ya4 (Yg 8)) (fun _ _ _ _ _=>(Ygg 0 1 rfl cs_law_2.nd)) (fun _ _ _ _ _=>Ycq) (fun _ _ _ _ _=>(Yaz hr.units (Yb 0) (Yb 1))) (Yne (i:=0) (k:=1) rfl rfl)))) Yq)))))))))))))))))))
end
abbrev Yjw:Nat:=14
theorem all_mk{l:W.OpenLaw}{w:World}{K:W.Frag}{h:Heap}{mg:Str->Option Value}{fa ui:Addr}(X:K.In h)(G:h.Ns mainGlobals mg)(hfa:mg "law"=some (.ref fa))
 {ux ul:Option Addr} {uy:Array (Option Value)} {uz um uo up ue uq:Value}
 (F_either_holds:Fk K "either_holds" 8)
 (F_sum_holds:Fk K "sum_holds" 9)
 (F_if_holds:Fk K "if_holds" 10)
 (F_rule_holds:Fk K "rule_holds" 11)
 (F_broken_rules:Fk K "broken_rules" 12)
 (F_holds:Fk K "holds" 13)
 (F_beacons_in:Fk K "beacons_in" 14)
 (F_beacons_of:Fk K "beacons_of" 15)
 (F_without:Fk K "without" 16)
 (F_either_left:Fk K "either_left" 17)
 (F_sum_left:Fk K "sum_left" 18)
 (F_if_left:Fk K "if_left" 19)
 (F_rule_left:Fk K "rule_left" 20)
 (F_left_behind:Fk K "left_behind" 21)
 (F_is_hand:Fk K "is_hand" 24)
 (F_check_hands:Fk K "check_hands" 25)
 (F_law_cell:Fk K "_law_cell" 28)
 (F_law_mixed:Fk K "_law_mixed" 29)
 (F_law_kind:Fk K "_law_kind" 30)
 (F_law_rule:Fk K "_law_rule" 31)
 (F_law_bits:Fk K "_law_bits" 32)
 (F_law_same:Fk K "_law_same" 33)
 (F_law_text:Fk K "_law_text" 34)
 (ua:Mq K "Watch" "evening" "Watch.evening" (inClass (top 26) 2))
 (uf:Mq K "Watch" "left" "Watch.left" (inClass (top 26) 3))
 (ug:Mq K "Watch" "turn" "Watch.turn" (inClass (top 26) 1))
 (ud:Mq K "Watch" "winner" "Watch.winner" (inClass (top 26) 4))
 (F_law_right:Fk K "_law_right" 35)
 (F_Watch_settle:Mq K "Watch" "settle" "Watch.settle" (inClass (top 26) 5))
 (F_Watch___init:Iq K (inClass (top 26) 0))
 (F_Watch_back:Mq K "Watch" "back" "Watch.back" (inClass (top 26) 6))
 (u3:W.nsIn K mainGlobals "law"=some (some (.ref ui))) (u4:K.lookup ui=some ⟨uz,ux,.func (W.fnOf "law" "law" (defArgs (top 36)) (defBody (top 36)) (defScope (top 36)) .none um uo up ul ue uq),uy⟩) (u5:W.codeIn K ue "law"=true) (u6:W.keepIn K (.ref ui)=true)
 (N_book:Nq K "Watch" "book")
 (N_hands:Nq K "Watch" "hands")
 (N_truths:Nq K "Watch" "truths")
 {ub:Tok} (uc:W.nsIn K mainGlobals "BEACON_COUNT"=some (some (.int 60 ub)))
 {uh:Addr} {ur:_} {ut:_} {uu:_} {uj uk:_} (uv:W.nsIn K mainGlobals "HANDS"=some (some (.ref uh))) (uw:K.lookup uh=some ⟨.type "tuple",ur,.seq #[.str "keeper" uj,.str "storm" uk] ut,uu⟩)
 (z_len:W.nsIn K mainGlobals "len"=some none)
 (z_range:W.nsIn K mainGlobals "range"=some none)
 (z_list:W.nsIn K mainGlobals "list"=some none)
 (z_tuple:W.nsIn K mainGlobals "tuple"=some none)
 (z_int:W.nsIn K mainGlobals "int"=some none)
 (z_bool:W.nsIn K mainGlobals "bool"=some none)
 (z_str:W.nsIn K mainGlobals "str"=some none)
 (z_sorted:W.nsIn K mainGlobals "sorted"=some none)
 (z_any:W.nsIn K mainGlobals "any"=some none)
 (z_all:W.nsIn K mainGlobals "all"=some none)
 (z_isinstance:W.nsIn K mainGlobals "isinstance"=some none)
 (z_enumerate:W.nsIn K mainGlobals "enumerate"=some none)
 (z_set:W.nsIn K mainGlobals "set"=some none)
 : ∃fd:FuncData,(∀(s:Shared) (v:Value),BindsTo s fd ⟨[v],[]⟩ [("script",v)])/\∀base:Heap,K.In base->base.Ns mainGlobals mg->FnOk l.prog w K mg base CX0 Yjw fa fd ["script"] (spOf K 1 Yms):=by
 have e:=hfa.symm.trans (W.mg_of X G u3)
 cases e
 have bl:Bl K w mg:=⟨W.mg_none_of X G z_len,W.mg_none_of X G z_range,W.mg_none_of X G z_list,W.mg_none_of X G z_tuple,W.mg_none_of X G z_int,W.mg_none_of X G z_bool,W.mg_none_of X G z_str,W.mg_none_of X G z_sorted,W.mg_none_of X G z_any,W.mg_none_of X G z_all,W.mg_none_of X G z_isinstance,W.mg_none_of X G z_enumerate,W.mg_none_of X G z_set,⟨_,W.mg_of X G uc⟩,⟨_,_,_,_,W.mg_of X G uv,uw,rfl,rfl,(.cons ⟨⟨_,rfl⟩,by decide +kernel⟩ (.cons ⟨⟨_,rfl⟩,by decide +kernel⟩ .nil))⟩,F_either_holds.on X G,F_sum_holds.on X G,F_if_holds.on X G,F_rule_holds.on X G,F_broken_rules.on X G,F_holds.on X G,F_beacons_in.on X G,F_beacons_of.on X G,F_without.on X G,F_either_left.on X G,F_sum_left.on X G,F_if_left.on X G,F_rule_left.on X G,F_left_behind.on X G,F_is_hand.on X G,F_check_hands.on X G,F_law_cell.on X G,F_law_mixed.on X G,F_law_kind.on X G,F_law_rule.on X G,F_law_bits.on X G,F_law_same.on X G,F_law_text.on X G,ua,uf,ug,ud,F_law_right.on X G,F_Watch_settle,F_Watch___init,F_Watch_back,fun C h=>W.mg_of X G h,N_book,N_hands,N_truths⟩
 have u9:=Ym2 (st:=(top 36)) u4 u5 u6
 refine⟨W.fnOf "law" "law" (defArgs (top 36)) (defBody (top 36)) (defScope (top 36)) .none um uo up ul ue uq,fun s v=>.of_eq rfl,fun base _ _=>?_⟩
 exact Yzg bl u9
theorem walk(hlaw:∀ns:List Int,ns.length<=63->Yms [.scr ns]=some (.bl true)){l:W.OpenLaw}{q:Program}{loose:List Str}{XP:(Str->Option Value)->Heap->Prop}{YP:World->Heap->Prop}{d:DefRec}{K:Params->W.Frag}(hn:l.most=some 63)(hdf:d.params.defaults=[])
 (hY:∀(w:World) (h:Heap),YP w h->(K w.params).In h)
 (F:∀(w:World) (mg:Str->Option Value) (fa:Addr) (h:Heap),(K w.params).In h->h.Ns mainGlobals mg->mg d.name=some (.ref fa)->
  ∃fd:FuncData,(∀(s:Shared) (u:Value),BindsTo s fd ⟨[u],[]⟩ [("script",u)])/\∀base:Heap,(K w.params).In base->base.Ns mainGlobals mg->FnOk l.prog w (K w.params) mg base CX0 Yjw fa fd ["script"] (spOf (K w.params) 1 Yms)) :
 W.WalkO q loose XP YP l.row.toRowW d [] (fun f vs=>PySem.call f vs):=
 L2.walk_of (n:=63) (k:=Yjw) (x:="script") (CX:=fun _=>CX0) (sp:=fun w=>spOf (K w.params) 1 Yms) hn (by decide) hdf ⟨rfl,by decide,by decide⟩ hY F
  (fun w H a ns hl _ hS=>⟨rfl,[.scr ns],.bl true,H,Same.refl H,.one (by rw[Rp];exact⟨a,rfl,hS⟩),hlaw ns hl,fun v H' G' g r=>by rw[Rp]at r;exact r⟩) fun _ _ _ _ _ z=>z
end Lw
namespace Lw
open PySem L2 M Bk
theorem Ynz:∀(l acc:List Int) (x:Int),x∈ddup acc l↔x∈acc\/x∈l
 | [],acc,x=>by simp[ddup]
 | k::l,acc,x=>by
   rw[ddup,Ynz]
   by_cases h:k∈acc
   ·rw[if_pos h]
    simp
    constructor
    ·rintro(h1 | h1)
     ·exact .inl h1
     ·exact .inr (.inr h1)
    ·rintro(h1 | h1 | h1)
     ·exact .inl h1
     ·subst h1;exact .inl h
     ·exact .inr h1
   ·rw[if_neg h]
    simp[or_assoc]
theorem Yim:∀(l acc:List Int),acc.Nodup->(ddup acc l).Nodup
 | [],_,h=>h
 | k::l,acc,h=>by
   rw[ddup]
   refine Yim l _ ?_
   by_cases hk:k∈acc
   ·rw[if_pos hk];exact h
   ·rw[if_neg hk,List.nodup_append]
    refine⟨h,by simp,fun x hx y hy z=>?_⟩
    simp at hy
    subst hy
    exact hk (z ▸ hx)
theorem Ys4{n:Nat}(hn:n < 64)(l:List Nat)(h:∀x∈l,x < n)(hl:l.length < 4000):∃l':List Nat,l'.Pairwise (· < ·)/\(∀x,x∈l'↔x∈l)/\Yqn (l.map nD)=some (l'.map nD):=by
 have e1:l.map nD=(l.map Int.ofNat).map D.int:=by simp[nD,Function.comp_def]
 generalize hd:ddup [] (l.map Int.ofNat)=d
 have hnd:d.Nodup:=by rw[<-hd];exact Yim _ _ .nil
 have hmem:∀x,x∈d↔∃y∈l,(y:Int)=x:=fun x=>by rw[<-hd,Ynz];simp
 have hp:=Yax d
 have hs:=Yat d
 obtain⟨l',e2⟩:∃l':List Nat,Yc0 d=l'.map Int.ofNat:=by
  refine⟨(Yc0 d).map Int.toNat,?_⟩
  rw[List.map_map]
  refine(List.map_id _).symm.trans (List.map_congr_left fun x hx=>?_)
  obtain⟨y,_,rfl⟩:=(hmem x).mp (hp.mem_iff.mp hx)
  simp[Function.comp_def]
 have hm2:∀x,x∈l'↔x∈l:=fun x=>by
  have h1:x∈l'↔(x:Int)∈Yc0 d:=by
   rw[e2]
   constructor
   ·exact fun h=>List.mem_map_of_mem (f:=Int.ofNat) h
   ·intro h
    obtain⟨y,hy,hyx⟩:=qv h
    have:y=x:=by simpa using hyx
    exact this ▸ hy
  rw[h1,hp.mem_iff,hmem]
  constructor
  ·rintro⟨y,hy,hyx⟩
   have:y=x:=by omega
   exact this ▸ hy
  ·exact fun h=>⟨x,h,rfl⟩
 have hpw:l'.Pairwise (· < ·):=by
  rw[e2]at hp hs
  have hn':l'.Nodup:=by
   have:=hp.nodup_iff.mpr hnd
   rw[List.nodup_iff_pairwise_ne,List.pairwise_map]at this
   exact this.imp fun h z=>h (by rw[z])
  have hs':l'.Pairwise (·<=·):=(List.pairwise_map.mp hs).imp fun h=>by simpa using h
  exact(hs'.and hn').imp fun h=>Nat.lt_of_le_of_ne h.1 h.2
 have hlen:d.length<=n:=by
  rw[<-hp.length_eq,e2,qe]
  exact Yq0 hpw fun x hx=>h x ((hm2 x).mp hx)
 refine⟨l',hpw,hm2,?_⟩
 unfold Yqn
 rw[e1,Ykt]
 dsimp only
 rw[if_pos ⟨by rw[qe];exact hl,by rw[hd];omega⟩,hd,e2]
 simp[nD,Function.comp_def]
end Lw
namespace Lw
open PySem L2 M Bk
theorem Yt5(ns:List Int)(k:Nat):Yb7 [.scr ns,.int k]=some (.int (ns.getD k 0)):=by
 rw[Yb7,Yam (by rfl)]
 by_cases h:k < ns.length
 ·have e:atI (ns.map D.int) (k:Int)=some (.int ns[k]):=by
   rw[Yjd,Yfg h]
   rfl
  simp[Yf1,Yv,h,e]
 ·simp[Yf1,Yv,h]
end Lw
namespace Lw
open PySem L2 M Bk
theorem Yro(ns:List Int)(a b:Nat):cutD (ns.map D.int) (some (a:Int)) (some (b:Int))=((ns.drop (min a ns.length)).take (min b ns.length - min a ns.length)).map D.int:=by
 unfold cutD
 rw[HT.sIx_nat,HT.sIx_nat]
 simp
theorem drawn{fe:Ro->Option D}{r:Ro}{P:Rl->Prop}(h:∀c:Int,∃x:Rl,P x/\fe (some (.sh (.int c))::r)=some (rlD x)):∀cells:List Int,∃R:List Rl,R.length=cells.length/\(∀x∈R,P x)/\Yeu (gSet 0) tY fe (none::r) (cells.map D.int)=some (R.map rlD)
 | []=>⟨[],rfl,fun _ h=>(nomatch h),rfl⟩
 | c::cells=>by
   obtain⟨R,h1,h2,h3⟩:=drawn h cells
   obtain⟨x,hx,hr⟩:=h c
   refine⟨x::R,by simp[h1],fun y hy=>?_,?_⟩
   ·rcases qr hy with rfl | hy
    ·exact hx
    ·exact h2 y hy
   ·rw[qz,Yeu,h3]
    simp[hr]
end Lw
namespace Lw
open PySem L2 M Bk
theorem Yrp(c m:Int):∃v:Int,0<=v/\Ych [.int c,.int m]=some (.int v):=by
 refine⟨c % 2305843009213693951 * m % 2305843009213693951,Int.emod_nonneg _ (by decide),?_⟩
 rw[Ych,Yam (by rfl)]
 have h1:0<=c % 2305843009213693951:=Int.emod_nonneg _ (by decide)
 have h2:c % 2305843009213693951 < 2305843009213693951:=Int.emod_lt_of_pos _ (by decide)
 have h3:mulI (.int (c % 2305843009213693951)) (.int m)=some (.int (c % 2305843009213693951 * m)):=Ynk ⟨by omega,by omega⟩
 simp[Yhj,Yv,h3]
end Lw
namespace Lw
open PySem L2 M Bk
theorem Yzh(c:Int):∃k:Kd,Yec [.int c]=some (kdD k):=by
 have h0:0<=c % 4:=Int.emod_nonneg _ (by decide)
 have h4:c % 4 < 4:=Int.emod_lt_of_pos _ (by decide)
 rw[Yec,Yam (by rfl)]
 have e:c % 4=0\/c % 4=1\/c % 4=2\/c % 4=3:=by omega
 rcases e with e | e | e | e
 ·exact⟨.e,by simp[Yc3,Yv,e];rfl⟩
 ·exact⟨.s,by simp[Yc3,Yv,e];rfl⟩
 ·exact⟨.i,by simp[Yc3,Yv,e];rfl⟩
 ·exact⟨.n,by simp[Yc3,Yv,e];rfl⟩
end Lw
namespace Lw
open PySem L2 M Bk
theorem Yzi(c:Int)(n:Nat)(hn:n<=1000):∃ev:List Bool,ev.length=n/\Yef [.int c,.int n]=some (.lst (ev.map D.bl)):=by
 obtain⟨v,_,hv⟩:=Yrp c 1442695040888963407
 obtain⟨ρ',e1,bs,left,y,hl,rfl⟩:=Yff (gt:=gSet 4) (fb:=Yde) (fun i:Nat=>D.int (0+(i:Nat))) (fun pre ρ=>∃(bs:List Bool) (left:Int) (y:Option B),bs.length=pre.length/\
  ρ=[some (.sh (.int c)),some (.sh (.int n)),some (.sh (.int left)),some (.ow (bs.map D.bl)),y]) (List.range n) []
  [some (.sh (.int c)),some (.sh (.int n)),some (.sh (.int v)),some (.ow []),none] ⟨[],v,none,rfl,rfl⟩ (by
   rintro q a r ρ e ⟨bs,left,y,hl,rfl⟩
   have hq:q.length < n:=by have:=congrArg List.length e;simp at this;omega
   have hcap:bs.length < 1000000:=by omega
   refine⟨_,_,rfl,by simp[Yde,appD,hcap];rfl,bs++[decide (left % 2=1)],left / 2,some (.sh (.int (0+(a:Int)))),by simp[hl],by simp⟩)
 refine⟨bs,by simpa using hl,?_⟩
 rw[Yef,Yam (by rfl)]
 have hr:=Yg7 (n:=(n:Int)) (by omega) (by omega)
 rw[Yjc]at hr
 simp[Yil,Yv,hv,hr]at e1 ⊢
 rw[e1]
 simp
end Lw
namespace Lw
open PySem L2 M Bk
theorem Ys5(l:List Nat)(hn:l.Nodup)(hl:l.length < 64):∃l':List Nat,l'.Perm l/\l'.Pairwise (· < ·)/\Ykj [.lst (l.map nD)]=some (l'.map nD):=by
 have e1:l.map nD=(l.map Int.ofNat).map D.int:=by simp[nD,Function.comp_def]
 have hp:=Yax (l.map Int.ofNat)
 have hs:=Yat (l.map Int.ofNat)
 have e2:∃l':List Nat,Yc0 (l.map Int.ofNat)=l'.map Int.ofNat:=by
  have hm:∀x∈Yc0 (l.map Int.ofNat),0<=x:=fun x hx=>by
   obtain⟨y,_,rfl⟩:=qv (hp.mem_iff.mp hx)
   exact Int.natCast_nonneg y
  refine⟨(Yc0 (l.map Int.ofNat)).map Int.toNat,?_⟩
  rw[List.map_map]
  refine(List.map_id _).symm.trans (List.map_congr_left fun x hx=>?_)
  have:=hm x hx
  simp[Function.comp_def]
  omega
 obtain⟨l',e2⟩:=e2
 rw[e2]at hp hs
 have hp':l'.Perm l:=by
  have:=hp.map Int.toNat
  simpa [Function.comp_def]using this
 refine⟨l',hp',?_,?_⟩
 ·have hn':l'.Nodup:=hp'.nodup_iff.mpr hn
  have hs':l'.Pairwise (·<=·):=by
   have:=List.pairwise_map.mp hs
   exact this.imp fun h=>by simpa using h
  exact(hs'.and hn').imp fun h=>Nat.lt_of_le_of_ne h.1 h.2
 ·show Ysn (l.map nD)=_
  rw[e1]
  unfold Ysn
  rw[Ykt]
  simp[hl,e2,nD,Function.comp_def]
theorem Ys6(l:List Say)(h:l.length<=2)(hn:l.Nodup):∃l':List Say,l'.Perm l/\l'.Pairwise slt/\Ykj [.lst (l.map sayD)]=some (l'.map sayD):=by
 match l,h,hn with
 | [],_,_=>exact⟨[],.refl _,.nil,rfl⟩
 | [a],_,_=>exact⟨[a],.refl _,by simp,rfl⟩
 | [a,b],_,hn=>
   have hab:a≠b:=by simpa using hn
   have e:Ykj [.lst ([a,b].map sayD)]=some (if plt b.1 b.2 a.1 a.2=true then [sayD b,sayD a]else [sayD a,sayD b]):=rfl
   obtain⟨x,p⟩:=a
   obtain⟨y,q⟩:=b
   cases hp:plt (y:Int) q (x:Int) p with
   | true=>
     refine⟨[(y,q),(x,p)],.swap _ _ [],?_,by rw[e];simp[hp]⟩
     unfold plt at hp
     have:slt (y,q) (x,p):=by
      unfold slt
      split at hp
      ·rename_i hxy
       simp at hp
       exact .inr ⟨by omega,hp.1,hp.2⟩
      ·simp at hp
       exact .inl hp
     simpa using this
   | false=>
     refine⟨[(x,p),(y,q)],.refl _,?_,by rw[e];simp[hp]⟩
     unfold plt at hp
     have:slt (x,p) (y,q):=by
      unfold slt
      split at hp
      ·rename_i hxy
       have hxy':y=x:=by omega
       subst hxy'
       have hpq:p≠q:=fun z=>hab (by rw[z])
       refine .inr ⟨rfl,?_⟩
       cases p<;>cases q<;>simp at hp hpq ⊢
      ·rename_i hxy
       simp at hp
       left
       show x < y
       omega
     simpa using this
theorem Yzj(k:Kd)(c:Int)(n:Nat)(h0:0 < n)(hn:n<=1000):∃r:Rl,In k n r/\Srt r/\Yee [kdD k,.int c,.int n]=some (rlD r):=by
 obtain⟨v,hv0,hv⟩:=Yrp c 1181783497276652981
 have hn0:(0:Int) < n:=by omega
 have hn1:(n:Int) < 1073741824:=by omega
 have hn2:2 * (n:Int) < 1073741824:=by omega
 have hn3:(0:Int) < 2 * n:=by omega
 have hmod:∀x:Int,modI (.int x) (.int (n:Int))=some (.int (x % n)):=fun x=>Yqr hn0
 have hdiv:∀x:Int,divI (.int x) (.int (n:Int))=some (.int (x / n)):=fun x=>Ynl hn0 hn1
 have hdiv2:∀x:Int,divI (.int x) (.int (2 * (n:Int)))=some (.int (x / (2 * n))):=fun x=>Ynl hn3 hn2
 have hmul:mulI (.int 2) (.int (n:Int))=some (.int (2 * n)):=Ynk ⟨by decide,by decide⟩
 have hst:Yv 8 [kdD k,.int c,.int n]=[some (.sh (kdD k)),some (.sh (.int c)),some (.sh (.int n)),none,none,none,none,none]:=rfl
 rw[Yee,Yam (by rfl),hst]
 by_cases hk:k=.e
 ·subst hk
  generalize hsz:v % 3=size
  have hs0:0<=size:=by omega
  have hs3:size < 3:=by omega
  obtain⟨ρ',e1,l,left,y,hl,hnd,hlt,hlf,rfl⟩:=Yff (gt:=gSet 6) (fb:=Yb4) (fun i:Nat=>D.int (0+(i:Nat))) (fun pre ρ=>∃(l:List Say) (left:Int) (y:Option B),l.length<=pre.length/\l.Nodup/\(∀s∈l,s.1 < n)/\0<=left/\
   ρ=[some (.sh (kdD .e)),some (.sh (.int c)),some (.sh (.int n)),some (.sh (.int left)),some (.sh (.int size)),some (.ow (l.map sayD)),y,none]) (List.range (size - 0).toNat) []
   [some (.sh (kdD .e)),some (.sh (.int c)),some (.sh (.int n)),some (.sh (.int (v / 7))),some (.sh (.int size)),some (.ow []),none,none] ⟨[],v / 7,none,qs _,.nil,by simp,by omega,rfl⟩ (by
    rintro q a r ρ e ⟨l,left,y,hl,hnd,hlt,hlf,rfl⟩
    have hq:q.length < 1000:=by have:=congrArg List.length e;simp at this;omega
    have hcap:l.length < 1000000:=by omega
    obtain⟨b,hb⟩:∃b:Nat,left / 2 % (n:Int)=(b:Int):=⟨(left / 2 % n).toNat,by have:=Int.emod_nonneg (left / 2) (show(n:Int)≠0 by omega);omega⟩
    have hbn:b < n:=by have:=Int.emod_lt_of_pos (left / 2) hn0;omega
    have hsd:D.tup [.int (b:Int),.bl (decide (left % 2=1))]=sayD (b,decide (left % 2=1)):=rfl
    have hin:=Ytx (c:=.lst (l.map sayD)) (b,decide (left % 2=1)) l true rfl
    have hd:0<=left / (2 * (n:Int)):=Int.ediv_nonneg hlf (by omega)
    by_cases hm:(b,decide (left % 2=1))∈l
    ·refine⟨_,_,rfl,?_,l,left / (2 * n),some (.sh (.int (0+(a:Int)))),by simp;omega,hnd,hlt,hd,rfl⟩
     simp[Yb4,hmod,hdiv2,hb,hsd,hin,hm,hmul,hn2,hn3]
    ·refine⟨_,_,rfl,?_,l++[(b,decide (left % 2=1))],left / (2 * n),some (.sh (.int (0+(a:Int)))),by simp;omega,?_,?_,hd,rfl⟩
     ·simp[Yb4,hmod,hdiv2,hb,hsd,hin,hm,hmul,hn2,hn3,appD,hcap]
     ·rw[List.nodup_append]
      refine⟨hnd,by simp,?_⟩
      intro x hx y hy z
      simp at hy
      subst hy
      exact hm (z ▸ hx)
     ·intro s hs
      rcases qt hs with hs | hs
      ·exact hlt s hs
      ·simp at hs
       subst hs
       exact hbn)
  have hl2:l.length<=2:=by simp at hl;omega
  obtain⟨l',hp,hpw,hs⟩:=Ys6 l hl2 hnd
  refine⟨.ei l',⟨rfl,fun s hs=>hlt s (hp.mem_iff.mp hs)⟩,⟨by rw[hp.length_eq];exact hl2,hpw⟩,?_⟩
  have hr:=Yg7 (n:=size) (by omega) (by omega)
  rw[Yjc]at hr
  simp[Yed,hv,hsz,hr]at e1 ⊢
  rw[e1]
  simp[hs,rlD]
 ·generalize hsz:v % 7=size
  have hs0:0<=size:=by omega
  have hs3:size < 7:=by omega
  obtain⟨ρ',e1,l,left,y,hl,hnd,hlt,hlf,rfl⟩:=Yff (gt:=gSet 6) (fb:=Yb5) (fun i:Nat=>D.int (0+(i:Nat))) (fun pre ρ=>∃(l:List Nat) (left:Int) (y:Option B),l.length<=pre.length/\l.Nodup/\(∀s∈l,s < n)/\0<=left/\
   ρ=[some (.sh (kdD k)),some (.sh (.int c)),some (.sh (.int n)),some (.sh (.int left)),some (.sh (.int size)),none,y,some (.ow (l.map nD))]) (List.range (size - 0).toNat) []
   [some (.sh (kdD k)),some (.sh (.int c)),some (.sh (.int n)),some (.sh (.int (v / 7))),some (.sh (.int size)),none,none,some (.ow [])] ⟨[],v / 7,none,qs _,.nil,by simp,by omega,rfl⟩ (by
    rintro q a r ρ e ⟨l,left,y,hl,hnd,hlt,hlf,rfl⟩
    have hq:q.length < 1000:=by have:=congrArg List.length e;simp at this;omega
    have hcap:l.length < 1000000:=by omega
    obtain⟨b,hb⟩:∃b:Nat,left % (n:Int)=(b:Int):=⟨(left % n).toNat,by have:=Int.emod_nonneg left (show(n:Int)≠0 by omega);omega⟩
    have hbn:b < n:=by have:=Int.emod_lt_of_pos left hn0;omega
    have hin:=in_n (c:=.lst (l.map nD)) b l true rfl
    simp only[nD]at hin
    have hd:0<=left / (n:Int):=Int.ediv_nonneg hlf (by omega)
    by_cases hm:b∈l
    ·refine⟨_,_,rfl,?_,l,left / n,some (.sh (.int (0+(a:Int)))),by simp;omega,hnd,hlt,hd,rfl⟩
     simp[Yb5,hmod,hdiv,hb,hin,hm,nD]
    ·refine⟨_,_,rfl,?_,l++[b],left / n,some (.sh (.int (0+(a:Int)))),by simp;omega,?_,?_,hd,rfl⟩
     ·simp[Yb5,hmod,hdiv,hb,hin,hm,appD,hcap,nD]
     ·rw[List.nodup_append]
      refine⟨hnd,by simp,?_⟩
      intro x hx y hy z
      simp at hy
      subst hy
      exact hm (z ▸ hx)
     ·intro s hs
      rcases qt hs with hs | hs
      ·exact hlt s hs
      ·simp at hs
       subst hs
       exact hbn)
  have hl6:l.length < 64:=by simp at hl;omega
  obtain⟨l',hp,hpw,hs⟩:=Ys5 l hnd hl6
  have hr:=Yg7 (n:=size) (by omega) (by omega)
  rw[Yjc]at hr
  have pre:Yed [some (.sh (kdD k)),some (.sh (.int c)),some (.sh (.int n)),none,none,none,none,none]=Yd1 [some (.sh (kdD k)),some (.sh (.int c)),some (.sh (.int n)),some (.sh (.int left)),some (.sh (.int size)),none,y,some (.ow (l.map nD))]:=by
   simp[Yed,hv,hsz,hr,hk,-Yd1]at e1 ⊢
   rw[e1]
   rfl
  clear e1 hr hv
  rw[pre]
  by_cases hks:k=.s
  ·subst hks
   refine⟨.su l' (decide (left % 2=1)),⟨rfl,fun s hs=>hlt s (hp.mem_iff.mp hs)⟩,hpw,?_⟩
   simp[hs,rlD]
  ·have hki:k=.i\/k=.n:=by cases k<;>simp at hk hks ⊢
   obtain⟨b,hb⟩:∃b:Nat,left / 3 % (n:Int)=(b:Int):=⟨(left / 3 % n).toNat,by have:=Int.emod_nonneg (left / 3) (show(n:Int)≠0 by omega);omega⟩
   have hbn:b < n:=by have:=Int.emod_lt_of_pos (left / 3) hn0;omega
   by_cases h3:0 < left % 3
   ·refine⟨.im l' (some b),⟨hki,fun s hs=>hlt s (hp.mem_iff.mp hs),fun x hx=>by cases hx;exact hbn⟩,hpw,?_⟩
    simp[hs,rlD,hks,h3,hb,hmod,optD]
   ·refine⟨.im l' none,⟨hki,fun s hs=>hlt s (hp.mem_iff.mp hs),fun x hx=>by cases hx⟩,hpw,?_⟩
    simp[hs,rlD,hks,h3,hb,hmod,optD]
end Lw
namespace Lw
open PySem L2 M Bk
section
variable {c:D} {ev:List Bool} (hc:Ys c=some (ev.map D.bl))
include hc
theorem Yh7{l:List Say}(hl:∀s∈l,s.1 < ev.length):Ybi [rlD (.ei l),c]=some (.bl (l.any fun s=>at' ev s.1==s.2)):=by
 have h:=Yku (fe:=Ybe) (r:=[some (.sh c)]) (enc:=sayD) (fun s=>.bl (at' ev s.1==s.2)) (l:=l) (fun s hs=>by
  simp[Ybe,hc,Ysv (hl s hs)])
 rw[Ybi,Yam (by rfl)]
 simp[Yen,Yv,capR,h,Function.comp_def]
theorem Ymt{b:List Nat}{o:Bool}(hl:∀x∈b,x < ev.length):Yc9 [rlD (.su b o),c]=some (.bl (decide ((b.filter (at' ev)).length % 2=1)==o)):=by
 have h:=Yno (fc:=Ycu) (fe:=Ycv) (r:=[some (.sh c)]) (enc:=nD) (at' ev) nD (l:=b) (fun s hs=>by
  simp[Ycu,hc,nD,Ysv (hl s hs)]) (fun s _ _=>by simp[Ycv])
 have e:∀n:Nat,decide (((n:Nat):Int) % 2=1)=decide (n % 2=1):=fun n=>by
  by_cases z:n % 2=1
  ·have:((n:Nat):Int) % 2=1:=by omega
   simp[z,this]
  ·have:¬((n:Nat):Int) % 2=1:=by omega
   simp[z,this]
 rw[Yc9,Yam (by rfl)]
 simp[Yhc,Yv,capR,h,e]
theorem Yin{b:List Nat}{h:Option Nat}{w:Bool}(hl:∀x∈b,x < ev.length)(hh:∀x,h=some x->x < ev.length):Yea [rlD (.im b h),c,.bl w]=some (.bl ((b.any fun x=>at' ev x != w)||hd ev w h)):=by
 have h1:=Yku (fe:=Yda) (r:=[some (.sh c),some (.sh (.bl w))]) (enc:=nD) (fun x=>.bl (at' ev x != w)) (l:=b) (fun s hs=>by
  simp[Yda,hc,nD,Ysv (hl s hs),bne])
 rw[Yea,Yam (by rfl)]
 cases hb:(b.any fun x=>at' ev x != w)with
 | true=>simp[Yd9,Yv,capR,h1,Function.comp_def,hb]
 | false=>
   cases h with
   | none=>simp[Yd9,Yv,capR,h1,Function.comp_def,hb,optD,hd]
   | some x=>simp[Yd9,Yv,capR,h1,Function.comp_def,hb,optD,hd,hc,Ysv (hh x rfl)]
theorem Ylg{k:Kd}{r:Rl}(hr:In k ev.length r):Ycn [kdD k,rlD r,c]=some (.bl (so k ev r)):=by
 rw[Ycn,Yam (by rfl)]
 cases r with
 | ei l=>
   obtain⟨rfl,hl⟩:=hr
   simp[Ybo,Yv,Yh7 hc hl,so]
 | su b o=>
   obtain⟨rfl,hl⟩:=hr
   simp[Ybo,Yv,Ymt hc hl,so]
 | im b h=>
   obtain⟨hk,hl,hh⟩:=hr
   rcases hk with rfl | rfl
   ·simp[Ybo,Yv,Yin hc hl hh,so]
   ·simp[Ybo,Yv,Yin hc hl hh,so]
end
end Lw
namespace Lw
open PySem L2 M Bk
section
variable {c:D} {ev:List Bool} (hc:Ys c=some (ev.map D.bl))
include hc
theorem Yh8{k:Kd}{R:List Rl}(hR:∀r∈R,In k ev.length r):Ybj [Yt k R,c]=some (.lst ((brk k ev R).map nD)):=by
 have h:=Yy1 (fc:=Ybf) (fe:=Ybg) (r:=[some (.sh (Yt k R)),some (.sh c)]) (e1:=fun i:Nat=>.int i) (e2:=fun i=>rlD (nth R i)) (fun i=>!so k ev (nth R i)) nD (l:=List.range R.length) (fun i hi=>by
  have hi':=List.mem_range.mp hi
  have hr:=Ylg hc (hR (nth R i) (Ywb hi'))
  simp[Ybf,hr]) (fun i _ _=>by simp[Ybg,nD])
 rw[Ybj,Yam (by rfl)]
 simp[Yeo,Yv,capR,Ywc,h,brk]
end
end Lw
namespace Lw
open PySem L2 M Bk
section
variable {c:D} {ev:List Bool} (hc:Ys c=some (ev.map D.bl))
include hc
theorem Yrq{k:Kd}{R:List Rl}(hR:∀r∈R,In k ev.length r):Yhf [Yt k R,c]=some (.bl (decide (brk k ev R=[]))):=by
 rw[Yhf,Yam (by rfl)]
 have e:decide (((brk k ev R).length:Int)=0)=decide (brk k ev R=[]):=by
  cases brk k ev R with
  | nil=>rfl
  | cons a l=>simp;omega
 simp[Yre,Yv,Yh8 hc hR,e]
end
end Lw
namespace Lw
open PySem L2 M Bk
theorem Yf9{k:Kd}{n:Nat}{r:Rl}(hr:In k n r)(hs:sz r<=999999):Ybq [kdD k,rlD r]=some (.lst ((bcs r).map nD)):=by
 rw[Ybq,Yam (by rfl)]
 cases r with
 | ei l=>
   obtain⟨rfl,_⟩:=hr
   have h:=Yku (fe:=Yce) (r:=[]) (enc:=sayD) (fun s=>nD s.1) (l:=l) (fun s _=>by simp[Yce])
   simp[Ybp,Yv,capR,h,bcs,Function.comp_def]
 | su b o=>
   obtain⟨rfl,_⟩:=hr
   simp[Ybp,Yv,bcs]
 | im b h=>
   obtain⟨hk,_⟩:=hr
   have hke:¬k=.e:=by rcases hk with rfl | rfl<;>decide
   have hks:¬k=.s:=by rcases hk with rfl | rfl<;>decide
   have hs':b.length+1<=1000000:=by simp[sz]at hs;omega
   cases h with
   | none=>simp[Ybp,Yv,bcs,hke,hks,optD]
   | some x=>simp[Ybp,Yv,bcs,hke,hks,optD,catD,hs']
end Lw
namespace Lw
open PySem L2 M Bk
theorem Yws(r:Rl):(bcs r).length<=sz r+1:=by
 cases r with
 | ei l=>simp[bcs,sz]
 | su l o=>simp[bcs,sz]
 | im l h=>cases h<;>simp[bcs,sz]
theorem Ylh{k:Kd}{n m:Nat}(hn:n < 64){R:List Rl}(hR:∀r∈R,In k n r/\sz r+1<=m)(hm:R.length * m < 4000):∃l:List Nat,l.Pairwise (· < ·)/\(∀x,x∈l↔∃r∈R,x∈bcs r)/\Yco [Yt k R]=some (.lst (l.map nD)):=by
 obtain⟨ρ',e1,f,y,hf,hfl,rfl⟩:=Yff (gt:=gSet 2) (fb:=Ycf) rlD (fun pre ρ=>∃(f:List Nat) (y:Option B),f=pre.flatMap bcs/\f.length<=pre.length * m/\
  ρ=[some (.sh (Yt k R)),some (.ow (f.map nD)),y]) R [] [some (.sh (Yt k R)),some (.ow []),none] ⟨[],none,rfl,by simp,rfl⟩ (by
  rintro q a r ρ e ⟨f,y,hf,hfl,rfl⟩
  have ha:a∈R:=by rw[List.nil_append]at e;rw[e];simp
  obtain⟨h1,h2⟩:=hR a ha
  have hq:q.length < R.length:=by rw[List.nil_append]at e;rw[e];simp
  have hpos:q.length * m+m<=R.length * m:=by
   have:=Nat.mul_le_mul_right m (show q.length+1<=R.length from hq)
   rw[Nat.add_mul,Nat.one_mul]at this
   exact this
  have hb:=Yf9 h1 (by omega)
  have hbl:=Yws a
  have hcap:f.length+(bcs a).length<=1000000:=by omega
  refine⟨_,_,rfl,?_,f++bcs a,some (.sh (rlD a)),by rw[hf];simp,?_,rfl⟩
  ·simp[Ycf,hb,extD,hcap]
  ·rw[qw,qw,Nat.add_mul]
   simp
   omega)
 rw[List.nil_append]at hf hfl
 obtain⟨l,h1,h2,h3⟩:=Ys4 hn f (fun x hx=>by
  rw[hf]at hx
  obtain⟨r,hr,hx⟩:=List.mem_flatMap.mp hx
  exact Ytz (hR r hr).1 x hx) (by omega)
 refine⟨l,h1,fun x=>?_,?_⟩
 ·rw[h2,hf,List.mem_flatMap]
 ·rw[Yco,Yam (by rfl)]
  simp[Yf6,Yv,e1,h3]
end Lw
namespace Lw
open PySem L2 M Bk
theorem Yli(l:List Nat)(b:Nat):Ydz [.tup (l.map nD),.int (b:Int)]=some (.tup ((Bk.wo b l).map nD)):=by
 have h:=Yno (fc:=Ydx) (fe:=Ydy) (r:=[some (.sh (.int (b:Int)))]) (enc:=nD) (fun x=>!decide (x=b)) nD (l:=l) (fun x _=>by
  simp[Ydx]) (fun x _ _=>by simp[Ydy])
 rw[Ydz,Yam (by rfl)]
 simp[Yky,Yv,capR,h,Bk.wo]
theorem Yjx(l:List Say)(b:Nat)(lit:Bool):Yb3 [rlD (.ei l),.int (b:Int),.bl lit]=some (optR (Ybm .e b lit (.ei l))):=by
 have hsd:D.tup [.int (b:Int),.bl lit]=sayD (b,lit):=rfl
 have hin:=Ytx (c:=rlD (.ei l)) (b,lit) l false rfl
 have h:=Yno (fc:=Ybu) (fe:=Ybv) (r:=[some (.sh (.int (b:Int)))]) (enc:=sayD) (fun s=>!decide (s.1=b)) sayD (l:=l) (fun x _=>by
  simp[Ybu]) (fun x _ _=>by simp[Ybv])
 rw[Yb3,Yam (by rfl)]
 by_cases hm:(b,lit)∈l
 ·simp[Ydb,Yv,hsd,hin,hm,Ybm,optR]
 ·simp[Ydb,Yv,capR,hsd,hin,hm,Ybm,optR,h,woS,Ywd]
theorem Yo1(l:List Nat)(o:Bool)(b:Nat)(lit:Bool)(hb:b∈l):Yeb [rlD (.su l o),.int (b:Int),.bl lit]=some (optR (Ybm .s b lit (.su l o))):=by
 have hw:=Yli l b
 rw[Yeb,Yam (by rfl)]
 rw[Ybm]
 generalize Bk.wo b l=q at hw ⊢
 cases q with
 | nil=>cases o<;>cases lit<;>simp[Yf0,Yv,hw,hb,optR]<;>rfl
 | cons a q=>cases o<;>cases lit<;>simp[Yf0,Yv,hw,hb,optR]<;>first | rfl | omega
theorem Yrr(k:Kd)(l:List Nat)(h:Option Nat)(b:Nat)(lit:Bool):Yfi [rlD (.im l h),.int (b:Int),.bl (lit==decide (k=.i))]=some (optR (Ybm k b lit (.im l h))):=by
 have hw:=Yli l b
 have hin:=in_n (c:=.tup (l.map nD)) b l false rfl
 rw[Yfi,Yam (by rfl)]
 generalize hso:(lit==decide (k=Kd.i))=w
 have hso':(lit=decide (k=.i))↔w=true:=by rw[<-hso];simp
 rw[Ybm]
 simp only[hso']
 by_cases h1:h=some b
 ·by_cases h2:b∈l
  ·cases w<;>simp[Yd0,Yv,hin,h1,h2,hw,optR]
  ·cases w<;>simp[Yd0,Yv,hin,h1,h2,hw,optR,Ysw]
 ·by_cases h2:b∈l
  ·cases w<;>simp[Yd0,Yv,hin,h1,h2,hw,optR,Yqy]
  ·cases w<;>simp[Yd0,Yv,hin,h1,h2,hw,optR,Yqy]
theorem Ymu{k:Kd}{n:Nat}{r:Rl}(hr:In k n r)(hs:sz r<=999999)(b:Nat)(lit:Bool):Ydc [kdD k,rlD r,.int (b:Int),.bl lit]=some (optR (Ybm k b lit r)):=by
 have hb:=Yf9 hr hs
 have hin:=in_n (c:=.lst ((bcs r).map nD)) b (bcs r) true rfl
 rw[Ydc,Yam (by rfl)]
 by_cases hm:b∈bcs r
 ·cases r with
  | ei l=>
    obtain⟨rfl,_⟩:=hr
    simp[Ycg,Yv,hb,hin,hm,Yjx]
  | su l o=>
    obtain⟨rfl,_⟩:=hr
    simp[Ycg,Yv,hb,hin,hm,Yo1 l o b lit hm]
  | im l h=>
    obtain⟨hk,_⟩:=hr
    have hke:¬k=.e:=by rcases hk with rfl | rfl<;>decide
    have hks:¬k=.s:=by rcases hk with rfl | rfl<;>decide
    simp[Ycg,Yv,hb,hin,hm,hke,hks,Yrr]
 ·have:Ybm k b lit r=some r:=Yoq hm
  simp[Ycg,Yv,hb,hin,hm,this,optR]
theorem Yfm{k:Kd}{n:Nat}{R:List Rl}(hR:∀r∈R,In k n r)(hs:∀r∈R,sz r<=999999)(b:Nat)(lit:Bool):Ya8 [Yt k R,.int (b:Int),.bl lit]=some (Yt k (R.filterMap (Ybm k b lit))):=by
 have h1:=Yku (fe:=Ybw) (r:=[some (.sh (Yt k R)),some (.sh (.int (b:Int))),some (.sh (.bl lit))]) (enc:=rlD) (fun r=>optR (Ybm k b lit r)) (l:=R) (fun r hr=>by
  simp[Ybw,Ymu (hR r hr) (hs r hr)])
 have h2:∀Q:List (Option Rl),Yeu (gSet 0) Ya2 Ya3 [none] (Q.map optR)=some ((Q.filterMap id).map rlD):=fun Q=>by
  have:=Yno (fc:=Ya2) (fe:=Ya3) (r:=[]) (enc:=optR) (fun o=>o.isSome) optR (l:=Q) (fun o _=>by
   cases o<;>simp[Ya2,optR]) (fun o _ _=>by simp[Ya3])
  rw[this,opts]
 have h3:=h2 (R.map (Ybm k b lit))
 rw[Ya8,Yam (by rfl)]
 simp[Function.comp_def]at h3
 simp[Yfj,Yv,capR,h1,h3,Yqx]
end Lw
namespace Lw
open PySem L2 M Bk
theorem Ylj:∀(j:Nat) (d:D),Pl d->dep d < j->Yav j [d,d]=some (.bl true)
 | 0,_,_,h=>absurd h (Nat.not_lt_zero _)
 | j+1,d,hp,hd=>by
   rw[Yav,Yam (by rfl)]
   cases d with
   | tup l=>
     rw[Pl]at hp
     obtain⟨hl,hp⟩:=hp
     rw[Ydu]at hd
     have hc:=Yku (fe:=Ydf (Yav j)) (r:=[some (.sh (.tup l)),some (.sh (.tup l))]) (enc:=fun i:Nat=>D.int (0+(i:Nat))) (fun _=>.bl true) (l:=List.range l.length) (fun i hi=>by
      have hi':=List.mem_range.mp hi
      have hm:l[i]∈l:=List.getElem_mem hi'
      have ih:=Ylj j l[i] (PlL_iff.mp hp _ hm) (by have:=Yqw hm;omega)
      simp[Ydf,Yfg hi',ih])
     have hrg:=Yg7 (n:=(l.length:Int)) (by omega) (by omega)
     rw[Yjc]at hrg
     simp[Yb8,Yv,isiD,Ycz,Ykh,capR,hrg]at hc ⊢
     rw[hc]
     simp[Function.comp_def]
   | non=>simp[Yb8,Yv,isiD,Ycz,Ykh]
   | bl b=>simp[Yb8,Yv,isiD,Ycz,Ykh]
   | int i=>simp[Yb8,Yv,isiD,Ycz,Ykh,isN,Ykg]
   | str x=>simp[Yb8,Yv,isiD,Ycz,Ykh,isN,Ykg,Yij]
   | lst l=>exact hp.elim
   | scr l=>exact hp.elim
   | dct t l m=>exact hp.elim
   | obj t l m=>exact hp.elim
   | adr l=>exact hp.elim
theorem Yzk{d:D}(h:Pl d)(hd:dep d < 12):Yf2 [d,d]=some (.bl true):=Ylj 12 d h hd
end Lw
namespace Lw
open PySem L2 M Bk
def hnD(b:Bool):D:=.str (Str.ofString (if b then "keeper" else "storm"))
abbrev wtD(k:Kd)(R:List Rl)(H ev:List Bool):D:=watD (Yt k R) (.tup (H.map hnD)) (.lst (ev.map D.bl))
@[simp] theorem fld_b(b h x:D):fldD "Watch" "book" (watD b h x)=some b:=nr rfl
@[simp] theorem fld_h(b h x:D):fldD "Watch" "hands" (watD b h x)=some h:=nr rfl
@[simp] theorem fld_t(b h x:D):fldD "Watch" "truths" (watD b h x)=some x:=nr rfl
theorem Ylk(m:Str)(hm:m∉wks)(fn:List D->Option D)(b h x:D):mthD "Watch" m fn (watD b h x)=fn [watD b h x]:=if_pos ⟨rfl,hm⟩
def Yf3(H ev:List Bool):D:=match H[ev.length]? with
 | some b=>hnD b
 | none=>.non
theorem Yjy{H ev:List Bool}(h:ev.length < H.length):Yf3 H ev=hnD (H[ev.length]):=by
 unfold Yf3
 rw[qp h]
theorem Ymv{H ev:List Bool}(h:¬ev.length < H.length):Yf3 H ev=.non:=by
 unfold Yf3
 rw[List.getElem?_eq_none (by omega)]
theorem Yrs{k:Kd}{R:List Rl}{H ev:List Bool}(h:ev.length<=H.length):Yaa [wtD k R H ev]=some (Yf3 H ev):=by
 rw[Yaa,Yam (by rfl)]
 have hst:Yv 1 [wtD k R H ev]=[some (.sh (wtD k R H ev))]:=rfl
 rw[hst]
 by_cases hl:ev.length=H.length
 ·rw[Ymv (by omega)]
  simp[Yd3,hl]
 ·have hlt:ev.length < H.length:=by omega
  rw[Yjy hlt]
  have hi:¬((ev.length:Int)=(H.length:Int)):=by omega
  have hat:atI (H.map hnD) (ev.length:Int)=some (hnD (H[ev.length])):=by
   rw[Yjd,Yfg hlt]
   rfl
  simp[Yd3,hi,hl,hat]
theorem Yll(k:Kd)(R:List Rl)(H ev:List Bool):Yz [wtD k R H ev]=some (.tup (ev.map D.bl)):=by
 rw[Yz,Yam (by rfl)]
 have hst:Yv 1 [wtD k R H ev]=[some (.sh (wtD k R H ev))]:=rfl
 rw[hst]
 simp[Yd2]
def lfs(k:Kd):Nat->List Bool->List Rl->List Rl
 | _,[],R=>R
 | i,b::ev,R=>lfs k (i+1) ev (R.filterMap (Ybm k i b))
def OkR(k:Kd)(n:Nat)(r:Rl):Prop:=In k n r/\Srt r
theorem Ys7{k:Kd}{n b:Nat}{lit:Bool}{r q:Rl}(hr:OkR k n r)(h:Ybm k b lit r=some q):OkR k n q/\sz q<=sz r:=by
 have hat:at' (List.replicate (b+1) lit) b=lit:=by simp[at']
 obtain⟨_,_,_,h1,h2,h3⟩:=Yq1 (ev:=List.replicate (b+1) lit) (b:=b) hr.1 hr.2 (by rw[hat];exact h)
 exact⟨⟨h1,h2⟩,h3⟩
theorem Yhq{k:Kd}{n b:Nat}{lit:Bool}{R:List Rl}(hR:∀r∈R,OkR k n r/\sz r<=9999):∀r∈R.filterMap (Ybm k b lit),OkR k n r/\sz r<=9999:=fun q hq=>by
 obtain⟨r,hr,h⟩:=List.mem_filterMap.mp hq
 obtain⟨h1,h2⟩:=Ys7 (hR r hr).1 h
 exact⟨h1,qy h2 (hR r hr).2⟩
theorem Yt6{k:Kd}{n:Nat}:∀(ev:List Bool) (i:Nat) {R:List Rl},(∀r∈R,OkR k n r/\sz r<=9999)->∀r∈lfs k i ev R,OkR k n r/\sz r<=9999
 | [],_,_,h=>h
 | _::ev,i,_,h=>Yt6 ev (i+1) (Yhq h)
theorem Yrt(k:Kd):∀(ev:List Bool) (i:Nat) (R:List Rl),(lfs k i ev R).length<=R.length
 | [],_,_=>qs _
 | _::ev,i,R=>qy (Yrt k ev (i+1) _) (List.length_filterMap_le _ _)
def enB(i:Nat):List Bool->List D
 | []=>[]
 | b::ev=>.tup [.int (i:Int),.bl b]::enB (i+1) ev
theorem Yt7:∀(ev:List Bool) (i:Nat),enB i ev=(List.range ev.length).map fun j:Nat=>D.tup [.int ((i:Int)+(j:Int)),.bl (ev.getD j false)]
 | [],_=>rfl
 | b::ev,i=>by
   rw[enB,qq,List.range_succ_eq_map,qz,List.map_map,Yt7 ev (i+1)]
   have h0:D.tup [.int (i:Int),.bl b]=D.tup [.int ((i:Int)+((0:Nat):Int)),.bl ((b::ev).getD 0 false)]:=by simp
   rw[h0]
   congr 1
   refine List.map_congr_left fun j _=>?_
   have h1:((i+1:Nat):Int)+(j:Int)=(i:Int)+((j+1:Nat):Int):=by push_cast;omega
   rw[h1]
   rfl
theorem Yt8(ev:List Bool):Yg1 (ev.map D.bl)=enB 0 ev:=by
 rw[Ykv D.bl false ev,Yt7 ev 0]
 refine List.map_congr_left fun j _=>?_
 simp
theorem Ylm{k:Kd}{n:Nat}{y0:Option B}:∀(ev:List Bool) (i:Nat) (R:List Rl) (y2 y3:Option B),(∀r∈R,OkR k n r/\sz r<=9999)->∃z2 z3,M.forM (Ydl 2 3) Yba (enB i ev) [y0,some (.sh (Yt k R)),y2,y3]=some (.nx [y0,some (.sh (Yt k (lfs k i ev R))),z2,z3])
 | [],i,R,y2,y3,_=>⟨y2,y3,rfl⟩
 | b::ev,i,R,y2,y3,hR=>by
   have h:=Yfm (fun r hr=>(hR r hr).1.1) (fun r hr=>qy (hR r hr).2 (by omega)) i b
   obtain⟨z2,z3,e⟩:=Ylm (y0:=y0) ev (i+1) _ (some (.sh (.int (i:Int)))) (some (.sh (.bl b))) (Yhq (b:=i) (lit:=b) hR)
   refine⟨z2,z3,?_⟩
   rw[enB,M.forM]
   have hg:Ydl 2 3 (.tup [.int (i:Int),.bl b]) [y0,some (.sh (Yt k R)),y2,y3]=some [y0,some (.sh (Yt k R)),some (.sh (.int (i:Int))),some (.sh (.bl b))]:=rfl
   have hl:Yba [y0,some (.sh (Yt k R)),some (.sh (.int (i:Int))),some (.sh (.bl b))]=some (.nx [y0,some (.sh (Yt k (R.filterMap (Ybm k i b)))),some (.sh (.int (i:Int))),some (.sh (.bl b))]):=by
    simp[Yba,h]
   rw[hg,qc,hl,qc]
   exact e
theorem Yzl{k:Kd}{n:Nat}{R:List Rl}(H ev:List Bool)(hR:∀r∈R,OkR k n r/\sz r<=9999):Ybr [wtD k R H ev]=some (Yt k (lfs k 0 ev R)):=by
 rw[Ybr,Yam (by rfl)]
 have hst:Yv 4 [wtD k R H ev]=[some (.sh (wtD k R H ev)),none,none,none]:=rfl
 rw[hst]
 obtain⟨y2,y3,e⟩:=Ylm (y0:=some (.sh (wtD k R H ev))) ev 0 R none none hR
 rw[<-Yt8]at e
 simp[Yf8,Yl1,e]
def wonO(k:Kd)(R:List Rl)(H ev:List Bool):D:=if ev.length < H.length then .non else .str (Str.ofString (if brk k ev R=[]then "keeper" else "storm"))
theorem Yzm(k:Kd)(R:List Rl)(H ev:List Bool):Yqj (wonO k R H ev)=true:=by
 unfold wonO
 split<;>rfl
theorem Yn0{k:Kd}{R:List Rl}{H ev:List Bool}(h:ev.length<=H.length)(hR:∀r∈R,OkR k H.length r/\sz r<=9999):Yae [wtD k R H ev]=some (wonO k R H ev):=by
 rw[Yae,Yam (by rfl)]
 have hst:Yv 1 [wtD k R H ev]=[some (.sh (wtD k R H ev))]:=rfl
 rw[hst]
 have ht:=Yrs (k:=k) (R:=R) h
 have hm:=Ylk "turn" (by decide) Yaa (Yt k R) (.tup (H.map hnD)) (.lst (ev.map D.bl))
 rw[ht]at hm
 by_cases hl:ev.length < H.length
 ·rw[Yjy hl]at hm
  have hn:isN true (hnD H[ev.length]) .non=some true:=rfl
  simp[Ybk,hm,hn,wonO,hl]
 ·rw[Ymv hl]at hm
  have he:=Yrq (c:=.lst (ev.map D.bl)) (ev:=ev) rfl (k:=k) (R:=R) (fun r hr=>by rw[show ev.length=H.length by omega];exact(hR r hr).1.1)
  by_cases hb:brk k ev R=[]
  ·simp[Ybk,hm,he,wonO,hl,hb]
  ·simp[Ybk,hm,he,wonO,hl,hb]
end Lw
namespace Lw
open PySem L2 M Bk
theorem Yio:Ybh [.non,.non]=some (.bl true):=rfl
theorem Yip(b:Bool):Ybh [hnD b,hnD b]=some (.bl true):=by
 cases b<;>rfl
theorem Ymw(H ev:List Bool):Ybh [Yf3 H ev,Yf3 H ev]=some (.bl true):=by
 unfold Yf3
 cases H[ev.length]? with
 | none=>exact Yio
 | some b=>exact Yip b
theorem Yt9(k:Kd)(R:List Rl)(H ev:List Bool):wonO k R H ev=if ev.length < H.length then .non else hnD (decide (brk k ev R=[])):=by
 unfold wonO hnD
 by_cases h:brk k ev R=[]<;>simp[h]
theorem Yo2(k:Kd)(R:List Rl)(H ev:List Bool):Ybh [wonO k R H ev,wonO k R H ev]=some (.bl true):=by
 rw[Yt9]
 split
 ·exact Yio
 ·exact Yip _
theorem Yzn(ev:List Bool)(h:ev.length<=1000):Pl (.tup (ev.map D.bl)):=by
 rw[Pl]
 refine⟨by simp;omega,?_⟩
 induction ev with
 | nil=>rw[List.map_nil,PlL];trivial
 | cons b ev ih=>rw[qz,PlL];exact⟨by simp[Pl],ih (by simp at h;omega)⟩
theorem Yua(ev:List Bool):dep (.tup (ev.map D.bl))<=1:=by
 rw[Ydu]
 have:depL (ev.map D.bl)<=0:=Yew fun d hd=>by
  obtain⟨x,_,rfl⟩:=qv hd
  exact qs _
 omega
end Lw
namespace Lw
open PySem L2 M Bk
section
variable {τ:Type} {f g:Ro->τ->Option (OutW τ)} {ρ ρ':Ro} {t t':τ}
theorem Yay(h:f ρ t=some (.nx ρ' t')):seqW f g ρ t=g ρ' t':=by
 unfold seqW
 rw[h]
 rfl
theorem Yeh{f:Ro->Option Out}(h:f ρ=some (.nx ρ')):Ycr f ρ t=some (.nx ρ' t):=by
 unfold Ycr
 rw[h]
 rfl
theorem Ys8{f:Ro->Option Out}{d:D}(h:f ρ=some (.rt d)):Ycr f ρ t=some (.rt d t):=by
 unfold Ycr
 rw[h]
 rfl
theorem Yzo{c:Ro->τ->Option Bool}(h:c ρ t=some true):ifW c f g ρ t=f ρ t:=by
 unfold ifW
 rw[h]
 rfl
theorem Yo3{c:Ro->τ->Option Bool}(h:c ρ t=some false):ifW c f g ρ t=g ρ t:=by
 unfold ifW
 rw[h]
 rfl
theorem Yn1{gt:D->Ro->Option Ro}{fb:Ro->τ->Option (OutW τ)}{α:Type}(enc:α->D)(I:List α->Ro->τ->Prop):∀(l pre:List α) (ρ:Ro) (t:τ),I pre ρ t->
 (∀q a r ρ t,pre++l=q++a::r->I q ρ t->∃ρ1 ρ2 t2,gt (enc a) ρ=some ρ1/\fb ρ1 t=some (.nx ρ2 t2)/\I (q++[a]) ρ2 t2)->∃ρ' t',forW gt fb (l.map enc) ρ t=some (.nx ρ' t')/\I (pre++l) ρ' t'
 | [],pre,ρ,t,h0,_=>⟨ρ,t,rfl,by rw[List.append_nil];exact h0⟩
 | a::l,pre,ρ,t,h0,hs=>by
   obtain⟨ρ1,ρ2,t2,e1,e2,h2⟩:=hs pre a l ρ t rfl h0
   obtain⟨ρ',t',e3,h3⟩:=Yn1 enc I l (pre++[a]) ρ2 t2 h2 fun q b r ρ t e hI=>hs q b r ρ t (by rw[<-e,List.append_assoc];rfl) hI
   refine⟨ρ',t',?_,by rw[List.append_assoc]at h3;exact h3⟩
   rw[qz,forW,e1,qc,e2,qc]
   exact e3
end
theorem Yub{l i:Nat}{ρ:Ro}{t:List Bool}{b h:D}(hi:ρ[i]?=some (some (.sh (watD b h (.adr l))))):thw l i ρ t=some (ρ.set i (some (.sh (watD b h (.lst (t.map D.bl)))))):=by
 unfold thw
 rw[hi]
 show(if l=l then some _ else none)=_
 rw[if_pos rfl]
theorem Yn2{k:Kd}{R:List Rl}{H ev:List Bool}(hlt:ev.length < H.length)(hH:H.length<=60)(hR:∀r∈R,OkR k H.length r/\sz r<=9999)(l:Addr)(c:Bool) :
 Yaj l [some (.sh (watD (Yt k R) (.tup (H.map hnD)) (.adr l))),some (.sh (.bl c))] ev=some (.rt (wonO k R H (ev++[c])) (ev++[c])):=by
 have m1:=Ylk "turn" (by decide) Yaa (Yt k R) (.tup (H.map hnD)) (.lst (ev.map D.bl))
 rw[Yrs (Nat.le_of_lt hlt),Yjy hlt]at m1
 have m4:=Ylk "winner" (by decide) Yae (Yt k R) (.tup (H.map hnD)) (.lst ((ev++[c]).map D.bl))
 rw[Yn0 (by rw[qw];exact hlt) hR]at m4
 have sc:=Yzm k R H (ev++[c])
 have hn:isN false (hnD H[ev.length]) .non=some false:=rfl
 have th:∀t:List Bool,thw l 0 [some (.sh (watD (Yt k R) (.tup (H.map hnD)) (.adr l))),some (.sh (.bl c))] t=some [some (.sh (watD (Yt k R) (.tup (H.map hnD)) (.lst (t.map D.bl)))),some (.sh (.bl c))]:=fun t=>Yub rfl
 generalize wonO k R H (ev++[c])=wq at *
 generalize hnD H[ev.length]=tq at *
 unfold Yaj
 rw[Yay (ρ':=[some (.sh (watD (Yt k R) (.tup (H.map hnD)) (.adr l))),some (.sh (.bl c))]) (t':=ev),Yay (ρ':=[some (.sh (watD (Yt k R) (.tup (H.map hnD)) (.adr l))),some (.sh (.bl c))]) (t':=ev),Yay (ρ':=[some (.sh (watD (Yt k R) (.tup (H.map hnD)) (.adr l))),some (.sh (.bl c))]) (t':=ev++[c])]
 ·unfold retL
  rw[th,qc]
  have:b1 (getV 0) (mthD "Watch" "winner" Yae) [some (.sh (watD (Yt k R) (.tup (H.map hnD)) (.lst ((ev++[c]).map D.bl)))),some (.sh (.bl c))]=some wq:=by
   simp only[Yy0,gV0,qc]
   exact m4
  rw[this,qc,if_pos sc]
 ·unfold appW
  have hw:ev.length < 1000000:=by omega
  show(if l=l/\("Watch":Str)="Watch"/\wks=wks/\ev.length < 1000000 then _ else none)=_
  rw[if_pos ⟨rfl,rfl,rfl,hw⟩]
  rfl
 ·refine Yeh ?_
  cases c<;>rfl
 ·rw[Yo3]
  ·rfl
  ·unfold Yq5
   rw[th,qc]
   have:b1 (getV 0) (mthD "Watch" "turn" Yaa) [some (.sh (watD (Yt k R) (.tup (H.map hnD)) (.lst (ev.map D.bl)))),some (.sh (.bl c))]=some tq:=by
    simp only[Yy0,gV0,qc]
    exact m1
   show(b1 (getV 0) (mthD "Watch" "turn" Yaa) _).bind _=_
   rw[this,qc]
   exact hn
theorem Yru(b:Bool):Yhg [hnD b]=some (.bl true):=by
 cases b<;>rfl
theorem Ywt{k:Kd}{R:List Rl}{H:List Bool}(hH:H.length<=60)(hl:R.length<=20)(hR:∀r∈R,OkR k H.length r/\sz r<=100){h:D}(hh:h=.lst (H.map hnD)\/h=.tup (H.map hnD)):Ya9 [Yt k R,h]=some .non:=by
 rw[Ya9,Yam (by rfl)]
 have hst:Yv 2 [Yt k R,h]=[some (.sh (Yt k R)),some (.sh h)]:=rfl
 rw[hst]
 obtain⟨l,_,hm,hb⟩:=Ylh (k:=k) (n:=H.length) (m:=101) (R:=R) (by omega) (fun r hr=>⟨(hR r hr).1.1,by have:=(hR r hr).2;omega⟩) (by omega)
 have c0:=Yku (fe:=Ybx) (r:=[]) (enc:=hnD) (fun _=>D.bl true) (l:=H) (fun b _=>by
  have:=Yru b
  simp[Ybx,this])
 have hi:Ys h=some (H.map hnD):=by rcases hh with rfl | rfl<;>rfl
 have hlen:lenC [h]=some (.int (H.length:Int)):=by rcases hh with rfl | rfl<;>simp
 have c1:=Yku (fe:=Yby) (r:=[some (.sh h)]) (enc:=nD) (fun _=>D.bl false) (l:=l) (fun b hb=>by
  have:b < H.length:=by
   obtain⟨r,hr,hx⟩:=(hm b).mp hb
   exact Ytz (hR r hr).1.1 b hx
  simp[Yby,hlen,nD]
  omega)
 have g1:¬((60:Int) < (H.length:Int)):=by omega
 have b0:=Ygh (fun _:Bool=>true) H
 have b1:=Ygh (fun _:Nat=>false) l
 rcases hh with rfl | rfl
 ·simp[Ydd,hlen,g1,capR,c0,c1,hb,hi,b0,b1]
 ·simp[Ydd,hlen,g1,capR,c0,c1,hb,hi,b0,b1]
end Lw
namespace Lw
open PySem L2 M Bk
mutual
theorem Yln(ks:List Addr)(ts:Ts):∀d:D,plB d=true->thD ks ts d=d
 | .tup l,h=>by rw[plB]at h;rw[thD,Yrv ks ts l h]
 | .non,_=>by rw[thD]
 | .bl _,_=>by rw[thD]
 | .int _,_=>by rw[thD]
 | .str _,_=>by rw[thD]
 | .lst _,h=>by rw[plB]at h;cases h
 | .scr _,h=>by rw[plB]at h;cases h
 | .dct _ _ _,h=>by rw[plB]at h;cases h
 | .obj _ _ _,h=>by rw[plB]at h;cases h
 | .adr _,h=>by rw[plB]at h;cases h
theorem Yrv(ks:List Addr)(ts:Ts):∀l:List D,plBL l=true->thL ks ts l=l
 | [],_=>by rw[thL]
 | d::l,h=>by
   rw[plBL,Qg]at h
   rw[thL,Yln ks ts d h.1,Yrv ks ts l h.2]
end
theorem y0z(r:Rl):plB (rlD r)=true:=by
 have hs:∀l:List Say,plBL (l.map sayD)=true:=fun l=>by
  induction l with
  | nil=>rfl
  | cons a l ih=>rw[qz,plBL,ih];rfl
 have hn:∀l:List Nat,plBL (l.map nD)=true:=fun l=>by
  induction l with
  | nil=>rfl
  | cons a l ih=>rw[qz,plBL,ih];rfl
 cases r with
 | ei l=>exact hs l
 | su l o=>show(plBL (l.map nD)&&(plB (.bl o)&&plBL []))=true;rw[hn];rfl
 | im l h=>show(plBL (l.map nD)&&(plB (optD h)&&plBL []))=true;rw[hn];cases h<;>rfl
theorem Yzp(R:List Rl):plBL (R.map rlD)=true:=by
 induction R with
 | nil=>rfl
 | cons a l ih=>rw[qz,plBL,ih,y0z];rfl
theorem Yjz(k:Kd)(R:List Rl):plB (Yt k R)=true:=by
 show(plB (kdD k)&&(plBL (R.map rlD)&&plBL []))=true
 rw[Yzp]
 rfl
theorem Yrw(H:List Bool):plBL (H.map hnD)=true:=by
 induction H with
 | nil=>rfl
 | cons a l ih=>rw[qz,plBL,ih];rfl
theorem Yuc(H:List Bool):plB (.tup (H.map hnD))=true:=Yrw H
theorem Yud(ev:List Bool):plBL (ev.map D.bl)=true:=by
 induction ev with
 | nil=>rfl
 | cons a l ih=>rw[qz,plBL,ih];rfl
theorem Ywu{k:Kd}{R:List Rl}{H ev:List Bool}(h:ev.length<=H.length)(hH:H.length<=60)(hl:R.length<=1000)(hR:∀r∈R,OkR k H.length r/\sz r<=9999):Ya5 [wtD k R H ev,Yt k R,.lst (H.map hnD),.lst (ev.map D.bl)]=some (.bl true):=by
 rw[Ya5,Yam (by rfl)]
 have m1:=Ylk "turn" (by decide) Yaa (Yt k R) (.tup (H.map hnD)) (.lst (ev.map D.bl))
 rw[Yrs h]at m1
 have m2:=Ylk "evening" (by decide) Yz (Yt k R) (.tup (H.map hnD)) (.lst (ev.map D.bl))
 rw[Yll]at m2
 have m3:=Ylk "left" (by decide) Ybr (Yt k R) (.tup (H.map hnD)) (.lst (ev.map D.bl))
 rw[Yzl H ev hR]at m3
 have m4:=Ylk "winner" (by decide) Yae (Yt k R) (.tup (H.map hnD)) (.lst (ev.map D.bl))
 rw[Yn0 h hR]at m4
 have s2:=Yzk (Yzn ev (by omega)) (Nat.lt_of_le_of_lt (Yua ev) (by omega))
 have hpb:Pl (Yt k (lfs k 0 ev R)):=Ywe (qy (Yrt k ev 0 R) (by omega)) fun q hq=>qy (Yt6 ev 0 hR q hq).2 (by omega)
 have s3:=Ynr hpb (qy (Ysx _ _) (by omega)) false
 have t1:=Ymw H ev
 have t4:=Yo2 k R H ev
 have hwalk:∀y0 y1 y2 y3 y4 y5:Option B,∃z7 z8,M.forM (Ydl 7 8) Ya0 (Yg1 (ev.map D.bl)) [y0,y1,y2,y3,y4,y5,some (.sh (Yt k R)),none,none]=some (.nx [y0,y1,y2,y3,y4,y5,some (.sh (Yt k (lfs k 0 ev R))),z7,z8]):=fun y0 y1 y2 y3 y4 y5=>by
  rw[Yt8]
  have go:∀(ev:List Bool) (i:Nat) (R:List Rl) (u7 u8:Option B),(∀r∈R,OkR k H.length r/\sz r<=9999)->∃z7 z8,M.forM (Ydl 7 8) Ya0 (enB i ev) [y0,y1,y2,y3,y4,y5,some (.sh (Yt k R)),u7,u8]=some (.nx [y0,y1,y2,y3,y4,y5,some (.sh (Yt k (lfs k i ev R))),z7,z8]):=fun ev=>by
   induction ev with
   | nil=>intro i R u7 u8 _;exact⟨u7,u8,rfl⟩
   | cons b ev ih=>
     intro i R u7 u8 hR
     have h:=Yfm (fun r hr=>(hR r hr).1.1) (fun r hr=>qy (hR r hr).2 (by omega)) i b
     obtain⟨z7,z8,e⟩:=ih (i+1) _ (some (.sh (.int (i:Int)))) (some (.sh (.bl b))) (Yhq (b:=i) (lit:=b) hR)
     refine⟨z7,z8,?_⟩
     rw[enB,M.forM]
     have hg:Ydl 7 8 (.tup [.int (i:Int),.bl b]) [y0,y1,y2,y3,y4,y5,some (.sh (Yt k R)),u7,u8]=some [y0,y1,y2,y3,y4,y5,some (.sh (Yt k R)),some (.sh (.int (i:Int))),some (.sh (.bl b))]:=rfl
     have hl:Ya0 [y0,y1,y2,y3,y4,y5,some (.sh (Yt k R)),some (.sh (.int (i:Int))),some (.sh (.bl b))]=some (.nx [y0,y1,y2,y3,y4,y5,some (.sh (Yt k (R.filterMap (Ybm k i b)))),some (.sh (.int (i:Int))),some (.sh (.bl b))]):=by
      simp[Ya0,h]
     rw[hg,qc,hl,qc]
     exact e
  exact go ev 0 R none none hR
 have hst:Yv 9 [wtD k R H ev,Yt k R,.lst (H.map hnD),.lst (ev.map D.bl)]=[some (.sh (wtD k R H ev)),some (.sh (Yt k R)),some (.sh (.lst (H.map hnD))),some (.sh (.lst (ev.map D.bl))),none,none,none,none,none]:=rfl
 rw[hst]
 obtain⟨z7,z8,hw⟩:=hwalk (some (.sh (wtD k R H ev))) (some (.sh (Yt k R))) (some (.sh (.lst (H.map hnD)))) (some (.sh (.lst (ev.map D.bl)))) (some (.sh (Yf3 H ev))) (some (.sh (wonO k R H ev)))
 have tail:Yb6 [some (.sh (wtD k R H ev)),some (.sh (Yt k R)),some (.sh (.lst (H.map hnD))),some (.sh (.lst (ev.map D.bl))),some (.sh (Yf3 H ev)),some (.sh (wonO k R H ev)),none,none,none]=some (.rt (.bl true)):=by
  generalize Yt k (lfs k 0 ev R)=bq at *
  generalize Yf3 H ev=tq at *
  generalize wonO k R H ev=wq at *
  simp[hw,m1,m2,m3,m4,s2,s3,t1,t4]
 by_cases hlt:ev.length < H.length
 ·have hat:atI (H.map hnD) (ev.length:Int)=some (hnD (H[ev.length])):=by
   rw[Yjd,Yfg hlt]
   rfl
  have e1:Yf3 H ev=hnD (H[ev.length]):=Yjy hlt
  have e2:wonO k R H ev=.non:=by unfold wonO;rw[if_pos hlt]
  rw[e1,e2]at tail
  simp only[Ye1,Ydi,Ydh]
  generalize Yb6=T at tail ⊢
  simp[hlt,hat,tail]
 ·have he:=Yrq (c:=.lst (ev.map D.bl)) (ev:=ev) rfl (k:=k) (R:=R) (fun r hr=>by rw[show ev.length=H.length by omega];exact(hR r hr).1.1)
  have e1:Yf3 H ev=.non:=Ymv hlt
  have e2:wonO k R H ev=hnD (decide (brk k ev R=[])):=by rw[Yt9,if_neg hlt]
  rw[e1,e2]at tail
  simp only[Ye1,Ydi,Ydh]
  generalize Yb6=T at tail ⊢
  have a1:atI [D.str "storm",D.str "keeper"] 1=some (hnD true):=rfl
  have a0:atI [D.str "storm",D.str "keeper"] 0=some (hnD false):=rfl
  cases hb:decide (brk k ev R=[])with
  | true=>
    rw[hb]at tail he
    simp[hlt,he,a1,tail]
  | false=>
    rw[hb]at tail he
    simp[hlt,he,a0,tail]
theorem Yue{k:Kd}{R:List Rl}{H ev:List Bool}{c:Bool}(l:Addr) :
 Yaw l [some (.sh (watD (Yt k R) (.tup (H.map hnD)) (.adr l)))] (ev++[c])=some (.rt (.bl c) ev):=by
 have th:∀t:List Bool,thw l 0 [some (.sh (watD (Yt k R) (.tup (H.map hnD)) (.adr l)))] t=some [some (.sh (watD (Yt k R) (.tup (H.map hnD)) (.lst (t.map D.bl))))]:=fun t=>Yub rfl
 unfold Yaw
 rw[Yay (ρ':=[some (.sh (watD (Yt k R) (.tup (H.map hnD)) (.adr l)))]) (t':=ev++[c])]
 ·unfold Ynt
  show(if l=l/\("Watch":Str)="Watch"/\wks=wks then _ else none)=_
  rw[if_pos ⟨rfl,rfl,rfl⟩,List.getLast?_concat,List.dropLast_concat]
  rfl
 ·rw[Yo3]
  ·rfl
  ·unfold Yq5
   rw[th,qc]
   have:¬(((ev.length:Int)+1)=0):=by omega
   simp[this]
end Lw
namespace Lw
open PySem L2 M Bk
def Pls(y:Option B):Prop:=∀ks ts,Option.map (thB ks ts) y=y
theorem Yj0:Pls none:=fun _ _=>rfl
theorem Yd5{d:D}(h:plB d=true):Pls (some (.sh d)):=fun ks ts=>by
 show some (B.sh (thD ks ts d))=_
 rw[Yln ks ts d h]
theorem Yrx{l:List D}(h:plBL l=true):Pls (some (.ow l)):=fun ks ts=>by
 show some (B.ow (thL ks ts l))=_
 rw[Yrv ks ts l h]
section
variable (ns:List Int) (k:Kd) (n:Nat) (R:List Rl) (H:List Bool) (l m p q:Addr) (y5 y9 y10 y11 y12 y13:Option B) (hd:List D)
abbrev roA:Ro:=[some (.sh (.scr ns)),some (.sh (kdD k)),some (.sh (.int (n:Int))),some (.sh (Yt k R)),some (.ow (H.map hnD)),y5,some (.ow [watD (Yt k R) (.tup (H.map hnD)) (.adr l),watD (Yt k R) (.tup (H.map hnD)) (.adr m)]),some (.ow [.adr p,.adr q]),some (.ow hd),y9,y10,y11,y12,y13]
abbrev roT(a0 a1 v0 v1:List Bool):Ro:=[some (.sh (.scr ns)),some (.sh (kdD k)),some (.sh (.int (n:Int))),some (.sh (Yt k R)),some (.ow (H.map hnD)),y5,some (.ow [wtD k R H a0,wtD k R H a1]),some (.ow [.lst (v0.map D.bl),.lst (v1.map D.bl)]),some (.ow hd),y9,y10,y11,y12,y13]
structure Dst:Prop where
 lm:l≠m
 lp:l≠p
 lq:l≠q
 mp:m≠p
 mq:m≠q
 pq:p≠q
variable {l m p q}
theorem lks(d:Dst l m p q)(a0 a1 v0 v1:List Bool):(([l,m]++[p,q]).zip [a0,a1,v0,v1]).lookup l=some a0/\(([l,m]++[p,q]).zip [a0,a1,v0,v1]).lookup m=some a1/\(([l,m]++[p,q]).zip [a0,a1,v0,v1]).lookup p=some v0/\(([l,m]++[p,q]).zip [a0,a1,v0,v1]).lookup q=some v1:=by
 have h1:(m==l)=false:=by rw[beq_eq_false_iff_ne];exact Ne.symm d.lm
 have h2:(p==l)=false:=by rw[beq_eq_false_iff_ne];exact Ne.symm d.lp
 have h3:(q==l)=false:=by rw[beq_eq_false_iff_ne];exact Ne.symm d.lq
 have h4:(p==m)=false:=by rw[beq_eq_false_iff_ne];exact Ne.symm d.mp
 have h5:(q==m)=false:=by rw[beq_eq_false_iff_ne];exact Ne.symm d.mq
 have h6:(q==p)=false:=by rw[beq_eq_false_iff_ne];exact Ne.symm d.pq
 simp[List.lookup,h1,h2,h3,h4,h5,h6]
theorem pos4(d:Dst l m p q):Yek ([l,m]++[p,q]) l=some 0/\Yek ([l,m]++[p,q]) m=some 1/\Yek ([l,m]++[p,q]) p=some 2/\Yek ([l,m]++[p,q]) q=some 3:=by
 have h1:=d.lm
 have h2:=d.lp
 have h3:=d.lq
 have h4:=d.mp
 have h5:=d.mq
 have h6:=d.pq
 simp[Yek,h1,h2,h3,h4,h5,h6]
variable {y5 y9 y10 y11 y12 y13 hd}
theorem Ys9(d:Dst l m p q)(a0 a1 v0 v1:List Bool)(h5:Pls y5)(h9:Pls y9)(h10:Pls y10)(h11:Pls y11)(h12:Pls y12)(h13:Pls y13)(hh:plBL hd=true) :
 thR ([l,m]++[p,q]) [a0,a1,v0,v1] (roA ns k n R H l m p q y5 y9 y10 y11 y12 y13 hd)=roT ns k n R H y5 y9 y10 y11 y12 y13 hd a0 a1 v0 v1:=by
 obtain⟨k1,k2,k3,k4⟩:=lks d a0 a1 v0 v1
 generalize [l,m]++[p,q]=ks at *
 generalize [a0,a1,v0,v1]=ts at *
 have hb:=Yln ks ts _ (Yjz k R)
 have ht:=Yln ks ts _ (Yuc H)
 have hw:∀(x:Addr) (v:List Bool),(ks.zip ts).lookup x=some v->thD ks ts (watD (Yt k R) (.tup (H.map hnD)) (.adr x))=wtD k R H v:=fun x v hx=>by
  rw[thD,thL,thL,thL,thL,hb,ht,thD,hx]
 have ha:∀(x:Addr) (v:List Bool),(ks.zip ts).lookup x=some v->thD ks ts (.adr x)=.lst (v.map D.bl):=fun x v hx=>by
  rw[thD,hx]
 unfold thR
 simp only[qz,List.map_nil,h5 ks ts,h9 ks ts,h10 ks ts,h11 ks ts,h12 ks ts,h13 ks ts,Yrx hh ks ts,Yrx (Yrw H) ks ts,Yd5 (Yjz k R) ks ts]
 simp only[Option.map_some,thB,thL,hw l a0 k1,hw m a1 k2,ha p v0 k3,ha q v1 k4]
 have e1:thD ks ts (.scr ns)=.scr ns:=by rw[thD]
 have e2:thD ks ts (kdD k)=kdD k:=Yln ks ts _ rfl
 have e3:thD ks ts (.int (n:Int))=.int (n:Int):=by rw[thD]
 rw[e1,e2,e3]
abbrev atD(a:Bool):Option B:=some (.sh (.int (if a then 1 else 0)))
theorem Yfn(a:Bool):Pls (atD a):=Yd5 rfl
def sl2{α:Type}(a:Bool)(x y:α):α:=if a then y else x
theorem Yzq(d:Dst l m p q)(a:Bool)(e0 e1:List Bool)(h5:Pls y5)(h9:Pls y9)(h11:Pls y11)(h12:Pls y12)(h13:Pls y13)(hh:plBL hd=true)(hl:hd.length < 1000000) :
 appT ([l,m]++[p,q]) 8 (dTup (Ye (b1 (b2 (getC 6) (getC 10) ixD) (mthD "Watch" "evening" Yz)) (Ye (cC (Ye (b2 (getC 7) (getC 10) ixD) aNil) tupC) aNil))) (roA ns k n R H l m p q y5 y9 (atD a) y11 y12 y13 hd) [e0,e1,e0,e1]
  = some (.nx (roA ns k n R H l m p q y5 y9 (atD a) y11 y12 y13 (hd++[.tup [.tup ((sl2 a e0 e1).map D.bl),.tup ((sl2 a e0 e1).map D.bl)]])) [e0,e1,e0,e1]):=by
 have m2:=fun ev:List Bool=>Ylk "evening" (by decide) Yz (Yt k R) (.tup (H.map hnD)) (.lst (ev.map D.bl))
 have m3:∀ev:List Bool,mthD "Watch" "evening" Yz (wtD k R H ev)=some (.tup (ev.map D.bl)):=fun ev=>by rw[m2 ev,Yll]
 unfold appT
 rw[Ys9 ns k n R H d e0 e1 e0 e1 h5 h9 (Yfn a) h11 h12 h13 hh]
 have hf:dTup (Ye (b1 (b2 (getC 6) (getC 10) ixD) (mthD "Watch" "evening" Yz)) (Ye (cC (Ye (b2 (getC 7) (getC 10) ixD) aNil) tupC) aNil)) (roT ns k n R H y5 y9 (atD a) y11 y12 y13 hd e0 e1 e0 e1)=some (.tup [.tup ((sl2 a e0 e1).map D.bl),.tup ((sl2 a e0 e1).map D.bl)]):=by
  cases a with
  | false=>
    have e2:(b2 (getC 6) (getC 10) ixD) (roT ns k n R H y5 y9 (atD false) y11 y12 y13 hd e0 e1 e0 e1)=some (wtD k R H e0):=rfl
    have e3:(b2 (getC 7) (getC 10) ixD) (roT ns k n R H y5 y9 (atD false) y11 y12 y13 hd e0 e1 e0 e1)=some (.lst (e0.map D.bl)):=rfl
    generalize (b2 (getC 6) (getC 10) ixD)=g6 at e2 ⊢
    generalize (b2 (getC 7) (getC 10) ixD)=g7 at e3 ⊢
    simp[e2,e3,m3,sl2]
  | true=>
    have e2:(b2 (getC 6) (getC 10) ixD) (roT ns k n R H y5 y9 (atD true) y11 y12 y13 hd e0 e1 e0 e1)=some (wtD k R H e1):=rfl
    have e3:(b2 (getC 7) (getC 10) ixD) (roT ns k n R H y5 y9 (atD true) y11 y12 y13 hd e0 e1 e0 e1)=some (.lst (e1.map D.bl)):=rfl
    generalize (b2 (getC 6) (getC 10) ixD)=g6 at e2 ⊢
    generalize (b2 (getC 7) (getC 10) ixD)=g7 at e3 ⊢
    simp[e2,e3,m3,sl2]
 rw[hf]
 have hp:plB (.tup [.tup ((sl2 a e0 e1).map D.bl),.tup ((sl2 a e0 e1).map D.bl)])=true:=by
  show(plBL ((sl2 a e0 e1).map D.bl)&&(plBL ((sl2 a e0 e1).map D.bl)&&true))=true
  rw[Yud]
  rfl
 show(if plB _=true/\hd.length < 1000000 then _ else none)=_
 rw[if_pos ⟨hp,hl⟩]
 rfl
end
end Lw
namespace Lw
open PySem L2 M Bk
section
variable (ns:List Int) (k:Kd) (n:Nat) (R:List Rl) (H:List Bool) {l m p q:Addr} {y5 y9 y10 y11 y12 y13:Option B} {hd:List D}
abbrev fo(e0 e1:List Bool):Ts:=[e0,e1,e0,e1]
theorem Yzr(d:Dst l m p q)(a:Bool)(c:Int)(e0 e1:List Bool)(h5:Pls y5)(h11:Pls y11)(h12:Pls y12)(h13:Pls y13)(hh:plBL hd=true) :
 Yjg ([l,m]++[p,q]) (andT (b2 (cC (Ye (b2 (getC 7) (getC 10) ixD) aNil) lenC) (kD (.int 0)) gtI) (orT (b2 (b2 (b2 (getC 9) (kD (.int 2)) divI) (kD (.int 3)) modI) (kD (.int 0)) (eqM false)) (b2 (cC (Ye (b2 (getC 7) (getC 10) ixD) aNil) lenC) (getC 2) (eqM false)))) (roA ns k n R H l m p q y5 (some (.sh (.int c))) (atD a) y11 y12 y13 hd) (fo e0 e1)
  = some (decide (0 < (sl2 a e0 e1).length)&&(decide (c / 2 % 3=0)||decide ((sl2 a e0 e1).length=n))):=by
 unfold Yjg
 rw[Ys9 ns k n R H d e0 e1 e0 e1 h5 (Yd5 rfl) (Yfn a) h11 h12 h13 hh]
 have e3:(b2 (getC 7) (getC 10) ixD) (roT ns k n R H y5 (some (.sh (.int c))) (atD a) y11 y12 y13 hd e0 e1 e0 e1)=some (.lst ((sl2 a e0 e1).map D.bl)):=by cases a<;>rfl
 generalize sl2 a e0 e1=ev at *
 generalize (b2 (getC 7) (getC 10) ixD)=g7 at e3 ⊢
 have i1:((ev.length:Int)=(n:Int))↔ev.length=n:=by omega
 by_cases h0:0 < ev.length
 ·by_cases h1:c / 2 % 3=0
  ·simp[e3,h0,h1]
  ·by_cases h2:ev.length=n
   ·have h0n:0 < n:=by omega
    simp[e3,h1,h2,h0n]
   ·simp[e3,h0,h1,h2,i1]
 ·simp[e3,h0]
theorem Ywv(d:Dst l m p q)(a:Bool)(c:Int)(e0 e1:List Bool)(h5:Pls y5)(h11:Pls y11)(h12:Pls y12)(h13:Pls y13)(hh:plBL hd=true) :
 Yjg ([l,m]++[p,q]) (b2 (cC (Ye (b2 (getC 7) (getC 10) ixD) aNil) lenC) (getC 2) ltI) (roA ns k n R H l m p q y5 (some (.sh (.int c))) (atD a) y11 y12 y13 hd) (fo e0 e1)=some (decide ((sl2 a e0 e1).length < n)):=by
 unfold Yjg
 rw[Ys9 ns k n R H d e0 e1 e0 e1 h5 (Yd5 rfl) (Yfn a) h11 h12 h13 hh]
 have e3:(b2 (getC 7) (getC 10) ixD) (roT ns k n R H y5 (some (.sh (.int c))) (atD a) y11 y12 y13 hd e0 e1 e0 e1)=some (.lst ((sl2 a e0 e1).map D.bl)):=by cases a<;>rfl
 generalize sl2 a e0 e1=ev at *
 generalize (b2 (getC 7) (getC 10) ixD)=g7 at e3 ⊢
 by_cases h2:ev.length < n
 ·simp[e3,h2]
 ·simp[e3,h2]
theorem y00(d:Dst l m p q)(a:Bool)(c:Bool)(f0 f1 e0 e1:List Bool)(he:sl2 a e0 e1=sl2 a f0 f1++[c])(ho:sl2 (!a) e0 e1=sl2 (!a) f0 f1) :
 Yos ([l,m]++[p,q]) 11 (b2 (getC 7) (getC 10) ixD) (roA ns k n R H l m p q y5 y9 (atD a) y11 y12 y13 hd) (fo e0 e1)=some (.nx (roA ns k n R H l m p q y5 y9 (atD a) (some (.sh (.bl c))) y12 y13 hd) [e0,e1,f0,f1]):=by
 obtain⟨p1,p2,p3,p4⟩:=pos4 d
 cases a with
 | false=>
   have he:e0=f0++[c]:=he
   have ho:e1=f1:=ho
   subst he ho
   have e3:(b2 (getC 7) (getC 10) ixD) (roA ns k n R H l m p q y5 y9 (atD false) y11 y12 y13 hd)=some (.adr p):=rfl
   unfold Yos
   rw[e3,qc]
   show(Yek ([l,m]++[p,q]) p).bind _=_
   rw[p3,qc]
   show((f0++[c]).getLast?).bind _=_
   rw[List.getLast?_concat,qc,List.dropLast_concat]
   rfl
 | true=>
   have he:e1=f1++[c]:=he
   have ho:e0=f0:=ho
   subst he ho
   have e3:(b2 (getC 7) (getC 10) ixD) (roA ns k n R H l m p q y5 y9 (atD true) y11 y12 y13 hd)=some (.adr q):=rfl
   unfold Yos
   rw[e3,qc]
   show(Yek ([l,m]++[p,q]) q).bind _=_
   rw[p4,qc]
   show((f1++[c]).getLast?).bind _=_
   rw[List.getLast?_concat,qc,List.dropLast_concat]
   rfl
theorem Yzs(d:Dst l m p q)(a:Bool)(c:Bool)(f0 f1 e0 e1:List Bool)(he:sl2 a e0 e1=sl2 a f0 f1++[c])(ho:sl2 (!a) e0 e1=sl2 (!a) f0 f1) :
 You ([l,m]++[p,q]) 12 (b2 (getC 6) (getC 10) ixD) Yaw (roA ns k n R H l m p q y5 y9 (atD a) y11 y12 y13 hd) [e0,e1,f0,f1]=some (.nx (roA ns k n R H l m p q y5 y9 (atD a) y11 (some (.sh (.bl c))) y13 hd) (fo f0 f1)):=by
 obtain⟨p1,p2,p3,p4⟩:=pos4 d
 cases a with
 | false=>
   have he:e0=f0++[c]:=he
   have ho:e1=f1:=ho
   subst he ho
   have hb:=Yue (k:=k) (R:=R) (H:=H) (ev:=f0) (c:=c) l
   have e3:(b2 (getC 6) (getC 10) ixD) (roA ns k n R H l m p q y5 y9 (atD false) y11 y12 y13 hd)=some (watD (Yt k R) (.tup (H.map hnD)) (.adr l)):=rfl
   unfold You
   rw[e3,qc]
   show(if ("Watch":Str)="Watch"/\wks=wks then _ else none)=_
   rw[if_pos ⟨rfl,rfl⟩,p1,qc]
   show(Yaw l [some (.sh (watD (Yt k R) (.tup (H.map hnD)) (.adr l)))] (f0++[c])).bind _=_
   rw[hb,qc]
   rfl
 | true=>
   have he:e1=f1++[c]:=he
   have ho:e0=f0:=ho
   subst he ho
   have hb:=Yue (k:=k) (R:=R) (H:=H) (ev:=f1) (c:=c) m
   have e3:(b2 (getC 6) (getC 10) ixD) (roA ns k n R H l m p q y5 y9 (atD true) y11 y12 y13 hd)=some (watD (Yt k R) (.tup (H.map hnD)) (.adr m)):=rfl
   unfold You
   rw[e3,qc]
   show(if ("Watch":Str)="Watch"/\wks=wks then _ else none)=_
   rw[if_pos ⟨rfl,rfl⟩,p2,qc]
   show(Yaw m [some (.sh (watD (Yt k R) (.tup (H.map hnD)) (.adr m)))] (f1++[c])).bind _=_
   rw[hb,qc]
   rfl
abbrev litF:Ro->Option D:=(mB (b2 (b2 (b2 (getC 9) (kD (.int 6)) divI) (kD (.int 2)) modI) (kD (.int 1)) (eqM false)))
theorem Yuf(c:Int):litF (roA ns k n R H l m p q y5 (some (.sh (.int c))) y10 y11 y12 y13 hd)=some (.bl (decide (c / 6 % 2=1))):=by
 simp
theorem Yta(d:Dst l m p q)(a:Bool)(c:Int)(e0 e1:List Bool)(hlt:(sl2 a e0 e1).length < H.length)(hH:H.length<=60)(hR:∀r∈R,OkR k H.length r/\sz r<=9999) :
 Yot ([l,m]++[p,q]) (b2 (getC 6) (getC 10) ixD) litF Yaj (roA ns k n R H l m p q y5 (some (.sh (.int c))) (atD a) y11 y12 y13 hd) (fo e0 e1)=some (.nx (roA ns k n R H l m p q y5 (some (.sh (.int c))) (atD a) y11 y12 y13 hd) [if a then e0 else e0++[decide (c / 6 % 2=1)],if a then e1++[decide (c / 6 % 2=1)]else e1,e0,e1]):=by
 obtain⟨p1,p2,p3,p4⟩:=pos4 d
 have hlit:=Yuf (y10:=atD a) ns k n R H (l:=l) (m:=m) (p:=p) (q:=q) (y5:=y5) (y11:=y11) (y12:=y12) (y13:=y13) (hd:=hd) c
 generalize decide (c / 6 % 2=1)=cc at *
 generalize litF=ff at *
 cases a with
 | false=>
   have hs:=Yn2 (k:=k) (R:=R) (H:=H) (ev:=e0) hlt hH hR l cc
   have e3:(b2 (getC 6) (getC 10) ixD) (roA ns k n R H l m p q y5 (some (.sh (.int c))) (atD false) y11 y12 y13 hd)=some (watD (Yt k R) (.tup (H.map hnD)) (.adr l)):=rfl
   unfold Yot
   rw[e3,qc]
   show(if ("Watch":Str)="Watch"/\wks=wks then _ else none)=_
   rw[if_pos ⟨rfl,rfl⟩,p1,qc]
   show(ff _).bind _=_
   rw[hlit,qc]
   show(Yaj l [some (.sh (watD (Yt k R) (.tup (H.map hnD)) (.adr l))),some (.sh (.bl cc))] e0).bind _=_
   rw[hs,qc]
   show(if e0++[cc]=e0++[cc]then _ else none)=_
   rw[if_pos rfl]
   rfl
 | true=>
   have hs:=Yn2 (k:=k) (R:=R) (H:=H) (ev:=e1) hlt hH hR m cc
   have e3:(b2 (getC 6) (getC 10) ixD) (roA ns k n R H l m p q y5 (some (.sh (.int c))) (atD true) y11 y12 y13 hd)=some (watD (Yt k R) (.tup (H.map hnD)) (.adr m)):=rfl
   unfold Yot
   rw[e3,qc]
   show(if ("Watch":Str)="Watch"/\wks=wks then _ else none)=_
   rw[if_pos ⟨rfl,rfl⟩,p2,qc]
   show(ff _).bind _=_
   rw[hlit,qc]
   show(Yaj m [some (.sh (watD (Yt k R) (.tup (H.map hnD)) (.adr m))),some (.sh (.bl cc))] e1).bind _=_
   rw[hs,qc]
   show(if e1++[cc]=e1++[cc]then _ else none)=_
   rw[if_pos rfl]
   rfl
theorem y01(d:Dst l m p q)(a:Bool)(c:Int)(u0 u1 e0 e1:List Bool)(hlt:(sl2 a e0 e1).length < 1000000) :
 Yor ([l,m]++[p,q]) (b2 (getC 7) (getC 10) ixD) litF (roA ns k n R H l m p q y5 (some (.sh (.int c))) (atD a) y11 y12 y13 hd) [u0,u1,e0,e1]=some (.nx (roA ns k n R H l m p q y5 (some (.sh (.int c))) (atD a) y11 y12 y13 hd) [u0,u1,if a then e0 else e0++[decide (c / 6 % 2=1)],if a then e1++[decide (c / 6 % 2=1)]else e1]):=by
 obtain⟨p1,p2,p3,p4⟩:=pos4 d
 have hlit:=Yuf (y10:=atD a) ns k n R H (l:=l) (m:=m) (p:=p) (q:=q) (y5:=y5) (y11:=y11) (y12:=y12) (y13:=y13) (hd:=hd) c
 generalize decide (c / 6 % 2=1)=cc at *
 generalize litF=ff at *
 cases a with
 | false=>
   have e3:(b2 (getC 7) (getC 10) ixD) (roA ns k n R H l m p q y5 (some (.sh (.int c))) (atD false) y11 y12 y13 hd)=some (.adr p):=rfl
   unfold Yor
   rw[e3,qc]
   show(Yek ([l,m]++[p,q]) p).bind _=_
   rw[p3,qc,hlit,qc]
   have hlt:e0.length < 1000000:=hlt
   show(if e0.length < 1000000 then _ else none)=_
   rw[if_pos hlt]
   rfl
 | true=>
   have e3:(b2 (getC 7) (getC 10) ixD) (roA ns k n R H l m p q y5 (some (.sh (.int c))) (atD true) y11 y12 y13 hd)=some (.adr q):=rfl
   unfold Yor
   rw[e3,qc]
   show(Yek ([l,m]++[p,q]) q).bind _=_
   rw[p4,qc,hlit,qc]
   have hlt:e1.length < 1000000:=hlt
   show(if e1.length < 1000000 then _ else none)=_
   rw[if_pos hlt]
   rfl
theorem Yug(d:Dst l m p q)(j:Bool)(e0 e1:List Bool)(h5:Pls y5)(h9:Pls y9)(h10:Pls y10)(h11:Pls y11)(h12:Pls y12)(hh:plBL hd=true)(h0:e0.length<=H.length)(h1:e1.length<=H.length)(hH:H.length<=60)(hl:R.length<=1000)(hR:∀r∈R,OkR k H.length r/\sz r<=9999) :
 Yeg l m p q (roA ns k n R H l m p q y5 y9 y10 y11 y12 (atD j) hd) (fo e0 e1)=some (.nx (roA ns k n R H l m p q y5 y9 y10 y11 y12 (atD j) hd) (fo e0 e1)):=by
 unfold Yeg
 rw[Yo3]
 ·rfl
 ·unfold Yjg
  rw[Ys9 ns k n R H d e0 e1 e0 e1 h5 h9 h10 h11 h12 (Yfn j) hh]
  have hr:=Ywu (k:=k) (R:=R) (H:=H) (ev:=sl2 j e0 e1) (by cases j<;>assumption) hH hl hR
  show(notT (b1 (cC (Ye (b2 (getC 6) (getC 13) ixD) (Ye (getV 3) (Ye (getV 4) (Ye (b2 (getC 7) (getC 13) ixD) aNil)))) Ya5) truD)) (frz [4] (roT ns k n R H y5 y9 y10 y11 y12 (atD j) hd e0 e1 e0 e1))=some false
  have e2:cC (Ye (b2 (getC 6) (getC 13) ixD) (Ye (getV 3) (Ye (getV 4) (Ye (b2 (getC 7) (getC 13) ixD) aNil)))) Ya5 (frz [4] (roT ns k n R H y5 y9 y10 y11 y12 (atD j) hd e0 e1 e0 e1))=Ya5 [wtD k R H (sl2 j e0 e1),Yt k R,.lst (H.map hnD),.lst ((sl2 j e0 e1).map D.bl)]:=by
   cases j<;>rfl
  unfold notT b1
  rw[e2,hr]
  rfl
end
end Lw
namespace Lw
open PySem L2 M Bk
def prD(ev:List Bool):D:=.tup [.tup (ev.map D.bl),.tup (ev.map D.bl)]
theorem Yuh(E:List (List Bool)):plBL (E.map prD)=true:=by
 induction E with
 | nil=>rfl
 | cons e E ih=>
   rw[qz,plBL,ih,Bool.and_true]
   show(plBL (e.map D.bl)&&(plBL (e.map D.bl)&&true))=true
   rw[Yud]
   rfl
section
variable (ns:List Int) (k:Kd) (n:Nat) (R:List Rl) (H:List Bool) {l m p q:Addr}
theorem Yzt(d:Dst l m p q)(c:Int){y5 y10 y11 y12 y13:Option B}(h5:Pls y5)(h11:Pls y11)(h12:Pls y12)(h13:Pls y13)(E:List (List Bool))(hE:E.length<=1000)(hEl:∀e∈E,e.length<=60)(e0 e1:List Bool)(h0:e0.length<=H.length)(h1:e1.length<=H.length)(hn:H.length=n)(hH:H.length<=60)(hl:R.length<=1000)(hR:∀r∈R,OkR k H.length r/\sz r<=9999) :
 ∃y10' y11' y12' y13' ev f0 f1,Yfk l m p q (roA ns k n R H l m p q y5 (some (.sh (.int c))) y10 y11 y12 y13 (E.map prD)) (fo e0 e1)=some (.nx (roA ns k n R H l m p q y5 (some (.sh (.int c))) y10' y11' y12' y13' ((E++[ev]).map prD)) (fo f0 f1))/\Pls y11'/\Pls y12'/\Pls y13'/\f0.length<=H.length/\f1.length<=H.length/\ev.length<=60:=by
 obtain⟨a,ha⟩:∃a:Bool,c % 2=(if a then 1 else 0):=by
  by_cases h:c % 2=1
  ·exact⟨true,by rw[h];rfl⟩
  ·exact⟨false,by have:c % 2=0:=by omega
                  rw[this];rfl⟩
 have hat:Ycr (τ:=Ts) (sSet 10 (b2 (getC 9) (kD (.int 2)) modI)) (roA ns k n R H l m p q y5 (some (.sh (.int c))) y10 y11 y12 y13 (E.map prD)) (fo e0 e1)=some (.nx (roA ns k n R H l m p q y5 (some (.sh (.int c))) (atD a) y11 y12 y13 (E.map prD)) (fo e0 e1)):=by
  refine Yeh ?_
  simp[ha]
 have hpl:=Yuh E
 have hsl:(sl2 a e0 e1).length<=H.length:=by cases a<;>assumption
 have hheld:=Yzq ns k n R H d a e0 e1 h5 (Yd5 (d:=.int c) rfl) h11 h12 h13 hpl (by rw[qe];omega)
 have hE2:E.map prD++[.tup [.tup ((sl2 a e0 e1).map D.bl),.tup ((sl2 a e0 e1).map D.bl)]]=(E++[sl2 a e0 e1]).map prD:=by
  rw[List.map_append]
  rfl
 rw[hE2]at hheld
 have hpl2:=Yuh (E++[sl2 a e0 e1])
 generalize hhd:(E++[sl2 a e0 e1]).map prD=hd at *
 have inner:∀{u11 u12 u13:Option B} (f0 f1:List Bool),Pls u11->Pls u12->f0.length<=H.length->f1.length<=H.length->Ykw (cF (Ye (kD (.int 2)) aNil) rng1) (gSet 13) (Yeg l m p q) (roA ns k n R H l m p q y5 (some (.sh (.int c))) (atD a) u11 u12 u13 hd) (fo f0 f1)=some (.nx (roA ns k n R H l m p q y5 (some (.sh (.int c))) (atD a) u11 u12 (atD true) hd) (fo f0 f1)):=fun {u11 u12 u13} f0 f1 p11 p12 q0 q1=>by
  have r2:rng1 [.int 2]=some [.int 0,.int 1]:=by
   rw[Yg7 (by omega) (by omega)]
   rfl
  have l0:=Yug ns k n R H d false f0 f1 h5 (Yd5 (d:=.int c) rfl) (Yfn a) p11 p12 hpl2 q0 q1 hH hl hR
  have l1:=Yug ns k n R H d true f0 f1 h5 (Yd5 (d:=.int c) rfl) (Yfn a) p11 p12 hpl2 q0 q1 hH hl hR
  unfold Ykw
  show(rng1 [.int 2]).bind _=_
  rw[r2,qc,forW]
  show(Yeg l m p q (roA ns k n R H l m p q y5 (some (.sh (.int c))) (atD a) u11 u12 (atD false) hd) (fo f0 f1)).bind _=_
  rw[l0,qc]
  show(forW _ _ [.int 1] _ _)=_
  rw[forW]
  show(Yeg l m p q (roA ns k n R H l m p q y5 (some (.sh (.int c))) (atD a) u11 u12 (atD true) hd) (fo f0 f1)).bind _=_
  rw[l1,qc]
  rfl
 have ht1:=Yzr ns k n R H d a c e0 e1 h5 h11 h12 h13 hpl2
 have ht2:=Ywv ns k n R H d a c e0 e1 h5 h11 h12 h13 hpl2
 unfold Yfk
 rw[Yay hat,Yay hheld]
 by_cases hb:(decide (0 < (sl2 a e0 e1).length)&&(decide (c / 2 % 3=0)||decide ((sl2 a e0 e1).length=n)))=true
 ·rw[hb]at ht1
  have hpos:0 < (sl2 a e0 e1).length:=by
   simp only[Qg,decide_eq_true_eq]at hb
   exact hb.1
  obtain⟨f0,f1,cc,hf,ho,hf0,hf1⟩:∃f0 f1 cc,sl2 a e0 e1=sl2 a f0 f1++[cc]/\sl2 (!a) e0 e1=sl2 (!a) f0 f1/\f0.length<=H.length/\f1.length<=H.length:=by
   obtain⟨g,cc,hg⟩:∃g cc,sl2 a e0 e1=g++[cc]:=by
    rcases List.eq_nil_or_concat (sl2 a e0 e1)with h | ⟨g,cc,h⟩
    ·rw[h]at hpos
     cases hpos
    ·exact⟨g,cc,by rw[h,List.concat_eq_append]⟩
   have hgl:g.length<=H.length:=by
    rw[hg,qw]at hsl
    simp at hsl
    omega
   cases a with
   | false=>exact⟨g,e1,cc,hg,rfl,hgl,h1⟩
   | true=>exact⟨e0,g,cc,hg,rfl,h0,hgl⟩
  have hpop:=y00 ns k n R H (y5:=y5) (y9:=some (.sh (.int c))) (y11:=y11) (y12:=y12) (y13:=y13) (hd:=hd) d a cc f0 f1 e0 e1 hf ho
  have hbk:=Yzs ns k n R H (y5:=y5) (y9:=some (.sh (.int c))) (y11:=some (.sh (.bl cc))) (y12:=y12) (y13:=y13) (hd:=hd) d a cc f0 f1 e0 e1 hf ho
  have hchk:Ycr (τ:=Ts) (sIf (orT (notT (b1 (mB (b1 (getC 12) (isiD "bool"))) truD)) (b2 (getC 12) (getC 11) (eqM true))) (sRet (kD (.bl false))) sNil) (roA ns k n R H l m p q y5 (some (.sh (.int c))) (atD a) (some (.sh (.bl cc))) (some (.sh (.bl cc))) y13 hd) (fo f0 f1)=some (.nx (roA ns k n R H l m p q y5 (some (.sh (.int c))) (atD a) (some (.sh (.bl cc))) (some (.sh (.bl cc))) y13 hd) (fo f0 f1)):=by
   refine Yeh ?_
   have hi:isiD "bool" (.bl cc)=some true:=rfl
   simp[hi]
  rw[Yay (f:=ifW _ _ _) (ρ':=roA ns k n R H l m p q y5 (some (.sh (.int c))) (atD a) (some (.sh (.bl cc))) (some (.sh (.bl cc))) y13 hd) (t':=fo f0 f1)]
  ·refine⟨_,_,_,_,sl2 a e0 e1,f0,f1,by rw[hhd];exact inner f0 f1 (Yd5 (d:=.bl cc) rfl) (Yd5 (d:=.bl cc) rfl) hf0 hf1,Yd5 (d:=.bl cc) rfl,Yd5 (d:=.bl cc) rfl,Yfn true,hf0,hf1,by omega⟩
  ·rw[Yzo ht1,Yay hpop,Yay hbk]
   exact hchk
 ·have hb':(decide (0 < (sl2 a e0 e1).length)&&(decide (c / 2 % 3=0)||decide ((sl2 a e0 e1).length=n)))=false:=by simpa using hb
  rw[hb']at ht1
  by_cases hlt:(sl2 a e0 e1).length < n
  ·rw[decide_eq_true hlt]at ht2
   have hse:=Yta ns k n R H (y5:=y5) (y11:=y11) (y12:=y12) (y13:=y13) (hd:=hd) d a c e0 e1 (by omega) hH hR
   have hap:=y01 ns k n R H (y5:=y5) (y11:=y11) (y12:=y12) (y13:=y13) (hd:=hd) d a c (if a then e0 else e0++[decide (c / 6 % 2=1)]) (if a then e1++[decide (c / 6 % 2=1)]else e1) e0 e1 (by omega)
   have hl0:(if a then e0 else e0++[decide (c / 6 % 2=1)]).length<=H.length:=by
    cases a with
    | false=>
      have:e0.length < n:=hlt
      show(e0++[_]).length<=_
      rw[qw]
      simp
      omega
    | true=>exact h0
   have hl1:(if a then e1++[decide (c / 6 % 2=1)]else e1).length<=H.length:=by
    cases a with
    | true=>
      have:e1.length < n:=hlt
      show(e1++[_]).length<=_
      rw[qw]
      simp
      omega
    | false=>exact h1
   generalize (if a then e0 else e0++[decide (c / 6 % 2=1)])=f0 at *
   generalize (if a then e1++[decide (c / 6 % 2=1)]else e1)=f1 at *
   rw[Yay (f:=ifW _ _ _) (ρ':=roA ns k n R H l m p q y5 (some (.sh (.int c))) (atD a) y11 y12 y13 hd) (t':=fo f0 f1)]
   ·refine⟨_,_,_,_,sl2 a e0 e1,f0,f1,by rw[hhd];exact inner f0 f1 h11 h12 hl0 hl1,h11,h12,Yfn true,hl0,hl1,by omega⟩
   ·rw[Yo3 ht1,Yzo ht2,Yay hse]
    exact hap
  ·rw[decide_eq_false hlt]at ht2
   rw[Yay (f:=ifW _ _ _) (ρ':=roA ns k n R H l m p q y5 (some (.sh (.int c))) (atD a) y11 y12 y13 hd) (t':=fo e0 e1)]
   ·refine⟨_,_,_,_,sl2 a e0 e1,e0,e1,by rw[hhd];exact inner e0 e1 h11 h12 h0 h1,h11,h12,Yfn true,h0,h1,by omega⟩
   ·rw[Yo3 ht1,Yo3 ht2]
    rfl
theorem Yzu(y5:List D)(h5:plBL y5=true)(h5l:0 < y5.length)(h5m:y5.length<=100)(hn:H.length=n)(hH:H.length<=60)(hl:R.length<=1000)(hR:∀r∈R,OkR k H.length r/\sz r<=9999)(cs:List Int)(hcl:cs.length<=100)(hcut:cutD (ns.map D.int) (some 19) (some 63)=cs.map D.int)(hlm:l≠m) :
 ∃t,Ymq l m [some (.sh (.scr ns)),some (.sh (kdD k)),some (.sh (.int (n:Int))),some (.sh (Yt k R)),some (.ow (H.map hnD)),some (.ow y5),some (.ow [watD (Yt k R) (.tup (H.map hnD)) (.adr l),watD (Yt k R) (.tup (H.map hnD)) (.adr m)]),none,none,none,none,none,none,none] [[],[]]=some (.rt (.bl true) t):=by
 have h0:Ycr (τ:=Ts) (sMut 5 (kD (.str "nobody")) appD) [some (.sh (.scr ns)),some (.sh (kdD k)),some (.sh (.int (n:Int))),some (.sh (Yt k R)),some (.ow (H.map hnD)),some (.ow y5),some (.ow [watD (Yt k R) (.tup (H.map hnD)) (.adr l),watD (Yt k R) (.tup (H.map hnD)) (.adr m)]),none,none,none,none,none,none,none] [[],[]]=some (.nx [some (.sh (.scr ns)),some (.sh (kdD k)),some (.sh (.int (n:Int))),some (.sh (Yt k R)),some (.ow (H.map hnD)),some (.ow (y5++[.str "nobody"])),some (.ow [watD (Yt k R) (.tup (H.map hnD)) (.adr l),watD (Yt k R) (.tup (H.map hnD)) (.adr m)]),none,none,none,none,none,none,none] [[],[]]):=by
  refine Yeh ?_
  have:y5.length < 1000000:=by omega
  simp[appD,this]
 have hy:plBL (y5++[.str "nobody"])=true:=by
  clear h0 h5l h5m
  induction y5 with
  | nil=>rfl
  | cons a y5 ih=>
    rw[plBL,Qg]at h5
    rw[List.cons_append,plBL,h5.1,ih h5.2]
    rfl
 obtain⟨y,ys,hys⟩:∃y ys,y5++[.str "nobody"]=y::ys:=by
  cases y5 with
  | nil=>exact⟨_,_,rfl⟩
  | cons y ys=>exact⟨_,_,rfl⟩
 rw[hys]at h0 hy
 rw[plBL,Qg]at hy
 have h1:Ycr (τ:=Ts) (Yoi 5 (kD (.int 0)) (kD (.str "nobody")) setD) [some (.sh (.scr ns)),some (.sh (kdD k)),some (.sh (.int (n:Int))),some (.sh (Yt k R)),some (.ow (H.map hnD)),some (.ow (y::ys)),some (.ow [watD (Yt k R) (.tup (H.map hnD)) (.adr l),watD (Yt k R) (.tup (H.map hnD)) (.adr m)]),none,none,none,none,none,none,none] [[],[]]=some (.nx [some (.sh (.scr ns)),some (.sh (kdD k)),some (.sh (.int (n:Int))),some (.sh (Yt k R)),some (.ow (H.map hnD)),some (.ow (.str "nobody"::ys)),some (.ow [watD (Yt k R) (.tup (H.map hnD)) (.adr l),watD (Yt k R) (.tup (H.map hnD)) (.adr m)]),none,none,none,none,none,none,none] [[],[]]):=by
  refine Yeh ?_
  have hset:setD (y::ys) (.int 0) (.str "nobody")=some (.str "nobody"::ys):=by
   unfold setD
   have:ixN (y::ys).length 0=some 0:=by simp[ixN]
   show(ixN (y::ys).length 0).map _=_
   rw[this]
   rfl
  simp[hset]
 have hy2:plBL (.str "nobody"::ys)=true:=by
  rw[plBL,hy.2]
  rfl
 generalize D.str "nobody"::ys=yy at h1 hy2
 have main:∀p q:Addr,p≠q->p∉[l,m]->q∉[l,m]->∃t,Ymp l m p q [some (.sh (.scr ns)),some (.sh (kdD k)),some (.sh (.int (n:Int))),some (.sh (Yt k R)),some (.ow (H.map hnD)),some (.ow yy),some (.ow [watD (Yt k R) (.tup (H.map hnD)) (.adr l),watD (Yt k R) (.tup (H.map hnD)) (.adr m)]),some (.ow [.adr p,.adr q]),none,none,none,none,none,none] (fo [] [])=some (.rt (.bl true) t):=fun p q hpq hp hq=>by
  have d:Dst l m p q:=⟨hlm,fun z=>hp (by simp[z]),fun z=>hq (by simp[z]),fun z=>hp (by simp[z]),fun z=>hq (by simp[z]),hpq⟩
  obtain⟨ρ',t',e1,⟨E,e0,f1,z9,z10,z11,z12,z13,_,hEl,_,_,_,rfl,rfl,_,_⟩⟩:=Yn1 (gt:=gSet 9) (fb:=Yfk l m p q) D.int (fun pre ρ t=>∃(E:List (List Bool)) (e0 e1:List Bool) (y9 y10 y11 y12 y13:Option B),E.length=pre.length/\(∀e∈E,e.length<=60)/\Pls y11/\Pls y12/\Pls y13/\t=fo e0 e1/\ρ=roA ns k n R H l m p q (some (.ow yy)) y9 y10 y11 y12 y13 (E.map prD)/\e0.length<=H.length/\e1.length<=H.length) cs [] (roA ns k n R H l m p q (some (.ow yy)) none none none none none []) (fo [] []) ⟨[],[],[],none,none,none,none,none,rfl,by simp,Yj0,Yj0,Yj0,rfl,rfl,Qb _,Qb _⟩ (by
   rintro w c r ρ t e ⟨E,e0,e1,y9,y10,y11,y12,y13,hEn,hEl,p11,p12,p13,rfl,rfl,q0,q1⟩
   have hEl2:E.length<=1000:=by
    have:=congrArg List.length e
    simp at this
    omega
   obtain⟨y10',y11',y12',y13',ev,g0,g1,et,r11,r12,r13,s0,s1,sev⟩:=Yzt ns k n R H d c (y5:=some (.ow yy)) (y10:=y10) (Yrx hy2) p11 p12 p13 E hEl2 hEl e0 e1 q0 q1 hn hH hl hR
   refine⟨_,_,_,rfl,et,E++[ev],g0,g1,_,y10',y11',y12',y13',by simp[hEn],fun x hx=>?_,r11,r12,r13,rfl,rfl,s0,s1⟩
   rcases qt hx with hx | hx
   ·exact hEl x hx
   ·have:x=ev:=by simpa using hx
    rw[this]
    exact sev)
  refine⟨fo e0 f1,?_⟩
  unfold Ymp
  rw[Yay (Yeh (f:=sOwn 8 (dLst aNil)) (ρ':=roA ns k n R H l m p q (some (.ow yy)) none none none none none []) (by simp))]
  unfold Yrh
  have hfor:Ykw (b1 (lF (slF (getC 0) (some (kD (.int 19))) (some (kD (.int 63))))) Ys) (gSet 9) (Yfk l m p q) (roA ns k n R H l m p q (some (.ow yy)) none none none none none []) (fo [] [])=some (.nx (roA ns k n R H l m p q (some (.ow yy)) z9 z10 z11 z12 z13 (E.map prD)) (fo e0 f1)):=by
   unfold Ykw
   have hs:b1 (lF (slF (getC 0) (some (kD (.int 19))) (some (kD (.int 63))))) Ys (roA ns k n R H l m p q (some (.ow yy)) none none none none none [])=some (cs.map D.int):=by
    simp[hcut]
   rw[hs,qc]
   exact e1
  rw[Yay hfor]
  unfold Yrg
  refine Ys8 ?_
  have hcm:=Ydv (gt:=Ydl 0 1) (fc:=tY) (fe:=Yfl) (ρ:=[none,none]) prD (fun _=>true) (fun _=>D.bl true) E (fun ev hev=>⟨[some (.sh (.tup (ev.map D.bl))),some (.sh (.tup (ev.map D.bl)))],rfl,rfl,fun _=>by
   have:=Ynr (Yzn ev (qy (hEl ev hev) (by omega))) (qy (Yua ev) (by omega)) false
   simp[Yfl,this]⟩)
  rw[List.filter_eq_self.mpr (fun _ _=>rfl)]at hcm
  have hbl:=Ygh (fun _:List Bool=>true) E
  have hall:(E.map fun _=>true).all id=true:=by simp
  have hfc:Yb2 (b1 (getV 8) Ys) [none,none] (Ydl 0 1) tY Yfl (frz [8] (roA ns k n R H l m p q (some (.ow yy)) z9 z10 z11 z12 z13 (E.map prD)))=some (E.map fun _=>D.bl true):=hcm
  unfold wF sRet cC Ye lF
  show(((Yb2 (b1 (getV 8) Ys) [none,none] (Ydl 0 1) tY Yfl (frz [8] (roA ns k n R H l m p q (some (.ow yy)) z9 z10 z11 z12 z13 (E.map prD)))).map D.lst).bind _ |>.bind _).map _=_
  rw[hfc]
  show((allC [.lst (E.map fun _=>D.bl true)]).map _)=_
  rw[Ysu,hbl]
  simp
 refine⟨[[],[]],?_⟩
 unfold Ymq
 rw[Yay h0]
 unfold Yrj
 rw[Yay h1]
 unfold Yri Ynv
 refine Yrc fun p q hpq hp hq=>?_
 exact main p q hpq hp hq
end
theorem Yry{k:Kd}{R:List Rl}{H:List Bool}(hH:H.length<=60)(hl:R.length<=20)(hR:∀r∈R,OkR k H.length r/\sz r<=100){h:D}(hh:h=.lst (H.map hnD)\/h=.tup (H.map hnD)):Ynu Ybb Yci Ycj (Yt k R) h (Yt k R) (.tup (H.map hnD)):=by
 have hck:=Ywt (k:=k) (R:=R) (H:=H) hH hl hR hh
 have htu:tupC [h]=some (.tup (H.map hnD)):=by rcases hh with rfl | rfl<;>simp
 refine⟨fun x=>?_,fun x=>⟨rfl,?_⟩,Yjz k R,Yuc H⟩
 ·unfold Ybb sExp
  show(Ya9 [Yt k R,h]).map _=_
  rw[hck]
  rfl
 ·show tupC [h]=_
  exact htu
theorem law_true(ns:List Int)(hns:ns.length<=63):Yms [.scr ns]=some (.bl true):=by
 rw[Yms,Yam (by rfl)]
 have c0:=Yt5 ns 0
 have c1:=Yt5 ns 1
 generalize ns.getD 0 0=x0 at c0
 generalize ns.getD 1 0=x1 at c1
 obtain⟨n,hn⟩:∃n:Nat,1+x0 / 4 % 12=(n:Int):=⟨(1+x0 / 4 % 12).toNat,by omega⟩
 have hn1:0 < n:=by omega
 have hn12:n<=12:=by omega
 obtain⟨k,hk⟩:=Yzh x0
 have k1:=Yro ns 3 19
 generalize hcl:(ns.drop (min 3 ns.length)).take (min 19 ns.length - min 3 ns.length)=cells at k1
 have hcl':cells.length<=16:=by
  rw[<-hcl,List.length_take,List.length_drop]
  omega
 obtain⟨R,hRl,hR0,hRc⟩:=drawn (fe:=Yjv) (r:=[some (.sh (kdD k)),some (.sh (.int (n:Int)))]) (P:=fun r=>In k n r/\Srt r) (fun c=>by
  obtain⟨r,hin,hs,hr⟩:=Yzj k c n hn1 (by omega)
  exact⟨r,⟨hin,hs⟩,by simp[Yjv,hr]⟩) cells
 obtain⟨H,hHl,hbits⟩:=Yzi x1 n (by omega)
 have hR:∀r∈R,OkR k H.length r/\sz r<=100:=fun r hr=>by
  have:=y0x (hR0 r hr).1 (hR0 r hr).2
  exact⟨⟨by rw[hHl];exact(hR0 r hr).1,(hR0 r hr).2⟩,by omega⟩
 have hh:=Yku (fe:=Yny) (r:=[]) (enc:=D.bl) hnD (l:=H) (fun b _=>by cases b<;>rfl)
 have k2:=Yro ns 19 63
 generalize hcs:(ns.drop (min 19 ns.length)).take (min 63 ns.length - min 19 ns.length)=cs at k2
 have hcsl:cs.length<=100:=by
  rw[<-hcs,List.length_take,List.length_drop]
  omega
 have ht:Ymr [some (.sh (.scr ns)),some (.sh (kdD k)),some (.sh (.int (n:Int))),some (.sh (Yt k R)),some (.ow (H.map hnD)),some (.ow (H.map hnD)),none,none,none,none,none,none,none,none]=some (.rt (.bl true)):=by
  unfold Ymr Ys1
  refine Yq4 ⟨Yt k R,.lst (H.map hnD),Yt k R,.tup (H.map hnD),Yt k R,.tup (H.map hnD),Yt k R,.tup (H.map hnD),rfl,rfl,Yry (by omega) (by omega) hR (.inl rfl),rfl,rfl,Yry (by omega) (by omega) hR (.inr rfl),fun l m hlm=>?_⟩
  exact Yzu ns k n R H (H.map hnD) (Yrw H) (by rw[qe];omega) (by rw[qe];omega) hHl (by omega) (by omega) (fun r hr=>⟨(hR r hr).1,qy (hR r hr).2 (by omega)⟩) cs hcsl (by simpa using k2) hlm
 simp at c0 c1 k1
 have hst:Yv 14 [D.scr ns]=[some (.sh (.scr ns)),none,none,none,none,none,none,none,none,none,none,none,none,none]:=rfl
 rw[hst]
 have hbk:D.tup [kdD k,.tup (R.map rlD)]=Yt k R:=rfl
 simp[Yzf,Yrn,Yrm,Yrl,Yrk,c0,c1,hk,hn,k1,capR,hRc,hbk,hbits,hh,ht]
end Lw
end
namespace Op
open PySem PySem.W PyProof.Rows PySem.Calls
set_option maxRecDepth 100000
noncomputable abbrev pg:Program:=PySem.Challenge.pw_duskbook_k40_taken_back
noncomputable def topm(i j:Nat):Stmt:=L2.inClass (Lw.top i) j
noncomputable abbrev en(P:Params)(x:Str)(t:Nat)(v:Value):DictEntry:=⟨PyData.keyHash P x,.str x t,v⟩
noncomputable abbrev fn(name qual:Str)(s:Stmt)(dV kV doc pm:Value)(an:Option Addr)(cdv ct:Value)(g b:Nat):Data:=.func ⟨name,qual,L2.defArgs s,.stmts (L2.defBody s),L2.defScope s,g,[],dV,kV,doc,pm,an,cdv,ct,b⟩
noncomputable abbrev tu(l:List Value):Obj:=⟨.type "tuple",none,.seq ⟨l⟩ 0,#[]⟩
noncomputable abbrev fl:Obj:=⟨.none,none,.fields #[],#[]⟩
noncomputable abbrev oZ(x:Str)(i:Nat):Obj:=⟨.none,none,fn x x (Lw.top i) .none .none .none .none none .none .none 0 0,#[]⟩
noncomputable abbrev oF(x:Str)(i:Nat)(pm:Value)(c:Nat):Obj:=⟨.type "function",none,.func (fnOf x x (L2.defArgs (Lw.top i)) (L2.defBody (Lw.top i)) (L2.defScope (Lw.top i)) .none .none .none pm none (.ref c) .none),#[]⟩
noncomputable abbrev oM(x q:Str)(i j:Nat)(pm:Value)(c:Nat):Obj:=⟨.type "function",none,.func (fnOf x q (L2.defArgs (L2.inClass (Lw.top i) j)) (L2.defBody (L2.inClass (Lw.top i) j)) (L2.defScope (L2.inClass (Lw.top i) j)) .none .none .none pm none (.ref c) .none),#[]⟩
noncomputable abbrev oC(x:Str)(t l n b:Nat)(u v:Value)(c k e:Nat):Obj:=⟨.type "code",none,.fields #[.str x t,.str x (t+1),.str "/claim/cut.py" (t+2),.int (.ofNat l) 0,.int (.ofNat n) 0,.int 0 0,.int 0 0,.int 3 0,.ref b,.bool true,.int (.ofNat k) 0,.ref (b+1),.none,u,v,.ref c,.int (.ofNat e) 0,.int (.ofNat l) 0,.str "/claim/cut.py" (e+1)],#[]⟩
noncomputable abbrev p0:Value:=(.str "duskbook.books" 271)
noncomputable abbrev p1:Value:=(.str "duskbook.watches" 383)
noncomputable abbrev p2:Value:=(.str "law_duskbook_k40_taken_back" 476)
noncomputable def et0(P:Params):List DictEntry:=[en P "__doc__" 166 .none,en P "__package__" 167 .none,en P "__loader__" 168 (.builtin "__main__.__loader__#opaque"),en P "__spec__" 169 .none,en P "__annotations__" 170 (.ref 6),en P "__builtins__" 171 (.ref 4),en P "__file__" 173 (.str "/claim/cut.py" 172),en P "__cached__" 174 .none,en P "DuskError" 206 (.ref 24),en P "NoHands" 222 (.ref 37),en P "Over" 238 (.ref 49),en P "NoLight" 254 (.ref 61),en P "NoneSettled" 270 (.ref 73),en P "BEACON_COUNT" 274 (.int (60) 273),en P "either_holds" 280 (.ref 80),en P "sum_holds" 286 (.ref 85),en P "if_holds" 292 (.ref 90),en P "rule_holds" 301 (.ref 97),en P "broken_rules" 307 (.ref 102),en P "holds" 315 (.ref 109),en P "beacons_in" 321 (.ref 114),en P "beacons_of" 330 (.ref 121),en P "without" 336 (.ref 126),en P "either_left" 342 (.ref 131),en P "sum_left" 353 (.ref 138),en P "if_left" 363 (.ref 145),en P "rule_left" 373 (.ref 152),en P "left_behind" 379 (.ref 157),en P "HANDS" 382 (.ref 158),en P "is_hand" 391 (.ref 165),en P "check_hands" 397 (.ref 170),en P "Watch" 475 (.ref 229),en P "_law_cell" 485 (.ref 240),en P "_law_mixed" 493 (.ref 247),en P "_law_kind" 500 (.ref 254),en P "_law_rule" 514 (.ref 261),en P "_law_bits" 525 (.ref 268),en P "_law_same" 531 (.ref 273),en P "_law_text" 539 (.ref 280),en P "_law_right" 554 (.ref 287)]
noncomputable def et1(P:Params):List DictEntry:=[en P "law" 560 (.ref 292)]
noncomputable def et(P:Params):List DictEntry:=et0 P++et1 P
noncomputable abbrev ns(P:Params)(x:DictEntry)(n k:Nat):Obj:=⟨.type "dict",none,.dict ⟨x::(et P).take n⟩ k,#[]⟩
noncomputable def ff0:List Value:=[(.int (2) 0),(.int (0) 0),(.ref 20),(.int (4) 0),(.int (0) 0),(.ref 33),(.int (6) 0),(.int (0) 0),(.ref 45),(.int (8) 0),(.int (0) 0),(.ref 57),(.int (10) 0),(.int (0) 0),(.ref 69),(.int (14) 0),(.int (0) 0),(.ref 79),(.int (16) 0),(.int (0) 0),(.ref 84),(.int (19) 0),(.int (0) 0),(.ref 89),(.int (23) 0),(.int (0) 0),(.ref 96),(.int (29) 0),(.int (0) 0),(.ref 101),(.int (31) 0),(.int (0) 0),(.ref 108),(.int (33) 0),(.int (0) 0),(.ref 113),(.int (39) 0),(.int (0) 0),(.ref 120),(.int (44) 0)]
noncomputable def ff1:List Value:=[(.int (0) 0),(.ref 125),(.int (46) 0),(.int (0) 0),(.ref 130),(.int (50) 0),(.int (0) 0),(.ref 137),(.int (56) 0),(.int (0) 0),(.ref 144),(.int (63) 0),(.int (0) 0),(.ref 151),(.int (71) 0),(.int (0) 0),(.ref 156),(.int (76) 0),(.int (0) 0),(.ref 164),(.int (78) 0),(.int (0) 0),(.ref 169),(.int (85) 0),(.int (0) 0),(.ref 176),(.int (125) 0),(.int (0) 0),(.ref 239),(.int (129) 0),(.int (0) 0),(.ref 246),(.int (131) 0),(.int (0) 0),(.ref 253),(.int (133) 0),(.int (0) 0),(.ref 260),(.int (152) 0),(.int (0) 0)]
noncomputable def ff2:List Value:=[(.ref 267),(.int (159) 0),(.int (0) 0),(.ref 272),(.int (171) 0),(.int (0) 0),(.ref 279),(.int (175) 0),(.int (0) 0),(.ref 286),(.int (188) 0),(.int (0) 0),(.ref 291)]
noncomputable def ff:List Value:=ff0++ff1++ff2
noncomputable abbrev ft(n:Nat):Obj:=⟨.none,none,.fields ⟨ff.take n⟩,#[]⟩
noncomputable abbrev dF(x:Str)(i l n t b:Nat)(pm:Value)(k:Nat):List Obj:=[tu [],fl,oZ x i,oC x t l n b .none .none (b+2) k (t+3),oF x i pm (b+3)]
noncomputable abbrev dG(x:Str)(i l n t b:Nat)(pm:Value)(k:Nat)(u:List Value):List Obj:=[tu [],fl,tu u,tu [],oZ x i,oC x t l n b (.ref (b+2)) (.ref (b+3)) (b+4) k (t+3+u.length),oF x i pm (b+5)]
noncomputable def al0(P:Params):List Obj:=[boot_o_0 P,boot_o_1 P,boot_o_2 P,ns P (en P "__name__" 165 (.str "law_duskbook_k40_taken_back" 476)) 41 42,boot_o_4 P,boot_o_5 P,boot_o_6 P,boot_o_7 P,boot_o_8 P,boot_o_9 P,boot_o_10 P,tu [],ft 93,⟨(.type "code"),none,(.fields #[(.str "<module>" 182),(.str "<module>" 183),(.str "/claim/cut.py" 184),(.int (1) 0),(.int (0) 0),(.int (0) 0),(.int (0) 0),(.int (0) 0),(.ref 11),(.bool false),(.int (181) 0),(.ref 12),.none,.none,.none,.none,(.int (185) 0),(.int (1) 0),(.str "/claim/cut.py" 186)]),#[]⟩,⟨(.type "frame"),none,.plain,#[(some (.ref 13)),(some (.ref 3)),(some (.ref 3)),none,(some (.str "__main__" 164)),none,(some (.ref 0))]⟩,tu [(.type "ValueError")],⟨(.type "builtin_function_or_method"),none,(.fields #[(.builtin "type.__prepare__"),(.type "type")]),#[]⟩,⟨(.type "dict"),none,(.dict #[en P "__module__" 196 (.str "duskbook.errors" 187),en P "__qualname__" 198 (.str "DuskError" 197),en P "__firstlineno__" 200 (.int (2) 199),en P "__static_attributes__" 201 (.ref 22)] 4),#[]⟩,tu [],fl,⟨(.type "code"),none,(.fields #[(.str "DuskError" 191),(.str "DuskError" 192),(.str "/claim/cut.py" 193),(.int (2) 0),(.int (0) 0),(.int (0) 0),(.int (0) 0),(.int (0) 0),(.ref 18),(.bool false),(.int (181) 0),(.ref 19),.none,.none,.none,.none,(.int (194) 0),(.int (2) 0),(.str "/claim/cut.py" 195)]),#[]⟩,⟨(.type "frame"),none,.plain,#[(some (.ref 20)),(some (.ref 3)),(some (.ref 17)),none,(some (.str "duskbook.errors" 187)),none,(some (.ref 0))]⟩,tu [],⟨(.type "dict"),none,(.dict #[en P "__module__" 196 (.str "duskbook.errors" 187),en P "__firstlineno__" 200 (.int (2) 199),en P "__static_attributes__" 201 (.ref 22),en P "__weakref__" 203 (.ref 25),en P "__doc__" 204 .none] 3),#[]⟩,⟨(.type "type"),none,(.cls ⟨"DuskError",[(.type "ValueError")],[(.ref 24),(.type "ValueError"),(.type "Exception"),(.type "BaseException"),(.type "object")],23,"DuskError",true,[],[(.ref 37),(.ref 49),(.ref 61),(.ref 73)],false,none,false⟩),#[(some (.ref 15)),none,(some (.str "DuskError" 189)),(some (.str "DuskError" 197)),(some (.builtin "ValueError.__new__")),(some (.bool true))]⟩,⟨(.type "getset_descriptor"),none,(.fields #[(.str "__weakref__" 202),(.ref 24),(.builtin "ExceptionGroup.__weakref__"),.none]),#[]⟩,⟨(.type "super"),none,(.fields #[(.ref 24),(.ref 24),(.ref 24)]),#[]⟩,⟨(.type "builtin_function_or_method"),none,(.fields #[(.builtin "object.__init_subclass__"),(.ref 24)]),#[]⟩,tu [(.ref 24)],⟨(.type "builtin_function_or_method"),none,(.fields #[(.builtin "type.__prepare__"),(.type "type")]),#[]⟩,⟨(.type "dict"),none,(.dict #[en P "__module__" 214 (.str "duskbook.errors" 187),en P "__qualname__" 216 (.str "NoHands" 215),en P "__firstlineno__" 218 (.int (4) 217),en P "__static_attributes__" 219 (.ref 35)] 4),#[]⟩,tu [],fl,⟨(.type "code"),none,(.fields #[(.str "NoHands" 209),(.str "NoHands" 210),(.str "/claim/cut.py" 211),(.int (4) 0),(.int (0) 0),(.int (0) 0),(.int (0) 0),(.int (0) 0),(.ref 31),(.bool false),(.int (181) 0),(.ref 32),.none,.none,.none,.none,(.int (212) 0),(.int (4) 0),(.str "/claim/cut.py" 213)]),#[]⟩,⟨(.type "frame"),none,.plain,#[(some (.ref 33)),(some (.ref 3)),(some (.ref 30)),none,(some (.str "duskbook.errors" 187)),none,(some (.ref 0))]⟩,tu [],⟨(.type "dict"),none,(.dict #[en P "__module__" 214 (.str "duskbook.errors" 187),en P "__firstlineno__" 218 (.int (4) 217),en P "__static_attributes__" 219 (.ref 35),en P "__doc__" 220 .none] 2),#[]⟩,⟨(.type "type"),none,(.cls ⟨"NoHands",[(.ref 24)],[(.ref 37),(.ref 24),(.type "ValueError"),(.type "Exception"),(.type "BaseException"),(.type "object")],36,"NoHands",true,[],[],false,none,false⟩),#[(some (.ref 28)),none,(some (.str "NoHands" 207)),(some (.str "NoHands" 215)),(some (.builtin "ValueError.__new__")),(some (.bool true))]⟩,⟨(.type "super"),none,(.fields #[(.ref 37),(.ref 37),(.ref 37)]),#[]⟩,⟨(.type "builtin_function_or_method"),none,(.fields #[(.builtin "object.__init_subclass__"),(.ref 37)]),#[]⟩]++([tu [(.ref 24)],⟨(.type "builtin_function_or_method"),none,(.fields #[(.builtin "type.__prepare__"),(.type "type")]),#[]⟩,⟨(.type "dict"),none,(.dict #[en P "__module__" 230 (.str "duskbook.errors" 187),en P "__qualname__" 232 (.str "Over" 231),en P "__firstlineno__" 234 (.int (6) 233),en P "__static_attributes__" 235 (.ref 47)] 4),#[]⟩,tu [],fl,⟨(.type "code"),none,(.fields #[(.str "Over" 225),(.str "Over" 226),(.str "/claim/cut.py" 227),(.int (6) 0),(.int (0) 0),(.int (0) 0),(.int (0) 0),(.int (0) 0),(.ref 43),(.bool false),(.int (181) 0),(.ref 44),.none,.none,.none,.none,(.int (228) 0),(.int (6) 0),(.str "/claim/cut.py" 229)]),#[]⟩,⟨(.type "frame"),none,.plain,#[(some (.ref 45)),(some (.ref 3)),(some (.ref 42)),none,(some (.str "duskbook.errors" 187)),none,(some (.ref 0))]⟩,tu [],⟨(.type "dict"),none,(.dict #[en P "__module__" 230 (.str "duskbook.errors" 187),en P "__firstlineno__" 234 (.int (6) 233),en P "__static_attributes__" 235 (.ref 47),en P "__doc__" 236 .none] 2),#[]⟩,⟨(.type "type"),none,(.cls ⟨"Over",[(.ref 24)],[(.ref 49),(.ref 24),(.type "ValueError"),(.type "Exception"),(.type "BaseException"),(.type "object")],48,"Over",true,[],[],false,none,false⟩),#[(some (.ref 40)),none,(some (.str "Over" 223)),(some (.str "Over" 231)),(some (.builtin "ValueError.__new__")),(some (.bool true))]⟩,⟨(.type "super"),none,(.fields #[(.ref 49),(.ref 49),(.ref 49)]),#[]⟩,⟨(.type "builtin_function_or_method"),none,(.fields #[(.builtin "object.__init_subclass__"),(.ref 49)]),#[]⟩,tu [(.ref 24)],⟨(.type "builtin_function_or_method"),none,(.fields #[(.builtin "type.__prepare__"),(.type "type")]),#[]⟩,⟨(.type "dict"),none,(.dict #[en P "__module__" 246 (.str "duskbook.errors" 187),en P "__qualname__" 248 (.str "NoLight" 247),en P "__firstlineno__" 250 (.int (8) 249),en P "__static_attributes__" 251 (.ref 59)] 4),#[]⟩,tu [],fl,⟨(.type "code"),none,(.fields #[(.str "NoLight" 241),(.str "NoLight" 242),(.str "/claim/cut.py" 243),(.int (8) 0),(.int (0) 0),(.int (0) 0),(.int (0) 0),(.int (0) 0),(.ref 55),(.bool false),(.int (181) 0),(.ref 56),.none,.none,.none,.none,(.int (244) 0),(.int (8) 0),(.str "/claim/cut.py" 245)]),#[]⟩,⟨(.type "frame"),none,.plain,#[(some (.ref 57)),(some (.ref 3)),(some (.ref 54)),none,(some (.str "duskbook.errors" 187)),none,(some (.ref 0))]⟩,tu [],⟨(.type "dict"),none,(.dict #[en P "__module__" 246 (.str "duskbook.errors" 187),en P "__firstlineno__" 250 (.int (8) 249),en P "__static_attributes__" 251 (.ref 59),en P "__doc__" 252 .none] 2),#[]⟩,⟨(.type "type"),none,(.cls ⟨"NoLight",[(.ref 24)],[(.ref 61),(.ref 24),(.type "ValueError"),(.type "Exception"),(.type "BaseException"),(.type "object")],60,"NoLight",true,[],[],false,none,false⟩),#[(some (.ref 52)),none,(some (.str "NoLight" 239)),(some (.str "NoLight" 247)),(some (.builtin "ValueError.__new__")),(some (.bool true))]⟩,⟨(.type "super"),none,(.fields #[(.ref 61),(.ref 61),(.ref 61)]),#[]⟩,⟨(.type "builtin_function_or_method"),none,(.fields #[(.builtin "object.__init_subclass__"),(.ref 61)]),#[]⟩,tu [(.ref 24)],⟨(.type "builtin_function_or_method"),none,(.fields #[(.builtin "type.__prepare__"),(.type "type")]),#[]⟩,⟨(.type "dict"),none,(.dict #[en P "__module__" 262 (.str "duskbook.errors" 187),en P "__qualname__" 264 (.str "NoneSettled" 263),en P "__firstlineno__" 266 (.int (10) 265),en P "__static_attributes__" 267 (.ref 71)] 4),#[]⟩,tu [],fl,⟨(.type "code"),none,(.fields #[(.str "NoneSettled" 257),(.str "NoneSettled" 258),(.str "/claim/cut.py" 259),(.int (10) 0),(.int (0) 0),(.int (0) 0),(.int (0) 0),(.int (0) 0),(.ref 67),(.bool false),(.int (181) 0),(.ref 68),.none,.none,.none,.none,(.int (260) 0),(.int (10) 0),(.str "/claim/cut.py" 261)]),#[]⟩,⟨(.type "frame"),none,.plain,#[(some (.ref 69)),(some (.ref 3)),(some (.ref 66)),none,(some (.str "duskbook.errors" 187)),none,(some (.ref 0))]⟩,tu [],⟨(.type "dict"),none,(.dict #[en P "__module__" 262 (.str "duskbook.errors" 187),en P "__firstlineno__" 266 (.int (10) 265),en P "__static_attributes__" 267 (.ref 71),en P "__doc__" 268 .none] 2),#[]⟩,⟨(.type "type"),none,(.cls ⟨"NoneSettled",[(.ref 24)],[(.ref 73),(.ref 24),(.type "ValueError"),(.type "Exception"),(.type "BaseException"),(.type "object")],72,"NoneSettled",true,[],[],false,none,false⟩),#[(some (.ref 64)),none,(some (.str "NoneSettled" 255)),(some (.str "NoneSettled" 263)),(some (.builtin "ValueError.__new__")),(some (.bool true))]⟩,⟨(.type "super"),none,(.fields #[(.ref 73),(.ref 73),(.ref 73)]),#[]⟩,⟨(.type "builtin_function_or_method"),none,(.fields #[(.builtin "object.__init_subclass__"),(.ref 73)]),#[]⟩]++(dF "either_holds" 8 14 2 275 76 p0 181++(dF "sum_holds" 9 16 2 281 81 p0 181++(dF "if_holds" 10 19 3 287 86 p0 181++(dG "rule_holds" 11 23 3 293 91 p0 181 [(.str "kind" 296),(.str "rule" 297),(.str "evening" 298)]++(dF "broken_rules" 12 29 2 302 98 p0 181++(dG "holds" 13 31 2 308 103 p0 181 [(.str "book" 311),(.str "evening" 312)]++(dF "beacons_in" 14 33 2 316 110 p0 181++(dG "beacons_of" 15 39 1 322 115 p0 181 [(.str "book" 325),(.str "found" 326),(.str "rule" 327)]++(dF "without" 16 44 2 331 122 p0 181++(dF "either_left" 17 46 3 337 127 p0 181++(dG "sum_left" 18 50 3 343 132 p0 181 [(.str "rule" 346),(.str "beacon" 347),(.str "lit" 348),(.str "beacons" 349),(.str "odd" 350)]++(dG "if_left" 19 56 3 354 139 p0 181 [(.str "rule" 357),(.str "beacon" 358),(.str "so" 359),(.str "head" 360)]++(dG "rule_left" 20 63 4 364 146 p0 181 [(.str "kind" 367),(.str "rule" 368),(.str "beacon" 369),(.str "lit" 370)]++(dF "left_behind" 21 71 3 374 153 p0 181++([tu [(.str "keeper" 380),(.str "storm" 381)]]++(dG "is_hand" 24 76 1 385 159 p1 181 [(.str "thing" 388)]++(dF "check_hands" 25 78 2 392 166 p1 181++([tu [],⟨(.type "builtin_function_or_method"),none,(.fields #[(.builtin "type.__prepare__"),(.type "type")]),#[]⟩,⟨(.type "dict"),none,(.dict #[en P "__module__" 405 (.str "duskbook.watches" 383),en P "__qualname__" 407 (.str "Watch" 406),en P "__firstlineno__" 409 (.int (85) 408),en P "__init__" 418 (.ref 184),en P "turn" 425 (.ref 191),en P "evening" 432 (.ref 198),en P "left" 442 (.ref 205),en P "winner" 449 (.ref 212),en P "settle" 457 (.ref 219),en P "back" 464 (.ref 226),en P "__static_attributes__" 468 (.ref 227)] 11),#[]⟩,tu [],⟨.none,none,(.fields #[(.int (87) 0),(.int (4) 0),(.ref 183),(.int (93) 0),(.int (4) 0),(.ref 190),(.int (98) 0),(.int (4) 0),(.ref 197),(.int (101) 0),(.int (4) 0),(.ref 204),(.int (107) 0),(.int (4) 0),(.ref 211),(.int (112) 0),(.int (4) 0),(.ref 218),(.int (120) 0),(.int (4) 0),(.ref 225)]),#[]⟩,⟨(.type "code"),none,(.fields #[(.str "Watch" 400),(.str "Watch" 401),(.str "/claim/cut.py" 402),(.int (85) 0),(.int (0) 0),(.int (0) 0),(.int (0) 0),(.int (0) 0),(.ref 174),(.bool false),(.int (181) 0),(.ref 175),.none,.none,.none,.none,(.int (403) 0),(.int (85) 0),(.str "/claim/cut.py" 404)]),#[]⟩,⟨(.type "frame"),none,.plain,#[(some (.ref 176)),(some (.ref 3)),(some (.ref 173)),none,(some (.str "duskbook.watches" 383)),none,(some (.ref 0))]⟩,tu [],fl,tu [(.str "self" 413),(.str "book" 414),(.str "hands" 415)],tu [],⟨.none,none,(fn "__init__" "Watch.__init__" (topm 26 0) .none .none .none .none none .none .none 0 0),#[]⟩,⟨(.type "code"),none,(.fields #[(.str "__init__" 410),(.str "Watch.__init__" 411),(.str "/claim/cut.py" 412),(.int (87) 0),(.int (3) 0),(.int (0) 0),(.int (0) 0),(.int (3) 0),(.ref 178),(.bool true),(.int (181) 0),(.ref 179),.none,(.ref 180),(.ref 181),(.ref 182),(.int (416) 0),(.int (87) 0),(.str "/claim/cut.py" 417)]),#[]⟩,oM "__init__" "Watch.__init__" 26 0 p1 183,tu [],fl,tu [(.str "self" 422)],tu [],⟨.none,none,(fn "turn" "Watch.turn" (topm 26 1) .none .none .none .none none .none .none 0 0),#[]⟩,⟨(.type "code"),none,(.fields #[(.str "turn" 419),(.str "Watch.turn" 420),(.str "/claim/cut.py" 421),(.int (93) 0),(.int (1) 0),(.int (0) 0),(.int (0) 0),(.int (3) 0),(.ref 185),(.bool true),(.int (181) 0),(.ref 186),.none,(.ref 187),(.ref 188),(.ref 189),(.int (423) 0),(.int (93) 0),(.str "/claim/cut.py" 424)]),#[]⟩,oM "turn" "Watch.turn" 26 1 p1 190,tu [],fl,tu [(.str "self" 429)],tu [],⟨.none,none,(fn "evening" "Watch.evening" (topm 26 2) .none .none .none .none none .none .none 0 0),#[]⟩,⟨(.type "code"),none,(.fields #[(.str "evening" 426),(.str "Watch.evening" 427),(.str "/claim/cut.py" 428),(.int (98) 0),(.int (1) 0),(.int (0) 0),(.int (0) 0),(.int (3) 0),(.ref 192),(.bool true),(.int (181) 0),(.ref 193),.none,(.ref 194),(.ref 195),(.ref 196),(.int (430) 0),(.int (98) 0),(.str "/claim/cut.py" 431)]),#[]⟩,oM "evening" "Watch.evening" 26 2 p1 197,tu [],fl,tu [(.str "self" 436),(.str "book" 437),(.str "beacon" 438),(.str "lit" 439)],tu [],⟨.none,none,(fn "left" "Watch.left" (topm 26 3) .none .none .none .none none .none .none 0 0),#[]⟩,⟨(.type "code"),none,(.fields #[(.str "left" 433),(.str "Watch.left" 434),(.str "/claim/cut.py" 435),(.int (101) 0),(.int (1) 0),(.int (0) 0),(.int (0) 0),(.int (3) 0),(.ref 199),(.bool true),(.int (181) 0),(.ref 200),.none,(.ref 201),(.ref 202),(.ref 203),(.int (440) 0),(.int (101) 0),(.str "/claim/cut.py" 441)]),#[]⟩,oM "left" "Watch.left" 26 3 p1 204,tu [],fl,tu [(.str "self" 446)],tu [],⟨.none,none,(fn "winner" "Watch.winner" (topm 26 4) .none .none .none .none none .none .none 0 0),#[]⟩]++([⟨(.type "code"),none,(.fields #[(.str "winner" 443),(.str "Watch.winner" 444),(.str "/claim/cut.py" 445),(.int (107) 0),(.int (1) 0),(.int (0) 0),(.int (0) 0),(.int (3) 0),(.ref 206),(.bool true),(.int (181) 0),(.ref 207),.none,(.ref 208),(.ref 209),(.ref 210),(.int (447) 0),(.int (107) 0),(.str "/claim/cut.py" 448)]),#[]⟩,oM "winner" "Watch.winner" 26 4 p1 211,tu [],fl,tu [(.str "self" 453),(.str "lit" 454)],tu [],⟨.none,none,(fn "settle" "Watch.settle" (topm 26 5) .none .none .none .none none .none .none 0 0),#[]⟩,⟨(.type "code"),none,(.fields #[(.str "settle" 450),(.str "Watch.settle" 451),(.str "/claim/cut.py" 452),(.int (112) 0),(.int (2) 0),(.int (0) 0),(.int (0) 0),(.int (3) 0),(.ref 213),(.bool true),(.int (181) 0),(.ref 214),.none,(.ref 215),(.ref 216),(.ref 217),(.int (455) 0),(.int (112) 0),(.str "/claim/cut.py" 456)]),#[]⟩,oM "settle" "Watch.settle" 26 5 p1 218,tu [],fl,tu [(.str "self" 461)],tu [],⟨.none,none,(fn "back" "Watch.back" (topm 26 6) .none .none .none .none none .none .none 0 0),#[]⟩,⟨(.type "code"),none,(.fields #[(.str "back" 458),(.str "Watch.back" 459),(.str "/claim/cut.py" 460),(.int (120) 0),(.int (1) 0),(.int (0) 0),(.int (0) 0),(.int (3) 0),(.ref 220),(.bool true),(.int (181) 0),(.ref 221),.none,(.ref 222),(.ref 223),(.ref 224),(.int (462) 0),(.int (120) 0),(.str "/claim/cut.py" 463)]),#[]⟩,oM "back" "Watch.back" 26 6 p1 225,tu [(.str "book" 465),(.str "hands" 466),(.str "truths" 467)],⟨(.type "dict"),none,(.dict #[en P "__module__" 405 (.str "duskbook.watches" 383),en P "__firstlineno__" 409 (.int (85) 408),en P "__init__" 418 (.ref 184),en P "turn" 425 (.ref 191),en P "evening" 432 (.ref 198),en P "left" 442 (.ref 205),en P "winner" 449 (.ref 212),en P "settle" 457 (.ref 219),en P "back" 464 (.ref 226),en P "__static_attributes__" 468 (.ref 227),en P "__dict__" 470 (.ref 230),en P "__weakref__" 472 (.ref 231),en P "__doc__" 473 .none] 4),#[]⟩,⟨(.type "type"),none,(.cls ⟨"Watch",[(.type "object")],[(.ref 229),(.type "object")],228,"Watch",true,[],[],false,none,false⟩),#[none,none,(some (.str "Watch" 398)),(some (.str "Watch" 406)),(some (.builtin "object.__new__")),(some (.bool true))]⟩,⟨(.type "getset_descriptor"),none,(.fields #[(.str "__dict__" 469),(.ref 229),(.builtin "function.__dict__"),(.builtin "function.__dict__#set")]),#[]⟩,⟨(.type "getset_descriptor"),none,(.fields #[(.str "__weakref__" 471),(.ref 229),(.builtin "ExceptionGroup.__weakref__"),.none]),#[]⟩,⟨(.type "super"),none,(.fields #[(.ref 229),(.ref 229),(.ref 229)]),#[]⟩,⟨(.type "builtin_function_or_method"),none,(.fields #[(.builtin "object.__init_subclass__"),(.ref 229)]),#[]⟩]++(dG "_law_cell" 28 125 2 478 234 p2 181 [(.str "script" 481),(.str "k" 482)]++(dG "_law_mixed" 29 129 2 486 241 p2 181 [(.str "cell" 489),(.str "by" 490)]++(dG "_law_kind" 30 131 1 494 248 p2 181 [(.str "cell" 497)]++(dG "_law_rule" 31 133 3 501 255 p2 181 [(.str "kind" 504),(.str "cell" 505),(.str "many" 506),(.str "left" 507),(.str "size" 508),(.str "sayings" 509),(.str "k" 510),(.str "body" 511)]))))))))))))))))))))))))
noncomputable def al1(P:Params):List Obj:=dG "_law_bits" 32 152 2 515 262 p2 181 [(.str "cell" 518),(.str "many" 519),(.str "left" 520),(.str "bits" 521),(.str "k" 522)]++(dF "_law_same" 33 159 2 526 269 p2 181++(dG "_law_text" 34 171 2 532 274 p2 181 [(.str "found" 535),(.str "due" 536)]++(dG "_law_right" 35 175 4 540 281 p2 181 [(.str "watch" 543),(.str "book" 544),(.str "hands" 545),(.str "evening" 546),(.str "turn" 547),(.str "won" 548),(.str "rest" 549),(.str "beacon" 550),(.str "lit" 551)]++(dF "law" 36 188 1 555 288 p2 181))))
noncomputable def al(P:Params):List Obj:=al0 P++al1 P
noncomputable def upd(l:List (Nat × Obj))(xs:List Obj):List Obj:=l.foldl (fun xs p=>xs.set p.1 p.2) xs
noncomputable def ev:List Obj->List Obj
 | []=>[]
 | [x]=>[x]
 | x::_::r=>x::ev r
noncomputable def bt:Nat->List Obj->BT
 | 0,_=>.nil
 | _+1,[]=>.nil
 | n+1,x::xs=>.node x (bt n (ev xs)) (bt n (ev xs.tail))
noncomputable abbrev bd:List Stmt:=behindTheImports pg
noncomputable abbrev sl(i n:Nat):List Stmt:=(bd.drop i).take n
noncomputable abbrev env:Env:={ scope:=pg.main.scope,locals:=mainNs,globals:=mainNs,cells:=[],code:=(.ref 13),frame:=some 14 }
noncomputable abbrev cE:Code:=.body bd env
noncomputable abbrev B:List Frame:=[topFrame ⟨0,0,0,0⟩]
noncomputable abbrev ss(n:Nat)(l:Params->List (Nat × Obj))(t:Nat)(w:World)(os:OsState):SharedT:=⟨bt 12 (upd (l w.params) ((al w.params).take n)),n,{},.mk [],boot_drawn,t,os⟩
noncomputable def h0(P:Params):Heap:=⟨⟨upd [(3,boot_o_3 P),(12,fl)] ((al P).take 15)⟩,{}⟩
noncomputable abbrev s0(w:World)(os:OsState):Shared:=⟨h0 w.params,.mk [],boot_drawn,187,os⟩
noncomputable abbrev s1:World->OsState->SharedT:=ss 15 (fun P=>[(3,boot_o_3 P),(12,fl)]) 187
noncomputable abbrev s2:World->OsState->SharedT:=ss 28 (fun P=>[(3,ns P (en P "__name__" 165 (.str "duskbook.errors" 187)) 9 10),(12,ft 3),(24,⟨(.type "type"),none,(.cls ⟨"DuskError",[(.type "ValueError")],[(.ref 24),(.type "ValueError"),(.type "Exception"),(.type "BaseException"),(.type "object")],23,"DuskError",true,[],[],false,none,false⟩),#[(some (.ref 15)),none,(some (.str "DuskError" 189)),(some (.str "DuskError" 197)),(some (.builtin "ValueError.__new__")),(some (.bool true))]⟩)]) 207
noncomputable abbrev s3:World->OsState->SharedT:=ss 40 (fun P=>[(3,ns P (en P "__name__" 165 (.str "duskbook.errors" 187)) 10 11),(12,ft 6),(24,⟨(.type "type"),none,(.cls ⟨"DuskError",[(.type "ValueError")],[(.ref 24),(.type "ValueError"),(.type "Exception"),(.type "BaseException"),(.type "object")],23,"DuskError",true,[],[(.ref 37)],false,none,false⟩),#[(some (.ref 15)),none,(some (.str "DuskError" 189)),(some (.str "DuskError" 197)),(some (.builtin "ValueError.__new__")),(some (.bool true))]⟩)]) 223
noncomputable abbrev s4:World->OsState->SharedT:=ss 52 (fun P=>[(3,ns P (en P "__name__" 165 (.str "duskbook.errors" 187)) 11 12),(12,ft 9),(24,⟨(.type "type"),none,(.cls ⟨"DuskError",[(.type "ValueError")],[(.ref 24),(.type "ValueError"),(.type "Exception"),(.type "BaseException"),(.type "object")],23,"DuskError",true,[],[(.ref 37),(.ref 49)],false,none,false⟩),#[(some (.ref 15)),none,(some (.str "DuskError" 189)),(some (.str "DuskError" 197)),(some (.builtin "ValueError.__new__")),(some (.bool true))]⟩)]) 239
noncomputable abbrev s5:World->OsState->SharedT:=ss 64 (fun P=>[(3,ns P (en P "__name__" 165 (.str "duskbook.errors" 187)) 12 13),(12,ft 12),(24,⟨(.type "type"),none,(.cls ⟨"DuskError",[(.type "ValueError")],[(.ref 24),(.type "ValueError"),(.type "Exception"),(.type "BaseException"),(.type "object")],23,"DuskError",true,[],[(.ref 37),(.ref 49),(.ref 61)],false,none,false⟩),#[(some (.ref 15)),none,(some (.str "DuskError" 189)),(some (.str "DuskError" 197)),(some (.builtin "ValueError.__new__")),(some (.bool true))]⟩)]) 255
noncomputable abbrev s6:World->OsState->SharedT:=ss 110 (fun P=>[(3,ns P (en P "__name__" 165 (.str "duskbook.books" 271)) 20 21),(12,ft 33)]) 316
noncomputable abbrev s7:World->OsState->SharedT:=ss 171 (fun P=>[(3,ns P (en P "__name__" 165 (.str "duskbook.watches" 383)) 31 32),(12,ft 63)]) 398
noncomputable abbrev s8:World->OsState->SharedT:=ss 234 (fun P=>[(3,ns P (en P "__name__" 165 (.str "duskbook.watches" 383)) 32 33),(12,ft 66)]) 476
noncomputable abbrev s9:World->OsState->SharedT:=ss 293 (fun P=>[]) 561
noncomputable def h10(P:Params):Heap:=⟨⟨upd [] ((al P).take 293)⟩,{}⟩
noncomputable abbrev s10(w:World)(os:OsState):Shared:=⟨h10 w.params,.mk [],boot_drawn,561,os⟩
noncomputable abbrev sz(w:World)(os:OsState):Shared:=⟨boot_heap w.params,.mk [],boot_drawn,boot_toks,os⟩
theorem e0:∀w:World,(fun os=>topGo treeTable pg w 11 (some (.ref 6)) 12 (sz w os) (topStub pg))=fun os=>some (s0 w os,⟨denote treeTable cE,cE,⟨0,0,0,0⟩,B⟩):=by
 rw[W.Fast.te15667345088766844465,W.Fast.te14364793385576792824,W.Fast.te11892475500146522536];intro w;kernel_rfl
theorem e1:∀w:World,(fun os=>segRun treeTable pg w 11 (some (.ref 6)) 1 1 (s0 w os) (blockOf bd env cE ⟨0,0,0,0⟩ B))=fun os=>some (.next,(s1 w os).abs,cE,⟨0,0,0,0⟩):=by
 rw[W.Fast.te14374325043358763698,W.Fast.te14364793385576792824];intro w;kernel_rfl
theorem e2:∀w:World,(fun os=>segRunT treeTable pg w 11 (some (.ref 6)) 1 196 (s1 w os) (piecesOf (sl 0 2) env cE ⟨0,0,0,0⟩ B))=fun os=>some (.next,s2 w os,cE,⟨2,0,3,8⟩):=by
 rw[W.Fast.te10110043849684766642,W.Fast.te14364793385576792824];intro w;kernel_rfl
theorem e3:∀w:World,(fun os=>segRunT treeTable pg w 11 (some (.ref 6)) 1 214 (s2 w os) (piecesOf (sl 2 1) env cE ⟨2,0,3,8⟩ B))=fun os=>some (.next,s3 w os,cE,⟨4,0,5,8⟩):=by
 rw[W.Fast.te10110043849684766642,W.Fast.te14364793385576792824];intro w;kernel_rfl
theorem e4:∀w:World,(fun os=>segRunT treeTable pg w 11 (some (.ref 6)) 1 214 (s3 w os) (piecesOf (sl 3 1) env cE ⟨4,0,5,8⟩ B))=fun os=>some (.next,s4 w os,cE,⟨6,0,7,8⟩):=by
 rw[W.Fast.te10110043849684766642,W.Fast.te14364793385576792824];intro w;kernel_rfl
theorem e5:∀w:World,(fun os=>segRunT treeTable pg w 11 (some (.ref 6)) 1 214 (s4 w os) (piecesOf (sl 4 1) env cE ⟨6,0,7,8⟩ B))=fun os=>some (.next,s5 w os,cE,⟨8,0,9,8⟩):=by
 rw[W.Fast.te10110043849684766642,W.Fast.te14364793385576792824];intro w;kernel_rfl
theorem e6:∀w:World,(fun os=>segRunT treeTable pg w 11 (some (.ref 6)) 1 397 (s5 w os) (piecesOf (sl 5 9) env cE ⟨8,0,9,8⟩ B))=fun os=>some (.next,s6 w os,cE,⟨31,0,32,48⟩):=by
 rw[W.Fast.te10110043849684766642,W.Fast.te14364793385576792824];intro w;kernel_rfl
theorem e7:∀w:World,(fun os=>segRunT treeTable pg w 11 (some (.ref 6)) 1 309 (s6 w os) (piecesOf (sl 14 12) env cE ⟨31,0,32,48⟩ B))=fun os=>some (.next,s7 w os,cE,⟨78,0,84,69⟩):=by
 rw[W.Fast.te10110043849684766642,W.Fast.te14364793385576792824];intro w;kernel_rfl
theorem e8:∀w:World,(fun os=>segRunT treeTable pg w 11 (some (.ref 6)) 1 416 (s7 w os) (piecesOf (sl 26 1) env cE ⟨78,0,84,69⟩ B))=fun os=>some (.next,s8 w os,cE,⟨85,0,123,32⟩):=by
 rw[W.Fast.te10110043849684766642,W.Fast.te14364793385576792824];intro w;kernel_rfl
theorem e9:∀w:World,(fun os=>segRunT treeTable pg w 11 (some (.ref 6)) 1 287 (s8 w os) (piecesOf (sl 27 10) env cE ⟨85,0,123,32⟩ B))=fun os=>some (.next,s9 w os,cE,⟨188,0,213,53⟩):=by
 rw[W.Fast.te10110043849684766642,W.Fast.te14364793385576792824];intro w;kernel_rfl
theorem e10:∀w:World,(fun os=>topRun treeTable pg w 11 (some (.ref 6)) 2 (s9 w os).abs ⟨doneF .next,cE,⟨188,0,213,53⟩,B⟩)=fun os=>some (s10 w os):=by
 rw[W.Fast.te14082659384304107361,W.Fast.te14364793385576792824];intro w;kernel_rfl
noncomputable abbrev m10:Nat:=2
noncomputable abbrev t10:List Stmt:=[]
noncomputable abbrev R(w:World)(os:OsState)(m:Nat)(s:Shared)(t:List Stmt)(p:Pos):Prop:=topRun treeTable pg w 11 (some (.ref 6)) m s (restOf t env cE p B)=some (s10 w os)
theorem r10(w:World)(os:OsState):R w os m10 (s9 w os).abs t10 ⟨188,0,213,53⟩:=congrFun (e10 w) os
noncomputable abbrev m9:Nat:=287+m10
noncomputable abbrev t9:List Stmt:=sl 27 10++t10
theorem r9(w:World)(os:OsState):R w os m9 (s8 w os).abs t9 ⟨85,0,123,32⟩:=piece_app (segRun_of (congrFun (e9 w) os)) (r10 w os)
noncomputable abbrev m8:Nat:=416+m9
noncomputable abbrev t8:List Stmt:=sl 26 1++t9
theorem r8(w:World)(os:OsState):R w os m8 (s7 w os).abs t8 ⟨78,0,84,69⟩:=piece_app (segRun_of (congrFun (e8 w) os)) (r9 w os)
noncomputable abbrev m7:Nat:=309+m8
noncomputable abbrev t7:List Stmt:=sl 14 12++t8
theorem r7(w:World)(os:OsState):R w os m7 (s6 w os).abs t7 ⟨31,0,32,48⟩:=piece_app (segRun_of (congrFun (e7 w) os)) (r8 w os)
noncomputable abbrev m6:Nat:=397+m7
noncomputable abbrev t6:List Stmt:=sl 5 9++t7
theorem r6(w:World)(os:OsState):R w os m6 (s5 w os).abs t6 ⟨8,0,9,8⟩:=piece_app (segRun_of (congrFun (e6 w) os)) (r7 w os)
noncomputable abbrev m5:Nat:=214+m6
noncomputable abbrev t5:List Stmt:=sl 4 1++t6
theorem r5(w:World)(os:OsState):R w os m5 (s4 w os).abs t5 ⟨6,0,7,8⟩:=piece_app (segRun_of (congrFun (e5 w) os)) (r6 w os)
noncomputable abbrev m4:Nat:=214+m5
noncomputable abbrev t4:List Stmt:=sl 3 1++t5
theorem r4(w:World)(os:OsState):R w os m4 (s3 w os).abs t4 ⟨4,0,5,8⟩:=piece_app (segRun_of (congrFun (e4 w) os)) (r5 w os)
noncomputable abbrev m3:Nat:=214+m4
noncomputable abbrev t3:List Stmt:=sl 2 1++t4
theorem r3(w:World)(os:OsState):R w os m3 (s2 w os).abs t3 ⟨2,0,3,8⟩:=piece_app (segRun_of (congrFun (e3 w) os)) (r4 w os)
noncomputable abbrev m2:Nat:=196+m3
noncomputable abbrev t2:List Stmt:=sl 0 2++t3
theorem r2(w:World)(os:OsState):R w os m2 (s1 w os).abs t2 ⟨0,0,0,0⟩:=piece_app (segRun_of (congrFun (e2 w) os)) (r3 w os)
theorem tb:bd=t2:=by kernel_rfl
theorem run(w:World)(os:OsState):topRun treeTable pg w 11 (some (.ref 6)) (12+(1+m2)) (sz w os) (topStub pg)=some (s10 w os):=by
 have r:=r2 w os
 unfold R at r
 rw[<-congrArg (fun x=>restOf x env cE ⟨0,0,0,0⟩ B) tb]at r
 exact go_top (congrFun (e0 w) os) (piece_block (congrFun (e1 w) os) r)
theorem op:∀w:World,(fencedOpening treeTable pg w 4604).map (fun s=>(s.heap,s.gens,s.drawn,s.toks))=some (boot_heap w.params,Array.mk [],boot_drawn,boot_toks):=
 boot_open (by kernel_rfl) (by decide) (fun s=>by kernel_rfl)
theorem size:∀w:World,((boot_heap w.params).isNs mainGlobals&&(Array.mk []:Array GenState).size==0,(boot_heap w.params).objs.size,(boot_heap w.params).nsMap mainGlobals "__annotations__")=(true,11,(some (.ref 6))):=by
 rw[W.Fast.te8920871248978507458];intro w;kernel_rfl
noncomputable def K(P:Params):Frag:=(nat_lit 3,ns P (en P "__name__" 165 (.str "law_duskbook_k40_taken_back" 476)) 41 42)::(nat_lit 79,oC "either_holds" 275 14 2 76 .none .none 78 181 278)::(nat_lit 80,oF "either_holds" 8 p0 79)::(nat_lit 84,oC "sum_holds" 281 16 2 81 .none .none 83 181 284)::(nat_lit 85,oF "sum_holds" 9 p0 84)::(nat_lit 89,oC "if_holds" 287 19 3 86 .none .none 88 181 290)::(nat_lit 90,oF "if_holds" 10 p0 89)::(nat_lit 96,oC "rule_holds" 293 23 3 91 (.ref 93) (.ref 94) 95 181 299)::(nat_lit 97,oF "rule_holds" 11 p0 96)::(nat_lit 101,oC "broken_rules" 302 29 2 98 .none .none 100 181 305)::(nat_lit 102,oF "broken_rules" 12 p0 101)::(nat_lit 108,oC "holds" 308 31 2 103 (.ref 105) (.ref 106) 107 181 313)::(nat_lit 109,oF "holds" 13 p0 108)::(nat_lit 113,oC "beacons_in" 316 33 2 110 .none .none 112 181 319)::(nat_lit 114,oF "beacons_in" 14 p0 113)::(nat_lit 120,oC "beacons_of" 322 39 1 115 (.ref 117) (.ref 118) 119 181 328)::(nat_lit 121,oF "beacons_of" 15 p0 120)::(nat_lit 125,oC "without" 331 44 2 122 .none .none 124 181 334)::(nat_lit 126,oF "without" 16 p0 125)::(nat_lit 130,oC "either_left" 337 46 3 127 .none .none 129 181 340)::(nat_lit 131,oF "either_left" 17 p0 130)::(nat_lit 137,oC "sum_left" 343 50 3 132 (.ref 134) (.ref 135) 136 181 351)::(nat_lit 138,oF "sum_left" 18 p0 137)::(nat_lit 144,oC "if_left" 354 56 3 139 (.ref 141) (.ref 142) 143 181 361)::(nat_lit 145,oF "if_left" 19 p0 144)::(nat_lit 151,oC "rule_left" 364 63 4 146 (.ref 148) (.ref 149) 150 181 371)::(nat_lit 152,oF "rule_left" 20 p0 151)::(nat_lit 156,oC "left_behind" 374 71 3 153 .none .none 155 181 377)::(nat_lit 157,oF "left_behind" 21 p0 156)::(nat_lit 158,tu [(.str "keeper" 380),(.str "storm" 381)])::(nat_lit 164,oC "is_hand" 385 76 1 159 (.ref 161) (.ref 162) 163 181 389)::(nat_lit 165,oF "is_hand" 24 p1 164)::(nat_lit 169,oC "check_hands" 392 78 2 166 .none .none 168 181 395)::(nat_lit 170,oF "check_hands" 25 p1 169)::(nat_lit 183,⟨(.type "code"),none,(.fields #[(.str "__init__" 410),(.str "Watch.__init__" 411),(.str "/claim/cut.py" 412),(.int (87) 0),(.int (3) 0),(.int (0) 0),(.int (0) 0),(.int (3) 0),(.ref 178),(.bool true),(.int (181) 0),(.ref 179),.none,(.ref 180),(.ref 181),(.ref 182),(.int (416) 0),(.int (87) 0),(.str "/claim/cut.py" 417)]),#[]⟩)::(nat_lit 184,oM "__init__" "Watch.__init__" 26 0 p1 183)::(nat_lit 190,⟨(.type "code"),none,(.fields #[(.str "turn" 419),(.str "Watch.turn" 420),(.str "/claim/cut.py" 421),(.int (93) 0),(.int (1) 0),(.int (0) 0),(.int (0) 0),(.int (3) 0),(.ref 185),(.bool true),(.int (181) 0),(.ref 186),.none,(.ref 187),(.ref 188),(.ref 189),(.int (423) 0),(.int (93) 0),(.str "/claim/cut.py" 424)]),#[]⟩)::(nat_lit 191,oM "turn" "Watch.turn" 26 1 p1 190)::(nat_lit 197,⟨(.type "code"),none,(.fields #[(.str "evening" 426),(.str "Watch.evening" 427),(.str "/claim/cut.py" 428),(.int (98) 0),(.int (1) 0),(.int (0) 0),(.int (0) 0),(.int (3) 0),(.ref 192),(.bool true),(.int (181) 0),(.ref 193),.none,(.ref 194),(.ref 195),(.ref 196),(.int (430) 0),(.int (98) 0),(.str "/claim/cut.py" 431)]),#[]⟩)::(nat_lit 198,oM "evening" "Watch.evening" 26 2 p1 197)::(nat_lit 204,⟨(.type "code"),none,(.fields #[(.str "left" 433),(.str "Watch.left" 434),(.str "/claim/cut.py" 435),(.int (101) 0),(.int (1) 0),(.int (0) 0),(.int (0) 0),(.int (3) 0),(.ref 199),(.bool true),(.int (181) 0),(.ref 200),.none,(.ref 201),(.ref 202),(.ref 203),(.int (440) 0),(.int (101) 0),(.str "/claim/cut.py" 441)]),#[]⟩)::(nat_lit 205,oM "left" "Watch.left" 26 3 p1 204)::(nat_lit 211,⟨(.type "code"),none,(.fields #[(.str "winner" 443),(.str "Watch.winner" 444),(.str "/claim/cut.py" 445),(.int (107) 0),(.int (1) 0),(.int (0) 0),(.int (0) 0),(.int (3) 0),(.ref 206),(.bool true),(.int (181) 0),(.ref 207),.none,(.ref 208),(.ref 209),(.ref 210),(.int (447) 0),(.int (107) 0),(.str "/claim/cut.py" 448)]),#[]⟩)::(nat_lit 212,oM "winner" "Watch.winner" 26 4 p1 211)::(nat_lit 218,⟨(.type "code"),none,(.fields #[(.str "settle" 450),(.str "Watch.settle" 451),(.str "/claim/cut.py" 452),(.int (112) 0),(.int (2) 0),(.int (0) 0),(.int (0) 0),(.int (3) 0),(.ref 213),(.bool true),(.int (181) 0),(.ref 214),.none,(.ref 215),(.ref 216),(.ref 217),(.int (455) 0),(.int (112) 0),(.str "/claim/cut.py" 456)]),#[]⟩)::(nat_lit 219,oM "settle" "Watch.settle" 26 5 p1 218)::(nat_lit 225,⟨(.type "code"),none,(.fields #[(.str "back" 458),(.str "Watch.back" 459),(.str "/claim/cut.py" 460),(.int (120) 0),(.int (1) 0),(.int (0) 0),(.int (0) 0),(.int (3) 0),(.ref 220),(.bool true),(.int (181) 0),(.ref 221),.none,(.ref 222),(.ref 223),(.ref 224),(.int (462) 0),(.int (120) 0),(.str "/claim/cut.py" 463)]),#[]⟩)::(nat_lit 226,oM "back" "Watch.back" 26 6 p1 225)::(nat_lit 228,⟨(.type "dict"),none,(.dict #[en P "__module__" 405 (.str "duskbook.watches" 383),en P "__firstlineno__" 409 (.int (85) 408),en P "__init__" 418 (.ref 184),en P "turn" 425 (.ref 191),en P "evening" 432 (.ref 198),en P "left" 442 (.ref 205),en P "winner" 449 (.ref 212),en P "settle" 457 (.ref 219),en P "back" 464 (.ref 226),en P "__static_attributes__" 468 (.ref 227),en P "__dict__" 470 (.ref 230),en P "__weakref__" 472 (.ref 231),en P "__doc__" 473 .none] 4),#[]⟩)::(nat_lit 229,⟨(.type "type"),none,(.cls ⟨"Watch",[(.type "object")],[(.ref 229),(.type "object")],228,"Watch",true,[],[],false,none,false⟩),#[none,none,(some (.str "Watch" 398)),(some (.str "Watch" 406)),(some (.builtin "object.__new__")),(some (.bool true))]⟩)::(nat_lit 239,oC "_law_cell" 478 125 2 234 (.ref 236) (.ref 237) 238 181 483)::(nat_lit 240,oF "_law_cell" 28 p2 239)::(nat_lit 246,oC "_law_mixed" 486 129 2 241 (.ref 243) (.ref 244) 245 181 491)::(nat_lit 247,oF "_law_mixed" 29 p2 246)::(nat_lit 253,oC "_law_kind" 494 131 1 248 (.ref 250) (.ref 251) 252 181 498)::(nat_lit 254,oF "_law_kind" 30 p2 253)::(nat_lit 260,oC "_law_rule" 501 133 3 255 (.ref 257) (.ref 258) 259 181 512)::(nat_lit 261,oF "_law_rule" 31 p2 260)::(nat_lit 267,oC "_law_bits" 515 152 2 262 (.ref 264) (.ref 265) 266 181 523)::(nat_lit 268,oF "_law_bits" 32 p2 267)::(nat_lit 272,oC "_law_same" 526 159 2 269 .none .none 271 181 529)::(nat_lit 273,oF "_law_same" 33 p2 272)::(nat_lit 279,oC "_law_text" 532 171 2 274 (.ref 276) (.ref 277) 278 181 537)::(nat_lit 280,oF "_law_text" 34 p2 279)::(nat_lit 286,oC "_law_right" 540 175 4 281 (.ref 283) (.ref 284) 285 181 552)::(nat_lit 287,oF "_law_right" 35 p2 286)::(nat_lit 291,oC "law" 555 188 1 288 .none .none 290 181 558)::(nat_lit 292,oF "law" 36 p2 291)::[]
noncomputable def hk:Hook:=kHook K (3::79::80::84::85::89::90::96::97::101::102::108::109::113::114::120::121::125::126::130::131::137::138::144::145::151::152::156::157::158::164::165::169::170::183::184::190::191::197::198::204::205::211::212::218::219::225::226::228::229::239::240::246::247::253::254::260::261::267::268::272::273::279::280::286::287::291::292::[]) (fun _=>by kernel_rfl)
noncomputable def Q:Program:={ pg with main:={ pg.main with body:=[Lw.top 36] } }
noncomputable def ls:List Str:=(["DuskError","NoHands","Over","NoLight","NoneSettled","BEACON_COUNT","either_holds","sum_holds","if_holds","rule_holds","broken_rules","holds","beacons_in","beacons_of","without","either_left","sum_left","if_left","rule_left","left_behind","HANDS","is_hand","check_hands","Watch","_law_cell","_law_mixed","_law_kind","_law_rule","_law_bits","_law_same","_law_text","_law_right"]).map Str.ofString
noncomputable abbrev Xt(s:Shared):Bool:=xlAt Q [] s&&recOk (RowW.records (OpenRow.toRowW PySem.Challenge.rw_duskbook_k40_taken_back.row)) s
theorem y02:∀w:World,(fun os=>((staticsOk (importedModules pg.main.body) (boot_heap w.params) (h10 w.params)&&namesBound pg (h10 w.params)&&gensDone (s10 w os)&&laidKept (boot_heap w.params) (h10 w.params)),openSeen Q ls (importedModules pg.main.body) Xt true (s10 w os),Hook.obs hk (s10 w os)))=fun _=>(true,openGood Q ls,Hook.val hk w):=by
 rw[W.Fast.te5923862056798008813,W.Fast.te4187177175401517315];intro w;kernel_rfl
theorem left:LeftO pg Q ls Xt (Hook.obs hk) (Hook.val hk) 4604:=LeftO.of_pieces (H₁:=h10) (M:=12+(1+m2)) op size run (by decide) y02
end Op
open PySem PySem.W PyProof.Rows
set_option maxRecDepth 100000 in
theorem PySem.Challenge.cw_duskbook_k40_taken_back_holds : PySem.Challenge.rw_duskbook_k40_taken_back.Holds := by
 w_on;o_law
 refine holds_open (q:=Op.Q) (loose:=Op.ls) (Xt:=Op.Xt) (XP:=XL Op.Q []) (Yf:=Hook.obs Op.hk) (Ya:=Hook.val Op.hk) (YP:=InK Op.K) (N:=4604) Op.left (Hook.of Op.hk) (Hook.keeps Op.hk) (fun s e=>xl_of s (Bool.and_eq_true_iff.mp e).1) XL.keeps (by rfl) (by rfl) (by rfl) (fun s e=>recFacts_of (Bool.and_eq_true_iff.mp e).2) (by rfl) (by assumption) (by decide +kernel) ⟨rfl,rfl,rfl,rfl,rfl,by decide +kernel⟩ ?hw ?hc
 (case hw=>w_witness2)
 k_fill
 refine Lw.walk Lw.law_true (l:=PySem.Challenge.rw_duskbook_k40_taken_back) rfl rfl (K:=Op.K) (fun w h Y=>Y) ?F
 case F=>
  intro w mg fa h KX G hmg
  refine' Lw.all_mk KX G hmg ?_ ?_ ?_ ?_ ?_ ?_ ?_ ?_ ?_ ?_ ?_ ?_ ?_ ?_ ?_ ?_ ?_ ?_ ?_ ?_ ?_ ?_ ?_ ?_ ?_ ?_ ?_ ?_ ?_ ?_ ?_ ?_ ?_ ?_ ?_ ?_ ?_ ?_ ?_ ?_ ?_ ?_ ?_ ?_ ?_ ?_ ?_ ?_ ?_ ?_ ?_ ?_ ?_ ?_
  all_goals (try (first | (refine' M.mq_mk ?a ?pg ?hd ?po ?sa ?i ?n ?l ?cd ?k;(case a=>k_is);(case pg=>k_is);(case hd=>k_is);(case po=>k_is);(case sa=>k_is);(case i=>k_is);(case n=>k_is);(case l=>k_is);(case cd=>k_is);(case k=>k_is)) | (refine' M.nq_mk ?a ?pg ?hd ?po ?sa ?n;(case a=>k_is);(case pg=>k_is);(case hd=>k_is);(case po=>k_is);(case sa=>k_is);(case n=>k_is)) | (refine' M.iq_mk ?a ?mk ?kc ?i ?n ?l ?cd ?k;(case a=>k_is);(case mk=>k_is);(case kc=>k_is);(case i=>k_is);(case n=>k_is);(case l=>k_is);(case cd=>k_is);(case k=>k_is)) | k_is | (refine' Lw.fk_mk ?a ?l ?c ?k;(case a=>k_is);(case l=>k_is);(case c=>k_is);(case k=>k_is))))
