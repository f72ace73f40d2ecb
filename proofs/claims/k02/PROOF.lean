import PyProof.Rows.All
import Wide.All
import OpenK.AllK
import Wide.FinOn
import Lean
import PyProof.EqAt
import PyProof.EqKinds
import PyProof.TupleCall
import PySem.Challenge.RW_duskbook_k02_no_book
set_option Elab.async false
set_option linter.all false
set_option maxRecDepth 100000
abbrev fsc(l:List (PySem.Str × PySem.NameKind)):PySem.Scope:={ kind:=.function,names:=l,isGenerator:=false,isCoroutine:=false,more:=[] }
theorem qa{α β:Type _}{o:Option α}{f:α->Option β}{b:β}(h:o.bind f=some b):∃a,o=some a/\f a=some b:=Option.bind_eq_some_iff.mp h
theorem qb{α β:Type _}{o:Option α}{f:α->β}{b:β}(h:o.map f=some b):∃a,o=some a/\f a=b:=Option.map_eq_some_iff.mp h
def qc:=@Option.bind_some
def qd:=@PySem.Heap.get?_push_of_some
def qe:=@List.length_map
def qf:=@List.mem_cons_of_mem
def qg:=@List.mem_cons_self
def qh:=@Bool.false_ne_true
def qi:=@Array.length_toList
def qj:=@List.size_toArray
def qk:=@PySem.Heap.lt_size
def ql:=@Nat.ne_of_lt
theorem qm{α:Type _}{l:List α}{i:Nat}{a:α}(h:l[i]?=some a):∃h:i < l.length,l[i]=a:=List.getElem?_eq_some_iff.mp h
def qo:=@PySem.Heap.get?_push_size
def qp:=@List.getElem?_eq_getElem
def qq:=@List.length_cons
theorem qr{α:Type _}{a b:α}{l:List α}(h:a∈b::l):a=b\/a∈l:=List.mem_cons.mp h
def qt:=@Nat.le_refl
theorem qu{α:Type _}{a:α}{s t:List α}(h:a∈s++t):a∈s\/a∈t:=List.mem_append.mp h
def qv:=@Nat.lt_succ_of_lt
theorem qw{α β:Type _}{b:β}{f:α->β}{l:List α}(h:b∈l.map f):∃a,a∈l/\f a=b:=List.mem_map.mp h
def qx:=@Nat.lt_of_lt_of_le
def qy:=@List.getElem?_set_ne
def qz:=@List.getElem?_map
def Qa:=@List.map_cons
def Qb:=@Bool.and_eq_true
def Qc:=@List.mem_append_right
set_option maxHeartbeats 4000000
noncomputable section
namespace L2
open PySem PySem.Spec PyProof.Rows
abbrev Key:=Sum Int Str
def Yuq:Key->Value->Bool
 | .inl k,v=>Value.isInt k v
 | .inr x,v=>Value.isStrOf x v
def keyH(w:World):Key->Int
 | .inl k=>hashInt k
 | .inr x=>hashStr w x
theorem Ya3:∀{k:Key} {v:Value},Yuq k v=true->(∃i t,k=Sum.inl i/\v=Value.int i t)\/(∃x t,k=Sum.inr x/\v=Value.str x t)
 | .inl i,v,h=>by
   obtain⟨t,e⟩:=Value.isInt_shape (k:=i) (v:=v) h
   exact .inl ⟨i,t,rfl,e⟩
 | .inr x,v,h=>by
   obtain⟨t,e⟩:=Value.isStrOf_shape (x:=x) (v:=v) h
   exact .inr ⟨x,t,rfl,e⟩
theorem Yur(a b:Int):decide ((Sum.inl a:Key)=Sum.inl b)=(a==b):=by
 by_cases e:a=b
 ·subst e;simp
 ·have h:¬(Sum.inl a:Key)=Sum.inl b:=fun q=>e (Sum.inl.inj q)
  rw[decide_eq_false h]
  exact(beq_eq_false_iff_ne.mpr e).symm
theorem Yus(a b:Str):decide ((Sum.inr a:Key)=Sum.inr b)=decide (a=b):=by
 by_cases e:a=b
 ·subst e;simp
 ·have h:¬(Sum.inr a:Key)=Sum.inr b:=fun q=>e (Sum.inr.inj q)
  rw[decide_eq_false h,decide_eq_false e]
theorem Yut(a:Int)(b:Str):decide ((Sum.inl a:Key)=Sum.inr b)=false:=decide_eq_false (fun q=>nomatch q)
theorem Yuu(a:Str)(b:Int):decide ((Sum.inr a:Key)=Sum.inl b)=false:=decide_eq_false (fun q=>nomatch q)
def Ykx(prog:Program)(w:World):KeyKind prog w Key where
 is:=Yuq
 hash:=keyH w
 inj:=fun v a b ha hb=>by
  rcases Ya3 ha with⟨i,t,rfl,rfl⟩ | ⟨x,t,rfl,rfl⟩
  ·rcases Ya3 hb with⟨j,u,rfl,e⟩ | ⟨y,u,rfl,e⟩
   ·injection e with e1 _;rw[e1]
   ·exact nomatch e
  ·rcases Ya3 hb with⟨j,u,rfl,e⟩ | ⟨y,u,rfl,e⟩
   ·exact nomatch e
   ·injection e with e1 _;rw[e1]
 byValue:=fun k v h=>by
  rcases Ya3 h with⟨i,t,rfl,rfl⟩ | ⟨x,t,rfl,rfl⟩<;>rfl
 pyHash:=fun hv h=>by
  rcases Ya3 hv with⟨i,t,rfl,rfl⟩ | ⟨x,t,rfl,rfl⟩
  ·exact wpAny_pyHash_int h
  ·exact wpAny_pyHash_str h
 eqBool:=fun hu hv h=>by
  rcases Ya3 hu with⟨i,t,rfl,rfl⟩ | ⟨x,t,rfl,rfl⟩
  ·rcases Ya3 hv with⟨j,u,rfl,rfl⟩ | ⟨y,u,rfl,rfl⟩
   ·rw[Yur]at h;exact wpAny_eqBool_int h
   ·rw[Yut]at h;exact SeqAt.EqAt.int_str i t y u _ _ _ _ h
  ·rcases Ya3 hv with⟨j,u,rfl,rfl⟩ | ⟨y,u,rfl,rfl⟩
   ·rw[Yuu]at h;exact SeqAt.EqAt.str_int x t j u _ _ _ _ h
   ·rw[Yus]at h;exact wpAny_eqBool_str h
 «strs»:=fun k x t v h=>by
  rcases Ya3 h with⟨i,u,rfl,e⟩ | ⟨y,u,rfl,e⟩
  ·exact nomatch e
  ·injection e with e1 _
   subst e1
   cases v<;>rfl
end L2
namespace L2
open PySem PySem.Spec PyProof.Rows
inductive V where
 | non | bl (b:Bool) | int (i:Int) | str (x:Str) | byt (b:Array UInt8) | flt (b:UInt64) | ref (a:Addr) | ty (n:String)
 deriving DecidableEq
def RelV:V->Value->Prop
 | .non,u=>u=Value.none
 | .bl b,u=>u=Value.bool b
 | .int i,u=>∃t,u=Value.int i t
 | .str x,u=>∃t,u=Value.str x t
 | .byt b,u=>∃t,u=Value.bytes b t
 | .flt b,u=>∃t,u=Value.float b t
 | .ref a,u=>u=Value.ref a
 | .ty n,u=>u=Value.type n
abbrev Vals:List V->List Value->Prop:=Paired RelV
theorem Vals.length{xs:List V}{us:List Value}(r:Vals xs us):xs.length=us.length:=Paired.length r
theorem Vals.get:∀{xs:List V} {us:List Value} {i:Nat} {x:V},Vals xs us->xs[i]?=some x->∃u,us[i]?=some u/\RelV x u
 | _,_,_,_,.nil,e=>by simp at e
 | _,_,0,_,.cons r _,e=>by simp at e;subst e;exact⟨_,rfl,r⟩
 | _,_,i+1,x,.cons _ t,e=>by
   obtain⟨u,h1,h2⟩:=Vals.get (i:=i) (x:=x) t (by simpa using e)
   exact⟨u,by simpa using h1,h2⟩
theorem Vals.append:∀{xs ys:List V} {us ws:List Value},Vals xs us->Vals ys ws->Vals (xs++ys) (us++ws)
 | _,_,_,_,.nil,s=>s
 | _,_,_,_,.cons r t,s=>.cons r (Vals.append t s)
theorem Vals.take:∀{xs:List V} {us:List Value} (n:Nat),Vals xs us->Vals (xs.take n) (us.take n)
 | _,_,0,_=>.nil
 | _,_,_+1,.nil=>.nil
 | _,_,n+1,.cons r t=>.cons r (Vals.take n t)
theorem Vals.drop:∀{xs:List V} {us:List Value} (n:Nat),Vals xs us->Vals (xs.drop n) (us.drop n)
 | _,_,0,r=>r
 | _,_,_+1,.nil=>.nil
 | _,_,n+1,.cons _ t=>Vals.drop n t
def RelO:Option V->Option Value->Prop
 | some v,some u=>RelV v u
 | none,none=>True
 | _,_=>False
def KV{κ:Type}:List (κ × V)->List (κ × Value)->Prop:=Paired fun(p:κ × V) (q:κ × Value)=>p.1=q.1/\RelV p.2 q.2
def kV:Key->V
 | .inl i=>.int i
 | .inr x=>.str x
inductive HO where
 | lst (xs:List V)
 | tup (xs:List V)
 | dK (kvs:List (Key × V)) | dT (kvs:List (List Key × V))
 | set (S:Int->Bool) (n:Nat)
 | ins (C dx:Addr) (fs:List (Str × V))
 | own (x:Addr)
 | xd (fs:List (Str × V))
 | met (f x:Addr)
 | rng (lo hi:Int)
 | frz (o:Obj) (u:HO)
 | tbl (ps:Array Value)
 | ext (φ:Heap->Prop)
abbrev Hp:=Addr->Option HO
def upd(H:Hp)(a:Addr)(o:HO):Hp:=fun b=>if b=a then some o else H b
theorem Yy{H:Hp}{a:Addr}{o:HO}:upd H a o a=some o:=by unfold upd;rw[if_pos rfl]
theorem Yaa{H:Hp}{a b:Addr}{o:HO}(h:b≠a):upd H a o b=H b:=by unfold upd;rw[if_neg h]
theorem Yab{H:Hp}{a b:Addr}{o:HO}(h:H a=some o)(h':H b=none):a≠b:=by
 intro e;subst e;rw[h]at h';cases h'
section
variable (P:Program) (w:World)
def ObjOk(H:Hp)(h:Heap)(a:Addr):HO->Prop
 | .lst xs=>xs.length<=sizeLine/\∃(its:List Value) (n:Nat),Vals xs its/\h.get? a=some { cls:=.type "list",data:=.seq its.toArray n }
 | .tup xs=>xs.length<=sizeLine/\∃its:List Value,Vals xs its/\IsTup h a its.toArray
 | .dK kvs=>kvs.length<=sizeLine/\(a==sysModules)=false/\∃vs,KV kvs vs/\h.DictOf (Ykx P w) a vs
 | .dT kvs=>kvs.length<=sizeLine/\(a==sysModules)=false/\∃xs:List (List Key × Addr × Value),
  Paired (fun(p:List Key × V) (q:List Key × Addr × Value)=>p.1=q.1/\H q.2.1=some (.tup (p.1.map kV))/\RelV p.2 q.2.2) kvs xs/\
  ∃o es ep,h.get? a=some o/\o.ExactDict/\o.data=.dict es ep/\es.toList=xs.map (entryOfKey (tupleKind (Ykx P w)))/\(xs.map (·.1)).Nodup
 | .set S n=>h.SetOf (intKind P w) a S n
 | .ins C dx fs=>H dx=some (.own a)/\fs.length<=1000/\dx≠a/\h.get? a=some (W.instObj C dx)/\
  ∃mA,h.Ns1 dx mA/\(∀f,RelO (fs.lookup f) (mA f))/\PySem.Within mA (fs.map (·.1))
 | .own _=>∃o,h.get? a=some o
 | .xd fs=>∃mA,h.Ns1 a mA/\∀f,RelO (fs.lookup f) (mA f)
 | .rng lo hi=>∃t u v,h.get? a=some { cls:=.type "range",data:=.fields #[.int lo t,.int hi u,.int 1 v] }
 | .frz o u=>h.get? a=some o/\ObjOk H h a u
 | .tbl ps=>h.get? a=some { cls:=.none,data:=.fields ps }
 | .met f x=>h.get? a=some (W.methodObj (.ref f) (.ref x))
 | .ext φ=>φ h/\(∃o,h.get? a=some o)/\∀h1 h2:Heap,φ h1->(∀o,h1.get? a=some o->h2.get? a=some o)->φ h2
def HOk(H:Hp)(h:Heap):Prop:=∀a o,H a=some o->ObjOk P w H h a o
end
section
variable {P:Program} {w:World} {H H':Hp} {h h':Heap} {a:Addr} {o:HO}
theorem ObjOk.lt(x:ObjOk P w H h a o):a < h.objs.size:=by
 cases o with
 | lst xs=>obtain⟨_,_,_,_,e⟩:=x;exact qk e
 | tup xs=>obtain⟨_,_,_,p⟩:=x;exact p.lt
 | dK kvs=>obtain⟨_,_,_,_,o,_,_,e,_⟩:=x;exact qk e
 | dT kvs=>obtain⟨_,_,_,_,o,_,_,e,_⟩:=x;exact qk e
 | set S n=>obtain⟨o,_,_,_,e,_⟩:=x;exact qk e
 | ins C dx fs=>obtain⟨_,_,_,e,_⟩:=x;exact qk e
 | own y=>obtain⟨_,e⟩:=x;exact qk e
 | xd fs=>obtain⟨_,⟨_,_,_,e,_⟩,_⟩:=x;exact qk e
 | rng lo hi=>obtain⟨_,_,_,e⟩:=x;exact qk e
 | frz ob u=>obtain⟨e,_⟩:=x;exact qk e
 | tbl ps=>exact qk (show h.get? a=some _ from x)
 | met f y=>exact qk (show h.get? a=some _ from x)
 | ext φ=>obtain⟨_,⟨_,e⟩,_⟩:=x;exact qk e
theorem Paired.mapP{α β:Type}{F G:α->β->Prop}:∀{l₁:List α} {l₂:List β},Paired F l₁ l₂->(∀a b,F a b->G a b)->Paired G l₁ l₂
 | _,_,.nil,_=>.nil
 | _,_,.cons r t,f=>.cons (f _ _ r) (Paired.mapP t f)
theorem ObjOk.stay(x:ObjOk P w H h a o)(k:∀b u,(b=a\/H b=some (.own a))->h.get? b=some u->h'.get? b=some u)
 (ho:∀b,H b=some (.own a)->H' b=some (.own a)) (ht:∀b xs,H b=some (.tup xs)->H' b=some (.tup xs)):ObjOk P w H' h' a o:=by
 induction o with
 | lst xs=>obtain⟨z,its,n,r,e⟩:=x;exact⟨z,its,n,r,k _ _ (.inl rfl) e⟩
 | tup xs=>obtain⟨z,its,r,ob,e,c⟩:=x;exact⟨z,its,r,ob,k _ _ (.inl rfl) e,c⟩
 | dK kvs=>obtain⟨z,y,vs,r,ob,es,ep,e,c⟩:=x;exact⟨z,y,vs,r,ob,es,ep,k _ _ (.inl rfl) e,c⟩
 | dT kvs=>
   obtain⟨z,y,xs,r,ob,es,ep,e,c⟩:=x
   exact⟨z,y,xs,Paired.mapP r fun p q z=>⟨z.1,ht _ _ z.2.1,z.2.2⟩,ob,es,ep,k _ _ (.inl rfl) e,c⟩
 | set S n=>obtain⟨ob,es,ep,t,e,c⟩:=x;exact⟨ob,es,ep,t,k _ _ (.inl rfl) e,c⟩
 | ins C dx fs=>
   obtain⟨d,z,ne,e,mA,⟨od,es,ep,e2,c⟩,r⟩:=x
   exact⟨ho _ d,z,ne,k _ _ (.inl rfl) e,mA,⟨od,es,ep,k _ _ (.inr d) e2,c⟩,r⟩
 | own y=>obtain⟨ob,e⟩:=x;exact⟨ob,k _ _ (.inl rfl) e⟩
 | xd fs=>obtain⟨mA,⟨od,es,ep,e,c⟩,r⟩:=x;exact⟨mA,⟨od,es,ep,k _ _ (.inl rfl) e,c⟩,r⟩
 | rng lo hi=>obtain⟨t,u,v,e⟩:=x;exact⟨t,u,v,k _ _ (.inl rfl) e⟩
 | frz ob u ih=>obtain⟨e,q⟩:=x;exact⟨k _ _ (.inl rfl) e,ih q⟩
 | tbl ps=>
   have e:h.get? a=some { cls:=.none,data:=.fields ps }:=x
   show h'.get? a=some { cls:=.none,data:=.fields ps }
   exact k a _ (.inl rfl) e
 | met f y=>
   have e:h.get? a=some (W.methodObj (.ref f) (.ref y)):=x
   show h'.get? a=some (W.methodObj (.ref f) (.ref y))
   exact k a _ (.inl rfl) e
 | ext φ=>obtain⟨p,⟨o,e⟩,st⟩:=x;exact⟨st _ _ p fun o q=>k _ _ (.inl rfl) q,⟨o,k _ _ (.inl rfl) e⟩,st⟩
theorem HOk.lt(x:HOk P w H h)(e:H a=some o):a < h.objs.size:=(x a o e).lt
theorem HOk.fresh(x:HOk P w H h)(e:h.objs.size<=a):H a=none:=by
 cases q:H a with
 | none=>rfl
 | some u=>exact absurd (qx (x.lt q) e) (Nat.lt_irrefl _)
theorem HOk.kept(x:HOk P w H h)(k:∀b u,h.get? b=some u->h'.get? b=some u):HOk P w H h':=fun a o e=>
 (x a o e).stay (fun b u _ q=>k b u q) (fun _ q=>q) fun _ _ q=>q
theorem HOk.laid(x:HOk P w H h)(k:∀b u,h.get? b=some u->h'.get? b=some u)(hp:h.objs.size<=a)(new:ObjOk P w (upd H a o) h' a o):HOk P w (upd H a o) h':=fun b u e=>by
 have hn:=x.fresh hp
 by_cases hb:b=a
 ·subst hb;rw[Yy]at e;cases e;exact new
 ·rw[Yaa hb]at e
  exact(x b u e).stay (fun c v _ q=>k c v q) (fun c q=>by rw[Yaa (Yab q hn)];exact q) fun c xs q=>by rw[Yaa (Yab q hn)];exact q
end
def Rd(H:Hp)(a:Addr)(u:HO):Prop:=H a=some u\/∃o,H a=some (.frz o u)
theorem Rd.ok{P:Program}{w:World}{H:Hp}{h:Heap}{a:Addr}{u:HO}(r:Rd H a u)(x:HOk P w H h):ObjOk P w H h a u:=by
 rcases r with r | ⟨o,r⟩
 ·exact x a u r
 ·obtain⟨_,q⟩:=x a _ r
  exact q
def Mut:Option HO->Prop
 | some (.lst _)=>True
 | some (.dK _)=>True
 | some (.dT _)=>True
 | some (.set _ _)=>True
 | some (.ins _ _ _)=>True
 | some (.ext _)=>True
 | _=>False
section
variable {P:Program} {w:World} {H:Hp} {h h':Heap} {x e:Addr} {o':HO}
theorem HOk.write(ok:HOk P w H h)(mu:Mut (H x))(he:e=x\/H e=some (.own x))(k:∀b u,b≠e->h.get? b=some u->h'.get? b=some u)(heo:∃u,h'.get? e=some u)
 (new:ObjOk P w (upd H x o') h' x o'):HOk P w (upd H x o') h':=fun b u q=>by
 have nown:∀c y,H c=some (.own y)->c≠x:=fun c y r z=>by subst z;rw[r]at mu;exact mu
 have ntup:∀c xs,H c=some (.tup xs)->c≠x:=fun c xs r z=>by subst z;rw[r]at mu;exact mu
 by_cases hb:b=x
 ·subst hb;rw[Yy]at q;cases q;exact new
 ·rw[Yaa hb]at q
  by_cases hbe:b=e
  ·have q':H b=some (.own x):=by
    rcases he with z | z
    ·exact absurd (hbe.trans z) hb
    ·rw[hbe];exact z
   rw[q]at q';cases q'
   obtain⟨v,hv⟩:=heo
   exact⟨v,by rw[hbe];exact hv⟩
  ·refine(ok b u q).stay (fun c v hc r=>k c v ?_ r) (fun c r=>by rw[Yaa (nown c b r)];exact r) fun c xs r=>by rw[Yaa (ntup c xs r)];exact r
   rcases hc with rfl | hc
   ·exact hbe
   ·rintro rfl
    rcases he with z | z
    ·exact nown c b hc z
    ·rw[hc]at z;cases z;exact hb rfl
end
structure Un(fs ex:List Addr)(H H':Hp)(h h':Heap):Prop where
 keep:∀b o,h.get? b=some o->H b=none->b∉fs->b∉ex->h'.get? b=some o
 slot:∀b o,h.get? b=some o->H b=none->b∈fs->b∉ex->∃sl,h'.get? b=some { o with slots:=sl }
 free:∀b o,h.get? b=some o->H b=none->b∉ex->H' b=none
 there:∀b o,h.get? b=some o->b∉ex->∃o',h'.get? b=some o'
 tups:∀b xs,H b=some (.tup xs)->H' b=some (.tup xs)
 frzs:∀b o u,H b=some (.frz o u)->H' b=some (.frz o u)
 tbls:∀b ps,H b=some (.tbl ps)->∃more,H' b=some (.tbl (ps++more))
section
variable {fs fs' ex ex':List Addr} {H H1 H2:Hp} {h h1 h2 h':Heap} {a x e:Addr} {o:HO}
theorem Un.any(u:Un fs ex H H1 h h1){b:Addr}{ob:Obj}(q:h.get? b=some ob)(n:H b=none)(hx:b∉ex):∃sl,h1.get? b=some { ob with slots:=sl }:=by
 by_cases hb:b∈fs
 ·exact u.slot b ob q n hb hx
 ·exact⟨ob.slots,u.keep b ob q n hb hx⟩
theorem Un.kept(k:∀b u,h.get? b=some u->h'.get? b=some u):Un fs ex H H h h':=
 ⟨fun b ob q _ _ _=>k b ob q,fun b ob q _ _ _=>⟨ob.slots,k b ob q⟩,fun _ _ _ n _=>n,fun b ob q _=>⟨ob,k b ob q⟩,fun _ _ q=>q,fun _ _ _ q=>q,fun _ ps q=>⟨#[],by rw[q];simp⟩⟩
theorem Un.refl:Un fs ex H H h h:=Un.kept fun _ _ q=>q
theorem Un.laid(k:∀b u,h.get? b=some u->h'.get? b=some u)(hp:h.objs.size<=a)(hn:H a=none):Un fs ex H (upd H a o) h h' where
 keep:=fun b u q _ _ _=>k b u q
 slot:=fun b u q _ _ _=>⟨u.slots,k b u q⟩
 free:=fun b u q n _=>by rw[Yaa (ql (qx (qk q) hp))];exact n
 there:=fun b u q _=>⟨u,k b u q⟩
 tups:=fun b xs q=>by rw[Yaa (Yab q hn)];exact q
 frzs:=fun b u xs q=>by rw[Yaa (Yab q hn)];exact q
 tbls:=fun b ps q=>⟨#[],by rw[Yaa (Yab q hn),q];simp⟩
theorem Un.write(mu:Mut (H x))(he:e=x\/H e=some (.own x))(k:∀b u,b≠e->h.get? b=some u->h'.get? b=some u)(heo:∃u,h'.get? e=some u):Un fs ex H (upd H x o) h h':=by
 have hx:∀b,H b=none->b≠x:=fun b n z=>by subst z;rw[n]at mu;exact mu
 have hb:∀b,H b=none->b≠e:=fun b n z=>by
  subst z
  rcases he with r | r
  ·exact hx b n r
  ·rw[n]at r;cases r
 have hm:∀b u,H b=some u->¬Mut (some u)->b≠x:=fun b u q nm z=>by subst z;rw[q]at mu;exact nm mu
 refine⟨fun b u q n _ _=>k b u (hb b n) q,fun b u q n _ _=>⟨u.slots,k b u (hb b n) q⟩,fun b u q n _=>by rw[Yaa (hx b n)];exact n,fun b u q _=>?_,
  fun b xs q=>by rw[Yaa (hm b _ q fun z=>z)];exact q,fun b u xs q=>by rw[Yaa (hm b _ q fun z=>z)];exact q,fun b ps q=>⟨#[],by rw[Yaa (hm b _ q fun z=>z),q];simp⟩⟩
 by_cases hbe:b=e
 ·subst hbe;exact heo
 ·exact⟨u,k b u hbe q⟩
end
def trk(h:Heap)(H:Hp):List Addr:=(List.range h.objs.size).filter fun a=>(H a).isSome
def hidT(h:Heap)(H:Hp):Heap:=W.hideAll h (trk h H)
theorem Ync(h:Heap)(H:Hp):(hidT h H).objs.size=h.objs.size:=W.hideAll_size _ _
theorem Yp7{h:Heap}{H:Hp}{b:Addr}{o:Obj}(e:h.get? b=some o)(n:H b=none):(hidT h H).get? b=some o:=
 W.hideAll_get _ e fun hm=>by
  have q:(H b).isSome=true:=(List.mem_filter.mp hm).2
  rw[n]at q;simp at q
theorem Ysj{h:Heap}{H:Hp}{b:Addr}{o:Obj}(e:(hidT h H).get? b=some o):h.get? b=some o/\H b=none:=by
 have e':h.get? b=some o:=W.of_hideAll (trk h H) e
 refine⟨e',?_⟩
 cases q:H b with
 | none=>rfl
 | some x=>
   have hm:b∈trk h H:=List.mem_filter.mpr ⟨List.mem_range.mpr (qk e'),by simp[q]⟩
   have z:(hidT h H).get? b=none:=W.hideAll_none (trk h H) hm
   rw[z]at e;cases e
end L2
namespace L2
open PySem PySem.Spec PyProof.Rows
structure Mod(K:W.Frag)(mg:Str->Option Value)(base:Heap):Prop where
 kin:K.In base
 glob:base.Ns mainGlobals mg
 blt:∃mb,base.Ns builtinsNs mb/\∀x:Str,x≠"__name__"->mb x=bootBuiltins x
 nolimit:base.NoLimit
structure Cx where
 prog:Program
 w:World
 K:W.Frag
 mg:Str->Option Value
 base:Heap
 A:Around
 N:List Str
 s₀:Shared
 H₀:Hp
 env:Env
 outer:List Env
 stack:List Env
 ex:List Addr
 fn:Str->Bool
 calm:Bool
 pn:List (Addr × Obj)
 xe:Value->Shared->Prop
def frs(l:List Env):List Addr:=l.filterMap (·.frame)
abbrev Cx.fs(X:Cx):List Addr:=frs X.outer
def Vis(sc:Scope)(x:Str):Prop:=sc.names.lookup x=some .local\/sc.names.lookup x=some .cell\/sc.names.lookup x=some .free
def Loc(sc:Scope)(x:Str):Prop:=sc.names.lookup x=some .local\/sc.names.lookup x=some .cell
def Look(env:Env)(h:Heap)(m:Str->Option Value)(x:Str)(u:Value):Prop:=
 (env.kindOf x=some .local/\m x=some u)\/((env.kindOf x=some .cell\/env.kindOf x=some .free)/\∃c,env.cells.lookup x=some c/\h.IsCell c (some u))
structure Cx.Ok(X:Cx):Prop where
 mod:Mod X.K X.mg X.base
 kind:X.env.scope.kind=.function
 glob:X.env.globals=mainGlobals
 blt:X.env.builtins=builtinsNs
 above:X.s₀.heap.objs.size<=X.env.locals
 inj:∀x y c,X.env.cells.lookup x=some c->X.env.cells.lookup y=some c->x=y
 has:∀x,(X.env.kindOf x=some .cell\/X.env.kindOf x=some .free)->∃c,X.env.cells.lookup x=some c
 cab:∀x c,X.fn x=true->X.env.cells.lookup x=some c->X.s₀.heap.objs.size<=c
 hd:X.calm=true->X.A.handled=none
 frames:X.A.frames=some X.stack
 stk:X.stack=X.outer\/(X.stack=X.env::X.outer/\X.env.frame=some X.env.locals)
 exf:∀b∈X.ex,b≠X.env.locals/\∀x c,X.env.cells.lookup x=some c->c≠b
 bs:∀b o,X.base.get? b=some o->X.s₀.heap.get? b=some o/\X.H₀ b=none
 bsz:X.base.objs.size<=X.s₀.heap.objs.size
 noex:∀b o,X.base.get? b=some o->b∉X.ex
 exfs:∀b∈X.ex,b∉X.fs
 funs:X.s₀.heap.FunFrames X.base X.outer
 frf:∀b∈X.fs,X.H₀ b=none
structure Inv(X:Cx)(pins:List (Addr × Obj))(σ:List (Option V))(H:Hp)(s:Shared):Prop where
 ok:X.Ok
 os:s.os=X.s₀.os
 bare:AllBare s.gens
 base:Un X.fs X.ex X.H₀ H X.s₀.heap s.heap
 loc:∃m,s.heap.Ns X.env.locals m/\∀(i:Nat) (x:Str) (v:V),X.N[i]?=some x->σ[i]?=some (some v)->Vis X.env.scope x->∃u,RelV v u/\Look X.env s.heap m x u
 cell:∀x c,X.env.cells.lookup x=some c->∃v,s.heap.IsCell c v
 free:H X.env.locals=none
 freeC:∀x c,X.env.cells.lookup x=some c->H c=none
 pin:∀p∈X.pn++pins,s.heap.get? p.1=some p.2/\H p.1=none/\p.1≠X.env.locals/\p.1∉X.fs/\∀v,p.2.data≠.cell v
 hok:HOk X.prog X.w H s.heap
 len:σ.length=X.N.length
section
variable {X:Cx} {pins:List (Addr × Obj)} {σ:List (Option V)} {H H':Hp} {s:Shared} {h':Heap}
theorem Cx.Ok.nofr(ok:X.Ok){b:Addr}{o:Obj}(e:X.base.get? b=some o):b∉X.fs:=fun hb=>by
 have:=(ok.funs.mem hb).1
 rw[e]at this;cases this
theorem Inv.bs(I:Inv X pins σ H s):∀b o,X.base.get? b=some o->s.heap.get? b=some o/\H b=none:=fun b o e=>
 ⟨I.base.keep b o (I.ok.bs b o e).1 (I.ok.bs b o e).2 (I.ok.nofr e) (I.ok.noex b o e),I.base.free b o (I.ok.bs b o e).1 (I.ok.bs b o e).2 (I.ok.noex b o e)⟩
theorem Inv.bk(I:Inv X pins σ H s):∀b o,X.base.get? b=some o->s.heap.get? b=some o:=fun b o e=>(I.bs b o e).1
theorem Inv.mod(I:Inv X pins σ H s):Mod X.K X.mg X.base:=I.ok.mod
theorem Inv.kIn(I:Inv X pins σ H s):X.K.In s.heap:=I.ok.mod.kin.keeps I.bk
theorem Inv.lt(I:Inv X pins σ H s):X.env.locals < s.heap.objs.size:=let ⟨_,hn,_⟩:=I.loc;hn.lt
theorem Inv.sz(I:Inv X pins σ H s):X.s₀.heap.objs.size<=s.heap.objs.size:=Nat.le_trans I.ok.above (Nat.le_of_lt I.lt)
theorem Inv.nofs(I:Inv X pins σ H s){a:Addr}(h:s.heap.objs.size<=a):a∉X.fs:=fun hb=>by
 obtain⟨_,o,ho,_⟩:=I.ok.funs.mem hb
 exact absurd (qx (qk ho) (Nat.le_trans I.sz h)) (Nat.lt_irrefl _)
theorem Inv.cne(I:Inv X pins σ H s):∀x c,X.env.cells.lookup x=some c->c≠X.env.locals:=fun x c e z=>by
 obtain⟨v,o,ho,hd⟩:=I.cell x c e
 obtain⟨m,⟨o',es,ep,ho',hd',_⟩,_⟩:=I.loc
 rw[z,ho']at ho;cases ho;rw[hd']at hd;cases hd
theorem Inv.funs(I:Inv X pins σ H s):s.heap.FunFrames X.base X.outer:=by
 have all:∀(l:List Env),(∀b∈frs l,b∈X.fs)->X.s₀.heap.FunFrames X.base l->s.heap.FunFrames X.base l:=by
  intro l
  induction l with
  | nil=>intro _ _;trivial
  | cons env r ih=>
    intro hs hl
    obtain⟨hk,⟨L,o,hf,hn,ho,hd⟩,hr⟩:=hl
    have hL:L∈X.fs:=hs L (by unfold frs;rw[List.filterMap_cons,hf];exact qg)
    obtain⟨sl,e⟩:=I.base.slot L o ho (I.ok.frf L hL) hL fun z=>I.ok.exfs L z hL
    exact⟨hk,⟨L,_,hf,hn,e,hd⟩,ih (fun b hb=>hs b (by unfold frs;rw[List.filterMap_cons,hf];exact qf _ hb)) hr⟩
 exact all X.outer (fun _ hb=>hb) I.ok.funs
theorem Inv.stack(I:Inv X pins σ H s):s.heap.FunFrames X.base X.stack:=by
 rcases I.ok.stk with e | ⟨e,hf⟩
 ·rw[e];exact I.funs
 ·rw[e]
  obtain⟨m,hn,_⟩:=I.loc
  refine .cons (by rw[I.ok.kind];decide) hf hn ?_ I.funs
  exact Heap.get?_none_of_le (Nat.le_trans I.ok.bsz I.ok.above)
theorem Inv.stkSub(I:Inv X pins σ H s):∀b∈frs X.stack,b∈X.env.locals::X.fs:=fun b hb=>by
 rcases I.ok.stk with e | ⟨e,hf⟩
 ·rw[e]at hb;exact qf _ hb
 ·rw[e]at hb
  unfold frs at hb
  rw[List.filterMap_cons,hf]at hb
  exact hb
theorem Inv.stkFree(I:Inv X pins σ H s):∀b∈frs X.stack,H b=none:=fun b hb=>by
 rcases qr (I.stkSub b hb)with e | hb
 ·rw[e];exact I.free
 ·obtain⟨_,o,ho,_⟩:=I.ok.funs.mem hb
  exact I.base.free b o ho (I.ok.frf b hb) fun z=>I.ok.exfs b z hb
theorem Inv.step{g':Array GenState}{t':Nat}{d':Drawn}{ch:List Addr}(I:Inv X pins σ H s)
 (hch:∀b∈ch,(b∈X.ex\/X.s₀.heap.objs.size<=b)/\b≠X.env.locals/\(∀x c,X.env.cells.lookup x=some c->c≠b)/\∀p∈X.pn++pins,p.1≠b)
 (keep:∀b o,b≠X.env.locals->b∉X.fs->b∉ch->s.heap.get? b=some o->H b=none->h'.get? b=some o)
 (slot:∀b o,b≠X.env.locals->b∈X.fs->b∉ch->s.heap.get? b=some o->H b=none->∃sl,h'.get? b=some { o with slots:=sl }) (free:∀b o,b∉ch->s.heap.get? b=some o->H b=none->H' b=none)
 (there:∀b o,b∉ch->s.heap.get? b=some o->∃o',h'.get? b=some o')
 (tups:∀b xs,H b=some (.tup xs)->H' b=some (.tup xs)) (frzs:∀b o u,H b=some (.frz o u)->H' b=some (.frz o u)) (tbls:∀b ps,H b=some (.tbl ps)->∃more,H' b=some (.tbl (ps++more)))
 (ns:∀m,s.heap.Ns X.env.locals m->h'.Ns X.env.locals m) (hok:HOk X.prog X.w H' h') (hg:AllBare g') :
 Inv X pins σ H' { s with heap:=h',gens:=g',drawn:=d',toks:=t' }:=by
 have neL:∀b o,X.s₀.heap.get? b=some o->b≠X.env.locals:=fun b o e=>ql (qx (qk e) I.ok.above)
 have neC:∀b o,X.s₀.heap.get? b=some o->b∉X.ex->b∉ch:=fun b o e hx hb=>by
  rcases(hch b hb).1 with z | z
  ·exact hx z
  ·exact absurd (qx (qk e) z) (Nat.lt_irrefl _)
 have cellK:∀x c,X.env.cells.lookup x=some c->∀v,s.heap.IsCell c v->h'.IsCell c v:=fun x c e v hx_=>by
  obtain⟨o,ho,hd⟩:=hx_
  have nch:c∉ch:=fun z=>(hch c z).2.2.1 x c e rfl
  by_cases hc:c∈X.fs
  ·obtain⟨sl,q⟩:=slot c o (I.cne x c e) hc nch ho (I.freeC x c e)
   exact⟨_,q,hd⟩
  ·exact⟨o,keep c o (I.cne x c e) hc nch ho (I.freeC x c e),hd⟩
 refine⟨I.ok,I.os,hg,⟨fun b o e n hb hx=>?_,fun b o e n hb hx=>?_,fun b o e n hx=>?_,fun b o e hx=>?_,fun b xs e=>tups b xs (I.base.tups b xs e),fun b o xs e=>frzs b o xs (I.base.frzs b o xs e),fun b ps e=>?_⟩,?_,fun x c e=>?_,?_,fun x c e=>?_,fun p hp=>?_,hok,I.len⟩
 ·exact keep b o (neL b o e) hb (neC b o e hx) (I.base.keep b o e n hb hx) (I.base.free b o e n hx)
 ·obtain⟨sl,e1⟩:=I.base.slot b o e n hb hx
  obtain⟨sl',e2⟩:=slot b _ (neL b o e) hb (neC b o e hx) e1 (I.base.free b o e n hx)
  exact⟨sl',e2⟩
 ·obtain⟨o',e1⟩:=I.base.there b o e hx
  exact free b o' (neC b o e hx) e1 (I.base.free b o e n hx)
 ·obtain⟨o',e1⟩:=I.base.there b o e hx
  exact there b o' (neC b o e hx) e1
 ·obtain⟨m1,e1⟩:=I.base.tbls b ps e
  obtain⟨m2,e2⟩:=tbls b _ e1
  exact⟨m1++m2,by rw[e2,Array.append_assoc]⟩
 ·obtain⟨m,hn,hl⟩:=I.loc
  refine⟨m,ns m hn,fun i x v e1 e2 e3=>?_⟩
  obtain⟨u,r,l⟩:=hl i x v e1 e2 e3
  refine⟨u,r,?_⟩
  rcases l with l | ⟨k,c,e,z⟩
  ·exact .inl l
  ·exact .inr ⟨k,c,e,cellK x c e _ z⟩
 ·obtain⟨v,z⟩:=I.cell x c e
  exact⟨v,cellK x c e v z⟩
 ·obtain⟨m,⟨o,_,_,ho,_⟩,_⟩:=I.loc
  exact free _ o (fun z=>(hch _ z).2.1 rfl) ho I.free
 ·obtain⟨v,o,ho,hd⟩:=I.cell x c e
  exact free c o (fun z=>(hch c z).2.2.1 x c e rfl) ho (I.freeC x c e)
 ·obtain⟨e,n,ne,nf,d⟩:=I.pin p hp
  have nch:p.1∉ch:=fun z=>(hch p.1 z).2.2.2 p hp rfl
  exact⟨keep p.1 p.2 ne nf nch e n,free p.1 p.2 nch e n,ne,nf,d⟩
theorem Inv.un{t':Nat}(I:Inv X pins σ H s)(u:Un X.fs [] H H' s.heap h')(hok:HOk X.prog X.w H' h'):Inv X pins σ H' { s with heap:=h',toks:=t' }:=by
 obtain⟨m,⟨o,es,ep,ho,r⟩,_⟩:=id I.loc
 obtain⟨sl,hL⟩:=u.any ho I.free (by simp)
 exact I.step (g':=s.gens) (d':=s.drawn) (ch:=[]) (fun _ z=>nomatch z) (fun b o _ hb _ e n=>u.keep b o e n hb (by simp)) (fun b o _ hb _ e n=>u.slot b o e n hb (by simp)) (fun b o _ e n=>u.free b o e n (by simp)) (fun b o _ e=>u.there b o e (by simp)) u.tups u.frzs u.tbls (fun m' hm=>by
  obtain⟨o',es',ep',ho',r'⟩:=hm
  rw[ho]at ho';cases ho'
  exact⟨_,es',ep',hL,r'⟩) hok I.bare
theorem Inv.call{g':Array GenState}{t':Nat}{d':Drawn}{ch:List Addr}(I:Inv X pins σ H s)(u:Un (frs X.stack) ch H H' s.heap h')(hok:HOk X.prog X.w H' h')(hg:AllBare g')
 (hch:∀b∈ch,(b∈X.ex\/X.s₀.heap.objs.size<=b)/\b≠X.env.locals/\(∀x c,X.env.cells.lookup x=some c->c≠b)/\∀p∈X.pn++pins,p.1≠b) :
 Inv X pins σ H' { s with heap:=h',gens:=g',drawn:=d',toks:=t' }:=by
 obtain⟨m,⟨o,es,ep,ho,r⟩,_⟩:=id I.loc
 obtain⟨sl,hL⟩:=u.any ho I.free fun z=>(hch _ z).2.1 rfl
 exact I.step (ch:=ch) hch (fun b o hL hb hc e n=>u.keep b o e n (fun z=>(qr (I.stkSub b z)).elim hL hb) hc) (fun b o _ _ hc e n=>u.any e n hc) (fun b o hc e n=>u.free b o e n hc) (fun b o hc e=>u.there b o e hc) u.tups u.frzs u.tbls (fun m' hm=>by
  obtain⟨o',es',ep',ho',r'⟩:=hm
  rw[ho]at ho';cases ho'
  exact⟨_,es',ep',hL,r'⟩) hok hg
theorem Inv.turned{t':Nat}{it:Addr}(I:Inv X pins σ H s)(k:∀b o,b≠it->s.heap.get? b=some o->h'.get? b=some o)(hn:H it=none)(hL:it≠X.env.locals)
 (h1:it∈X.ex\/X.s₀.heap.objs.size<=it) (h2:∀x c,X.env.cells.lookup x=some c->c≠it) (h3:∀p∈X.pn++pins,p.1≠it):Inv X pins σ H { s with heap:=h',toks:=t' }:=by
 have nit:∀b u,H b=some u->b≠it:=fun b u e z=>by rw[z,hn]at e;cases e
 refine I.step (g':=s.gens) (d':=s.drawn) (ch:=[it]) (fun b hb=>?_) (fun b o _ _ hc e _=>k b o (fun z=>hc (by simp[z])) e) (fun b o _ _ hc e _=>⟨o.slots,k b o (fun z=>hc (by simp[z])) e⟩) (fun _ _ _ _ n=>n)
  (fun b o hc e=>⟨o,k b o (fun z=>hc (by simp[z])) e⟩) (fun _ _ e=>e) (fun _ _ _ e=>e) (fun b ps e=>⟨#[],by rw[e];simp⟩) (fun m hm=>?_) (fun b u e=>?_) I.bare
 ·have e:b=it:=by simpa using hb
  subst e
  exact⟨h1,hL,h2,h3⟩
 ·obtain⟨o,es,ep,ho,r⟩:=hm
  exact⟨o,es,ep,k _ o (Ne.symm hL) ho,r⟩
 ·refine(I.hok b u e).stay (fun c v hc q=>k c v ?_ q) (fun _ q=>q) fun _ _ q=>q
  rcases hc with z | z
  ·rw[z];exact nit b u e
  ·exact nit c _ z
theorem Inv.tok(I:Inv X pins σ H s)(t:Nat):Inv X pins σ H { s with toks:=t }:=I.un (h':=s.heap) (t':=t) Un.refl I.hok
theorem Inv.kept{t':Nat}(I:Inv X pins σ H s)(k:∀b u,s.heap.get? b=some u->h'.get? b=some u):Inv X pins σ H { s with heap:=h',toks:=t' }:=I.un (Un.kept k) (I.hok.kept k)
theorem Inv.laid{a:Addr}{o:HO}{t':Nat}(I:Inv X pins σ H s)(k:∀b u,s.heap.get? b=some u->h'.get? b=some u)(hp:s.heap.objs.size<=a)(new:ObjOk X.prog X.w (upd H a o) h' a o) :
 Inv X pins σ (upd H a o) { s with heap:=h',toks:=t' }:=I.un (Un.laid k hp (I.hok.fresh hp)) (I.hok.laid k hp new)
theorem Inv.write{x e:Addr}{o:HO}{t':Nat}(I:Inv X pins σ H s)(mu:Mut (H x))(he:e=x\/H e=some (.own x))(k:∀b u,b≠e->s.heap.get? b=some u->h'.get? b=some u)(heo:∃u,h'.get? e=some u)
 (new:ObjOk X.prog X.w (upd H x o) h' x o):Inv X pins σ (upd H x o) { s with heap:=h',toks:=t' }:=I.un (Un.write mu he k heo) (I.hok.write mu he k heo new)
theorem Inv.pins_of{pins':List (Addr × Obj)}(I:Inv X pins σ H s)(h:∀p∈pins',s.heap.get? p.1=some p.2/\H p.1=none/\p.1≠X.env.locals/\p.1∉X.fs/\∀v,p.2.data≠.cell v):Inv X pins' σ H s:=
 ⟨I.ok,I.os,I.bare,I.base,I.loc,I.cell,I.free,I.freeC,fun p hp=>(qu hp).elim (fun z=>I.pin p (List.mem_append_left _ z)) (h p),I.hok,I.len⟩
theorem Yig{N:List Str}(hN:N.Nodup){i j:Nat}{x:Str}(a:N[i]?=some x)(b:N[j]?=some x):i=j:=by
 obtain⟨h1,e1⟩:=qm a
 obtain⟨h2,e2⟩:=qm b
 exact(List.getElem_inj hN).mp (e1.trans e2.symm)
theorem Ygl{M:Model}{A:Around}{E:Value->Shared->Prop}{i:Nat}{x:Str}{v:V}{u:Value}{Q:Unit->Shared->Prop}(I:Inv X pins σ H s)(hN:X.N.Nodup)(hi:X.N[i]?=some x)(hx:Loc X.env.scope x)(r:RelV v u)
 (h:∀s',Inv X pins (σ.set i (some v)) H s'->(∃a,Heap.SameBut a s.heap s'.heap/\(a=X.env.locals\/X.env.cells.lookup x=some a))->Q () s') (hf:X.fn x=true\/X.env.scope.names.lookup x=some .local:=by first | exact .inl rfl | exact .inr rfl | assumption):wpAny M A (storeName X.env x u) Q E s:=by
 obtain⟨m,hn,hl⟩:=id I.loc
 have hcls:(X.env.scope.kind==.class||(X.env.scope.kind==.module&&X.env.locals != X.env.globals))=false:=by rw[I.ok.kind];rfl
 have hiσ:i < σ.length:=by rw[I.len];exact(qm hi).1
 have cne:=I.cne
 have tracked:∀{a:Addr} {h':Heap},(∃o,s.heap.get? a=some o/\H a=none)->Heap.SameBut a s.heap h'->HOk X.prog X.w H h':=fun {a h'} ha hs b ob e=>by
  obtain⟨_,_,hfree⟩:=ha
  refine(I.hok b ob e).stay (fun c w' hc q=>(hs.2 c ?_).trans q) (fun _ q=>q) fun _ _ q=>q
  rintro rfl
  rcases hc with rfl | hc
  ·rw[hfree]at e;cases e
  ·rw[hfree]at hc;cases hc
 rcases hx with hk | hk
 ·refine wpAny_storeName_local hk hn (fun h' hn' hs=>?_) hcls
  obtain⟨oL,_,_,hoL,_⟩:=id hn
  refine h _ ⟨I.ok,I.os,I.bare,⟨fun b o e n hb hx=>?_,fun b o e n hb hx=>?_,I.base.free,fun b o e hx=>?_,I.base.tups,I.base.frzs,I.base.tbls⟩,⟨_,hn',fun j y v' e1 e2 e3=>?_⟩,fun y c e=>?_,I.free,I.freeC,fun p hp=>?_,tracked ⟨oL,hoL,I.free⟩ hs,by simpa using I.len⟩ ⟨_,hs,.inl rfl⟩
  ·exact(hs.2 b (ql (qx (qk e) I.ok.above))).trans (I.base.keep b o e n hb hx)
  ·obtain⟨sl,e1⟩:=I.base.slot b o e n hb hx
   exact⟨sl,(hs.2 b (ql (qx (qk e) I.ok.above))).trans e1⟩
  ·obtain⟨o',e1⟩:=I.base.there b o e hx
   exact⟨o',(hs.2 b (ql (qx (qk e) I.ok.above))).trans e1⟩
  ·by_cases hj:j=i
   ·subst hj
    rw[hi]at e1;cases e1
    rw[List.getElem?_set_self hiσ]at e2
    cases e2
    exact⟨u,r,.inl ⟨hk,by simp⟩⟩
   ·rw[qy (Ne.symm hj)]at e2
    obtain⟨u',r',q⟩:=hl j y v' e1 e2 e3
    refine⟨u',r',?_⟩
    rcases q with⟨k,e⟩ | ⟨k,c,e,z⟩
    ·refine .inl ⟨k,?_⟩
     have:y≠x:=fun e=>hj (Yig hN e1 (e ▸ hi))
     simp[this,e]
    ·exact .inr ⟨k,c,e,z.sameBut hs (cne y c e)⟩
  ·obtain⟨w',z⟩:=I.cell y c e
   exact⟨w',z.sameBut hs (cne y c e)⟩
  ·obtain⟨e,n,ne,nf,d⟩:=I.pin p hp
   exact⟨(hs.2 p.1 ne).trans e,n,ne,nf,d⟩
 ·have hfn:X.fn x=true:=by
   rcases hf with z | z
   ·exact z
   ·rw[z]at hk;cases hk
  obtain⟨c,hc⟩:=I.ok.has x (.inl hk)
  obtain⟨w',z⟩:=I.cell x c hc
  refine wpAny_storeName_cell I.ok.kind hk hc z (fun h' hc' hs=>?_)
  obtain⟨oc,hoc,hocd⟩:=id z
  refine h { s with heap:=h' } ⟨I.ok,I.os,I.bare,⟨fun b o e n hb hx=>?_,fun b o e n hb hx=>?_,I.base.free,fun b o e hx=>?_,I.base.tups,I.base.frzs,I.base.tbls⟩,⟨m,hn.sameBut hs (Ne.symm (cne x c hc)),fun j y v' e1 e2 e3=>?_⟩,fun y c' e=>?_,I.free,I.freeC,fun p hp=>?_,tracked ⟨oc,hoc,I.freeC x c hc⟩ hs,by simpa using I.len⟩ ⟨c,hs,.inr hc⟩
  ·exact(hs.2 b (ql (qx (qk e) (I.ok.cab x c hfn hc)))).trans (I.base.keep b o e n hb hx)
  ·obtain⟨sl,e1⟩:=I.base.slot b o e n hb hx
   exact⟨sl,(hs.2 b (ql (qx (qk e) (I.ok.cab x c hfn hc)))).trans e1⟩
  ·obtain⟨o',e1⟩:=I.base.there b o e hx
   exact⟨o',(hs.2 b (ql (qx (qk e) (I.ok.cab x c hfn hc)))).trans e1⟩
  ·by_cases hj:j=i
   ·subst hj
    rw[hi]at e1;cases e1
    rw[List.getElem?_set_self hiσ]at e2
    cases e2
    exact⟨u,r,.inr ⟨.inl hk,c,hc,hc'⟩⟩
   ·rw[qy (Ne.symm hj)]at e2
    obtain⟨u',r',q⟩:=hl j y v' e1 e2 e3
    refine⟨u',r',?_⟩
    rcases q with q | ⟨k,c',e,z'⟩
    ·exact .inl q
    ·refine .inr ⟨k,c',e,z'.sameBut hs ?_⟩
     rintro rfl
     exact hj (Yig hN e1 (I.ok.inj _ _ _ e hc ▸ hi))
  ·by_cases hcc:c'=c
   ·subst hcc;exact⟨_,hc'⟩
   ·obtain⟨w2,z2⟩:=I.cell y c' e
    exact⟨w2,z2.sameBut hs hcc⟩
  ·obtain⟨e,n,ne,nf,d⟩:=I.pin p hp
   refine⟨(hs.2 p.1 ?_).trans e,n,ne,nf,d⟩
   intro q
   rw[q,hoc]at e
   have q':oc=p.2:=Option.some.inj e
   exact d w' (by rw[<-q'];exact hocd)
theorem Yih{M:Model}{A:Around}{E:Value->Shared->Prop}{i:Nat}{x:Str}{v:V}{u:Value}{Q:Unit->Shared->Prop}(I:Inv X pins σ H s)(hN:X.N.Nodup)(hi:X.N[i]?=some x)(hx:Loc X.env.scope x)(r:RelV v u)
 (h:∀s',Inv X pins (σ.set i (some v)) H s'->Q () s') (hf:X.fn x=true\/X.env.scope.names.lookup x=some .local:=by first | exact .inl rfl | exact .inr rfl | assumption):wpAny M A (storeName X.env x u) Q E s:=
 Ygl I hN hi hx r (fun s' I' _=>h s' I') hf
theorem Inv.call'{s':Shared}{ch:List Addr}(I:Inv X pins σ H s)(ho:s'.os=s.os)(u:Un (frs X.stack) ch H H' s.heap s'.heap)(hok:HOk X.prog X.w H' s'.heap)(hg:AllBare s'.gens)
 (hch:∀b∈ch,(b∈X.ex\/X.s₀.heap.objs.size<=b)/\b≠X.env.locals/\(∀x c,X.env.cells.lookup x=some c->c≠b)/\∀p∈X.pn++pins,p.1≠b):Inv X pins σ H' s':=by
 obtain⟨h',g',d',t',o'⟩:=s'
 have e:o'=s.os:=ho
 subst e
 exact I.call (g':=g') (t':=t') (d':=d') u hok hg hch
end
abbrev XK:=Value->Option Addr->Hp->Prop
abbrev St:=List (Option V)
abbrev VK:=V->Hp->Prop
abbrev TE:=St->Hp->VK->Prop
abbrev TT:=St->Hp->(Bool->Hp->Prop)->Prop
abbrev TA:=St->Hp->(List V->Hp->Prop)->Prop
structure Ends where
 nx:St->Hp->Prop
 rt:VK
 bk:St->Hp->Prop:=fun _ _=>False
 ct:St->Hp->Prop:=fun _ _=>False
abbrev TS:=Ends->St->Hp->Prop
def EP(X:Cx)(pins:List (Addr × Obj))(σ:St)(Q:VK)(u:Value)(s':Shared):Prop:=∃v H',Inv X pins σ H' s'/\RelV v u/\Q v H'
def TP(X:Cx)(pins:List (Addr × Obj))(σ:St)(Q:Bool->Hp->Prop)(b:Bool)(s':Shared):Prop:=∃H',Inv X pins σ H' s'/\Q b H'
def AP(X:Cx)(pins:List (Addr × Obj))(σ:St)(Q:List V->Hp->Prop)(us:List Value)(s':Shared):Prop:=∃vs H',Inv X pins σ H' s'/\Vals vs us/\Q vs H'
def SP(X:Cx)(pins:List (Addr × Obj))(D:Ends)(f:Flow)(s':Shared):Prop:=
 match f with
 | .next=>∃σ' H',Inv X pins σ' H' s'/\D.nx σ' H'
 | .brk=>∃σ' H',Inv X pins σ' H' s'/\D.bk σ' H'
 | .cont=>∃σ' H',Inv X pins σ' H' s'/\D.ct σ' H'
 | .ret u=>∃v σ' H',Inv X pins σ' H' s'/\RelV v u/\D.rt v H'
def PE(X:Cx)(e:Expr)(t:TE):Prop:=
 ∀(pins:List (Addr × Obj)) (s:Shared) (σ:St) (H:Hp) (Q:VK),Inv X pins σ H s->t σ H Q->wpAny (model X.prog X.w) X.A (eval e X.env) (EP X pins σ Q) X.xe s
def PT(X:Cx)(e:Expr)(t:TT):Prop:=
 ∀(pins:List (Addr × Obj)) (s:Shared) (σ:St) (H:Hp) (Q:Bool->Hp->Prop),Inv X pins σ H s->t σ H Q->wpAny (model X.prog X.w) X.A (isTrue e X.env (eval e X.env)) (TP X pins σ Q) X.xe s
def PW(X:Cx)(e:Expr)(t:TT):Prop:=
 ∀(whole:Sem Value) (pins:List (Addr × Obj)) (s:Shared) (σ:St) (H:Hp) (Q:Bool->Hp->Prop),Inv X pins σ H s->t σ H Q->wpAny (model X.prog X.w) X.A (isTrue e X.env whole) (TP X pins σ Q) X.xe s
theorem PW.pt{X:Cx}{e:Expr}{t:TT}(h:PW X e t):PT X e t:=h _
def PA(X:Cx)(es:List Expr)(t:TA):Prop:=
 ∀(pos:Pos) (pins:List (Addr × Obj)) (s:Shared) (σ:St) (H:Hp) (Q:List V->Hp->Prop),Inv X pins σ H s->t σ H Q->wpAny (model X.prog X.w) X.A (spliced (backTo pos (starEach es X.env))) (AP X pins σ Q) X.xe s
def PS(X:Cx)(st:Stmt)(t:TS):Prop:=
 ∀(pins:List (Addr × Obj)) (s:Shared) (σ:St) (H:Hp) (D:Ends),Inv X pins σ H s->t D σ H->wpAny (model X.prog X.w) X.A (exec st X.env) (SP X pins D) X.xe s
def PSs(X:Cx)(st:List Stmt)(t:TS):Prop:=
 ∀(pins:List (Addr × Obj)) (s:Shared) (σ:St) (H:Hp) (D:Ends),Inv X pins σ H s->t D σ H->wpAny (model X.prog X.w) X.A (execs st X.env) (SP X pins D) X.xe s
theorem thn{α:Type}{t:Sem α}{Q Q':α->Shared->Prop}{M:Model}{A:Around}{E:Value->Shared->Prop}{s:Shared}(h:wpAny M A t Q E s)(hQ:∀a s,Q a s->Q' a s):wpAny M A t Q' E s:=wpAny_mono h hQ fun _ _ x=>x
end L2
namespace L2
open PySem PySem.Spec PyProof.Rows
section
variable {X:Cx}
def tVar(i:Nat):TE:=fun σ H Q=>∃v,σ[i]?=some (some v)/\Q v H
def tC(v:V):TE:=fun _ H Q=>Q v H
theorem Yhv{i:Nat}{x:Str}{pos:Pos}(hN:X.N[i]?=some x)(hv:Vis X.env.scope x)(hd:(x==("__debug__":Str))=false:=by decide)(hcd:(x==("__classdict__":Str))=false:=by decide):PE X (.Name x pos) (tVar i):=by
 intro pins s σ H Q I h
 obtain⟨v,e,h⟩:=h
 obtain⟨m,hn,hl⟩:=I.loc
 obtain⟨u,r,l⟩:=hl i x v hN e hv
 have fin:EP X pins σ Q u s:=⟨v,H,I,r,h⟩
 rcases l with⟨hk,hm⟩ | ⟨hk,c,hc,hcell⟩
 ·exact wpAny_Name (wpAny_loadName_local I.ok.kind hk hn hm fin) hd
 ·rcases hk with hk | hk
  ·exact wpAny_Name (wpAny_loadName_cell I.ok.kind hk hc hcell fin) hd
  ·exact wpAny_Name (wpAny_loadName_free I.ok.kind hk hc hcell fin hcd) hd
theorem Yuv{i j pos}:PE X (.Constant (.int i) j pos) (tC (.int i)):=fun _ _ _ H _ I h=>wpAny_Constant_int ⟨.int i,H,I.tok _,⟨_,rfl⟩,h⟩
theorem Yxp{b j pos}:PE X (.Constant (.bool b) j pos) (tC (.bl b)):=fun _ _ _ H _ I h=>Constant_bool ⟨.bl b,H,I,rfl,h⟩
theorem Yuw{j pos}:PE X (.Constant .none j pos) (tC .non):=fun _ _ _ H _ I h=>Constant_none ⟨.non,H,I,rfl,h⟩
theorem Yux{x j pos}:PE X (.Constant (.str x) j pos) (tC (.str x)):=fun _ _ _ H _ I h=>Calls.Constant_str ⟨.str x,H,I.tok _,⟨_,rfl⟩,h⟩
def Gl(X:Cx)(x:Str):Prop:=X.env.kindOf x=some .globalImplicit
theorem Yff{E:Value->Shared->Prop}{pins:List (Addr × Obj)}{s:Shared}{σ:St}{H:Hp}{x:Str}{u:Value}{pos:Pos}{Q:Value->Shared->Prop}(I:Inv X pins σ H s)(hg:Gl X x)(hm:X.mg x=some u)(h:Q u s)
 (hd:(x==("__debug__":Str))=false:=by decide):wpAny (model X.prog X.w) X.A (eval (.Name x pos) X.env) Q E s:=
 Calls.Name_function_global I.ok.kind hg (Calls.loadGlobal_global (by rw[I.ok.glob];exact I.mod.glob.keeps I.bk) hm h) hd
theorem Yly{E:Value->Shared->Prop}{pins:List (Addr × Obj)}{s:Shared}{σ:St}{H:Hp}{x:Str}{u:Value}{pos:Pos}{Q:Value->Shared->Prop}(I:Inv X pins σ H s)(hg:Gl X x)(hm:X.mg x=none)(hv:bootBuiltins x=some u)(h:Q u s)
 (hn:x≠"__name__":=by decide) (hd:(x==("__debug__":Str))=false:=by decide):wpAny (model X.prog X.w) X.A (eval (.Name x pos) X.env) Q E s:=by
 obtain⟨mb,h1,h2⟩:=I.mod.blt
 exact Calls.Name_function_global I.ok.kind hg (Calls.loadGlobal_builtin (by rw[I.ok.glob];exact I.mod.glob.keeps I.bk) hm (by rw[I.ok.blt];exact h1.keeps I.bk) ((h2 x hn).trans hv) h) hd
theorem Yky{x:Str}{v:V}{u:Value}{pos:Pos}(hg:Gl X x)(hm:X.mg x=some u)(r:RelV v u)(hd:(x==("__debug__":Str))=false:=by decide):PE X (.Name x pos) (tC v):=
 fun _ _ _ H _ I h=>Yff I hg hm ⟨v,H,I,r,h⟩ hd
theorem Ynd{x:Str}{v:V}{u:Value}{pos:Pos}(hg:Gl X x)(hm:X.mg x=none)(hv:bootBuiltins x=some u)(r:RelV v u)(hn:x≠"__name__":=by decide)(hd:(x==("__debug__":Str))=false:=by decide):PE X (.Name x pos) (tC v):=
 fun _ _ _ H _ I h=>Yly I hg hm hv ⟨v,H,I,r,h⟩ hn hd
variable {a b:Expr} {ta tb:TE} {pos:Pos}
variable {tA tB':TT} {rest:List Expr}
def tAnd(t u:TT):TT:=fun σ H Q=>t σ H fun c H1=>if c=true then u σ H1 Q else Q false H1
def tOr(t u:TT):TT:=fun σ H Q=>t σ H fun c H1=>if c=true then Q true H1 else u σ H1 Q
def tNot(t:TT):TT:=fun σ H Q=>t σ H fun c H1=>Q (!c) H1
theorem Ysk(ha:PT X a tA):PW X (.BoolOp .And [a] pos) tA:=by
 intro wh pins s σ H Q I h
 refine isTrue_and (thn (ha pins s σ H Q I h) fun c s1 e=>?_)
 cases c with
 | true=>exact isTrue_and_nil e
 | false=>exact e
theorem Yuy(ha:PT X a tA):PW X (.BoolOp .Or [a] pos) tA:=by
 intro wh pins s σ H Q I h
 refine isTrue_or (thn (ha pins s σ H Q I h) fun c s1 e=>?_)
 cases c with
 | false=>exact isTrue_or_nil e
 | true=>exact e
theorem Yuz(ha:PT X a tA)(hb:PW X (.BoolOp .And (b::rest) pos) tB'):PW X (.BoolOp .And (a::b::rest) pos) (tAnd tA tB'):=by
 intro wh pins s σ H Q I h
 refine isTrue_and (thn (ha pins s σ H _ I h) fun c s1 hx_=>?_)
 obtain⟨H1,I1,q1⟩:=hx_
 cases c with
 | true=>exact hb wh pins s1 σ H1 Q I1 q1
 | false=>exact⟨H1,I1,q1⟩
theorem Yxq(ha:PT X a tA)(hb:PW X (.BoolOp .Or (b::rest) pos) tB'):PW X (.BoolOp .Or (a::b::rest) pos) (tOr tA tB'):=by
 intro wh pins s σ H Q I h
 refine isTrue_or (thn (ha pins s σ H _ I h) fun c s1 hx_=>?_)
 obtain⟨H1,I1,q1⟩:=hx_
 cases c with
 | true=>exact⟨H1,I1,q1⟩
 | false=>exact hb wh pins s1 σ H1 Q I1 q1
theorem Yu0(ha:PT X a tA):PT X (.UnaryOp .Not a pos) (tNot tA):=by
 intro pins s σ H Q I h
 exact isTrue_not (ha pins s σ H (fun c H1=>Q (!c) H1) I h)
def Yxr(ta tb:TE):TE:=fun σ H Q=>ta σ H fun x H1=>∃c,x=.bl c/\if c=true then tb σ H1 Q else Q (.bl false) H1
def tOrV(ta tb:TE):TE:=fun σ H Q=>ta σ H fun x H1=>∃c,x=.bl c/\if c=true then Q (.bl true) H1 else tb σ H1 Q
def Yxs(ta:TE):TE:=fun σ H Q=>ta σ H fun x H1=>∃c,x=.bl c/\Q (.bl (!c)) H1
theorem Yrq{op}{t:TE}(h:PE X a t):PE X (.BoolOp op [a] pos) t:=fun pins s σ H Q I hw=>BoolOp_one (h pins s σ H Q I hw)
theorem Yu1(ha:PE X a ta)(hb:PE X (.BoolOp .And (b::rest) pos) tb):PE X (.BoolOp .And (a::b::rest) pos) (Yxr ta tb):=by
 intro pins s σ H Q I h
 refine BoolOp_and (thn (ha pins s σ H _ I h) fun v s1 hx_=>?_)
 obtain⟨x,H1,I1,r1,q1⟩:=hx_
 obtain⟨c,rfl,q1⟩:=q1
 cases r1
 refine wpAny_truthy_bool ?_
 cases c with
 | true=>exact hb pins s1 σ H1 Q I1 q1
 | false=>exact⟨.bl false,H1,I1,rfl,q1⟩
theorem Yxt(ha:PE X a ta)(hb:PE X (.BoolOp .Or (b::rest) pos) tb):PE X (.BoolOp .Or (a::b::rest) pos) (tOrV ta tb):=by
 intro pins s σ H Q I h
 refine BoolOp_or (thn (ha pins s σ H _ I h) fun v s1 hx_=>?_)
 obtain⟨x,H1,I1,r1,q1⟩:=hx_
 obtain⟨c,rfl,q1⟩:=q1
 cases r1
 refine wpAny_truthy_bool ?_
 cases c with
 | false=>exact hb pins s1 σ H1 Q I1 q1
 | true=>exact⟨.bl true,H1,I1,rfl,q1⟩
theorem Yu2(ha:PE X a ta):PE X (.UnaryOp .Not a pos) (Yxs ta):=by
 intro pins s σ H Q I h
 refine UnaryOp_ (thn (ha pins s σ H _ I h) fun v s1 hx_=>?_)
 obtain⟨x,H1,I1,r1,q1⟩:=hx_
 obtain⟨c,rfl,q1⟩:=q1
 cases r1
 exact not_of (wpAny_truthy_bool ⟨.bl (!c),H1,I1,rfl,q1⟩)
end
end L2
namespace L2
open PySem PySem.Spec PyProof.Rows
def SqL(K:W.Frag)(H:Hp)(a:Addr)(xs:List V):Prop:=
 Rd H a (.lst xs)\/
  ∃(o:Obj) (its:Array Value) (n:Nat),K.lookup a=some o/\o.cls=.type "list"/\o.dict=none/\o.data=.seq its n/\its.size<=sizeLine/\Vals xs its.toList
def SqT(K:W.Frag)(H:Hp)(a:Addr)(xs:List V):Prop:=
 Rd H a (.tup xs)\/
  ∃(o:Obj) (its:Array Value) (n:Nat),K.lookup a=some o/\o.cls=.type "tuple"/\o.data=.seq its n/\its.size<=sizeLine/\Vals xs its.toList
def absV:Value->Option V
 | .none=>some .non
 | .bool b=>some (.bl b)
 | .int i _=>some (.int i)
 | .str x _=>some (.str x)
 | .bytes b _=>some (.byt b)
 | .float b _=>some (.flt b)
 | .ref a=>some (.ref a)
 | .type n=>some (.ty n)
 | _=>none
theorem RelV.abs{x:V}{u:Value}(r:RelV x u):absV u=some x:=by
 cases x with
 | non=>cases r;rfl
 | bl _=>cases r;rfl
 | int _=>obtain⟨t,rfl⟩:=r;rfl
 | str _=>obtain⟨t,rfl⟩:=r;rfl
 | byt _=>obtain⟨t,rfl⟩:=r;rfl
 | flt _=>obtain⟨t,rfl⟩:=r;rfl
 | ref _=>cases r;rfl
 | ty _=>cases r;rfl
theorem RelV.inj{x y:V}{u:Value}(r:RelV x u)(q:RelV y u):x=y:=Option.some.inj (r.abs.symm.trans q.abs)
theorem Vals.inj:∀{xs ys:List V} {us:List Value},Vals xs us->Vals ys us->xs=ys
 :=by
  intro xs ys us h
  induction h generalizing ys with
  | nil=>
    intro h2
    cases h2
    rfl
  | cons r t ih=>
    intro h2
    cases h2 with
    | cons r' t'=>rw[r.inj r',ih t']
section
variable {X:Cx} {pins:List (Addr × Obj)} {σ:St} {H:Hp} {s:Shared} {a:Addr} {xs ys:List V}
theorem SqL.of{K:W.Frag}(h:H a=some (.lst xs)):SqL K H a xs:=.inl (.inl h)
theorem SqT.of{K:W.Frag}(h:H a=some (.tup xs)):SqT K H a xs:=.inl (.inl h)
theorem Inv.list(I:Inv X pins σ H s)(h:SqL X.K H a xs):∃its:List Value,Vals xs its/\PlainL s.heap a its.toArray/\xs.length<=sizeLine:=by
 rcases h with h | ⟨o,its,n,hk,hc,hd,hs,hz,r⟩
 ·obtain⟨z,its,n,r,e⟩:=h.ok I.hok
  exact⟨its,r,⟨_,n,e,rfl,rfl,rfl⟩,z⟩
 ·refine⟨its.toList,r,⟨o,n,I.kIn a o hk,hc,hd,by simpa using hs⟩,?_⟩
  have e:=r.length
  simp only[qi]at e
  lia
theorem Inv.tuple(I:Inv X pins σ H s)(h:SqT X.K H a xs):∃its:List Value,Vals xs its/\IsTup s.heap a its.toArray/\xs.length<=sizeLine:=by
 rcases h with h | ⟨o,its,n,hk,hc,hs,hz,r⟩
 ·obtain⟨z,its,r,p⟩:=h.ok I.hok
  exact⟨its,r,p,z⟩
 ·refine⟨its.toList,r,⟨o,I.kIn a o hk,hc,n,by simpa using hs⟩,?_⟩
  have e:=r.length
  simp only[qi]at e
  lia
theorem Inv.list_inj(I:Inv X pins σ H s)(h:SqL X.K H a xs)(h':SqL X.K H a ys):xs=ys:=by
 obtain⟨its,r,⟨o,n,e,_,_,d⟩,_⟩:=I.list h
 obtain⟨its',r',⟨o',n',e',_,_,d'⟩,_⟩:=I.list h'
 rw[e]at e';cases e'
 rw[d]at d'
 injection d' with d1 _
 have:its=its':=by simpa using congrArg Array.toList d1
 subst this
 exact r.inj r'
theorem Inv.tuple_inj(I:Inv X pins σ H s)(h:SqT X.K H a xs)(h':SqT X.K H a ys):xs=ys:=by
 obtain⟨its,r,⟨o,e,_,n,d⟩,_⟩:=I.tuple h
 obtain⟨its',r',⟨o',e',_,n',d'⟩,_⟩:=I.tuple h'
 rw[e]at e';cases e'
 rw[d]at d'
 injection d' with d1 _
 have:its=its':=by simpa using congrArg Array.toList d1
 subst this
 exact r.inj r'
end
abbrev Cx.wish(X:Cx)(E:Value->Shared->Prop):Cx:={ X with xe:=E }
abbrev Cx.nox(X:Cx):Cx:=X.wish fun _ _=>False
theorem Cx.Ok.wish{X:Cx}(ok:X.Ok)(E:Value->Shared->Prop):(X.wish E).Ok:=
 ⟨ok.mod,ok.kind,ok.glob,ok.blt,ok.above,ok.inj,ok.has,ok.cab,ok.hd,ok.frames,ok.stk,ok.exf,ok.bs,ok.bsz,ok.noex,ok.exfs,ok.funs,ok.frf⟩
theorem Cx.Ok.unwish{X:Cx}{E:Value->Shared->Prop}(ok:(X.wish E).Ok):X.Ok:=
 ⟨ok.mod,ok.kind,ok.glob,ok.blt,ok.above,ok.inj,ok.has,ok.cab,ok.hd,ok.frames,ok.stk,ok.exf,ok.bs,ok.bsz,ok.noex,ok.exfs,ok.funs,ok.frf⟩
section
variable {X:Cx} {pins:List (Addr × Obj)} {σ:St} {H:Hp} {s:Shared} {E:Value->Shared->Prop} {st:Stmt} {rest:List Stmt} {t u:TS} {e:Expr} {te:TE} {pos:Pos}
theorem Inv.wish(I:Inv X pins σ H s)(E:Value->Shared->Prop):Inv (X.wish E) pins σ H s:=⟨I.ok.wish E,I.os,I.bare,I.base,I.loc,I.cell,I.free,I.freeC,I.pin,I.hok,I.len⟩
theorem Inv.unwish(I:Inv (X.wish E) pins σ H s):Inv X pins σ H s:=⟨I.ok.unwish,I.os,I.bare,I.base,I.loc,I.cell,I.free,I.freeC,I.pin,I.hok,I.len⟩
theorem SP.unwish{D:Ends}{f:Flow}{s':Shared}(h:SP (X.wish E) pins D f s'):SP X pins D f s':=by
 cases f with
 | next=>obtain⟨σ',H',I,q⟩:=h;exact⟨σ',H',I.unwish,q⟩
 | brk=>obtain⟨σ',H',I,q⟩:=h;exact⟨σ',H',I.unwish,q⟩
 | cont=>obtain⟨σ',H',I,q⟩:=h;exact⟨σ',H',I.unwish,q⟩
 | ret u=>obtain⟨v,σ',H',I,r,q⟩:=h;exact⟨v,σ',H',I.unwish,r,q⟩
theorem PE.nox{e:Expr}{t:TE}(h:PE X.nox e t):PE X e t:=fun pins s σ H Q I hw=>
 wpAny_mono (h pins s σ H Q (I.wish _) hw) (fun _ _ ⟨v,H',I',r,q⟩=>⟨v,H',I'.unwish,r,q⟩) fun _ _ z=>False.elim z
theorem PT.nox{e:Expr}{t:TT}(h:PT X.nox e t):PT X e t:=fun pins s σ H Q I hw=>
 wpAny_mono (h pins s σ H Q (I.wish _) hw) (fun _ _ ⟨H',I',q⟩=>⟨H',I'.unwish,q⟩) fun _ _ z=>False.elim z
theorem PSs.nox{st:List Stmt}{t:TS}(h:PSs X.nox st t):PSs X st t:=fun pins s σ H D I hw=>
 wpAny_mono (h pins s σ H D (I.wish _) hw) (fun _ _ q=>q.unwish) fun _ _ z=>False.elim z
def Yxu:TS:=fun D σ H=>D.nx σ H
def tSeq(t u:TS):TS:=fun D σ H=>t { D with nx:=u D } σ H
theorem Yne:PSs X [] Yxu:=fun _ _ σ H _ I h=>wpAny_execs_nil ⟨σ,H,I,h⟩
theorem Yes(h1:PS X st t)(h2:PSs X rest u):PSs X (st::rest) (tSeq t u):=by
 intro pins s σ H D I h
 refine wpAny_execs_cons (thn (h1 pins s σ H { D with nx:=u D } I h) fun f s1 q=>?_)
 cases f with
 | next=>
   obtain⟨σ',H',I',q⟩:=q
   exact h2 pins s1 σ' H' D I' q
 | ret v=>exact q
 | brk=>exact q
 | cont=>exact q
theorem Ysl(h1:PS X st t):PSs X [st] t:=by
 intro pins s σ H D I h
 refine wpAny_execs_cons (thn (h1 pins s σ H D I h) fun f s1 q=>?_)
 cases f with
 | next=>exact wpAny_execs_nil q
 | ret v=>exact q
 | brk=>exact q
 | cont=>exact q
theorem Inv.quiet{pins:List (Addr × Obj)}{σ:St}{H:Hp}{s:Shared}(I:Inv X pins σ H s):interactive X.env=false:=by simp[interactive,I.ok.kind]
def Yxv(te:TE):TS:=fun D σ H=>te σ H fun _ H1=>D.nx σ H1
theorem Ynf(he:PE X e te)(hs:swapsWith e none pos.line X.env=pure false:=by rfl):PS X (.Expr e pos) (Yxv te):=by
 intro pins s σ H D I h
 refine wpAny_Expr_any (thn (he pins s σ H _ I h) fun v s1 hx_=>?_) I.quiet hs
 obtain⟨x,H1,I1,r1,q1⟩:=hx_
 exact⟨σ,H1,I1,q1⟩
def tRet(te:TE):TS:=fun D σ H=>te σ H D.rt
theorem Yrr(he:PE X e te):PS X (.Return (some e) pos) (tRet te):=by
 intro pins s σ H D I h
 refine wpAny_Return_some (thn (he pins s σ H _ I h) fun v s1 hx_=>?_)
 obtain⟨x,H1,I1,r1,q1⟩:=hx_
 exact⟨x,σ,H1,I1,r1,q1⟩
def tIfS(c:TT)(t u:TS):TS:=fun D σ H=>c σ H fun b H1=>if b=true then t D σ H1 else u D σ H1
theorem Ysm{c:Expr}{a b:List Stmt}{tc:TT}(hc:PT X c tc)(ha:PSs X a t)(hb:PSs X b u):PS X (.If c a b pos) (tIfS tc t u):=by
 intro pins s σ H D I h
 refine wpAny_If (thn (hc pins s σ H _ I h) fun d s1 hx_=>?_)
 obtain⟨H1,I1,q1⟩:=hx_
 cases d with
 | true=>exact ha pins s1 σ H1 D I1 q1
 | false=>exact hb pins s1 σ H1 D I1 q1
def Yrs:TS:=fun _ _ _=>False
theorem Yp8:PS X st Yrs:=fun _ _ _ _ _ _ h=>h.elim
theorem Yet{sts:List Stmt}:PSs X sts Yrs:=fun _ _ _ _ _ _ h=>h.elim
end
abbrev TG:=V->St->Hp->(St->Hp->Prop)->Prop
def PG(X:Cx)(target:Expr)(t:TG):Prop:=
 ∀(pins:List (Addr × Obj)) (s:Shared) (σ:St) (H:Hp) (v:V) (u:Value) (Q:St->Hp->Prop),Inv X pins σ H s->RelV v u->t v σ H Q->
  wpAny (model X.prog X.w) X.A (assign target X.env u) (fun _ s'=>∃σ' H',Inv X pins σ' H' s'/\Q σ' H') X.xe s
section
variable {X:Cx} {pos:Pos}
def Yjq(i:Nat):TG:=fun v σ H Q=>Q (σ.set i (some v)) H
theorem Ysn{i:Nat}{x:Str}(hN:X.N.Nodup)(hi:X.N[i]?=some x)(hx:Loc X.env.scope x)(hf:X.fn x=true\/X.env.scope.names.lookup x=some .local:=by first | exact .inl rfl | exact .inr rfl | assumption):PG X (.Name x pos) (Yjq i):=by
 intro pins s σ H v u Q I r h
 exact wpAny_assign_Name (Yih I hN hi hx r (fun s' I'=>⟨_,H,I',h⟩) hf)
def tAsg(te:TE)(g:TG):TS:=fun D σ H=>te σ H fun x H1=>g x σ H1 D.nx
theorem Yng{i:Nat}{x:Str}{e:Expr}{te:TE}{pos':Pos}(hN:X.N.Nodup)(hi:X.N[i]?=some x)(hx:Loc X.env.scope x)(he:PE X e te)(hs:swapsWith e (some (.Name x pos')) pos.line X.env=pure false:=by rfl)(hf:X.fn x=true\/X.env.scope.names.lookup x=some .local:=by first | exact .inl rfl | exact .inr rfl | assumption) :
 PS X (.Assign [.Name x pos'] e pos) (tAsg te (Yjq i)):=by
 intro pins s σ H D I h
 refine wpAny_Assign_Name (thn (he pins s σ H _ I h) fun v s1 hx_=>?_) hs
 obtain⟨y,H1,I1,r1,q1⟩:=hx_
 exact Yih I1 hN hi hx r1 (fun s2 I2=>⟨_,H1,I2,q1⟩) hf
end
structure It where
 go:Nat->Hp->Prop
 yld:Nat->Hp->V->Hp->Prop
 stop:Nat->Hp->Prop
def FpOk(X:Cx)(pins:List (Addr × Obj))(H:Hp)(b:Addr):Prop:=
 H b=none/\b≠X.env.locals/\b∉X.fs/\(b∈X.ex\/X.s₀.heap.objs.size<=b)/\(∀x c,X.env.cells.lookup x=some c->c≠b)/\∀p∈X.pn++pins,p.1≠b
theorem Inv.fpOk{X:Cx}{pins:List (Addr × Obj)}{σ:St}{H H':Hp}{s:Shared}{b:Addr}(I:Inv X pins σ H s)(hb:s.heap.objs.size<=b)(hn:H' b=none):FpOk X pins H' b:=by
 refine⟨hn,Nat.ne_of_gt (qx I.lt hb),I.nofs hb,.inr (Nat.le_trans I.sz hb),fun x c e z=>?_,fun p hp z=>?_⟩
 ·obtain⟨v,q⟩:=I.cell x c e
  exact absurd (qx q.lt (by rw[z];exact hb)) (Nat.lt_irrefl _)
 ·exact absurd (qx (qk (I.pin p hp).1) (by rw[z];exact hb)) (Nat.lt_irrefl _)
structure Turn(P:Program)(w:World)(K:W.Frag)(tg:Expr)(J:It)(fp:List Addr)(it:Addr)(tn:Nat->Heap->Prop):Prop where
 mem:it∈fp
 obj:∀i h,tn i h->∀b∈fp,∃o,h.get? b=some o/\∀v,o.data≠.cell v
 keep:∀i h h',tn i h->(∀b∈fp,∀o,h.get? b=some o->h'.get? b=some o)->tn i h'
 item:∀(X:Cx),X.prog=P->X.w=w->X.K=K->X.calm=true->∀(i:Nat) (pins:List (Addr × Obj)) (s:Shared) (σ:St) (H:Hp) (E:Value->Shared->Prop),Inv X pins σ H s->(∀b∈fp,FpOk X pins H b)->tn i s.heap->J.go i H->
  wpAny (model P w) X.A (pyNext (.ref it)) (fun r s1=>∃u,r=some u/\
   wpAny (model P w) X.A (letOwnedTupleGo tg (.ref it) u) (fun _ s2=>∃x H',Inv X pins σ H' s2/\RelV x u/\J.yld i H x H'/\tn (i+1) s2.heap/\∀b∈fp,H' b=none) E s1) E s
 done:∀(X:Cx),X.prog=P->X.w=w->X.K=K->X.calm=true->∀(i:Nat) (pins:List (Addr × Obj)) (s:Shared) (σ:St) (H:Hp) (E:Value->Shared->Prop),Inv X pins σ H s->(∀b∈fp,FpOk X pins H b)->tn i s.heap->J.stop i H->
  wpAny (model P w) X.A (pyNext (.ref it)) (fun r s1=>r=none/\Inv X pins σ H s1) E s
 self:∀(A:Around) (i:Nat) (s:Shared) (Q:Value->Shared->Prop) (E:Value->Shared->Prop),tn i s.heap->Q (.ref it) s->wpAny (model P w) A (pyIter (.ref it)) Q E s
abbrev TI:=St->Hp->(It->Hp->Prop)->Prop
def PIE(X:Cx)(pins:List (Addr × Obj))(σ:St)(tg:Expr)(R:It->Hp->Prop)(itv:Value)(s2:Shared):Prop:=
 ∃(it:Addr) (fp:List Addr) (tn:Nat->Heap->Prop) (J:It) (H':Hp),itv=.ref it/\Inv X pins σ H' s2/\Turn X.prog X.w X.K tg J fp it tn/\tn 0 s2.heap/\(∀b∈fp,FpOk X pins H' b)/\R J H'
def PI(X:Cx)(tg iter:Expr)(wi:TI):Prop:=
 ∀(pins:List (Addr × Obj)) (s:Shared) (σ:St) (H:Hp) (R:It->Hp->Prop),Inv X pins σ H s->wi σ H R->
  wpAny (model X.prog X.w) X.A (eval iter X.env) (fun v s1=>wpAny (model X.prog X.w) X.A (pyIter v) (PIE X pins σ tg R) X.xe s1) X.xe s
theorem Yso{M:Model}{A:Around}{E:Value->Shared->Prop}{s:Shared}{tg:Expr}{it:Addr}{u:Value}{o:Obj}{n:String}{vs:Array Value}{Q:Unit->Shared->Prop}(ho:s.heap.get? it=some o)(hc:o.cls=.type n)(hd:o.data=.fields vs)
 (hn:["enumerate","zip","dict_itemiterator","dict_reverseitemiterator","odict_iterator","itertools.zip_longest","itertools.pairwise"].contains n=false) (hQ:Q () s):wpAny M A (letOwnedTupleGo tg (.ref it) u) Q E s:=by
 unfold letOwnedTupleGo
 cases tg<;>first
  | exact wpAny_pure hQ
  | (cases u<;>first
   | exact wpAny_pure hQ
   | (refine wpAny_bind (wpAny_load ho ?_)
      rw[hc,hd]
      show wpAny M A (if (["enumerate","zip","dict_itemiterator","dict_reverseitemiterator","odict_iterator","itertools.zip_longest","itertools.pairwise"].contains n&&vs[0]?==some (rawInt _))=true then _ else _) Q E s
      rw[if_neg (by intro h;rw[hn,Bool.false_and]at h;cases h)]
      exact wpAny_pure hQ))
def Itl(K:W.Frag)(a:Addr):It:=
 ⟨fun i H=>∃xs x,SqL K H a xs/\xs[i]?=some x,fun i H x H'=>H'=H/\∀xs,SqL K H a xs->xs[i]?=some x,fun i H=>∃xs,SqL K H a xs/\xs.length<=i⟩
def Itt(K:W.Frag)(a:Addr):It:=
 ⟨fun i H=>∃xs x,SqT K H a xs/\xs[i]?=some x,fun i H x H'=>H'=H/\∀xs,SqT K H a xs->xs[i]?=some x,fun i H=>∃xs,SqT K H a xs/\xs.length<=i⟩
def Itr(lo:Int)(n:Nat):It:=⟨fun i _=>i < n,fun i H x H'=>H'=H/\x=.int (lo+i),fun i _=>n<=i⟩
theorem Ynh{P:Program}{w:World}{K:W.Frag}{tg:Expr}(a it:Addr):Turn P w K tg (Itl K a) [it] it (fun i h=>h.IsListIter it a i) where
 mem:=by simp
 obj:=fun i h st b hb=>by
  have e:b=it:=by simpa using hb
  subst e
  obtain⟨o,e,c,d⟩:=st
  exact⟨o,e,fun v z=>by rw[d]at z;cases z⟩
 keep:=fun i h h' st k=>st.at fun o e=>k it (by simp) o e
 item:=by
  intro X hP hw hK hc i pins s σ H E I hf st hg
  subst hP hw hK
  obtain⟨xs,x,hq,hx⟩:=hg
  obtain⟨its,rv,p,hz⟩:=I.list hq
  obtain⟨u,hu,ru⟩:=rv.get hx
  obtain⟨f0,f1,f2,f3,f4,f5⟩:=hf it (by simp)
  refine wpAny_pyNext_list_item st p.isList (x:=u) (by simpa using hu) fun h' st' sb=>?_
  have I1:Inv X pins σ H { s with heap:=h' }:=I.turned (t':=s.toks) (fun b o hb e=>(sb.2 b hb).trans e) f0 f1 f3 f4 f5
  obtain⟨o,e,c,d⟩:=id st'
  exact⟨u,rfl,Yso (s:={ s with heap:=h' }) e c d (by decide) ⟨x,H,I1,ru,⟨rfl,fun ys hy=>by rw[I.list_inj hy hq];exact hx⟩,st',fun b hb=>(hf b hb).1⟩⟩
 done:=by
  intro X hP hw hK hc i pins s σ H E I hf st hg
  subst hP hw hK
  obtain⟨xs,hq,hx⟩:=hg
  obtain⟨its,rv,p,hz⟩:=I.list hq
  obtain⟨f0,f1,f2,f3,f4,f5⟩:=hf it (by simp)
  have hl:=rv.length
  exact wpAny_pyNext_list_end (I.ok.hd hc) st p.isList (by simp;lia) fun h' eb=>⟨rfl,I.turned (t':=s.toks) (fun b o hb e=>eb b o hb e) f0 f1 f3 f4 f5⟩
 self:=fun _ _ _ _ _ st h=>wpAny_pyIter_listiter st h
theorem Ymt{P:Program}{w:World}{K:W.Frag}{tg:Expr}(a it:Addr):Turn P w K tg (Itt K a) [it] it (fun i h=>h.IsTupleIter it a i) where
 mem:=by simp
 obj:=fun i h st b hb=>by
  have e:b=it:=by simpa using hb
  subst e
  obtain⟨o,e,c,d⟩:=st
  exact⟨o,e,fun v z=>by rw[d]at z;cases z⟩
 keep:=fun i h h' st k=>st.at fun o e=>k it (by simp) o e
 item:=by
  intro X hP hw hK hc i pins s σ H E I hf st hg
  subst hP hw hK
  obtain⟨xs,x,hq,hx⟩:=hg
  obtain⟨its,rv,p,hz⟩:=I.tuple hq
  obtain⟨u,hu,ru⟩:=rv.get hx
  obtain⟨f0,f1,f2,f3,f4,f5⟩:=hf it (by simp)
  refine wpAny_pyNext_tuple_item st (show s.heap.IsTuple a its.toArray from p) (x:=u) (by simpa using hu) fun h' st' sb=>?_
  have I1:Inv X pins σ H { s with heap:=h' }:=I.turned (t':=s.toks) (fun b o hb e=>(sb.2 b hb).trans e) f0 f1 f3 f4 f5
  obtain⟨o,e,c,d⟩:=id st'
  exact⟨u,rfl,Yso (s:={ s with heap:=h' }) e c d (by decide) ⟨x,H,I1,ru,⟨rfl,fun ys hy=>by rw[I.tuple_inj hy hq];exact hx⟩,st',fun b hb=>(hf b hb).1⟩⟩
 done:=by
  intro X hP hw hK hc i pins s σ H E I hf st hg
  subst hP hw hK
  obtain⟨xs,hq,hx⟩:=hg
  obtain⟨its,rv,p,hz⟩:=I.tuple hq
  obtain⟨f0,f1,f2,f3,f4,f5⟩:=hf it (by simp)
  have hl:=rv.length
  exact wpAny_pyNext_tuple_end (I.ok.hd hc) st (show s.heap.IsTuple a its.toArray from p) (by simp;lia) fun h' eb=>⟨rfl,I.turned (t':=s.toks) (fun b o hb e=>eb b o hb e) f0 f1 f3 f4 f5⟩
 self:=fun _ _ _ _ _ st h=>wpAny_pyIter_tupleiter st h
theorem Ymu{P:Program}{w:World}{K:W.Frag}{tg:Expr}(it:Addr)(lo:Int)(n:Nat):Turn P w K tg (Itr lo n) [it] it (fun i h=>IsRangeIter h it (lo+(i:Nat) * 1) ((n:Int) - (i:Nat)) 1) where
 mem:=by simp
 obj:=fun i h st b hb=>by
  have e:b=it:=by simpa using hb
  subst e
  exact⟨_,st,fun v z=>by
   have z':Data.fields _=Data.cell v:=z
   cases z'⟩
 keep:=fun i h h' st k=>k it (by simp) _ st
 item:=by
  intro X hP hw hK hc i pins s σ H E I hf st hg
  subst hP hw hK
  obtain⟨f0,f1,f2,f3,f4,f5⟩:=hf it (by simp)
  have W:=Walks.range (prog:=X.prog) (w:=X.w) (I.ok.hd hc) it lo 1 n
  refine W.item i s _ _ hg st fun v h' tk hv st' kk=>?_
  obtain⟨t,rfl⟩:=hv
  have I1:Inv X pins σ H { s with heap:=h',toks:=tk }:=I.turned (fun b o hb e=>kk b o (by simpa using hb) e) f0 f1 f3 f4 f5
  refine⟨_,rfl,Yso (s:={ s with heap:=h',toks:=tk }) (n:="range_iterator") st' rfl rfl (by decide) ⟨.int (lo+i),H,I1,⟨t,?_⟩,⟨rfl,rfl⟩,st',fun b hb=>(hf b hb).1⟩⟩
  rw[Int.mul_one]
 done:=by
  intro X hP hw hK hc i pins s σ H E I hf st hg
  subst hP hw hK
  obtain⟨f0,f1,f2,f3,f4,f5⟩:=hf it (by simp)
  exact wpAny_pyNext_range_end (I.ok.hd hc) st (by have:n<=i:=hg;lia) fun h' eb=>⟨rfl,I.turned (t':=s.toks) (fun b o hb e=>eb b o hb e) f0 f1 f3 f4 f5⟩
 self:=fun _ _ _ _ _ st h=>wpAny_pyIter_rangeiter st h
end L2
namespace L2
open PySem PySem.Spec PyProof.Rows
section
variable {X:Cx} {tg:Expr}
theorem Yp9{pins:List (Addr × Obj)}{σ:St}{H:Hp}{s:Shared}{R:It->Hp->Prop}{E:Value->Shared->Prop}{lo hi:Int}{t u v:Tok}{tk:Nat}(I:Inv X pins σ H s)(h1:-(2 ^ 62)<=lo)(h2:lo < 2 ^ 62)(h3:-(2 ^ 62)<=hi)(h4:hi < 2 ^ 62)
 (q:R (Itr lo (hi - lo).toNat) H):wpAny (model X.prog X.w) X.A (pyIter (.ref s.heap.objs.size)) (PIE X pins σ tg R) E { s with heap:=s.heap.push { cls:=.type "range",data:=.fields #[.int lo t,.int hi u,.int 1 v] },toks:=tk }:=by
 refine wpAny_pyIter_range (IsRange.new ..) (small_one h1 h2 h3 h4) ?_
 have I1:Inv X pins σ H { s with heap:=s.heap.push { cls:=.type "range",data:=.fields #[.int lo t,.int hi u,.int 1 v] },toks:=tk }:=I.kept fun b o e=>qd _ e
 refine⟨(s.heap.push { cls:=.type "range",data:=.fields #[.int lo t,.int hi u,.int 1 v] }).objs.size,[(s.heap.push { cls:=.type "range",data:=.fields #[.int lo t,.int hi u,.int 1 v] }).objs.size],_,_,H,rfl,
  I1.kept (t':=tk) fun b o e=>qd _ e,Ymu _ lo (hi - lo).toNat,?_,fun b hb=>?_,q⟩
 ·have e1:lo+((0:Nat):Int) * 1=lo:=by simp
  have e2:(((hi - lo).toNat:Nat):Int) - ((0:Nat):Int)=Builtin.Range.rangeSize lo hi 1:=by rw[rangeSize_one];split<;>lia
  show IsRangeIter _ _ (lo+((0:Nat):Int) * 1) ((((hi - lo).toNat:Nat):Int) - ((0:Nat):Int)) 1
  rw[e1,e2]
  exact qo _ rfl
 ·have e:b=(s.heap.push { cls:=.type "range",data:=.fields #[.int lo t,.int hi u,.int 1 v] }).objs.size:=by simpa using hb
  subst e
  exact I1.fpOk (qt _) (I1.hok.fresh (qt _))
def Yxw(ta:TA):TI:=fun σ H R=>ta σ H fun vs H1=>∃j:Int,vs=[.int j]/\-(2 ^ 62)<=j/\j < 2 ^ 62/\R (Itr 0 j.toNat) H1
theorem Yni{a:Expr}{ta:TA}{p pos:Pos}(hg:Gl X "range")(hm:X.mg "range"=none)(ha:PA X [a] ta)(hs:starEach [a] X.env=[(false,eval a X.env)]:=by rfl):PI X tg (.Call (.Name "range" p) [a] [] pos) (Yxw ta):=by
 intro pins s σ H R I h
 refine Call_ (Yly I hg hm boot_range (PyProof.Rows.callWith_type1 (thn (ha pos pins s σ H _ I h) fun us s1 hx_=>?_) hs rfl))
 obtain⟨vs,H1,I1,r1,q1⟩:=hx_
 obtain⟨j,e,q1,q2,q⟩:=q1
 subst e
 cases r1 with
 | cons r rr=>
   cases rr
   obtain⟨t,rfl⟩:=r
   exact call_range_1 (Yp9 I1 (by lia) (by lia) q1 q2 (by simpa using q))
def tFor(wi:TI)(g:TG)(tb:TS):TS:=fun D σ H=>wi σ H fun J H1=>∃W:Nat->Nat->St->Hp->Prop,(∃m,W 0 m σ H1)/\∀i m σ H,W i m σ H->
 (J.stop i H/\D.nx σ H)\/(J.go i H/\∃N:St->Hp->Prop,(∀σ' H',N σ' H'->∃m',m' < m/\W (i+1) m' σ' H')/\∀x H',J.yld i H x H'->g x σ H' fun σ2 H2=>tb { D with nx:=N,ct:=N,bk:=D.nx } σ2 H2)
def Ygm(fp:List Addr)(h:Heap):List (Addr × Obj):=fp.filterMap fun b=>(h.get? b).map fun o=>(b,o)
theorem Ych{fp:List Addr}{h:Heap}{b:Addr}{o:Obj}(hb:b∈fp)(e:h.get? b=some o):(b,o)∈Ygm fp h:=List.mem_filterMap.mpr ⟨b,hb,by rw[e];rfl⟩
theorem Ynj{fp:List Addr}{h:Heap}{p:Addr × Obj}(hp:p∈Ygm fp h):p.1∈fp/\h.get? p.1=some p.2:=by
 obtain⟨b,hb,e⟩:=List.mem_filterMap.mp hp
 cases q:h.get? b with
 | none=>rw[q]at e;cases e
 | some o=>
   rw[q]at e
   have e':(b,o)=p:=Option.some.inj e
   subst e'
   exact⟨hb,q⟩
theorem Inv.pinned{pins:List (Addr × Obj)}{σ:St}{H:Hp}{s:Shared}{fp:List Addr}(I:Inv X pins σ H s)(hf:∀b∈fp,FpOk X pins H b)(ho:∀b∈fp,∃o,s.heap.get? b=some o/\∀v,o.data≠.cell v):Inv X (pins++Ygm fp s.heap) σ H s:=
 I.pins_of fun p hp=>(qu hp).elim (fun z=>I.pin p (Qc _ z)) fun z=>by
  obtain⟨hb,e⟩:=Ynj z
  obtain⟨f0,f1,f2,_⟩:=hf p.1 hb
  obtain⟨o,e',d⟩:=ho p.1 hb
  rw[e]at e';cases e'
  exact⟨e,f0,f1,f2,d⟩
theorem Inv.unpinned{pins pl:List (Addr × Obj)}{σ:St}{H:Hp}{s:Shared}(I:Inv X (pins++pl) σ H s):Inv X pins σ H s:=I.pins_of fun p hp=>I.pin p (Qc _ (List.mem_append_left _ hp))
theorem Yu3{iter:Expr}{body:List Stmt}{wi:TI}{g:TG}{tb:TS}{pos:Pos}(hp:PassesOwn (model X.prog X.w) X.A X.env X.xe)(hc:X.calm=true)(hi:PI X tg iter wi)(hg:PG X tg g)(hb:PSs X body tb)
 (hs:∀x,foldedSetIterable iter X.env x=pure x:=by intro _;rfl):PS X (.For tg iter body [] pos) (tFor wi g tb):=by
 intro pins s σ H D I h
 refine wpAny_For (thn (hi pins s σ H _ I h) fun v s1 h1=>thn h1 fun itv s2 h2=>?_) hs
 obtain⟨it,fp,tn,J,H2,e,I2,T,st2,f2,W,⟨m0,w0⟩,turn⟩:=h2
 subst e
 have stat:∀{H':Hp},(∀b∈fp,H' b=none)->∀b∈fp,FpOk X pins H' b:=fun hn b hb=>⟨hn b hb,(f2 b hb).2⟩
 refine codeAny_forLoop_any (fun n s'=>∃i σ' H',Inv X pins σ' H' s'/\tn i s'.heap/\(∀b∈fp,H' b=none)/\W i n σ' H') ?_ m0 ⟨0,σ,H2,I2,st2,fun b hb=>(f2 b hb).1,w0⟩
 rintro n s3 ⟨i,σ3,H3,I3,st3,fr3,w3⟩
 rcases turn i n σ3 H3 w3 with⟨stop,qn⟩ | ⟨go,N,hN,step⟩
 ·refine wpAny_passesOwn hp (thn (T.done X rfl rfl rfl hc i pins s3 σ3 H3 X.xe I3 (stat fr3) st3 stop) fun r s4 hx_=>?_)
  obtain⟨hr,I4⟩:=hx_
  subst hr
  exact wpAny_execs_nil ⟨σ3,H3,I4,qn⟩
 ·refine wpAny_passesOwn hp (thn (T.item X rfl rfl rfl hc i pins s3 σ3 H3 X.xe I3 (stat fr3) st3 go) fun r s4 hx_=>?_)
  obtain⟨u,hr,h4⟩:=hx_
  subst hr
  refine wpAny_passesOwn hp (thn h4 fun _ s5 hx_=>?_)
  obtain⟨x,H5,I5,r5,y5,st5,fr5⟩:=hx_
  have I5':=I5.pinned (stat fr5) (T.obj _ _ st5)
  refine wpAny_passesOwn hp (thn (hg _ s5 σ3 H5 x u _ I5' r5 (step x H5 y5)) fun _ s6 hx_=>?_)
  obtain⟨σ6,H6,I6,q6⟩:=hx_
  refine wpAny_passesOwn hp (thn (hb _ s6 σ6 H6 _ I6 q6) fun f s7 q7=>?_)
  have again:∀{σ7:St} {H7:Hp},Inv X (pins++Ygm fp s5.heap) σ7 H7 s7->N σ7 H7->∃m,m < n/\∃i σ' H',Inv X pins σ' H' s7/\tn i s7.heap/\(∀b∈fp,H' b=none)/\W i m σ' H':=fun {σ7 H7} I7 n7=>by
   obtain⟨m',hm,w7⟩:=hN σ7 H7 n7
   refine⟨m',hm,i+1,σ7,H7,I7.unpinned,T.keep _ _ _ st5 fun b hb o e=>(I7.pin (b,o) (Qc _ (Qc _ (Ych hb e)))).1,fun b hb=>?_,w7⟩
   obtain⟨o,e,d⟩:=T.obj _ _ st5 b hb
   exact(I7.pin (b,o) (Qc _ (Qc _ (Ych hb e)))).2.1
  cases f with
  | next=>obtain⟨σ7,H7,I7,n7⟩:=q7;exact again I7 n7
  | cont=>obtain⟨σ7,H7,I7,n7⟩:=q7;exact again I7 n7
  | brk=>obtain⟨σ7,H7,I7,q7⟩:=q7;exact⟨σ7,H7,I7.unpinned,q7⟩
  | ret v=>obtain⟨x7,σ7,H7,I7,r7,q7⟩:=q7;exact⟨x7,σ7,H7,I7.unpinned,r7,q7⟩
end
end L2
namespace L2
open PySem PySem.Spec PyProof.Rows
abbrev R2:=V->V->Hp->VK->Prop
def OpR(X:Cx)(f:Value->Value->Sem Value)(r:R2):Prop:=
 ∀(pins:List (Addr × Obj)) (s:Shared) (σ:St) (H:Hp) (x y:V) (v u:Value) (Q:VK),Inv X pins σ H s->RelV x v->RelV y u->r x y H Q->
  wpAny (model X.prog X.w) X.A (f v u) (EP X pins σ Q) X.xe s
def UnR(X:Cx)(f:Value->Sem Value)(r:V->Hp->VK->Prop):Prop:=
 ∀(pins:List (Addr × Obj)) (s:Shared) (σ:St) (H:Hp) (x:V) (v:Value) (Q:VK),Inv X pins σ H s->RelV x v->r x H Q->
  wpAny (model X.prog X.w) X.A (f v) (EP X pins σ Q) X.xe s
def Yb6(X:Cx)(f:Value)(r:List V->Hp->VK->Prop):Prop:=
 ∀(pins:List (Addr × Obj)) (s:Shared) (σ:St) (H:Hp) (xs:List V) (us:List Value) (Q:VK),Inv X pins σ H s->Vals xs us->r xs H Q->
  wpAny (model X.prog X.w) X.A (call f us) (EP X pins σ Q) X.xe s
def TruR(X:Cx)(r:V->Hp->(Bool->Hp->Prop)->Prop):Prop:=
 ∀(pins:List (Addr × Obj)) (s:Shared) (σ:St) (H:Hp) (x:V) (v:Value) (Q:Bool->Hp->Prop),Inv X pins σ H s->RelV x v->r x H Q->
  wpAny (model X.prog X.w) X.A (truthy v) (TP X pins σ Q) X.xe s
def tOp(r:R2)(ta tb:TE):TE:=fun σ H Q=>ta σ H fun x H1=>tb σ H1 fun y H2=>r x y H2 Q
def tUn(r:V->Hp->VK->Prop)(ta:TE):TE:=fun σ H Q=>ta σ H fun x H1=>r x H1 Q
def rI(C:Int->Int->Prop)(g:Int->Int->V):R2:=fun x y H Q=>∃i j,x=.int i/\y=.int j/\C i j/\Q (g i j) H
def rI0(g:Int->Int->V):R2:=fun x y H Q=>∃i j,x=.int i/\y=.int j/\Q (g i j) H
def rU(g:Int->V):V->Hp->VK->Prop:=fun x H Q=>∃i,x=.int i/\Q (g i) H
section
variable {X:Cx} {a b c:Expr} {ta tb tc:TE} {pos:Pos}
theorem binT(ha:PE X a ta)(hb:PE X b tb){pins:List (Addr × Obj)}{s:Shared}{σ:St}{H:Hp}{R:V->V->Hp->Prop}(I:Inv X pins σ H s)
 (h:ta σ H fun x H1=>tb σ H1 fun y H2=>R x y H2) {Q:Value->Shared->Prop} {f:Value->Value->Sem Value}
 (hf:∀v u s2 x y H2,Inv X pins σ H2 s2->RelV x v->RelV y u->R x y H2->wpAny (model X.prog X.w) X.A (f v u) Q X.xe s2) :
 wpAny (model X.prog X.w) X.A (eval a X.env) (fun v s₁=>wpAny (model X.prog X.w) X.A (eval b X.env) (fun u s₂=>wpAny (model X.prog X.w) X.A (f v u) Q X.xe s₂) X.xe s₁) X.xe s:=by
 refine thn (ha pins s σ H _ I h) fun v s1 hx_=>?_
 obtain⟨x,H1,I1,r1,q1⟩:=hx_
 refine thn (hb pins s1 σ H1 _ I1 q1) fun u s2 hx_=>?_
 obtain⟨y,H2,I2,r2,q2⟩:=hx_
 exact hf v u s2 x y H2 I2 r1 r2 q2
theorem Yu4{op:Operator}{r:R2}(ho:OpR X (binaryOp op) r)(ha:PE X a ta)(hb:PE X b tb):PE X (.BinOp a op b pos) (tOp r ta tb):=by
 intro pins s σ H Q I h
 exact wpAny_BinOp (binT ha hb I h fun v u s2 x y H2 I2 rx ry q=>ho pins s2 σ H2 x y v u Q I2 rx ry q)
theorem Yxx{op:UnaryOp}{r:V->Hp->VK->Prop}(ho:UnR X (unaryOp op) r)(ha:PE X a ta):PE X (.UnaryOp op a pos) (tUn r ta):=by
 intro pins s σ H Q I h
 refine UnaryOp_ (thn (ha pins s σ H _ I h) fun v s1 hx_=>?_)
 obtain⟨x,H1,I1,r1,q1⟩:=hx_
 exact ho pins s1 σ H1 x v Q I1 r1 q1
theorem opI{f:Value->Value->Sem Value}{C:Int->Int->Prop}{g:Int->Int->Int}
 (rule:∀(i j:Int) (t u:Tok) (s:Shared) (Q:Value->Shared->Prop) (E:Value->Shared->Prop),C i j->Q (.int (g i j) s.toks) { s with toks:=s.toks+1 }->wpAny (model X.prog X.w) X.A (f (.int i t) (.int j u)) Q E s) :
 OpR X f (rI C fun i j=>.int (g i j)):=by
 intro pins s σ H x y v u Q I rx ry h
 obtain⟨i,j,rfl,rfl,hc,q⟩:=h
 obtain⟨t,rfl⟩:=rx
 obtain⟨t',rfl⟩:=ry
 exact rule i j t t' s _ _ hc ⟨.int (g i j),H,I.tok _,⟨_,rfl⟩,q⟩
theorem opI0{f:Value->Value->Sem Value}{g:Int->Int->Int}
 (rule:∀(i j:Int) (t u:Tok) (s:Shared) (Q:Value->Shared->Prop) (E:Value->Shared->Prop),Q (.int (g i j) s.toks) { s with toks:=s.toks+1 }->wpAny (model X.prog X.w) X.A (f (.int i t) (.int j u)) Q E s) :
 OpR X f (rI0 fun i j=>.int (g i j)):=by
 intro pins s σ H x y v u Q I rx ry h
 obtain⟨i,j,rfl,rfl,q⟩:=h
 obtain⟨t,rfl⟩:=rx
 obtain⟨t',rfl⟩:=ry
 exact rule i j t t' s _ _ ⟨.int (g i j),H,I.tok _,⟨_,rfl⟩,q⟩
theorem opB0{f:Value->Value->Sem Value}{g:Int->Int->Bool}
 (rule:∀(i j:Int) (t u:Tok) (s:Shared) (Q:Value->Shared->Prop) (E:Value->Shared->Prop),Q (.bool (g i j)) s->wpAny (model X.prog X.w) X.A (f (.int i t) (.int j u)) Q E s) :
 OpR X f (rI0 fun i j=>.bl (g i j)):=by
 intro pins s σ H x y v u Q I rx ry h
 obtain⟨i,j,rfl,rfl,q⟩:=h
 obtain⟨t,rfl⟩:=rx
 obtain⟨t',rfl⟩:=ry
 exact rule i j t t' s _ _ ⟨.bl (g i j),H,I,rfl,q⟩
def CDiv(i j:Int):Prop:=0 < j/\j < 1073741824
def CPow(i j:Int):Prop:=0<=j/\j<=1000000/\i.natAbs < 2 ^ 64
def CMul(i j:Int):Prop:=(-(2 ^ 64) < i/\i < 2 ^ 64)\/(-(2 ^ 64) < j/\j < 2 ^ 64)
theorem CMul.ok{i j:Int}(h:CMul i j):IntMulOk i j:=by
 rcases h with⟨h1,h2⟩ | ⟨h1,h2⟩
 ·exact .of_left (intBits_le_64 h1 h2)
 ·exact .of_right (intBits_le_64 h1 h2)
theorem Yu5:OpR X (binaryOp .Add) (rI0 fun i j=>.int (i+j)):=opI0 fun _ _ _ _ _ _ _ q=>add_int q
theorem Yu6:OpR X (binaryOp .Sub) (rI0 fun i j=>.int (i - j)):=opI0 fun _ _ _ _ _ _ _ q=>sub_int q
theorem Yu7:OpR X (binaryOp .Mult) (rI CMul fun i j=>.int (i * j)):=opI fun _ _ _ _ _ _ _ hc q=>mul_int q hc.ok
theorem Ysp:OpR X (binaryOp .FloorDiv) (rI CDiv fun i j=>.int (i / j)):=opI fun i j _ _ _ _ _ hc q=>by
 have h1:(0:Int) < j:=hc.1
 have h2:j < 1073741824:=hc.2
 exact floordiv_int (by lia) (by rw[Int.fdiv_eq_ediv_of_nonneg i (by lia)];exact q) (.inl (PyProof.noPylong_small (by lia)))
theorem Yu8:OpR X (binaryOp .Mod) (rI (fun _ j=>0 < j) fun i j=>.int (i % j)):=opI fun i j _ _ _ _ _ hc q=>by
 have h1:(0:Int) < j:=hc
 exact mod_int' (by lia) (by rw[Int.fmod_eq_emod_of_nonneg i (by lia)];exact q)
theorem Yu9:OpR X (binaryOp .Pow) (rI CPow fun i j=>.int (i ^ j.toNat)):=opI fun _ _ _ _ _ _ _ hc q=>pow_int_small hc.1 hc.2.1 hc.2.2 q
theorem unI{f:Value->Sem Value}{g:Int->Int}
 (rule:∀(i:Int) (t:Tok) (s:Shared) (Q:Value->Shared->Prop) (E:Value->Shared->Prop),Q (.int (g i) s.toks) { s with toks:=s.toks+1 }->wpAny (model X.prog X.w) X.A (f (.int i t)) Q E s) :
 UnR X f (rU fun i=>.int (g i)):=by
 intro pins s σ H x v Q I rx h
 obtain⟨i,rfl,q⟩:=h
 obtain⟨t,rfl⟩:=rx
 exact rule i t s _ _ ⟨.int (g i),H,I.tok _,⟨_,rfl⟩,q⟩
theorem Yva:UnR X (unaryOp .USub) (rU fun i=>.int (-i)):=unI fun _ _ _ _ _ q=>neg_int q
theorem Yrt{pins:List (Addr × Obj)}{σ:St}{H:Hp}{s:Shared}{Q:VK}{k k':Bool}(I:Inv X pins σ H s)(q:Q (.bl k) H)(e:k=k'):EP X pins σ Q (.bool k') s:=by
 subst e
 exact⟨.bl k,H,I,rfl,q⟩
theorem Yvb:OpR X (compareOp .Lt) (rI0 fun i j=>.bl (decide (i < j))):=opB0 fun _ _ _ _ _ _ _ q=>lt_int q
theorem Yxy:OpR X (compareOp .LtE) (rI0 fun i j=>.bl (decide (i<=j))):=opB0 fun _ _ _ _ _ _ _ q=>le_int q
theorem Yvc:OpR X (compareOp .Gt) (rI0 fun i j=>.bl (decide (j < i))):=opB0 fun _ _ _ _ _ _ _ q=>gt_int q
theorem Yru:OpR X (compareOp .Is) (fun x y H Q=>y=.non/\Q (.bl (decide (x=.non))) H):=by
 intro pins s σ H x y v u Q I rx ry h
 obtain⟨rfl,q⟩:=h
 cases ry
 refine is_none_gen (Yrt I q ?_)
 cases x<;>first
  | (cases rx;rfl)
  | (obtain⟨t,rfl⟩:=rx;rfl)
theorem Ysq:OpR X (compareOp .IsNot) (fun x y H Q=>y=.non/\Q (.bl (!decide (x=.non))) H):=by
 intro pins s σ H x y v u Q I rx ry h
 obtain⟨rfl,q⟩:=h
 cases ry
 refine isnot_none_gen (Yrt I q ?_)
 cases x<;>first
  | (cases rx;rfl)
  | (obtain⟨t,rfl⟩:=rx;rfl)
theorem Ydw(b:Expr){op:CmpOp}(h:op≠.In:=by decide)(h2:op≠.NotIn:=by decide):behindInMarks op b=false:=by
 have e1:(op==CmpOp.In)=false:=by cases op<;>first | rfl | exact absurd rfl h
 have e2:(op==CmpOp.NotIn)=false:=by cases op<;>first | rfl | exact absurd rfl h2
 cases b with
 | Set elts k p=>
   show((k==0)&&((op==CmpOp.In)||(op==CmpOp.NotIn))&&_)=false
   rw[e1,e2]
   cases (k==0)<;>rfl
 | _=>rfl
theorem Ysr{op:CmpOp}{r:R2}(ho:OpR X (compareOp op) r)(ha:PE X a ta)(hb:PE X b tb)(hm:behindInMarks op b=false):PE X (.Compare a [op] [b] pos) (tOp r ta tb):=by
 intro pins s σ H Q I h
 exact wpAny_Compare1 (binT ha hb I h fun v u s2 x y H2 I2 rx ry q=>ho pins s2 σ H2 x y v u Q I2 rx ry q) hm
def Yvd(t:TE):TT:=fun σ H Q=>t σ H fun x H'=>∃k,x=.bl k/\Q k H'
theorem Ynk{op:CmpOp}{r:R2}(ho:OpR X (compareOp op) r)(ha:PE X a ta)(hb:PE X b tb)(hm:behindInMarks op b=false):PT X (.Compare a [op] [b] pos) (Yvd (tOp r ta tb)):=by
 intro pins s σ H Q I h
 refine wpAny_isTrue_Compare1 (thn (ha pins s σ H _ I h) fun v s1 hx_=>?_) hm
 obtain⟨x,H1,I1,r1,q1⟩:=hx_
 refine thn (hb pins s1 σ H1 _ I1 q1) fun u s2 hx_=>?_
 obtain⟨y,H2,I2,r2,q2⟩:=hx_
 refine thn (ho pins s2 σ H2 x y v u _ I2 r1 r2 q2) fun c s3 hx_=>?_
 obtain⟨z,H3,I3,r3,k,e,q3⟩:=hx_
 subst e
 cases r3
 exact wpAny_truthy_bool ⟨H3,I3,q3⟩
def Yve(r r':R2)(ta tb tc:TE):TE:=fun σ H Q=>ta σ H fun x H1=>tb σ H1 fun y H2=>r x y H2 fun z H3=>∃k,z=.bl k/\
 (if k=true then tc σ H3 fun w' H4=>r' y w' H4 Q else Q (.bl false) H3)
theorem Yqa{op op':CmpOp}{r r':R2}(ho:OpR X (compareOp op) r)(ho':OpR X (compareOp op') r')(ha:PE X a ta)(hb:PE X b tb)(hc:PE X c tc)
 (hm:lastMarks [op,op'] [b,c]=false:=by with_unfolding_all rfl):PE X (.Compare a [op,op'] [b,c] pos) (Yve r r' ta tb tc):=by
 intro pins s σ H Q I h
 refine Compare_chain (thn (ha pins s σ H _ I h) fun v s1 hx_=>?_) hm
 obtain⟨x,H1,I1,r1,q1⟩:=hx_
 refine chain_link (thn (hb pins s1 σ H1 _ I1 q1) fun u s2 hx_=>?_)
 obtain⟨y,H2,I2,r2,q2⟩:=hx_
 refine thn (ho pins s2 σ H2 x y v u _ I2 r1 r2 q2) fun d s3 hx_=>?_
 obtain⟨z,H3,I3,r3,k,e,q3⟩:=hx_
 subst e
 cases r3
 refine wpAny_truthy_bool ?_
 cases k with
 | false=>exact ite_ff ⟨.bl false,H3,I3,rfl,q3⟩
 | true=>
   refine ite_tt (chain_last (thn (hc pins s3 σ H3 _ I3 q3) fun w' s4 hx_=>?_))
   obtain⟨z',H4,I4,r4,q4⟩:=hx_
   exact ho' pins s4 σ H4 y z' u w' Q I4 r2 r4 q4
def TruV(K:W.Frag)(x:V)(H:Hp)(k:Bool):Prop:=
 match x with
 | .non=>k=false
 | .bl b=>k=b
 | .int i=>k=(i != 0)
 | .str y=>y.length<=sizeLine/\k=((y.length:Int) != 0)
 | .byt y=>y.size<=sizeLine/\k=((y.size:Int) != 0)
 | .ref p=>(∃xs,SqL K H p xs/\k=!xs.isEmpty)\/(∃xs,SqT K H p xs/\k=!xs.isEmpty)\/∃kvs,H p=some (.dK kvs)/\k=!kvs.isEmpty
 | _=>False
theorem Ymv{κ:Type}{kvs:List (κ × V)}{vs:List (κ × Value)}(r:KV kvs vs):(!vs.isEmpty)=!kvs.isEmpty:=by
 cases r<;>rfl
theorem Yhw{xs:List V}{its:List Value}(r:Vals xs its):(!its.toArray.isEmpty)=!xs.isEmpty:=by
 cases r<;>simp
theorem Yjr:(sizeLine:Nat) < 2 ^ 63:=by rw[sizeLine_eq];decide
theorem Yvf:TruR X (fun x H Q=>∃k,TruV X.K x H k/\Q k H):=by
 intro pins s σ H x v Q I rx h
 obtain⟨k,e,q⟩:=h
 have hl:=Yjr
 have hs:sizeLine=16777216:=sizeLine_eq
 cases x with
 | non=>
   cases rx
   have e':k=false:=e
   subst e'
   exact truthy_none ⟨H,I,q⟩
 | bl b=>
   cases rx
   have e':k=b:=e
   subst e'
   exact wpAny_truthy_bool ⟨H,I,q⟩
 | int i=>
   obtain⟨t,rfl⟩:=rx
   have e':k=(i != 0):=e
   subst e'
   exact PySem.P.truthy_int ⟨H,I,q⟩
 | str y=>
   obtain⟨t,rfl⟩:=rx
   obtain⟨hy,e'⟩:y.length<=sizeLine/\k=((y.length:Int) != 0):=e
   subst e'
   exact PySem.P.truthy_str (by lia) ⟨H,I.tok _,q⟩
 | byt y=>
   obtain⟨t,rfl⟩:=rx
   obtain⟨hy,e'⟩:y.size<=sizeLine/\k=((y.size:Int) != 0):=e
   subst e'
   exact W.truthy_bytes (by lia) ⟨H,I.tok _,q⟩
 | ref p=>
   cases rx
   have e':(∃xs,SqL X.K H p xs/\k=!xs.isEmpty)\/(∃xs,SqT X.K H p xs/\k=!xs.isEmpty)\/∃kvs,H p=some (.dK kvs)/\k=!kvs.isEmpty:=e
   rcases e' with⟨xs,hx,e'⟩ | ⟨xs,hx,e'⟩ | ⟨kvs,hx,e'⟩
   ·subst e'
    obtain⟨its,r,pl,hz⟩:=I.list hx
    have hlen:=r.length
    exact wpAny_truthy_list pl.isList (by simp only[qj];lia) ⟨H,I.tok _,by rw[Yhw r];exact q⟩
   ·subst e'
    obtain⟨its,r,pl,hz⟩:=I.tuple hx
    have hlen:=r.length
    exact truthy_tuple pl (by simp only[qj];lia) ⟨H,I.tok _,by rw[Yhw r];exact q⟩
   ·subst e'
    obtain⟨hz,hS,vs,r,m⟩:kvs.length<=sizeLine/\(p==sysModules)=false/\∃vs,KV kvs vs/\s.heap.DictOf (Ykx X.prog X.w) p vs:=I.hok p _ hx
    have hlen:kvs.length=vs.length:=Paired.length r
    exact wpAny_truthy_dict hS m (by lia) ⟨H,I.tok _,by rw[Ymv r];exact q⟩
 | _=>exact(show False from e).elim
theorem Yqb(ha:PE X a ta)(he:∀whole,isTrue a X.env whole=(do let v <-whole;standAt a.pos;holding [v] (truthy v))) :
 PT X a (fun σ H Q=>ta σ H fun x H'=>∃k,TruV X.K x H' k/\Q k H'):=by
 intro pins s σ H Q I h
 refine isTrue_plain (thn (ha pins s σ H _ I h) fun v s1 hx_=>?_) (he _)
 obtain⟨x,H1,I1,r1,q1⟩:=hx_
 exact Yvf pins s1 σ H1 x v Q I1 r1 q1
theorem Yhn{x:V}{us:List Value}(r:Vals [x] us):∃u,us=[u]/\RelV x u:=by
 cases r with
 | cons r1 r2=>cases r2;exact⟨_,rfl,r1⟩
theorem Yjs{x y:V}{us:List Value}(r:Vals [x,y] us):∃u w',us=[u,w']/\RelV x u/\RelV y w':=by
 cases r with
 | cons r1 r2=>
   cases r2 with
   | cons r3 r4=>cases r4;exact⟨_,_,rfl,r1,r3⟩
theorem Ynl(hc:X.calm=true):Yb6 X (.builtin "max") (fun xs H Q=>∃i j,xs=[.int i,.int j]/\Q (.int (if j > i then j else i)) H):=by
 intro pins s σ H xs us Q I r h
 obtain⟨i,j,rfl,q⟩:=h
 obtain⟨u,w',rfl,⟨t,rfl⟩,⟨t',rfl⟩⟩:=Yjs r
 refine max_two_ints (I.ok.hd hc) fun h' tk k=>⟨_,H,I.kept k,?_,q⟩
 by_cases hj:j > i
 ·rw[if_pos hj,if_pos hj];exact⟨_,rfl⟩
 ·rw[if_neg hj,if_neg hj];exact⟨_,rfl⟩
theorem Yeu:Yb6 X (.type "int") (fun xs H Q=>(∃i,xs=[.int i]/\Q (.int i) H)\/∃k,xs=[.bl k]/\Q (.int (if k then 1 else 0)) H):=by
 intro pins s σ H xs us Q I r h
 rcases h with⟨i,rfl,q⟩ | ⟨k,rfl,q⟩
 ·obtain⟨u,rfl,t,rfl⟩:=Yhn r
  exact call_int_int ⟨.int i,H,I,⟨_,rfl⟩,q⟩
 ·obtain⟨u,rfl,r1⟩:=Yhn r
  cases r1
  exact call_int_bool ⟨.int (if k then 1 else 0),H,I.tok _,⟨_,rfl⟩,q⟩
end
end L2
namespace L2
open PySem PySem.Spec PyProof.Rows
structure ObjM(h:Heap)(x dx C:Addr)(mA:Str->Option Value):Prop where
 obj:h.get? x=some (W.instObj C dx)
 ns:h.Ns1 dx mA
 ne:dx≠x
theorem Ynm{h:Heap}{dx:Addr}{mA:Str->Option Value}(n:h.Ns1 dx mA):∃od,h.get? dx=some od/\∀name,W.lookIn name od=some (mA name):=by
 obtain⟨o,es,ep,ho,hd,hk,_,hm⟩:=n
 refine⟨o,ho,fun name=>?_⟩
 have e:=hm name
 unfold nsFind findBy at e
 rw[<-Array.find?_toList]at e
 unfold W.lookIn
 rw[hd]
 dsimp only
 split
 ·rename_i y q
  rw[q]at e
  exact congrArg some e
 ·rename_i q
  rw[q]at e
  have a:es.toList.any (·.refKey)=false:=by
   rw[List.any_eq_false]
   intro y hy
   obtain⟨z,t,hkey⟩:=hk y (Array.mem_toList_iff.mp hy)
   simp[DictEntry.refKey,hkey]
  have a':¬es.toList.any (·.refKey)=true:=by rw[a];exact qh
  rw[if_neg a']
  exact congrArg some e
theorem ObjM.look{h:Heap}{x dx C:Addr}{mA:Str->Option Value}(I:ObjM h x dx C mA):∃od,W.InstAt h x (W.instObj C dx) C (some od)/\∀name,W.lookIn name od=some (mA name):=
 let ⟨od,ho,hl⟩:=Ynm I.ns
 ⟨od,⟨I.obj,rfl,rfl,ho⟩,hl⟩
section
variable {P:Program} {w:World} {H H':Hp} {h h':Heap} {a C dx:Addr} {fs fs':List (Str × V)}
theorem Yss(hok:HOk P w H h)(e:H a=some (.ins C dx fs)):∃mA,ObjM h a dx C mA/\(∀f,RelO (fs.lookup f) (mA f))/\PySem.Within mA (fs.map (·.1))/\fs.length<=1000/\H dx=some (.own a):=by
 obtain⟨d,z,ne,ob,mA,n,r,q⟩:=(show ObjOk P w H h a (.ins C dx fs) from hok a _ e)
 exact⟨mA,⟨ob,n,ne⟩,r,q,z,d⟩
end
structure Cls(K:W.Frag)(C:Addr):Prop where
 pg:W.plainGet K C Str.empty=true
 hd:W.hasDictIn K C=true
 po:W.plainOver K C=true
 sa:W.findIn K (.ref C) "__setattr__"=some (some (.builtin "object.__setattr__"))
theorem Cls.get{K:W.Frag}{C:Addr}(c:Cls K C)(f:Str):W.plainGet K C f=true:=c.pg
structure Con(K:W.Frag)(C:Addr)(f:Str)(v:V)(u:Value):Prop where
 at_:W.findIn K (.ref C) f=some (some u)
 rel:RelV v u
 get:W.specialIn K u "__get__"=some none
 cp:W.copiedNames.contains f=false
structure Meth(K:W.Frag)(C:Addr)(m:Str)(f:Addr):Prop where
 at_:W.findIn K (.ref C) m=some (some (.ref f))
 fn:W.isFn K (.ref f)=true
 kp:W.keepIn K (.ref f)=true
section
variable {X:Cx} {pins:List (Addr × Obj)} {σ:St} {H:Hp} {s:Shared} {A:Around} {E Q:Value->Shared->Prop} {c:Value} {b:Bool}
inductive TyOf (K:W.Frag) (H:Hp):V->Value->Prop where
 | non:TyOf K H .non (.type "NoneType")
 | bl (x:Bool):TyOf K H (.bl x) (.type "bool")
 | int (i:Int):TyOf K H (.int i) (.type "int")
 | str (x:Str):TyOf K H (.str x) (.type "str")
 | flt (x:UInt64):TyOf K H (.flt x) (.type "float")
 | lst {a:Addr} {xs:List V} (e:H a=some (.lst xs)):TyOf K H (.ref a) (.type "list")
 | frz {a:Addr} {o:Obj} {xs:List V} (e:H a=some (.frz o (.lst xs))):TyOf K H (.ref a) (.type "list")
 | tup {a:Addr} {xs:List V} (e:H a=some (.tup xs)):TyOf K H (.ref a) (.type "tuple")
 | dK {a:Addr} {kvs:List (Key × V)} (e:H a=some (.dK kvs)):TyOf K H (.ref a) (.type "dict")
 | dT {a:Addr} {kvs:List (List Key × V)} (e:H a=some (.dT kvs)):TyOf K H (.ref a) (.type "dict")
 | ins {a C dx:Addr} {fs:List (Str × V)} (e:H a=some (.ins C dx fs)) (cl:Cls K C) (ha:W.findIn K (.ref C) "__class__"=some (some (.builtin "object.__class__")))
  (hn:W.specialIn K (.builtin "object.__class__") "__get__"=some (some (.builtin "getset_descriptor.__get__"))) (htk:W.takesIn K (.builtin "object.__class__")=some true)
  (hm:W.mroIn K C (.type "object")=some true):TyOf K H (.ref a) (.ref C)
theorem Ynn{x:V}{u t:Value}(I:Inv X pins σ H s)(rx:RelV x u)(ty:TyOf X.K H x t)(e:W.kitOne X.K t c=some b)(h:∀tk,Q (.bool b) { s with toks:=tk }) :
 wpAny (model X.prog X.w) A (call (.builtin "isinstance") [u,c]) Q E s:=by
 cases ty with
 | non=>cases (show u=Value.none from rx);exact W.kia_one W.kitx_none I.kIn True.intro e (fun z=>nomatch z) h
 | bl y=>cases (show u=Value.bool y from rx);exact W.kia_one W.kitx_bool I.kIn True.intro e (fun z=>nomatch z) h
 | int i=>obtain⟨t,q⟩:=(show ∃t,u=Value.int i t from rx);cases q;exact W.kia_one W.kitx_int I.kIn True.intro e (fun z=>nomatch z) h
 | str y=>obtain⟨t,q⟩:=(show ∃t,u=Value.str y t from rx);cases q;exact W.kia_one W.kitx_str I.kIn True.intro e (fun z=>nomatch z) h
 | flt y=>obtain⟨t,q⟩:=(show ∃t,u=Value.float y t from rx);cases q;exact W.kia_one W.kitx_float I.kIn True.intro e (fun z=>nomatch z) h
 | @lst a xs ea=>
   cases (show u=Value.ref a from rx)
   obtain⟨_,_,n,_,h1⟩:=(show ObjOk X.prog X.w H s.heap a (.lst xs) from I.hok a _ ea)
   exact W.kia_one W.kitx_list I.kIn ⟨_,h1,rfl⟩ e (fun z=>nomatch z) h
 | @frz a ob xs ea=>
   cases (show u=Value.ref a from rx)
   obtain⟨_,_,_,n,_,h1⟩:=(show ObjOk X.prog X.w H s.heap a (.frz ob (.lst xs)) from I.hok a _ ea)
   exact W.kia_one W.kitx_list I.kIn ⟨_,h1,rfl⟩ e (fun z=>nomatch z) h
 | @tup a xs ea=>
   cases (show u=Value.ref a from rx)
   obtain⟨_,_,_,p⟩:=(show ObjOk X.prog X.w H s.heap a (.tup xs) from I.hok a _ ea)
   obtain⟨o,h1,h2,_⟩:=p
   exact W.kia_one W.kitx_tuple I.kIn ⟨o,h1,h2⟩ e (fun z=>nomatch z) h
 | @dK a kvs ea=>
   cases (show u=Value.ref a from rx)
   obtain⟨_,_,vs,_,p⟩:=(show ObjOk X.prog X.w H s.heap a (.dK kvs) from I.hok a _ ea)
   obtain⟨o,es,ep,h1,h2,_⟩:=p
   exact W.kia_one W.kitx_dict I.kIn ⟨o,h1,h2.1⟩ e (fun z=>nomatch z) h
 | @dT a kvs ea=>
   cases (show u=Value.ref a from rx)
   obtain⟨_,_,xs,_,o,es,ep,h1,h2,_⟩:=(show ObjOk X.prog X.w H s.heap a (.dT kvs) from I.hok a _ ea)
   exact W.kia_one W.kitx_dict I.kIn ⟨o,h1,h2.1⟩ e (fun z=>nomatch z) h
 | @ins a C dx fs ea cl ha hn htk hm=>
   cases (show u=Value.ref a from rx)
   obtain⟨mA,O,_⟩:=Yss I.hok ea
   obtain⟨od,J,_⟩:=O.look
   exact W.kia_one (W.kitx_own (cl.get _) cl.hd ha hn htk hm) I.kIn J e (fun z=>nomatch z) h
end
end L2
namespace L2
open PySem PySem.Spec PyProof.Rows
structure Room(k:Nat)(A:Around):Prop where
 hd:A.handled=none
 dp:A.depth+3 * k+5 < recursionLimit
 un:A.units+16 * k+200 < cLine
theorem Room.mono{j k:Nat}{A:Around}(r:Room k A)(h:j<=k):Room j A:=⟨r.hd,by have:=r.dp;lia,by have:=r.un;lia⟩
theorem Room.deeper{k:Nat}{A:Around}(r:Room (k+1) A)(env:Env):Room k (A.deeper env):=
 ⟨r.hd,by have:=r.dp;show A.depth+1+3 * k+5 < _;lia,by have:=r.un;show A.units+3+16 * k+200 < _;lia⟩
theorem Room.depth{k:Nat}{A:Around}(r:Room k A):A.depth < recursionLimit:=by have:=r.dp;lia
theorem Room.units{k:Nat}{A:Around}(r:Room k A):A.units+64 < cLine:=by have:=r.un;lia
def tNil:TA:=fun _ H Q=>Q [] H
def Yxz(ta:TE)(tr:TA):TA:=fun σ H Q=>ta σ H fun x H1=>tr σ H1 fun xs H2=>Q (x::xs) H2
section
variable {X:Cx} {e:Expr} {es:List Expr} {te:TE} {t:TA} {pos:Pos}
theorem Yfx:PA X [] tNil:=fun _ _ _ _ H Q I h=>Calls.spliced_nil ⟨[],H,I,.nil,h⟩
theorem Ybn(ha:PE X e te)(hr:PA X es t)(hs:starEach (e::es) X.env=(false,eval e X.env)::starEach es X.env:=by rfl):PA X (e::es) (Yxz te t):=by
 intro pos pins s σ H Q I h
 rw[hs]
 show wpAny _ _ (spliced ((false,eval e X.env)::backTo pos (starEach es X.env))) _ _ s
 refine Calls.spliced_cons (thn (ha pins s σ H _ I h) fun u s1 hx_=>?_)
 obtain⟨x,H1,I1,r1,q1⟩:=hx_
 refine thn (hr pos pins s1 σ H1 _ I1 q1) fun us s2 hx_=>?_
 obtain⟨xs,H2,I2,r2,q2⟩:=hx_
 exact⟨x::xs,H2,I2,.cons r1 r2,q2⟩
def tTup(t:TA):TE:=fun σ H Q=>t σ H fun xs H1=>xs.length<=sizeLine/\∀p,H1 p=none->Q (.ref p) (upd H1 p (.tup xs))
def tLst(t:TA):TE:=fun σ H Q=>t σ H fun xs H1=>xs.length<=sizeLine/\∀p,H1 p=none->Q (.ref p) (upd H1 p (.lst xs))
theorem Yrv{x1}(h:PA X es t):PE X (.Tuple es x1 pos) (tTup t):=by
 intro pins s σ H Q I hq
 refine wpAny_Tuple_spliced (thn (h pos pins s σ H _ I hq) fun us s1 ⟨xs,H1,I1,r,z,q⟩=>⟨by rw[<-r.length];exact z,?_⟩)
 have hf:H1 s1.heap.objs.size=none:=I1.hok.fresh (qt _)
 refine⟨.ref s1.heap.objs.size,upd H1 s1.heap.objs.size (.tup xs),I1.laid (t':=s1.toks) (fun b u e=>qd _ e) (qt _) ?_,rfl,q _ hf⟩
 exact⟨z,us,r,⟨_,qo _ rfl,rfl,_,rfl⟩⟩
theorem Yvg(h:PA X es t):PE X (.List es pos) (tLst t):=by
 intro pins s σ H Q I hq
 refine wpAny_List_spliced (thn (h pos pins s σ H _ I hq) fun us s1 ⟨xs,H1,I1,r,z,q⟩=>⟨by rw[<-r.length];exact z,?_⟩)
 have hf:H1 s1.heap.objs.size=none:=I1.hok.fresh (qt _)
 refine⟨.ref s1.heap.objs.size,upd H1 s1.heap.objs.size (.lst xs),I1.laid (t':=s1.toks) (fun b u e=>qd _ e) (qt _) ?_,rfl,q _ hf⟩
 exact⟨z,us,0,r,qo _ rfl⟩
end
abbrev Sp:=List V->Hp->VK->XK->Prop
abbrev CXT:=List Env->Hp->Shared->XK->Value->Shared->Prop
structure Env0(P:Program)(w:World)(K:W.Frag)(mg:Str->Option Value)(base:Heap)(A:Around)(outer:List Env)(s:Shared)(H:Hp):Prop where
 frames:A.frames=some outer
 mod:Mod K mg base
 bs:∀b o,base.get? b=some o->s.heap.get? b=some o/\H b=none
 bsz:base.objs.size<=s.heap.objs.size
 funs:s.heap.FunFrames base outer
 frf:∀b∈frs outer,H b=none
 hok:HOk P w H s.heap
 bare:AllBare s.gens
def CE(outer:List Env)(P:Program)(w:World)(H:Hp)(s:Shared)(Q:VK)(u:Value)(s':Shared):Prop:=
 ∃v H',s'.os=s.os/\AllBare s'.gens/\Un (frs outer) [] H H' s.heap s'.heap/\HOk P w H' s'.heap/\RelV v u/\Q v H'
def CR(CX:CXT)(outer:List Env)(P:Program)(w:World)(H:Hp)(s:Shared)(Q:VK)(E:XK)(r:Result)(s':Shared):Prop:=
 match r with
 | .ok (.ret u)=>CE outer P w H s Q u s'
 | .ok _=>False
 | .error e=>CX outer H s E e s'
structure FnOk(P:Program)(w:World)(K:W.Frag)(mg:Str->Option Value)(base:Heap)(CX:CXT)(k:Nat)(f:Addr)(fd:FuncData)(ps:List Str)(sp:Sp):Prop where
 len:∀vs H Q E,sp vs H Q E->vs.length=ps.length
 run:∀(A:Around) (outer:List Env) (s:Shared) (H:Hp) (args:Args) (us:List Value) (vs:List V) (Q:VK) (E:XK),Room k A->Env0 P w K mg base A outer s H->BindsTo s fd args (ps.zip us)->Vals vs us->sp vs H Q E->
  codeAny (model P w) A (.call (.ref f) args) (CR CX outer P w H s Q E) s
theorem FnOk.mono{P:Program}{w:World}{K:W.Frag}{mg:Str->Option Value}{base:Heap}{CX:CXT}{j k:Nat}{f:Addr}{fd:FuncData}{ps:List Str}{sp:Sp}(F:FnOk P w K mg base CX j f fd ps sp)(h:j<=k) :
 FnOk P w K mg base CX k f fd ps sp:=⟨F.len,fun A outer s H args us vs Q E hr=>F.run A outer s H args us vs Q E (hr.mono h)⟩
section
variable {X:Cx} {pins:List (Addr × Obj)} {σ:St} {H:Hp} {s s':Shared}
theorem Inv.env0(I:Inv X pins σ H s):Env0 X.prog X.w X.K X.mg X.base X.A X.stack s H:=
 ⟨I.ok.frames,I.ok.mod,I.bs,Nat.le_trans I.ok.bsz I.sz,I.stack,I.stkFree,I.hok,I.bare⟩
theorem Inv.after{Q:VK}{u:Value}(I:Inv X pins σ H s)(h:CE X.stack X.prog X.w H s Q u s'):EP X pins σ Q u s':=by
 obtain⟨v,H',os,bare,un,hok,r,q⟩:=h
 obtain⟨hh,g,d,t,os'⟩:=s'
 obtain rfl:os'=s.os:=os
 exact⟨v,H',I.call (h':=hh) (g':=g) (d':=d) (t':=t) (ch:=[]) un hok bare (fun b z=>absurd z (by simp)),r,q⟩
end
def Yx0(sp:Sp)(dvs:List V)(E:XK)(t:TA):TE:=fun σ H Q=>t σ H fun vs H1=>sp (vs++dvs) H1 Q E
def Binds(K:W.Frag)(fd:FuncData)(ps:List Str)(ds:List Value):Prop:=
 ∀(s:Shared) (us:List Value),K.In s.heap->(us++ds).length=ps.length->BindsTo s fd ⟨us,[]⟩ (ps.zip (us++ds))
theorem Binds.all{K:W.Frag}{fd:FuncData}{ps:List Str}(h:∀us:List Value,us.length=ps.length->bindArgs fd ⟨us,[]⟩=pure (ps.zip us)):Binds K fd ps []:=fun s us _ hl=>by
 rw[List.append_nil]at hl ⊢
 exact .of_eq (h us hl)
def Yhx(CX:CXT)(X:Cx)(E:XK):Prop:=∀(pins:List (Addr × Obj)) (σ:St) (H:Hp) (s:Shared) (e:Value) (s':Shared),Inv X pins σ H s->CX X.stack H s E e s'->X.xe e s'
section
variable {X:Cx} {CX:CXT} {k:Nat} {f C:Addr} {fd:FuncData} {ps:List Str} {sp:Sp} {dvs:List V} {ds:List Value} {E:XK} {x m:Str} {p pos apos:Pos} {e o:Expr} {es:List Expr} {ta:TE} {t:TA}
theorem Yvh{pins:List (Addr × Obj)}{σ:St}{H:Hp}{s:Shared}{Q:VK}{us:List Value}{vs:List V}(F:FnOk X.prog X.w X.K X.mg X.base CX k f fd ps sp)(hr:Room k X.A)(hb:Binds X.K fd ps ds)(hd:Vals dvs ds)(hx:Yhx CX X E)
 (I:Inv X pins σ H s) (r:Vals vs us) (h:sp (vs++dvs) H Q E):wpAny (model X.prog X.w) X.A (call (.ref f) us) (EP X pins σ Q) X.xe s:=by
 have r2:Vals (vs++dvs) (us++ds):=r.append hd
 have hl:(us++ds).length=ps.length:=by rw[<-r2.length];exact F.len _ _ _ _ h
 refine wpAny_call (codeAny_mono (F.run X.A X.stack s H ⟨us,[]⟩ (us++ds) (vs++dvs) Q E hr I.env0 (hb s us I.kIn hl) r2 h) fun r s' hq=>?_)
 cases r with
 | error e=>exact hx pins σ H s e s' I hq
 | ok fl=>
   cases fl with
   | ret u=>exact I.after hq
   | next=>exact False.elim hq
   | brk=>exact False.elim hq
   | cont=>exact False.elim hq
theorem Yno(F:FnOk X.prog X.w X.K X.mg X.base CX k f fd ps sp)(hr:Room k X.A)(hg:Gl X x)(hm:X.mg x=some (.ref f))(hk:W.keepIn X.K (.ref f)=true)(hb:Binds X.K fd ps ds)(hd:Vals dvs ds)(hx:Yhx CX X E)
 (ha:PA X (e::es) t) (hdb:(x==("__debug__":Str))=false:=by decide) (he:starEach (e::es) X.env=(false,eval e X.env)::starEach es X.env:=by rfl) (hpl:(backTo pos (starEach es X.env)).any (·.1)=false:=by rfl) :
 PE X (.Call (.Name x p) (e::es) [] pos) (Yx0 sp dvs E t):=by
 intro pins s σ H Q I h
 refine wpAny_Call_Name_kw (Yff I hg hm ?_ hdb)
 refine W.callWith_K (h₀:=X.base) I.ok.mod.kin hk (thn (ha pos pins s σ H _ I h) fun us s1 hx_=>?_) he hpl
 obtain⟨vs,H1,I1,r,q⟩:=hx_
 refine⟨I1.kIn,?_⟩
 exact Yvh F hr hb hd hx I1 r q
structure Mk(K:W.Frag)(C f:Addr):Prop where
 makes:W.makesIn K C=true
 init:W.findIn K (.ref C) "__init__"=some (some (.ref f))
 fn:W.isFn K (.ref f)=true
 kp:W.keepIn K (.ref C)=true
end
section
variable {X:Cx} {CX:CXT} {k:Nat} {f C:Addr} {fd:FuncData} {ps ks:List Str} {sp:Sp} {E:XK} {x m:Str} {p pos apos kpos:Pos} {e o:Expr} {es:List Expr} {kws:List Keyword} {te ta:TE} {t tk:TA} {nm:Option Str}
structure KBinds(K:W.Frag)(fd:FuncData)(ps ks:List Str)(g:List Value->List Value->List Value)(gV:List V->List V->List V):Prop where
 to:∀(s:Shared) (us ws:List Value),K.In s.heap->(g us ws).length=ps.length->BindsTo s fd ⟨us,ks.zip ws⟩ (ps.zip (g us ws))
 rel:∀{vs:List V} {us:List Value} {zs:List V} {ws:List Value},Vals vs us->Vals zs ws->Vals (gV vs zs) (g us ws)
variable {g:List Value->List Value->List Value} {gV:List V->List V->List V}
end
structure FnScope(N P:List Str)(sc:Scope):Prop where
 kind:sc.kind=.function
 co:sc.isCoroutine=false
 gen:sc.isGenerator=false
 nd:N.Nodup
 pre:N.take P.length=P
 par:∀x∈P,sc.names.lookup x=some .local\/sc.names.lookup x=some .cell
 nofree:∀y∈sc.names,y.2≠.free
theorem Yjt{kindOf:Str->Option NameKind}{x:Str}:∀{binds:List (Str × Value)} {m:Str->Option Value},(∀v,(x,v)∉binds)->bindL kindOf binds m x=m x
 | [],_,_=>rfl
 | (n,v)::r,m,h=>by
   unfold bindL
   rw[Yjt fun w hw=>h w (qf _ hw)]
   split
   ·have:x≠n:=by rintro rfl;exact h v qg
    simp[this]
   ·rfl
theorem Yju{kindOf:Str->Option NameKind}{x:Str}:∀{binds:List (Str × Value)} {m:Str->Option Value},(∀v,(x,v)∉binds)->bindC kindOf binds m x=m x
 | [],_,_=>rfl
 | (n,v)::r,m,h=>by
   unfold bindC
   rw[Yju fun w hw=>h w (qf _ hw)]
   split
   ·rfl
   ·have:x≠n:=by rintro rfl;exact h v qg
    simp[this]
theorem Yjv{kindOf:Str->Option NameKind}{x:Str}{v:Value}:∀{P:List Str} {vs:List Value} {i:Nat} {m:Str->Option Value},P.Nodup->P[i]?=some x->vs[i]?=some v->kindOf x=some .local->
 bindL kindOf (P.zip vs) m x=some v
 | [],_,_,_,_,h,_,_=>by simp at h
 | _::_,[],_,_,_,_,h,_=>by simp at h
 | p::P,w::vs,0,m,nd,h1,h2,hk=>by
   simp at h1 h2;subst h1;subst h2
   show bindL kindOf ((p,w)::P.zip vs) m p=_
   unfold bindL
   rw[Yjt fun v hv=>(List.nodup_cons.mp nd).1 (List.of_mem_zip hv).1,if_pos hk]
   simp
 | p::P,w::vs,i+1,m,nd,h1,h2,hk=>by
   show bindL kindOf ((p,w)::P.zip vs) m x=_
   unfold bindL
   exact Yjv (i:=i) (List.nodup_cons.mp nd).2 (by simpa using h1) (by simpa using h2) hk
theorem Yjw{kindOf:Str->Option NameKind}{x:Str}{v:Value}:∀{P:List Str} {vs:List Value} {i:Nat} {m:Str->Option Value},P.Nodup->P[i]?=some x->vs[i]?=some v->kindOf x≠some .local->
 bindC kindOf (P.zip vs) m x=some v
 | [],_,_,_,_,h,_,_=>by simp at h
 | _::_,[],_,_,_,_,h,_=>by simp at h
 | p::P,w::vs,0,m,nd,h1,h2,hk=>by
   simp at h1 h2;subst h1;subst h2
   show bindC kindOf ((p,w)::P.zip vs) m p=_
   unfold bindC
   rw[Yju fun v hv=>(List.nodup_cons.mp nd).1 (List.of_mem_zip hv).1,if_neg hk]
   simp
 | p::P,w::vs,i+1,m,nd,h1,h2,hk=>by
   show bindC kindOf ((p,w)::P.zip vs) m x=_
   unfold bindC
   exact Yjw (i:=i) (List.nodup_cons.mp nd).2 (by simpa using h1) (by simpa using h2) hk
def start(N:List Str)(vs:List V):St:=vs.map some++List.replicate (N.length - vs.length) none
def cxOf(CX:CXT)(P:Program)(w:World)(K:W.Frag)(mg:Str->Option Value)(base:Heap)(N:List Str)(qual:Str)(scope:Scope)(f:Addr)(cd:Value)(A:Around)(outer:List Env)(s:Shared)(H:Hp)(E:XK):Cx where
 prog:=P
 w:=w
 K:=K
 mg:=mg
 base:=base
 A:=A.deeper (envOfC qual scope s.heap.objs.size f cd)
 N:=N
 s₀:=s
 H₀:=H
 env:=envOfC qual scope s.heap.objs.size f cd
 outer:=outer
 stack:=envOfC qual scope s.heap.objs.size f cd::outer
 ex:=[]
 calm:=true
 fn:=fun _=>true
 pn:=[]
 xe:=fun e s'=>wpAny (model P w) (A.deeper (envOfC qual scope s.heap.objs.size f cd)) (leaving (envOfC qual scope s.heap.objs.size f cd) e) (fun _ s''=>CX outer H s E e s'') (fun e' s''=>CX outer H s E e' s'') s'
theorem Ylz{sc:Scope}{n:Nat}{x:Str}(h:sc.names.lookup x=some .cell):∃c,(cellsFrom n sc.names []).lookup x=some c:=by
 have q:=PySem.W.cellsFrom_some sc.names n [] (.inl h)
 exact Option.isSome_iff_exists.mp q
theorem Ynp{CX:CXT}{P:Program}{w:World}{K:W.Frag}{mg:Str->Option Value}{base:Heap}{N ps:List Str}{qual:Str}{scope:Scope}{f:Addr}{cd:Value}{A:Around}{outer:List Env}{s s1:Shared}{H:Hp}{E:XK}{us:List Value}{vs:List V}
 (S:FnScope N ps scope) (hd:A.handled=none) (e0:Env0 P w K mg base A outer s H) (hl:vs.length=ps.length) (r:Vals vs us)
 (x:InCallC s s.heap.objs.size (bindL (envOfC qual scope s.heap.objs.size f cd).kindOf (ps.zip us) fun _=>none) (cellsFrom (s.heap.objs.size+1) scope.names []) (bindC (envOfC qual scope s.heap.objs.size f cd).kindOf (ps.zip us) fun _=>none) s1) :
 Inv (cxOf CX P w K mg base N qual scope f cd A outer s H E) [] (start N vs) H s1:=by
 have hpl:ps.length<=N.length:=by have:=congrArg List.length S.pre;rw[List.length_take]at this;lia
 obtain⟨h1,tk,rfl,hk⟩:=x.done
 have noA:∀b:Addr,b∉(cxOf CX P w K mg base N qual scope f cd A outer s H E).ex:=fun b z=>absurd (show b∈([]:List Addr) from z) (by simp)
 refine⟨⟨e0.mod,S.kind,rfl,rfl,qt _,fun y z c h1 h2=>?_,fun y hy=>?_,fun y c _ h=>?_,fun _=>hd,Around.frames_deeper e0.frames,.inr ⟨rfl,rfl⟩,fun b z=>absurd z (noA b),e0.bs,e0.bsz,fun b _ _=>noA b,fun b z=>absurd z (noA b),e0.funs,e0.frf⟩,
  rfl,e0.bare,Un.kept hk,⟨_,x.toInCall.ns,fun i y v h1 h2 h3=>?_⟩,fun y c h=>⟨_,x.cell y c h⟩,e0.hok.fresh (qt _),fun y c h=>?_,fun p hp=>absurd (show p∈([]:List (Addr × Obj)) from hp) (by simp),e0.hok.kept hk,?_⟩
 ·exact name_of_addr x.apart (PySem.mem_of_lookup h1) (PySem.mem_of_lookup h2)
 ·have hy:scope.names.lookup y=some .cell\/scope.names.lookup y=some .free:=hy
  rcases hy with hy | hy
  ·exact Ylz hy
  ·exact absurd rfl (S.nofree _ (PySem.mem_of_lookup hy))
 ·exact Nat.le_of_lt (x.above y c (PySem.mem_of_lookup h))
 ·have hi:i < vs.length:=by
   unfold start at h2
   by_cases hi:i < vs.length
   ·exact hi
   ·rw[List.getElem?_append_right (by simpa using hi)]at h2
    rw[List.getElem?_replicate]at h2
    split at h2<;>cases h2
  have ha:vs[i]?=some v:=by
   unfold start at h2
   rw[List.getElem?_append_left (by simpa using hi),qz]at h2
   cases e:vs[i]? with
   | none=>rw[e]at h2;cases h2
   | some a=>rw[e]at h2;cases h2;rfl
  obtain⟨u,hu,rv⟩:=r.get ha
  have hp:ps[i]?=some y:=by
   rw[<-S.pre,List.getElem?_take_of_lt (by lia)];exact h1
  have ndP:ps.Nodup:=by rw[<-S.pre];exact S.nd.sublist (List.take_sublist _ _)
  refine⟨u,rv,?_⟩
  rcases S.par y (List.mem_of_getElem? hp)with k | k
  ·exact .inl ⟨k,Yjv ndP hp hu k⟩
  ·obtain⟨c,e⟩:=Ylz (n:=s.heap.objs.size+1) k
   refine .inr ⟨.inl k,c,e,?_⟩
   have q:=x.cell y c e
   rw[Yjw ndP hp hu (by show scope.names.lookup y≠_;rw[k];decide)]at q
   exact q
 ·exact e0.hok.fresh (Nat.le_of_lt (x.above y c (PySem.mem_of_lookup h)))
 ·unfold start
  show _=N.length
  rw[List.length_append,qe,List.length_replicate]
  lia
theorem Yvi{CX:CXT}{P:Program}{w:World}{K:W.Frag}{mg:Str->Option Value}{base:Heap}{k:Nat}{f:Addr}{name qual:Str}{params:Arguments}{body:List Stmt}{scope:Scope}{dV kV doc pm cdv ct oc:Value}{an od:Option Addr}
 {osl:Array (Option Value)} {N ps:List Str} {sp:Sp} (lk:K.lookup f=some ⟨oc,od,.func (W.fnOf name qual params body scope dV kV doc pm an cdv ct),osl⟩) (hcd:W.codeIn K cdv qual=true) (S:FnScope N ps scope)
 (len:∀vs H Q E,sp vs H Q E->vs.length=ps.length)
 (hbody:∀(A:Around) (outer:List Env) (s:Shared) (H:Hp) (vs:List V) (Q:VK) (E:XK),Room k (A.deeper (envOfC qual scope s.heap.objs.size f cdv))->sp vs H Q E->
  ∃t,PSs (cxOf CX P w K mg base N qual scope f cdv A outer s H E) body t/\t { nx:=fun _ H'=>Q .non H',rt:=Q } (start N vs) H) :
 FnOk P w K mg base CX (k+1) f (W.fnOf name qual params body scope dV kV doc pm an cdv ct) ps sp:=by
 refine⟨len,fun A outer s H args us vs Q E hr e0 hb r hsp=>?_⟩
 have hl:=len _ _ _ _ hsp
 have KX:K.In s.heap:=e0.mod.kin.keeps fun b o e=>(e0.bs b o e).1
 have lim:s.heap.NoLimit:=e0.mod.nolimit.keeps fun b o e=>(e0.bs b o e).1
 have hkind:∀y∈ps.zip us,scope.names.lookup y.1=some .local\/(scope.names.lookup y.1=some .cell/\((cellsFrom (s.heap.objs.size+1) scope.names []).lookup y.1).isSome=true):=fun⟨n,v⟩ hy=>by
  rcases S.par n (List.of_mem_zip hy).1 with q | q
  ·exact .inl q
  ·exact .inr ⟨q,PySem.W.cellsFrom_some _ _ _ (.inl q)⟩
 refine codeAny_call_function hr.depth (KX _ _ lk) rfl S.co S.gen rfl (W.codeRec_of KX hcd) (hb _ _ _ _ ?_)
 refine wpAny_newFunctionEnv_cells S.kind hkind fun env he s1 x=>?_
 subst he
 refine⟨lim.keeps x.toInCall.keep,codeAny_func ?_⟩
 obtain⟨t,ht,hq⟩:=hbody A outer s H vs Q E (hr.deeper _) hsp
 have I:Inv (cxOf CX P w K mg base N qual scope f cdv A outer s H E) [] (start N vs) H s1:=Ynp S hr.hd e0 hl r x
 refine wpAny_mono (ht [] s1 (start N vs) H _ I hq) (fun fl s' hs=>?_) fun e s' hs=>hs
 have fin:∀{σ':St} {H':Hp} {v:V} {u:Value},Inv (cxOf CX P w K mg base N qual scope f cdv A outer s H E) [] σ' H' s'->RelV v u->Q v H'->CE outer P w H s Q u s':=
  fun {σ' H' v u} J rv q=>⟨v,H',J.os,J.bare,J.base,J.hok,rv,q⟩
 cases fl with
 | ret u=>
   obtain⟨v,σ',H',J,rv,q⟩:=hs
   exact fin J rv q
 | next=>
   obtain⟨σ',H',J,q⟩:=hs
   exact fin (v:=V.non) (u:=Value.none) J rfl q
 | brk=>
   obtain⟨_,_,_,q⟩:=hs
   exact False.elim q
 | cont=>
   obtain⟨_,_,_,q⟩:=hs
   exact False.elim q
end L2
namespace L2
open PySem PySem.Spec PyProof.Rows
section
variable {X:Cx} {x:Str} {p pos:Pos} {e:Expr} {es:List Expr} {t:TA} {id T:String} {r:List V->Hp->VK->Prop}
def tCB(r:List V->Hp->VK->Prop)(t:TA):TE:=fun σ H Q=>t σ H fun vs H1=>r vs H1 Q
theorem Yeb(hc:Yb6 X (.builtin id) r)(hg:Gl X x)(hm:X.mg x=none)(hv:bootBuiltins x=some (.builtin id))(ha:PA X (e::es) t)(hn:x≠"__name__":=by decide)(hdb:(x==("__debug__":Str))=false:=by decide)
 (he:starEach (e::es) X.env=(false,eval e X.env)::starEach es X.env:=by rfl) (hpl:(backTo pos (starEach es X.env)).any (·.1)=false:=by rfl):PE X (.Call (.Name x p) (e::es) [] pos) (tCB r t):=by
 intro pins s σ H Q I h
 refine wpAny_Call_Name_kw (Yly I hg hm hv ?_ hn hdb)
 refine PyProof.Rows.callWith_builtin1 (thn (ha pos pins s σ H _ I h) fun us s1 hx_=>?_) he hpl
 obtain⟨vs,H1,I1,r1,q1⟩:=hx_
 exact hc pins s1 σ H1 vs us Q I1 r1 q1
theorem Yev(hc:Yb6 X (.type T) r)(hg:Gl X x)(hm:X.mg x=none)(hv:bootBuiltins x=some (.type T))(ha:PA X (e::es) t)(hn:x≠"__name__":=by decide)(hdb:(x==("__debug__":Str))=false:=by decide)
 (he:starEach (e::es) X.env=(false,eval e X.env)::starEach es X.env:=by rfl) (hpl:(backTo pos (starEach es X.env)).any (·.1)=false:=by rfl):PE X (.Call (.Name x p) (e::es) [] pos) (tCB r t):=by
 intro pins s σ H Q I h
 refine wpAny_Call_Name_kw (Yly I hg hm hv ?_ hn hdb)
 refine PyProof.Rows.callWith_type1 (thn (ha pos pins s σ H _ I h) fun us s1 hx_=>?_) he hpl
 obtain⟨vs,H1,I1,r1,q1⟩:=hx_
 exact hc pins s1 σ H1 vs us Q I1 r1 q1
end
end L2
namespace L2
open PySem PySem.Spec PyProof.Rows
section
variable {κ:Type} [DecidableEq κ]
theorem RelO.isSome_eq{o:Option V}{u:Option Value}(r:RelO o u):o.isSome=u.isSome:=by
 cases o with
 | none=>cases u with
   | none=>rfl
   | some _=>exact(show False from r).elim
 | some _=>cases u with
   | none=>exact(show False from r).elim
   | some _=>rfl
end
section
variable {X:Cx} {pins:List (Addr × Obj)} {σ:St} {H:Hp} {s:Shared} {a:Addr} {y v:V} {u r:Value} {o:Option V} {A:Around} {E:Value->Shared->Prop}
theorem Inv.big(I:Inv X pins σ H s):sysModules < s.heap.objs.size:=by
 have h:mainGlobals < s.heap.objs.size:=(I.mod.glob.keeps I.bk).lt
 exact Nat.lt_trans (by decide) h
end
theorem Yqc{P:Program}{w:World}{H:Hp}(h:Heap)(hb:sysModules < h.objs.size):ObjOk P w H (h.push { cls:=.type "dict",data:=.dict #[] }) h.objs.size (.dK []):=
 ⟨Nat.zero_le _,beq_eq_false_iff_ne.mpr (Ne.symm (ql hb)),[],.nil,Heap.DictOf.new h⟩
def Yvj:TE:=fun _ H Q=>∀p,H p=none->Q (.ref p) (upd H p (.dK []))
section
variable {X:Cx} {pos:Pos}
theorem Yqd:PE X (.Dict [] [] pos) Yvj:=fun pins s σ H Q I h=>
 wpAny_Dict_empty ⟨.ref s.heap.objs.size,_,I.laid (a:=s.heap.objs.size) (o:=.dK []) (t':=s.toks) (fun _ _ q=>qd _ q) (qt _) (Yqc s.heap I.big),rfl,h _ (I.hok.fresh (qt _))⟩
end
def Yrw:List (TE × TE)->St->Hp->(List (V × V)->Hp->Prop)->Prop
 | [],_,H,Q=>Q [] H
 | (tk,tv)::r,σ,H,Q=>tk σ H fun x H1=>tv σ H1 fun y H2=>Yrw r σ H2 fun ps H3=>Q ((x,y)::ps) H3
abbrev VV:List (V × V)->List (Value × Value)->Prop:=Paired fun p q=>RelV p.1 q.1/\RelV p.2 q.2
def PPs(X:Cx)(pos:Pos)(keys:List (Option Expr))(values:List Expr)(trs:List (TE × TE)):Prop:=
 ∀(pins:List (Addr × Obj)) (s:Shared) (σ:St) (H:Hp) (Q:List (V × V)->Hp->Prop),Inv X pins σ H s->Yrw trs σ H Q->
  wpAny (model X.prog X.w) X.A (evalPairs (pairTrees keys values X.env pos)) (fun vs s'=>∃ps H',Inv X pins σ H' s'/\VV ps vs/\Q ps H') X.xe s
structure M1(X:Cx)(o:Expr)(m:Str)(apos:Pos)(e:Expr)(cpos:Pos):Prop where
 base:attributeBase o m X.env (eval o X.env)=eval o X.env
 few:((backTo cpos (starEach [e] X.env)).all (fun x=>!x.1)&&(backToKw cpos (keywordEach [] X.env)).all (fun x=>x.1.isSome)
  &&decide (([e]:List Expr).length+([]:List Keyword).length+(if ([]:List Keyword).isEmpty then 0 else 1) < 30))=true
 line:(apos.endLine==cpos.line)=true
 trees:backTo cpos (starEach [e] X.env)=[(false,eval e X.env)]
structure M2(X:Cx)(o:Expr)(m:Str)(apos:Pos)(e f:Expr)(cpos:Pos):Prop where
 base:attributeBase o m X.env (eval o X.env)=eval o X.env
 few:((backTo cpos (starEach [e,f] X.env)).all (fun x=>!x.1)&&(backToKw cpos (keywordEach [] X.env)).all (fun x=>x.1.isSome)
  &&decide (([e,f]:List Expr).length+([]:List Keyword).length+(if ([]:List Keyword).isEmpty then 0 else 1) < 30))=true
 line:(apos.endLine==cpos.line)=true
 trees:backTo cpos (starEach [e,f] X.env)=[(false,eval e X.env),(false,eval f X.env)]
end L2
namespace HT
open PySem PyProof.Rows
section
variable {prog:Program} {w:World} {A:Around} {E:Value->Shared->Prop} {s:Shared}
def sIx(n d:Nat):Option Int->Nat
 | none=>d
 | some v=>if v < 0 then (v+(n:Int)).toNat else min v.toNat n
theorem sIx_none(n d:Nat):sIx n d none=d:=rfl
theorem sIx_nat(n d k:Nat):sIx n d (some (k:Int))=min k n:=by
 show(if (k:Int) < 0 then ((k:Int)+(n:Int)).toNat else min (k:Int).toNat n)=min k n
 rw[if_neg (by lia),Int.toNat_natCast]
end
end HT
namespace L2
open PySem PySem.Spec PyProof.Rows
abbrev TO:=St->Hp->(Option Int->Hp->Prop)->Prop
def PO(X:Cx)(e:Option Expr)(t:TO):Prop:=
 ∀(pins:List (Addr × Obj)) (s:Shared) (σ:St) (H:Hp) (Q:Option Int->Hp->Prop),Inv X pins σ H s->t σ H Q->
  wpAny (model X.prog X.w) X.A (evalPart e X.env) (fun u s'=>∃o H',Inv X pins σ H' s'/\IsPart u o/\Q o H') X.xe s
def Ynq:TO:=fun _ H Q=>Q none H
def Yvk(t:TE):TO:=fun σ H Q=>t σ H fun x H1=>∃i,x=.int i/\Q (some i) H1
theorem Yfg{ns:List Int}:∀{us:List Value},Vals (ns.map V.int) us->IntsAre us ns:=by
 induction ns with
 | nil=>intro us r;rw[List.map_nil]at r;cases r;exact .nil
 | cons n ns ih=>
   intro us r
   rw[Qa]at r
   cases r with
   | cons r1 r2=>
     obtain⟨t,e⟩:=r1
     subst e
     exact .cons n t (ih r2)
section
variable {X:Cx} {e:Expr} {te:TE} {lo hi:Option Expr} {tl th:TO} {pos p2:Pos}
theorem Yst:PO X none Ynq:=by
 intro pins s σ H Q I h
 rw[evalPart_none]
 exact wpAny_pure ⟨none,H,I,.none,h⟩
theorem Ysu(h:PE X e te):PO X (some e) (Yvk te):=by
 intro pins s σ H Q I hw
 rw[evalPart_some]
 refine thn (h pins s σ H _ I hw) fun u s1 hx_=>?_
 obtain⟨x,H1,I1,r1,q1⟩:=hx_
 obtain⟨i,rfl,q⟩:=q1
 obtain⟨t,rfl⟩:=r1
 exact⟨some i,H1,I1,.int i t,q⟩
def SlR(X:Cx)(r:V->Option Int->Option Int->Hp->VK->Prop):Prop:=
 ∀(pins:List (Addr × Obj)) (s:Shared) (σ:St) (H:Hp) (x:V) (v vl vu:Value) (lo hi:Option Int) (sl:Addr) (Q:VK),Inv X pins σ H s->RelV x v->s.heap.IsSliceOf sl vl vu .none->IsPart vl lo->IsPart vu hi->r x lo hi H Q->
  ∃T id,typeLookup (.type T) "__getitem__"=pure (some (.builtin id))/\s.TypeIs v T/\wpAny (model X.prog X.w) X.A (getItem v (.ref sl)) (EP X pins σ Q) X.xe s
def tSl(r:V->Option Int->Option Int->Hp->VK->Prop)(te:TE)(tl th:TO):TE:=fun σ H Q=>te σ H fun x H1=>tl σ H1 fun l H2=>th σ H2 fun u H3=>r x l u H3 Q
theorem Yqe{r:V->Option Int->Option Int->Hp->VK->Prop}(hr:SlR X r)(he:PE X e te)(hl:PO X lo tl)(hu:PO X hi th):PE X (.Subscript e (.Slice lo hi none p2) pos) (tSl r te tl th):=by
 intro pins s σ H Q I h
 refine Subscript_ (thn (he pins s σ H _ I h) fun v s1 hx_=>?_)
 obtain⟨x,H1,I1,r1,q1⟩:=hx_
 refine wpAny_Slice (thn (hl pins s1 σ H1 _ I1 q1) fun vl s2 hx_=>?_)
 obtain⟨l,H2,I2,pl,q2⟩:=hx_
 refine thn (hu pins s2 σ H2 _ I2 q2) fun vu s3 hx_=>?_
 obtain⟨u,H3,I3,pu,q3⟩:=hx_
 rw[evalPart_none]
 refine wpAny_pure ?_
 have I4:Inv X pins σ H3 { s3 with heap:=s3.heap.push { cls:=.type "slice",data:=.fields #[vl,vu,.none] } }:=I3.kept (t':=s3.toks) fun b ob q=>qd _ q
 obtain⟨T,id,hT,ht,hg⟩:=hr pins { s3 with heap:=s3.heap.push { cls:=.type "slice",data:=.fields #[vl,vu,.none] } } σ H3 x v vl vu l u s3.heap.objs.size Q I4 r1 (Heap.IsSliceOf.new ..) pl pu q3
 show wpAny (model X.prog X.w) X.A (subscriptTail e (.Slice lo hi none p2) v (.ref s3.heap.objs.size)) (EP X pins σ Q) X.xe { s3 with heap:=s3.heap.push { cls:=.type "slice",data:=.fields #[vl,vu,.none] } }
 exact tail_any (ops:=[.ref s3.heap.objs.size,v]) ht hT hg (by with_unfolding_all rfl)
def cutV(xs:List V)(lo hi:Option Int):List V:=(xs.drop (HT.sIx xs.length 0 lo)).take (HT.sIx xs.length xs.length hi - HT.sIx xs.length 0 lo)
theorem Ykz(xs:List V)(lo hi:Option Int):(cutV xs lo hi).length<=xs.length:=by
 unfold cutV
 rw[List.length_take,List.length_drop]
 lia
end
end L2
namespace L2
open PySem PySem.Spec PyProof.Rows
def ixN(n:Nat)(i:Int):Option Nat:=if 0<=i then (if i < n then some i.toNat else none)else if -(n:Int)<=i then some (i+n).toNat else none
def atI{α:Type}(xs:List α)(i:Int):Option α:=(ixN xs.length i).bind fun j=>xs[j]?
theorem Ysv{n:Nat}{i:Int}{j:Nat}(h:ixN n i=some j):seqIndex? i n=some j/\j < n/\-(n:Int)<=i/\i < n:=by
 unfold ixN at h
 by_cases h0:0<=i
 ·rw[if_pos h0]at h
  by_cases h1:i < n
  ·rw[if_pos h1]at h
   have e:i.toNat=j:=Option.some.inj h
   exact⟨by rw[seqIndex_of h0 h1,e],by lia,by lia,h1⟩
  ·rw[if_neg h1]at h;cases h
 ·rw[if_neg h0]at h
  by_cases h1:-(n:Int)<=i
  ·rw[if_pos h1]at h
   have e:(i+n).toNat=j:=Option.some.inj h
   exact⟨by rw[seqIndex_neg (by lia) h1,e],by lia,h1,by lia⟩
  ·rw[if_neg h1]at h;cases h
theorem Yk0{α:Type}{xs:List α}{i:Int}{v:α}(h:atI xs i=some v):∃j,seqIndex? i xs.length=some j/\xs[j]?=some v/\j < xs.length/\-(xs.length:Int)<=i/\i < xs.length:=by
 unfold atI at h
 cases e:ixN xs.length i with
 | none=>rw[e]at h;cases h
 | some j=>
   rw[e]at h
   obtain⟨h1,h2,h3,h4⟩:=Ysv e
   exact⟨j,h1,h,h2,h3,h4⟩
theorem Yii{α:Type}{xs:List α}{j:Nat}{v:α}(h:xs[j]?=some v):atI xs (j:Int)=some v:=by
 have hj:j < xs.length:=(qm h).1
 have e:ixN xs.length (j:Int)=some j:=by
  unfold ixN
  rw[if_pos (by lia),if_pos (by lia)];simp
 unfold atI;rw[e];exact h
def Yij(b:Expr):Prop:=∀o i,subscripted b false o i=operate [o,i] (getItem o i)
def IxR(X:Cx)(r:R2):Prop:=
 ∀(value slice:Expr) (pins:List (Addr × Obj)) (s:Shared) (σ:St) (H:Hp) (x y:V) (v u:Value) (Q:VK),Inv X pins σ H s->RelV x v->RelV y u->r x y H Q->
  subscripted slice false v u=operate [v,u] (getItem v u)->wpAny (model X.prog X.w) X.A (subscriptTail value slice v u) (EP X pins σ Q) X.xe s
def MtR(X:Cx)(id:String)(r:V->List V->Hp->VK->Prop):Prop:=
 ∀(pins:List (Addr × Obj)) (s:Shared) (σ:St) (H:Hp) (x:V) (xs:List V) (v:Value) (us:List Value) (Q:VK),Inv X pins σ H s->RelV x v->Vals xs us->r x xs H Q->
  wpAny (model X.prog X.w) X.A (call (.builtin id) (v::us)) (EP X pins σ Q) X.xe s
section
variable {X:Cx} {a b:Expr} {ta tb:TE} {pos:Pos}
theorem IxR.or{r r':R2}(h:IxR X r)(h':IxR X r'):IxR X (fun x y H Q=>r x y H Q\/r' x y H Q):=by
 intro value slice pins s σ H x y v u Q I rx ry q hs
 rcases q with q | q
 ·exact h value slice pins s σ H x y v u Q I rx ry q hs
 ·exact h' value slice pins s σ H x y v u Q I rx ry q hs
theorem Yx1{r:R2}(hr:IxR X r)(ha:PE X a ta)(hb:PE X b tb)(hs:Yij b):PE X (.Subscript a b pos) (tOp r ta tb):=by
 intro pins s σ H Q I h
 exact Subscript_ (binT ha hb I h fun v u s2 x y H2 I2 rx ry q=>hr a b pins s2 σ H2 x y v u Q I2 rx ry q (hs _ _))
def rIxL(K:W.Frag):R2:=fun x y H Q=>∃p xs i v,x=.ref p/\y=.int i/\SqL K H p xs/\atI xs i=some v/\Q v H
def rIxT(K:W.Frag):R2:=fun x y H Q=>∃p xs i v,x=.ref p/\y=.int i/\SqT K H p xs/\atI xs i=some v/\Q v H
def rIxS:R2:=fun x y H Q=>∃z i c,x=.str z/\y=.int i/\z.length<=sizeLine/\atI z.cps.toList i=some c/\Q (.str ⟨#[c]⟩) H
theorem ix_list:IxR X (rIxL X.K):=by
 intro value slice pins s σ H x y v u Q I rx ry h hs
 obtain⟨p,xs,i,z,rfl,rfl,hq,he,q⟩:=h
 cases rx
 obtain⟨t,rfl⟩:=ry
 obtain⟨its,r,pl,hz⟩:=I.list hq
 obtain⟨j,h1,h2,h3,h4,h5⟩:=Yk0 he
 obtain⟨w,ew,rw'⟩:=r.get h2
 have hl:=r.length
 have hn:=Yjr
 have fin:EP X pins σ Q w s:=⟨z,H,I,rw',q⟩
 by_cases h0:0<=i
 ·have hj:i.toNat=j:=by
   rw[seqIndex_of h0 h5]at h1
   exact Option.some.inj h1
  exact item_listR pl.isList h0 (by lia) (by rw[hj];simpa using ew) fin hs
 ·have hj:(i+(its.toArray.size:Int)).toNat=j:=by
   rw[seqIndex_neg (by lia) h4]at h1
   rw[qj,<-hl]
   exact Option.some.inj h1
  exact subscriptTail_builtinR (x:=w) pl.isList.typeIs slot_list_getitem.lookup
   (wpAny_getItem_list_neg (Q:=fun r s'=>r=w/\EP X pins σ Q r s') pl.isList (by lia) (by rw[qj]<;>lia) (by lia) (by rw[hj];simpa using ew) ⟨rfl,fin⟩) hs
theorem ix_tup:IxR X (rIxT X.K):=by
 intro value slice pins s σ H x y v u Q I rx ry h hs
 obtain⟨p,xs,i,z,rfl,rfl,hq,he,q⟩:=h
 cases rx
 obtain⟨t,rfl⟩:=ry
 obtain⟨its,r,pl,hz⟩:=I.tuple hq
 obtain⟨j,h1,h2,h3,h4,h5⟩:=Yk0 he
 obtain⟨w,ew,rw'⟩:=r.get h2
 have hl:=r.length
 have hn:=Yjr
 have fin:EP X pins σ Q w s:=⟨z,H,I,rw',q⟩
 exact subscriptTail_builtinR (x:=w) pl.typeIs slot_tuple_getitem.lookup
  (getItem_tuple (j:=j) (Q:=fun r s'=>r=w/\EP X pins σ Q r s') pl (by lia) (by lia) (by rw[qj,<-hl];exact h1) (by simpa using ew) ⟨rfl,fin⟩) hs
theorem Yvl:IxR X rIxS:=by
 intro value slice pins s σ H x y v u Q I rx ry h hs
 obtain⟨z,i,c,rfl,rfl,hz,he,q⟩:=h
 obtain⟨t,rfl⟩:=rx
 obtain⟨t',rfl⟩:=ry
 obtain⟨j,h1,h2,h3,h4,h5⟩:=Yk0 he
 have hl:z.cps.toList.length=z.length:=by simp[Str.length]
 rw[hl]at h1 h4 h5
 have hn:=Yjr
 exact tail_any (typeIs_str s z t) slot_str_getitem.lookup (getItem_str (c:=c) (by
  have e1:decide (i < -(2 ^ 63:Int))=false:=decide_eq_false (by lia)
  have e2:decide (i≥2 ^ 63)=false:=decide_eq_false (by lia)
  rw[e1,e2,Bool.or_false]) (by rw[h1];simpa using h2) ⟨.str ⟨#[c]⟩,H,I.tok _,⟨_,rfl⟩,q⟩) hs
def rIx(K:W.Frag):R2:=fun x y H Q=>rIxL K x y H Q\/rIxT K x y H Q\/rIxS x y H Q
theorem Yvm:IxR X (rIx X.K):=ix_list.or (ix_tup.or Yvl)
theorem Yjx(lo hi:Option Int)(n:Nat):(sliceBounds lo hi none n).1=((HT.sIx n 0 lo:Nat):Int)/\(sliceBounds lo hi none n).2.1=((HT.sIx n n hi:Nat):Int)/\(sliceBounds lo hi none n).2.2=1:=by
 refine⟨?_,?_,rfl⟩
 ·cases lo with
  | none=>simp[sliceBounds,HT.sIx]
  | some i=>
    simp only[sliceBounds,HT.sIx,Option.getD_none,show(1:Int) > 0 by decide,if_true]
    by_cases h:i < 0
    ·simp only[h,if_true]<;>lia
    ·simp only[h,if_false]<;>lia
 ·cases hi with
  | none=>simp[sliceBounds,HT.sIx]
  | some i=>
    simp only[sliceBounds,HT.sIx,Option.getD_none,show(1:Int) > 0 by decide,if_true]
    by_cases h:i < 0
    ·simp only[h,if_true]<;>lia
    ·simp only[h,if_false]<;>lia
theorem Yik(its:List Value)(lo hi:Option Int):slicePick its.toArray lo hi none=((its.drop (HT.sIx its.length 0 lo)).take (HT.sIx its.length its.length hi - HT.sIx its.length 0 lo)).toArray:=by
 obtain⟨h1,h2,h3⟩:=Yjx lo hi its.toArray.size
 unfold slicePick
 rw[h1,h2,h3]
 simp only[sliceRange_one,pick_run,qj]<;>rfl
def rSlL(K:W.Frag):V->Option Int->Option Int->Hp->VK->Prop:=fun x lo hi H Q=>∃a xs,x=.ref a/\SqL K H a xs/\∀p,H p=none->Q (.ref p) (upd H p (.lst (cutV xs lo hi)))
theorem Ysw:SlR X (rSlL X.K):=by
 intro pins s σ H x v vl vu lo hi sl Q I rx hs pl pu h
 obtain⟨a,xs,rfl,hx,q⟩:=h
 cases rx
 obtain⟨its,r,ht,hz⟩:=I.list hx
 have hlen:=r.length
 refine⟨"list",_,slot_list_getitem.lookup,ht.isList.typeIs,?_⟩
 refine wpAny_getItem_list_slice ht.isList hs pl pu .none (by simp) ?_ (by rw[qj]<;>lia)
 rw[Yik,<-hlen]
 refine⟨.ref s.heap.objs.size,_,I.laid (t':=s.toks) (o:=.lst (cutV xs lo hi)) (fun b ob q=>qd _ q) (qt _) ?_,rfl,q _ (I.hok.fresh (qt _))⟩
 exact⟨Nat.le_trans (Ykz xs lo hi) hz,_,0,(r.drop (HT.sIx xs.length 0 lo)).take (HT.sIx xs.length xs.length hi - HT.sIx xs.length 0 lo),qo _ rfl⟩
theorem y8:Yb6 X (.builtin "len") (fun xs H Q=>∃p ys,xs=[.ref p]/\(SqL X.K H p ys\/SqT X.K H p ys)/\Q (.int ys.length) H):=by
 intro pins s σ H xs us Q I r h
 obtain⟨p,ys,rfl,hq,q⟩:=h
 obtain⟨u,rfl,rx⟩:=Yhn r
 cases rx
 have hn:=Yjr
 rcases hq with hq | hq
 ·obtain⟨its,r',pl,hz⟩:=I.list hq
  have hlen:=r'.length
  exact Calls.call_len_list pl.isList (by simp only[qj]<;>lia) ⟨.int ys.length,H,I.tok _,⟨s.toks+1,by rw[qj,hlen]⟩,q⟩
 ·obtain⟨its,r',pl,hz⟩:=I.tuple hq
  have hlen:=r'.length
  exact len_tuple pl (by simp only[qj]<;>lia) ⟨.int ys.length,H,I.tok _,⟨s.toks+1,by rw[qj,hlen]⟩,q⟩
theorem Yjy:Yb6 X (.type "list") (fun xs H Q=>∃p ys,xs=[.ref p]/\(SqL X.K H p ys\/SqT X.K H p ys)/\∀l,H l=none->Q (.ref l) (upd H l (.lst ys))):=by
 intro pins s σ H xs us Q I r h
 obtain⟨p,ys,rfl,hq,q⟩:=h
 obtain⟨u,rfl,rx⟩:=Yhn r
 cases rx
 have fin:∀(its:List Value),Vals ys its->ys.length<=sizeLine->∀(h':Heap) (c':Nat),(∀b o',s.heap.get? b=some o'->h'.get? b=some o')->
  h'.get? s.heap.objs.size=some { cls:=.type "list",dict:=none,data:=.seq its.toArray c',slots:=#[] }->EP X pins σ Q (.ref s.heap.objs.size) { s with heap:=h' }:=fun its r' hz h' c' kp e=>
  ⟨.ref s.heap.objs.size,_,I.laid (t':=s.toks) kp (qt _) (show ObjOk X.prog X.w _ h' _ (.lst ys) from⟨hz,its,c',r',e⟩),rfl,q _ (I.hok.fresh (qt _))⟩
 rcases hq with hq | hq
 ·obtain⟨its,r',pl,hz⟩:=I.list hq
  have hlen:=r'.length
  obtain⟨o,ho,hc,n,hd⟩:=pl.isList
  exact call_list_seq p (.inl rfl) ho hc hd (fun h' c' kp e=>fin its r' hz h' c' kp e) (by simp only[qj]<;>lia)
 ·obtain⟨its,r',pl,hz⟩:=I.tuple hq
  have hlen:=r'.length
  obtain⟨o,ho,hc,n,hd⟩:=pl
  exact call_list_seq p (.inr rfl) ho hc hd (fun h' c' kp e=>fin its r' hz h' c' kp e) (by simp only[qj]<;>lia)
theorem Yat:Yb6 X (.type "tuple") (fun xs H Q=>∃p ys,xs=[.ref p]/\((SqL X.K H p ys/\∀l,H l=none->Q (.ref l) (upd H l (.tup ys)))\/(SqT X.K H p ys/\Q (.ref p) H))):=by
 intro pins s σ H xs us Q I r h
 obtain⟨p,ys,rfl,h⟩:=h
 obtain⟨u,rfl,rx⟩:=Yhn r
 cases rx
 rcases h with⟨hq,q⟩ | ⟨hq,q⟩
 ·obtain⟨its,r',pl,hz⟩:=I.list hq
  have hlen:=r'.length
  refine call_tuple_list pl.isList (fun h' kp=>?_) (by simp only[qj]<;>lia)
  have I1:Inv X pins σ H { s with heap:=h' }:=I.kept (t':=s.toks) kp
  have I2:Inv X pins σ (upd H h'.objs.size (.tup ys)) { s with heap:=h'.push { cls:=.type "tuple",data:=.seq its.toArray } }:=
   I1.laid (t':=s.toks) (fun b o e=>qd _ e) (qt _) (show ObjOk X.prog X.w _ _ _ (.tup ys) from⟨hz,its,r',IsTup.new _ _⟩)
  exact⟨.ref h'.objs.size,_,I2,rfl,q _ (I1.hok.fresh (qt _))⟩
 ·obtain⟨its,r',pl,hz⟩:=I.tuple hq
  exact call_tuple_same pl ⟨.ref p,H,I,rfl,q⟩
def tyV(K:W.Frag)(T:String)(x:V)(H:Hp):Prop:=match x with
 | .str _=>T="str"
 | .int _=>T="int"
 | .ref p=>(T="list"/\∃xs,SqL K H p xs)\/(T="tuple"/\∃o,K.lookup p=some o/\o.cls=.type "tuple"/\o.dict=none)\/
  (T="dict"/\((∃kvs,H p=some (.dK kvs))\/∃kvs,H p=some (.dT kvs)))\/(T="set"/\∃S n,H p=some (.set S n))
 | _=>False
theorem Yvn{pins:List (Addr × Obj)}{σ:St}{H:Hp}{s:Shared}{T:String}{x:V}{v:Value}(I:Inv X pins σ H s)(r:RelV x v)(ty:tyV X.K T x H) :
 s.TypeIs v T/\∀a,v=.ref a->∃ob,s.heap.get? a=some ob/\ob.dict=none:=by
 cases x with
 | str z=>
   obtain⟨t,rfl⟩:=r
   cases (show T="str" from ty)
   exact⟨typeIs_str s z t,fun _ e=>nomatch e⟩
 | int i=>
   obtain⟨t,rfl⟩:=r
   cases (show T="int" from ty)
   exact⟨typeIs_int s i t,fun _ e=>nomatch e⟩
 | ref p=>
   cases r
   rcases ty with⟨rfl,xs,hq⟩ | ⟨rfl,o,hk,hc,hd⟩ | ⟨rfl,hk⟩ | ⟨rfl,S,n,hk⟩
   ·obtain⟨its,_,pl,_⟩:=I.list hq
    refine⟨pl.isList.typeIs,fun a e=>?_⟩
    cases e
    obtain⟨o,n,e,c,hd,_⟩:=pl
    exact⟨o,e,hd⟩
   ·refine⟨⟨o,I.kIn p o hk,hc⟩,fun a e=>?_⟩
    cases e
    exact⟨o,I.kIn _ o hk,hd⟩
   ·have z:∃o,s.heap.get? p=some o/\o.ExactDict:=by
     rcases hk with⟨kvs,hk⟩ | ⟨kvs,hk⟩
     ·obtain⟨_,_,_,_,o,_,_,e,ex,_⟩:=I.hok p _ hk
      exact⟨o,e,ex⟩
     ·obtain⟨_,_,_,_,o,_,_,e,ex,_⟩:=I.hok p _ hk
      exact⟨o,e,ex⟩
    obtain⟨o,e,ex⟩:=z
    refine⟨⟨o,e,ex.1⟩,fun a e2=>?_⟩
    cases e2
    exact⟨o,e,ex.2.1⟩
   ·obtain⟨o,_,_,_,e,ex,_⟩:=I.hok p _ hk
    refine⟨⟨o,e,ex.1⟩,fun a e2=>?_⟩
    cases e2
    exact⟨o,e,ex.2.1⟩
 | _=>exact False.elim ty
def tBM(K:W.Frag)(T:String)(r:V->List V->Hp->VK->Prop)(to:TE)(t:TA):TE:=fun σ H Q=>to σ H fun x H1=>tyV K T x H1/\t σ H1 fun xs H2=>r x xs H2 Q
variable {o e:Expr} {es:List Expr} {to:TE} {t:TA} {name:Str} {apos cpos:Pos} {T id:String} {r:V->List V->Hp->VK->Prop}
theorem Yvo(pa:PlainAttrs T)(slot:Slot T name id)(hty:typeOf (.builtin id)=pure (.type "method_descriptor"))(hm:MtR X id r)(ho:PE X o to)(ha:PA X (e::es) t)
 (hbase:attributeBase o name X.env (eval o X.env)=eval o X.env:=by rfl)
 (hfew:((backTo cpos (starEach (e::es) X.env)).all (fun x=>!x.1)&&(backToKw cpos (keywordEach [] X.env)).all (fun x=>x.1.isSome)
  &&decide ((e::es).length+([]:List Keyword).length+(if ([]:List Keyword).isEmpty then 0 else 1) < 30))=true:=by rfl)
 (hline:(apos.endLine==cpos.line)=true:=by rfl) (hs:starEach (e::es) X.env=(false,eval e X.env)::starEach es X.env:=by rfl) (hplain:(backTo cpos (starEach es X.env)).any (·.1)=false:=by rfl) :
 PE X (.Call (.Attribute o name apos) (e::es) [] cpos) (tBM X.K T r to t):=by
 intro pins s σ H Q I h
 refine wpAny_Call_method_late hbase hfew hline rfl (thn (ho pins s σ H _ I h) fun v s1 hx_=>?_)
 obtain⟨x,H1,I1,r1,ty,q1⟩:=hx_
 obtain⟨h1,h2⟩:=Yvn I1 r1 ty
 refine⟨T,id,pa,slot,hty,h1,h2,?_⟩
 have hA:=ha cpos pins s1 σ H1 _ I1 q1
 rw[hs]at hA ⊢
 refine Calls.callWith_builtin (by show(false||(backTo cpos (starEach es X.env)).any (·.1))=false;rw[hplain]<;>rfl) (Calls.evalArgs_plain ?_)
 refine thn hA fun us s2 hx_=>?_
 obtain⟨vs,H2,I2,r2,q2⟩:=hx_
 exact hm pins s2 σ H2 x vs v us Q I2 r1 r2 q2
end
end L2
namespace L2
open PySem PySem.Spec PyProof.Rows
def MtM(X:Cx)(id:String)(r:V->List V->Hp->VK->Prop):Prop:=
 ∀(pins:List (Addr × Obj)) (s:Shared) (σ:St) (H:Hp) (x:V) (xs:List V) (v:Value) (us:List Value) (Q:VK),Inv X pins σ H s->RelV x v->Vals xs us->r x xs H Q->
  wpAny (model X.prog X.w) X.A (call (.builtin id) (v::us)) (EP X pins σ Q) X.xe s
theorem Vals.one:∀{x:V} {us:List Value},Vals [x] us->∃u,us=[u]/\RelV x u
 :=by
  intro x us h
  cases h with
  | cons r t=>
    cases t
    exact⟨_,rfl,r⟩
section
variable {X:Cx} {pins:List (Addr × Obj)} {σ:St} {H:Hp} {s:Shared} {l b:Addr} {xs ys zs:List V}
theorem Inv.lset{its its':List Value}{n:Nat}{f:Array Value->Array Value}{t':Nat}(I:Inv X pins σ H s)(hH:H l=some (.lst xs))
 (e:s.heap.get? l=some { cls:=.type "list",data:=.seq its.toArray n }) (hf:f its.toArray=its'.toArray) (hv:Vals ys its') (hz:ys.length<=sizeLine) :
 Inv X pins σ (upd H l (.lst ys)) { s with heap:=s.heap.update l (Obj.mapSeq f),toks:=t' }:=by
 have q:=PySem.IsL.update e f
 rw[hf]at q
 refine I.write (x:=l) (e:=l) (by rw[hH];exact trivial) (.inl rfl) (fun b' u hb hu=>(Heap.get?_update_other s.heap (Obj.mapSeq f) (Ne.symm hb)).trans hu) ⟨_,q⟩ ?_
 exact⟨hz,its',_,hv,q⟩
theorem Inv.lnew{its:List Value}{t':Nat}(I:Inv X pins σ H s)(hv:Vals ys its)(hz:ys.length<=sizeLine) :
 Inv X pins σ (upd H s.heap.objs.size (.lst ys)) { s with heap:=s.heap.push { cls:=.type "list",data:=.seq its.toArray },toks:=t' }:=
 I.laid (fun _ _ q=>qd _ q) (qt _) ⟨hz,its,0,hv,qo _ rfl⟩
theorem Inv.fresh(I:Inv X pins σ H s):H s.heap.objs.size=none:=I.hok.fresh (qt _)
theorem Inv.lstM(I:Inv X pins σ H s)(hH:H l=some (.lst xs)):xs.length<=sizeLine/\∃(its:List Value) (n:Nat),Vals xs its/\xs.length=its.length/\s.heap.get? l=some { cls:=.type "list",data:=.seq its.toArray n }:=by
 obtain⟨z,its,n,r,e⟩:=I.hok l _ hH
 exact⟨z,its,n,r,r.length,e⟩
def Ysx:V->List V->Hp->VK->Prop:=fun x vs H Q=>∃l xs y,x=.ref l/\vs=[y]/\H l=some (.lst xs)/\xs.length < sizeLine/\Q .non (upd H l (.lst (xs++[y])))
theorem Ygn:MtM X "list.append" Ysx:=by
 intro pins s σ H x vs v us Q I rx rv h
 obtain⟨l,xs,y,rfl,rfl,hH,hz,q⟩:=h
 cases rx
 obtain⟨u,rfl,ru⟩:=rv.one
 obtain⟨z,its,n,r,hl,e⟩:=I.lstM hH
 refine call_meets F.slot_list_append ⟨_,e,rfl⟩ F.entry_list_append (F.args_list_append_2 _ _) (PySem.list_append l its.toArray n u (by rw[qj];lia)) ⟨e,?_⟩
 refine⟨.non,_,I.lset (its':=its++[u]) hH e (by simp) (r.append (.cons ru .nil)) ?_,rfl,q⟩
 rw[List.length_append,List.length_singleton]
 lia
end
end L2
namespace Att
open PySem PySem.W PySem.Calls PyProof.Rows
theorem Ygo{P:Params}{h:Heap}:∀(ns:List Int) (vs:List Value),WellAll P h vs (ns.map WData.int)->IntsAre vs ns:=by
 intro ns
 induction ns with
 | nil=>
   intro vs w
   rw[List.map_nil]at w
   cases w
   exact .nil
 | cons n ns ih=>
   intro vs w
   rw[Qa]at w
   cases w with
   | cons a b=>
     cases a
     exact .cons _ _ (ih _ b)
theorem Ynr{l:OpenLaw}{n:Nat}(hn:l.most=some n){P:Params}{h:Heap}{args:List WData}{vals:List Value}
 (hpre:l.row.toRowW.claim.pre args=true) (hwl:WellAll P h vals args) :
 ∃a vs ns,vals=[Value.ref a]/\args=[WData.list (ns.map WData.int)]/\h.get? a=some { cls:=.type "list",data:=.seq vs.toArray }/\IntsAre vs ns/\ns.length<=n:=by
 have hsh:WShape.hasAll [] args [.list .int]=true:=(pre_splitW hpre).1
 have hc:l.pre.holds [] { args:=args }=true:=(pre_splitW hpre).2
 obtain⟨d,r,rfl,h1,h2⟩:=hasAllW_cons hsh
 obtain rfl:=hasAllW_nil h2
 obtain⟨xs,rfl,h3⟩:=hasW_list h1
 obtain⟨ns,rfl⟩:=items_int h3
 have hlen:ns.length<=n:=by
  unfold OpenLaw.pre at hc
  have h4:(WTm.not (.lt (.lit (.int (n:Int))) (.len (.arg 0)))).holds [] { args:=[.list (ns.map .int)] }=true:=by
   have h4:=(holds_andW hc).1
   rw[hn]at h4
   exact h4
  have h5:=condW_of h4 (w_not (w_lt w_lit (w_len_list (w_arg rfl))))
  rw[qe]at h5
  refine Nat.le_of_not_lt fun q=>?_
  have q':(n:Int) < ((ns.length:Nat):Int):=by lia
  first
   | (rw[decide_eq_true q']at h5;exact absurd h5 (by decide))
   | (simp at h5;lia)
 cases hwl with
 | cons w1 w2=>
   cases w2
   cases w1 with
   | list ho hall=>exact⟨_,_,ns,rfl,rfl,ho,Ygo ns _ hall,hlen⟩
theorem Yns(l:OpenLaw)(args:List WData):l.row.toRowW.claim.post args (.bool true) args=true:=
 postW_of (r:=l.row.toRowW) (X:=(true==true))
  (show WShape.has [] (.bool true) .bool=true by first | rfl | decide | simp[WShape.has,WShape.arms,WShape.armsAll])
  (show(WTm.eq .res (.lit (.bool true))).value [] { args:=args,res:=some (.bool true),after:=args }=some (.bool (true==true)) from w_eq_bool (w_res rfl) w_lit) rfl
theorem attach_call{l:OpenLaw}{n:Nat}{q:Program}{loose:List Str}{XP:(Str->Option Value)->Heap->Prop}{YP:World->Heap->Prop}{d:DefRec}
 (hn:l.most=some n) (hdf:d.params.defaults=[])
 (call:∀(w:World) (s₀ s₁:Shared) (mg mb:Str->Option Value) (fa:Addr) (o:Obj) (pm cd doc:Value) (a:Addr) (vs:List Value) (ns:List Int),
  Ground q loose [] XP w s₀ mg mb s₁.heap->YP w s₁.heap->
  s₁.heap.get? fa=some o->o.data=.func (docDef d.name d.params d.body d.scope pm cd doc)->s₁.heap.CodeRec cd d.name->mg d.name=some (.ref fa)->
  s₁.heap.get? a=some { cls:=.type "list",data:=.seq vs.toArray }->IntsAre vs ns->ns.length<=n->s₁.gens=#[]->
  codeAny (model l.prog w) callerA (.call (.ref fa) ⟨[.ref a],[]⟩) (fun r s'=>r=.ok (.ret (.bool true))/\OldK s₁.heap s'.heap/\s'.os=s₁.os/\AllBare s'.gens) s₁) :
 WalkO q loose XP YP l.row.toRowW d [] (fun f vs=>PySem.call f vs):=by
 intro w s₀ s₁ mg mb G Y fa o pm cd doc dV kV ho hd hcd hD hmg hg args vals as hpre hlay hrd hwl hlo
 obtain rfl:dV=.none:=Dflts.none hD hdf
 obtain rfl:kV=.none:=Dflts.noKw hD
 obtain⟨a,vs,ns,rfl,rfl,hobj,hints,hlen⟩:=Ynr hn hpre hwl
 refine enter_call (codeAny_mono (call w s₀ s₁ mg mb fa o pm cd doc a vs ns G Y ho (fd_plain hd) hcd hmg hobj hints hlen hg) fun r s' hq=>?_)
 obtain⟨rfl,h2,h3,h4⟩:=hq
 exact⟨.inl ⟨.bool true,.bool true,[],rfl,fun _=>rfl,.bool true,Yns l _,fun _=>⟨List.Pairwise.nil,fun _ hm=>(nomatch hm)⟩⟩,h2,h3,h4⟩
end Att
namespace L2
open PySem PySem.Spec PyProof.Rows
theorem Ygp:∀{vs:List Value} {ns:List Int},IntsAre vs ns->Vals (ns.map V.int) vs
 | _,_,.nil=>.nil
 | _,_,.cons n t h=>.cons ⟨t,rfl⟩ (Ygp h)
def Only(H:Hp):Prop:=∀b,H b=none\/∃o xs,H b=some (.frz o (.lst xs))
theorem Yqf{P:Program}{w:World}{K:W.Frag}{mg mb:Str->Option Value}{CX:CXT}{k:Nat}{fa a:Addr}{fd:FuncData}{x:Str}{sp:Sp}{s₁:Shared}{vs:List Value}{ns:List Int}
 (KX:K.In s₁.heap) (hns:s₁.heap.Ns mainGlobals mg) (hb:s₁.heap.Ns builtinsNs mb) (hbb:∀x:Str,x≠"__name__"->mb x=bootBuiltins x) (hlim:s₁.heap.NoLimit) (hg:s₁.gens=#[])
 (ha:s₁.heap.get? a=some { cls:=.type "list",data:=.seq vs.toArray }) (hi:IntsAre vs ns) (hl:ns.length<=sizeLine) (hr:Room k callerA)
 (F:∀base:Heap,K.In base->base.Ns mainGlobals mg->FnOk P w K mg base CX k fa fd [x] sp) (hbind:∀(s:Shared) (u:Value),BindsTo s fd ⟨[u],[]⟩ [(x,u)])
 (hsp:∀H:Hp,Only H->SqL K H a (ns.map V.int)->sp [.ref a] H (fun v _=>v=.bl true) fun _ _ _=>False)
 (hCX:∀H e s',CX [] H s₁ (fun _ _ _=>False) e s'->False) :
 codeAny (model P w) callerA (.call (.ref fa) ⟨[.ref a],[]⟩) (fun r s'=>r=.ok (.ret (.bool true))/\OldK s₁.heap s'.heap/\s'.os=s₁.os/\AllBare s'.gens) s₁:=by
 have rv:=Ygp hi
 have lenV:=hi.length
 have core:∀H:Hp,Only H->SqL K H a (ns.map V.int)->HOk P w H s₁.heap->(∀b,H b≠none->b=a)->(H a≠none->K.lookup a=none)->
  codeAny (model P w) callerA (.call (.ref fa) ⟨[.ref a],[]⟩) (fun r s'=>r=.ok (.ret (.bool true))/\OldK s₁.heap s'.heap/\s'.os=s₁.os/\AllBare s'.gens) s₁:=by
  intro H hO hS hok hA hK
  have base_of:∀{b:Addr} {o:Obj},s₁.heap.get? b=some o->H b=none->(hidT s₁.heap H).get? b=some o:=fun e n=>Yp7 e n
  have noA:∀{b:Addr} {o:Obj} {es:Array DictEntry} {ep:Nat},s₁.heap.get? b=some o->o.data=.dict es ep->H b=none:=fun {b o es ep} e d=>by
   cases q:H b with
   | none=>rfl
   | some u=>
     have e':b=a:=hA b (by rw[q];simp)
     subst e'
     rw[ha]at e;cases e
     have d':Data.seq vs.toArray _=Data.dict es ep:=d
     cases d'
  have nsK:∀{b:Addr} {m:Str->Option Value},s₁.heap.Ns b m->(hidT s₁.heap H).Ns b m:=fun {b m} ⟨o,es,ep,e,d,r⟩=>⟨o,es,ep,base_of e (noA e d),d,r⟩
  have hKb:K.In (hidT s₁.heap H):=fun b o e=>base_of (KX b o e) (by
   cases q:H b with
   | none=>rfl
   | some u=>
     have e':b=a:=hA b (by rw[q];simp)
     subst e'
     rw[hK (by rw[q];simp)]at e;cases e)
  have hM:Mod K mg (hidT s₁.heap H):=⟨hKb,nsK hns,⟨mb,nsK hb,hbb⟩,let ⟨mc,h1,h2⟩:=hlim;⟨mc,nsK h1,h2⟩⟩
  have e0:Env0 P w K mg (hidT s₁.heap H) callerA [] s₁ H:=⟨rfl,hM,fun b o e=>Ysj e,Nat.le_of_eq (Ync _ _),trivial,fun b hb=>absurd (show b∈([]:List Addr) from hb) (by simp),hok,.of_eq hg⟩
  refine codeAny_mono ((F _ hKb (nsK hns)).run callerA [] s₁ H ⟨[.ref a],[]⟩ [.ref a] [.ref a] _ _ hr e0 (hbind s₁ (.ref a)) (.cons rfl .nil) (hsp H hO hS)) fun r s' h=>?_
  cases r with
  | error e=>exact(hCX H e s' h).elim
  | ok fl=>
    cases fl with
    | next=>exact False.elim h
    | brk=>exact False.elim h
    | cont=>exact False.elim h
    | ret u=>
      obtain⟨v,H',os,bare,un,hok',r',q⟩:=h
      have q':v=.bl true:=q
      subst q'
      obtain rfl:u=Value.bool true:=r'
      refine⟨rfl,OldK.of_keep fun b o e=>?_,os,bare⟩
      cases q:H b with
      | none=>exact un.keep b o e q (by intro z;exact absurd (show b∈([]:List Addr) from z) (by simp)) (by simp)
      | some u=>
        rcases hO b with z | ⟨ob,xs,z⟩
        ·rw[q]at z;cases z
        ·have z2:=un.frzs b ob _ z
         obtain⟨e1,_⟩:=hok b _ z
         obtain⟨e2,_⟩:=hok' b _ z2
         rw[e]at e1;cases e1
         exact e2
 cases hk:K.lookup a with
 | some o=>
   have e:=KX a o hk
   rw[ha]at e
   cases e
   refine core (fun _=>none) (fun _=>.inl rfl) (.inr ⟨_,vs.toArray,_,hk,rfl,rfl,rfl,by rw[qj,lenV];exact hl,by simpa using rv⟩) (fun b u z=>by have z':(none:Option HO)=some u:=z;cases z') (fun b z=>absurd rfl z) fun z=>absurd rfl z
 | none=>
   refine core (fun b=>if b=a then some (.frz { cls:=.type "list",data:=.seq vs.toArray } (.lst (ns.map V.int)))else none) (fun b=>?_) (.inl (.inr ⟨{ cls:=.type "list",data:=.seq vs.toArray },if_pos rfl⟩)) (fun b u z=>?_) (fun b z=>?_) fun _=>hk
   ·by_cases hb:b=a
    ·exact .inr ⟨_,_,if_pos hb⟩
    ·exact .inl (if_neg hb)
   ·by_cases hb:b=a
    ·have z':=(if_pos hb).symm.trans z
     cases z'
     subst hb
     exact⟨ha,by rw[qe];exact hl,vs,_,rv,ha⟩
    ·have z':=(if_neg hb).symm.trans z
     cases z'
   ·by_cases hb:b=a
    ·exact hb
    ·exact absurd (if_neg hb) z
end L2
namespace L2
open PySem PySem.Spec PyProof.Rows
theorem walk_of{l:W.OpenLaw}{n k:Nat}{q:Program}{loose:List Str}{XP:(Str->Option Value)->Heap->Prop}{YP:World->Heap->Prop}{d:DefRec}{K:Params->W.Frag}{CX:World->CXT}{sp:World->Sp}{x:Str}
 (hn:l.most=some n) (hn2:n<=sizeLine) (hdf:d.params.defaults=[]) (hr:Room k callerA)
 (hY:∀(w:World) (h:Heap),YP w h->(K w.params).In h)
 (F:∀(w:World) (mg:Str->Option Value) (fa:Addr) (h:Heap),(K w.params).In h->h.Ns mainGlobals mg->mg d.name=some (.ref fa)->
  ∃fd:FuncData,(∀(s:Shared) (u:Value),BindsTo s fd ⟨[u],[]⟩ [(x,u)])/\
   ∀base:Heap,(K w.params).In base->base.Ns mainGlobals mg->FnOk l.prog w (K w.params) mg base (CX w) k fa fd [x] (sp w))
 (hsp:∀(w:World) (H:Hp) (a:Addr) (ns:List Int),ns.length<=n->Only H->SqL (K w.params) H a (ns.map V.int)->sp w [.ref a] H (fun v _=>v=.bl true) fun _ _ _=>False)
 (hCX:∀(w:World) (H:Hp) (s:Shared) (e:Value) (s':Shared),CX w [] H s (fun _ _ _=>False) e s'->False) :
 W.WalkO q loose XP YP l.row.toRowW d [] (fun f vs=>PySem.call f vs):=by
 refine Att.attach_call hn hdf fun w s₀ s₁ mg mb fa o pm cd doc a vs ns G Y ho hd hcd hmg hobj hints hlen hg=>?_
 have KX:=hY w _ Y
 obtain⟨fd,hb,hF⟩:=F w mg fa _ KX G.T.g hmg
 exact Yqf KX G.T.g G.T.b G.T.builtins G.T.nolimit hg hobj hints (Nat.le_trans hlen hn2) hr hF hb (fun H hO hS=>hsp w H a ns hlen hO hS) fun H e s'=>hCX w H s₁ e s'
end L2
namespace L2
open PySem PySem.Spec PyProof.Rows
def defArgs(s:Stmt):Arguments:=match s with
 | .FunctionDef _ a _ _ _ _ _ _ _ _=>a
 | _=>{ posonlyargs:=[],args:=[],vararg:=none,kwonlyargs:=[],kw_defaults:=[],kwarg:=none,defaults:=[] }
def defBody(s:Stmt):List Stmt:=match s with
 | .FunctionDef _ _ b _ _ _ _ _ _ _=>b
 | _=>[]
def defScope(s:Stmt):Scope:=match s with
 | .FunctionDef _ _ _ _ _ _ sc _ _ _=>sc
 | _=>{ kind:=.function,names:=[],isGenerator:=false,isCoroutine:=false }
abbrev CX0:CXT:=fun _ _ _ _ _ _=>False
abbrev E0:XK:=fun _ _ _=>False
theorem Yx2{X:Cx}:Yhx CX0 X E0:=fun _ _ _ _ _ _ _ h=>h.elim
structure Fun(K:W.Frag)(x qual:Str)(st:Stmt)(f:Addr)(fd:FuncData):Prop where
 ex:∃(oc:Value) (od:Option Addr) (kV doc pm:Value) (an:Option Addr) (cdv ct:Value) (osl:Array (Option Value)),
  fd=W.fnOf x qual (defArgs st) (defBody st) (defScope st) .none kV doc pm an cdv ct/\K.lookup f=some ⟨oc,od,.func fd,osl⟩/\W.codeIn K cdv qual=true
 kp:W.keepIn K (.ref f)=true
section
variable {P:Program} {w:World} {K:W.Frag} {mg:Str->Option Value} {base:Heap}
theorem Fun.ok{x qual:Str}{st:Stmt}{f:Addr}{fd:FuncData}{N ps:List Str}{k:Nat}{sp:Sp}(F:Fun K x qual st f fd)(S:FnScope N ps (defScope st))(len:∀vs H Q E,sp vs H Q E->vs.length=ps.length)
 (hbody:∀(cdv:Value) (A:Around) (outer:List Env) (s:Shared) (H:Hp) (vs:List V) (Q:VK) (E:XK),Room k (A.deeper (envOfC qual (defScope st) s.heap.objs.size f cdv))->sp vs H Q E->
  ∃t,PSs (cxOf CX0 P w K mg base N qual (defScope st) f cdv A outer s H E).nox (defBody st) t/\t { nx:=fun _ H'=>Q .non H',rt:=Q } (start N vs) H):FnOk P w K mg base CX0 (k+1) f fd ps sp:=by
 obtain⟨oc,od,kV,doc,pm,an,cdv,ct,osl,rfl,lk,hcd⟩:=F.ex
 refine Yvi lk hcd S len fun A outer s H vs Q E hr hsp=>?_
 obtain⟨t,h,q⟩:=hbody cdv A outer s H vs Q E hr hsp
 exact⟨t,h.nox,q⟩
theorem Fun.binds{x qual:Str}{st:Stmt}{f:Addr}{fd:FuncData}{ps:List Str}(F:Fun K x qual st f fd)
 (h:∀(kV doc pm:Value) (an:Option Addr) (cdv ct:Value) (us:List Value),us.length=ps.length->bindArgs (W.fnOf x qual (defArgs st) (defBody st) (defScope st) .none kV doc pm an cdv ct) ⟨us,[]⟩=pure (ps.zip us)):Binds K fd ps []:=by
 obtain⟨oc,od,kV,doc,pm,an,cdv,ct,osl,rfl,lk,hcd⟩:=F.ex
 exact .all (h kV doc pm an cdv ct)
theorem Yrx{x qual:Str}{st:Stmt}{f:Addr}{oc:Value}{od an:Option Addr}{osl:Array (Option Value)}{kV doc pm cdv ct:Value}(l:K.lookup f=some ⟨oc,od,.func (W.fnOf x qual (defArgs st) (defBody st) (defScope st) .none kV doc pm an cdv ct),osl⟩)
 (c:W.codeIn K cdv qual=true) (k:W.keepIn K (.ref f)=true):Fun K x qual st f (W.fnOf x qual (defArgs st) (defBody st) (defScope st) .none kV doc pm an cdv ct):=⟨⟨oc,od,kV,doc,pm,an,cdv,ct,osl,rfl,l,c⟩,k⟩
end
def Same(H H':Hp):Prop:=∀b o,H b=some o->H' b=some o
theorem Same.refl(H:Hp):Same H H:=fun _ _ h=>h
theorem Same.trans{H H1 H2:Hp}(a:Same H H1)(b:Same H1 H2):Same H H2:=fun c o h=>b c o (a c o h)
theorem Same.free{H H':Hp}(e:Same H H'){l:Addr}(h:H' l=Option.none):H l=Option.none:=by
 cases q:H l with
 | none=>rfl
 | some o=>
   rw[e l o q]at h
   cases h
theorem Same.seq{K:W.Frag}{H H':Hp}{a:Addr}{xs:List V}(e:Same H H')(h:SqL K H a xs):SqL K H' a xs:=by
 rcases h with(h | ⟨o,h⟩) | h
 ·exact .inl (.inl (e _ _ h))
 ·exact .inl (.inr ⟨o,e _ _ h⟩)
 ·exact .inr h
end L2
namespace L2
open PySem PySem.Spec PyProof.Rows
def clOf(env:Env):List (Str × NameKind)->List (Str × Addr)->List (Str × Addr)
 | [],cs=>cs
 | (n,k)::r,cs=>if (k==NameKind.free)=true then (match env.cells.lookup n with | some c=>clOf env r ((n,c)::cs) | none=>clOf env r cs)else clOf env r cs
theorem Ybs{scope:Scope}{env:Env}(h:∀x∈scope.names,x.2=NameKind.free->∃c,env.cells.lookup x.1=some c):closureFor scope env=pure (clOf env scope.names []):=by
 have key:∀(l:List (Str × NameKind)) (cs:List (Str × Addr)),(∀x∈l,x.2=NameKind.free->∃c,env.cells.lookup x.1=some c)->
  (forIn l cs fun(x:Str × NameKind) (r:List (Str × Addr))=>if (x.2==NameKind.free)=true then (do let c <-cellOf env x.1;pure (ForInStep.yield ((x.1,c)::r)))else pure (ForInStep.yield r))=(pure (clOf env l cs):Sem (List (Str × Addr))):=by
  intro l
  induction l with
  | nil=>intro cs _;rfl
  | cons x l ih=>
    intro cs hl
    obtain⟨n,k⟩:=x
    have ht:=fun y hy=>hl y (qf _ hy)
    rw[List.forIn_cons]
    by_cases hk:k=NameKind.free
    ·subst hk
     obtain⟨c,hc⟩:=hl (n,NameKind.free) qg rfl
     have hc':env.cells.lookup n=some c:=hc
     have e1:cellOf env n=pure c:=by unfold cellOf;rw[hc']
     have hff:(NameKind.free==NameKind.free)=true:=rfl
     show(if (NameKind.free==NameKind.free)=true then (do let c <-cellOf env n;pure (ForInStep.yield ((n,c)::cs)))else pure (ForInStep.yield cs)) >>= _=_
     rw[if_pos hff,e1,pure_bind,pure_bind]
     show forIn l ((n,c)::cs) _=_
     rw[ih _ ht]
     show _=pure (if (NameKind.free==NameKind.free)=true then (match env.cells.lookup n with | some c=>clOf env l ((n,c)::cs) | none=>clOf env l cs)else clOf env l cs)
     rw[if_pos hff,hc']
    ·have hb:(k==NameKind.free)=false:=by simpa using hk
     show(if (k==NameKind.free)=true then _ else pure (ForInStep.yield cs)) >>= _=_
     rw[if_neg (by rw[hb];exact qh),pure_bind]
     show forIn l cs _=_
     rw[ih _ ht]
     show _=pure (if (k==NameKind.free)=true then (match env.cells.lookup n with | some c=>clOf env l ((n,c)::cs) | none=>clOf env l cs)else clOf env l cs)
     rw[if_neg (by rw[hb];exact qh)]
 have:=key scope.names [] h
 unfold closureFor
 simpa using this
theorem Yge{env:Env}:∀(l:List (Str × NameKind)) (cs:List (Str × Addr)),(∀x c,(x,c)∈cs->env.cells.lookup x=some c)->∀x c,(x,c)∈clOf env l cs->env.cells.lookup x=some c
 | [],cs,h,x,c,e=>h x c e
 | (n,k)::r,cs,h,x,c,e=>by
   unfold clOf at e
   split at e
   ·split at e
    ·rename_i d hd
     refine Yge r _ (fun y b hy=>?_) x c e
     rcases qr hy with q | q
     ·cases q;exact hd
     ·exact h y b q
    ·exact Yge r cs h x c e
   ·exact Yge r cs h x c e
theorem Yec{env:Env}:∀(l:List (Str × NameKind)) (cs:List (Str × Addr)) (p:Str × Addr),p∈cs->p∈clOf env l cs
 | [],_,_,h=>h
 | (n,k)::r,cs,p,h=>by
   unfold clOf
   split
   ·split
    ·exact Yec r _ p (qf _ h)
    ·exact Yec r _ p h
   ·exact Yec r _ p h
theorem Yew{env:Env}:∀(l:List (Str × NameKind)) (cs:List (Str × Addr)) (x:Str) (c:Addr),(x,NameKind.free)∈l->env.cells.lookup x=some c->(x,c)∈clOf env l cs
 | (n,k)::r,cs,x,c,h,hc=>by
   rcases qr h with q | q
   ·cases q
    unfold clOf
    rw[if_pos (show(NameKind.free==NameKind.free)=true from rfl),hc]
    exact Yec r _ _ qg
   ·unfold clOf
    split
    ·split
     ·exact Yew r _ x c q hc
     ·exact Yew r _ x c q hc
    ·exact Yew r _ x c q hc
theorem Yex{x:Str}{c:Addr}{cl:List (Str × Addr)}(h:(x,c)∈cl):∃d,cl.lookup x=some d:=by
 induction cl with
 | nil=>cases h
 | cons p r ih=>
   obtain⟨n,b⟩:=p
   rw[List.lookup_cons]
   cases e:(x==n)with
   | true=>exact⟨b,rfl⟩
   | false=>
     rcases qr h with q | q
     ·cases q;simp at e
     ·exact ih q
structure CompSc(XN:List Str)(xsc:Scope)(N:List Str)(src:List (Option Nat))(sc:Scope):Prop where
 kind:sc.kind=.function
 xkind:xsc.kind=.function
 cellU:∀y∈sc.names,y.2=NameKind.cell->sc.names.lookup y.1=some NameKind.cell
 names:∀y∈sc.names,y.2=NameKind.local->sc.names.lookup y.1=some NameKind.local
 len:src.length=N.length
 nd:N.Nodup
 cap:∀(i j:Nat) (x:Str),N[i]?=some x->src[i]?=some (some j)->XN[j]?=some x/\sc.names.lookup x=some NameKind.free
 fr:∀y∈sc.names,y.2=NameKind.free->xsc.names.lookup y.1=some NameKind.cell\/xsc.names.lookup y.1=some NameKind.free
def capB(XN:List Str)(sc:Scope):List Str->List (Option Nat)->Bool
 | [],[]=>true
 | x::N,none::src=>capB XN sc N src
 | x::N,some j::src=>decide (XN[j]?=some x)&&decide (sc.names.lookup x=some NameKind.free)&&capB XN sc N src
 | _,_=>false
theorem Yil{XN:List Str}{sc:Scope}:∀{N:List Str} {src:List (Option Nat)},capB XN sc N src=true->src.length=N.length
 | [],[],_=>rfl
 | _::N,none::src,h=>by
   have:=Yil (N:=N) (src:=src) h
   simp[this]
 | _::N,some j::src,h=>by
   replace h:(decide (XN[j]?=some _)&&decide (sc.names.lookup _=some NameKind.free)&&capB XN sc N src)=true:=h
   simp only[Qb]at h
   have:=Yil (N:=N) (src:=src) h.2
   simp[this]
 | [],_::_,h=>Bool.noConfusion h
 | _::_,[],h=>Bool.noConfusion h
theorem Yim{XN:List Str}{sc:Scope}:∀{N:List Str} {src:List (Option Nat)},capB XN sc N src=true->∀(i j:Nat) (x:Str),N[i]?=some x->src[i]?=some (some j)->XN[j]?=some x/\sc.names.lookup x=some NameKind.free
 | [],[],_,i,j,x,h,_=>by simp at h
 | _::N,none::src,h,i,j,x,h1,h2=>by
   cases i with
   | zero=>simp at h2
   | succ i=>exact Yim (N:=N) (src:=src) h i j x (by simpa using h1) (by simpa using h2)
 | y::N,some k::src,h,i,j,x,h1,h2=>by
   replace h:(decide (XN[k]?=some y)&&decide (sc.names.lookup y=some NameKind.free)&&capB XN sc N src)=true:=h
   simp only[Qb,decide_eq_true_eq]at h
   cases i with
   | zero=>
     simp at h1 h2
     subst h1;subst h2
     exact h.1
   | succ i=>exact Yim (N:=N) (src:=src) h.2 i j x (by simpa using h1) (by simpa using h2)
 | [],_::_,h,_,_,_,_,_=>Bool.noConfusion h
 | _::_,[],h,_,_,_,_,_=>Bool.noConfusion h
def Yvp(XN:List Str)(xsc:Scope)(N:List Str)(src:List (Option Nat))(sc:Scope):Bool:=
 decide (sc.kind=.function)&&decide (xsc.kind=.function)&&sc.names.all (fun y=>decide (y.2=NameKind.cell->sc.names.lookup y.1=some NameKind.cell))&&sc.names.all (fun y=>decide (y.2=NameKind.local->sc.names.lookup y.1=some NameKind.local))&&
  decide N.Nodup&&capB XN sc N src&&sc.names.all (fun y=>decide (y.2=NameKind.free->xsc.names.lookup y.1=some NameKind.cell\/xsc.names.lookup y.1=some NameKind.free))
theorem Ya6{XN:List Str}{xsc:Scope}{N:List Str}{src:List (Option Nat)}{sc:Scope}(h:Yvp XN xsc N src sc=true):CompSc XN xsc N src sc:=by
 unfold Yvp at h
 simp only[Qb,decide_eq_true_eq,List.all_eq_true]at h
 obtain⟨⟨⟨⟨⟨⟨h1,h2⟩,h3⟩,h4⟩,h5⟩,h6⟩,h7⟩:=h
 exact⟨h1,h2,h3,h4,Yil h6,h5,Yim h6,h7⟩
abbrev Yv(X:Cx)(scope:Scope)(N:List Str)(cl:List (Str × Addr))(C:Addr)(fp:List Addr)(s:Shared)(H:Hp):Cx where
 prog:=X.prog
 w:=X.w
 K:=X.K
 mg:=X.mg
 base:=X.base
 A:=X.A
 N:=N
 s₀:=s
 H₀:=H
 env:=compEnvC scope cl C X.env
 outer:=X.stack
 stack:=X.stack
 ex:=fp
 fn:=fun x=>scope.names.lookup x==some NameKind.cell
 calm:=X.calm
 pn:=[]
 xe:=fun _ _=>False
def capσ(src:List (Option Nat))(σ:St):St:=src.map fun o=>o.bind fun j=>(σ[j]?).join
def PIfs(X:Cx)(ifs:List Expr)(t:TT):Prop:=
 ∀(pins:List (Addr × Obj)) (s:Shared) (σ:St) (H:Hp) (Q:Bool->Hp->Prop),Inv X pins σ H s->t σ H Q->
  wpAny (model X.prog X.w) X.A (forIn ifs true fun c r=>if r=true then do let ok <-isTrue c X.env (eval c X.env);pure (ForInStep.yield ok)else pure (ForInStep.yield r)) (TP X pins σ Q) X.xe s
def tYes:TT:=fun _ H Q=>Q true H
theorem Ysy{X:Cx}:PIfs X [] tYes:=fun _ _ _ H _ I h=>wpAny_tests_nil ⟨H,I,h⟩
def tLC(wi:TI)(src:List (Option Nat))(g:TG)(ti:TT)(te:TE):TE:=fun σ H Q=>wi σ H fun J H1=>∀p,H1 p=none->
 ∃W:Nat->Nat->St->Hp->Prop,(∃m,W 0 m (capσ src σ) (upd H1 p (.lst [])))/\∀i m σ1 H2,W i m σ1 H2->
  (J.stop i H2/\Q (.ref p) H2)\/
  (J.go i H2/\∀x H3,J.yld i H2 x H3->g x σ1 H3 fun σ4 H4=>ti σ4 H4 fun b H5=>if b=true then te σ4 H5 fun v H6=>∃xs,H6 p=some (.lst xs)/\xs.length < sizeLine/\∃m',m' < m/\W (i+1) m' σ4 (upd H6 p (.lst (xs++[v])))else ∃m',m' < m/\W (i+1) m' σ4 H5)
section
variable {prog:Program} {w:World} {A:Around} {R:Result->Shared->Prop} {s:Shared} {X:Cx} {elt tg iter:Expr} {ifs:List Expr} {scope:Scope} {pos:Pos} {wi:TI} {g:TG} {ti:TT} {te:TE} {N:List Str} {src:List (Option Nat)}
theorem Ycc{elt target iter:Expr}{ifs:List Expr}{scope:Scope}{pos:Pos}{it acc:Value}{env:Env}(I:Nat->Shared->Prop)
 (turn:∀n s,I n s->wpAny (model prog w) A (pyNext it) (fun r s₁=>match r with
  | none=>R (.ok .next) s₁
  | some v=>wpAny (model prog w) A (letOwnedTupleGo target it v) (fun _ s₁=>wpAny (model prog w) A (assign target env v) (fun _ s₂=>
   wpAny (model prog w) A (forIn ifs true fun c r=>if r=true then do let ok <-isTrue c env (eval c env);pure (ForInStep.yield ok)else pure (ForInStep.yield r)) (fun ok s₃=>
    if ok=true then wpAny (model prog w) A (eval elt env) (fun x s₄=>
     wpAny (model prog w) A (call (.builtin "list.append") [acc,x]) (fun _ s₅=>∃m,m < n/\I m s₅) (notedBy (model prog w) A env fun e s'=>R (.error e) s') s₄) (notedBy (model prog w) A env fun e s'=>R (.error e) s') s₃
    else ∃m,m < n/\I m s₃) (notedBy (model prog w) A env fun e s'=>R (.error e) s') s₂) (notedBy (model prog w) A env fun e s'=>R (.error e) s') s₁) (notedBy (model prog w) A env fun e s'=>R (.error e) s') s₁) (notedBy (model prog w) A env fun e s'=>R (.error e) s') s)
 (n:Nat) (h:I n s) :
 codeAny (model prog w) A (.compLoop (.ListComp elt [⟨target,iter,ifs,0⟩] scope pos) 0 it acc env) R s:=by
 refine codeAny_loop rfl I (fun n s hI=>?_) n h
 show wpAny _ A ((compTurn (.ListComp elt [⟨target,iter,ifs,0⟩] scope pos) 0 it acc env).onRaise (fun x=>do noteFrame x env;theTreesLotGoes x)) _ _ s
 refine wpAny_noted ?_
 rw[compTurn_list]
 refine wpAny_bind (wpAny_standAt (wpAny_bind (wpAny_mono (turn n s hI) (fun r s₁ h₁=>?_) fun _ _ h'=>h')))
 cases r with
 | none=>exact wpAny_pure h₁
 | some v=>
   refine wpAny_bind (wpAny_mono h₁ (fun _ s₁ h₁=>?_) fun _ _ h'=>h')
   refine wpAny_bind (wpAny_mono h₁ (fun _ s₂ h₂=>wpAny_bind (wpAny_mono h₂ (fun ok s₃ h₃=>?_) fun _ _ h'=>h')) fun _ _ h'=>h')
   cases ok with
   | false=>exact wpAny_pure ⟨rfl,h₃⟩
   | true=>
     exact wpAny_bind (wpAny_bind (wpAny_mono h₃ (fun x s₄ h₄=>wpAny_bind (wpAny_mono h₄ (fun _ s₅ h₅=>wpAny_pure (wpAny_pure ⟨rfl,h₅⟩)) fun _ _ h'=>h')) fun _ _ h'=>h'))
theorem Yem{scope:Scope}{env:Env}{x:Str}(h:scope.names.lookup x=some NameKind.free)(hk:env.kindOf x=some NameKind.cell\/env.kindOf x=some NameKind.free) :
 (relabel scope env).names.lookup x=some NameKind.cell\/(relabel scope env).names.lookup x=some NameKind.free:=by
 unfold relabel
 show List.lookup x (scope.names.map _)=_\/List.lookup x (scope.names.map _)=_
 generalize scope.names=l at h
 induction l with
 | nil=>cases h
 | cons p r ih=>
   obtain⟨n,k⟩:=p
   rw[List.lookup_cons]at h
   rw[Qa]
   cases e:(x==n)with
   | true=>
     rw[e]at h
     cases h
     by_cases hc:(NameKind.free==NameKind.free&&env.scope.kind==ScopeKind.function&&env.kindOf n==some NameKind.cell)=true
     ·left;simp only[hc,if_true];rw[List.lookup_cons,e]
     ·right;simp only[hc];rw[if_neg qh,List.lookup_cons,e]
   | false=>
     rw[e]at h
     have q:=ih h
     by_cases hc:(k==NameKind.free&&env.scope.kind==ScopeKind.function&&env.kindOf n==some NameKind.cell)=true
     ·simp only[hc,if_true];rw[List.lookup_cons,e];exact q
     ·simp only[hc];rw[if_neg qh,List.lookup_cons,e];exact q
theorem Ygq{scope:Scope}{env:Env}{x:Str}(h:(relabel scope env).names.lookup x=some NameKind.cell\/(relabel scope env).names.lookup x=some NameKind.free) :
 (x,NameKind.free)∈scope.names\/(x,NameKind.cell)∈scope.names:=by
 unfold relabel at h
 change List.lookup x (scope.names.map _)=_\/List.lookup x (scope.names.map _)=_ at h
 revert h
 generalize scope.names=l
 intro h
 induction l with
 | nil=>rcases h with h | h<;>cases h
 | cons p r ih=>
   obtain⟨n,k⟩:=p
   rw[Qa]at h
   have hr:=fun z=>ih z
   cases e:(x==n)with
   | true=>
     have en:x=n:=by simpa using e
     subst en
     by_cases hk:k=NameKind.free
     ·subst hk;exact .inl qg
     ·have hb:(k==NameKind.free)=false:=by simpa using hk
      simp only[hb,Bool.false_and,Bool.false_eq_true,if_false]at h
      rw[List.lookup_cons,e]at h
      rcases h with h | h
      ·cases h;exact .inr qg
      ·cases h;exact absurd rfl hk
   | false=>
     refine(hr ?_).imp (qf _) (qf _)
     by_cases hk:(k==NameKind.free&&env.scope.kind==ScopeKind.function&&env.kindOf n==some NameKind.cell)=true
     ·simp only[hk,if_true]at h;rw[List.lookup_cons,e]at h;exact h
     ·simp only[hk]at h;rw[if_neg qh,List.lookup_cons,e]at h;exact h
theorem Ybt:∀(names:List (Str × NameKind)) (n:Nat) (acc:List (Str × Addr)),cellsFrom n names acc=cellsFrom n names []++acc
 | [],_,_=>rfl
 | (x,k)::r,n,acc=>by
   unfold cellsFrom
   split
   ·rw[Ybt r (n+1) ((x,n)::acc),Ybt r (n+1) [(x,n)],List.append_assoc];rfl
   ·exact Ybt r n acc
theorem Ycd:∀(names:List (Str × NameKind)) (n:Nat) (x:Str) (c:Addr),(x,c)∈cellsFrom n names []->(x,NameKind.cell)∈names
 | [],_,_,_,h=>(nomatch h)
 | (y,k)::r,n,x,c,h=>by
   unfold cellsFrom at h
   split at h
   ·rename_i hk
    rw[Ybt]at h
    rcases qu h with h | h
    ·exact qf _ (Ycd r _ x c h)
    ·rw[List.mem_singleton]at h
     cases h
     have:k=NameKind.cell:=by simpa using hk
     rw[this];exact qg
   ·exact qf _ (Ycd r n x c h)
theorem Yfh{own cl:List (Str × Addr)}{x:Str}:(own++cl).lookup x=(own.lookup x).or (cl.lookup x):=by
 induction own with
 | nil=>rfl
 | cons p r ih=>
   obtain⟨y,b⟩:=p
   rw[List.cons_append,List.lookup_cons,List.lookup_cons]
   cases (x==y)with
   | true=>rfl
   | false=>exact ih
theorem Ya4{own cl:List (Str × Addr)}{x:Str}{c:Addr}(h:(own++cl).lookup x=some c):own.lookup x=some c\/(own.lookup x=none/\cl.lookup x=some c):=by
 rw[Yfh]at h
 cases e:own.lookup x with
 | none=>rw[e]at h;exact .inr ⟨rfl,h⟩
 | some d=>rw[e]at h;exact .inl h
theorem Ygr{M:Model}{A:Around}{E:Value->Shared->Prop}{scope:Scope}{globals:Addr}{cl:List (Str × Addr)}{qual:Str}{outer:Env}{Q:Env->Shared->Prop}{s:Shared}{bt:Addr}
 (h:Q (newEnv scope s.heap.objs.size globals (cellsFrom (s.heap.objs.size+1) scope.names []++cl) qual none .none (some outer) bt) { s with heap:=pushCells (s.heap.push { cls:=.type "dict",data:=.dict #[] }) scope.names }) :
 wpAny M A (newFunctionEnv scope globals cl [] qual none .none (some outer) bt) Q E s:=by
 simp only[newFunctionEnv,Option.isSome_some,if_true]
 refine wpAny_bind (wpAny_alloc ?_)
 refine wpAny_bind (wpAny_layCells _ (fun name kind cells=>by cases hkc:kind==NameKind.cell<;>simp[hkc]) _ _ _ _ ?_)
 rw[show({ s with heap:=s.heap.push { cls:=.type "dict",data:=.dict #[] } }:Shared).heap.objs.size=s.heap.objs.size+1 from Heap.size_push ..,Ybt]
 rw[List.forIn_nil]
 exact wpAny_bind (wpAny_pure (wpAny_pure h))
theorem Yhy{pins:List (Addr × Obj)}{σ:St}{H:Hp}{s:Shared}{fp:List Addr}{h₁:Heap}{tk:Nat}{own:List (Str × Addr)}(S:CompSc X.N X.env.scope N src scope)(I:Inv X pins σ H s)(hf:∀b∈fp,FpOk X pins H b)(ho:∀b∈fp,∃o,s.heap.get? b=some o)
 (hn:h₁.Ns s.heap.objs.size fun _=>none) (hk:∀b o,s.heap.get? b=some o->h₁.get? b=some o) (hc:CellsOk h₁ (s.heap.objs.size+1) own) (ow:∀x c,(x,c)∈own->(x,NameKind.cell)∈scope.names) (has:∀x,scope.names.lookup x=some NameKind.cell->∃c,own.lookup x=some c) :
 Inv (Yv X scope N (own++clOf X.env scope.names []) s.heap.objs.size fp s H) [] (capσ src σ) H { s with heap:=h₁,toks:=tk }:=by
 have sub:∀x c,(clOf X.env scope.names []).lookup x=some c->X.env.cells.lookup x=some c:=fun x c e=>Yge scope.names [] (fun _ _ z=>nomatch z) x c (PySem.mem_of_lookup e)
 have clt:∀x c,(clOf X.env scope.names []).lookup x=some c->c < s.heap.objs.size:=fun x c e=>by
  obtain⟨v,q⟩:=I.cell x c (sub x c e)
  exact q.lt
 have owl:∀x c,own.lookup x=some c->s.heap.objs.size < c:=fun x c e=>(hc.empty x c (PySem.mem_of_lookup e)).2
 have nofree:∀x,scope.names.lookup x=some NameKind.free->own.lookup x=none:=fun x hx=>by
  cases e:own.lookup x with
  | none=>rfl
  | some c=>
    have:=S.cellU _ (ow x c (PySem.mem_of_lookup e)) rfl
    rw[hx]at this
    cases this
 have fpl:∀b∈fp,b < s.heap.objs.size:=fun b hb=>by
  obtain⟨o,e⟩:=ho b hb
  exact qk e
 have nfs:∀b∈fp,b∉frs X.stack:=fun b hb z=>by
  rcases qr (I.stkSub b z)with e | e
  ·exact(hf b hb).2.1 e
  ·exact(hf b hb).2.2.1 e
 refine⟨⟨I.ok.mod,S.kind,I.ok.glob,I.ok.blt,qt _,fun x y c h1 h2=>?_,fun x hx=>?_,fun x c z e=>?_,I.ok.hd,I.ok.frames,.inl rfl,fun b hb=>⟨ql (fpl b hb),fun x c e=>?_⟩,
  I.bs,Nat.le_trans I.ok.bsz I.sz,fun b o e hb=>?_,nfs,I.stack,I.stkFree⟩,rfl,I.bare,Un.kept hk,⟨_,hn,fun i x v h1 h2 h3=>?_⟩,fun x c e=>?_,I.fresh,fun x c e=>?_,fun p hp=>(nomatch hp),I.hok.kept hk,?_⟩
 ·rcases Ya4 h1 with h1 | ⟨_,h1⟩
  ·rcases Ya4 h2 with h2 | ⟨_,h2⟩
   ·exact name_of_addr hc.apart (PySem.mem_of_lookup h1) (PySem.mem_of_lookup h2)
   ·exact absurd (Nat.lt_trans (owl x c h1) (clt y c h2)) (Nat.lt_irrefl _)
  ·rcases Ya4 h2 with h2 | ⟨_,h2⟩
   ·exact absurd (Nat.lt_trans (owl y c h2) (clt x c h1)) (Nat.lt_irrefl _)
   ·exact I.ok.inj x y c (sub x c h1) (sub y c h2)
 ·show ∃c,(own++clOf X.env scope.names []).lookup x=some c
  rw[Yfh]
  cases e:own.lookup x with
  | some c=>exact⟨c,rfl⟩
  | none=>
    rcases Ygq hx with hm | hm
    ·obtain⟨c,hc⟩:=I.ok.has x (S.fr _ hm rfl)
     exact Yex (Yew scope.names [] x c hm hc)
    ·obtain⟨c,hc⟩:=has x (S.cellU _ hm rfl)
     rw[e]at hc
     cases hc
 ·have z':scope.names.lookup x=some NameKind.cell:=by simpa using z
  obtain⟨d,hd⟩:=has x z'
  rcases Ya4 e with e | ⟨e,_⟩
  ·exact Nat.le_of_lt (owl x c e)
  ·rw[hd]at e;cases e
 ·rcases Ya4 e with e | ⟨_,e⟩
  ·exact Nat.ne_of_gt (Nat.lt_trans (fpl b hb) (owl x c e))
  ·exact(hf b hb).2.2.2.2.1 x c (sub x c e)
 ·rcases(hf b hb).2.2.2.1 with z | z
  ·exact I.ok.noex b o e z
  ·exact absurd (qx (qk e) (Nat.le_trans I.ok.bsz z)) (Nat.lt_irrefl _)
 ·have hi:i < src.length:=by
   have:=(qm h2).1
   unfold capσ at this
   simpa using this
  have hs:src[i]?=some src[i]:=qp hi
  unfold capσ at h2
  rw[qz,hs]at h2
  have h2':(src[i].bind fun j=>(σ[j]?).join)=some v:=Option.some.inj h2
  cases q:src[i]with
  | none=>rw[q]at h2';cases h2'
  | some j=>
    rw[q]at h2' hs
    have h2'':(σ[j]?).join=some v:=h2'
    obtain⟨hx,hfr⟩:=S.cap i j x h1 hs
    obtain⟨m,_,hl⟩:=I.loc
    have hk2:X.env.kindOf x=some NameKind.cell\/X.env.kindOf x=some NameKind.free:=S.fr (x,NameKind.free) (PySem.mem_of_lookup hfr) rfl
    have hσ:σ[j]?=some (some v):=by
     cases z:σ[j]? with
     | none=>rw[z]at h2'';cases h2''
     | some o=>
       rw[z]at h2''
       have:o=some v:=h2''
       rw[this]
    obtain⟨u,r,l⟩:=hl j x v hx hσ (.inr hk2)
    refine⟨u,r,.inr ⟨Yem hfr hk2,?_⟩⟩
    rcases l with⟨z,_⟩ | ⟨_,c,hc,hcell⟩
    ·rcases hk2 with q2 | q2
     ·rw[q2]at z;cases z
     ·rw[q2]at z;cases z
    ·obtain⟨d,hd⟩:=Yex (Yew (env:=X.env) scope.names [] x c (PySem.mem_of_lookup hfr) hc)
     have e2:=sub x d hd
     rw[hc]at e2
     cases e2
     refine⟨c,?_,hcell.keeps hk⟩
     show(own++clOf X.env scope.names []).lookup x=some c
     rw[Yfh,nofree x hfr]
     exact hd
 ·rcases Ya4 e with e | ⟨_,e⟩
  ·exact⟨_,(hc.empty x c (PySem.mem_of_lookup e)).1⟩
  ·obtain⟨v,q⟩:=I.cell x c (sub x c e)
   exact⟨v,q.keeps hk⟩
 ·rcases Ya4 e with e | ⟨_,e⟩
  ·exact I.hok.fresh (Nat.le_of_lt (owl x c e))
  ·exact I.freeC x c (sub x c e)
 ·unfold capσ
  rw[qe]
  exact S.len
theorem Yin{pins:List (Addr × Obj)}{σ σ1:St}{H H':Hp}{s s':Shared}{fp:List Addr}{cl:List (Str × Addr)}{C:Addr}{pn:List (Addr × Obj)}(I:Inv X pins σ H s)(hf:∀b∈fp,FpOk X pins H b)(J:Inv (Yv X scope N cl C fp s H) pn σ1 H' s'):Inv X pins σ H' s':=
 I.call' J.os J.base J.hok J.bare fun b hb=>⟨(hf b hb).2.2.2.1,(hf b hb).2.1,(hf b hb).2.2.2.2.1,(hf b hb).2.2.2.2.2⟩
theorem Yjz{pins:List (Addr × Obj)}{σ:St}{H:Hp}{s:Shared}{Q:VK}{it:Addr}{fp:List Addr}{tn:Nat->Heap->Prop}{J:It}{R:Value->Addr->Result->Shared->Prop}{E:Value->Shared->Prop}
 (S:CompSc X.N X.env.scope N src scope) (hc:X.calm=true) (hg:∀cl C fp s H,PG (Yv X scope N cl C fp s H) tg g) (hi:∀cl C fp s H,PIfs (Yv X scope N cl C fp s H) ifs ti) (he:∀cl C fp s H,PE (Yv X scope N cl C fp s H) elt te)
 (I:Inv X pins σ H s) (T:Turn X.prog X.w X.K tg J fp it tn) (st:tn 0 s.heap) (hf:∀b∈fp,FpOk X pins H b)
 (h:∀p,H p=none->∃W:Nat->Nat->St->Hp->Prop,(∃m,W 0 m (capσ src σ) (upd H p (.lst [])))/\∀i m σ1 H2,W i m σ1 H2->
  (J.stop i H2/\Q (.ref p) H2)\/
  (J.go i H2/\∀x H3,J.yld i H2 x H3->g x σ1 H3 fun σ4 H4=>ti σ4 H4 fun b H5=>if b=true then te σ4 H5 fun v H6=>∃xs,H6 p=some (.lst xs)/\xs.length < sizeLine/\∃m',m' < m/\W (i+1) m' σ4 (upd H6 p (.lst (xs++[v])))else ∃m',m' < m/\W (i+1) m' σ4 H5))
 (hR:∀(D C:Addr) (s':Shared) (H':Hp) (m:Str->Option Value),Inv X pins σ H' s'->s'.heap.Ns C m->H' C=none->C≠X.env.locals->X.s₀.heap.objs.size<=C->(∀x c,X.env.cells.lookup x=some c->c≠C)->(∀p∈X.pn++pins,p.1≠C)->Q (.ref D) H'->R (.ref D) C (.ok .next) s') :
 wpAny (model X.prog X.w) X.A (newList []) (fun acc s₃=>wpAny (model X.prog X.w) X.A (newFunctionEnv scope X.env.globals (clOf X.env scope.names []) [] X.env.qual none .none (some X.env)) (fun cenv s₄=>
  codeAny (model X.prog X.w) X.A (.compStart (.ListComp elt [⟨tg,iter,ifs,0⟩] scope pos) 0 (.ref it) acc { cenv with scope:=relabel scope X.env }) (R acc cenv.locals) s₄) E s₃) E s:=by
 refine wpAny_newObj_type (Ygr ?_)
 have hfree:H s.heap.objs.size=none:=I.fresh
 obtain⟨W,⟨m0,w0⟩,turn⟩:=h s.heap.objs.size hfree
 have I3:Inv X pins σ (upd H s.heap.objs.size (.lst [])) { s with heap:=s.heap.push { cls:=.type "list",dict:=none,data:=.seq ([]:List Value).toArray },toks:=s.toks }:=I.lnew (ys:=[]) (its:=[]) .nil (Nat.zero_le _)
 generalize hD:s.heap.objs.size=Dd at *
 generalize hH3:upd H Dd (.lst [])=H3 at *
 have kp0:∀b o,s.heap.get? b=some o->(s.heap.push { cls:=.type "list",dict:=none,data:=.seq ([]:List Value).toArray }).get? b=some o:=fun b o e=>qd _ e
 have lt0:∀b o,s.heap.get? b=some o->b≠Dd:=fun b o e=>by rw[<-hD];exact ql (qk e)
 generalize hs3:s.heap.push { cls:=.type "list",dict:=none,data:=.seq ([]:List Value).toArray }=hp3 at *
 have f3:∀b∈fp,FpOk X pins H3 b:=fun b hb=>by
  obtain⟨o,e,_⟩:=T.obj _ _ st b hb
  refine⟨?_,(hf b hb).2⟩
  rw[<-hH3,Yaa (lt0 b o e)]
  exact(hf b hb).1
 have ob3:∀b∈fp,∃o,hp3.get? b=some o:=fun b hb=>by
  obtain⟨o,e,_⟩:=T.obj _ _ st b hb
  exact⟨o,kp0 b o e⟩
 dsimp only
 have hns₁:(pushCells (hp3.push { cls:=.type "dict",data:=.dict #[] }) scope.names).Ns hp3.objs.size (fun _=>none):=(Heap.Ns.new hp3 (.type "dict")).keeps (pushCells_keeps _ _)
 have old:∀b o,hp3.get? b=some o->(pushCells (hp3.push { cls:=.type "dict",data:=.dict #[] }) scope.names).get? b=some o:=fun b o e=>pushCells_keeps _ _ b o (qd _ e)
 have cok:=cellsFrom_ok scope.names (hp3.push { cls:=.type "dict",data:=.dict #[] }) (hp3.objs.size+1) [] ⟨fun _ _ hm=>(nomatch hm),List.Pairwise.nil⟩ (by rw[Heap.size_push];exact qt _)
 rw[Heap.size_push]at cok
 have chas:∀x,scope.names.lookup x=some NameKind.cell->∃c,(cellsFrom (hp3.objs.size+1) scope.names []).lookup x=some c:=fun x hx=>Option.isSome_iff_exists.mp (PySem.W.cellsFrom_some _ _ _ (.inl hx))
 have cmem:∀x c,(x,c)∈cellsFrom (hp3.objs.size+1) scope.names []->(x,NameKind.cell)∈scope.names:=fun x c h=>Ycd _ _ x c h
 generalize cellsFrom (hp3.objs.size+1) scope.names []=own at *
 generalize pushCells (hp3.push { cls:=.type "dict",data:=.dict #[] }) scope.names=h₁ at *
 have I4:Inv (Yv X scope N (own++clOf X.env scope.names []) hp3.objs.size fp { s with heap:=hp3,toks:=s.toks } H3) [] (capσ src σ) H3 { s with heap:=h₁,toks:=s.toks }:=
  Yhy (s:={ s with heap:=hp3,toks:=s.toks }) (tk:=s.toks) S I3 f3 ob3 hns₁ old cok cmem chas
 have st4:tn 0 h₁:=T.keep _ _ _ st fun b _ o e=>old b o (kp0 b o e)
 have hCl:hp3.objs.size≠X.env.locals:=Nat.ne_of_gt I3.lt
 have hCc:∀x c,X.env.cells.lookup x=some c->c≠hp3.objs.size:=fun x c e=>by
  obtain⟨v,q⟩:=I3.cell x c e
  exact ql q.lt
 have hCp:∀p∈X.pn++pins,p.1≠hp3.objs.size:=fun p hp=>ql (qk (I3.pin p hp).1)
 have stat:∀{H':Hp},(∀b∈fp,H' b=none)->∀b∈fp,FpOk (Yv X scope N (own++clOf X.env scope.names []) hp3.objs.size fp { s with heap:=hp3,toks:=s.toks } H3) [] H' b:=fun {H'} hn b hb=>by
  obtain⟨e1,e2⟩:=I4.ok.exf b hb
  exact⟨hn b hb,e1,I4.ok.exfs b hb,.inl hb,e2,fun p hp=>nomatch hp⟩
 have loop:codeAny (model X.prog X.w) X.A (.compLoop (.ListComp elt [⟨tg,iter,ifs,0⟩] scope pos) 0 (.ref it) (.ref Dd) (compEnvC scope (own++clOf X.env scope.names []) hp3.objs.size X.env)) (R (.ref Dd) hp3.objs.size) { s with heap:=h₁,toks:=s.toks }:=by
  refine Ycc (fun n s'=>∃i σ' H',Inv (Yv X scope N (own++clOf X.env scope.names []) hp3.objs.size fp { s with heap:=hp3,toks:=s.toks } H3) [] σ' H' s'/\tn i s'.heap/\(∀b∈fp,H' b=none)/\W i n σ' H') ?_ m0 ⟨0,_,H3,I4,st4,fun b hb=>(f3 b hb).1,w0⟩
  rintro n s3 ⟨i,σ3,H3',I3',st3,fr3,w3⟩
  rcases turn i n σ3 H3' w3 with⟨stop,qn⟩ | ⟨go,step⟩
  ·refine thn (T.done (Yv X scope N (own++clOf X.env scope.names []) hp3.objs.size fp { s with heap:=hp3,toks:=s.toks } H3) rfl rfl rfl hc i [] s3 σ3 H3' _ I3' (stat fr3) st3 stop) fun r s4 hx_=>?_
   obtain⟨hr,I5⟩:=hx_
   subst hr
   obtain⟨m,hm,_⟩:=I5.loc
   exact hR Dd hp3.objs.size s4 H3' m (Yin I3 f3 I5) hm I5.free hCl (Nat.le_trans I3.sz (qt _)) hCc hCp qn
  ·refine thn (T.item (Yv X scope N (own++clOf X.env scope.names []) hp3.objs.size fp { s with heap:=hp3,toks:=s.toks } H3) rfl rfl rfl hc i [] s3 σ3 H3' _ I3' (stat fr3) st3 go) fun r s4 hx_=>?_
   obtain⟨u,hr,h4⟩:=hx_
   subst hr
   refine thn h4 fun _ s5 hx_=>?_
   obtain⟨x,H5,I5,r5,y5,st5,fr5⟩:=hx_
   have I5':=I5.pinned (stat fr5) (T.obj _ _ st5)
   have un:∀{α:Type} {t:Sem α} {Q':α->Shared->Prop} {E':Value->Shared->Prop} {s':Shared},wpAny (model X.prog X.w) X.A t Q' (fun _ _=>False) s'->wpAny (model X.prog X.w) X.A t Q' E' s':=fun h=>wpAny_mono h (fun _ _ q=>q) fun _ _ f=>f.elim
   refine un (thn (hg _ _ _ _ _ _ s5 σ3 H5 x u _ I5' r5 (step x H5 y5)) fun _ s6 hx_=>?_)
   obtain⟨σ6,H6,I6,q6⟩:=hx_
   refine un (thn (hi _ _ _ _ _ _ s6 σ6 H6 _ I6 q6) fun ok s7 hx_=>?_)
   obtain⟨H7,I7,q7⟩:=hx_
   have again:∀{H8:Hp} {s8:Shared} {m':Nat},m' < n->Inv (Yv X scope N (own++clOf X.env scope.names []) hp3.objs.size fp { s with heap:=hp3,toks:=s.toks } H3) ([]++Ygm fp s5.heap) σ6 H8 s8->W (i+1) m' σ6 H8->
    ∃m,m < n/\∃i σ' H',Inv (Yv X scope N (own++clOf X.env scope.names []) hp3.objs.size fp { s with heap:=hp3,toks:=s.toks } H3) [] σ' H' s8/\tn i s8.heap/\(∀b∈fp,H' b=none)/\W i m σ' H':=fun {H8 s8 m'} hm I8 w8=>by
    refine⟨m',hm,i+1,σ6,H8,I8.unpinned,T.keep _ _ _ st5 fun b hb o e=>(I8.pin (b,o) (Qc _ (Qc _ (Ych hb e)))).1,fun b hb=>?_,w8⟩
    obtain⟨o,e,d⟩:=T.obj _ _ st5 b hb
    exact(I8.pin (b,o) (Qc _ (Qc _ (Ych hb e)))).2.1
   cases ok with
   | false=>
     rw[if_neg qh]at q7 ⊢
     obtain⟨m',hm,w7⟩:=q7
     exact again hm I7 w7
   | true=>
     rw[if_pos rfl]at q7 ⊢
     refine un (thn (he _ _ _ _ _ _ s7 σ6 H7 _ I7 q7) fun y s8 hx_=>?_)
     obtain⟨v,H8,I8,r8,q8⟩:=hx_
     obtain⟨xs,e8,z8,m',hm,w8⟩:=q8
     refine un (thn (Ygn _ s8 σ6 H8 (.ref Dd) [v] (.ref Dd) [y] (fun _ H9=>H9=upd H8 Dd (.lst (xs++[v]))) I8 rfl (.cons r8 .nil) ⟨Dd,xs,v,rfl,rfl,e8,z8,rfl⟩) fun _ s9 hx_=>?_)
     obtain⟨_,H9,I9,_,q9⟩:=hx_
     subst q9
     exact again hm I9 w8
 exact codeAny_compStart_list loop (T.self _ _ _ _ _ st4 loop)
theorem Ysz(S:CompSc X.N X.env.scope N src scope)(hc:X.calm=true)(hit:PI X tg iter wi)(hg:∀cl C fp s H,PG (Yv X scope N cl C fp s H) tg g)(hi:∀cl C fp s H,PIfs (Yv X scope N cl C fp s H) ifs ti)(he:∀cl C fp s H,PE (Yv X scope N cl C fp s H) elt te)
 (hs:∀x,foldedSetIterable iter X.env x=pure x:=by intro _;rfl):PE X (.ListComp elt [⟨tg,iter,ifs,0⟩] scope pos) (tLC wi src g ti te):=by
 intro pins s σ H Q I h
 rw[eval_ListComp]
 have hcl:closureFor scope X.env=pure (clOf X.env scope.names []):=Ybs fun y hy hf=>I.ok.has y.1 (S.fr y hy hf)
 refine wpAny_comprehension_free (use:=none) rfl hs hcl S.kind S.names ?_
 refine thn (hit pins s σ H _ I h) fun v s1 h1=>thn h1 fun itv s2 hx_=>?_
 obtain⟨it,fp,tn,J,H2,e,I2,T,st2,f2,q⟩:=hx_
 subst e
 refine Yjz (Q:=Q) (R:=fun acc C=>compPost (model X.prog X.w) X.A X.xe none (EP X pins σ Q) acc C) S hc hg hi he I2 T st2 f2 q fun D C s' H' m I' hm hC hCl hCs hCc hCp hq=>?_
 refine⟨m,hm,fun h' sb=>?_⟩
 exact⟨.ref D,H',I'.turned (t':=s'.toks) (fun b o hb e=>(sb.2 b hb).trans e) hC hCl (.inr hCs) hCc hCp,rfl,hq⟩
theorem Ys0{i:Nat}{y:Str}{py spos:Pos}(S:CompSc X.N X.env.scope N src scope)(hc:X.calm=true)(hit:PI X tg iter wi)(hg:∀cl C fp s H,PG (Yv X scope N cl C fp s H) tg g)(hi:∀cl C fp s H,PIfs (Yv X scope N cl C fp s H) ifs ti)(he:∀cl C fp s H,PE (Yv X scope N cl C fp s H) elt te)
 (hN:X.N.Nodup) (hy:X.N[i]?=some y) (hx:Loc X.env.scope y) (hsw:swapsWith (.ListComp elt [⟨tg,iter,ifs,0⟩] scope pos) (some (.Name y py)) spos.line X.env=pure true)
 (hf:X.fn y=true\/X.env.scope.names.lookup y=some .local:=by first | exact .inl rfl | exact .inr rfl | assumption)
 (hs:∀x,foldedSetIterable iter X.env x=pure x:=by intro _;rfl):PS X (.Assign [.Name y py] (.ListComp elt [⟨tg,iter,ifs,0⟩] scope pos) spos) (tAsg (tLC wi src g ti te) (Yjq i)):=by
 intro pins s σ H D I h
 rw[exec_Assign_Name_used _ _ _ _ hsw]
 refine wpAny_bind (wpAny_standAt (wpAny_bind ?_))
 show wpAny _ X.A (do let _ <-comprehension (.ListComp elt [⟨tg,iter,ifs,0⟩] scope pos) scope X.env _ (newList []) false (eval iter X.env) (some (assign (.Name y py) X.env))) _ _ s
 have hcl:closureFor scope X.env=pure (clOf X.env scope.names []):=Ybs fun y hy hf=>I.ok.has y.1 (S.fr y hy hf)
 refine wpAny_bind (wpAny_mono (wpAny_comprehension_free (use:=some (assign (.Name y py) X.env)) (Q:=fun _ s'=>SP X pins D .next s') rfl hs hcl S.kind S.names ?_) (fun _ s' hq=>wpAny_pure (wpAny_pure hq)) fun _ _ e=>e)
 refine thn (hit pins s σ H _ I h) fun v s1 h1=>thn h1 fun itv s2 hx_=>?_
 obtain⟨it,fp,tn,J,H2,e,I2,T,st2,f2,q⟩:=hx_
 subst e
 refine Yjz (Q:=fun x H1=>Yjq i x σ H1 D.nx) (R:=fun acc C=>compPost (model X.prog X.w) X.A X.xe (some (assign (.Name y py) X.env)) (fun _ s'=>SP X pins D .next s') acc C) S hc hg hi he I2 T st2 f2 q fun Dd C s' H' m I' hm hC hCl hCs hCc hCp hq=>?_
 show wpAny _ X.A (assign (.Name y py) X.env (.ref Dd)) _ _ s'
 refine wpAny_assign_Name (Ygl I' hN hy hx (v:=.ref Dd) rfl (fun s'' I'' hsb=>?_) hf)
 obtain⟨a,sb,ha⟩:=hsb
 have hCa:C≠a:=by
  rcases ha with e | e
  ·rw[e];exact hCl
  ·exact Ne.symm (hCc y a e)
 refine⟨m,hm.sameBut sb hCa,fun h' sb'=>?_⟩
 exact⟨_,H',I''.turned (t':=s''.toks) (fun b o hb e=>(sb'.2 b hb).trans e) hC hCl (.inr hCs) hCc hCp,hq⟩
end
end L2
namespace M
open PySem PySem.Spec PyProof.Rows L2
section
section
def Rise(xs:Array Nat):Prop:=xs.toList.Pairwise (· < ·)
theorem Yio{xs:Array Nat}(hr:Rise xs)(j:Nat):∀(fuel lo hi:Nat),lo<=hi->hi<=xs.size->hi - lo<=fuel->
 (∀(i:Nat) (h:i < xs.size),i < lo->xs[i] < j)->(∀(i:Nat) (h:i < xs.size),hi<=i->j<=xs[i])->
 SetTable.below.go xs j fuel lo hi<=xs.size/\(∀(i:Nat) (h:i < xs.size),i < SetTable.below.go xs j fuel lo hi->xs[i] < j)/\(∀(i:Nat) (h:i < xs.size),SetTable.below.go xs j fuel lo hi<=i->j<=xs[i])
 | 0,lo,hi,h1,h2,h3,h4,h5=>by
   have e:lo=hi:=by lia
   subst e
   rw[SetTable.below.go]
   exact⟨h2,h4,h5⟩
 | fuel+1,lo,hi,h1,h2,h3,h4,h5=>by
   have mono:∀(i k:Nat) (hi:i < xs.size) (hk:k < xs.size),i < k->xs[i] < xs[k]:=fun i k hi hk h=>by
    have:=List.pairwise_iff_getElem.mp hr i k (by simpa using hi) (by simpa using hk) h
    simpa using this
   rw[SetTable.below.go]
   by_cases hl:lo < hi
   ·rw[if_pos hl]
    have hm:(lo+hi) / 2 < xs.size:=by lia
    have hg:xs.getD ((lo+hi) / 2) j=xs[(lo+hi) / 2]:=by simp[Array.getD,hm]
    dsimp only
    rw[hg]
    by_cases hlt:xs[(lo+hi) / 2] < j
    ·rw[if_pos hlt]
     refine Yio hr j fuel _ _ (by lia) h2 (by lia) (fun i hi' hh=>?_) h5
     by_cases e:i=(lo+hi) / 2
     ·subst e;exact hlt
     ·exact Nat.lt_trans (mono i _ hi' hm (by lia)) hlt
    ·rw[if_neg hlt]
     refine Yio hr j fuel _ _ (by lia) (by lia) (by lia) h4 (fun i hi' hh=>?_)
     by_cases e:i=(lo+hi) / 2
     ·subst e;lia
     ·have:=mono _ i hm hi' (by lia)
      lia
   ·rw[if_neg hl]
    have e:lo=hi:=by lia
    subst e
    exact⟨h2,h4,h5⟩
theorem Ymw{xs:Array Nat}(hr:Rise xs)(j:Nat):SetTable.below xs j<=xs.size/\(∀a∈xs.toList.take (SetTable.below xs j),a < j)/\(∀a∈xs.toList.drop (SetTable.below xs j),j<=a):=by
 obtain⟨h1,h2,h3⟩:=Yio hr j xs.size 0 xs.size (Nat.zero_le _) (qt _) (by lia) (fun i _ h=>absurd h (Nat.not_lt_zero _)) (fun i h h'=>absurd h (by lia))
 have e:SetTable.below xs j=SetTable.below.go xs j xs.size 0 xs.size:=rfl
 rw[e]
 refine⟨h1,fun a ha=>?_,fun a ha=>?_⟩
 ·obtain⟨i,hi,rfl⟩:=List.mem_iff_getElem.mp ha
  rw[List.length_take]at hi
  have hi':i < xs.size:=by have:xs.toList.length=xs.size:=by simp
                           lia
  rw[List.getElem_take,Array.getElem_toList]
  exact h2 i hi' (by lia)
 ·obtain⟨i,hi,rfl⟩:=List.mem_iff_getElem.mp ha
  rw[List.length_drop]at hi
  have hs:xs.toList.length=xs.size:=by simp
  rw[List.getElem_drop,Array.getElem_toList]
  exact h3 _ (by lia) (by lia)
theorem Ya2{α:Type}(xs:Array α)(p:Nat)(x:α):(SetTable.insertAt xs p x).toList=xs.toList.take p++x::xs.toList.drop p:=by
 unfold SetTable.insertAt
 simp[Array.toList_extract,List.extract_eq_drop_take]
 exact List.take_of_length_le (by simp)
theorem Ygs{xs:Array Nat}(hr:Rise xs)(j:Nat)(hn:xs[SetTable.below xs j]?≠some j):Rise (SetTable.insertAt xs (SetTable.below xs j) j):=by
 obtain⟨h1,h2,h3⟩:=Ymw hr j
 unfold Rise at hr ⊢
 rw[Ya2]
 generalize hp:SetTable.below xs j=p at h1 h2 h3 hn ⊢
 rw[<-Array.getElem?_toList]at hn
 generalize xs.toList=l at hr h2 h3 hn ⊢
 have hr2:=hr
 rw[<-List.take_append_drop p l,List.pairwise_append]at hr
 obtain⟨r1,r2,r3⟩:=hr
 have hgt:∀a∈l.drop p,j < a:=by
  cases hd:l.drop p with
  | nil=>intro a ha;cases ha
  | cons b r=>
    rw[hd]at r2 h3
    have hb:l[p]?=some b:=by
     have:(l.drop p)[0]?=some b:=by rw[hd];rfl
     rwa [List.getElem?_drop,Nat.add_zero]at this
    have hjb:j < b:=Nat.lt_of_le_of_ne (h3 b qg) (fun z=>hn (by rw[hb,z]))
    intro a ha
    rcases qr ha with rfl | ha
    ·exact hjb
    ·exact Nat.lt_trans hjb ((List.pairwise_cons.mp r2).1 a ha)
 rw[List.pairwise_append]
 refine⟨r1,List.pairwise_cons.mpr ⟨hgt,r2⟩,fun a ha b hb=>?_⟩
 rcases qr hb with rfl | hb
 ·exact h2 a ha
 ·exact Nat.lt_trans (h2 a ha) (hgt b hb)
theorem Yj0{t:SetTable}{j:Nat}(h:∀i,t.slot j≠.live i):t.place[SetTable.below t.place j]?≠some j:=fun z=>by
 refine h (SetTable.below t.place j) ?_
 unfold SetTable.slot
 dsimp only
 rw[z]
 simp
theorem Yfi{t:SetTable}{ha:Nat->Int}{h:Int}:∀(fuel:Nat) (p:SetTable.Probe) {j:Nat} {d:Option Nat},(∀x,p.dummy=some x->∀i,t.slot x≠.live i)->
 SetTable.probe.go t ha h fuel p=some (.empty j d)->∀i,t.slot (d.getD j)≠.live i
 | 0,p,j,d,_,e=>by rw[SetTable.probe.go]at e;cases e
 | fuel+1,p,j,d,hd,e=>by
   rw[SetTable.probe.go]at e
   split at e
   ·rename_i hs
    cases e
    intro i
    cases hp:p.dummy with
    | none=>rw[Option.getD_none,hs];exact fun z=>nomatch z
    | some x=>exact hd x hp i
   ·rename_i hs
    refine Yfi fuel _ (fun x hx i=>?_) e
    have hx':x=p.j:=by
     unfold SetTable.advance at hx
     split at hx
     ·exact(Option.some.inj hx).symm
     ·exact(Option.some.inj hx).symm
    rw[hx',hs]
    exact fun z=>nomatch z
   ·split at e
    ·cases e
    ·refine Yfi fuel _ (fun x hx i=>hd x ?_ i) e
     unfold SetTable.advance at hx
     split at hx
     ·exact hx
     ·exact hx
def Tab(bt:Bool)(t:SetTable):Prop:=(bt=false->t.led=true)/\(t.plain=true->Rise t.place)
theorem Tab.standIn{bt:Bool}{t:SetTable}(h:Tab bt t)(n:Nat):Tab bt (t.standIn n):=⟨h.1,fun z=>nomatch z⟩
theorem Tab.off{bt:Bool}{t:SetTable}(h:Tab bt t):Tab bt { t with plain:=false }:=⟨h.1,fun z=>nomatch z⟩
theorem Tab.fresh{bt:Bool}:Tab bt (.fresh 0 0 (!bt)):=⟨fun h=>by subst h;rfl,fun _=>.nil⟩
theorem Tab.layNew{bt:Bool}{t:SetTable}(h:Tab bt t)(es:Array (Int × Value))(hh:Int)(x:Value):Tab bt (PySem.layNew t es hh x).2.1:=by
 unfold PySem.layNew
 split
 ·rename_i slot wd hf
  dsimp only
  unfold SetTable.orStandIn
  split
  ·refine⟨h.1,fun z=>?_⟩
   refine Ygs (h.2 z) slot (Yj0 ?_)
   unfold SetTable.freeSlot at hf
   split at hf
   ·rename_i j dummy hp
    cases hf
    exact Yfi _ _ (fun x hx=>by simp[SetTable.probeStart]at hx) hp
   ·cases hf
  ·exact⟨h.1,fun z=>nomatch z⟩
 ·exact h.standIn _
theorem Ynt{mask finger moves:Nat}{led plain:Bool}{hs:Array Int}{t:SetTable}{o:Array Nat}(h:SetTable.laid mask finger moves led plain hs=some (t,o)):Rise t.place/\t.led=led/\t.plain=plain:=by
 unfold SetTable.laid at h
 obtain⟨owner,_,h⟩:=qa h
 cases h
 refine⟨?_,rfl,rfl⟩
 unfold Rise
 show(((List.range (mask+1)).filterMap fun j=>(owner.getD j none).map (j,·)).map (·.1)).Pairwise (· < ·)
 rw[List.map_filterMap]
 refine List.Pairwise.filterMap _ (fun a b hab x hx y hy=>?_) List.pairwise_lt_range
 simp at hx hy
 obtain⟨_,_,rfl⟩:=hx
 obtain⟨_,_,rfl⟩:=hy
 exact hab
theorem Tab.relayAll{bt:Bool}{t:SetTable}(h:Tab bt t)(es:Array (Int × Value))(n:Nat):Tab bt (PySem.relayAll t es n).2.1:=by
 unfold PySem.relayAll
 split
 ·rename_i t' order hr
  obtain⟨h1,h2,h3⟩:=Ynt hr
  dsimp only
  split
  ·exact⟨fun z=>by rw[h2];exact h.1 z,fun _=>h1⟩
  ·exact h.standIn _
 ·exact h.standIn _
end
end
section
section
variable {prog:Program} {w:World} {A:Around} {E:Value->Shared->Prop} {s:Shared}
def kOf(e:Int × Value):Int:=match e.2 with
 | .int n _=>n
 | _=>0
abbrev byT(w:World):Bool:=w.params.followText "set-order"
def SetI(prog:Program)(w:World)(h:Heap)(a:Addr)(ns:List Int):Prop:=
 ∃o es ep t,h.get? a=some o/\o.ExactSet/\o.data=.set es ep t/\ElemsOf (intKind prog w) es.toList/\es.toList.map kOf=ns/\ns.Nodup/\es.size < scanBound/\t.fits es.size=true/\Tab (byT w) t
theorem Yry{k:Int}{e:Int × Value}(h:(intKind prog w).is k e.2=true):kOf e=k:=by
 obtain⟨t,ht⟩:=Value.isInt_shape h
 unfold kOf
 rw[ht]
theorem Yqg{es:List (Int × Value)}(h:ElemsOf (intKind prog w) es){e:Int × Value}(he:e∈es):∃t,e=(hashInt (kOf e),.int (kOf e) t):=by
 obtain⟨⟨k,hk,hh⟩,_⟩:=h e he
 have hk':=Yry hk
 obtain⟨t,ht⟩:=Value.isInt_shape hk
 refine⟨t,?_⟩
 rw[hk']
 exact Prod.ext hh ht
theorem SetI.at{h h':Heap}{a:Addr}{ns:List Int}(x:SetI prog w h a ns)(e:∀o,h.get? a=some o->h'.get? a=some o):SetI prog w h' a ns:=
 let ⟨o,es,ep,t,ho,r⟩:=x
 ⟨o,es,ep,t,e o ho,r⟩
theorem Yk1{h:Heap}{a:Addr}{o:Obj}{es:Array (Int × Value)}{ep:Nat}{t:SetTable}(ho:h.get? a=some o)(hd:o.data=.set es ep t)(es':Array (Int × Value))(t':SetTable) :
 (h.update a (Obj.putSet es' t')).get? a=some { o with data:=.set es' (ep+1) t' }:=by
 have:=Heap.get?_update_self (Obj.putSet es' t') ho (by rw[putSet_of es' t' hd];rfl)
 rw[putSet_of es' t' hd]at this
 exact this
theorem Yl0{g:Bool->Sem Unit}(hg:∀(b:Bool) (s₁:Shared) (Q':Unit->Shared->Prop),Q' () s₁->wpAny (model prog w) A (g b) Q' E s₁)
 {a:Addr} {o:Obj} {es:Array (Int × Value)} {ep:Nat} {t:SetTable} (ho:s.heap.get? a=some o) (hex:o.ExactSet) (hd:o.data=.set es ep t)
 {es1:Array (Int × Value)} {t2:SetTable} {ms:List Int} (hel1:ElemsOf (intKind prog w) es1.toList) (hms:(es1.toList.map kOf).Perm ms) (hnd:ms.Nodup)
 (hb1:es1.size < scanBound) (hf2:t2.fits es1.size=true) (ht2:Tab (byT w) t2) {wasDummy:Bool} {R:Option Bool->Shared->Prop}
 (h:∀h' ns',Heap.SameBut a s.heap h'->SetI prog w h' a ns'->ns'.Perm ms->R (some true) { s with heap:=h' }) :
 wpAny (model prog w) A (do
  storeSet a es1 t2
  if (!wasDummy&&t2.tooFull)=true then do
      g (relayAll t2 es1 (SetTable.grown es1.size)).2.2
      storeSet a (relayAll t2 es1 (SetTable.grown es1.size)).1 (relayAll t2 es1 (SetTable.grown es1.size)).2.1
      pure (some true)
   else pure (some true)) R E s:=by
 refine wpAny_bind (wpAny_storeSet_of ho hd ?_ (fits_of_scanBound hb1))
 have ho1:=Yk1 ho hd es1 t2
 have hsb1:=Heap.SameBut.update s.heap a (Obj.putSet es1 t2)
 split
 ·have hp:=relayAll_perm t2 es1 (SetTable.grown es1.size)
  have hfr:=relayAll_fits t2 es1 (SetTable.grown es1.size)
  have htr:=ht2.relayAll es1 (SetTable.grown es1.size)
  generalize hRl:relayAll t2 es1 (SetTable.grown es1.size)=Rl at hp hfr htr ⊢
  obtain⟨es2,t3,gave2⟩:=Rl
  dsimp only at hp hfr htr ⊢
  have hel2:ElemsOf (intKind prog w) es2.toList:=hel1.perm hp
  have hsz:es2.size=es1.size:=by rw[<-qi,hp.length_eq,qi]
  have hb2:es2.size < scanBound:=by rw[hsz];exact hb1
  have hp2:=(hp.map kOf).trans hms
  refine wpAny_bind (hg _ _ _ ?_)
  refine wpAny_bind (wpAny_storeSet_of ho1 rfl ?_ (fits_of_scanBound hb2))
  have ho2:=Yk1 ho1 rfl es2 t3
  exact wpAny_pure (h _ _ (hsb1.trans (Heap.SameBut.update _ a _)) ⟨_,es2,_,t3,ho2,hex,rfl,hel2,rfl,hp2.nodup_iff.mpr hnd,hb2,hfr,htr⟩ hp2)
 ·exact wpAny_pure (h _ _ hsb1 ⟨_,es1,_,t2,ho1,hex,rfl,hel1,rfl,hms.nodup_iff.mpr hnd,hb1,hf2,ht2⟩ hms)
theorem Ys1{a:Addr}{ns:List Int}{k:Int}{u:Tok}{Q:Bool->Shared->Prop}(hS:SetI prog w s.heap a ns)(hroom:ns.length+1 < scanBound)
 (h:∀h' ns',Heap.SameBut a s.heap h'->SetI prog w h' a ns'->ns'.Perm (if k∈ns then ns else ns++[k])->Q (!decide (k∈ns)) { s with heap:=h' }) :
 wpAny (model prog w) A (setAddHashed a (.int k u) (hashInt k)) Q E s:=by
 have hS0:=hS
 obtain⟨o,es,ep,t,ho,hex,hd,hel,hns,hnd,hb,hf,ht⟩:=hS
 have hkey:(intKind prog w).is k (.int k u)=true:=intKind_is _ _ _ _
 have hsc:(Value.int k u).scannable=true:=rfl
 have hsz:es.size=ns.length:=by rw[<-hns,qe,qi]
 unfold setAddHashed setAddHashedIn
 refine wpAny_holding (wpAny_bind (wpAny_setState_of ho hd hf ?_))
 dsimp only
 rw[byScan_of hsc hb hel]
 simp only[↓reduceIte]
 unfold setAddByScan
 refine wpAny_bind ?_
 refine wpAny_bind (wpAny_rule ?_)
 refine wpAny_bind (wpAny_setScan_of (knd:=intKind prog w) (k:=k) hkey ho hd hf hel ?_)
 cases hr:List.findIdx? (fun e=>(intKind prog w).is k e.2) es.toList with
 | some j=>
   dsimp only
   obtain⟨hj,hpj,_⟩:=List.findIdx?_eq_some_iff_getElem.mp hr
   have hk:k∈ns:=by
    rw[<-hns,<-Yry hpj]
    exact List.mem_map_of_mem (List.getElem_mem hj)
   refine wpAny_pure (wpAny_pure ?_)
   have e:s={ s with heap:=s.heap }:=by cases s;rfl
   have:=h s.heap ns (Heap.SameBut.refl a s.heap) hS0 (by rw[if_pos hk])
   rw[decide_eq_true hk]at this
   rw[e];exact this
 | none=>
   dsimp only
   have hk:k∉ns:=fun hk=>by
    rw[<-hns]at hk
    obtain⟨e,he,hke⟩:=qw hk
    have h1:=List.findIdx?_eq_none_iff.mp hr e he
    obtain⟨t',ht'⟩:=Yqg hel he
    rw[ht',hke]at h1
    have h2:(intKind prog w).is k (.int k t')=true:=intKind_is _ _ _ _
    rw[h2]at h1
    exact Bool.noConfusion h1
   have hgw:∀(b:Bool) {s₁:Shared} {Q':Unit->Shared->Prop},Q' () s₁->wpAny (model prog w) A (match b with | true=>rule "set.scan.the-table-gave-way" | false=>pure ()) Q' E s₁:=
    fun b s₁ Q' hq=>by cases b<;>first | exact wpAny_pure hq | exact wpAny_rule hq
   have hperm:=layNew_perm t es (hashInt k) (.int k u)
   have hfits:=layNew_fits t es (hashInt k) (.int k u)
   have htab:=ht.layNew es (hashInt k) (.int k u)
   show wpAny (model prog w) A (do
    let (es,t,wasDummy,gave):=PySem.layNew t es (hashInt k) (.int k u)
    _) _ _ _
   generalize hL:layNew t es (hashInt k) (.int k u)=L at hperm hfits htab ⊢
   obtain⟨es1,t1,wasDummy,gave⟩:=L
   dsimp only at hperm hfits htab ⊢
   rw[Array.toList_push]at hperm
   have hel1:ElemsOf (intKind prog w) es1.toList:=(hel.push (knd:=intKind prog w) (k:=k) hkey hsc).perm hperm
   have hb1':es1.size < scanBound:=by rw[<-qi,hperm.length_eq,List.length_append,qi];simp;lia
   have hms:(es1.toList.map kOf).Perm (ns++[k]):=by
    have:=hperm.map kOf
    rw[List.map_append,hns]at this
    exact this
   have hnd1:(ns++[k]).Nodup:=by
    rw[List.nodup_append]
    refine⟨hnd,by simp,fun x hx y hy z=>?_⟩
    simp at hy
    subst hy
    exact hk (z ▸ hx)
   have hend:∀h' ns',Heap.SameBut a s.heap h'->SetI prog w h' a ns'->ns'.Perm (ns++[k])->Q true { s with heap:=h' }:=by
    intro h' ns' hsb hS' hp
    have:=h h' ns' hsb hS' (by rw[if_neg hk];exact hp)
    rw[decide_eq_false hk]at this
    exact this
   refine wpAny_bind (hgw _ ?_)
   split
   ·refine wpAny_bind ?_
    rw[hashByValue_scannable 8 hsc]
    refine wpAny_pure ?_
    refine Yl0 ?_ ho hex hd hel1 hms hnd1 hb1' ?_ ?_ ?_
    ·intro b s₁ Q' hq;cases b<;>first | exact wpAny_pure hq | exact wpAny_rule hq
    ·split
     ·exact hfits
     ·exact SetTable.fits_plain_off hfits
    ·split
     ·exact htab
     ·exact htab.off
    ·intro h' ns' hsb hS' hp;dsimp only;exact wpAny_pure (hend h' ns' hsb hS' hp)
   ·refine wpAny_bind (wpAny_pure ?_)
    simp only[↓reduceIte]
    refine Yl0 ?_ ho hex hd hel1 hms hnd1 hb1' hfits htab ?_
    ·intro b s₁ Q' hq;cases b<;>first | exact wpAny_pure hq | exact wpAny_rule hq
    ·intro h' ns' hsb hS' hp;dsimp only;exact wpAny_pure (hend h' ns' hsb hS' hp)
end
def ddup:List Int->List Int->List Int
 | acc,[]=>acc
 | acc,k::r=>ddup (if k∈acc then acc else acc++[k]) r
theorem Yj1:∀(r a b:List Int),a.Perm b->(ddup a r).Perm (ddup b r)
 | [],_,_,h=>h
 | k::r,a,b,h=>by
   rw[ddup,ddup]
   refine Yj1 r _ _ ?_
   by_cases hk:k∈a
   ·rw[if_pos hk,if_pos (h.mem_iff.mp hk)];exact h
   ·rw[if_neg hk,if_neg (fun z=>hk (h.mem_iff.mpr z))];exact h.append_right _
section
variable {prog:Program} {w:World} {A:Around} {R:Result->Shared->Prop} {I:Addr} {fp wr:List Addr} {G:Array GenState->Array GenState->Prop} {n:Nat} {P:Nat->Value->Prop} {St:Nat->Shared->Prop}
theorem Yqh(W:WalksS prog w A.in1 I fp wr G n P St)(S:Addr)(hSf:S∉fp)(ms:List Int)(hn:ms.length=n)
 (hval:∀i v,P i v->∃t,v=.int (ms.getD i 0) t) (hb:n+1 < scanBound) :
 ∀(k i:Nat) (s:Shared) (ns:List Int),n - i=k->i<=n->St i s->ns.length<=i->SetI prog w s.heap S ns->
  (∀s' ns',Moved (S::wr) G s s'->SetI prog w s'.heap S ns'->ns'.Perm (ddup ns (ms.drop i))->R (.ok (.ret .none)) s')->
  codeAny (model prog w) A (.builtin "set.update.loop" ⟨[.ref S,.ref I],[]⟩) R s:=by
 have hSw:S∉wr:=fun h=>hSf (W.sub _ h)
 have hsub:∀b∈wr,b∈S::wr:=fun b hb=>qf _ hb
 intro k
 induction k with
 | zero=>
   intro i s ns hk hi hst hl hS hR
   have hin:i=n:=by lia
   subst hin
   refine codeAny_builtin F.entry_set_update_loop ?_
   rw[Around.under_plainId F.plain_set_update_loop _]
   show wpAny _ A.in1 (pyNext (.ref I) >>= _) _ _ s
   refine wpAny_bind (W.done s _ _ hst fun s' hm=>?_)
   show wpAny _ A.in1 (ret Value.none) _ _ s'
   refine wpAny_pure (hR s' ns (hm.mono hsub) (hS.at fun o e=>hm.heap S _ hSw e) ?_)
   rw[List.drop_of_length_le (by lia),ddup]
 | succ k ih=>
   intro i s ns hk hi hst hl hS hR
   have hlt:i < n:=by lia
   refine codeAny_builtin F.entry_set_update_loop ?_
   rw[Around.under_plainId F.plain_set_update_loop _]
   show wpAny _ A.in1 (pyNext (.ref I) >>= _) _ _ s
   refine wpAny_bind (W.item i s _ _ hlt hst fun v s' hP hst' hm=>?_)
   obtain⟨t,rfl⟩:=hval i v hP
   have hS':SetI prog w s'.heap S ns:=hS.at fun o e=>hm.heap S _ hSw e
   generalize hx:ms.getD i 0=x
   have hdrop:ms.drop i=x::ms.drop (i+1):=by
    rw[List.drop_eq_getElem_cons (by lia),<-hx,List.getD_eq_getElem?_getD,qp (by lia)]
    rfl
   show wpAny _ A.in1 (holding [Value.int x t] (setAdd S (.int x t)) >>= _) _ _ s'
   refine wpAny_bind (wpAny_holding ?_)
   unfold setAdd
   refine wpAny_holding ?_
   refine wpAny_bind ((intKind prog w).pyHash (k:=x) (intKind_is _ _ _ _) ?_)
   refine Ys1 (s:={ s' with toks:=s'.toks+1 }) hS' (by lia) fun h' ns' hsb hS2 hp=>?_
   have hl2:ns'.length<=i+1:=by
    rw[hp.length_eq]
    split
    ·lia
    ·simp;lia
   refine wpAny_pure ⟨plainId_quiet F.plain_set_update_loop _,ih (i+1) _ ns' (by lia) hlt (W.frame _ s' _ _ hst' (Nat.le_succ _) fun b hb o e=>?_) hl2 hS2 fun s'' ns'' hm'' hS'' hp''=>?_⟩
   ·rw[hsb.2 b (fun h:b=S=>hSf (by rw[<-h];exact hb))];exact e
   ·refine hR s'' ns'' (Moved.trans W.gtrans ((hm.mono hsub).then_heap (Nat.le_succ _) fun b o hb e=>?_) hm'') hS'' ?_
    ·rw[hsb.2 b (fun h:b=S=>hb (by rw[h];exact qg))];exact e
    ·rw[hdrop,ddup]
     exact hp''.trans (Yj1 _ _ _ hp)
end
end
section
section
variable {prog:Program} {w:World} {A:Around} {E:Value->Shared->Prop} {s:Shared}
theorem Ydu{T newId initId:String}{Bi:Builtin}{args:List Value}{Q Q₁:Value->Shared->Prop}(ft:TypeCalled T newId initId)
 (hct:checkTypeCall T ⟨args,[]⟩=pure ()) (entryI:entryFor table initId=some Bi)
 (hnew:codeAny (model prog w) A.in1 (.call (.builtin newId) ⟨.type T::args,[]⟩) (wants Q₁ E) s)
 (hnext:∀obj s₁,Q₁ obj s₁->s₁.TypeIs obj T/\(∀(A':Around) (E':Value->Shared->Prop) (Q':Unit->Shared->Prop),Q' () s₁->wpAny (model prog w) A' (checkBuiltinCall initId ⟨obj::args,[]⟩) Q' E' s₁)/\
  wpAny (model prog w) A.in1.in1 (Bi ⟨obj::args,[]⟩)
   (fun fin s'=>match fin with | .done f=>wants (fun r s₂=>r=.none/\Q obj s₂) E (.ok f) s' | .again c'=>c'.quiet=true/\codeAny (model prog w) A.in1 c' (wants (fun r s₂=>r=.none/\Q obj s₂) E) s')
   (fun e s'=>wants (fun r s₂=>r=.none/\Q obj s₂) E (.error e) s') s₁) :
 wpAny (model prog w) A (call (.type T) args) Q E s:=by
 obtain⟨c,tl,hmro⟩:=ft.mro
 have hmade:=ft.made
 have hsub:=ft.sub
 refine wpAny_call (codeAny_of_tree ?_)
 show wpAny _ _ (callAny (.type T) _) _ _ _
 refine wpAny_pure ⟨Code.quiet_builtin _ (by decide +kernel),codeAny_builtin F.entry_type_call ?_⟩
 rw[Around.under_plain (weight_type_call_type T args []) rfl]
 have h1:=ft.notType
 have h2:=ft.canCreate
 repeat (any_goals (first | assumption | wp_step))
 refine codeAny_mono hnew fun r s₁ hr=>?_
 cases r with
 | error e=>exact hr
 | ok fl=>
   cases fl with
   | ret obj=>
     obtain⟨hT,hok,hsi⟩:=hnext _ _ hr
     have hli:=ft.init.lookup
     have hbi:=ft.init.bind obj
     repeat (any_goals (first | assumption | wp_step))
     refine codeAny_mono (codeAny_call_builtin ft.init.plain entryI (hok _ _ _ hsi)) fun r₂ s₂ hr₂=>?_
     cases r₂ with
     | error e=>exact hr₂
     | ok fl₂=>
       cases fl₂ with
       | ret r=>
         obtain⟨rfl,hq⟩:=hr₂
         repeat (any_goals (first | assumption | wp_step))
       | _=>exact hr₂.elim
   | _=>exact hr.elim
abbrev emS(w:World):Obj:={ cls:=.type "set",dict:=none,data:=.set #[] 0 (.fresh 0 0 (!byT w)) }
theorem Yj2(a:Value){Q₁:Value->Shared->Prop}(h:Q₁ (.ref s.heap.objs.size) { s with heap:=s.heap.push (emS w) }) :
 codeAny (model prog w) A (.call (.builtin "set.__new__") ⟨[.type "set",a],[]⟩) (wants Q₁ E) s:=by
 refine codeAny_of_tree ?_
 show wpAny _ A.in1 (do checkBuiltinCall "set.__new__" ⟨[.type "set",a],[]⟩;again (.builtin "set.__new__" ⟨[.type "set",a],[]⟩)) _ _ s
 refine wpAny_bind (wpAny_of_eq (F.newCall_set_1 a) (wpAny_pure ⟨plainId_quiet F.plain_set_new _,codeAny_builtin F.entry_set_new ?_⟩))
 rw[Around.under_plainId F.plain_set_new _]
 unfold Builtin.«set.__new__» Builtin.Frozenset.newClass
 have hsub:=sub_set_self
 obtain⟨hp,g,d,tk,os⟩:=s
 dsimp only
 wp_walk
 refine wpAny_askSetting (wpAny_pure ?_)
 dsimp only
 simp only[newObj]
 refine wpAny_bind (wpAny_alloc (wpAny_pure ?_))
 exact wpAny_pure h
set_option maxRecDepth 100000 in
theorem Yip{l:Addr}{items:Array Value}{ms:List Int}{Q:Value->Shared->Prop}
 (hh:A.handled=none) (hl:s.heap.IsList l items) (hi:IntsAre items.toList ms) (hb:items.size+1 < scanBound)
 (h:∀(h':Heap) (tk:Nat) ns,SetI prog w h' s.heap.objs.size ns->ns.Perm (ddup [] ms)->
  (∀b o,b < s.heap.objs.size->s.heap.get? b=some o->h'.get? b=some o)->Q (.ref s.heap.objs.size) { s with heap:=h',toks:=tk }) :
 wpAny (model prog w) A (call (.type "set") [.ref l]) Q E s:=by
 refine Ydu (Q₁:=fun obj s₁=>obj=.ref s.heap.objs.size/\s₁={ s with heap:=s.heap.push (emS w) }) F.called_set (F.typeCall_set_1 _) F.entry_set_init (Yj2 _ ⟨rfl,rfl⟩) ?_
 rintro obj s₁ ⟨rfl,rfl⟩
 have hS:(s.heap.push (emS w)).get? s.heap.objs.size=some (emS w):=qo _ rfl
 have hT:Shared.TypeIs { s with heap:=s.heap.push (emS w) } (.ref s.heap.objs.size) "set":=⟨_,hS,rfl⟩
 refine⟨hT,fun A' E' Q' hq=>check_set_init_1 hT hq,?_⟩
 obtain⟨ol,hol,hcl,nl,hdl⟩:=hl
 obtain⟨ocls,odict,odata,oslots⟩:=ol
 simp only at hcl hdl
 subst hcl;subst hdl
 have hol':(s.heap.push (emS w)).get? l=some { cls:=.type "list",dict:=odict,data:=.seq items nl,slots:=oslots }:=qd _ hol
 have hsls:=F.sub_list_set
 have hslf:=F.sub_list_frozenset
 have hne:(Value.type "list"==Value.type "dict")=false:=by decide
 have hl1:(s.heap.push (emS w)).IsList l items:=⟨_,hol',rfl,nl,rfl⟩
 unfold Builtin.«set.__init__» noKeywords Builtin.Frozenset.updateFrom
 generalize hPI:pyIter=PI
 wp_walk
 subst hPI
 refine wpAny_pyIter_list hl1 ?_
 refine wpAny_bind (wpAny_runValue ?_)
 have hlS:l < s.heap.objs.size:=qk hol
 have hh3:A.in1.in1.in1.handled=none:=by simp[hh]
 have hneI:l≠(s.heap.push (emS w)).objs.size:=by
  rw[Heap.size_push];exact ql (qv hlS)
 have hSf:s.heap.objs.size∉[(s.heap.push (emS w)).objs.size,l]:=by
  rw[Heap.size_push];simp only[List.mem_cons,List.mem_singleton,List.not_mem_nil,or_false,not_or]
  exact⟨ql (Nat.lt_succ_self _),Nat.ne_of_gt hlS⟩
 have hlen:ms.length=items.size:=by have:=IntsAre.length hi;rw[qi]at this;exact this.symm
 have hval:∀(i:Nat) (v:Value),items[i]?=some v->∃t,v=.int (ms.getD i 0) t:=fun i v hv=>
  IntsAre.int_at hi i v (by rw[Array.getElem?_toList];exact hv)
 refine Yqh ((Walks.list hh3 _ l hneI items).toS) s.heap.objs.size hSf ms hlen hval hb (items.size - 0) 0 _ [] (by lia) (Nat.zero_le _)
  ⟨⟨_,qo _ rfl,rfl,rfl⟩,(hl1.push _)⟩ (qt _) ?hS0 ?hR
 case hS0=>
  have hget:((s.heap.push (emS w)).push { cls:=.type "list_iterator",data:=.fields #[.ref l,.int 0 0] }).get? s.heap.objs.size=some (emS w):=qd _ hS
  exact⟨emS w,#[],0,_,hget,⟨rfl,rfl,rfl⟩,rfl,fun e he=>by simp at he,rfl,.nil,by decide,rfl,.fresh⟩
 case hR=>
  intro s' ns' hm hS' hp'
  obtain⟨h',g',d',tk',os'⟩:=s'
  have eg:g'=s.gens:=hm.gens
  have ed:d'=s.drawn:=hm.drawn
  have eo:os'=s.os:=hm.os
  subst eg;subst ed;subst eo
  show wpAny _ _ _ _ _ _
  refine wpAny_pure ?_
  show wpAny _ _ (ret Value.none) _ _ _
  refine wpAny_pure ⟨rfl,h h' tk' ns' hS' hp' fun b o hb e=>?_⟩
  have hb1:b≠s.heap.objs.size:=ql hb
  have hb2:b≠(s.heap.push (emS w)).objs.size:=by
   rw[Heap.size_push];exact ql (qv hb)
  exact hm.heap b o (by simp only[List.mem_cons,List.mem_singleton,List.not_mem_nil,or_false,not_or];exact⟨hb1,hb2⟩) (qd _ (qd _ e))
end
end
section
end
section
set_option maxRecDepth 100000
end
section
set_option maxRecDepth 100000
end
section
inductive D where
 | non | bl (b:Bool) | int (i:Int) | str (x:Str) | tup (l:List D) | lst (l:List D)
 | scr (ns:List Int)
 | dct (t:Bool) (ks vs:List D)
 | obj (c:Str) (ks:List Str) (vs:List D)
 | adr (a:Addr)
mutual
def toPy:D->PyData
 | .non=>.none
 | .bl b=>.bool b
 | .int i=>.int i
 | .str x=>.str x
 | .tup l=>.tuple (Ycy l)
 | .lst l=>.list (Ycy l)
 | .scr ns=>.list (ns.map PyData.int)
 | .dct _ _ _=>.none
 | .obj _ _ _=>.none
 | .adr _=>.none
def Ycy:List D->List PyData
 | []=>[]
 | d::l=>toPy d::Ycy l
end
def eqD(d e:D):Bool:=PyData.eqv (toPy d) (toPy e)
def eqL(l m:List D):Bool:=PyData.eqvAll (Ycy l) (Ycy m)
def numV:V->Option Int
 | .int i=>some i
 | .bl b=>some (if b then 1 else 0)
 | _=>none
def Ys2:List V->Option (List Int)
 | []=>some []
 | x::r=>(numV x).bind fun i=>(Ys2 r).map (i::·)
def Ys3(ks:List Int):Int:=reduceHash (Builtin.Tuple.tupleHashOf (ks.map hashInt))
def DtOk(a:Addr)(nks:List (List Int × Addr))(vxs:List V)(ep:Nat)(h:Heap):Prop:=
 (a==sysModules)=false/\∃us o es,Vals vxs us/\h.get? a=some o/\o.ExactDict/\o.data=.dict es ep/\es.toList=(nks.zip us).map fun p=>(⟨Ys3 p.1.1,.ref p.1.2,p.2⟩:DictEntry)
def dTo(a:Addr)(nks:List (List Int × Addr))(vxs:List V)(ep:Nat):HO:=.ext (DtOk a nks vxs ep)
def Dc(t:Bool)(G H:Hp)(a:Addr)(kxs vxs:List V):Prop:=
 (t=false/\∃kvs:List (Key × V),H a=some (.dK kvs)/\(kvs.map (·.1)).Nodup/\kxs=kvs.map (fun p=>kV p.1)/\vxs=kvs.map (·.2))\/
 (t=true/\∃(nks:List (List Int × Addr)) (ep:Nat),H a=some (dTo a nks vxs ep)/\nks.length=vxs.length/\(nks.map (·.1)).Nodup/\kxs=nks.map (fun p=>V.ref p.2)/\∀p∈nks,∃ys,G p.2=some (.tup ys)/\Ys2 ys=some p.1)
mutual
def Rp(K:W.Frag)(G:Hp):D->V->Prop
 | .non,v=>v=V.non
 | .bl b,v=>v=V.bl b
 | .int i,v=>v=V.int i
 | .str x,v=>v=V.str x/\PyData.strOk x=true
 | .tup l,v=>∃a xs,v=V.ref a/\G a=some (HO.tup xs)/\RpL K G l xs
 | .lst l,v=>∃a xs,v=V.ref a/\Rd G a (HO.lst xs)/\RpL K G l xs
 | .scr ns,v=>∃a,v=V.ref a/\SqL K G a (ns.map V.int)
 | .dct t ks vs,v=>∃a kxs vxs,v=V.ref a/\Dc t G G a kxs vxs/\RpL K G ks kxs/\RpL K G vs vxs
 | .obj c ks vs,v=>∃a C dx xs,v=V.ref a/\W.nsIn K mainGlobals c=some (some (.ref C))/\G a=some (HO.ins C dx (ks.zip xs))/\xs.length=ks.length/\RpL K G vs xs
 | .adr a,v=>v=V.ref a
def RpL(K:W.Frag)(G:Hp):List D->List V->Prop
 | [],xs=>xs=[]
 | d::l,xs=>∃x r,xs=x::r/\Rp K G d x/\RpL K G l r
end
variable {K:W.Frag}
theorem Yc4{G G':Hp}(h:Same G G'){a:Addr}{u:HO}(r:Rd G a u):Rd G' a u:=by
 rcases r with r | ⟨o,r⟩
 ·exact .inl (h _ _ r)
 ·exact .inr ⟨o,h _ _ r⟩
theorem Dc.mono{t:Bool}{G G' H H':Hp}(g:Same G G'){a:Addr}{kxs vxs:List V}(h:∀o,H a=some o->H' a=some o)(d:Dc t G H a kxs vxs):Dc t G' H' a kxs vxs:=by
 rcases d with⟨e,kvs,h1,h2⟩ | ⟨e,nks,ep,h1,h2,h3,h4,h5⟩
 ·exact .inl ⟨e,kvs,h _ h1,h2⟩
 ·refine .inr ⟨e,nks,ep,h _ h1,h2,h3,h4,fun p hp=>?_⟩
  obtain⟨ys,q1,q2⟩:=h5 p hp
  exact⟨ys,g _ _ q1,q2⟩
theorem Dc.someT{t:Bool}{G H:Hp}{a:Addr}{kxs vxs:List V}(d:Dc t G H a kxs vxs):∃o,H a=some o/\∀xs,o≠.tup xs:=by
 rcases d with⟨_,kvs,h1,_⟩ | ⟨_,nks,ep,h1,_⟩
 ·exact⟨_,h1,fun xs z=>by cases z⟩
 ·exact⟨_,h1,fun xs z=>by cases z⟩
theorem Dc.some{t:Bool}{G H:Hp}{a:Addr}{kxs vxs:List V}(d:Dc t G H a kxs vxs):∃o,H a=some o/\∀xs,o≠.lst xs:=by
 rcases d with⟨_,kvs,h1,_⟩ | ⟨_,nks,ep,h1,_⟩
 ·exact⟨_,h1,fun xs z=>by cases z⟩
 ·exact⟨_,h1,fun xs z=>by cases z⟩
mutual
theorem Rp.mono{G G':Hp}(h:Same G G'):∀{d:D} {v:V},Rp K G d v->Rp K G' d v
 | .non,_,r=>by rw[Rp]at r ⊢;exact r
 | .bl _,_,r=>by rw[Rp]at r ⊢;exact r
 | .int _,_,r=>by rw[Rp]at r ⊢;exact r
 | .str _,_,r=>by rw[Rp]at r ⊢;exact r
 | .tup l,_,r=>by
   rw[Rp]at r ⊢
   obtain⟨a,xs,e,g,q⟩:=r
   exact⟨a,xs,e,h _ _ g,RpL.mono h q⟩
 | .lst l,_,r=>by
   rw[Rp]at r ⊢
   obtain⟨a,xs,e,g,q⟩:=r
   exact⟨a,xs,e,Yc4 h g,RpL.mono h q⟩
 | .scr ns,_,r=>by
   rw[Rp]at r ⊢
   obtain⟨a,e,g⟩:=r
   exact⟨a,e,h.seq g⟩
 | .dct t ks vs,_,r=>by
   rw[Rp]at r ⊢
   obtain⟨a,kxs,vxs,e,g,q1,q2⟩:=r
   exact⟨a,kxs,vxs,e,g.mono h fun o=>h _ o,RpL.mono h q1,RpL.mono h q2⟩
 | .obj c ks vs,_,r=>by
   rw[Rp]at r ⊢
   obtain⟨a,C,dx,xs,e,n,g,l,q⟩:=r
   exact⟨a,C,dx,xs,e,n,h _ _ g,l,RpL.mono h q⟩
 | .adr _,_,r=>by rw[Rp]at r ⊢;exact r
theorem RpL.mono{G G':Hp}(h:Same G G'):∀{l:List D} {xs:List V},RpL K G l xs->RpL K G' l xs
 | [],_,r=>by rw[RpL]at r ⊢;exact r
 | d::l,_,r=>by
   rw[RpL]at r ⊢
   obtain⟨x,xs,e,g,q⟩:=r
   exact⟨x,xs,e,Rp.mono h g,RpL.mono h q⟩
end
section
variable {G:Hp}
theorem RpL.length:∀{l:List D} {xs:List V},RpL K G l xs->xs.length=l.length
 | [],_,r=>by rw[RpL]at r;subst r;rfl
 | d::l,_,r=>by
   rw[RpL]at r
   obtain⟨x,xs,rfl,_,q⟩:=r
   simp[RpL.length q]
theorem RpL.get:∀{l:List D} {xs:List V} {i:Nat} {d:D},RpL K G l xs->l[i]?=some d->∃x,xs[i]?=some x/\Rp K G d x
 | [],_,_,_,_,e=>by simp at e
 | d::l,_,0,_,r,e=>by
   rw[RpL]at r
   obtain⟨x,xs,rfl,g,q⟩:=r
   simp at e
   subst e
   exact⟨x,rfl,g⟩
 | d::l,_,i+1,_,r,e=>by
   rw[RpL]at r
   obtain⟨x,xs,rfl,g,q⟩:=r
   obtain⟨y,h1,h2⟩:=RpL.get (i:=i) q (by simpa using e)
   exact⟨y,by simpa using h1,h2⟩
theorem RpL.nil:RpL K G [] []:=by rw[RpL]
theorem RpL.cons{d:D}{l:List D}{x:V}{xs:List V}(h:Rp K G d x)(q:RpL K G l xs):RpL K G (d::l) (x::xs):=by rw[RpL];exact⟨x,xs,rfl,h,q⟩
theorem RpL.append:∀{l m:List D} {xs ys:List V},RpL K G l xs->RpL K G m ys->RpL K G (l++m) (xs++ys)
 | [],_,_,_,r,q=>by rw[RpL]at r;subst r;exact q
 | d::l,m,_,ys,r,q=>by
   rw[RpL]at r
   obtain⟨x,xs,rfl,g,r⟩:=r
   exact .cons g (RpL.append r q)
theorem RpL.one{d:D}{x:V}(h:Rp K G d x):RpL K G [d] [x]:=.cons h .nil
theorem RpL.take:∀{l:List D} {xs:List V} (n:Nat),RpL K G l xs->RpL K G (l.take n) (xs.take n)
 | _,_,0,_=>by rw[List.take_zero,List.take_zero];exact .nil
 | [],_,_+1,r=>by rw[RpL]at r;subst r;exact .nil
 | d::l,_,n+1,r=>by
   rw[RpL]at r
   obtain⟨x,xs,rfl,g,r⟩:=r
   exact .cons g (RpL.take n r)
theorem RpL.drop:∀{l:List D} {xs:List V} (n:Nat),RpL K G l xs->RpL K G (l.drop n) (xs.drop n)
 | _,_,0,r=>r
 | [],_,_+1,r=>by rw[RpL]at r;subst r;exact .nil
 | d::l,_,n+1,r=>by
   rw[RpL]at r
   obtain⟨x,xs,rfl,g,r⟩:=r
   exact RpL.drop n r
theorem RpL.ints:∀(ns:List Int),RpL K G (ns.map D.int) (ns.map V.int)
 | []=>.nil
 | n::ns=>.cons (by rw[Rp]) (RpL.ints ns)
end
structure Gr(H G H' G':Hp):Prop where
 h:Same H H'
 g:Same G G'
 s:Same G' H'
 n:∀a,G a=none->G' a≠none->H a=none
theorem Gr.refl{H G:Hp}(s:Same G H):Gr H G H G:=⟨Same.refl _,Same.refl _,s,fun _ h h'=>absurd h h'⟩
theorem Gr.trans{H G H1 G1 H2 G2:Hp}(a:Gr H G H1 G1)(b:Gr H1 G1 H2 G2):Gr H G H2 G2:=
 ⟨a.h.trans b.h,a.g.trans b.g,b.s,fun x h h'=>by
  by_cases e:G1 x=none
  ·exact a.h.free (b.n x e h')
  ·exact a.n x h e⟩
theorem Gr.new{H G:Hp}(s:Same G H){p:Addr}(hp:H p=none)(o:HO):Gr H G (upd H p o) (upd G p o):=by
 have gp:G p=none:=s.free hp
 refine⟨fun b u e=>?_,fun b u e=>?_,fun b u e=>?_,fun b h h'=>?_⟩
 ·rw[Yaa (Yab e hp)];exact e
 ·rw[Yaa (Yab e gp)];exact e
 ·by_cases q:b=p
  ·subst q;rw[Yy]at e ⊢;exact e
  ·rw[Yaa q]at e ⊢;exact s _ _ e
 ·by_cases q:b=p
  ·subst q;exact hp
  ·rw[Yaa q]at h';exact absurd h h'
theorem Gr.hid{H G:Hp}(s:Same G H){p:Addr}(hp:H p=none)(o:HO):Gr H G (upd H p o) G:=by
 have gp:G p=none:=s.free hp
 refine⟨fun b u e=>?_,Same.refl _,fun b u e=>?_,fun b h h'=>absurd h h'⟩
 ·rw[Yaa (Yab e hp)];exact e
 ·rw[Yaa (Yab e gp)];exact s _ _ e
theorem Gr.show{H G H' G':Hp}(g:Gr H G H' G'){p:Addr}{o:HO}(hp:H p=none)(gp:G' p=none)(e:H' p=some o):Gr H G H' (upd G' p o):=by
 refine⟨g.h,fun b u q=>?_,fun b u q=>?_,fun b h h'=>?_⟩
 ·have:=g.g b u q
  rw[Yaa (Yab this gp)];exact this
 ·by_cases z:b=p
  ·subst z;rw[Yy]at q;rw[e];exact q
  ·rw[Yaa z]at q;exact g.s b u q
 ·by_cases z:b=p
  ·subst z;exact hp
  ·rw[Yaa z]at h';exact g.n b h h'
def Ct(K:W.Frag)(G H:Hp):D->V->Prop
 | .non,v=>v=V.non
 | .bl b,v=>v=V.bl b
 | .int i,v=>v=V.int i
 | .str x,v=>v=V.str x/\PyData.strOk x=true
 | .tup l,v=>∃a xs,v=V.ref a/\(H a=some (HO.tup xs)/\G a=some (HO.tup xs))/\RpL K G l xs
 | .lst l,v=>∃a xs,v=V.ref a/\Rd H a (HO.lst xs)/\RpL K G l xs
 | .scr ns,v=>∃a,v=V.ref a/\SqL K H a (ns.map V.int)
 | .dct t ks vs,v=>∃a kxs vxs,v=V.ref a/\Dc t G H a kxs vxs/\RpL K G ks kxs/\RpL K G vs vxs
 | .obj c ks vs,v=>∃a C dx xs,v=V.ref a/\W.nsIn K mainGlobals c=some (some (.ref C))/\G a=some (HO.ins C dx (ks.zip xs))/\xs.length=ks.length/\RpL K G vs xs
 | .adr a,v=>v=V.ref a
theorem Ct.of{G H:Hp}(s:Same G H){d:D}{v:V}(r:Rp K G d v):Ct K G H d v:=by
 cases d<;>rw[Rp]at r<;>rw[Ct]
 ·exact r
 ·exact r
 ·exact r
 ·exact r
 ·obtain⟨a,xs,e,g,q⟩:=r
  exact⟨a,xs,e,⟨s _ _ g,g⟩,q⟩
 ·obtain⟨a,xs,e,g,q⟩:=r
  exact⟨a,xs,e,Yc4 s g,q⟩
 ·obtain⟨a,e,g⟩:=r
  exact⟨a,e,s.seq g⟩
 ·obtain⟨a,kxs,vxs,e,g,q1,q2⟩:=r
  exact⟨a,kxs,vxs,e,g.mono (Same.refl _) fun o=>s _ o,q1,q2⟩
 ·exact r
 ·exact r
theorem Ct.rp{G H:Hp}(s:Same G H){d:D}{v:V}(r:Ct K G H d v):Rp K H d v:=by
 cases d<;>rw[Ct]at r<;>rw[Rp]
 ·exact r
 ·exact r
 ·exact r
 ·exact r
 ·obtain⟨a,xs,e,g,q⟩:=r
  exact⟨a,xs,e,g.1,q.mono s⟩
 ·obtain⟨a,xs,e,g,q⟩:=r
  exact⟨a,xs,e,g,q.mono s⟩
 ·exact r
 ·obtain⟨a,kxs,vxs,e,g,q1,q2⟩:=r
  exact⟨a,kxs,vxs,e,g.mono s fun _ z=>z,q1.mono s,q2.mono s⟩
 ·obtain⟨a,C,dx,xs,e,n,g,l,q⟩:=r
  exact⟨a,C,dx,xs,e,n,s _ _ g,l,q.mono s⟩
 ·exact r
theorem Ct.grow{G H G' H':Hp}(g:Gr H G H' G'){d:D}{v:V}(r:Ct K G H d v):Ct K G' H' d v:=by
 cases d<;>rw[Ct]at r<;>rw[Ct]
 ·exact r
 ·exact r
 ·exact r
 ·exact r
 ·obtain⟨a,xs,e,h,q⟩:=r
  exact⟨a,xs,e,⟨g.h _ _ h.1,g.g _ _ h.2⟩,q.mono g.g⟩
 ·obtain⟨a,xs,e,h,q⟩:=r
  exact⟨a,xs,e,Yc4 g.h h,q.mono g.g⟩
 ·obtain⟨a,e,h⟩:=r
  exact⟨a,e,g.h.seq h⟩
 ·obtain⟨a,kxs,vxs,e,h,q1,q2⟩:=r
  exact⟨a,kxs,vxs,e,h.mono g.g fun o=>g.h _ o,q1.mono g.g,q2.mono g.g⟩
 ·obtain⟨a,C,dx,xs,e,n,h,l,q⟩:=r
  exact⟨a,C,dx,xs,e,n,g.g _ _ h,l,q.mono g.g⟩
 ·exact r
def CtL(K:W.Frag)(G H:Hp):List D->List V->Prop
 | [],xs=>xs=[]
 | d::l,xs=>∃x r,xs=x::r/\Ct K G H d x/\CtL K G H l r
inductive B where
 | sh (d:D) | ow (l:List D) | od (t:Bool) (ks vs:List D)
abbrev Ro:=List (Option B)
structure SR(K:W.Frag)(H0 G0:Hp)(σ:L2.St)(H G:Hp)(ρ:Ro):Prop where
 gr:Gr H0 G0 H G
 len:σ.length=ρ.length
 sh:∀(i:Nat) d,ρ[i]?=some (some (B.sh d))->∃v,σ[i]?=some (some v)/\Rp K G d v
 ow:∀(i:Nat) l,ρ[i]?=some (some (B.ow l))->∃a xs,σ[i]?=some (some (V.ref a))/\G a=none/\H0 a=none/\H a=some (.lst xs)/\RpL K G l xs
 ap:∀(i j:Nat) l l' a b,ρ[i]?=some (some (B.ow l))->ρ[j]?=some (some (B.ow l'))->i≠j->σ[i]?=some (some (V.ref a))->σ[j]?=some (some (V.ref b))->a≠b
 od:∀(i:Nat) t ks vs,ρ[i]?=some (some (B.od t ks vs))->∃a kxs vxs,σ[i]?=some (some (V.ref a))/\G a=none/\H0 a=none/\Dc t G H a kxs vxs/\RpL K G ks kxs/\RpL K G vs vxs
 apd:∀(i j:Nat) t ks vs t' ks' vs' a b,ρ[i]?=some (some (B.od t ks vs))->ρ[j]?=some (some (B.od t' ks' vs'))->i≠j->σ[i]?=some (some (V.ref a))->σ[j]?=some (some (V.ref b))->a≠b
section
variable {H0 G0 H G H' G':Hp} {σ:L2.St} {ρ:Ro}
theorem SR.mkSh(g:Gr H0 G0 H G)(len:σ.length=ρ.length)(sh:∀(i:Nat) d,ρ[i]?=some (some (B.sh d))->∃v,σ[i]?=some (some v)/\Rp K G d v)(no:∀(i:Nat) l,ρ[i]?≠some (some (B.ow l)))(no':∀(i:Nat) t ks vs,ρ[i]?≠some (some (B.od t ks vs))):SR K H0 G0 σ H G ρ:=
 ⟨g,len,sh,fun i l h=>absurd h (no i l),fun i j l l' a b h=>absurd h (no i l),fun i t ks vs h=>absurd h (no' i t ks vs),fun i j t ks vs t' ks' vs' a b h=>absurd h (no' i t ks vs)⟩
theorem Yj3(g:Gr H G H' G'){a:Addr}{o:HO}(h:H a=some o)(n:G a=none):G' a=none:=by
 cases q:G' a with
 | none=>rfl
 | some o=>
   have:=g.n a n (by rw[q];exact fun z=>nomatch z)
   rw[h]at this
   cases this
theorem SR.grow(s:SR K H0 G0 σ H G ρ)(g:Gr H G H' G'):SR K H0 G0 σ H' G' ρ:=by
 refine⟨s.gr.trans g,s.len,fun i d e=>?_,fun i l e=>?_,s.ap,fun i t ks vs e=>?_,s.apd⟩
 ·obtain⟨v,h1,h2⟩:=s.sh i d e
  exact⟨v,h1,h2.mono g.g⟩
 ·obtain⟨a,xs,h1,h2,h3,h4,h5⟩:=s.ow i l e
  exact⟨a,xs,h1,Yj3 g h4 h2,h3,g.h _ _ h4,h5.mono g.g⟩
 ·obtain⟨a,kxs,vxs,h1,h2,h3,h4,h5,h6⟩:=s.od i t ks vs e
  obtain⟨o,h7,_⟩:=h4.some
  exact⟨a,kxs,vxs,h1,Yj3 g h7 h2,h3,h4.mono g.g fun o=>g.h _ o,h5.mono g.g,h6.mono g.g⟩
theorem SR.seen(s:SR K H0 G0 σ H G ρ):Same G H:=s.gr.s
theorem Yn{α:Type}{l:List α}{i j:Nat}{x y:α}(h:(l.set i x)[j]?=some y):(j=i/\y=x/\i < l.length)\/(j≠i/\l[j]?=some y):=by
 by_cases e:j=i
 ·subst e
  have hl:j < l.length:=by
   have:=(qm h).1
   simpa using this
  rw[List.getElem?_set_self hl]at h
  exact .inl ⟨rfl,(Option.some.inj h).symm,hl⟩
 ·rw[qy (Ne.symm e)]at h
  exact .inr ⟨e,h⟩
theorem SR.set_sh(s:SR K H0 G0 σ H G ρ)(i:Nat){d:D}{v:V}(r:Rp K G d v):SR K H0 G0 (σ.set i (some v)) H G (ρ.set i (some (.sh d))):=by
 refine⟨s.gr,by simp[s.len],fun j e h=>?_,fun j l h=>?_,fun j k l l' a b h1 h2 h3 h4 h5=>?_,fun j t ks vs h=>?_,fun j k t ks vs t' ks' vs' a b h1 h2 h3 h4 h5=>?_⟩
 ·rcases Yn h with⟨rfl,e1,hl⟩ | ⟨hj,h⟩
  ·cases e1
   exact⟨v,by rw[List.getElem?_set_self (by rw[s.len];exact hl)],r⟩
  ·obtain⟨w,q1,q2⟩:=s.sh j e h
   exact⟨w,by rw[qy (Ne.symm hj)];exact q1,q2⟩
 ·rcases Yn h with⟨rfl,e1,hl⟩ | ⟨hj,h⟩
  ·cases e1
  ·obtain⟨a,xs,q1,q2⟩:=s.ow j l h
   exact⟨a,xs,by rw[qy (Ne.symm hj)];exact q1,q2⟩
 ·rcases Yn h1 with⟨rfl,e1,_⟩ | ⟨hj,h1⟩
  ·cases e1
  ·rcases Yn h2 with⟨rfl,e1,_⟩ | ⟨hk,h2⟩
   ·cases e1
   ·rw[qy (Ne.symm hj)]at h4
    rw[qy (Ne.symm hk)]at h5
    exact s.ap j k l l' a b h1 h2 h3 h4 h5
 ·rcases Yn h with⟨rfl,e1,hl⟩ | ⟨hj,h⟩
  ·cases e1
  ·obtain⟨a,kxs,vxs,q1,q2⟩:=s.od j t ks vs h
   exact⟨a,kxs,vxs,by rw[qy (Ne.symm hj)];exact q1,q2⟩
 ·rcases Yn h1 with⟨rfl,e1,_⟩ | ⟨hj,h1⟩
  ·cases e1
  ·rcases Yn h2 with⟨rfl,e1,_⟩ | ⟨hk,h2⟩
   ·cases e1
   ·rw[qy (Ne.symm hj)]at h4
    rw[qy (Ne.symm hk)]at h5
    exact s.apd j k t ks vs t' ks' vs' a b h1 h2 h3 h4 h5
theorem SR.set_ow(s:SR K H0 G0 σ H G ρ)(i:Nat){l:List D}{p:Addr}{xs:List V}(g:Gr H G H' G')(hp:H p=none)(gp:G' p=none)(e:H' p=some (.lst xs))(r:RpL K G' l xs):SR K H0 G0 (σ.set i (some (.ref p))) H' G' (ρ.set i (some (.ow l))):=by
 have s':=s.grow g
 have np:∀(j:Nat) l a,ρ[j]?=some (some (B.ow l))->σ[j]?=some (some (V.ref a))->a≠p:=fun j l a h1 h2 z=>by
  obtain⟨b,ys,q1,_,_,q4,_⟩:=s.ow j l h1
  rw[h2]at q1
  cases q1
  rw[z,hp]at q4
  cases q4
 refine⟨s'.gr,by simp[s.len],fun j e h=>?_,fun j l h=>?_,fun j k l l' a b h1 h2 h3 h4 h5=>?_,fun j t ks vs h=>?_,fun j k t ks vs t' ks' vs' a b h1 h2 h3 h4 h5=>?_⟩
 ·rcases Yn h with⟨rfl,e1,hl⟩ | ⟨hj,h⟩
  ·cases e1
  ·obtain⟨w,q1,q2⟩:=s'.sh j e h
   exact⟨w,by rw[qy (Ne.symm hj)];exact q1,q2⟩
 ·rcases Yn h with⟨rfl,e1,hl⟩ | ⟨hj,h⟩
  ·cases e1
   exact⟨p,xs,by rw[List.getElem?_set_self (by rw[s.len];exact hl)],gp,s.gr.h.free hp,e,r⟩
  ·obtain⟨a,xs,q1,q2⟩:=s'.ow j l h
   exact⟨a,xs,by rw[qy (Ne.symm hj)];exact q1,q2⟩
 ·rcases Yn h1 with⟨rfl,e1,hl⟩ | ⟨hj,h1n⟩
  ·rcases Yn h2 with⟨rfl,e2,_⟩ | ⟨hk,h2⟩
   ·exact absurd rfl h3
   ·rw[List.getElem?_set_self (by rw[s.len];exact hl)]at h4
    cases h4
    rw[qy (Ne.symm hk)]at h5
    exact Ne.symm (np k l' b h2 h5)
  ·rcases Yn h2 with⟨rfl,e2,hl⟩ | ⟨hk,h2⟩
   ·rw[List.getElem?_set_self (by rw[s.len];exact hl)]at h5
    cases h5
    rw[qy (Ne.symm hj)]at h4
    exact np j l a h1n h4
   ·rw[qy (Ne.symm hj)]at h4
    rw[qy (Ne.symm hk)]at h5
    exact s.ap j k l l' a b h1n h2 h3 h4 h5
 ·rcases Yn h with⟨rfl,e1,hl⟩ | ⟨hj,h⟩
  ·cases e1
  ·obtain⟨a,kxs,vxs,q1,q2⟩:=s'.od j t ks vs h
   exact⟨a,kxs,vxs,by rw[qy (Ne.symm hj)];exact q1,q2⟩
 ·rcases Yn h1 with⟨rfl,e1,_⟩ | ⟨hj,h1⟩
  ·cases e1
  ·rcases Yn h2 with⟨rfl,e1,_⟩ | ⟨hk,h2⟩
   ·cases e1
   ·rw[qy (Ne.symm hj)]at h4
    rw[qy (Ne.symm hk)]at h5
    exact s.apd j k t ks vs t' ks' vs' a b h1 h2 h3 h4 h5
theorem SR.mut(s:SR K H0 G0 σ H G ρ){i:Nat}{l l':List D}{a:Addr}{ys:List V}(hi:ρ[i]?=some (some (B.ow l)))(ha:σ[i]?=some (some (V.ref a)))(r:RpL K G l' ys):SR K H0 G0 σ (upd H a (.lst ys)) G (ρ.set i (some (.ow l'))):=by
 obtain⟨a',xs,q1,q2,q3,q4,q5⟩:=s.ow i l hi
 rw[ha]at q1
 cases q1
 have hl:i < ρ.length:=(qm hi).1
 refine⟨⟨fun b o e=>?_,s.gr.g,fun b o e=>?_,s.gr.n⟩,by simp[s.len],fun j e h=>?_,fun j m h=>?_,fun j k m m' b c h1 h2 h3 h4 h5=>?_,fun j t ks vs h=>?_,fun j k t ks vs t' ks' vs' b c h1 h2 h3 h4 h5=>?_⟩
 ·rw[Yaa (Yab e q3)];exact s.gr.h b o e
 ·rw[Yaa (Yab e q2)];exact s.gr.s b o e
 ·rcases Yn h with⟨rfl,e1,_⟩ | ⟨hj,h⟩
  ·cases e1
  ·exact s.sh j e h
 ·rcases Yn h with⟨rfl,e1,_⟩ | ⟨hj,h⟩
  ·cases e1
   exact⟨a,ys,ha,q2,q3,Yy,r⟩
  ·obtain⟨b,zs,p1,p2,p3,p4,p5⟩:=s.ow j m h
   exact⟨b,zs,p1,p2,p3,by rw[Yaa (s.ap j i m l b a h hi hj p1 ha)];exact p4,p5⟩
 ·have old:∀(j:Nat) m,(ρ.set i (some (.ow l')))[j]?=some (some (B.ow m))->∃m',ρ[j]?=some (some (B.ow m')):=fun j m h=>by
   rcases Yn h with⟨rfl,_,_⟩ | ⟨_,h⟩
   ·exact⟨l,hi⟩
   ·exact⟨m,h⟩
  obtain⟨n1,e1⟩:=old j m h1
  obtain⟨n2,e2⟩:=old k m' h2
  exact s.ap j k n1 n2 b c e1 e2 h3 h4 h5
 ·rcases Yn h with⟨rfl,e1,_⟩ | ⟨hj,h⟩
  ·cases e1
  ·obtain⟨b,kxs,vxs,p1,p2,p3,p4,p5⟩:=s.od j t ks vs h
   refine⟨b,kxs,vxs,p1,p2,p3,p4.mono (Same.refl _) fun o q=>?_,p5⟩
   obtain⟨o',q',nl⟩:=p4.some
   rw[q]at q'
   cases q'
   rw[Yaa (fun z=>by rw[z,q4]at q;cases q;exact nl _ rfl)];exact q
 ·rcases Yn h1 with⟨rfl,e1,_⟩ | ⟨hj,h1⟩
  ·cases e1
  ·rcases Yn h2 with⟨rfl,e1,_⟩ | ⟨hk,h2⟩
   ·cases e1
   ·exact s.apd j k t ks vs t' ks' vs' b c h1 h2 h3 h4 h5
theorem SR.freezeT(s:SR K H0 G0 σ H G ρ){i:Nat}{l:List D}(hi:ρ[i]?=some (some (B.ow l))):∃G',SR K H0 G0 σ H G' (ρ.set i (some (.sh (.lst l))))/\∀b ys,G' b=some (.tup ys)->G b=some (.tup ys):=by
 obtain⟨a,xs,q1,q2,q3,q4,q5⟩:=s.ow i l hi
 have hl:i < ρ.length:=(qm hi).1
 have sm:Same G (upd G a (.lst xs)):=fun b o e=>by rw[Yaa (Yab e q2)];exact e
 refine⟨upd G a (.lst xs),?_,fun b ys e=>by
  by_cases z:b=a
  ·subst z;rw[Yy]at e;cases e
  ·rw[Yaa z]at e;exact e⟩
 refine⟨⟨s.gr.h,s.gr.g.trans sm,fun b o e=>?_,fun b h h'=>?_⟩,by simp[s.len],fun j e h=>?_,fun j m h=>?_,fun j k m m' b c h1 h2 h3 h4 h5=>?_,fun j t ks vs h=>?_,fun j k t ks vs t' ks' vs' b c h1 h2 h3 h4 h5=>?_⟩
 ·by_cases z:b=a
  ·subst z;rw[Yy]at e;rw[q4];exact e
  ·rw[Yaa z]at e;exact s.gr.s b o e
 ·by_cases z:b=a
  ·subst z;exact q3
  ·rw[Yaa z]at h';exact s.gr.n b h h'
 ·rcases Yn h with⟨rfl,e1,_⟩ | ⟨hj,h⟩
  ·cases e1
   exact⟨_,q1,by rw[Rp];exact⟨a,xs,rfl,.inl Yy,q5.mono sm⟩⟩
  ·obtain⟨v,p1,p2⟩:=s.sh j e h
   exact⟨v,p1,p2.mono sm⟩
 ·rcases Yn h with⟨rfl,e1,_⟩ | ⟨hj,h⟩
  ·cases e1
  ·obtain⟨b,zs,p1,p2,p3,p4,p5⟩:=s.ow j m h
   exact⟨b,zs,p1,by rw[Yaa (s.ap j i m l b a h hi hj p1 q1)];exact p2,p3,p4,p5.mono sm⟩
 ·rcases Yn h1 with⟨rfl,e1,_⟩ | ⟨hj,h1⟩
  ·cases e1
  ·rcases Yn h2 with⟨rfl,e1,_⟩ | ⟨hk,h2⟩
   ·cases e1
   ·exact s.ap j k m m' b c h1 h2 h3 h4 h5
 ·rcases Yn h with⟨rfl,e1,_⟩ | ⟨hj,h⟩
  ·cases e1
  ·obtain⟨b,kxs,vxs,p1,p2,p3,p4,p5,p6⟩:=s.od j t ks vs h
   obtain⟨o',q',nl⟩:=p4.some
   exact⟨b,kxs,vxs,p1,by rw[Yaa (fun z=>by rw[z,q4]at q';cases q';exact nl _ rfl)];exact p2,p3,p4.mono sm fun _ z=>z,p5.mono sm,p6.mono sm⟩
 ·rcases Yn h1 with⟨rfl,e1,_⟩ | ⟨hj,h1⟩
  ·cases e1
  ·rcases Yn h2 with⟨rfl,e1,_⟩ | ⟨hk,h2⟩
   ·cases e1
   ·exact s.apd j k t ks vs t' ks' vs' b c h1 h2 h3 h4 h5
theorem SR.freeze(s:SR K H0 G0 σ H G ρ){i:Nat}{l:List D}(hi:ρ[i]?=some (some (B.ow l))):∃G',SR K H0 G0 σ H G' (ρ.set i (some (.sh (.lst l)))):=by
 obtain⟨G',h,_⟩:=s.freezeT hi
 exact⟨G',h⟩
theorem SR.freezedT(s:SR K H0 G0 σ H G ρ){i:Nat}{t:Bool}{ks vs:List D}(hi:ρ[i]?=some (some (B.od t ks vs))):∃G',SR K H0 G0 σ H G' (ρ.set i (some (.sh (.dct t ks vs))))/\∀b ys,G' b=some (.tup ys)->G b=some (.tup ys):=by
 obtain⟨a,kxs,vxs,q1,q2,q3,q4,q5,q6⟩:=s.od i t ks vs hi
 obtain⟨o,q7,nl⟩:=q4.some
 have hl:i < ρ.length:=(qm hi).1
 have sm:Same G (upd G a o):=fun b o e=>by rw[Yaa (Yab e q2)];exact e
 obtain⟨oT,q8,nt⟩:=q4.someT
 rw[q7]at q8
 cases q8
 refine⟨upd G a o,?_,fun b ys e=>by
  by_cases z:b=a
  ·subst z;rw[Yy]at e;cases e;exact absurd rfl (nt _)
  ·rw[Yaa z]at e;exact e⟩
 refine⟨⟨s.gr.h,s.gr.g.trans sm,fun b o' e=>?_,fun b h h'=>?_⟩,by simp[s.len],fun j e h=>?_,fun j m h=>?_,fun j k m m' b c h1 h2 h3 h4 h5=>?_,fun j t ks vs h=>?_,fun j k t ks vs t' ks' vs' b c h1 h2 h3 h4 h5=>?_⟩
 ·by_cases z:b=a
  ·subst z;rw[Yy]at e;rw[q7];exact e
  ·rw[Yaa z]at e;exact s.gr.s b o' e
 ·by_cases z:b=a
  ·subst z;exact q3
  ·rw[Yaa z]at h';exact s.gr.n b h h'
 ·rcases Yn h with⟨rfl,e1,_⟩ | ⟨hj,h⟩
  ·cases e1
   refine⟨_,q1,?_⟩
   rw[Rp]
   refine⟨a,kxs,vxs,rfl,q4.mono sm fun o' z=>?_,q5.mono sm,q6.mono sm⟩
   rw[q7]at z
   rw[Yy];exact z
  ·obtain⟨v,p1,p2⟩:=s.sh j e h
   exact⟨v,p1,p2.mono sm⟩
 ·rcases Yn h with⟨rfl,e1,_⟩ | ⟨hj,h⟩
  ·cases e1
  ·obtain⟨b,zs,p1,p2,p3,p4,p5⟩:=s.ow j m h
   exact⟨b,zs,p1,by rw[Yaa (fun z=>by rw[z,q7]at p4;cases p4;exact nl _ rfl)];exact p2,p3,p4,p5.mono sm⟩
 ·rcases Yn h1 with⟨rfl,e1,_⟩ | ⟨hj,h1⟩
  ·cases e1
  ·rcases Yn h2 with⟨rfl,e1,_⟩ | ⟨hk,h2⟩
   ·cases e1
   ·exact s.ap j k m m' b c h1 h2 h3 h4 h5
 ·rcases Yn h with⟨rfl,e1,_⟩ | ⟨hj,h⟩
  ·cases e1
  ·obtain⟨b,kx,vx,p1,p2,p3,p4,p5,p6⟩:=s.od j t ks vs h
   exact⟨b,kx,vx,p1,by rw[Yaa (s.apd j i _ _ _ _ _ _ b a h hi hj p1 q1)];exact p2,p3,p4.mono sm fun _ z=>z,p5.mono sm,p6.mono sm⟩
 ·rcases Yn h1 with⟨rfl,e1,_⟩ | ⟨hj,h1⟩
  ·cases e1
  ·rcases Yn h2 with⟨rfl,e1,_⟩ | ⟨hk,h2⟩
   ·cases e1
   ·exact s.apd j k t ks vs t' ks' vs' b c h1 h2 h3 h4 h5
theorem SR.freezed(s:SR K H0 G0 σ H G ρ){i:Nat}{t:Bool}{ks vs:List D}(hi:ρ[i]?=some (some (B.od t ks vs))):∃G',SR K H0 G0 σ H G' (ρ.set i (some (.sh (.dct t ks vs)))):=by
 obtain⟨G',h,_⟩:=s.freezedT hi
 exact⟨G',h⟩
def Le(ρ ρ':Ro):Prop:=ρ.length=ρ'.length/\∀(i:Nat) b,ρ[i]?=some (some b)->ρ'[i]?=some (some b)
theorem SR.le{ρ':Ro}(s:SR K H0 G0 σ H G ρ')(h:Le ρ ρ'):SR K H0 G0 σ H G ρ:=
 ⟨s.gr,s.len.trans h.1.symm,fun i d e=>s.sh i d (h.2 i _ e),fun i l e=>s.ow i l (h.2 i _ e),fun i j l l' a b e1 e2=>s.ap i j l l' a b (h.2 i _ e1) (h.2 j _ e2),
  fun i t ks vs e=>s.od i t ks vs (h.2 i _ e),fun i j t ks vs t' ks' vs' a b e1 e2=>s.apd i j t ks vs t' ks' vs' a b (h.2 i _ e1) (h.2 j _ e2)⟩
theorem SR.rebase(s:SR K H0 G0 σ H G ρ):∃H1,SR K H1 G σ H G ρ/\∀σ' H' G' ρ',SR K H1 G σ' H' G' ρ'->SR K H0 G0 σ' H' G' ρ':=by
 classical
 let own:Addr->Prop:=fun a=>∃(i:Nat),((∃l:List D,ρ[i]?=some (some (B.ow l)))\/(∃t ks vs,ρ[i]?=some (some (B.od t ks vs))))/\σ[i]?=some (some (V.ref a))
 have h0:∀a,own a->H0 a=none:=fun a hx_=>by
  obtain⟨i,e1,e2⟩:=hx_
  rcases e1 with⟨l,e1⟩ | ⟨t,ks,vs,e1⟩
  ·obtain⟨b,xs,q1,_,q3,_⟩:=s.ow i l e1
   rw[e2]at q1;cases q1;exact q3
  ·obtain⟨b,kxs,vxs,q1,_,q3,_⟩:=s.od i t ks vs e1
   rw[e2]at q1;cases q1;exact q3
 have back:∀a,(if own a then (none:Option HO)else H a)=none->H0 a=none:=fun a h=>by
  by_cases o:own a
  ·exact h0 a o
  ·rw[if_neg o]at h;exact s.gr.h.free h
 refine⟨fun a=>if own a then none else H a,⟨⟨fun b o e=>?_,Same.refl _,s.gr.s,fun _ h h'=>absurd h h'⟩,s.len,s.sh,fun i l e=>?_,s.ap,fun i t ks vs e=>?_,s.apd⟩,fun σ' H' G' ρ' t=>⟨⟨fun b o e=>?_,s.gr.g.trans t.gr.g,t.gr.s,fun b h h'=>?_⟩,t.len,t.sh,fun i l e=>?_,t.ap,fun i t1 ks vs e=>?_,t.apd⟩⟩
 ·by_cases z:own b
  ·simp only[if_pos z]at e;cases e
  ·simp only[if_neg z]at e;exact e
 ·obtain⟨a,xs,q1,q2,q3,q4,q5⟩:=s.ow i l e
  exact⟨a,xs,q1,q2,if_pos ⟨i,.inl ⟨l,e⟩,q1⟩,q4,q5⟩
 ·obtain⟨a,kxs,vxs,q1,q2,q3,q4⟩:=s.od i t ks vs e
  exact⟨a,kxs,vxs,q1,q2,if_pos ⟨i,.inr ⟨t,ks,vs,e⟩,q1⟩,q4⟩
 ·refine t.gr.h b o ?_
  have z:¬own b:=fun z=>by rw[h0 b z]at e;cases e
  show(if own b then none else H b)=some o
  rw[if_neg z];exact s.gr.h b o e
 ·by_cases z:G b=none
  ·exact back b (t.gr.n b z h')
  ·exact s.gr.n b h z
 ·obtain⟨a,xs,q1,q2,q3,q4,q5⟩:=t.ow i l e
  exact⟨a,xs,q1,q2,back a q3,q4,q5⟩
 ·obtain⟨a,kxs,vxs,q1,q2,q3,q4⟩:=t.od i t1 ks vs e
  exact⟨a,kxs,vxs,q1,q2,back a q3,q4⟩
end
def tOf(K:W.Frag)(f:Ro->Option D):TE:=fun σ H Q=>∃ρ d H0 G0 G,f ρ=some d/\SR K H0 G0 σ H G ρ/\∀v H' G',Gr H G H' G'->Rp K G' d v->Q v H'
def tCof(K:W.Frag)(f:Ro->Option D):TE:=fun σ H Q=>∃ρ d H0 G0 G,f ρ=some d/\SR K H0 G0 σ H G ρ/\∀v H' G',Gr H G H' G'->Ct K G' H' d v->Q v H'
def tCAof(K:W.Frag)(f:Ro->Option (List D)):TA:=fun σ H Q=>∃ρ l H0 G0 G,f ρ=some l/\SR K H0 G0 σ H G ρ/\∀vs H' G',Gr H G H' G'->CtL K G' H' l vs->Q vs H'
def tFof(K:W.Frag)(f:Ro->Option (List D)):TE:=fun σ H Q=>∃ρ l H0 G0 G,f ρ=some l/\SR K H0 G0 σ H G ρ/\∀p xs H' G',Gr H G H' G'->H p=none->G' p=none->H' p=some (.lst xs)->RpL K G' l xs->Q (.ref p) H'
def tTof(K:W.Frag)(f:Ro->Option Bool):TT:=fun σ H Q=>∃ρ b H0 G0 G,f ρ=some b/\SR K H0 G0 σ H G ρ/\∀H' G',Gr H G H' G'->Q b H'
def tAof(K:W.Frag)(f:Ro->Option (List D)):TA:=fun σ H Q=>∃ρ l H0 G0 G,f ρ=some l/\SR K H0 G0 σ H G ρ/\∀vs H' G',Gr H G H' G'->RpL K G' l vs->Q vs H'
def Wk(K:W.Frag)(J:It)(G':Hp)(ds:List D):Prop:=ds.length<=sizeLine/\∀(i:Nat) H2 G2,Same G' G2->Same G2 H2->
 (∀d,ds[i]?=some d->J.go i H2/\∀y H3,J.yld i H2 y H3->∃G3,Gr H2 G2 H3 G3/\Rp K G3 d y)/\(ds.length<=i->J.stop i H2)
def tIof(K:W.Frag)(f:Ro->Option (List D)):TI:=fun σ H R=>∃ρ ds H0 G0 G,f ρ=some ds/\SR K H0 G0 σ H G ρ/\∀J H' G',Gr H G H' G'->Wk K J G' ds->R J H'
inductive Out where
 | nx (ρ:Ro) | rt (d:D) | bk (ρ:Ro) | ct (ρ:Ro)
def Cont(K:W.Frag)(H0 G0:Hp)(F:Ends):Out->Prop
 | .nx ρ'=>∀σ' H' G',SR K H0 G0 σ' H' G' ρ'->F.nx σ' H'
 | .rt d=>∀v H' G',Gr H0 G0 H' G'->Rp K G' d v->F.rt v H'
 | .bk ρ'=>∀σ' H' G',SR K H0 G0 σ' H' G' ρ'->F.bk σ' H'
 | .ct ρ'=>∀σ' H' G',SR K H0 G0 σ' H' G' ρ'->F.ct σ' H'
def sOf(K:W.Frag)(f:Ro->Option Out):TS:=fun F σ H=>∃ρ out H0 G0 G,f ρ=some out/\SR K H0 G0 σ H G ρ/\Cont K H0 G0 F out
def gOf(K:W.Frag)(gt:D->Ro->Option Ro):TG:=fun v σ H Q=>∃d ρ ρ' H0 G0 G,gt d ρ=some ρ'/\SR K H0 G0 σ H G ρ/\Rp K G d v/\∀σ',SR K H0 G0 σ' H G ρ'->Q σ' H
abbrev ME(X:Cx)(e:Expr)(f:Ro->Option D):Prop:=PE X e (tOf X.K f)
abbrev MC(X:Cx)(e:Expr)(f:Ro->Option D):Prop:=PE X e (tCof X.K f)
abbrev MCA(X:Cx)(es:List Expr)(f:Ro->Option (List D)):Prop:=PA X es (tCAof X.K f)
abbrev MF(X:Cx)(e:Expr)(f:Ro->Option (List D)):Prop:=PE X e (tFof X.K f)
abbrev MT(X:Cx)(e:Expr)(f:Ro->Option Bool):Prop:=PT X e (tTof X.K f)
abbrev MA(X:Cx)(es:List Expr)(f:Ro->Option (List D)):Prop:=PA X es (tAof X.K f)
abbrev MI(X:Cx)(tg iter:Expr)(f:Ro->Option (List D)):Prop:=PI X tg iter (tIof X.K f)
abbrev MS(X:Cx)(st:Stmt)(f:Ro->Option Out):Prop:=PS X st (sOf X.K f)
abbrev MB(X:Cx)(sts:List Stmt)(f:Ro->Option Out):Prop:=PSs X sts (sOf X.K f)
abbrev MG(X:Cx)(tg:Expr)(gt:D->Ro->Option Ro):Prop:=PG X tg (gOf X.K gt)
section
variable {X:Cx}
theorem PE.imp{e:Expr}{t t':TE}(h:PE X e t)(i:∀σ H Q,t' σ H Q->t σ H Q):PE X e t':=fun pins s σ H Q I hw=>h pins s σ H Q I (i σ H Q hw)
theorem PT.imp{e:Expr}{t t':TT}(h:PT X e t)(i:∀σ H Q,t' σ H Q->t σ H Q):PT X e t':=fun pins s σ H Q I hw=>h pins s σ H Q I (i σ H Q hw)
theorem PA.imp{es:List Expr}{t t':TA}(h:PA X es t)(i:∀σ H Q,t' σ H Q->t σ H Q):PA X es t':=fun pos pins s σ H Q I hw=>h pos pins s σ H Q I (i σ H Q hw)
theorem PS.imp{st:Stmt}{t t':TS}(h:PS X st t)(i:∀F σ H,t' F σ H->t F σ H):PS X st t':=fun pins s σ H F I hw=>h pins s σ H F I (i F σ H hw)
theorem PSs.imp{st:List Stmt}{t t':TS}(h:PSs X st t)(i:∀F σ H,t' F σ H->t F σ H):PSs X st t':=fun pins s σ H F I hw=>h pins s σ H F I (i F σ H hw)
theorem PI.imp{tg e:Expr}{t t':TI}(h:PI X tg e t)(i:∀σ H R,t' σ H R->t σ H R):PI X tg e t':=fun pins s σ H R I hw=>h pins s σ H R I (i σ H R hw)
theorem PG.imp{e:Expr}{t t':TG}(h:PG X e t)(i:∀v σ H Q,t' v σ H Q->t v σ H Q):PG X e t':=fun pins s σ H v u Q I r hw=>h pins s σ H v u Q I r (i v σ H Q hw)
variable {H0 G0 H G:Hp} {σ:L2.St} {ρ:Ro}
theorem tOf.at{f:Ro->Option D}{d:D}{Q:VK}(e:f ρ=some d)(s:SR K H0 G0 σ H G ρ)(h:∀v H' G',Gr H G H' G'->Rp K G' d v->SR K H0 G0 σ H' G' ρ->Q v H'):tOf K f σ H Q:=
 ⟨ρ,d,H0,G0,G,e,s,fun v H' G' g r=>h v H' G' g r (s.grow g)⟩
theorem tCof.at{f:Ro->Option D}{d:D}{Q:VK}(e:f ρ=some d)(s:SR K H0 G0 σ H G ρ)(h:∀v H' G',Gr H G H' G'->Ct K G' H' d v->SR K H0 G0 σ H' G' ρ->Q v H'):tCof K f σ H Q:=
 ⟨ρ,d,H0,G0,G,e,s,fun v H' G' g r=>h v H' G' g r (s.grow g)⟩
theorem tCAof.at{f:Ro->Option (List D)}{l:List D}{Q:List V->Hp->Prop}(e:f ρ=some l)(s:SR K H0 G0 σ H G ρ)(h:∀vs H' G',Gr H G H' G'->CtL K G' H' l vs->SR K H0 G0 σ H' G' ρ->Q vs H'):tCAof K f σ H Q:=
 ⟨ρ,l,H0,G0,G,e,s,fun v H' G' g r=>h v H' G' g r (s.grow g)⟩
theorem ME.mc{e:Expr}{f:Ro->Option D}(h:ME X e f):MC X e f:=PE.imp h fun σ H Q ⟨ρ,d,H0,G0,G,e,s,h⟩=>⟨ρ,d,H0,G0,G,e,s,fun v H' G' g r=>h v H' G' g (.of g.s r)⟩
theorem tTof.at{f:Ro->Option Bool}{b:Bool}{Q:Bool->Hp->Prop}(e:f ρ=some b)(s:SR K H0 G0 σ H G ρ)(h:∀H' G',Gr H G H' G'->SR K H0 G0 σ H' G' ρ->Q b H'):tTof K f σ H Q:=
 ⟨ρ,b,H0,G0,G,e,s,fun H' G' g=>h H' G' g (s.grow g)⟩
theorem tAof.at{f:Ro->Option (List D)}{l:List D}{Q:List V->Hp->Prop}(e:f ρ=some l)(s:SR K H0 G0 σ H G ρ)(h:∀vs H' G',Gr H G H' G'->RpL K G' l vs->SR K H0 G0 σ H' G' ρ->Q vs H'):tAof K f σ H Q:=
 ⟨ρ,l,H0,G0,G,e,s,fun v H' G' g r=>h v H' G' g r (s.grow g)⟩
end
end
section
variable {K:W.Frag}
def b2{α:Type}(fa fb:Ro->Option D)(g:D->D->Option α):Ro->Option α:=fun ρ=>(fa ρ).bind fun x=>(fb ρ).bind fun y=>g x y
def b1{α:Type}(fa:Ro->Option D)(g:D->Option α):Ro->Option α:=fun ρ=>(fa ρ).bind g
theorem Yiq{α:Type}{fa fb:Ro->Option D}{g:D->D->Option α}{ρ:Ro}{r:α}(h:b2 fa fb g ρ=some r):∃x y,fa ρ=some x/\fb ρ=some y/\g x y=some r:=by
 unfold b2 at h
 obtain⟨x,h1,h⟩:=qa h
 obtain⟨y,h2,h⟩:=qa h
 exact⟨x,y,h1,h2,h⟩
theorem Yc5{α:Type}{fa:Ro->Option D}{g:D->Option α}{ρ:Ro}{r:α}(h:b1 fa g ρ=some r):∃x,fa ρ=some x/\g x=some r:=by
 unfold b1 at h
 obtain⟨x,h1,h⟩:=qa h
 exact⟨x,h1,h⟩
def Sem2(K:W.Frag)(r:R2)(g:D->D->Option D):Prop:=∀(x y:V) (dx dy d:D) (H G:Hp) (Q:VK),g dx dy=some d->Same G H->Ct K G H dx x->Ct K G H dy y->(∀v H' G',Gr H G H' G'->Rp K G' d v->Q v H')->r x y H Q
def Yey(K:W.Frag)(r:R2)(g:D->D->Option Bool):Prop:=∀(x y:V) (dx dy:D) (b:Bool) (H G:Hp) (Q:VK),g dx dy=some b->Same G H->Ct K G H dx x->Ct K G H dy y->Q (.bl b) H->r x y H Q
def SemC(K:W.Frag)(r:List V->Hp->VK->Prop)(g:List D->Option D):Prop:=∀(vs:List V) (ds:List D) (d:D) (H G:Hp) (Q:VK),g ds=some d->Same G H->CtL K G H ds vs->(∀v H' G',Gr H G H' G'->Rp K G' d v->Q v H')->r vs H Q
def SemF(K:W.Frag)(r:List V->Hp->VK->Prop)(g:List D->Option (List D)):Prop:=∀(vs:List V) (ds l:List D) (H G:Hp) (Q:VK),g ds=some l->Same G H->CtL K G H ds vs->
 (∀p xs H' G',Gr H G H' G'->H p=none->G' p=none->H' p=some (.lst xs)->RpL K G' l xs->Q (.ref p) H')->r vs H Q
section
variable {X:Cx} {a b c e:Expr} {es:List Expr} {fa fb fc f:Ro->Option D} {ga:Ro->Option (List D)} {pos:Pos}
def getV(i:Nat):Ro->Option D:=fun ρ=>match ρ[i]? with
 | some (some (B.sh d))=>some d
 | _=>none
def getO(i:Nat):Ro->Option (List D):=fun ρ=>match ρ[i]? with
 | some (some (B.ow l))=>some l
 | _=>none
theorem Ygt{i:Nat}{ρ:Ro}{d:D}(h:getV i ρ=some d):ρ[i]?=some (some (B.sh d)):=by
 unfold getV at h
 split at h
 ·cases h;assumption
 ·cases h
theorem Ygu{i:Nat}{ρ:Ro}{l:List D}(h:getO i ρ=some l):ρ[i]?=some (some (B.ow l)):=by
 unfold getO at h
 split at h
 ·cases h;assumption
 ·cases h
theorem Yvq(i:Nat){x:Str}(hN:X.N[i]?=some x:=by rfl)(hv:Vis X.env.scope x:=by first | exact Or.inl rfl | exact Or.inr (Or.inl rfl) | exact Or.inr (Or.inr rfl))(hd:(x==("__debug__":Str))=false:=by decide)
 (hcd:(x==("__classdict__":Str))=false:=by decide):ME X (.Name x pos) (getV i):=
 PE.imp (Yhv hN hv hd hcd) fun σ H Q hx_=>by
  obtain⟨ρ,d,H0,G0,G,e,s,h⟩:=hx_
  obtain⟨v,h1,h2⟩:=s.sh i d (Ygt e)
  exact⟨v,h1,h v H G (.refl s.seen) h2⟩
def getC(i:Nat):Ro->Option D:=fun ρ=>match ρ[i]? with
 | some (some (B.sh d))=>some d
 | some (some (B.ow l))=>some (.lst l)
 | some (some (B.od t ks vs))=>some (.dct t ks vs)
 | _=>none
theorem Yvr(i:Nat){x:Str}(hN:X.N[i]?=some x:=by rfl)(hv:Vis X.env.scope x:=by first | exact Or.inl rfl | exact Or.inr (Or.inl rfl) | exact Or.inr (Or.inr rfl))(hd:(x==("__debug__":Str))=false:=by decide)
 (hcd:(x==("__classdict__":Str))=false:=by decide):MC X (.Name x pos) (getC i):=
 PE.imp (Yhv hN hv hd hcd) fun σ H Q hx_=>by
  obtain⟨ρ,d,H0,G0,G,e,s,h⟩:=hx_
  unfold getC at e
  split at e
  ·rename_i d' hd'
   cases e
   obtain⟨v,h1,h2⟩:=s.sh i _ hd'
   exact⟨v,h1,h v H G (.refl s.seen) (.of s.seen h2)⟩
  ·rename_i l hl
   cases e
   obtain⟨a,xs,h1,h2,h3,h4,h5⟩:=s.ow i l hl
   exact⟨_,h1,h _ H G (.refl s.seen) (by rw[Ct];exact⟨a,xs,rfl,.inl h4,h5⟩)⟩
  ·rename_i t ks vs hl
   cases e
   obtain⟨a,kxs,vxs,h1,h2,h3,h4,h5⟩:=s.od i t ks vs hl
   exact⟨_,h1,h _ H G (.refl s.seen) (by rw[Ct];exact⟨a,kxs,vxs,rfl,h4,h5⟩)⟩
  ·cases e
def kD(d:D):Ro->Option D:=fun _=>some d
theorem Yez{v:V}{d:D}{t:TE}(h:PE X e t)(ht:∀σ H Q,Q v H->t σ H Q)(hr:∀G,Rp X.K G d v):ME X e (kD d):=
 PE.imp h fun σ H Q hx_=>by
  obtain⟨ρ,d',H0,G0,G,e,s,h⟩:=hx_
  cases e
  exact ht σ H Q (h v H G (.refl s.seen) (hr G))
theorem Yvs{i:Int}{j}:ME X (.Constant (.int i) j pos) (kD (.int i)):=Yez (v:=.int i) Yuv (fun _ _ _ q=>q) fun _=>by rw[Rp]
theorem Yx3{k:Bool}{j}:ME X (.Constant (.bool k) j pos) (kD (.bl k)):=Yez (v:=.bl k) Yxp (fun _ _ _ q=>q) fun _=>by rw[Rp]
theorem Yvt{j}:ME X (.Constant .none j pos) (kD .non):=Yez (v:=.non) Yuw (fun _ _ _ q=>q) fun _=>by rw[Rp]
theorem Yvu{x:Str}{j}(hx:PyData.strOk x=true:=by decide +kernel):ME X (.Constant (.str x) j pos) (kD (.str x)):=Yez (v:=.str x) Yux (fun _ _ _ q=>q) fun _=>by rw[Rp];exact⟨rfl,hx⟩
theorem Yrz{r:R2}{g:D->D->Option D}(hr:Sem2 K r g){σ:L2.St}{H:Hp}{Q:VK}(h:tOf K (b2 fa fb g) σ H Q):tOp r (tCof K fa) (tCof K fb) σ H Q:=by
 obtain⟨ρ,d,H0,G0,G,e,s,h⟩:=h
 obtain⟨dx,dy,h1,h2,h3⟩:=Yiq e
 exact tCof.at h1 s fun v H1 G1 g1 r1 s1=>tCof.at h2 s1 fun u H2 G2 g2 r2 s2=>hr v u dx dy d H2 G2 Q h3 s2.seen (r1.grow g2) r2 fun w H' G' g3 r3=>h w H' G' ((g1.trans g2).trans g3) r3
theorem Ys4{r:R2}{g:D->D->Option Bool}(hr:Yey K r g){σ:L2.St}{H:Hp}{Q:Bool->Hp->Prop}(h:tTof K (b2 fa fb g) σ H Q):Yvd (tOp r (tCof K fa) (tCof K fb)) σ H Q:=by
 obtain⟨ρ,d,H0,G0,G,e,s,h⟩:=h
 obtain⟨dx,dy,h1,h2,h3⟩:=Yiq e
 exact tCof.at h1 s fun v H1 G1 g1 r1 s1=>tCof.at h2 s1 fun u H2 G2 g2 r2 s2=>hr v u dx dy d H2 G2 _ h3 s2.seen (r1.grow g2) r2 ⟨d,rfl,h H2 G2 (g1.trans g2)⟩
def mB(f:Ro->Option Bool):Ro->Option D:=fun ρ=>(f ρ).map D.bl
theorem Yk2{f:Ro->Option Bool}{ρ:Ro}{d:D}(h:mB f ρ=some d):∃b,f ρ=some b/\d=.bl b:=by
 unfold mB at h
 obtain⟨b,h1,h2⟩:=qb h
 exact⟨b,h1,h2.symm⟩
theorem Yqi{r:R2}{g:D->D->Option Bool}(hr:Yey K r g){σ:L2.St}{H:Hp}{Q:VK}(h:tOf K (mB (b2 fa fb g)) σ H Q):tOp r (tCof K fa) (tCof K fb) σ H Q:=by
 obtain⟨ρ,d,H0,G0,G,e,s,h⟩:=h
 obtain⟨b,eb,rfl⟩:=Yk2 e
 obtain⟨dx,dy,h1,h2,h3⟩:=Yiq eb
 exact tCof.at h1 s fun v H1 G1 g1 r1 s1=>tCof.at h2 s1 fun u H2 G2 g2 r2 s2=>hr v u dx dy b H2 G2 _ h3 s2.seen (r1.grow g2) r2 (h _ H2 G2 (g1.trans g2) (by rw[Rp]))
theorem Yhz{op:Operator}{r:R2}{g:D->D->Option D}(ho:OpR X (binaryOp op) r)(hr:Sem2 X.K r g)(ha:MC X a fa)(hb:MC X b fb):ME X (.BinOp a op b pos) (b2 fa fb g):=PE.imp (Yu4 ho ha hb) fun _ _ _ h=>Yrz hr h
theorem Yl1{op:CmpOp}{r:R2}{g:D->D->Option Bool}(ho:OpR X (compareOp op) r)(hr:Yey X.K r g)(ha:MC X a fa)(hb:MC X b fb)(hm:behindInMarks op b=false):ME X (.Compare a [op] [b] pos) (mB (b2 fa fb g)):=PE.imp (Ysr ho ha hb hm) fun _ _ _ h=>Yqi hr h
theorem Yfy{op:CmpOp}{r:R2}{g:D->D->Option Bool}(ho:OpR X (compareOp op) r)(hr:Yey X.K r g)(ha:MC X a fa)(hb:MC X b fb)(hm:behindInMarks op b=false):MT X (.Compare a [op] [b] pos) (b2 fa fb g):=PT.imp (Ynk ho ha hb hm) fun _ _ _ h=>Ys4 hr h
theorem Yx4{r:R2}{g:D->D->Option D}(hi:IxR X r)(hr:Sem2 X.K r g)(ha:MC X a fa)(hb:MC X b fb)(hs:Yij b):ME X (.Subscript a b pos) (b2 fa fb g):=PE.imp (Yx1 hi ha hb hs) fun _ _ _ h=>Yrz hr h
def i2(C:Int->Int->Bool)(g:Int->Int->Int):D->D->Option D
 | .int i,.int j=>if C i j=true then some (.int (g i j))else none
 | _,_=>none
def i2b(g:Int->Int->Bool):D->D->Option Bool
 | .int i,.int j=>some (g i j)
 | _,_=>none
theorem Yl2{C:Int->Int->Prop}{Cb:Int->Int->Bool}(hC:∀i j,Cb i j=true->C i j){g:Int->Int->Int}:Sem2 K (rI C fun i j=>.int (g i j)) (i2 Cb g):=by
 intro x y dx dy d H G Q h s rx ry q
 unfold i2 at h
 split at h
 ·split at h
  ·rename_i i j hc
   cases h
   rw[Ct]at rx ry
   subst rx;subst ry
   exact⟨i,j,rfl,rfl,hC i j hc,q _ H G (.refl s) (by rw[Rp])⟩
  ·cases h
 ·cases h
theorem Ynu{g:Int->Int->Int}:Sem2 K (rI0 fun i j=>.int (g i j)) (i2 (fun _ _=>true) g):=by
 intro x y dx dy d H G Q h s rx ry q
 unfold i2 at h
 split at h
 ·split at h
  ·rename_i i j hc
   cases h
   rw[Ct]at rx ry
   subst rx;subst ry
   exact⟨i,j,rfl,rfl,q _ H G (.refl s) (by rw[Rp])⟩
  ·cases h
 ·cases h
theorem Ygv{g:Int->Int->Bool}:Yey K (rI0 fun i j=>.bl (g i j)) (i2b g):=by
 intro x y dx dy d H G Q h s rx ry q
 unfold i2b at h
 split at h
 ·rename_i i j
  cases h
  rw[Ct]at rx ry
  subst rx;subst ry
  exact⟨i,j,rfl,rfl,q⟩
 ·cases h
def addI:D->D->Option D:=i2 (fun _ _=>true) fun i j=>i+j
def subI:D->D->Option D:=i2 (fun _ _=>true) fun i j=>i - j
def mulI:D->D->Option D:=i2 (fun i j=>(decide (-(2 ^ 64) < i)&&decide (i < 2 ^ 64))||(decide (-(2 ^ 64) < j)&&decide (j < 2 ^ 64))) fun i j=>i * j
def divI:D->D->Option D:=i2 (fun _ j=>decide (0 < j)&&decide (j < 1073741824)) fun i j=>i / j
def modI:D->D->Option D:=i2 (fun _ j=>decide (0 < j)) fun i j=>i % j
theorem Yvv(ha:MC X a fa)(hb:MC X b fb):ME X (.BinOp a .Sub b pos) (b2 fa fb subI):=Yhz Yu6 Ynu ha hb
theorem Yvw(ha:MC X a fa)(hb:MC X b fb):ME X (.BinOp a .Mult b pos) (b2 fa fb mulI):=Yhz Yu7 (Yl2 fun i j h=>by
 simp only[Bool.or_eq_true,Qb,decide_eq_true_eq]at h
 exact h) ha hb
theorem Yvx(ha:MC X a fa)(hb:MC X b fb):ME X (.BinOp a .FloorDiv b pos) (b2 fa fb divI):=Yhz Ysp (Yl2 fun i j h=>by
 simp only[Qb,decide_eq_true_eq]at h
 exact h) ha hb
theorem Yvy(ha:MC X a fa)(hb:MC X b fb):ME X (.BinOp a .Mod b pos) (b2 fa fb modI):=Yhz Yu8 (Yl2 fun i j h=>of_decide_eq_true h) ha hb
def ltI:=i2b fun i j=>decide (i < j)
def leI:=i2b fun i j=>decide (i<=j)
def gtI:=i2b fun i j=>decide (j < i)
theorem Yx5(ha:MC X a fa)(hb:MC X b fb):ME X (.Compare a [.Gt] [b] pos) (mB (b2 fa fb gtI)):=Yl1 Yvc Ygv ha hb (Ydw _)
theorem Yx6(ha:MC X a fa)(hb:MC X b fb):MT X (.Compare a [.Lt] [b] pos) (b2 fa fb ltI):=Yfy Yvb Ygv ha hb (Ydw _)
theorem Yx7(ha:MC X a fa)(hb:MC X b fb):MT X (.Compare a [.Gt] [b] pos) (b2 fa fb gtI):=Yfy Yvc Ygv ha hb (Ydw _)
mutual
def dep:D->Nat
 | .tup l=>depL l+1
 | .lst l=>depL l+1
 | .scr _=>1
 | .dct _ _ _=>1000
 | .obj _ _ _=>1000
 | .adr _=>1000
 | _=>0
def depL:List D->Nat
 | []=>0
 | d::l=>max (dep d) (depL l)
end
mutual
theorem Yci:∀d:D,(toPy d).depth<=dep d
 | .non=>by simp[toPy,PyData.depth,dep]
 | .bl b=>by simp[toPy,PyData.depth,dep]
 | .int b=>by simp[toPy,PyData.depth,dep]
 | .str b=>by simp[toPy,PyData.depth,dep]
 | .tup l=>by have:=Ydh l;simp[toPy,PyData.depth,dep];lia
 | .lst l=>by have:=Ydh l;simp[toPy,PyData.depth,dep];lia
 | .scr ns=>by rw[toPy,PyData.depth,dep,W.ke_depthAll];exact qt _
 | .dct _ _ _=>by simp[toPy,PyData.depth,dep]
 | .obj _ _ _=>by simp[toPy,PyData.depth,dep]
 | .adr _=>by simp[toPy,PyData.depth,dep]
theorem Ydh:∀l:List D,PyData.depthAll (Ycy l)<=depL l
 | []=>by simp[Ycy,PyData.depthAll,depL]
 | d::l=>by have h1:=Yci d;have h2:=Ydh l;simp[Ycy,PyData.depthAll,depL];lia
end
section
variable {pins:List (Addr × Obj)} {σ:L2.St} {H:Hp} {s:Shared}
mutual
theorem Ydi(I:Inv X pins σ H s):∀{d:D} {v:V} {u:Value},dep d<=100->Rp X.K H d v->RelV v u->∃as,Reads s.heap u (toPy d) as/\(toPy d).canLay0=true
 | .non,v,u,_,r,q=>by
   rw[Rp]at r;subst r
   cases q
   exact⟨_,by rw[toPy];exact .none,by simp[toPy,PyData.canLay0]⟩
 | .bl b,v,u,_,r,q=>by
   rw[Rp]at r;subst r
   cases q
   exact⟨_,by rw[toPy];exact .bool b,by simp[toPy,PyData.canLay0]⟩
 | .int i,v,u,_,r,q=>by
   rw[Rp]at r;subst r
   obtain⟨t,rfl⟩:=q
   exact⟨_,by rw[toPy];exact .int i t,by simp[toPy,PyData.canLay0]⟩
 | .str x,v,u,_,r,q=>by
   rw[Rp]at r;obtain⟨rfl,hx⟩:=r
   obtain⟨t,rfl⟩:=q
   exact⟨_,by rw[toPy];exact .str x t,by simp[toPy,PyData.canLay0,hx]⟩
 | .tup l,v,u,hd,r,q=>by
   rw[Rp]at r
   obtain⟨a,xs,rfl,g,rl⟩:=r
   cases q
   obtain⟨_,its,rv,ht⟩:=(show ObjOk X.prog X.w H s.heap a (.tup xs) from I.hok a _ g)
   obtain⟨o,h1,h2,n,h3⟩:=ht
   obtain⟨as,q,hc⟩:=Ygw I (by simp only[dep]at hd;lia) rl rv
   exact⟨_,by rw[toPy];exact .tuple h1 h2 h3 (by simpa using q),by simpa [toPy,PyData.canLay0]using hc⟩
 | .lst l,v,u,hd,r,q=>by
   rw[Rp]at r
   obtain⟨a,xs,rfl,g,rl⟩:=r
   cases q
   obtain⟨its,rv,pl,_⟩:=I.list (.inl g)
   obtain⟨o,h1,h2,n,h3⟩:=pl.isList
   obtain⟨as,q,hc⟩:=Ygw I (by simp only[dep]at hd;lia) rl rv
   exact⟨_,by rw[toPy];exact .list h1 h2 h3 (by simpa using q),by simpa [toPy,PyData.canLay0]using hc⟩
 | .dct _ _ _,v,u,hd,r,q=>by simp[dep]at hd
 | .obj _ _ _,v,u,hd,r,q=>by simp[dep]at hd
 | .adr _,v,u,hd,r,q=>by simp[dep]at hd
 | .scr ns,v,u,_,r,q=>by
   rw[Rp]at r
   obtain⟨a,rfl,g⟩:=r
   cases q
   obtain⟨its,rv,pl,_⟩:=I.list g
   exact⟨_,by rw[toPy];exact W.reads_of_ints pl.isList (Yfg rv),by rw[toPy];simp[PyData.canLay0,W.ke_canLayAll0]⟩
theorem Ygw(I:Inv X pins σ H s):∀{l:List D} {xs:List V} {us:List Value},depL l<=100->RpL X.K H l xs->Vals xs us->∃as,ReadsAll s.heap us (Ycy l) as/\PyData.canLayAll0 (Ycy l)=true
 | [],xs,us,_,r,q=>by
   rw[RpL]at r;subst r
   cases q
   exact⟨_,by rw[Ycy];exact .nil,by simp[Ycy,PyData.canLayAll0]⟩
 | d::l,xs,us,hd,r,q=>by
   rw[RpL]at r
   obtain⟨x,xs,rfl,r1,r2⟩:=r
   rw[depL]at hd
   cases q with
   | cons q1 q2=>
     obtain⟨as,h1,h2⟩:=Ydi I (by lia) r1 q1
     obtain⟨bs,h3,h4⟩:=Ygw I (by lia) r2 q2
     exact⟨_,by rw[Ycy];exact .cons h1 h3,by simp[Ycy,PyData.canLayAll0,h2,h4]⟩
end
end
theorem Ygx(l:List D)(d:D):((Ycy l).any fun y=>PyData.eqv y (toPy d))=l.any fun y=>eqD y d:=by
 induction l with
 | nil=>simp[Ycy]
 | cons e l ih=>
   rw[Ycy,List.any_cons,List.any_cons,ih]
   rfl
def eqM(neg:Bool):D->D->Option Bool:=fun d e=>if dep d<=60/\dep e<=60 then some (if neg then !eqD d e else eqD d e)else none
def rEqD(K:W.Frag)(neg:Bool):R2:=fun x y H Q=>∃d e,Rp K H d x/\Rp K H e y/\(dep d<=60/\dep e<=60)/\Q (.bl (if neg then !eqD d e else eqD d e)) H
theorem Yr0(hu:X.A.units+64 < cLine):OpR X (compareOp .Eq) (rEqD X.K false):=by
 intro pins s σ H x y v u Q I rx ry h
 obtain⟨d,e,r1,r2,hd,q⟩:=h
 obtain⟨as,h1,h2⟩:=Ydi I (by lia) r1 rx
 obtain⟨bs,h3,h4⟩:=Ydi I (by lia) r2 ry
 exact SeqAt.eqOverData X.prog X.w X.A X.xe s v u _ _ as bs _ h1 h3 h2 h4 (by have:=Yci d;have:=Yci e;lia) ⟨.bl _,H,I,rfl,by exact q⟩
theorem Yr1(hu:X.A.units+64 < cLine):OpR X (compareOp .NotEq) (rEqD X.K true):=by
 intro pins s σ H x y v u Q I rx ry h
 obtain⟨d,e,r1,r2,hd,q⟩:=h
 obtain⟨as,h1,h2⟩:=Ydi I (by lia) r1 rx
 obtain⟨bs,h3,h4⟩:=Ydi I (by lia) r2 ry
 exact SeqAt.neOverData X.prog X.w X.A X.xe s v u _ _ as bs _ h1 h3 h2 h4 (by have:=Yci d;have:=Yci e;lia) ⟨.bl _,H,I,rfl,by exact q⟩
theorem Yir{neg:Bool}:Yey K (rEqD K neg) (eqM neg):=by
 intro x y dx dy b H G Q h s rx ry q
 unfold eqM at h
 split at h
 ·cases h
  exact⟨dx,dy,rx.rp s,ry.rp s,by assumption,q⟩
 ·cases h
theorem Yx8(hu:X.A.units+64 < cLine)(ha:MC X a fa)(hb:MC X b fb):ME X (.Compare a [.Eq] [b] pos) (mB (b2 fa fb (eqM false))):=Yl1 (Yr0 hu) Yir ha hb (Ydw _)
theorem Yx9(hu:X.A.units+64 < cLine)(ha:MC X a fa)(hb:MC X b fb):ME X (.Compare a [.NotEq] [b] pos) (mB (b2 fa fb (eqM true))):=Yl1 (Yr1 hu) Yir ha hb (Ydw _)
theorem Yya(hu:X.A.units+64 < cLine)(ha:MC X a fa)(hb:MC X b fb):MT X (.Compare a [.Eq] [b] pos) (b2 fa fb (eqM false)):=Yfy (Yr0 hu) Yir ha hb (Ydw _)
theorem Yyb(hu:X.A.units+64 < cLine)(ha:MC X a fa)(hb:MC X b fb):MT X (.Compare a [.NotEq] [b] pos) (b2 fa fb (eqM true)):=Yfy (Yr1 hu) Yir ha hb (Ydw _)
def Yw:D->Option (List D)
 | .tup l=>some l
 | .lst l=>some l
 | .scr ns=>some (ns.map D.int)
 | _=>none
def inD(d:D)(l:List D):Bool:=l.any fun y=>eqD y d
def inM(neg:Bool):D->D->Option Bool:=fun d c=>(Yw c).bind fun l=>if depL l<=60/\dep d<=60 then some (if neg then !inD d l else inD d l)else none
def rInD(K:W.Frag)(neg:Bool):R2:=fun x y H Q=>∃d c l,Rp K H d x/\Rp K H c y/\Yw c=some l/\(depL l<=60/\dep d<=60)/\Q (.bl (if neg then !inD d l else inD d l)) H
theorem Ybg{c:D}{l:List D}(h:Yw c=some l):c=.tup l\/c=.lst l\/∃ns,c=.scr ns/\l=ns.map D.int:=by
 cases c with
 | tup m=>cases h;exact .inl rfl
 | lst m=>cases h;exact .inr (.inl rfl)
 | scr ns=>cases h;exact .inr (.inr ⟨ns,rfl,rfl⟩)
 | non=>cases h
 | bl _=>cases h
 | int _=>cases h
 | str _=>cases h
 | dct _ _ _=>cases h
 | obj _ _ _=>cases h
 | adr _=>cases h
theorem Yh0:∀ns:List Int,Ycy (ns.map D.int)=ns.map PyData.int
 | []=>by simp[Ycy]
 | n::ns=>by simp[Ycy,toPy,Yh0 ns]
theorem Ynv(hu:X.A.units+64 < cLine):OpR X (compareOp .NotIn) (rInD X.K true):=by
 intro pins s σ H x y v u Q I rx ry h
 obtain⟨d,c,l,r1,r2,hc,hd,q⟩:=h
 obtain⟨as,h1,h2⟩:=Ydi I (by lia) r1 rx
 have hdc:dep c<=61:=by
  rcases Ybg hc with rfl | rfl | ⟨ns,rfl,rfl⟩
  ·rw[dep];lia
  ·rw[dep];lia
  ·rw[dep];lia
 obtain⟨bs,h3,h4⟩:=Ydi I (by lia) r2 ry
 have hdd:=Yci d
 have hdl:=Ydh l
 rcases Ybg hc with rfl | rfl | ⟨ns,rfl,rfl⟩
 ·rw[toPy]at h3 h4
  exact SeqAt.notIn_tuple_reads h3 h1 (by simpa [PyData.canLay0]using h4) h2 (by lia) ⟨.bl _,H,I,rfl,by rw[Ygx];exact q⟩
 ·rw[toPy]at h3 h4
  exact SeqAt.notIn_list_reads h3 h1 (by simpa [PyData.canLay0]using h4) h2 (by lia) ⟨.bl _,H,I,rfl,by rw[Ygx];exact q⟩
 ·rw[toPy,<-Yh0]at h3 h4
  exact SeqAt.notIn_list_reads h3 h1 (by simpa [PyData.canLay0]using h4) h2 (by lia) ⟨.bl _,H,I,rfl,by rw[Ygx];exact q⟩
theorem Ys5{neg:Bool}:Yey K (rInD K neg) (inM neg):=by
 intro x y dx dy b H G Q h s rx ry q
 unfold inM at h
 obtain⟨l,h1,h⟩:=qa h
 split at h
 ·cases h
  exact⟨dx,dy,l,rx.rp s,ry.rp s,h1,by assumption,q⟩
 ·cases h
theorem Yvz(hu:X.A.units+64 < cLine)(ha:MC X a fa)(hb:MC X b fb)(hm:behindInMarks .NotIn b=false:=by with_unfolding_all rfl):MT X (.Compare a [.NotIn] [b] pos) (b2 fa fb (inM true)):=Yfy (Ynv hu) Ys5 ha hb hm
end
end
section
variable {K:W.Frag}
section
variable {X:Cx} {a b c e:Expr} {es:List Expr} {fa fb f:Ro->Option D} {fc fd:Ro->Option Bool} {ga:Ro->Option (List D)} {pos:Pos} {rest:List Expr}
def truD:D->Option Bool
 | .non=>some false
 | .bl b=>some b
 | .int i=>some (i != 0)
 | .tup l=>some (!l.isEmpty)
 | .lst l=>some (!l.isEmpty)
 | .scr ns=>some (!ns.isEmpty)
 | .str _=>none
 | .dct _ _ _=>none
 | .obj _ _ _=>none
 | .adr _=>none
theorem Ys6{d:D}{v:V}{k:Bool}{H G:Hp}(h:truD d=some k)(r:Ct X.K G H d v):TruV X.K v H k:=by
 cases d with
 | non=>rw[Ct]at r;subst r;cases h;rfl
 | bl b=>rw[Ct]at r;subst r;cases h;rfl
 | int i=>rw[Ct]at r;subst r;cases h;rfl
 | str x=>cases h
 | dct _ _ _=>cases h
 | obj _ _ _=>cases h
 | adr _=>cases h
 | tup l=>
   rw[Ct]at r
   obtain⟨a,xs,rfl,g,rl⟩:=r
   cases h
   refine .inr (.inl ⟨xs,.inl (.inl g.1),?_⟩)
   have:=rl.length
   cases l<;>cases xs<;>simp_all
 | lst l=>
   rw[Ct]at r
   obtain⟨a,xs,rfl,g,rl⟩:=r
   cases h
   refine .inl ⟨xs,.inl g,?_⟩
   have:=rl.length
   cases l<;>cases xs<;>simp_all
 | scr ns=>
   rw[Ct]at r
   obtain⟨a,rfl,g⟩:=r
   cases h
   refine .inl ⟨_,g,?_⟩
   cases ns<;>simp
theorem Yv0(ha:MC X a fa)(he:∀whole,isTrue a X.env whole=(do let v <-whole;standAt a.pos;holding [v] (truthy v)):=by intro _;rfl):MT X a (b1 fa truD):=
 PT.imp (Yqb ha he) fun σ H Q hx_=>by
  obtain⟨ρ,k,H0,G0,G,e,s,h⟩:=hx_
  obtain⟨d,h1,h2⟩:=Yc5 e
  exact tCof.at h1 s fun v H1 G1 g1 r1 s1=>⟨k,Ys6 h2 r1,h H1 G1 g1⟩
def andT(fc fd:Ro->Option Bool):Ro->Option Bool:=fun ρ=>(fc ρ).bind fun k=>if k=true then fd ρ else some false
def orT(fc fd:Ro->Option Bool):Ro->Option Bool:=fun ρ=>(fc ρ).bind fun k=>if k=true then some true else fd ρ
def notT(fc:Ro->Option Bool):Ro->Option Bool:=fun ρ=>(fc ρ).map (!·)
abbrev MW(X:Cx)(e:Expr)(f:Ro->Option Bool):Prop:=PW X e (tTof X.K f)
theorem PW.imp{t t':TT}(h:PW X e t)(i:∀σ H Q,t' σ H Q->t σ H Q):PW X e t':=fun whole pins s σ H Q I hw=>h whole pins s σ H Q I (i σ H Q hw)
theorem Ys7(ha:MT X a fc):MW X (.BoolOp .And [a] pos) fc:=Ysk ha
theorem Yv1(ha:MT X a fc):MW X (.BoolOp .Or [a] pos) fc:=Yuy ha
theorem Ys8{σ:L2.St}{H:Hp}{Q:Bool->Hp->Prop}(h:tTof K (andT fc fd) σ H Q):tAnd (tTof K fc) (tTof K fd) σ H Q:=by
 obtain⟨ρ,k,H0,G0,G,e,s,h⟩:=h
 unfold andT at e
 obtain⟨k1,h1,e⟩:=qa e
 refine tTof.at h1 s fun H1 G1 g1 s1=>?_
 cases k1 with
 | true=>
   rw[if_pos rfl]at e ⊢
   exact tTof.at e s1 fun H2 G2 g2 _=>h H2 G2 (g1.trans g2)
 | false=>
   rw[if_neg qh]at e ⊢
   cases e
   exact h H1 G1 g1
theorem Yv2{σ:L2.St}{H:Hp}{Q:Bool->Hp->Prop}(h:tTof K (orT fc fd) σ H Q):tOr (tTof K fc) (tTof K fd) σ H Q:=by
 obtain⟨ρ,k,H0,G0,G,e,s,h⟩:=h
 unfold orT at e
 obtain⟨k1,h1,e⟩:=qa e
 refine tTof.at h1 s fun H1 G1 g1 s1=>?_
 cases k1 with
 | false=>
   rw[if_neg qh]at e ⊢
   exact tTof.at e s1 fun H2 G2 g2 _=>h H2 G2 (g1.trans g2)
 | true=>
   rw[if_pos rfl]at e ⊢
   cases e
   exact h H1 G1 g1
theorem Yv3(ha:MT X a fc)(hb:MW X (.BoolOp .And (b::rest) pos) fd):MW X (.BoolOp .And (a::b::rest) pos) (andT fc fd):=PW.imp (Yuz ha hb) fun _ _ _ h=>Ys8 h
theorem Yyc(ha:MT X a fc)(hb:MW X (.BoolOp .Or (b::rest) pos) fd):MW X (.BoolOp .Or (a::b::rest) pos) (orT fc fd):=PW.imp (Yxq ha hb) fun _ _ _ h=>Yv2 h
theorem Yv4(ha:MT X a fc):MT X (.UnaryOp .Not a pos) (notT fc):=PT.imp (Yu0 ha) fun σ H Q hx_=>by
 obtain⟨ρ,k,H0,G0,G,e,s,h⟩:=hx_
 obtain⟨k1,h1,rfl⟩:=qb e
 exact tTof.at h1 s fun H1 G1 g1 _=>h H1 G1 g1
def blD:D->Option Bool
 | .bl b=>some b
 | _=>none
theorem Yis{d:D}{k:Bool}(h:blD d=some k):d=.bl k:=by cases d<;>simp[blD]at h;subst h;rfl
def andV(fa fb:Ro->Option D):Ro->Option D:=fun ρ=>(b1 fa blD ρ).bind fun k=>if k=true then fb ρ else some (.bl false)
def orV(fa fb:Ro->Option D):Ro->Option D:=fun ρ=>(b1 fa blD ρ).bind fun k=>if k=true then some (.bl true)else fb ρ
def notV(fa:Ro->Option D):Ro->Option D:=fun ρ=>(b1 fa blD ρ).map fun k=>.bl (!k)
theorem Ys9(ha:ME X a fa):ME X (.BoolOp .And [a] pos) fa:=Yrq ha
theorem Yv5(ha:ME X a fa):ME X (.BoolOp .Or [a] pos) fa:=Yrq ha
theorem Yv6(ha:ME X a fa)(hb:ME X (.BoolOp .And (b::rest) pos) fb):ME X (.BoolOp .And (a::b::rest) pos) (andV fa fb):=PE.imp (Yu1 ha hb) fun σ H Q hx_=>by
 obtain⟨ρ,d,H0,G0,G,e,s,h⟩:=hx_
 unfold andV at e
 obtain⟨k,h1,e⟩:=qa e
 obtain⟨d1,h2,h3⟩:=Yc5 h1
 cases Yis h3
 refine tOf.at h2 s fun v H1 G1 g1 r1 s1=>⟨k,by rw[Rp]at r1;exact r1,?_⟩
 cases k with
 | true=>
   rw[if_pos rfl]at e ⊢
   exact tOf.at e s1 fun w H2 G2 g2 r2 _=>h w H2 G2 (g1.trans g2) r2
 | false=>
   rw[if_neg qh]at e ⊢
   cases e
   exact h _ H1 G1 g1 (by rw[Rp])
theorem Yyd(ha:ME X a fa)(hb:ME X (.BoolOp .Or (b::rest) pos) fb):ME X (.BoolOp .Or (a::b::rest) pos) (orV fa fb):=PE.imp (Yxt ha hb) fun σ H Q hx_=>by
 obtain⟨ρ,d,H0,G0,G,e,s,h⟩:=hx_
 unfold orV at e
 obtain⟨k,h1,e⟩:=qa e
 obtain⟨d1,h2,h3⟩:=Yc5 h1
 cases Yis h3
 refine tOf.at h2 s fun v H1 G1 g1 r1 s1=>⟨k,by rw[Rp]at r1;exact r1,?_⟩
 cases k with
 | false=>
   rw[if_neg qh]at e ⊢
   exact tOf.at e s1 fun w H2 G2 g2 r2 _=>h w H2 G2 (g1.trans g2) r2
 | true=>
   rw[if_pos rfl]at e ⊢
   cases e
   exact h _ H1 G1 g1 (by rw[Rp])
theorem Yv7(ha:ME X a fa):ME X (.UnaryOp .Not a pos) (notV fa):=PE.imp (Yu2 ha) fun σ H Q hx_=>by
 obtain⟨ρ,d,H0,G0,G,e,s,h⟩:=hx_
 obtain⟨k,h1,rfl⟩:=qb e
 obtain⟨d1,h2,h3⟩:=Yc5 h1
 cases Yis h3
 exact tOf.at h2 s fun v H1 G1 g1 r1 s1=>⟨k,by rw[Rp]at r1;exact r1,h _ H1 G1 g1 (by rw[Rp])⟩
def Yj4:D->Bool
 | .non=>true
 | _=>false
theorem Yl3{d:D}{v:V}{G H:Hp}(r:Ct K G H d v):decide (v=V.non)=Yj4 d:=by
 cases d with
 | non=>rw[Ct]at r;subst r;rfl
 | bl _=>rw[Ct]at r;subst r;rfl
 | int _=>rw[Ct]at r;subst r;rfl
 | str _=>rw[Ct]at r;obtain⟨rfl,_⟩:=r;rfl
 | tup _=>rw[Ct]at r;obtain⟨_,_,rfl,_⟩:=r;rfl
 | lst _=>rw[Ct]at r;obtain⟨_,_,rfl,_⟩:=r;rfl
 | scr _=>rw[Ct]at r;obtain⟨_,rfl,_⟩:=r;rfl
 | dct _ _ _=>rw[Ct]at r;obtain⟨_,_,_,rfl,_⟩:=r;rfl
 | obj _ _ _=>rw[Ct]at r;obtain⟨_,_,_,_,rfl,_⟩:=r;rfl
 | adr _=>rw[Ct]at r;subst r;rfl
def isN(neg:Bool):D->D->Option Bool:=fun d e=>if Yj4 e then some (if neg then !Yj4 d else Yj4 d)else none
theorem Ynw:Yey K (fun x y H Q=>y=.non/\Q (.bl (decide (x=.non))) H) (isN false):=by
 intro x y dx dy b H G Q h s rx ry q
 unfold isN at h
 split at h
 ·rename_i hn
  cases h
  cases dy<;>simp[Yj4]at hn
  rw[Ct]at ry
  exact⟨ry,by rw[Yl3 rx];exact q⟩
 ·cases h
theorem Yqj:Yey K (fun x y H Q=>y=.non/\Q (.bl (!decide (x=.non))) H) (isN true):=by
 intro x y dx dy b H G Q h s rx ry q
 unfold isN at h
 split at h
 ·rename_i hn
  cases h
  cases dy<;>simp[Yj4]at hn
  rw[Ct]at ry
  exact⟨ry,by rw[Yl3 rx];exact q⟩
 ·cases h
theorem Yv8(ha:MC X a fa)(hb:MC X b fb):ME X (.Compare a [.Is] [b] pos) (mB (b2 fa fb (isN false))):=Yl1 Yru Ynw ha hb (Ydw _)
theorem Yv9(ha:MC X a fa)(hb:MC X b fb):MT X (.Compare a [.Is] [b] pos) (b2 fa fb (isN false)):=Yfy Yru Ynw ha hb (Ydw _)
theorem Yta(ha:MC X a fa)(hb:MC X b fb):MT X (.Compare a [.IsNot] [b] pos) (b2 fa fb (isN true)):=Yfy Ysq Yqj ha hb (Ydw _)
def ixD:D->D->Option D
 | c,.int i=>(Yw c).bind fun l=>atI l i
 | _,_=>none
theorem Ynx{G:Hp}{l:List D}{xs:List V}{i:Int}{d:D}(r:RpL K G l xs)(h:atI l i=some d):∃x,atI xs i=some x/\Rp K G d x:=by
 unfold atI at h ⊢
 rw[r.length]
 obtain⟨j,h1,h2⟩:=qa h
 obtain⟨x,h3,h4⟩:=r.get h2
 exact⟨x,by rw[h1];exact h3,h4⟩
theorem Ywa:Sem2 X.K (rIx X.K) ixD:=by
 intro x y dx dy d H G Q h s rx ry q
 unfold ixD at h
 split at h
 ·rename_i c i
  obtain⟨l,h1,h2⟩:=qa h
  rw[Ct]at ry
  subst ry
  rcases Ybg h1 with rfl | rfl | ⟨ns,rfl,rfl⟩
  ·rw[Ct]at rx
   obtain⟨p,xs,rfl,g,rl⟩:=rx
   obtain⟨v,h3,h4⟩:=Ynx rl h2
   exact .inr (.inl ⟨p,xs,i,v,rfl,rfl,.inl (.inl g.1),h3,q v H G (.refl s) h4⟩)
  ·rw[Ct]at rx
   obtain⟨p,xs,rfl,g,rl⟩:=rx
   obtain⟨v,h3,h4⟩:=Ynx rl h2
   exact .inl ⟨p,xs,i,v,rfl,rfl,.inl g,h3,q v H G (.refl s) h4⟩
  ·rw[Ct]at rx
   obtain⟨p,rfl,g⟩:=rx
   obtain⟨v,h3,h4⟩:=Ynx (G:=G) (K:=X.K) (.ints ns) h2
   exact .inl ⟨p,_,i,v,rfl,rfl,g,h3,q v H G (.refl s) h4⟩
 ·cases h
theorem Ytb(ha:MC X a fa)(hb:MC X b fb)(hs:Yij b:=by intro _ _;rfl):ME X (.Subscript a b pos) (b2 fa fb ixD):=Yx4 Yvm Ywa ha hb hs
def intD:D->Option Int
 | .int i=>some i
 | _=>none
def optI(f:Option (Ro->Option D)):Ro->Option (Option Int):=fun ρ=>match f with
 | none=>some none
 | some f=>(b1 f intD ρ).map some
def cutD(l:List D)(lo hi:Option Int):List D:=(l.drop (HT.sIx l.length 0 lo)).take (HT.sIx l.length l.length hi - HT.sIx l.length 0 lo)
def lstD:D->Option (List D)
 | .lst l=>some l
 | .scr ns=>some (ns.map D.int)
 | _=>none
theorem Yny{d:D}{l:List D}{v:V}{G H:Hp}(h:lstD d=some l)(r:Ct K G H d v):∃p xs,v=.ref p/\SqL K H p xs/\RpL K G l xs:=by
 cases d with
 | lst m=>
   cases h
   rw[Ct]at r
   obtain⟨p,xs,e,g,q⟩:=r
   exact⟨p,xs,e,.inl g,q⟩
 | scr ns=>
   cases h
   rw[Ct]at r
   obtain⟨p,e,g⟩:=r
   exact⟨p,_,e,g,.ints ns⟩
 | non=>cases h
 | bl _=>cases h
 | int _=>cases h
 | str _=>cases h
 | tup _=>cases h
 | dct _ _ _=>cases h
 | obj _ _ _=>cases h
 | adr _=>cases h
def slF(fa:Ro->Option D)(lo hi:Option (Ro->Option D)):Ro->Option (List D):=fun ρ=>(b1 fa lstD ρ).bind fun l=>(optI lo ρ).bind fun i=>(optI hi ρ).bind fun j=>some (cutD l i j)
abbrev tO(K:W.Frag)(f:Option (Ro->Option D)):TO:=match f with
 | none=>Ynq
 | some f=>Yvk (tCof K f)
theorem Ywb{H0 G0 H G:Hp}{σ:L2.St}{ρ:Ro}{f:Option (Ro->Option D)}{i:Option Int}{Q:Option Int->Hp->Prop}(e:optI f ρ=some i)(s:SR K H0 G0 σ H G ρ)(h:∀H' G',Gr H G H' G'->SR K H0 G0 σ H' G' ρ->Q i H'):tO K f σ H Q:=by
 cases f with
 | none=>
   cases e
   exact h H G (.refl s.seen) s
 | some f=>
   obtain⟨k,h1,rfl⟩:=qb e
   obtain⟨d,h2,h3⟩:=Yc5 h1
   refine tCof.at h2 s fun v H1 G1 g1 r1 s1=>⟨k,?_,h H1 G1 g1 s1⟩
   cases d<;>simp[intD]at h3
   subst h3
   rw[Ct]at r1
   exact r1
theorem Yqk{lo hi:Option Expr}{fl fh:Option (Ro->Option D)}{p2:Pos}(ha:MC X a fa)(hl:PO X lo (tO X.K fl))(hh:PO X hi (tO X.K fh)):MF X (.Subscript a (.Slice lo hi none p2) pos) (slF fa fl fh):=
 PE.imp (Yqe Ysw ha hl hh) fun σ H Q hx_=>by
  obtain⟨ρ,l,H0,G0,G,e,s,h⟩:=hx_
  unfold slF at e
  obtain⟨l0,h1,e⟩:=qa e
  obtain⟨i,h2,e⟩:=qa e
  obtain⟨j,h3,e⟩:=qa e
  cases e
  obtain⟨d,h4,h5⟩:=Yc5 h1
  refine tCof.at h4 s fun v H1 G1 g1 r1 s1=>Ywb h2 s1 fun H2 G2 g2 s2=>Ywb h3 s2 fun H3 G3 g3 s3=>?_
  have r3:=(r1.grow g2).grow g3
  obtain⟨p,xs,rfl,g,rl⟩:=Yny h5 r3
  refine⟨p,xs,rfl,g,fun q hq=>?_⟩
  have hq0:H q=none:=g1.h.free (g2.h.free (g3.h.free hq))
  have gg:=((g1.trans g2).trans g3).trans (Gr.hid (p:=q) s3.seen hq (.lst (cutV xs i j)))
  refine h q _ _ G3 gg hq0 (s3.seen.free hq) Yy ?_
  unfold cutD cutV
  rw[rl.length]
  exact(rl.drop _).take _
theorem Yye:PO X none (tO X.K none):=Yst
theorem Yyf(h:MC X e f):PO X (some e) (tO X.K (some f)):=Ysu h
def lF(f:Ro->Option (List D)):Ro->Option D:=fun ρ=>(f ρ).map D.lst
theorem MF.me{g:Ro->Option (List D)}(h:MF X e g):ME X e (lF g):=PE.imp h fun σ H Q hx_=>by
 obtain⟨ρ,d,H0,G0,G,e,s,h⟩:=hx_
 obtain⟨l,h1,rfl⟩:=qb e
 exact⟨ρ,l,H0,G0,G,h1,s,fun p xs H' G' g hp gp e' r=>h _ H' _ (g.show hp gp e') (by
  rw[Rp]
  refine⟨p,xs,rfl,.inl Yy,r.mono fun b o q=>?_⟩
  rw[Yaa (Yab q gp)];exact q)⟩
def aNil:Ro->Option (List D):=fun _=>some []
def Yg(f:Ro->Option D)(g:Ro->Option (List D)):Ro->Option (List D):=fun ρ=>(f ρ).bind fun d=>(g ρ).map (d::·)
theorem Ywc:MA X [] aNil:=PA.imp Yfx fun σ H Q hx_=>by
 obtain⟨ρ,l,H0,G0,G,e,s,h⟩:=hx_
 cases e
 exact h [] H G (.refl s.seen) .nil
theorem Ytc(ha:ME X e f)(hr:MA X es ga)(hs:starEach (e::es) X.env=(false,eval e X.env)::starEach es X.env:=by rfl):MA X (e::es) (Yg f ga):=PA.imp (Ybn ha hr hs) fun σ H Q hx_=>by
 obtain⟨ρ,l,H0,G0,G,e,s,h⟩:=hx_
 unfold Yg at e
 obtain⟨d,h1,e⟩:=qa e
 obtain⟨l',h2,rfl⟩:=qb e
 exact tOf.at h1 s fun v H1 G1 g1 r1 s1=>tAof.at h2 s1 fun vs H2 G2 g2 r2 _=>h (v::vs) H2 G2 (g1.trans g2) (.cons (r1.mono g2.g) r2)
theorem Ytd:MCA X [] aNil:=PA.imp Yfx fun σ H Q hx_=>by
 obtain⟨ρ,l,H0,G0,G,e,s,h⟩:=hx_
 cases e
 exact h [] H G (.refl s.seen) rfl
theorem Yql(ha:MC X e f)(hr:MCA X es ga)(hs:starEach (e::es) X.env=(false,eval e X.env)::starEach es X.env:=by rfl):MCA X (e::es) (Yg f ga):=PA.imp (Ybn ha hr hs) fun σ H Q hx_=>by
 obtain⟨ρ,l,H0,G0,G,e,s,h⟩:=hx_
 unfold Yg at e
 obtain⟨d,h1,e⟩:=qa e
 obtain⟨l',h2,rfl⟩:=qb e
 exact tCof.at h1 s fun v H1 G1 g1 r1 s1=>tCAof.at h2 s1 fun vs H2 G2 g2 r2 _=>h (v::vs) H2 G2 (g1.trans g2) ⟨v,vs,rfl,r1.grow g2,r2⟩
def cap6:Nat:=1000000
theorem Yfj{n:Nat}(h:n<=cap6):n<=sizeLine:=Nat.le_trans h (by rw[sizeLine_eq];decide)
def dTup(ga:Ro->Option (List D)):Ro->Option D:=fun ρ=>(ga ρ).bind fun l=>if l.length<=cap6 then some (.tup l)else none
theorem Ywd{x1}(h:MA X es ga):ME X (.Tuple es x1 pos) (dTup ga):=PE.imp (Yrv h) fun σ H Q hx_=>by
 obtain⟨ρ,d,H0,G0,G,e,s,h⟩:=hx_
 unfold dTup at e
 obtain⟨l,h1,e⟩:=qa e
 split at e
 ·cases e
  refine tAof.at h1 s fun vs H1 G1 g1 r1 s1=>⟨by rw[r1.length];exact Yfj (by assumption),fun p hp=>?_⟩
  refine h _ _ _ (g1.trans (.new s1.seen hp (.tup vs))) ?_
  rw[Rp]
  exact⟨p,vs,rfl,Yy,r1.mono (Gr.new s1.seen hp (.tup vs)).g⟩
 ·cases e
def dLst(ga:Ro->Option (List D)):Ro->Option (List D):=fun ρ=>(ga ρ).bind fun l=>if l.length<=cap6 then some l else none
theorem Ywe(h:MA X es ga):MF X (.List es pos) (dLst ga):=PE.imp (Yvg h) fun σ H Q hx_=>by
 obtain⟨ρ,d,H0,G0,G,e,s,h⟩:=hx_
 unfold dLst at e
 obtain⟨l,h1,e⟩:=qa e
 split at e
 ·cases e
  refine tAof.at h1 s fun vs H1 G1 g1 r1 s1=>⟨by rw[r1.length];exact Yfj (by assumption),fun p hp=>?_⟩
  exact h p vs _ G1 (g1.trans (.hid s1.seen hp (.lst vs))) (g1.h.free hp) (s1.seen.free hp) Yy r1
 ·cases e
def cC(ga:Ro->Option (List D))(g:List D->Option D):Ro->Option D:=fun ρ=>(ga ρ).bind g
def cF(ga:Ro->Option (List D))(g:List D->Option (List D)):Ro->Option (List D):=fun ρ=>(ga ρ).bind g
theorem Yr2{r:List V->Hp->VK->Prop}{g:List D->Option D}(hr:SemC K r g){σ:L2.St}{H:Hp}{Q:VK}(h:tOf K (cC ga g) σ H Q):tCB r (tCAof K ga) σ H Q:=by
 obtain⟨ρ,d,H0,G0,G,e,s,h⟩:=h
 unfold cC at e
 obtain⟨l,h1,h2⟩:=qa e
 exact tCAof.at h1 s fun vs H1 G1 g1 r1 s1=>hr vs l d H1 G1 Q h2 s1.seen r1 fun v H' G' g2 r2=>h v H' G' (g1.trans g2) r2
theorem Ynz{r:List V->Hp->VK->Prop}{g:List D->Option (List D)}(hr:SemF K r g){σ:L2.St}{H:Hp}{Q:VK}(h:tFof K (cF ga g) σ H Q):tCB r (tCAof K ga) σ H Q:=by
 obtain⟨ρ,d,H0,G0,G,e,s,h⟩:=h
 unfold cF at e
 obtain⟨l,h1,h2⟩:=qa e
 exact tCAof.at h1 s fun vs H1 G1 g1 r1 s1=>hr vs l d H1 G1 Q h2 s1.seen r1 fun p xs H' G' g2 hp gp e' r2=>h p xs H' G' (g1.trans g2) (g1.h.free hp) gp e' r2
section
variable {x:Str} {p:Pos} {id T:String} {r:List V->Hp->VK->Prop} {g:List D->Option D} {gf:List D->Option (List D)}
theorem Yqm(hc:Yb6 X (.builtin id) r)(hr:SemC X.K r g)(hg:Gl X x)(hm:X.mg x=none)(hv:bootBuiltins x=some (.builtin id))(ha:MCA X (e::es) ga)(hn:x≠"__name__":=by decide)(hdb:(x==("__debug__":Str))=false:=by decide)
 (he:starEach (e::es) X.env=(false,eval e X.env)::starEach es X.env:=by rfl) (hpl:(backTo pos (starEach es X.env)).any (·.1)=false:=by rfl):ME X (.Call (.Name x p) (e::es) [] pos) (cC ga g):=
 PE.imp (Yeb hc hg hm hv ha hn hdb he hpl) fun _ _ _ h=>Yr2 hr h
theorem Yqn(hc:Yb6 X (.builtin id) r)(hr:SemF X.K r gf)(hg:Gl X x)(hm:X.mg x=none)(hv:bootBuiltins x=some (.builtin id))(ha:MCA X (e::es) ga)(hn:x≠"__name__":=by decide)(hdb:(x==("__debug__":Str))=false:=by decide)
 (he:starEach (e::es) X.env=(false,eval e X.env)::starEach es X.env:=by rfl) (hpl:(backTo pos (starEach es X.env)).any (·.1)=false:=by rfl):MF X (.Call (.Name x p) (e::es) [] pos) (cF ga gf):=
 PE.imp (Yeb hc hg hm hv ha hn hdb he hpl) fun _ _ _ h=>Ynz hr h
theorem Yn0(hc:Yb6 X (.type T) r)(hr:SemC X.K r g)(hg:Gl X x)(hm:X.mg x=none)(hv:bootBuiltins x=some (.type T))(ha:MCA X (e::es) ga)(hn:x≠"__name__":=by decide)(hdb:(x==("__debug__":Str))=false:=by decide)
 (he:starEach (e::es) X.env=(false,eval e X.env)::starEach es X.env:=by rfl) (hpl:(backTo pos (starEach es X.env)).any (·.1)=false:=by rfl):ME X (.Call (.Name x p) (e::es) [] pos) (cC ga g):=
 PE.imp (Yev hc hg hm hv ha hn hdb he hpl) fun _ _ _ h=>Yr2 hr h
theorem Yn1(hc:Yb6 X (.type T) r)(hr:SemF X.K r gf)(hg:Gl X x)(hm:X.mg x=none)(hv:bootBuiltins x=some (.type T))(ha:MCA X (e::es) ga)(hn:x≠"__name__":=by decide)(hdb:(x==("__debug__":Str))=false:=by decide)
 (he:starEach (e::es) X.env=(false,eval e X.env)::starEach es X.env:=by rfl) (hpl:(backTo pos (starEach es X.env)).any (·.1)=false:=by rfl):MF X (.Call (.Name x p) (e::es) [] pos) (cF ga gf):=
 PE.imp (Yev hc hg hm hv ha hn hdb he hpl) fun _ _ _ h=>Ynz hr h
end
def spOf(K:W.Frag)(n:Nat)(fn:List D->Option D):Sp:=fun vs H Q _=>vs.length=n/\∃ds d G,Same G H/\RpL K G ds vs/\fn ds=some d/\∀v H' G',Gr H G H' G'->Rp K G' d v->Q v H'
theorem Yte{k n:Nat}{fa':Addr}{fd':FuncData}{ps:List Str}{x:Str}{p:Pos}{fn:List D->Option D}(F:FnOk X.prog X.w X.K X.mg X.base CX0 k fa' fd' ps (spOf X.K n fn))(hr:Room k X.A)(hg:Gl X x)(hm:X.mg x=some (.ref fa'))(hk:W.keepIn X.K (.ref fa')=true)(hb:Binds X.K fd' ps [])
 (ha:MA X (e::es) ga) (hdb:(x==("__debug__":Str))=false:=by decide) (he:starEach (e::es) X.env=(false,eval e X.env)::starEach es X.env:=by rfl) (hpl:(backTo pos (starEach es X.env)).any (·.1)=false:=by rfl)
 (hl:∀ρ l,ga ρ=some l->l.length=n):ME X (.Call (.Name x p) (e::es) [] pos) (cC ga fn):=
 PE.imp (Yno (E:=E0) F hr hg hm hk hb .nil Yx2 ha hdb he hpl) fun σ H Q hx_=>by
  obtain⟨ρ,d,H0,G0,G,e,s,h⟩:=hx_
  unfold cC at e
  obtain⟨l,h1,h2⟩:=qa e
  refine tAof.at h1 s fun vs H1 G1 g1 r1 s1=>?_
  rw[List.append_nil]
  exact⟨by rw[r1.length];exact hl ρ l h1,l,d,G1,s1.seen,r1,h2,fun v H' G' g2 r2=>h v H' G' (g1.trans g2) r2⟩
theorem Yqo{ρ:Ro}{l:List D}(h:aNil ρ=some l):l.length=0:=by cases h;rfl
theorem Ygy{f:Ro->Option D}{g:Ro->Option (List D)}{n:Nat}(hg:∀ρ l,g ρ=some l->l.length=n):∀ρ l,Yg f g ρ=some l->l.length=n+1:=fun ρ l h=>by
 unfold Yg at h
 obtain⟨d,h1,e⟩:=qa h
 obtain⟨l',h2,rfl⟩:=qb e
 rw[qq,hg ρ l' h2]
def lenC:List D->Option D
 | [c]=>(Yw c).map fun l=>.int l.length
 | _=>none
theorem Yr3{G H:Hp}{c:D}{l:List D}{v:V}(h:Yw c=some l)(r:Ct K G H c v):∃p xs,v=.ref p/\(SqL K H p xs\/SqT K H p xs)/\RpL K G l xs:=by
 rcases Ybg h with rfl | rfl | ⟨ns,rfl,rfl⟩
 ·rw[Ct]at r
  obtain⟨p,xs,rfl,g,rl⟩:=r
  exact⟨p,xs,rfl,.inr (.inl (.inl g.1)),rl⟩
 ·rw[Ct]at r
  obtain⟨p,xs,rfl,g,rl⟩:=r
  exact⟨p,xs,rfl,.inl (.inl g),rl⟩
 ·rw[Ct]at r
  obtain⟨p,rfl,g⟩:=r
  exact⟨p,_,rfl,.inl g,.ints ns⟩
theorem Yk3{G:Hp}{d:D}{vs:List V}(h:RpL K G [d] vs):∃v,vs=[v]/\Rp K G d v:=by
 rw[RpL]at h
 obtain⟨x,r,rfl,h1,h2⟩:=h
 rw[RpL]at h2
 subst h2
 exact⟨x,rfl,h1⟩
theorem Ydx{G H:Hp}{d:D}{vs:List V}(h:CtL K G H [d] vs):∃v,vs=[v]/\Ct K G H d v:=by
 obtain⟨x,r,rfl,h1,h2⟩:=h
 cases (show r=[] from h2)
 exact⟨x,rfl,h1⟩
theorem Ybo:SemC X.K (fun xs H Q=>∃p ys,xs=[.ref p]/\(SqL X.K H p ys\/SqT X.K H p ys)/\Q (.int ys.length) H) lenC:=by
 intro vs ds d H G Q h s r q
 match ds,h,r with
 | [c],h,r=>
   obtain⟨l,h1,rfl⟩:=qb h
   obtain⟨v,rfl,rv⟩:=Ydx r
   obtain⟨p,xs,rfl,h2,rl⟩:=Yr3 (K:=X.K) h1 rv
   exact⟨p,xs,rfl,h2,q _ H G (.refl s) (by rw[Rp,rl.length])⟩
def Ytf:List D->Option (List D)
 | [c]=>Yw c
 | _=>none
theorem Yqp:SemF X.K (fun xs H Q=>∃p ys,xs=[.ref p]/\(SqL X.K H p ys\/SqT X.K H p ys)/\∀l,H l=none->Q (.ref l) (upd H l (.lst ys))) Ytf:=by
 intro vs ds l H G Q h s r q
 match ds,h,r with
 | [c],h,r=>
   obtain⟨v,rfl,rv⟩:=Ydx r
   obtain⟨p,xs,rfl,h2,rl⟩:=Yr3 (K:=X.K) h rv
   exact⟨p,xs,rfl,h2,fun m hm=>q m xs _ G (.hid s hm _) hm (s.free hm) Yy rl⟩
def tupC:List D->Option D
 | [c]=>(Yw c).map D.tup
 | _=>none
theorem Ydy:SemC X.K (fun xs H Q=>∃p ys,xs=[.ref p]/\((SqL X.K H p ys/\∀l,H l=none->Q (.ref l) (upd H l (.tup ys)))\/(SqT X.K H p ys/\Q (.ref p) H))) tupC:=by
 intro vs ds d H G Q h s r q
 match ds,h,r with
 | [c],h,r=>
   obtain⟨l,h1,rfl⟩:=qb h
   obtain⟨v,rfl,rv⟩:=Ydx r
   rcases Ybg h1 with rfl | rfl | ⟨ns,rfl,rfl⟩
   ·rw[Ct]at rv
    obtain⟨p,xs,rfl,g,rl⟩:=rv
    exact⟨p,xs,rfl,.inr ⟨.inl (.inl g.1),q _ H G (.refl s) (by rw[Rp];exact⟨p,xs,rfl,g.2,rl⟩)⟩⟩
   ·rw[Ct]at rv
    obtain⟨p,xs,rfl,g,rl⟩:=rv
    refine⟨p,xs,rfl,.inl ⟨.inl g,fun m hm=>q _ _ _ (.new s hm (.tup xs)) ?_⟩⟩
    rw[Rp]
    exact⟨m,xs,rfl,Yy,rl.mono (Gr.new s hm (.tup xs)).g⟩
   ·rw[Ct]at rv
    obtain⟨p,rfl,g⟩:=rv
    refine⟨p,_,rfl,.inl ⟨g,fun m hm=>q _ _ _ (.new s hm (.tup _)) ?_⟩⟩
    rw[Rp]
    exact⟨m,_,rfl,Yy,.ints ns⟩
def intC:List D->Option D
 | [.int i]=>some (.int i)
 | [.bl k]=>some (.int (if k then 1 else 0))
 | _=>none
theorem Yit:SemC X.K (fun xs H Q=>(∃i,xs=[.int i]/\Q (.int i) H)\/∃k,xs=[.bl k]/\Q (.int (if k then 1 else 0)) H) intC:=by
 intro vs ds d H G Q h s r q
 match ds,h,r with
 | [.int i],h,r=>
   cases h
   obtain⟨v,rfl,rv⟩:=Ydx r
   rw[Ct]at rv
   subst rv
   exact .inl ⟨i,rfl,q _ H G (.refl s) (by rw[Rp])⟩
 | [.bl k],h,r=>
   cases h
   obtain⟨v,rfl,rv⟩:=Ydx r
   rw[Ct]at rv
   subst rv
   exact .inr ⟨k,rfl,q _ H G (.refl s) (by rw[Rp])⟩
end
end
section
variable {K:W.Frag}
section
variable {X:Cx} {e:Expr} {f:Ro->Option D} {gl:Ro->Option (List D)} {pos pos':Pos} {st:Stmt} {sts:List Stmt} {fs gs:Ro->Option Out}
def sNil:Ro->Option Out:=fun ρ=>some (.nx ρ)
def sSeq(f g:Ro->Option Out):Ro->Option Out:=fun ρ=>(f ρ).bind fun
 | .nx ρ'=>g ρ'
 | o=>some o
theorem Ywf:MB X [] sNil:=PSs.imp Yne fun F σ H hx_=>by
 obtain⟨ρ,out,H0,G0,G,e,s,h⟩:=hx_
 cases e
 exact h σ H G s
theorem Ytg(h1:MS X st fs)(h2:MB X sts gs):MB X (st::sts) (sSeq fs gs):=PSs.imp (Yes h1 h2) fun F σ H hx_=>by
 obtain⟨ρ,out,H0,G0,G,e,s,h⟩:=hx_
 unfold sSeq at e
 obtain⟨o,h3,e⟩:=qa e
 cases o with
 | nx ρ'=>exact⟨ρ,.nx ρ',H0,G0,G,h3,s,fun σ' H' G' s'=>⟨ρ',out,H0,G0,G',e,s',h⟩⟩
 | rt d=>cases e;exact⟨ρ,.rt d,H0,G0,G,h3,s,h⟩
 | bk ρ'=>cases e;exact⟨ρ,.bk ρ',H0,G0,G,h3,s,h⟩
 | ct ρ'=>cases e;exact⟨ρ,.ct ρ',H0,G0,G,h3,s,h⟩
theorem Ywg(h1:MS X st fs):MB X [st] fs:=Ysl h1
def frz1(i:Nat)(ρ:Ro):Ro:=match ρ[i]? with
 | some (some (B.ow l))=>ρ.set i (some (.sh (.lst l)))
 | some (some (B.od t ks vs))=>ρ.set i (some (.sh (.dct t ks vs)))
 | _=>ρ
theorem SR.frz1{H0 G0 H G:Hp}{σ:L2.St}{ρ:Ro}(s:SR K H0 G0 σ H G ρ)(i:Nat):∃G',SR K H0 G0 σ H G' (M.frz1 i ρ):=by
 unfold M.frz1
 split
 ·rename_i l hl
  exact s.freeze hl
 ·rename_i t ks vs hl
  exact s.freezed hl
 ·exact⟨G,s⟩
def frz(is:List Nat)(ρ:Ro):Ro:=is.foldl (fun r i=>frz1 i r) ρ
theorem SR.frz{H0 G0 H:Hp}{σ:L2.St}:∀(is:List Nat) {G:Hp} {ρ:Ro},SR K H0 G0 σ H G ρ->∃G',SR K H0 G0 σ H G' (M.frz is ρ)
 | [],G,_,s=>⟨G,s⟩
 | i::is,_,ρ,s=>by
   obtain⟨G',s'⟩:=s.frz1 i
   exact SR.frz is s'
def wF(is:List Nat)(f:Ro->Option Out):Ro->Option Out:=fun ρ=>f (frz is ρ)
theorem Ywh(is:List Nat)(h:MS X st fs):MS X st (wF is fs):=PS.imp h fun F σ H hx_=>by
 obtain⟨ρ,out,H0,G0,G,e,s,h⟩:=hx_
 obtain⟨G',s'⟩:=SR.frz is s
 exact⟨frz is ρ,out,H0,G0,G',e,s',h⟩
def sSet(i:Nat)(f:Ro->Option D):Ro->Option Out:=fun ρ=>(f ρ).map fun d=>.nx (ρ.set i (some (.sh d)))
def sOwn(i:Nat)(f:Ro->Option (List D)):Ro->Option Out:=fun ρ=>(f ρ).map fun l=>.nx (ρ.set i (some (.ow l)))
theorem Ywi{i:Nat}{F:Ends}{σ:L2.St}{H:Hp}(h:sOf K (sSet i f) F σ H):tAsg (tOf K f) (Yjq i) F σ H:=by
 obtain⟨ρ,out,H0,G0,G,e,s,h⟩:=h
 obtain⟨d,h1,rfl⟩:=qb e
 exact tOf.at h1 s fun v H1 G1 g1 r1 s1=>h _ H1 G1 (s1.set_sh i r1)
theorem Ywj{i:Nat}{F:Ends}{σ:L2.St}{H:Hp}(h:sOf K (sOwn i gl) F σ H):tAsg (tFof K gl) (Yjq i) F σ H:=by
 obtain⟨ρ,out,H0,G0,G,e,s,h⟩:=h
 obtain⟨l,h1,rfl⟩:=qb e
 exact⟨ρ,l,H0,G0,G,h1,s,fun p xs H' G' g hp gp e' r=>h _ H' G' (s.set_ow i g hp gp e' r)⟩
theorem Ywk(i:Nat){x:Str}(hN:X.N.Nodup)(he:ME X e f)(hi:X.N[i]?=some x:=by rfl)(hx:Loc X.env.scope x:=by first | exact Or.inl rfl | exact Or.inr rfl)(hs:swapsWith e (some (.Name x pos')) pos.line X.env=pure false:=by rfl)
 (hf:X.fn x=true\/X.env.scope.names.lookup x=some .local:=by first | exact .inl rfl | exact .inr rfl):MS X (.Assign [.Name x pos'] e pos) (sSet i f):=PS.imp (Yng hN hi hx he hs hf) fun _ _ _ h=>Ywi h
theorem Ywl(i:Nat){x:Str}(hN:X.N.Nodup)(he:MF X e gl)(hi:X.N[i]?=some x:=by rfl)(hx:Loc X.env.scope x:=by first | exact Or.inl rfl | exact Or.inr rfl)(hs:swapsWith e (some (.Name x pos')) pos.line X.env=pure false:=by rfl)
 (hf:X.fn x=true\/X.env.scope.names.lookup x=some .local:=by first | exact .inl rfl | exact .inr rfl):MS X (.Assign [.Name x pos'] e pos) (sOwn i gl):=PS.imp (Yng hN hi hx he hs hf) fun _ _ _ h=>Ywj h
def sRet(f:Ro->Option D):Ro->Option Out:=fun ρ=>(f ρ).map .rt
theorem Ywm(he:ME X e f):MS X (.Return (some e) pos) (sRet f):=PS.imp (Yrr he) fun F σ H hx_=>by
 obtain⟨ρ,out,H0,G0,G,e,s,h⟩:=hx_
 obtain⟨d,h1,rfl⟩:=qb e
 exact tOf.at h1 s fun v H1 G1 g1 r1 s1=>h v H1 G1 s1.gr r1
def sIf(c:Ro->Option Bool)(f g:Ro->Option Out):Ro->Option Out:=fun ρ=>(c ρ).bind fun k=>if k=true then f ρ else g ρ
theorem Yyg{c:Expr}{a b:List Stmt}{fc:Ro->Option Bool}(hc:MT X c fc)(ha:MB X a fs)(hb:MB X b gs):MS X (.If c a b pos) (sIf fc fs gs):=PS.imp (Ysm hc ha hb) fun F σ H hx_=>by
 obtain⟨ρ,out,H0,G0,G,e,s,h⟩:=hx_
 unfold sIf at e
 obtain⟨k,h1,e⟩:=qa e
 refine tTof.at h1 s fun H1 G1 g1 s1=>?_
 cases k with
 | true=>
   rw[if_pos rfl]at e ⊢
   exact⟨ρ,out,H0,G0,G1,e,s1,h⟩
 | false=>
   rw[if_neg qh]at e ⊢
   exact⟨ρ,out,H0,G0,G1,e,s1,h⟩
def sMut(i:Nat)(f:Ro->Option D)(g:List D->D->Option (List D)):Ro->Option Out:=fun ρ=>(getO i ρ).bind fun l=>(f ρ).bind fun d=>(g l d).map fun l'=>.nx (ρ.set i (some (.ow l')))
theorem Yr4{H0 G0 H G:Hp}{σ:L2.St}{ρ:Ro}{i:Nat}{l:List D}(s:SR K H0 G0 σ H G ρ)(h:getO i ρ=some l):∃a xs,σ[i]?=some (some (V.ref a))/\H a=some (.lst xs)/\RpL K G l xs/\G a=none:=by
 obtain⟨a,xs,h1,h2,h3,h4,h5⟩:=s.ow i l (Ygu h)
 exact⟨a,xs,h1,h4,h5,h2⟩
def appD(l:List D)(d:D):Option (List D):=if l.length < cap6 then some (l++[d])else none
theorem Yn2(i:Nat){x:Str}{p2 apos cpos:Pos}(he:ME X e f)(hN:X.N[i]?=some x:=by rfl)(hv:Vis X.env.scope x:=by first | exact Or.inl rfl | exact Or.inr (Or.inl rfl) | exact Or.inr (Or.inr rfl))
 (hd:(x==("__debug__":Str))=false:=by decide) (hcd:(x==("__classdict__":Str))=false:=by decide) (hse:swapsWith (.Call (.Attribute (.Name x p2) "append" apos) [e] [] cpos) none pos.line X.env=pure false:=by rfl)
 (hs:starEach [e] X.env=[(false,eval e X.env)]:=by rfl)
 (hfew:((backTo cpos (starEach [e] X.env)).all (fun x=>!x.1)&&(backToKw cpos (keywordEach [] X.env)).all (fun x=>x.1.isSome)&&decide ([e].length+([]:List Keyword).length+(if ([]:List Keyword).isEmpty then 0 else 1) < 30))=true:=by rfl)
 (hline:(apos.endLine==cpos.line)=true:=by rfl) (hbase:attributeBase (.Name x p2) "append" X.env (eval (.Name x p2) X.env)=eval (.Name x p2) X.env:=by rfl) :
 MS X (.Expr (.Call (.Attribute (.Name x p2) "append" apos) [e] [] cpos) pos) (sMut i f appD):=
 PS.imp (Ynf (Yvo PySem.F.plainAttrs_list PySem.F.slot_list_append PySem.F.type_list_append Ygn (Yhv hN hv hd hcd) (Ybn he Yfx hs) hbase hfew hline hs rfl) hse) fun F σ H hx_=>by
  obtain⟨ρ,out,H0,G0,G,e,s,h⟩:=hx_
  unfold sMut at e
  obtain⟨l,h1,e⟩:=qa e
  obtain⟨d,h2,e⟩:=qa e
  obtain⟨l',h3,rfl⟩:=qb e
  unfold appD at h3
  split at h3
  ·rename_i hl
   cases h3
   obtain⟨a,xs,ha,hH,hr,hG⟩:=Yr4 s h1
   refine⟨_,ha,.inl ⟨rfl,xs,SqL.of hH⟩,tOf.at h2 s fun v H1 G1 g1 r1 s1=>?_⟩
   refine⟨a,xs,v,rfl,rfl,g1.h _ _ hH,?_,h σ _ G1 (s1.mut (Ygu h1) ha ((hr.mono g1.g).append (.one r1)))⟩
   rw[hr.length]
   exact qx hl (Yfj (qt _))
  ·cases h3
theorem Yqq{J:It}{G':Hp}{ds:List D}(hz:ds.length<=sizeLine)(h:∀(i:Nat) H2 G2,Same G' G2->Same G2 H2->(∀d,ds[i]?=some d->J.go i H2/\∀y H3,J.yld i H2 y H3->H3=H2/\Rp K G2 d y)/\(ds.length<=i->J.stop i H2)):Wk K J G' ds:=
 ⟨hz,fun i H2 G2 s1 s2=>⟨fun d hd=>⟨((h i H2 G2 s1 s2).1 d hd).1,fun y H3 q=>by
  obtain⟨rfl,r⟩:=((h i H2 G2 s1 s2).1 d hd).2 y H3 q
  exact⟨G2,.refl s2,r⟩⟩,(h i H2 G2 s1 s2).2⟩⟩
variable {tg:Expr}
def iSeq(K:W.Frag)(tl:TE):TI:=fun σ H R=>tl σ H fun x H1=>∃a xs,x=.ref a/\((SqL K H1 a xs/\(xs.length<=sizeLine->R (Itl K a) H1))\/(SqT K H1 a xs/\(xs.length<=sizeLine->R (Itt K a) H1)))
theorem Ywn{l:Expr}{tl:TE}(hl:PE X l tl):PI X tg l (iSeq X.K tl):=by
 intro pins s σ H R I h
 refine thn (hl pins s σ H _ I h) fun v s1 hx_=>?_
 obtain⟨x,H1,I1,r1,q1⟩:=hx_
 obtain⟨a,xs,e,q1⟩:=q1
 subst e
 cases r1
 rcases q1 with⟨hq,q⟩ | ⟨hq,q⟩
 ·obtain⟨its,rv,p,hz⟩:=I1.list hq
  refine wpAny_pyIter_list p.isList ?_
  refine⟨s1.heap.objs.size,[s1.heap.objs.size],_,_,H1,rfl,I1.kept (t':=s1.toks) fun b o e=>qd _ e,Ynh a _,⟨_,qo _ rfl,rfl,rfl⟩,fun b hb=>?_,q hz⟩
  have e:b=s1.heap.objs.size:=by simpa using hb
  subst e
  exact I1.fpOk (qt _) (I1.hok.fresh (qt _))
 ·obtain⟨its,rv,p,hz⟩:=I1.tuple hq
  refine wpAny_pyIter_tuple (show s1.heap.IsTuple a its.toArray from p) ?_
  refine⟨s1.heap.objs.size,[s1.heap.objs.size],_,_,H1,rfl,I1.kept (t':=s1.toks) fun b o e=>qd _ e,Ymt a _,⟨_,qo _ rfl,rfl,rfl⟩,fun b hb=>?_,q hz⟩
  have e:b=s1.heap.objs.size:=by simpa using hb
  subst e
  exact I1.fpOk (qt _) (I1.hok.fresh (qt _))
theorem Ywo{l:Expr}(hl:ME X l f):MI X tg l (b1 f Yw):=PI.imp (Ywn hl) fun σ H R hx_=>by
 obtain⟨ρ,ds,H0,G0,G,e,s,h⟩:=hx_
 obtain⟨c,h1,h2⟩:=Yc5 e
 refine tOf.at h1 s fun v H1 G1 g1 r1 s1=>?_
 rcases Ybg h2 with rfl | rfl | ⟨ns,rfl,rfl⟩
 ·rw[Rp]at r1
  obtain⟨p,xs,rfl,g,rl⟩:=r1
  refine⟨p,xs,rfl,.inr ⟨.inl (.inl (s1.seen _ _ g)),fun hz=>h _ H1 G1 g1 (Yqq (by rw[<-rl.length];exact hz) fun i H2 G2 e1 e2=>⟨fun d hd=>?_,fun hi=>⟨xs,.inl (.inl (e2 _ _ (e1 _ _ g))),by rw[rl.length];exact hi⟩⟩)⟩⟩
  obtain⟨x,hx,rx⟩:=rl.get hd
  refine⟨⟨xs,x,.inl (.inl (e2 _ _ (e1 _ _ g))),hx⟩,fun y H3 q=>⟨q.1,?_⟩⟩
  have:=q.2 xs (.inl (.inl (e2 _ _ (e1 _ _ g))))
  rw[hx]at this
  cases this
  exact rx.mono e1
 ·rw[Rp]at r1
  obtain⟨p,xs,rfl,g,rl⟩:=r1
  refine⟨p,xs,rfl,.inl ⟨.inl (Yc4 s1.seen g),fun hz=>h _ H1 G1 g1 (Yqq (by rw[<-rl.length];exact hz) fun i H2 G2 e1 e2=>⟨fun d hd=>?_,fun hi=>⟨xs,.inl (Yc4 e2 (Yc4 e1 g)),by rw[rl.length];exact hi⟩⟩)⟩⟩
  obtain⟨x,hx,rx⟩:=rl.get hd
  refine⟨⟨xs,x,.inl (Yc4 e2 (Yc4 e1 g)),hx⟩,fun y H3 q=>⟨q.1,?_⟩⟩
  have:=q.2 xs (.inl (Yc4 e2 (Yc4 e1 g)))
  rw[hx]at this
  cases this
  exact rx.mono e1
 ·rw[Rp]at r1
  obtain⟨p,rfl,g⟩:=r1
  have rl:RpL X.K G1 (ns.map D.int) (ns.map V.int):=.ints ns
  refine⟨p,_,rfl,.inl ⟨s1.seen.seq g,fun hz=>h _ H1 G1 g1 (Yqq (by rw[<-rl.length];exact hz) fun i H2 G2 e1 e2=>⟨fun d hd=>?_,fun hi=>⟨_,e2.seq (e1.seq g),by rw[rl.length];exact hi⟩⟩)⟩⟩
  obtain⟨x,hx,rx⟩:=rl.get hd
  refine⟨⟨_,x,e2.seq (e1.seq g),hx⟩,fun y H3 q=>⟨q.1,?_⟩⟩
  have:=q.2 _ (e2.seq (e1.seq g))
  rw[hx]at this
  cases this
  exact rx.mono e1
def rngD(a n:Int):List D:=(List.range (n - a).toNat).map fun i=>.int (a+(i:Nat))
theorem Ygz(a n:Int):(rngD a n).length=(n - a).toNat:=by simp[rngD]
theorem Ywp{a n:Int}{G':Hp}(hz:(n - a).toNat<=sizeLine):Wk K (Itr a (n - a).toNat) G' (rngD a n):=
 Yqq (by rw[Ygz];exact hz) fun i H2 G2 _ _=>⟨fun d hd=>by
  unfold rngD at hd
  rw[qz]at hd
  obtain⟨j,h1,rfl⟩:=qb hd
  have hj:i < (n - a).toNat:=by
   have:=(qm h1).1
   simpa using this
  rw[List.getElem?_range hj]at h1
  cases h1
  exact⟨hj,fun y H3 q=>⟨q.1,by rw[Rp];exact q.2⟩⟩,fun hi=>by rw[Ygz]at hi;exact hi⟩
def rng1:List D->Option (List D)
 | [.int n]=>if decide (-(cap6:Int)<=n)&&decide (n<=cap6)then some (rngD 0 n)else none
 | _=>none
theorem Yn3{l ds:List D}(h:rng1 l=some ds):∃n:Int,l=[.int n]/\-1000000<=n/\n<=1000000/\ds=rngD 0 n:=by
 unfold rng1 at h
 split at h
 ·rename_i n
  split at h
  ·rename_i hc
   cases h
   simp only[Qb,decide_eq_true_eq]at hc
   have hcap:(cap6:Int)=1000000:=by decide
   exact⟨n,rfl,by lia,by lia,rfl⟩
  ·cases h
 ·cases h
theorem Yn4{a:Expr}{ga:Ro->Option (List D)}{p:Pos}(hg:Gl X "range")(hm:X.mg "range"=none)(ha:MA X [a] ga)(hs:starEach [a] X.env=[(false,eval a X.env)]:=by rfl):MI X tg (.Call (.Name "range" p) [a] [] pos) (cF ga rng1):=
 PI.imp (Yni hg hm ha hs) fun σ H R hx_=>by
  obtain⟨ρ,ds,H0,G0,G,e,s,h⟩:=hx_
  unfold cF at e
  obtain⟨l,h1,h2⟩:=qa e
  refine tAof.at h1 s fun vs H1 G1 g1 r1 s1=>?_
  obtain⟨n,rfl,c1,c2,rfl⟩:=Yn3 h2
  obtain⟨v,rfl,rv⟩:=Yk3 r1
  rw[Rp]at rv
  subst rv
  refine⟨n,rfl,by lia,by lia,?_⟩
  have:=h (Itr 0 (n - 0).toNat) H1 G1 g1 (Ywp (Yfj (by unfold cap6;lia)))
  simpa using this
def gSet(i:Nat):D->Ro->Option Ro:=fun d ρ=>some (ρ.set i (some (.sh d)))
theorem Yth(i:Nat){x:Str}(hN:X.N.Nodup)(hi:X.N[i]?=some x:=by rfl)(hx:Loc X.env.scope x:=by first | exact Or.inl rfl | exact Or.inr rfl)(hf:X.fn x=true\/X.env.scope.names.lookup x=some .local:=by first | exact .inl rfl | exact .inr rfl):MG X (.Name x pos) (gSet i):=
 PG.imp (Ysn hN hi hx hf) fun v σ H Q hx_=>by
  obtain⟨d,ρ,ρ',H0,G0,G,e,s,r,h⟩:=hx_
  cases e
  exact h _ (s.set_sh i r)
def forM(gt:D->Ro->Option Ro)(fb:Ro->Option Out):List D->Ro->Option Out
 | [],ρ=>some (.nx ρ)
 | d::ds,ρ=>(gt d ρ).bind fun ρ1=>(fb ρ1).bind fun
   | .nx ρ2=>forM gt fb ds ρ2
   | .ct ρ2=>forM gt fb ds ρ2
   | .bk ρ2=>some (.nx ρ2)
   | .rt d=>some (.rt d)
def sFor(gl:Ro->Option (List D))(gt:D->Ro->Option Ro)(fb:Ro->Option Out):Ro->Option Out:=fun ρ=>(gl ρ).bind fun ds=>forM gt fb ds ρ
theorem Yen{gt:D->Ro->Option Ro}{fb:Ro->Option Out}:∀(ds:List D) (ρ:Ro) (out:Out),forM gt fb ds ρ=some out->(∃ρ',out=.nx ρ')\/∃d,out=.rt d
 | [],ρ,out,h=>by cases h;exact .inl ⟨_,rfl⟩
 | d::ds,ρ,out,h=>by
   rw[forM]at h
   obtain⟨ρ1,h1,h⟩:=qa h
   obtain⟨o,h2,h⟩:=qa h
   cases o with
   | nx ρ2=>exact Yen ds ρ2 out h
   | ct ρ2=>exact Yen ds ρ2 out h
   | bk ρ2=>cases h;exact .inl ⟨_,rfl⟩
   | rt d=>cases h;exact .inr ⟨_,rfl⟩
theorem Ywq{iter:Expr}{body:List Stmt}{gt:D->Ro->Option Ro}(hp:PassesOwn (model X.prog X.w) X.A X.env X.xe)(hc:X.calm=true)(hi:MI X tg iter gl)(hg:MG X tg gt)(hb:MB X body fs)
 (hs:∀x,foldedSetIterable iter X.env x=pure x:=by intro _;rfl):MS X (.For tg iter body [] pos) (sFor gl gt fs):=
 PS.imp (Yu3 hp hc hi hg hb hs) fun F σ H hx_=>by
  obtain⟨ρ,out,H0,G0,G,e,s,h⟩:=hx_
  unfold sFor at e
  obtain⟨ds,h1,h2⟩:=qa e
  refine⟨ρ,ds,H0,G0,G,h1,s,fun J H1 G1 g1 wk=>?_⟩
  obtain⟨Hb,sb,back⟩:=(s.grow g1).rebase
  have hout:=Yen ds ρ out h2
  refine⟨fun i m σ' H'=>m=ds.length - i/\i<=ds.length/\∃ρ' G',SR X.K Hb G1 σ' H' G' ρ'/\forM gt fs (ds.drop i) ρ'=some out,⟨_,rfl,Nat.zero_le _,ρ,G1,sb,h2⟩,?_⟩
  rintro i m σ' H' ⟨rfl,hi,ρ',G',s',e'⟩
  have W:=wk.2 i H' G' s'.gr.g s'.seen
  by_cases hlt:i < ds.length
  ·have hd:ds[i]?=some ds[i]:=qp hlt
   obtain⟨go,yl⟩:=W.1 _ hd
   rw[List.drop_eq_getElem_cons hlt,forM]at e'
   obtain⟨ρ1,e1,e'⟩:=qa e'
   obtain⟨o,e2,e'⟩:=qa e'
   refine .inr ⟨go,fun σ' H'=>i+1<=ds.length/\∃ρ' G',SR X.K Hb G1 σ' H' G' ρ'/\forM gt fs (ds.drop (i+1)) ρ'=some out,fun σ2 H2 q=>⟨ds.length - (i+1),by lia,rfl,q.1,q.2⟩,fun x H2 y=>?_⟩
   obtain⟨G2,g2,r2⟩:=yl x H2 y
   refine⟨_,ρ',ρ1,Hb,G1,G2,e1,s'.grow g2,r2,fun σ3 s3=>?_⟩
   refine⟨ρ1,o,Hb,G1,G2,e2,s3,?_⟩
   cases o with
   | nx ρ2=>exact fun σ4 H4 G4 s4=>⟨hlt,ρ2,G4,s4,e'⟩
   | ct ρ2=>exact fun σ4 H4 G4 s4=>⟨hlt,ρ2,G4,s4,e'⟩
   | bk ρ2=>
     cases e'
     exact fun σ4 H4 G4 s4=>h σ4 H4 G4 (back _ _ _ _ s4)
   | rt d=>
     cases e'
     refine fun v H4 G4 g4 r4=>h v H4 G4 ?_ r4
     have:=(back [] H4 G4 [] (SR.mkSh g4 rfl (fun i d e=>(by simp at e)) (fun i l e=>(by simp at e)) (fun i t ks vs e=>(by simp at e)))).gr
     exact this
  ·have ei:i=ds.length:=by lia
   subst ei
   rw[List.drop_length,forM]at e'
   cases e'
   exact .inl ⟨W.2 (qt _),h σ' H' G' (back _ _ _ _ s')⟩
def capR(src:List (Option Nat))(ρ:Ro):Ro:=src.map fun o=>o.bind fun j=>match ρ[j]? with
 | some (some (B.sh d))=>some (.sh d)
 | _=>none
theorem SR.cap{H0 G0 H G:Hp}{σ:L2.St}{ρ:Ro}(s:SR K H0 G0 σ H G ρ)(src:List (Option Nat)):SR K H G (capσ src σ) H G (capR src ρ):=by
 have noow:∀(i:Nat) l,(capR src ρ)[i]?≠some (some (B.ow l)):=fun i l h=>by
  unfold capR at h
  rw[qz]at h
  obtain⟨o,h1,h2⟩:=qb h
  obtain⟨j,rfl,h3⟩:=qa h2
  split at h3<;>cases h3
 have nood:∀(i:Nat) t ks vs,(capR src ρ)[i]?≠some (some (B.od t ks vs)):=fun i t ks vs h=>by
  unfold capR at h
  rw[qz]at h
  obtain⟨o,h1,h2⟩:=qb h
  obtain⟨j,rfl,h3⟩:=qa h2
  split at h3<;>cases h3
 refine SR.mkSh (.refl s.seen) (by simp[capσ,capR]) (fun i d h=>?_) noow nood
 unfold capR at h
 rw[qz]at h
 obtain⟨o,h1,h2⟩:=qb h
 obtain⟨j,rfl,h3⟩:=qa h2
 split at h3
 ·rename_i d' hd
  cases h3
  obtain⟨v,q1,q2⟩:=s.sh j _ hd
  refine⟨v,?_,q2⟩
  unfold capσ
  rw[qz,h1]
  show some ((σ[j]?).join)=some (some v)
  rw[q1]
  rfl
 ·cases h3
def Ydz(gt:D->Ro->Option Ro)(fc:Ro->Option Bool)(fe:Ro->Option D)(ρ:Ro):List D->Option (List D)
 | []=>some []
 | d::ds=>(gt d ρ).bind fun ρ1=>(fc ρ1).bind fun k=>if k=true then (fe ρ1).bind fun v=>(Ydz gt fc fe ρ ds).map (v::·)else Ydz gt fc fe ρ ds
def Yej(gl:Ro->Option (List D))(src:List (Option Nat))(gt:D->Ro->Option Ro)(fc:Ro->Option Bool)(fe:Ro->Option D):Ro->Option (List D):=fun ρ=>(gl ρ).bind fun ds=>Ydz gt fc fe (capR src ρ) ds
def tY:Ro->Option Bool:=fun _=>some true
theorem Yti{σ:L2.St}{H:Hp}{Q:Bool->Hp->Prop}(h:tTof K tY σ H Q):tYes σ H Q:=by
 obtain⟨ρ,k,H0,G0,G,e,s,h⟩:=h
 cases e
 exact h H G (.refl s.seen)
theorem Yn5:PIfs X [] (tTof X.K tY):=fun pins s σ H Q I h=>Ysy pins s σ H Q I (Yti h)
theorem Yb7{src:List (Option Nat)}{i:Nat}(h:src[i]?=some none):∀ρ d ρ1,gSet i d (capR src ρ)=some ρ1->Le (capR src ρ) ρ1:=fun ρ d ρ1 e=>by
 cases e
 refine⟨by simp,fun j b hb=>?_⟩
 by_cases hj:j=i
 ·subst hj
  unfold capR at hb
  rw[qz,h]at hb
  cases hb
 ·rw[qy (Ne.symm hj)];exact hb
theorem Yn6{src:List (Option Nat)}{gt:D->Ro->Option Ro}{fc:Ro->Option Bool}{fe:Ro->Option D}(hle:∀ρ d ρ1,gt d (capR src ρ)=some ρ1->Le (capR src ρ) ρ1){σ:L2.St}{H:Hp}{Q:VK}
 (h:tFof K (Yej gl src gt fc fe) σ H Q):tLC (tIof K gl) src (gOf K gt) (tTof K fc) (tOf K fe) σ H Q:=by
 obtain⟨ρ,l,H0,G0,G,e,s,h⟩:=h
 unfold Yej at e
 obtain⟨ds,h1,h2⟩:=qa e
 refine⟨ρ,ds,H0,G0,G,h1,s,fun J H1 G1 g1 wk p hp=>?_⟩
 have s1:=s.grow g1
 have sc:=s1.cap src
 have gp:G1 p=none:=s1.seen.free hp
 refine⟨fun i m σ' H'=>m=ds.length - i/\i<=ds.length/\∃G' done xs rest,SR K H1 G1 σ' H' G' (capR src ρ)/\H' p=some (.lst xs)/\G' p=none/\RpL K G' done xs/\xs.length<=i/\Ydz gt fc fe (capR src ρ) (ds.drop i)=some rest/\done++rest=l,
  ⟨_,rfl,Nat.zero_le _,G1,[],[],l,sc.grow (Gr.hid s1.seen hp _),Yy,gp,.nil,Nat.zero_le _,h2,rfl⟩,?_⟩
 rintro i m σ' H' ⟨rfl,hi,G',done,xs,rest,s',hx,gx,rx,hl,e',hd⟩
 have W:=wk.2 i H' G' s'.gr.g s'.seen
 by_cases hlt:i < ds.length
 ·have hdi:ds[i]?=some ds[i]:=qp hlt
  obtain⟨go,yl⟩:=W.1 _ hdi
  rw[List.drop_eq_getElem_cons hlt,Ydz]at e'
  obtain⟨ρ1,e1,e'⟩:=qa e'
  obtain⟨k,e2,e'⟩:=qa e'
  refine .inr ⟨go,fun x H2 y=>?_⟩
  obtain⟨G2,g2,r2⟩:=yl x H2 y
  have keep:∀{Ha Ga Hb Gb:Hp},Gr Ha Ga Hb Gb->Ha p=some (.lst xs)->Ga p=none->Hb p=some (.lst xs)/\Gb p=none:=fun {Ha Ga Hb Gb} g e1 e2=>by
   refine⟨g.h _ _ e1,?_⟩
   cases q:Gb p with
   | none=>rfl
   | some o=>
     have:=g.n p e2 (by rw[q];exact fun z=>nomatch z)
     rw[e1]at this
     cases this
  obtain⟨hx2,gx2⟩:=keep g2 hx gx
  refine⟨_,capR src ρ,ρ1,H1,G1,G2,e1,s'.grow g2,r2,fun σ3 s3=>?_⟩
  refine tTof.at e2 s3 fun H4 G4 g4 s4=>?_
  obtain⟨hx4,gx4⟩:=keep g4 hx2 gx2
  have le:=hle ρ _ ρ1 e1
  cases k with
  | false=>
    rw[if_neg qh]at e' ⊢
    exact⟨ds.length - (i+1),by lia,rfl,hlt,G4,done,xs,rest,s4.le le,hx4,gx4,(rx.mono g2.g).mono g4.g,by lia,e',hd⟩
  | true=>
    rw[if_pos rfl]at e' ⊢
    obtain⟨v,e3,e'⟩:=qa e'
    obtain⟨rest',e4,rfl⟩:=qb e'
    refine tOf.at e3 s4 fun w H5 G5 g5 r5 s5=>?_
    obtain⟨hx5,gx5⟩:=keep g5 hx4 gx4
    have hz:=wk.1
    refine⟨xs,hx5,by lia,ds.length - (i+1),by lia,rfl,hlt,G5,done++[v],xs++[w],rest',?_,Yy,gx5,(((rx.mono g2.g).mono g4.g).mono g5.g).append (.one r5),by simp;lia,e4,by simpa using hd⟩
    have s6:=s5.le le
    have noow:∀(i:Nat) l,(capR src ρ)[i]?≠some (some (B.ow l)):=fun i l h=>by
     unfold capR at h
     rw[qz]at h
     obtain⟨o,h1,h2⟩:=qb h
     obtain⟨j,rfl,h3⟩:=qa h2
     split at h3<;>cases h3
    have nood:∀(i:Nat) t ks vs,(capR src ρ)[i]?≠some (some (B.od t ks vs)):=fun i t ks vs h=>by
     unfold capR at h
     rw[qz]at h
     obtain⟨o,h1,h2⟩:=qb h
     obtain⟨j,rfl,h3⟩:=qa h2
     split at h3<;>cases h3
    refine SR.mkSh ⟨fun b o q=>?_,s6.gr.g,fun b o q=>?_,s6.gr.n⟩ s6.len s6.sh noow nood
    ·rw[Yaa (Yab q hp)];exact s6.gr.h b o q
    ·rw[Yaa (Yab q gx5)];exact s6.gr.s b o q
 ·have ei:i=ds.length:=by lia
  subst ei
  rw[List.drop_length,Ydz]at e'
  cases e'
  rw[List.append_nil]at hd
  subst hd
  exact .inl ⟨W.2 (qt _),h p xs H' G' (g1.trans s'.gr) (g1.h.free hp) gx hx rx⟩
section
variable {elt iter:Expr} {ifs:List Expr} {scope:Scope} {N:List Str} {src:List (Option Nat)} {gt:D->Ro->Option Ro} {fc:Ro->Option Bool} {fe:Ro->Option D}
theorem Ytj(S:CompSc X.N X.env.scope N src scope)(hc:X.calm=true)(hit:MI X tg iter gl)(hg:∀cl C fp s H,MG (Yv X scope N cl C fp s H) tg gt)(hi:∀cl C fp s H,PIfs (Yv X scope N cl C fp s H) ifs (tTof X.K fc))(he:∀cl C fp s H,ME (Yv X scope N cl C fp s H) elt fe)
 (hle:∀ρ d ρ1,gt d (capR src ρ)=some ρ1->Le (capR src ρ) ρ1) (hs:∀x,foldedSetIterable iter X.env x=pure x:=by intro _;rfl):MF X (.ListComp elt [⟨tg,iter,ifs,0⟩] scope pos) (Yej gl src gt fc fe):=
 PE.imp (Ysz S hc hit hg hi he hs) fun _ _ _ h=>Yn6 hle h
theorem Ytk(i:Nat){y:Str}{py spos:Pos}(hN:X.N.Nodup)(S:CompSc X.N X.env.scope N src scope)(hc:X.calm=true)(hit:MI X tg iter gl)(hg:∀cl C fp s H,MG (Yv X scope N cl C fp s H) tg gt)(hi:∀cl C fp s H,PIfs (Yv X scope N cl C fp s H) ifs (tTof X.K fc))(he:∀cl C fp s H,ME (Yv X scope N cl C fp s H) elt fe)
 (hle:∀ρ d ρ1,gt d (capR src ρ)=some ρ1->Le (capR src ρ) ρ1) (hsw:swapsWith (.ListComp elt [⟨tg,iter,ifs,0⟩] scope pos) (some (.Name y py)) spos.line X.env=pure true:=by rfl) (hy:X.N[i]?=some y:=by rfl) (hx:Loc X.env.scope y:=by first | exact Or.inl rfl | exact Or.inr rfl)
 (hf:X.fn y=true\/X.env.scope.names.lookup y=some .local:=by first | exact .inl rfl | exact .inr rfl) (hs:∀x,foldedSetIterable iter X.env x=pure x:=by intro _;rfl):MS X (.Assign [.Name y py] (.ListComp elt [⟨tg,iter,ifs,0⟩] scope pos) spos) (sOwn i (Yej gl src gt fc fe)):=
 PS.imp (Ys0 S hc hit hg hi he hN hy hx hsw hf hs) fun F σ H h=>by
  obtain⟨ρ,out,H0,G0,G,e,s,h⟩:=h
  obtain⟨l,h1,rfl⟩:=qb e
  exact Yn6 hle ⟨ρ,l,H0,G0,G,h1,s,fun p xs H' G' g hp gp e' r=>h _ H' G' (s.set_ow i g hp gp e' r)⟩
end
def Yj(n:Nat)(ds:List D):Ro:=ds.map (fun d=>some (.sh d))++List.replicate (n - ds.length) none
def runB(k n:Nat)(fb:Ro->Option Out)(ds:List D):Option D:=if ds.length=k then (fb (Yj n ds)).bind fun
 | .rt d=>some d
 | .nx _=>some .non
 | _=>none
 else none
theorem SR.start{H G:Hp}{ds:List D}{vs:List V}{N:List Str}(s:Same G H)(r:RpL K G ds vs):SR K H G (start N vs) H G (Yj N.length ds):=by
 have hl:=r.length
 have noow:∀(i:Nat) l,(Yj N.length ds)[i]?≠some (some (B.ow l)):=fun i l h=>by
  unfold Yj at h
  rw[List.getElem?_append]at h
  split at h
  ·rw[qz]at h
   obtain⟨d,_,h2⟩:=qb h
   cases h2
  ·rw[List.getElem?_replicate]at h
   split at h<;>cases h
 have nood:∀(i:Nat) t ks vs,(Yj N.length ds)[i]?≠some (some (B.od t ks vs)):=fun i t ks vs h=>by
  unfold Yj at h
  rw[List.getElem?_append]at h
  split at h
  ·rw[qz]at h
   obtain⟨d,_,h2⟩:=qb h
   cases h2
  ·rw[List.getElem?_replicate]at h
   split at h<;>cases h
 refine SR.mkSh (.refl s) (by simp[L2.start,Yj,hl]) (fun i d h=>?_) noow nood
 unfold Yj at h
 rw[List.getElem?_append]at h
 split at h
 ·rename_i hi
  rw[qz]at h
  obtain⟨d',h1,h2⟩:=qb h
  cases h2
  obtain⟨v,h3,h4⟩:=r.get h1
  refine⟨v,?_,h4⟩
  unfold L2.start
  rw[List.getElem?_append_left (by rw[qe,hl];simpa using hi),qz,h3]
  rfl
 ·rw[List.getElem?_replicate]at h
  split at h<;>cases h
section
variable {P:Program} {w:World} {mg:Str->Option Value} {base:Heap}
theorem Yn7{x qual:Str}{st:Stmt}{f:Addr}{fd:FuncData}{N ps:List Str}{k n m:Nat}{fb:Ro->Option Out}(F:Fun K x qual st f fd)(S:FnScope N ps (defScope st))(hn:N.length=n)(hm:ps.length=m)
 (hb:∀(cdv:Value) (A:Around) (outer:List Env) (s:Shared) (H:Hp) (E:XK),Room k (A.deeper (envOfC qual (defScope st) s.heap.objs.size f cdv))->MB (cxOf CX0 P w K mg base N qual (defScope st) f cdv A outer s H E).nox (defBody st) fb) :
 FnOk P w K mg base CX0 (k+1) f fd ps (spOf K m (runB m n fb)):=by
 refine F.ok S (fun vs H Q E h=>by rw[h.1,hm]) fun cdv A outer s H vs Q E hr h=>?_
 obtain⟨hl,ds,d,G,sm,r,e,q⟩:=h
 refine⟨_,hb cdv A outer s H E hr,?_⟩
 unfold runB at e
 split at e
 ·rename_i hds
  obtain⟨o,h1,h2⟩:=qa e
  refine⟨Yj n ds,o,H,G,G,h1,by rw[<-hn];exact SR.start sm r,?_⟩
  cases o with
  | rt d'=>cases h2;exact fun v H' G' g r'=>q v H' G' g r'
  | nx ρ=>cases h2;exact fun σ' H' G' s'=>q .non H' G' s'.gr (by rw[Rp])
  | bk ρ=>cases h2
  | ct ρ=>cases h2
 ·cases e
end
end
end
section
variable {K:W.Frag}
def Okf(P:Program)(w:World)(K:W.Frag)(mg:Str->Option Value)(base:Heap)(k n:Nat)(x:Str)(ps:List Str)(fn:List D->Option D):Prop:=
 ∃a fd,FnOk P w K mg base CX0 k a fd ps (spOf K n fn)/\Binds K fd ps []/\W.keepIn K (.ref a)=true/\mg x=some (.ref a)
theorem Ywr{P:Program}{w:World}{K:W.Frag}{mg:Str->Option Value}{base:Heap}{k n:Nat}{x q:Str}{ps:List Str}{fn:List D->Option D}{st:Stmt}{a:Addr}{fd:FuncData}(F:Fun K x q st a fd)(b:Binds K fd ps [])
 (hm:mg x=some (.ref a)) (h:FnOk P w K mg base CX0 k a fd ps (spOf K n fn)):Okf P w K mg base k n x ps fn:=⟨a,fd,h,b,F.kp,hm⟩
section
variable {X:Cx} {a b e:Expr} {es:List Expr} {fa fb:Ro->Option D} {ga:Ro->Option (List D)} {pos:Pos}
theorem Yqr{j k n:Nat}{x:Str}{p:Pos}{ps:List Str}{fn:List D->Option D}(c:Okf X.prog X.w X.K X.mg X.base j n x ps fn)(hr:Room k X.A)(hg:Gl X x)(ha:MA X (e::es) ga)(hl:∀ρ l,ga ρ=some l->l.length=n)
 (hj:j<=k:=by first | exact qt _ | lia) (hdb:(x==("__debug__":Str))=false:=by decide) (he:starEach (e::es) X.env=(false,eval e X.env)::starEach es X.env:=by rfl) (hpl:(backTo pos (starEach es X.env)).any (·.1)=false:=by rfl) :
 ME X (.Call (.Name x p) (e::es) [] pos) (cC ga fn):=by
 obtain⟨a,fd,F,hb,hk,hm⟩:=c
 exact Yte F (hr.mono hj) hg hm hk hb ha hdb he hpl hl
theorem Yws(ha:MC X a fa)(hb:MC X b fb):ME X (.BinOp a .Add b pos) (b2 fa fb addI):=Yhz Yu5 Ynu ha hb
def negI:D->Option D
 | .int i=>some (.int (-i))
 | _=>none
theorem Ywt(ha:MC X a fa):ME X (.UnaryOp .USub a pos) (b1 fa negI):=PE.imp (Yxx Yva ha) fun σ H Q hx_=>by
 obtain⟨ρ,d,H0,G0,G,e,s,h⟩:=hx_
 obtain⟨x,h1,h2⟩:=Yc5 e
 refine tCof.at h1 s fun v H1 G1 g1 r1 s1=>?_
 cases x<;>simp[negI]at h2
 subst h2
 rw[Ct]at r1
 exact⟨_,r1,h _ H1 G1 g1 (by rw[Rp])⟩
def catD:D->D->Option (List D)
 | .lst a,.lst b=>if a.length+b.length<=cap6 then some (a++b)else none
 | _,_=>none
def Yyh:R2:=fun x y H Q=>∃l b xs zs,x=.ref l/\y=.ref b/\Rd H l (.lst xs)/\Rd H b (.lst zs)/\xs.length+zs.length<=sizeLine/\∀p,H p=none->Q (.ref p) (upd H p (.lst (xs++zs)))
theorem Ytl:OpR X (binaryOp .Add) Yyh:=by
 intro pins s σ H x y v u Q I rx ry h
 obtain⟨l,b,xs,zs,rfl,rfl,hH,hB,hz,q⟩:=h
 cases rx
 cases ry
 obtain⟨z,its,n,r,e⟩:=hH.ok I.hok
 obtain⟨z2,its2,n2,r2,e2⟩:=hB.ok I.hok
 have hl:=r.length
 have hl2:=r2.length
 refine PySem.P.add_list e e2 ?_ (by rw[qj,qj];lia)
 have ea:its.toArray++its2.toArray=(its++its2).toArray:=by simp
 rw[ea]
 exact⟨.ref _,_,I.lnew (t':=s.toks) (r.append r2) (by rw[List.length_append];lia),rfl,q _ I.fresh⟩
theorem Ywu(ha:MC X a fa)(hb:MC X b fb):MF X (.BinOp a .Add b pos) (b2 fa fb catD):=PE.imp (Yu4 Ytl ha hb) fun σ H Q hx_=>by
 obtain⟨ρ,l,H0,G0,G,e,s,h⟩:=hx_
 obtain⟨dx,dy,h1,h2,h3⟩:=Yiq e
 refine tCof.at h1 s fun v H1 G1 g1 r1 s1=>tCof.at h2 s1 fun u H2 G2 g2 r2 s2=>?_
 unfold catD at h3
 split at h3
 ·rename_i l1 l2
  split at h3
  ·rename_i hz
   cases h3
   have r1':=r1.grow g2
   rw[Ct]at r1' r2
   obtain⟨p,xs,rfl,gp,rl⟩:=r1'
   obtain⟨q,zs,rfl,gq,rm⟩:=r2
   refine⟨p,q,xs,zs,rfl,rfl,gp,gq,by rw[rl.length,rm.length];exact Yfj hz,fun m hm=>?_⟩
   exact h m _ _ G2 ((g1.trans g2).trans (.hid s2.seen hm _)) (g1.h.free (g2.h.free hm)) (s2.seen.free hm) Yy (rl.append rm)
  ·cases h3
 ·cases h3
def Ycn:D->String
 | .non=>"NoneType"
 | .bl _=>"bool"
 | .int _=>"int"
 | .str _=>"str"
 | .tup _=>"tuple"
 | .lst _=>"list"
 | .scr _=>"list"
 | .dct _ _ _=>"dict"
 | .obj _ _ _=>"dict"
 | .adr _=>"dict"
def Yho:D->Bool
 | .scr _=>false
 | .dct t _ _=>!t
 | .obj _ _ _=>false
 | .adr _=>false
 | _=>true
def isiD(T:String)(d:D):Option Bool:=if Yho d=true then some (Ycn d==T||(T=="int"&&Ycn d=="bool"))else none
theorem Ytm{G H:Hp}{d:D}{v:V}(hn:Yho d=true)(r:Ct K G H d v):TyOf K H v (.type (Ycn d)):=by
 cases d<;>rw[Ct]at r
 ·subst r;exact .non
 ·subst r;exact .bl _
 ·subst r;exact .int _
 ·obtain⟨rfl,_⟩:=r;exact .str _
 ·obtain⟨a,xs,rfl,g,_⟩:=r;exact .tup g.1
 ·obtain⟨a,xs,rfl,g,_⟩:=r
  rcases g with g | ⟨o,g⟩
  ·exact .lst g
  ·exact .frz g
 ·cases hn
 ·rename_i t _ _
  cases t with
  | true=>cases hn
  | false=>
    obtain⟨a,_,_,rfl,g,_⟩:=r
    rcases g with⟨_,_,g,_⟩ | ⟨g,_⟩
    ·exact .dK g
    ·cases g
 ·cases hn
 ·cases hn
def Kit(T:String):Prop:=∀(K:W.Frag) (d:D),W.kitOne K (.type (Ycn d)) (.type T)=some (Ycn d==T||(T=="int"&&Ycn d=="bool"))
theorem Yn8:Kit "int":=fun K d=>by cases d<;>rfl
theorem Ygf:Kit "bool":=fun K d=>by cases d<;>rfl
theorem Yiu:Kit "str":=fun K d=>by cases d<;>rfl
theorem Yj5:Kit "tuple":=fun K d=>by cases d<;>rfl
theorem Yqs{T:String}(hk:Kit T):Yb6 X (.builtin "isinstance") (fun xs H Q=>∃x d G,xs=[x,.ty T]/\Yho d=true/\Ct X.K G H d x/\Q (.bl (Ycn d==T||(T=="int"&&Ycn d=="bool"))) H):=by
 intro pins s σ H xs us Q I r h
 obtain⟨x,d,G,rfl,hn,rx,q⟩:=h
 obtain⟨u,w',rfl,r1,r2⟩:=Yjs r
 cases (show w'=Value.type T from r2)
 exact Ynn I r1 (Ytm hn rx) (hk X.K d) fun tk=>⟨.bl _,H,I.tok tk,rfl,q⟩
theorem Ywv{T:String}{tn:Str}{p p2:Pos}(ha:MC X a fa)(hg:Gl X "isinstance")(hg2:Gl X tn)(hm:X.mg "isinstance"=none)(hm2:X.mg tn=none)(hv2:bootBuiltins tn=some (.type T))(hk:Kit T)(hv:bootBuiltins "isinstance"=some (.builtin "isinstance"):=by decide +kernel)
 (hn2:tn≠"__name__":=by decide) (hd2:(tn==("__debug__":Str))=false:=by decide)
 (hs:starEach [a,.Name tn p2] X.env=(false,eval a X.env)::starEach [.Name tn p2] X.env:=by rfl) (hs2:starEach [.Name tn p2] X.env=(false,eval (.Name tn p2) X.env)::starEach [] X.env:=by rfl) (hpl:(backTo pos (starEach [.Name tn p2] X.env)).any (·.1)=false:=by rfl) :
 ME X (.Call (.Name "isinstance" p) [a,.Name tn p2] [] pos) (mB (b1 fa (isiD T))):=
 PE.imp (Yeb (Yqs hk) hg hm hv (Ybn ha (Ybn (Ynd hg2 hm2 hv2 (v:=.ty T) rfl hn2 hd2) Yfx hs2) hs) (by decide) (by decide) hs hpl) fun σ H Q hx_=>by
  obtain⟨ρ,d,H0,G0,G,e,s,h⟩:=hx_
  obtain⟨k,ek,rfl⟩:=Yk2 e
  obtain⟨x,h1,h2⟩:=Yc5 ek
  unfold isiD at h2
  split at h2
  ·cases h2
   exact tCof.at h1 s fun v H1 G1 g1 r1 s1=>⟨v,x,G1,rfl,by assumption,r1,h _ H1 G1 g1 (by rw[Rp])⟩
  ·cases h2
end
end
section
variable {K:W.Frag}
def insI(a:Int):List Int->List Int
 | []=>[a]
 | b::l=>if a<=b then a::b::l else b::insI a l
def Yhp:List Int->List Int
 | []=>[]
 | a::l=>insI a (Yhp l)
theorem Yg0(a:Int):∀l:List Int,(insI a l).Perm (a::l)
 | []=>.refl _
 | b::l=>by
   rw[insI]
   split
   ·exact .refl _
   ·exact((Yg0 a l).cons b).trans (.swap a b l)
theorem Yed:∀l:List Int,(Yhp l).Perm l
 | []=>.refl _
 | a::l=>(Yg0 a _).trans ((Yed l).cons a)
theorem Yg1(a:Int):∀l:List Int,l.Pairwise (·<=·)->(insI a l).Pairwise (·<=·)
 | [],_=>by simp[insI]
 | b::l,h=>by
   rw[insI]
   split
   ·rename_i hab
    refine List.pairwise_cons.mpr ⟨fun x hx=>?_,h⟩
    rcases qr hx with rfl | hx
    ·exact hab
    ·exact Int.le_trans hab ((List.pairwise_cons.mp h).1 x hx)
   ·rename_i hab
    refine List.pairwise_cons.mpr ⟨fun x hx=>?_,Yg1 a l (List.pairwise_cons.mp h).2⟩
    rcases qr ((Yg0 a l).mem_iff.mp hx)with rfl | hx
    ·lia
    ·exact(List.pairwise_cons.mp h).1 x hx
theorem Yd0:∀l:List Int,(Yhp l).Pairwise (·<=·)
 | []=>.nil
 | a::l=>Yg1 a _ (Yd0 l)
section
variable {prog:Program} {w:World} {A:Around} {E:Value->Shared->Prop} {s:Shared}
theorem Ymx{l:Addr}{vs:List Value}{Q:Value->Shared->Prop}(hl:s.heap.IsList l vs.toArray)(h2:vs.length < 2)
 (h:Q (.ref (s.heap.objs.size+1)) { s with heap:=sortedAll s.heap vs vs.toArray }):wpAny (model prog w) A (call (.builtin "sorted") [.ref l]) Q E s:=by
 refine Calls.call_function_entry kind_sorted plain_sorted entry_sorted (args_sorted1 _) ?_
 unfold Builtin.«sorted»
 refine wpAny_bind (m:=checkCount "sorted" 1 1 _) (wpAny_pure ?_)
 refine wpAny_bind (collect_list hl ?_ (by rw[sizeLine_eq];lia))
 refine wpAny_bind (wpAny_newList ?_ (by rw[sizeLine_eq];lia))
 have hsz:((s.heap.push (seqObj "list" #[] 0)).update s.heap.objs.size (Obj.mapSeq (·++vs.toArray))).objs.size=s.heap.objs.size+1:=by
  rw[Heap.size_update,size_push']
 have hoL:(((s.heap.push (seqObj "list" #[] 0)).update s.heap.objs.size (Obj.mapSeq (·++vs.toArray))).push (seqObj "list" vs.toArray 0)).get? (s.heap.objs.size+1)=some (seqObj "list" vs.toArray 0):=by
  rw[<-hsz];exact qo _ rfl
 show wpAny _ _ _ _ _ { s with heap:=((s.heap.push (seqObj "list" #[] 0)).update s.heap.objs.size (Obj.mapSeq (·++vs.toArray))).push (seqObj "list" vs.toArray 0) }
 rw[hsz]
 refine wpAny_bind (wpAny_holding (wpAny_call_entry slot_list_sort ⟨_,hoL,rfl⟩ entry_list_sort ?body (args_list_sort _)))
 case body=>
  rw[list_sort_plain]
  generalize hS:({ s with heap:=((s.heap.push (seqObj "list" #[] 0)).update s.heap.objs.size (Obj.mapSeq (·++vs.toArray))).push (seqObj "list" vs.toArray 0) }:Shared)=S at *
  have hoS:S.heap.get? (s.heap.objs.size+1)=some (seqObj "list" vs.toArray 0):=by rw[<-hS];exact hoL
  have ha:s.heap.objs.size+1 < S.heap.objs.size:=qk hoS
  refine wpAny_bind (listItems_at hoS rfl ?_)
  refine wpAny_bind (listUpdate_at hoS rfl ?_ (by rw[qj,sizeLine_eq];lia) (Nat.zero_le _))
  obtain⟨e1,ho1⟩:∃e1,(S.heap.update (s.heap.objs.size+1) (Obj.mapSeq fun _=>#[])).get? (s.heap.objs.size+1)=some (seqObj "list" #[] e1):=⟨_,get?_update_seq hoS (fun _=>#[])⟩
  refine wpAny_bind (seqEpoch_at ho1 rfl ?_)
  refine wpAny_bind (wpAny_newTuple ?_ (by show vs.length<=_;rw[sizeLine_eq];lia))
  refine wpAny_bind (wpAny_newList ?_ (Nat.zero_le _))
  refine wpAny_holding ?_
  have ho6:(((S.heap.update (s.heap.objs.size+1) (Obj.mapSeq fun _=>#[])).push (seqObj "tuple" vs.toArray 0)).push (seqObj "list" #[] 0)).get? (s.heap.objs.size+1)=some (seqObj "list" #[] e1):=by
   rw[Heap.get?_push_ne _ _ _ (by rw[size_push',Heap.size_update];exact ql (qv ha)),Heap.get?_push_ne _ _ _ (by rw[Heap.size_update];exact ql ha)]
   exact ho1
  show wpAny (model prog w) _ _ _ _ { S with heap:=((S.heap.update (s.heap.objs.size+1) (Obj.mapSeq fun _=>#[])).push (seqObj "tuple" vs.toArray 0)).push (seqObj "list" #[] 0) }
  dsimp only
  have hlt:vs.toArray.size < 2:=by rw[qj];exact h2
  rw[if_pos hlt,if_pos hlt]
  refine wpAny_bind (wpAny_pure ?_)
  rw[StateT.run_pure]
  refine wpAny_bind (wpAny_pure ?_)
  dsimp only
  refine wpAny_bind (seqEpoch_at ho6 rfl ?_)
  refine wpAny_bind (listUpdate_at ho6 rfl ?_ (hsz2:=by rw[Array.size_map];show(pairsOf vs).size<=_;rw[pairsOf_size,sizeLine_eq];lia))
  simp only[bne_self_eq_false,Bool.false_eq_true,if_false]
  have hout:(arrOf (SortSt.mk' general' (vs.toArray.zip vs.toArray) #[] 7 none)).map (·.2)=vs.toArray:=by
   show(vs.toArray.zip vs.toArray).map (·.2)=vs.toArray
   apply Array.toList_inj.mp
   simp[List.map_snd_zip]
  refine wpAny_pure ⟨_,rfl,wpAny_pure ⟨_,rfl,?_⟩⟩
  have hh:=h
  unfold sortedAll sortedHeap at hh
  rw[<-hS,hout]
  exact hh
def plt(j:Int)(q:Bool)(i:Int)(p:Bool):Bool:=if j=i then (!q&&p)else decide (j < i)
theorem Ytn{b c:Addr}{i j:Int}{p q:Bool}{t u:Tok}{R:Bool->Shared->Prop}(hb:IsTup s.heap b #[.int i t,.bool p])(hc:IsTup s.heap c #[.int j u,.bool q])(h:R (plt j q i p) s) :
 wpAny (model prog w) A (keyLt' (tuples' true) (.ref c) (.ref b)) R E s:=by
 obtain⟨ob,h1,_,n1,d1⟩:=hb
 obtain⟨oc,h2,_,n2,d2⟩:=hc
 refine W.kat_lt h2 d2 h1 d1 ?_
 show W.KatLex prog w A true false R [(.int j u,.int i t),(.bool q,.bool p)] 0 s
 unfold plt at h
 refine W.kat_cons (SeqAt.EqAt.int_int j u i t prog w _ _ (W.kat_go (fun e=>W.kat_yes (W.kat_cons (SeqAt.EqAt.bool_bool q p prog w _ _ (W.kat_go (fun e2=>W.kat_yes (W.kat_nil ?_)) fun e2=>W.kat_no (W.kat_one _ _ (lt_bool ?_)))))) fun e=>W.kat_no ?_))
 ·have e':j=i:=by simpa using e
  have e2':q=p:=by simpa using e2
  rw[if_pos e',e2']at h
  cases p<;>exact h
 ·have e':j=i:=by simpa using e
  rw[if_pos e']at h
  show R _ s
  cases p<;>cases q<;>first | exact h | simp at e2
 ·have e':¬j=i:=by simpa using e
  rw[if_neg e']at h
  exact oneLt_int h
theorem Ymy{cmp:Nat->Nat->(Bool->Shared->Prop)->Shared->Prop}{G:Array Nat->Shared->Prop}{S:Shared}(h:cmp 1 0 (fun k s'=>if k=true then G #[1,0] s' else G #[0,1] s') S):(W.kas_sort 2).kasWp cmp G S:=by
 show cmp 1 0 (fun k s'=>W.KasT.kasWp cmp _ G s') S
 have e:∀(k:Bool) (s':Shared),(if k=true then G #[1,0] s' else G #[0,1] s')=W.KasT.kasWp cmp (W.KasT.bind (W.KasT.bind (if k=true then W.KasT.ret 1 else W.kas_asc (List.toArray (List.range 2)) 0 2)
  fun n=>if (n==2)=true then W.KasT.ret (n,List.toArray (List.range 2))else if n > 1 then .ask ((List.toArray (List.range 2)).getD 0 0) ((List.toArray (List.range 2)).getD (n - 1) 0) fun c=>if c=true then .ret (n,List.toArray (List.range 2))else W.kas_descPart n 2 (W.kas_rev (List.toArray (List.range 2)) 0 n)
   else W.kas_descPart n 2 (List.toArray (List.range 2))) fun r=>if r.1 < 2 then W.kas_bin (2 - max r.1 1) r.2 (max r.1 1)else .ret r.2) G s':=fun k s'=>by cases k<;>rfl
 have e2:(fun(k:Bool) (s':Shared)=>if k=true then G #[1,0] s' else G #[0,1] s')=_:=funext fun k=>funext fun s'=>e k s'
 rw[e2]at h
 exact h
theorem Ymz{l b c:Addr}{i j:Int}{p q:Bool}{t u:Tok}{Q:Value->Shared->Prop}(hl:s.heap.IsList l #[.ref b,.ref c])(hb:IsTup s.heap b #[.int i t,.bool p])(hc:IsTup s.heap c #[.int j u,.bool q])
 (h:Q (.ref (s.heap.objs.size+1)) { s with heap:=sortedAll s.heap [.ref b,.ref c] (if plt j q i p=true then #[.ref c,.ref b]else #[.ref b,.ref c]) }):wpAny (model prog w) A (call (.builtin "sorted") [.ref l]) Q E s:=by
 generalize hvs:[Value.ref b,Value.ref c]=vs at *
 have hl':s.heap.IsList l vs.toArray:=hl
 have hlen:vs.length=2:=by rw[<-hvs];rfl
 refine Calls.call_function_entry kind_sorted plain_sorted entry_sorted (args_sorted1 _) ?_
 unfold Builtin.«sorted»
 refine wpAny_bind (m:=checkCount "sorted" 1 1 _) (wpAny_pure ?_)
 refine wpAny_bind (collect_list hl' ?_ (by rw[sizeLine_eq];lia))
 refine wpAny_bind (wpAny_newList ?_ (by rw[sizeLine_eq];lia))
 have hsz:((s.heap.push (seqObj "list" #[] 0)).update s.heap.objs.size (Obj.mapSeq (·++vs.toArray))).objs.size=s.heap.objs.size+1:=by
  rw[Heap.size_update,size_push']
 have hoL:(((s.heap.push (seqObj "list" #[] 0)).update s.heap.objs.size (Obj.mapSeq (·++vs.toArray))).push (seqObj "list" vs.toArray 0)).get? (s.heap.objs.size+1)=some (seqObj "list" vs.toArray 0):=by
  rw[<-hsz];exact qo _ rfl
 have keep0:∀b o,s.heap.get? b=some o->(((s.heap.push (seqObj "list" #[] 0)).update s.heap.objs.size (Obj.mapSeq (·++vs.toArray))).push (seqObj "list" vs.toArray 0)).get? b=some o:=fun b o q=>by
  have hlt:b < s.heap.objs.size:=qk q
  rw[Heap.get?_push_ne _ _ _ (by rw[hsz];exact ql (qv hlt)),Heap.get?_update_ne _ _ _ _ (ql hlt),Heap.get?_push_ne _ _ _ (ql hlt)]
  exact q
 show wpAny _ _ _ _ _ { s with heap:=((s.heap.push (seqObj "list" #[] 0)).update s.heap.objs.size (Obj.mapSeq (·++vs.toArray))).push (seqObj "list" vs.toArray 0) }
 rw[hsz]
 refine wpAny_bind (wpAny_holding (wpAny_call_entry slot_list_sort ⟨_,hoL,rfl⟩ entry_list_sort ?body (args_list_sort _)))
 case body=>
  rw[list_sort_plain]
  generalize hS:({ s with heap:=((s.heap.push (seqObj "list" #[] 0)).update s.heap.objs.size (Obj.mapSeq (·++vs.toArray))).push (seqObj "list" vs.toArray 0) }:Shared)=S at *
  have hoS:S.heap.get? (s.heap.objs.size+1)=some (seqObj "list" vs.toArray 0):=by rw[<-hS];exact hoL
  have keepS:∀b o,s.heap.get? b=some o->S.heap.get? b=some o:=by rw[<-hS];exact keep0
  have ha:s.heap.objs.size+1 < S.heap.objs.size:=qk hoS
  refine wpAny_bind (listItems_at hoS rfl ?_)
  refine wpAny_bind (listUpdate_at hoS rfl ?_ (by rw[qj,sizeLine_eq];lia) (Nat.zero_le _))
  obtain⟨e1,ho1⟩:∃e1,(S.heap.update (s.heap.objs.size+1) (Obj.mapSeq fun _=>#[])).get? (s.heap.objs.size+1)=some (seqObj "list" #[] e1):=⟨_,get?_update_seq hoS (fun _=>#[])⟩
  refine wpAny_bind (seqEpoch_at ho1 rfl ?_)
  refine wpAny_bind (wpAny_newTuple ?_ (by show vs.length<=_;rw[sizeLine_eq];lia))
  refine wpAny_bind (wpAny_newList ?_ (Nat.zero_le _))
  refine wpAny_holding ?_
  have ho6:(((S.heap.update (s.heap.objs.size+1) (Obj.mapSeq fun _=>#[])).push (seqObj "tuple" vs.toArray 0)).push (seqObj "list" #[] 0)).get? (s.heap.objs.size+1)=some (seqObj "list" #[] e1):=by
   rw[Heap.get?_push_ne _ _ _ (by rw[size_push',Heap.size_update];exact ql (qv ha)),Heap.get?_push_ne _ _ _ (by rw[Heap.size_update];exact ql ha)]
   exact ho1
  have keep6:∀b o,s.heap.get? b=some o->(((S.heap.update (s.heap.objs.size+1) (Obj.mapSeq fun _=>#[])).push (seqObj "tuple" vs.toArray 0)).push (seqObj "list" #[] 0)).get? b=some o:=fun b o q=>by
   have hlt:b < s.heap.objs.size:=qk q
   refine qd _ (qd _ ?_)
   rw[Heap.get?_update_ne _ _ _ _ (ql (qv hlt))]
   exact keepS b o q
  generalize hS6:({ S with heap:=((S.heap.update (s.heap.objs.size+1) (Obj.mapSeq fun _=>#[])).push (seqObj "tuple" vs.toArray 0)).push (seqObj "list" #[] 0) }:Shared)=S6
  have ho7:S6.heap.get? (s.heap.objs.size+1)=some (seqObj "list" #[] e1):=by rw[<-hS6];exact ho6
  have tb:IsTup S6.heap b #[.int i t,.bool p]:=by
   obtain⟨o,a1,a2⟩:=hb
   exact⟨o,by rw[<-hS6];exact keep6 b o a1,a2⟩
  have tc:IsTup S6.heap c #[.int j u,.bool q]:=by
   obtain⟨o,a1,a2⟩:=hc
   exact⟨o,by rw[<-hS6];exact keep6 c o a1,a2⟩
  dsimp only
  have hn2:¬vs.toArray.size < 2:=by rw[qj];lia
  rw[if_neg hn2,if_neg hn2]
  have kt:W.KatTups S6.heap vs [.int i t,.int j u]:=by
   obtain⟨ob,b1,b2,n1,b3⟩:=tb
   obtain⟨oc,c1,c2,n2,c3⟩:=tc
   rw[<-hvs]
   exact .cons b1 b2 b3 rfl (.cons c1 c2 c3 rfl .nil)
  refine wpAny_bind (W.kat_kind (T:=.type "int") kt (qv (Nat.lt_succ_self 0)) (fun v hv=>?_) (by decide) ?_)
  ·rcases qr hv with rfl | hv
   ·exact .of_pure rfl
   ·rcases qr hv with rfl | hv
    ·exact .of_pure rfl
    ·cases hv
  have hcmp:wpAny (model prog w) A.in1.in1 (keyLt' (tuples' true) (vs.getD 1 Value.none) (vs.getD 0 Value.none)) (fun k s'=>k=plt j q i p/\s'=S6) (fun _ _=>False) S6:=by
   rw[<-hvs]
   exact Ytn tb tc ⟨rfl,rfl⟩
  refine wpAny_bind (wpAny_mono (W.kat_run (ks:=vs) (vs:=vs) (κ:=tuples' true) (G:=fun pm s'=>s'=S6/\pm=if plt j q i p=true then #[1,0]else #[0,1])
   (Q:=fun st' s'=>s'=S6/\failedOf st'=none/\(arrOf st').map (·.2)=if plt j q i p=true then #[.ref c,.ref b]else #[.ref b,.ref c]) rfl (by lia) (by lia) (fun pm st' s' a1 a2 a3 a4=>?_) ?_) ?_ fun _ _ e=>e)
  ·obtain⟨rfl,rfl⟩:=a4
   refine⟨rfl,a3,?_⟩
   rw[W.kat_snds rfl a2,<-hvs]
   cases plt j q i p<;>rfl
  ·rw[hlen]
   refine Ymy ?_
   refine wpAny_mono hcmp (fun k s' hk=>?_) fun _ _ x=>x
   obtain⟨rfl,rfl⟩:=hk
   cases plt j q i p
   ·exact⟨rfl,rfl⟩
   ·exact⟨rfl,rfl⟩
  rintro⟨⟨⟩,st'⟩ s' ⟨rfl,hf,hout⟩
  dsimp only
  refine wpAny_bind (seqEpoch_at ho7 rfl ?_)
  refine wpAny_bind (listUpdate_at ho7 rfl ?_ (Nat.zero_le _) (by rw[hout,sizeLine_eq];cases plt j q i p<;>exact(by decide:2<=16777216+1)))
  rw[hf]
  simp only[bne_self_eq_false,Bool.false_eq_true,if_false]
  refine wpAny_pure ⟨_,rfl,wpAny_pure ⟨_,rfl,?_⟩⟩
  have hh:=h
  unfold sortedAll sortedHeap at hh
  rw[<-hS6,<-hS,hout]
  subst hvs
  exact hh
end
def Yco:List D->Option (List Int)
 | []=>some []
 | .int i::l=>(Yco l).map (i::·)
 | _=>none
def prI:D->Option (Int × Bool)
 | .tup [.int j,.bl q]=>some (j,q)
 | _=>none
def Yr5(e d:D):Option Bool:=(prI e).bind fun x=>(prI d).map fun y=>plt x.1 x.2 y.1 y.2
theorem Yfk{α:Type}{x:α}{P:Prop}(h:none=some x):P:=by cases h
theorem Yiv{d:D}{x:Int × Bool}(h:prI d=some x):d=.tup [.int x.1,.bl x.2]:=by
 cases d with
 | tup l=>cases l with
   | nil=>exact Yfk h
   | cons a l=>cases a with
     | int j=>cases l with
       | nil=>exact Yfk h
       | cons b l=>cases b with
         | bl q=>cases l with
           | nil=>exact Option.some.inj h ▸ rfl
           | cons _ _=>exact Yfk h
         | _=>exact Yfk h
     | _=>exact Yfk h
 | _=>exact Yfk h
def Yqt(l:List D):Option (List D):=match Yco l with
 | some ns=>if ns.length < 64 then some ((Yhp ns).map D.int)else none
 | none=>match l with
   | [d]=>some [d]
   | [d,e]=>(Yr5 e d).map fun k=>if k=true then [e,d]else [d,e]
   | _=>none
def Yhq:List D->Option (List D)
 | [.lst l]=>Yqt l
 | _=>none
theorem Yfl:∀{l:List D} {ns:List Int},Yco l=some ns->l=ns.map D.int
 | [],ns,h=>by cases h;rfl
 | .int i::l,ns,h=>by
   rw[Yco]at h
   obtain⟨m,h1,rfl⟩:=qb h
   rw[Yfl h1]
   rfl
 | .non::l,ns,h=>by simp[Yco]at h
 | .bl _::l,ns,h=>by simp[Yco]at h
 | .str _::l,ns,h=>by simp[Yco]at h
 | .tup _::l,ns,h=>by simp[Yco]at h
 | .lst _::l,ns,h=>by simp[Yco]at h
 | .scr _::l,ns,h=>by simp[Yco]at h
 | .dct _ _ _::l,ns,h=>by simp[Yco]at h
 | .obj _ _ _::l,ns,h=>by simp[Yco]at h
 | .adr _::l,ns,h=>by simp[Yco]at h
theorem Yiw{G:Hp}:∀{ns:List Int} {xs:List V},RpL K G (ns.map D.int) xs->xs=ns.map V.int
 | [],xs,h=>by rw[List.map_nil,RpL]at h;exact h
 | n::ns,xs,h=>by
   rw[Qa,RpL]at h
   obtain⟨x,r,rfl,h1,h2⟩:=h
   rw[Rp]at h1
   rw[h1,Yiw h2]
   rfl
def Yn9(H:Hp)(x:V)(i:Int)(p:Bool):Prop:=∃a,x=.ref a/\H a=some (.tup [.int i,.bl p])
def Yww:List V->Hp->VK->Prop:=fun vs H Q=>∃a xs,vs=[.ref a]/\Rd H a (.lst xs)/\
 ((∃ns:List Int,xs=ns.map V.int/\ns.length < 64/\∀p,H p=none->Q (.ref p) (upd H p (.lst ((Yhp ns).map V.int))))\/
  (xs.length < 2/\∀p,H p=none->Q (.ref p) (upd H p (.lst xs)))\/
  (∃x y i p j q,xs=[x,y]/\Yn9 H x i p/\Yn9 H y j q/\∀r,H r=none->Q (.ref r) (upd H r (.lst (if plt j q i p=true then [y,x]else [x,y])))))
theorem Yb4{X:Cx}:Yb6 X (.builtin "sorted") Yww:=by
 intro pins s σ H xs us Q I r h
 obtain⟨a,ys,rfl,hr,h⟩:=h
 obtain⟨u,rfl,ru⟩:=Yhn r
 cases ru
 obtain⟨its,rv,pl,hz⟩:=I.list (.inl hr)
 have fin:∀(out:Array Value) (zs:List V),Vals zs out.toList->zs.length<=sizeLine->Q (.ref (s.heap.objs.size+1)) (upd H (s.heap.objs.size+1) (.lst zs))->EP X pins σ Q (.ref (s.heap.objs.size+1)) { s with heap:=sortedAll s.heap its out }:=fun out zs hv hz' hq=>by
  obtain⟨e,he⟩:=sortedAll_at s.heap its out
  exact⟨.ref (s.heap.objs.size+1),_,I.laid (t':=s.toks) (fun b o q=>sortedAll_old q) (Nat.le_succ _) (show ObjOk X.prog X.w _ _ _ (.lst zs) from⟨hz',out.toList,e,hv,by rw[Array.toArray_toList];exact he⟩),rfl,hq⟩
 have fr:H (s.heap.objs.size+1)=none:=I.hok.fresh (Nat.le_succ _)
 have hl:=rv.length
 rcases h with⟨ns,rfl,h64,q⟩ | ⟨h2,q⟩ | ⟨x,y,i,p,j,k,rfl,px,py,q⟩
 ·have hI:=Yfg rv
  refine sorted_ints pl.isList hI (by rw[hI.length];exact h64) fun out ns' h1 h2 h3=>?_
  have e:ns'=Yhp ns:=W.ksm_same (h2.trans (Yed ns).symm) h3 (Yd0 ns)
  subst e
  have hn:(Yhp ns).length=ns.length:=(Yed ns).length_eq
  exact fin out _ (Ygp h1) (by rw[qe,hn,sizeLine_eq];lia) (q _ fr)
 ·refine Ymx pl.isList (by lia) ?_
  exact fin its.toArray ys (by simpa using rv) hz (q _ fr)
 ·obtain⟨b,rfl,hb⟩:=px
  obtain⟨c,rfl,hc⟩:=py
  obtain⟨u1,u2,rfl,r1,r2⟩:=Yjs rv
  cases r1
  cases r2
  obtain⟨_,ib,vb,tb⟩:=(show ObjOk X.prog X.w H s.heap b (.tup [.int i,.bl p]) from I.hok b _ hb)
  obtain⟨_,ic,vc,tc⟩:=(show ObjOk X.prog X.w H s.heap c (.tup [.int j,.bl k]) from I.hok c _ hc)
  obtain⟨w1,w2,rfl,⟨t,rfl⟩,w2e⟩:=Yjs vb
  cases w2e
  obtain⟨w3,w4,rfl,⟨t',rfl⟩,w4e⟩:=Yjs vc
  cases w4e
  refine Ymz (by simpa using pl.isList) (by simpa using tb) (by simpa using tc) ?_
  refine fin _ (if plt j k i p=true then [.ref c,.ref b]else [.ref b,.ref c]) ?_ (by rw[sizeLine_eq];cases plt j k i p<;>exact(by decide:2<=16777216)) (q _ fr)
  cases plt j k i p
  ·exact .cons rfl (.cons rfl .nil)
  ·exact .cons rfl (.cons rfl .nil)
theorem Yj6{G H:Hp}{d:D}{v:V}{i:Int}{p:Bool}(s:Same G H)(e:d=.tup [.int i,.bl p])(r:Rp K G d v):Yn9 H v i p:=by
 subst e
 rw[Rp]at r
 obtain⟨a,xs,rfl,g,rl⟩:=r
 rw[RpL]at rl
 obtain⟨x,r',rfl,h1,h2⟩:=rl
 obtain⟨y,rfl,h3⟩:=Yk3 h2
 rw[Rp]at h1
 rw[Rp]at h3
 subst h1;subst h3
 exact⟨a,rfl,s _ _ g⟩
theorem Yk4{e d:D}{k:Bool}(h:Yr5 e d=some k):∃j q i p,e=.tup [.int j,.bl q]/\d=.tup [.int i,.bl p]/\k=plt j q i p:=by
 obtain⟨x,h1,h2⟩:=qa h
 obtain⟨y,h3,h4⟩:=qb h2
 exact⟨x.1,x.2,y.1,y.2,Yiv h1,Yiv h3,h4.symm⟩
theorem Ycp:SemF K Yww Yhq:=by
 intro vs ds l H G Q h s r q
 unfold Yhq at h
 split at h
 ·rename_i m
  obtain⟨v,rfl,rv⟩:=Ydx r
  rw[Ct]at rv
  obtain⟨a,xs,rfl,g,rl⟩:=rv
  refine⟨a,xs,rfl,g,?_⟩
  unfold Yqt at h
  split at h
  ·rename_i ns hns
   split at h
   ·rename_i h64
    cases h
    cases Yfl hns
    refine .inl ⟨ns,Yiw rl,h64,fun p hp=>?_⟩
    exact q p _ _ G (.hid s hp _) hp (s.free hp) Yy (.ints _)
   ·cases h
  ·split at h
   ·cases h
    refine .inr (.inl ⟨by rw[rl.length];exact Nat.lt_succ_self 1,fun p hp=>?_⟩)
    exact q p _ _ G (.hid s hp _) hp (s.free hp) Yy rl
   ·rename_i d e
    obtain⟨k,h1,rfl⟩:=qb h
    obtain⟨j,y,i,x,rfl,rfl,rfl⟩:=Yk4 h1
    rw[RpL]at rl
    obtain⟨v1,r1,rfl,p1,rl⟩:=rl
    obtain⟨v2,rfl,p2⟩:=Yk3 rl
    refine .inr (.inr ⟨v1,v2,i,x,j,y,rfl,Yj6 s rfl p1,Yj6 s rfl p2,fun p hp=>?_⟩)
    refine q p _ _ G (.hid s hp _) hp (s.free hp) Yy ?_
    cases plt j y i x
    ·exact .cons p1 (.one p2)
    ·exact .cons p2 (.one p1)
   ·cases h
 ·cases h
end
section
variable {K:W.Frag}
theorem Yqu{P:Program}{w:World}{mg:Str->Option Value}{base:Heap}{k n:Nat}{x q:Str}{ps:List Str}{st:Stmt}{a:Addr}{fd:FuncData}(F:Fun K x q st a fd)(b:Binds K fd ps [])(hm:mg x=some (.ref a))(hn:ps.length=n) :
 Okf P w K mg base k n x ps (fun _=>none):=by
 have no:∀vs H Q E,¬spOf K n (fun _=>none) vs H Q E:=fun vs H Q E h=>by
  obtain⟨_,ds,d,G,_,_,e,_⟩:=h
  cases e
 exact⟨a,fd,⟨fun vs H Q E h=>absurd h (no vs H Q E),fun A outer s H args us vs Q E _ _ _ _ h=>absurd h (no vs H Q E)⟩,b,F.kp,hm⟩
section
variable {X:Cx} {e:Expr} {f fb:Ro->Option D} {pos pos':Pos}
def blsD:List D->Option (List Bool)
 | []=>some []
 | .bl b::l=>(blsD l).map (b::·)
 | _=>none
theorem Yj7:∀{l:List D} {bs:List Bool},blsD l=some bs->l=bs.map D.bl
 | [],bs,h=>by cases h;rfl
 | .bl i::l,bs,h=>by
   rw[blsD]at h
   obtain⟨m,h1,rfl⟩:=qb h
   rw[Yj7 h1]
   rfl
 | .non::l,ns,h=>by simp[blsD]at h
 | .int _::l,ns,h=>by simp[blsD]at h
 | .str _::l,ns,h=>by simp[blsD]at h
 | .tup _::l,ns,h=>by simp[blsD]at h
 | .lst _::l,ns,h=>by simp[blsD]at h
 | .scr _::l,ns,h=>by simp[blsD]at h
 | .dct _ _ _::l,ns,h=>by simp[blsD]at h
 | .obj _ _ _::l,ns,h=>by simp[blsD]at h
 | .adr _::l,ns,h=>by simp[blsD]at h
theorem Yoa{G:Hp}:∀{bs:List Bool} {xs:List V},RpL K G (bs.map D.bl) xs->xs=bs.map V.bl
 | [],xs,h=>by rw[List.map_nil,RpL]at h;exact h
 | n::ns,xs,h=>by
   rw[Qa,RpL]at h
   obtain⟨x,r,rfl,h1,h2⟩:=h
   rw[Rp]at h1
   rw[h1,Yoa h2]
   rfl
theorem Yix:∀{bs:List Bool} {us:List Value},Vals (bs.map V.bl) us->us=bs.map Value.bool
 | [],us,h=>by cases h;rfl
 | b::bs,us,h=>by
   cases h with
   | cons r t=>
     cases (show _=Value.bool b from r)
     rw[Yix t]
     rfl
theorem Yob(bs:List Bool):((List.range bs.length).any fun i=>bs.getD i false)=bs.any id:=by
 induction bs with
 | nil=>rfl
 | cons b bs ih=>
   rw[qq,List.range_succ_eq_map,List.any_cons,List.any_map,List.any_cons]
   have:(List.range bs.length).any ((fun i=>(b::bs).getD i false) ∘ Nat.succ)=(List.range bs.length).any fun i=>bs.getD i false:=by
    congr 1
   rw[this,ih]
   rfl
theorem Yoc(bs:List Bool):((List.range bs.length).all fun i=>bs.getD i false)=bs.all id:=by
 induction bs with
 | nil=>rfl
 | cons b bs ih=>
   rw[qq,List.range_succ_eq_map,List.all_cons,List.all_map,List.all_cons]
   have:(List.range bs.length).all ((fun i=>(b::bs).getD i false) ∘ Nat.succ)=(List.range bs.length).all fun i=>bs.getD i false:=by
    congr 1
   rw[this,ih]
   rfl
def rBls(g:List Bool->V):List V->Hp->VK->Prop:=fun vs H Q=>∃(a:Addr) (bs:List Bool),vs=[.ref a]/\Rd H a (.lst (bs.map V.bl))/\Q (g bs) H
theorem Yj8(A:Around)(prog:Program)(w:World)(bs:List Bool):TruthOf prog w A (fun i v=>((bs.map Value.bool).toArray)[i]?=some v) (fun i=>bs.getD i false):=fun i v s Q E hP hQ=>by
 have hP':(bs.map Value.bool)[i]?=some v:=by simpa using hP
 rw[qz]at hP'
 obtain⟨b,h1,rfl⟩:=qb hP'
 refine wpAny_truthy_bool ?_
 have:bs.getD i false=b:=by simp[h1]
 rw[<-this]
 exact hQ
theorem Yod{pins:List (Addr × Obj)}{s:Shared}{σ:L2.St}{H:Hp}{a:Addr}{its:List Value}{A:Around}{E:Value->Shared->Prop}{Q:Value->Shared->Prop}(hh:A.handled=none)(hl:s.heap.IsList a its.toArray)
 (h:∀s₂,s₂={ s with heap:=s.heap.push { cls:=.type "list_iterator",data:=.fields #[.ref a,.int 0 0] } }->Walks X.prog X.w A s.heap.objs.size [s.heap.objs.size,a] [s.heap.objs.size] its.toArray.size (fun i v=>its.toArray[i]?=some v) (fun i h=>h.IsListIter s.heap.objs.size a i/\h.IsList a its.toArray)->
  (s₂.heap.IsListIter s.heap.objs.size a 0/\s₂.heap.IsList a its.toArray)->Q (.ref s.heap.objs.size) s₂):wpAny (model X.prog X.w) A (pyIter (.ref a)) Q E s:=by
 have hne:a≠s.heap.objs.size:=by
  obtain⟨o,ho,_⟩:=hl
  exact ql (qk ho)
 refine wpAny_pyIter_list hl (h _ rfl (Walks.list hh _ a hne _) ⟨⟨_,qo _ rfl,rfl,rfl⟩,?_⟩)
 obtain⟨o,ho,r⟩:=hl
 exact⟨o,qd _ ho,r⟩
theorem Yfz{pins:List (Addr × Obj)}{s:Shared}{σ:L2.St}{H:Hp}{h':Heap}{tk:Nat}{o:Obj}(I:Inv X pins σ H s)(k:∀b u,b∉[s.heap.objs.size]->(s.heap.push o).get? b=some u->h'.get? b=some u):Inv X pins σ H { s with heap:=h',toks:=tk }:=
 I.kept fun b u q=>k b u (by
  intro z
  have e:b=s.heap.objs.size:=by simpa using z
  exact absurd (qk q) (by rw[e];exact Nat.lt_irrefl _)) (qd _ q)
theorem Yoe(hc:X.calm=true):Yb6 X (.builtin "all") (rBls fun bs=>.bl (bs.all id)):=by
 intro pins s σ H xs us Q I r h
 obtain⟨a,bs,rfl,hr,q⟩:=h
 obtain⟨u,rfl,ru⟩:=Yhn r
 cases ru
 obtain⟨its,rv,pl,hz⟩:=I.list (.inl hr)
 cases Yix rv
 refine call_all_walk (Yod (X:=X) (pins:=pins) (σ:=σ) (H:=H) (show X.A.in1.handled=none from I.ok.hd hc) pl.isList fun s₂ e W st=>?_)
 subst e
 refine⟨_,_,_,_,_,_,fun i=>bs.getD i false,rfl,W,st,Yj8 _ _ _ bs,fun h' tk k=>⟨.bl _,H,(show Inv X pins σ H { s with heap:=h',toks:=tk } from Yfz I k),?_,q⟩⟩
 show Value.bool _=Value.bool _
 rw[qj,qe,Yoc]
def anyC:List D->Option D
 | [.lst l]=>(blsD l).map fun bs=>.bl (bs.any id)
 | _=>none
def allC:List D->Option D
 | [.lst l]=>(blsD l).map fun bs=>.bl (bs.all id)
 | _=>none
theorem Yof{g:List Bool->V}{gd:List Bool->D}{m:List D->Option D}(hm:∀ds d,m ds=some d->∃l bs,ds=[.lst l]/\blsD l=some bs/\d=gd bs)(hg:∀G bs,Rp K G (gd bs) (g bs)):SemC K (rBls g) m:=by
 intro vs ds d H G Q h s r q
 obtain⟨l,bs,rfl,h1,rfl⟩:=hm ds d h
 obtain⟨v,rfl,rv⟩:=Ydx r
 rw[Ct]at rv
 obtain⟨a,xs,rfl,g',rl⟩:=rv
 cases Yj7 h1
 cases Yoa rl
 exact⟨a,bs,rfl,g',q _ H G (.refl s) (hg G bs)⟩
theorem Yog:SemC K (rBls fun bs=>.bl (bs.any id)) anyC:=Yof (gd:=fun bs=>.bl (bs.any id)) (fun ds d h=>by
 unfold anyC at h
 split at h
 ·obtain⟨bs,h1,rfl⟩:=qb h
  exact⟨_,bs,rfl,h1,rfl⟩
 ·cases h) fun G bs=>by rw[Rp]
theorem Yto:SemC K (rBls fun bs=>.bl (bs.all id)) allC:=Yof (gd:=fun bs=>.bl (bs.all id)) (fun ds d h=>by
 unfold allC at h
 split at h
 ·obtain⟨bs,h1,rfl⟩:=qb h
  exact⟨_,bs,rfl,h1,rfl⟩
 ·cases h) fun G bs=>by rw[Rp]
def Yoh(i:Nat)(fi f:Ro->Option D)(g:List D->D->D->Option (List D)):Ro->Option Out:=fun ρ=>(f ρ).bind fun d=>(getO i ρ).bind fun l=>(fi ρ).bind fun k=>(g l k d).map fun l'=>.nx (ρ.set i (some (.ow l')))
end
end
section
variable {K:W.Frag}
end
section
variable {K:W.Frag}
def Yhr(k:Int):Value->Bool
 | .int i _=>i==k
 | .bool b=>(if b then 1 else 0)==k
 | _=>false
theorem Yby{k:Int}{v:Value}(h:Yhr k v=true):(∃t,v=.int k t)\/∃b:Bool,v=.bool b/\k=if b then 1 else 0:=by
 cases v with
 | int i t=>
   have e:i=k:=by simpa [Yhr]using h
   exact .inl ⟨t,by rw[e]⟩
 | bool b=>
   have e:(if b then (1:Int)else 0)=k:=by simpa [Yhr]using h
   exact .inr ⟨b,rfl,e.symm⟩
 | _=>simp[Yhr]at h
theorem Yk5{prog:Program}{w:World}{A:Around}{E:Value->Shared->Prop}{s:Shared}{b:Bool}{Q:Int->Shared->Prop}(h:Q (hashInt (if b then 1 else 0)) { s with toks:=s.toks+1 }) :
 wpAny (model prog w) A (pyHash (.bool b)) Q E s:=by
 have hr:=rawHash_range (if b then 1 else 0)
 have hT:s.TypeIs (.bool b) "bool":=rfl
 unfold pyHash
 first | unfold pyHashByItsType | skip
 have hv:[Value.bool b].any Value.onHeap=false:=rfl
 refine wpAny_bind ?_
 rw[cRoomFor,if_neg (by rw[hv];exact qh)];refine wpAny_pure ?_
 refine wpAny_bind (wpAny_specialOf hT F.slot_bool_hash.lookup ?_)
 show wpAny _ _ (if (some (Value.builtin "int.__hash__")==some Value.none)=true then _ else _) Q E s
 rw[if_neg (by rw[beq_builtin_none];exact qh)]
 refine wpAny_bind (wpAny_specialOf hT F.slot_bool_hash.lookup ?_)
 show wpAny _ _ (callSpecialIfBoundUnlessNone? (.bool b) "__hash__" _ >>= _) Q E s
 refine wpAny_bind (wpAny_callSpecialIfBoundUnlessNone?_slot hT F.slot_bool_hash
  (wpAny_call_entry F.slot_bool_hash hT entry_int_hash
   (show wpAny _ _ (do ret (<-mkInt (rawHash (if b then 1 else 0)))) _ _ s from wpAny_ret_mkInt ?_) (args_int_hash _)))
 show wpAny _ _ (if (decide (-(2:Int) ^ 63<=rawHash (if b then 1 else 0))&&decide (rawHash (if b then 1 else 0) < 2 ^ 63))=true then _ else _) Q E _
 rw[if_pos (by rw[decide_eq_true hr.1,decide_eq_true hr.2];rfl)]
 exact wpAny_pure h
def Yd1(prog:Program)(w:World):KeyKind prog w Int where
 is:=Yhr
 hash:=hashInt
 inj:=fun v a b ha hb=>by
  rcases Yby ha with⟨t,rfl⟩ | ⟨c,rfl,rfl⟩
  ·have e:a=b:=by simpa [Yhr]using hb
   exact e
  ·have e:(if c then (1:Int)else 0)=b:=by simpa [Yhr]using hb
   exact e
 byValue:=fun k v h=>by
  rcases Yby h with⟨t,rfl⟩ | ⟨c,rfl,rfl⟩<;>rfl
 pyHash:=fun hv h=>by
  rcases Yby hv with⟨t,rfl⟩ | ⟨c,rfl,rfl⟩
  ·exact wpAny_pyHash_int h
  ·exact Yk5 h
 eqBool:=fun {A E s a b u v Q} hu hv h=>by
  rcases Yby hu with⟨t,rfl⟩ | ⟨c,rfl,rfl⟩
  ·rcases Yby hv with⟨t',rfl⟩ | ⟨c',rfl,rfl⟩
   ·exact wpAny_eqBool_int (by rw[show(a==b)=decide (a=b) from rfl];exact h)
   ·exact SeqAt.EqAt.int_bool a t c' _ _ _ _ (by rw[show(a==if c'=true then 1 else 0)=decide (a=if c'=true then 1 else 0) from rfl];exact h)
  ·rcases Yby hv with⟨t',rfl⟩ | ⟨c',rfl,rfl⟩
   ·exact SeqAt.EqAt.bool_int c b t' _ _ _ _ (by rw[show((if c=true then 1 else 0)==b)=decide ((if c=true then 1 else 0)=b) from rfl];exact h)
   ·refine SeqAt.EqAt.bool_bool c c' _ _ _ _ ?_
    have e:(c==c')=decide ((if c=true then (1:Int)else 0)=if c'=true then 1 else 0):=by cases c<;>cases c'<;>rfl
    rw[e];exact h
 «strs»:=fun k x t v h=>by simp[Yhr]at h
end
section
open Sem (wp)
variable {K:W.Frag}
end
section
variable {K:W.Frag}
section
variable {X:Cx} {e ie:Expr} {f fb:Ro->Option D} {pos:Pos}
def rIns:V->List V->Hp->VK->Prop:=fun x vs H Q=>∃l xs i y,x=.ref l/\vs=[.int i,y]/\H l=some (.lst xs)/\0<=i/\i<=xs.length/\xs.length < sizeLine/\Q .non (upd H l (.lst (xs.take i.toNat++y::xs.drop i.toNat)))
theorem Yoi:MtM X "list.insert" rIns:=by
 intro pins s σ H x vs v us Q I rx rv h
 obtain⟨l,xs,i,y,rfl,rfl,hH,h0,hi,hz,q⟩:=h
 cases rx
 obtain⟨u1,u2,rfl,⟨t,rfl⟩,r2⟩:=Yjs rv
 obtain⟨z,its,n,r,hl,e⟩:=I.lstM hH
 have hn:=sizeLine_eq
 have hfit:¬(!Builtin.List.listFitsIndex i)=true:=by
  unfold Builtin.List.listFitsIndex
  have a1:-(2 ^ 63:Int)<=i:=by lia
  have a2:i < 2 ^ 63:=by lia
  simp
  exact⟨by lia,by lia⟩
 refine call_meets F.slot_list_insert ⟨_,e,rfl⟩ F.entry_list_insert (F.args_list_insert_3 _ _ _) (AutoSeq1.list_insert_list_int_val_1 l its.toArray n i t u2 hfit (by rw[qj];lia)) ⟨e,?_⟩
 have hk:¬i < 0:=by lia
 have hm:min i.toNat its.length=i.toNat:=by lia
 refine⟨.non,_,I.lset (its':=its.take i.toNat++u2::its.drop i.toNat) hH e ?_ ((r.take _).append (.cons r2 (r.drop _))) ?_,rfl,q⟩
 ·simp only[if_neg hk,qj,hm]
  apply Array.toList_inj.mp
  simp
  exact List.take_of_length_le (by simp)
 ·simp
  lia
def insD(l:List D)(k d:D):Option (List D):=(intD k).bind fun i=>if decide (0<=i)&&decide (i<=l.length)&&decide (l.length < cap6)then some (l.take i.toNat++d::l.drop i.toNat)else none
theorem Yoj(i:Nat){x:Str}{p2 apos cpos:Pos}(hb:ME X ie fb)(he:ME X e f)(hN:X.N[i]?=some x:=by rfl)(hv:Vis X.env.scope x:=by first | exact Or.inl rfl | exact Or.inr (Or.inl rfl) | exact Or.inr (Or.inr rfl))
 (hd:(x==("__debug__":Str))=false:=by decide) (hcd:(x==("__classdict__":Str))=false:=by decide) (hse:swapsWith (.Call (.Attribute (.Name x p2) "insert" apos) [ie,e] [] cpos) none pos.line X.env=pure false:=by rfl)
 (hs:starEach [ie,e] X.env=(false,eval ie X.env)::starEach [e] X.env:=by rfl) (hs2:starEach [e] X.env=[(false,eval e X.env)]:=by rfl)
 (hfew:((backTo cpos (starEach [ie,e] X.env)).all (fun x=>!x.1)&&(backToKw cpos (keywordEach [] X.env)).all (fun x=>x.1.isSome)&&decide ([ie,e].length+([]:List Keyword).length+(if ([]:List Keyword).isEmpty then 0 else 1) < 30))=true:=by rfl)
 (hline:(apos.endLine==cpos.line)=true:=by rfl) (hbase:attributeBase (.Name x p2) "insert" X.env (eval (.Name x p2) X.env)=eval (.Name x p2) X.env:=by rfl) (hpl:(backTo cpos (starEach [e] X.env)).any (·.1)=false:=by rfl) :
 MS X (.Expr (.Call (.Attribute (.Name x p2) "insert" apos) [ie,e] [] cpos) pos) (Yoh i fb f insD):=
 PS.imp (Ynf (Yvo PySem.F.plainAttrs_list PySem.F.slot_list_insert PySem.F.type_list_insert Yoi (Yhv hN hv hd hcd) (Ybn hb (Ybn he Yfx hs2) hs) hbase hfew hline hs hpl) hse) fun F σ H hx_=>by
  obtain⟨ρ,out,H0,G0,G,e,s,h⟩:=hx_
  unfold Yoh at e
  obtain⟨d,h1,e⟩:=qa e
  obtain⟨l,h2,e⟩:=qa e
  obtain⟨k,h3,e⟩:=qa e
  obtain⟨l',h4,rfl⟩:=qb e
  unfold insD at h4
  obtain⟨n,h5,h4⟩:=qa h4
  split at h4
  ·rename_i hc
   cases h4
   simp only[Qb,decide_eq_true_eq]at hc
   obtain⟨⟨hc1,hc2⟩,hc3⟩:=hc
   obtain⟨a,xs,ha,hH,hr,hG⟩:=Yr4 s h2
   refine⟨_,ha,.inl ⟨rfl,xs,SqL.of hH⟩,tOf.at h3 s fun u H1 G1 g1 r1 s1=>tOf.at h1 s1 fun v H2 G2 g2 r2 s2=>?_⟩
   cases k<;>simp[intD]at h5
   subst h5
   rw[Rp]at r1
   subst r1
   have hr2:=(hr.mono g1.g).mono g2.g
   refine⟨a,xs,_,v,rfl,rfl,g2.h _ _ (g1.h _ _ hH),hc1,by rw[hr.length];exact hc2,?_,h σ _ G2 (s2.mut (Ygu h2) ha ((hr2.take _).append (.cons r2 (hr2.drop _))))⟩
   rw[hr.length]
   exact qx hc3 (Yfj (qt _))
  ·cases h4
end
end
section
variable {K:W.Frag}
def GI(mg:Str->Option Value)(x:Str)(i:Int):Prop:=∃t,mg x=some (.int i t)
section
variable {X:Cx} {ke:Expr} {fk:Ro->Option D} {pos px:Pos} {x:Str}
theorem Ytp{i:Int}(g:GI X.mg x i)(hg:Gl X x)(hd:(x==("__debug__":Str))=false:=by decide):ME X (.Name x px) (kD (.int i)):=by
 obtain⟨t,hm⟩:=g
 exact Yez (v:=.int i) (Yky (v:=.int i) hg hm ⟨t,rfl⟩ hd) (fun _ _ _ q=>q) fun _=>by rw[Rp]
end
def tK(x:Str):TE:=fun _ H Q=>Q (.str x) H
structure MP(X:Cx)(pos:Pos)(keys:List (Option Expr))(values:List Expr)(ks:List Str)(fs:List (Ro->Option D)):Prop where
 len:ks.length=fs.length
 pps:PPs X pos keys values ((ks.zip fs).map fun p=>(tK p.1,tOf X.K p.2))
 all:keys.all (·.isSome)=true
 kv:keys.length=values.length
 kk:keys.length=ks.length
end
section
variable {K:W.Frag}
structure DtH(H:Hp)(a:Addr)(nks:List (List Int × Addr))(vxs:List V):Prop where
 at':∃ep,H a=some (dTo a nks vxs ep)
 len:nks.length=vxs.length
 nd:(nks.map (·.1)).Nodup
 keys:∀p∈nks,∃ys,H p.2=some (.tup ys)/\Ys2 ys=some p.1
end
section
end
section
section
variable {X:Cx} {a b c e:Expr} {fa fb fc:Ro->Option D} {pos:Pos} {st:Stmt}
def ch3(fa fb fc:Ro->Option D)(g g':D->D->Option Bool):Ro->Option Bool:=fun ρ=>
 (fa ρ).bind fun x=>(fb ρ).bind fun y=>(g x y).bind fun k=>if k=true then (fc ρ).bind fun z=>g' y z else some false
theorem Yqv{g g':D->D->Option Bool}{ρ:Ro}{k:Bool}(h:ch3 fa fb fc g g' ρ=some k) :
 ∃x y,fa ρ=some x/\fb ρ=some y/\((g x y=some false/\k=false)\/(g x y=some true/\∃z,fc ρ=some z/\g' y z=some k)):=by
 unfold ch3 at h
 obtain⟨x,h1,h⟩:=qa h
 obtain⟨y,h2,h⟩:=qa h
 obtain⟨q,h3,h⟩:=qa h
 refine⟨x,y,h1,h2,?_⟩
 cases q with
 | false=>
   rw[if_neg (by simp)]at h
   cases h
   exact .inl ⟨h3,rfl⟩
 | true=>
   rw[if_pos rfl]at h
   obtain⟨z,h4,h⟩:=qa h
   exact .inr ⟨h3,z,h4,h⟩
theorem Yqw{op op':CmpOp}{r r':R2}{g g':D->D->Option Bool}(ho:OpR X (compareOp op) r)(hr:Yey X.K r g)(ho':OpR X (compareOp op') r')(hr':Yey X.K r' g')(ha:MC X a fa)(hb:MC X b fb)(hc:MC X c fc)
 (hm:lastMarks [op,op'] [b,c]=false:=by with_unfolding_all rfl):ME X (.Compare a [op,op'] [b,c] pos) (mB (ch3 fa fb fc g g')):=
 PE.imp (Yqa ho ho' ha hb hc hm) fun σ H Q h=>by
  obtain⟨ρ,d,H0,G0,G,e,s,h⟩:=h
  obtain⟨k,ek,rfl⟩:=Yk2 e
  obtain⟨x,y,h1,h2,h3⟩:=Yqv ek
  refine tCof.at h1 s fun v H1 G1 g1 r1 s1=>tCof.at h2 s1 fun u H2 G2 g2 r2 s2=>?_
  rcases h3 with⟨h3,rfl⟩ | ⟨h3,z,h4,h5⟩
  ·exact hr v u x y false H2 G2 _ h3 s2.seen (r1.grow g2) r2 ⟨false,rfl,by rw[if_neg (by simp)];exact h _ H2 G2 (g1.trans g2) (by rw[Rp])⟩
  ·refine hr v u x y true H2 G2 _ h3 s2.seen (r1.grow g2) r2 ⟨true,rfl,?_⟩
   rw[if_pos rfl]
   exact tCof.at h4 s2 fun w H3 G3 g3 r3 s3=>hr' u w y z k H3 G3 _ h5 s3.seen (r2.grow g3) r3 (h _ H3 G3 ((g1.trans g2).trans g3) (by rw[Rp]))
def nS:Ro->Option Out:=fun _=>none
theorem Yqx:MS X st nS:=fun _ _ _ _ _ _ ⟨_,_,_,_,_,h,_⟩=>nomatch h
end
end
section
end
section
def zK(ns:List Int)(vxs:List V):List (Key × V):=(ns.zip vxs).map fun p=>(Sum.inl p.1,p.2)
theorem Ytq(n:Int)(v:V)(ns:List Int)(vxs:List V):zK (n::ns) (v::vxs)=(Sum.inl n,v)::zK ns vxs:=rfl
theorem Yk6:∀(ns:List Int) (vxs:List V),ns.length=vxs.length->(zK ns vxs).map (·.1)=ns.map Sum.inl
 | [],vxs,_=>rfl
 | n::ns,[],h=>by simp at h
 | n::ns,v::vxs,h=>by
   rw[Ytq,Qa,Qa,Yk6 ns vxs (by simpa using h)]
theorem Ym0{ns:List Int}(h:ns.Nodup):(ns.map (Sum.inl:Int->Key)).Nodup:=by
 rw[List.nodup_iff_pairwise_ne,List.pairwise_map]
 rw[List.nodup_iff_pairwise_ne]at h
 exact h.imp fun h z=>h (by injection z)
variable {K:W.Frag}
theorem Yyi{G H:Hp}{a:Addr}{vxs:List V}{ns:List Int}(h:H a=some (.dK (zK ns vxs)))(hn:ns.Nodup)(hl:ns.length=vxs.length):Dc false G H a (ns.map V.int) vxs:=by
 refine .inl ⟨rfl,zK ns vxs,h,by rw[Yk6 ns vxs hl];exact Ym0 hn,?_,?_⟩
 ·have:=congrArg (List.map kV) (Yk6 ns vxs hl)
  rw[List.map_map,List.map_map]at this
  exact(this.trans (List.map_congr_left fun _ _=>rfl)).symm
 ·unfold zK
  rw[List.map_map]
  have:(fun p:Int × V=>((Sum.inl p.1,p.2):Key × V).2)=fun p=>p.2:=rfl
  show vxs=(ns.zip vxs).map fun p:Int × V=>p.2
  clear h hn this
  induction ns generalizing vxs with
  | nil=>cases vxs with
    | nil=>rfl
    | cons=>simp at hl
  | cons n ns ih=>cases vxs with
    | nil=>simp at hl
    | cons v vxs=>simp;exact ih (by simpa using hl)
set_option maxRecDepth 100000
section
variable {X:Cx} {e:Expr} {f:Ro->Option D} {p pos:Pos}
theorem nr1{α:Sort _}{a b:α}(h:a=b):a=b:=h
end
end
section
section
variable {X:Cx} {a b e:Expr} {fa fb f:Ro->Option D} {pos:Pos} {K:W.Frag}
theorem Yk7{M:Model}{A:Around}{E:Value->Shared->Prop}{s:Shared}{Q:Value->Shared->Prop}{v:Value}{k:Bool}(hb:∀id,v≠.builtin id)(h:Q (.bool (v==.bool k)) s):wpAny M A (compareOp .Is v (.bool k)) Q E s:=by
 cases v<;>first | exact wpAny_pure h | exact absurd rfl (hb _)
def isBl(k:Bool):D->Bool
 | .bl j=>j==k
 | _=>false
def isB(neg:Bool):D->D->Option Bool
 | d,.bl k=>some (isBl k d != neg)
 | _,_=>none
theorem vbl{x:V}{v:Value}(r:RelV x v)(k:Bool):(v==.bool k)=decide (x=.bl k):=by
 cases x with
 | bl j=>
   cases (show v=Value.bool j from r)
   by_cases h:j=k
   ·subst h;simp
   ·simp[h]
 | non=>cases (show v=Value.none from r);rfl
 | int i=>obtain⟨t,rfl⟩:=r;rfl
 | str i=>obtain⟨t,rfl⟩:=r;rfl
 | ref i=>cases (show v=Value.ref i from r);rfl
 | _=>first | (obtain⟨t,rfl⟩:=r;rfl) | (cases r;rfl)
theorem nobl{x:V}{v:Value}(r:RelV x v):∀id,v≠.builtin id:=fun id z=>by
 subst z
 cases x<;>first | (obtain⟨t,h⟩:=r;cases h;done) | (cases r;done)
theorem Ywx:OpR X (compareOp .Is) (fun x y H Q=>∃k,y=.bl k/\Q (.bl (decide (x=.bl k) != false)) H):=by
 intro pins s σ H x y v u Q I rx ry h
 obtain⟨k,rfl,q⟩:=h
 cases ry
 refine Yk7 (nobl rx) ⟨_,H,I,?_,q⟩
 rw[vbl rx]
 simp
 rfl
theorem Ytr{G H:Hp}{d:D}{v:V}(r:Ct K G H d v)(k:Bool):decide (v=.bl k)=isBl k d:=by
 cases d with
 | bl j=>
   rw[Ct]at r
   subst r
   by_cases h:j=k
   ·subst h;simp[isBl]
   ·simp[isBl,h]
 | non=>rw[Ct]at r;subst r;simp[isBl]
 | int i=>rw[Ct]at r;subst r;simp[isBl]
 | str i=>rw[Ct]at r;obtain⟨rfl,_⟩:=r;simp[isBl]
 | tup l=>rw[Ct]at r;obtain⟨a,xs,rfl,_⟩:=r;simp[isBl]
 | lst l=>rw[Ct]at r;obtain⟨a,xs,rfl,_⟩:=r;simp[isBl]
 | scr l=>rw[Ct]at r;obtain⟨a,rfl,_⟩:=r;simp[isBl]
 | dct t l m=>rw[Ct]at r;obtain⟨a,xs,ys,rfl,_⟩:=r;simp[isBl]
 | obj t l m=>rw[Ct]at r;obtain⟨a,C,dx,xs,rfl,_⟩:=r;simp[isBl]
 | adr a=>rw[Ct]at r;subst r;simp[isBl]
theorem Yts{neg:Bool}:Yey K (fun x y H Q=>∃k,y=.bl k/\Q (.bl (decide (x=.bl k) != neg)) H) (isB neg):=by
 intro x y dx dy c H G Q h s rx ry q
 unfold isB at h
 split at h
 ·rename_i k
  cases h
  have e:=Ytr rx k
  rw[Ct]at ry
  subst ry
  exact⟨k,rfl,by rw[e];exact q⟩
 ·cases h
theorem Ywy(ha:MC X a fa)(hb:MC X b fb):MT X (.Compare a [.Is] [b] pos) (b2 fa fb (isB false)):=Yfy Ywx Yts ha hb (Ydw _)
def maxC:List D->Option D
 | [.int i,.int j]=>some (.int (if j > i then j else i))
 | _=>none
theorem Yok{G H:Hp}{i j:Int}{vs:List V}(r:CtL K G H [.int i,.int j] vs):vs=[.int i,.int j]:=by
 obtain⟨x,r,rfl,h1,h2⟩:=r
 obtain⟨y,r,rfl,h3,h4⟩:=h2
 cases (show r=[] from h4)
 rw[Ct]at h1
 rw[Ct]at h3
 rw[h1,h3]
theorem Ytt:SemC K (fun xs H Q=>∃i j,xs=[.int i,.int j]/\Q (.int (if j > i then j else i)) H) maxC:=by
 intro vs ds d H G Q h s r q
 unfold maxC at h
 split at h
 ·rename_i i j
  cases h
  exact⟨i,j,Yok r,q _ H G (.refl s) (by rw[Rp])⟩
 ·cases h
theorem nr2{α:Sort _}{a b:α}(h:a=b):a=b:=h
@[simp] theorem isBl_bl(k j:Bool):isBl k (.bl j)=(j==k):=nr2 rfl
@[simp] theorem maxC_ints(i j:Int):maxC [.int i,.int j]=some (.int (if j > i then j else i)):=nr2 rfl
end
end
section
set_option maxRecDepth 100000
def Yr6:List D->Option (List (Int × D))
 | []=>some []
 | .tup [.int i,v]::l=>(Yr6 l).map ((i,v)::·)
 | _=>none
def pairsOf:D->Option (List (Int × D))
 | .lst l=>Yr6 l
 | _=>none
variable {K:W.Frag}
end
section
def Ytu:List Value->List Str->Prop:=Paired fun v k=>(∃t,v=.str k t)/\PyData.strOk k=true
def GT(K:W.Frag)(mg:Str->Option Value)(x:Str)(ks:List Str):Prop:=∃p o its n,mg x=some (.ref p)/\K.lookup p=some o/\o.cls=.type "tuple"/\o.data=.seq its n/\Ytu its.toList ks
theorem Yh1{h:Heap}:∀{vs:List Value} {ks:List Str},Ytu vs ks->∃as,ReadsAll h vs (ks.map PyData.str) as/\PyData.canLayAll0 (ks.map PyData.str)=true
 | _,_,.nil=>⟨_,.nil,by simp[PyData.canLayAll0]⟩
 | _,_,.cons r t=>by
   obtain⟨⟨tk,rfl⟩,hk⟩:=r
   obtain⟨as,h1,h2⟩:=Yh1 (h:=h) t
   exact⟨_,.cons (.str _ tk) h1,by simp[PyData.canLayAll0,PyData.canLay0,h2,hk]⟩
def inG(neg:Bool)(ks:List Str):D->Option Bool
 | .str k=>some (decide (k∈ks) != neg)
 | _=>none
def rInG(p:Addr)(ks:List Str)(neg:Bool):R2:=fun x y H Q=>∃k,x=.str k/\PyData.strOk k=true/\y=.ref p/\Q (.bl (decide (k∈ks) != neg)) H
theorem Yol(k:Str):∀ks:List Str,((ks.map PyData.str).any fun y=>PyData.eqv y (.str k))=decide (k∈ks)
 | []=>rfl
 | a::ks=>by
   rw[Qa,List.any_cons,Yol k ks]
   have e:PyData.eqv (.str a) (.str k)=decide (k=a):=by
    simp only[PyData.eqv]
    rw[show(a==k)=decide (a=k) from rfl]
    exact decide_eq_decide.mpr ⟨fun h=>h.symm,fun h=>h.symm⟩
   rw[e]
   by_cases h:k=a<;>simp[h]
section
variable {X:Cx} {a:Expr} {fa:Ro->Option D} {pos px:Pos} {x:Str} {ks:List Str}
theorem Ytv(hu:X.A.units+64 < cLine){p:Addr}{o:Obj}{its:Array Value}{n:Nat}(hl:X.K.lookup p=some o)(hc:o.cls=.type "tuple")(hd:o.data=.seq its n)(hs:Ytu its.toList ks):OpR X (compareOp .NotIn) (rInG p ks true):=by
 intro pins s σ H x y v u Q I rx ry h
 obtain⟨k,rfl,hk,rfl,q⟩:=h
 cases ry
 obtain⟨t,rfl⟩:=rx
 obtain⟨as,h1,h2⟩:=Yh1 (h:=s.heap) hs
 have ht:Reads s.heap (.ref p) (.tuple (ks.map PyData.str)) _:=.tuple (I.kIn p o hl) hc hd h1
 refine SeqAt.notIn_tuple_reads ht (.str k t) (by simpa [PyData.canLay0]using h2) (by simp[PyData.canLay0,hk]) ?_ ⟨.bl _,H,I,rfl,?_⟩
 ·have e:(PyData.str k).depth=0:=by simp[PyData.depth]
  rw[e]
  lia
 ·rw[Yol]
  have e:(!decide (k∈ks))=(decide (k∈ks) != true):=by cases decide (k∈ks)<;>rfl
  rw[e]
  exact q
theorem Ytw(hu:X.A.units+64 < cLine)(g:GT X.K X.mg x ks)(hg:Gl X x)(ha:MC X a fa)(hm:behindInMarks .NotIn (.Name x px)=false:=by with_unfolding_all rfl)(hd:(x==("__debug__":Str))=false:=by decide):MT X (.Compare a [.NotIn] [.Name x px] pos) (b1 fa (inG true ks)):=by
 obtain⟨p,o,its,n,hmg,hl,hc,hdt,hs⟩:=g
 refine PT.imp (Ynk (Ytv hu hl hc hdt hs) ha (Yky (v:=.ref p) hg hmg rfl hd) hm) fun σ H Q hx_=>?_
 obtain⟨ρ,b,H0,G0,G,e,s,h⟩:=hx_
 obtain⟨d,h1,h2⟩:=Yc5 e
 refine tCof.at h1 s fun v H1 G1 g1 r1 s1=>?_
 unfold inG at h2
 split at h2
 ·rename_i k
  cases h2
  rw[Ct]at r1
  exact⟨k,r1.1,r1.2,rfl,_,rfl,h H1 G1 g1⟩
 ·cases h2
@[simp] theorem inG_str(neg:Bool)(ks:List Str)(k:Str):inG neg ks (.str k)=some (decide (k∈ks) != neg):=nr1 rfl
end
end
section
end
section
set_option maxRecDepth 100000
section
variable {X:Cx} {pins:List (Addr × Obj)} {σ:L2.St} {H:Hp} {s:Shared} {e:Expr} {f:Ro->Option D} {p p2 pos pos2:Pos}
theorem Yom{ns:List Int}{us:List Value}(r:Vals (ns.map V.int) us):IntsAre us ns:=Yfg r
theorem nr0{α:Sort _}{a b:α}(h:a=b):a=b:=h
end
end
section
def Yyj:List Nat:=[8,16,32,64,128]
end
section
end
section
set_option maxRecDepth 100000
theorem Yl4{t:SetTable}(hp:t.place=#[])(hd:t.dummies=#[])(j:Nat):t.slot j=.empty:=by
 unfold SetTable.slot SetTable.has
 rw[hp,hd]
 rfl
theorem Yon(j0 j:Nat):SetTable.below #[j0] j=if j0 < j then 1 else 0:=by
 show SetTable.below.go #[j0] j 1 0 1=_
 rw[SetTable.below.go,if_pos (by decide)]
 show(if #[j0].getD 0 j < j then SetTable.below.go #[j0] j 0 1 1 else SetTable.below.go #[j0] j 0 0 0)=_
 rw[SetTable.below.go,SetTable.below.go]
 rfl
theorem Ye0{t:SetTable}{j0:Nat}(hp:t.place=#[j0])(hd:t.dummies=#[])(j:Nat):t.slot j=if j=j0 then .live 0 else .empty:=by
 unfold SetTable.slot SetTable.has
 dsimp only
 rw[hp,hd,Yon]
 by_cases h:j0 < j
 ·have h1:¬j=j0:=by lia
  simp[h,h1]
 ·by_cases h1:j=j0
  ·subst h1
   simp
  ·have h2:¬j0=j:=fun z=>h1 z.symm
   simp[h,h1,h2]
theorem Yj9{t:SetTable}(hm:t.mask=7){p:SetTable.Probe}(h0:p.more=0):t.advance p={ p with j:=(p.i * 5+1+p.perturb / 32) % 8,more:=0,i:=(p.i * 5+1+p.perturb / 32) % 8,perturb:=p.perturb / 32 }:=by
 unfold SetTable.advance
 rw[if_neg (by lia),hm]
 show({ p with j:=(p.i * 5+1+p.perturb / 32) % 8,more:=SetTable.runEnd 7 ((p.i * 5+1+p.perturb / 32) % 8) - (p.i * 5+1+p.perturb / 32) % 8,i:=(p.i * 5+1+p.perturb / 32) % 8,perturb:=p.perturb / 32 }:SetTable.Probe)=_
 have:SetTable.runEnd 7 ((p.i * 5+1+p.perturb / 32) % 8) - (p.i * 5+1+p.perturb / 32) % 8=0:=by
  unfold SetTable.runEnd
  split<;>lia
 rw[this]
theorem Yr7{t:SetTable}{j0:Nat}{hA:Nat->Int}{h:Int}(hm:t.mask=7)(hp:t.place=#[j0])(hd:t.dummies=#[])(hj:j0 < 8)(hne:(hA 0==h)=false):∀(k fuel:Nat) (p:SetTable.Probe),p.perturb < 32 ^ k->k+2<=fuel->p.more=0->p.i=p.j->p.dummy=none->p.j < 8->
 ∃j,SetTable.probe.go t hA h fuel p=some (.empty j none)/\j≠j0/\j < 8
 | 0,fuel+2,p,h1,_,h3,h4,h5,h6=>by
   have hz:p.perturb=0:=by simp at h1;lia
   rw[SetTable.probe.go,Ye0 hp hd]
   by_cases e:p.j=j0
   ·rw[if_pos e]
    dsimp only
    rw[hne,if_neg qh,SetTable.probe.go,Ye0 hp hd,Yj9 hm h3]
    dsimp only
    have hn:(p.i * 5+1+p.perturb / 32) % 8≠j0:=by rw[h4,e,hz];lia
    rw[if_neg hn]
    exact⟨_,by rw[h5],hn,by lia⟩
   ·rw[if_neg e]
    exact⟨_,by rw[h5],e,h6⟩
 | k+1,fuel+1,p,h1,h2,h3,h4,h5,h6=>by
   rw[SetTable.probe.go,Ye0 hp hd]
   by_cases e:p.j=j0
   ·rw[if_pos e]
    dsimp only
    rw[hne,if_neg qh,Yj9 hm h3]
    refine Yr7 hm hp hd hj hne k fuel _ ?_ (by lia) rfl rfl h5 (by show _ % 8 < 8;lia)
    show p.perturb / 32 < 32 ^ k
    rw[Nat.div_lt_iff_lt_mul (by decide),<-Nat.pow_succ]
    exact h1
   ·rw[if_neg e]
    exact⟨_,by rw[h5],e,h6⟩
 | 0,0,_,_,h,_,_,_,_=>by lia
 | 0,1,_,_,h,_,_,_,_=>by lia
 | _+1,0,_,_,h,_,_,_,_=>by lia
theorem Yeo{t:SetTable}(hm:t.mask=7)(h:Int):t.probeStart h={ j:=SetTable.bits h % 8,more:=0,i:=SetTable.bits h % 8,perturb:=SetTable.bits h,dummy:=none }:=by
 unfold SetTable.probeStart
 rw[hm]
 have:SetTable.runEnd 7 (SetTable.bits h % (7+1)) - SetTable.bits h % (7+1)=0:=by
  unfold SetTable.runEnd
  split<;>lia
 dsimp only
 rw[this]
theorem Yoo{t:SetTable}(hm:t.mask=7)(hp:t.place=#[])(hd:t.dummies=#[])(hA:Nat->Int)(h:Int):t.probe hA h (t.probeStart h)=some (.empty (SetTable.bits h % 8) none):=by
 unfold SetTable.probe
 rw[hm,Yeo hm]
 show SetTable.probe.go t hA h (219+1) _=_
 rw[SetTable.probe.go,Yl4 hp hd]
theorem Yop{t:SetTable}{j0:Nat}(hm:t.mask=7)(hp:t.place=#[j0])(hd:t.dummies=#[])(hj:j0 < 8){hA:Nat->Int}{h:Int}(hne:(hA 0==h)=false):∃j,t.probe hA h (t.probeStart h)=some (.empty j none)/\j≠j0/\j < 8:=by
 unfold SetTable.probe
 rw[hm,Yeo hm]
 refine Yr7 hm hp hd hj hne 13 _ _ ?_ (by decide) rfl rfl rfl (by show _ % 8 < 8;lia)
 show SetTable.bits h < 32 ^ 13
 unfold SetTable.bits
 have:h % (2 ^ 64:Int) < 2 ^ 64:=Int.emod_lt_of_pos _ (by decide)
 have h2:0<=h % (2 ^ 64:Int):=Int.emod_nonneg _ (by decide)
 have:(h % (2 ^ 64:Int)).toNat < 2 ^ 64:=by lia
 exact qx this (by decide)
section
variable {prog:Program} {w:World} {A:Around} {E:Value->Shared->Prop} {s:Shared}
theorem Yqy{u:Addr}{o:Obj}{i:Int}{tk:Tok}{b:Bool}{n:Nat}{Q:Bool->Shared->Prop}(ho:s.heap.get? u=some o)(hc:o.cls=.type "tuple")(hd:o.data=.seq #[.int i tk,.bool b] n)(h:Q true s):wpAny (model prog w) A (hashByValue 8 (.ref u)) Q E s:=by
 have hT:s.TypeIs (.ref u) "tuple":=⟨o,ho,hc⟩
 unfold hashByValue
 refine wpAny_bind (wpAny_specialOf hT F.slot_tuple_hash.lookup ?_)
 dsimp only
 refine wpAny_bind (wpAny_seqItems ho hd ?_)
 show wpAny _ _ (forIn #[Value.int i tk,Value.bool b] _ _ >>= _) _ _ _
 simp[hashByValue]
 exact wpAny_pure h
def hAt(es:Array (Int × Value))(i:Nat):Int:=(es[i]?.map (·.1)).getD 0
theorem Yoq{S:Addr}{x:Value}{h:Int}{o:Obj}{es:Array (Int × Value)}{ep:Nat}{t:SetTable}{j:Nat}{Q:SetFound->Shared->Prop}(hS:s.heap.get? S=some o)(hd:o.data=.set es ep t)(hf:t.fits es.size=true)(hm:t.mask=7)
 (hpr:t.probe (hAt es) h (t.probeStart h)=some (.empty j none)) (hQ:Q (.free j false) s):wpAny (model prog w) A (setSearch S x h true) Q E s:=by
 show wpAny _ _ (setState S >>= _) _ _ _
 refine wpAny_bind (wpAny_setState_of hS hd hf ?_)
 dsimp only
 have hg:t.gaveWay=false:=by unfold SetTable.gaveWay;rw[hm];rfl
 rw[hg,if_neg qh]
 refine wpAny_bind (wpAny_pure ?_)
 have hpr':t.probe (fun i=>(es[i]?.map (·.1)).getD 0) h (t.probeStart h)=some (.empty j none):=hpr
 show wpAny _ _ (match t.probe (fun i=>(es[i]?.map (·.1)).getD 0) h (t.probeStart h)with | some met=>_ | _=>_) _ _ _
 rw[hpr']
 exact wpAny_pure hQ
theorem Ywz{S u:Addr}{h:Int}{o:Obj}{es:Array (Int × Value)}{ep:Nat}{t:SetTable}{j:Nat}{ou:Obj}{i:Int}{tk:Tok}{b:Bool}{n:Nat}{Q:Bool->Shared->Prop}(hS:s.heap.get? S=some o)(hd:o.data=.set es ep t)(hf:t.fits es.size=true)(hm:t.mask=7)(hdm:t.dummies=#[])(hsz:es.size<=1)
 (hpr:t.probe (hAt es) h (t.probeStart h)=some (.empty j none)) (ho:s.heap.get? u=some ou) (hc:ou.cls=.type "tuple") (hud:ou.data=.seq #[.int i tk,.bool b] n)
 (hQ:Q true { s with heap:=s.heap.update S (Obj.putSet (SetTable.insertAt es (SetTable.below t.place j) (h,.ref u)) { t with place:=SetTable.insertAt t.place (SetTable.below t.place j) j }) }) :
 wpAny (model prog w) A (setAddHashed S (.ref u) h) Q E s:=by
 unfold setAddHashed setAddHashedIn
 refine wpAny_holding (wpAny_bind (wpAny_setState_of hS hd hf ?_))
 dsimp only
 have hby:byScan (.ref u) es=false:=rfl
 rw[hby,if_neg qh]
 refine wpAny_bind (Yoq hS hd hf hm hpr ?_)
 dsimp only
 refine wpAny_bind (wpAny_setState_of hS hd hf ?_)
 dsimp only
 have hput:t.put j=({ t with place:=SetTable.insertAt t.place (SetTable.below t.place j) j },SetTable.below t.place j):=by
  unfold SetTable.put
  dsimp only
  rw[hdm]
  have:SetTable.has #[] j=false:=rfl
  rw[this,if_neg qh]
 rw[hput]
 dsimp only
 have hfull:({ t with place:=SetTable.insertAt t.place (SetTable.below t.place j) j }:SetTable).tooFull=false:=by
  have h1:t.place.size=es.size:=by
   simp only[SetTable.fits,Qb,beq_iff_eq]at hf
   exact hf.1
  have h2:(SetTable.insertAt t.place (SetTable.below t.place j) j).size<=2:=by
   rw[<-qi,Ya2]
   simp
   lia
  unfold SetTable.tooFull SetTable.fill
  rw[hm,hdm]
  simp
  lia
 have hsz':(SetTable.insertAt es (SetTable.below t.place j) (h,Value.ref u)).size<=sizeLine:=by
  rw[<-qi,Ya2,sizeLine_eq]
  simp
  lia
 cases hpl:t.plain with
 | true=>
   rw[if_pos rfl]
   refine wpAny_bind (Yqy ho hc hud ?_)
   rw[if_pos rfl]
   refine wpAny_bind (wpAny_storeSet_of hS hd ?_ hsz')
   rw[hpl]at hfull hQ
   rw[hfull]
   exact wpAny_pure hQ
 | false=>
   rw[if_neg qh]
   refine wpAny_bind (wpAny_pure ?_)
   rw[if_pos rfl]
   refine wpAny_bind (wpAny_storeSet_of hS hd ?_ hsz')
   rw[hpl]at hfull hQ
   rw[hfull]
   exact wpAny_pure hQ
def PairV(h:Heap)(u:Addr)(p:Int × Bool):Prop:=∃o tk n,h.get? u=some o/\o.cls=.type "tuple"/\o.data=.seq #[.int p.1 tk,.bool p.2] n
def pH(p:Int × Bool):Int:=Ys3 [p.1,if p.2 then 1 else 0]
theorem PairV.keep{h h':Heap}{u:Addr}{p:Int × Bool}(x:PairV h u p)(k:∀o,h.get? u=some o->h'.get? u=some o):PairV h' u p:=by
 obtain⟨o,tk,n,h1,r⟩:=x
 exact⟨o,tk,n,k o h1,r⟩
theorem PairV.key{h:Heap}{u:Addr}{p:Int × Bool}(x:PairV h u p):IsTupleKey (Yd1 prog w) h [p.1,if p.2 then 1 else 0] u:=by
 obtain⟨o,tk,n,h1,h2,h3⟩:=x
 refine⟨o,_,n,h1,h2,h3,?_⟩
 exact .cons (by simp[Yd1,Yhr]) (.cons (by simp[Yd1,Yhr]) .nil)
theorem Yk8{l I S u:Addr}{items:Array Value}{i:Nat}{p:Int × Bool}{R:Result->Shared->Prop}(hu:A.units+2 < cLine)(hit:s.heap.IsListIter I l i)(hl:s.heap.IsList l items)(hx:items[i]?=some (.ref u))(hp:PairV s.heap u p)(hIu:u≠I)
 (k:∀h1 tk,h1.IsListIter I l (i+1)->Heap.SameBut I s.heap h1->wpAny (model prog w) A.in1 (setAddHashed S (.ref u) (pH p)) (fun _ s'=>codeAny (model prog w) A (.builtin "set.update.loop" ⟨[.ref S,.ref I],[]⟩) R s') (fun e s'=>R (.error e) s') { s with heap:=h1,toks:=tk }) :
 codeAny (model prog w) A (.builtin "set.update.loop" ⟨[.ref S,.ref I],[]⟩) R s:=by
 refine codeAny_builtin F.entry_set_update_loop ?_
 rw[Around.under_plainId F.plain_set_update_loop _]
 show wpAny _ A.in1 (pyNext (.ref I) >>= _) _ _ s
 refine wpAny_bind (wpAny_pyNext_list_item hit hl hx fun h1 hi1 hs1=>?_)
 show wpAny _ A.in1 (holding [Value.ref u] (setAdd S (.ref u)) >>= _) _ _ _
 refine wpAny_bind (wpAny_holding ?_)
 unfold setAdd
 have hp1:PairV h1 u p:=hp.keep fun o e=>by rw[hs1.2 u hIu];exact e
 refine wpAny_holding (wpAny_bind (wpAny_pyHash_tuple (knd:=Yd1 prog w) (s:={ s with heap:=h1 }) (by show A.units+1 < cLine;lia) hp1.key ?_))
 refine wpAny_mono (k h1 _ hi1 hs1) (fun b s' hb=>?_) fun _ _ x=>x
 exact wpAny_pure ⟨plainId_quiet F.plain_set_update_loop _,hb⟩
theorem Yl5{l I S:Addr}{items:Array Value}{i:Nat}{R:Result->Shared->Prop}(hh:A.handled=none)(hit:s.heap.IsListIter I l i)(hl:s.heap.IsList l items)(hx:items[i]?=none)
 (k:∀h1,Heap.ExtBut I s.heap h1->R (.ok (.ret .none)) { s with heap:=h1 }) :
 codeAny (model prog w) A (.builtin "set.update.loop" ⟨[.ref S,.ref I],[]⟩) R s:=by
 refine codeAny_builtin F.entry_set_update_loop ?_
 rw[Around.under_plainId F.plain_set_update_loop _]
 show wpAny _ A.in1 (pyNext (.ref I) >>= _) _ _ s
 refine wpAny_bind (wpAny_pyNext_list_end (A:=A.in1) hh hit hl hx fun h1 hs1=>?_)
 show wpAny _ A.in1 (ret Value.none) _ _ _
 exact wpAny_pure (k h1 hs1)
def SetN(w:World)(h:Heap)(a:Addr)(n:Nat):Prop:=∃o es ep t,h.get? a=some o/\o.ExactSet/\o.data=.set es ep t/\es.size=n/\t.fits es.size=true
end
end
section
set_option maxRecDepth 100000
def vOf(e:Int × Value):Value:=e.2
def SetV(w:World)(h:Heap)(a:Addr)(vs:List Value):Prop:=
 ∃o es ep t,h.get? a=some o/\o.ExactSet/\o.data=.set es ep t/\es.toList.map vOf=vs/\es.size < scanBound/\t.fits es.size=true/\Tab (byT w) t
theorem SetV.at{w:World}{h h':Heap}{a:Addr}{ns:List Value}(x:SetV w h a ns)(e:∀o,h.get? a=some o->h'.get? a=some o):SetV w h' a ns:=
 let ⟨o,es,ep,t,ho,r⟩:=x
 ⟨o,es,ep,t,e o ho,r⟩
section
variable {prog:Program} {w:World} {A:Around} {E:Value->Shared->Prop} {s:Shared}
structure SetQ(w:World)(h:Heap)(a:Addr)(us:List (Int × Addr)):Prop where
 ex:∃o es ep t,h.get? a=some o/\o.ExactSet/\o.data=.set es ep t/\es.toList=us.map (fun u=>(u.1,Value.ref u.2))/\t.fits es.size=true/\t.mask=7/\t.dummies=#[]/\t.place.toList=us.map (fun u=>SetTable.bits u.1 % 8)/\Tab (byT w) t
theorem SetQ.keep{h h':Heap}{a:Addr}{us:List (Int × Addr)}(x:SetQ w h a us)(k:∀o,h.get? a=some o->h'.get? a=some o):SetQ w h' a us:=by
 obtain⟨o,es,ep,t,h1,r⟩:=x.ex
 exact⟨o,es,ep,t,k o h1,r⟩
theorem SetQ.vals{h:Heap}{a:Addr}{us:List (Int × Addr)}(x:SetQ w h a us)(hl:us.length<=1):SetV w h a (us.map fun u=>Value.ref u.2):=by
 obtain⟨o,es,ep,t,h1,h2,h3,h4,h5,h6,h7,h8,h9⟩:=x.ex
 refine⟨o,es,ep,t,h1,h2,h3,?_,?_,h5,h9⟩
 ·rw[h4,List.map_map]
  rfl
 ·rw[<-qi,h4,qe]
  have:scanBound=4096:=rfl
  lia
theorem Yg2{S u:Addr}{us:List (Int × Addr)}{p:Int × Bool}{Q:Bool->Shared->Prop}(hS:SetQ w s.heap S us)(hl:us.length<=1)(hp:PairV s.heap u p)(hne:∀q∈us,q.1≠pH p)
 (hQ:∀h' vs,Heap.SameBut S s.heap h'->SetV w h' S vs->vs.Perm ((us.map fun u=>Value.ref u.2)++[.ref u])->(us=[]->SetQ w h' S [(pH p,u)])->Q true { s with heap:=h' }):wpAny (model prog w) A (setAddHashed S (.ref u) (pH p)) Q E s:=by
 obtain⟨o,es,ep,t,h1,h2,h3,h4,h5,h6,h7,h8,h9⟩:=hS.ex
 obtain⟨ou,tk,n,u1,u2,u3⟩:=hp
 have hsz:es.size=us.length:=by rw[<-qi,h4,qe]
 have hpl:t.place.size=es.size:=by
  simp only[SetTable.fits,Qb,beq_iff_eq]at h5
  exact h5.1
 obtain⟨j,hpr,hj8,hfree,hjz⟩:∃j,t.probe (hAt es) (pH p) (t.probeStart (pH p))=some (.empty j none)/\j < 8/\(∀i,t.slot j≠.live i)/\(us=[]->j=SetTable.bits (pH p) % 8):=by
  generalize pH p=hp at hne ⊢
  rcases us with _ | ⟨q,_ | ⟨q2,r⟩⟩
  ·have hz:t.place=#[]:=Array.size_eq_zero_iff.mp (by rw[hpl,hsz];rfl)
   refine⟨_,Yoo h6 hz h7 _ _,by lia,fun i z=>?_,fun _=>rfl⟩
   rw[Yl4 hz h7]at z
   cases z
  ·have hz:t.place=#[SetTable.bits q.1 % 8]:=by
    apply Array.toList_inj.mp
    rw[h8]
    rfl
   have hes:es=#[(q.1,.ref q.2)]:=by
    apply Array.toList_inj.mp
    rw[h4]
    rfl
   have hq:=hne q qg
   obtain⟨j,k1,k2,k3⟩:=Yop h6 hz h7 (by lia) (hA:=hAt es) (h:=hp) (by
    rw[hes]
    simpa [hAt]using hq)
   refine⟨j,k1,k3,fun i z=>?_,fun z=>by cases z⟩
   rw[Ye0 hz h7,if_neg k2]at z
   cases z
  ·simp at hl
 refine Ywz h1 h3 h5 h6 h7 (by lia) hpr u1 u2 u3 ?_
 have hg:=Yk1 h1 h3 (SetTable.insertAt es (SetTable.below t.place j) (pH p,.ref u)) { t with place:=SetTable.insertAt t.place (SetTable.below t.place j) j }
 have e1:(SetTable.insertAt es (SetTable.below t.place j) (pH p,Value.ref u)).size=us.length+1:=by
  rw[<-qi,Ya2]
  simp
  lia
 have e2:(SetTable.insertAt t.place (SetTable.below t.place j) j).size=us.length+1:=by
  rw[<-qi,Ya2]
  simp
  lia
 have hfit:({ t with place:=SetTable.insertAt t.place (SetTable.below t.place j) j }:SetTable).fits (us.length+1)=true:=by
  unfold SetTable.fits SetTable.fill
  simp only[e2,h6,h7,Qb,beq_iff_eq,decide_eq_true_eq]
  exact⟨trivial,by simp;lia⟩
 have htab:Tab (byT w) { t with place:=SetTable.insertAt t.place (SetTable.below t.place j) j }:=⟨h9.1,fun z=>Ygs (h9.2 z) j (Yj0 hfree)⟩
 have hsb:scanBound=4096:=rfl
 refine hQ _ _ (Heap.SameBut.update ..) ⟨_,_,_,_,hg,⟨h2.1,h2.2.1,h2.2.2⟩,rfl,rfl,by rw[e1];lia,by rw[e1];exact hfit,htab⟩ ?_ fun hz=>?_
 ·have hpm:(es.toList.map vOf).Perm (us.map fun u=>Value.ref u.2):=by
   rw[h4,List.map_map]
   exact .refl _
  have hins:((SetTable.insertAt es (SetTable.below t.place j) (pH p,Value.ref u)).toList).Perm (es.toList++[(pH p,Value.ref u)]):=by
   rw[Ya2]
   refine List.perm_middle.trans ?_
   rw[List.take_append_drop]
   exact List.perm_append_comm (l₁:=[_])
  have:=hins.map vOf
  rw[List.map_append]at this
  exact this.trans (hpm.append_right _)
 ·subst hz
  have hz:t.place=#[]:=Array.size_eq_zero_iff.mp (by rw[hpl,hsz];rfl)
  have hes:es=#[]:=Array.size_eq_zero_iff.mp (by rw[hsz];rfl)
  refine⟨_,_,_,_,hg,⟨h2.1,h2.2.1,h2.2.2⟩,rfl,?_,by rw[e1];exact hfit,h6,h7,?_,htab⟩
  ·rw[Ya2,hes]
   simp
  ·show(SetTable.insertAt t.place (SetTable.below t.place j) j).toList=_
   rw[Ya2,hz,hjz rfl]
   simp
theorem Yl6{u:Addr}{p:Int × Bool}{Q:Bool->Shared->Prop}(hp:PairV s.heap u p)(h:Q false s):wpAny (model prog w) A (ofAClassStatement 8 (.ref u)) Q E s:=by
 obtain⟨o,tk,n,h1,h2,h3⟩:=hp
 have hT:s.TypeIs (.ref u) "tuple":=⟨o,h1,h2⟩
 unfold ofAClassStatement
 refine wpAny_bind (wpAny_typeOf hT ?_)
 dsimp only
 rw[if_pos (by decide)]
 refine wpAny_bind (wpAny_pure ?_)
 simp only[Bool.not_true,Bool.false_eq_true,if_false]
 refine wpAny_bind (wpAny_seqItems h1 h3 ?_)
 simp[ofAClassStatement]
 exact wpAny_pure h
theorem Yor{u v:Addr}{p q:Int × Bool}{Q:Bool->Shared->Prop}(hu:PairV s.heap u p)(hv:PairV s.heap v q)(h:Q false s):wpAny (model prog w) A (searchCouldBeSeen (.ref u) [.ref v]) Q E s:=by
 unfold searchCouldBeSeen
 simp[carriedByValue]
 by_cases e:u=v
 ·rw[if_pos e]
  exact wpAny_bind (wpAny_pure (wpAny_bind (wpAny_pure (wpAny_pure h))))
 ·rw[if_neg e]
  refine wpAny_bind (wpAny_bind (wpAny_eqIsQuiet_tuple (knd:=Yd1 prog w) hu.key ?_))
  rw[if_neg (by decide)]
  refine wpAny_bind (wpAny_eqIsQuiet_tuple (knd:=Yd1 prog w) hv.key ?_)
  rw[if_neg (by decide)]
  refine wpAny_bind (Yl6 hu ?_)
  rw[if_neg (by decide)]
  refine wpAny_bind (Yl6 hv ?_)
  rw[if_neg (by decide)]
  exact wpAny_pure (wpAny_bind (wpAny_pure (wpAny_pure h)))
theorem Ym1{t:SetTable}{h:Int}(hm:t.mask=7)(hp:t.place=#[SetTable.bits h % 8])(hd:t.dummies=#[]){hA:Nat->Int}(he:hA 0=h):∃nx,t.probe hA h (t.probeStart h)=some (.candidate (SetTable.bits h % 8) 0 nx):=by
 unfold SetTable.probe
 rw[hm,Yeo hm]
 show ∃nx,SetTable.probe.go t hA h (219+1) _=_
 rw[SetTable.probe.go,Ye0 hp hd,if_pos rfl]
 dsimp only
 rw[he,if_pos (by simp)]
 exact⟨_,rfl⟩
theorem Yk9{S u v:Addr}{p:Int × Bool}{h:Int}{o:Obj}{es:Array (Int × Value)}{ep:Nat}{t:SetTable}{nx:SetTable.Probe}{j:Nat}{Q:SetFound->Shared->Prop}(fuel:Nat)(hu:A.units < cLine)(hS:s.heap.get? S=some o)(hd:o.data=.set es ep t)(hf:t.fits es.size=true)(hm:t.mask=7)(hes:es=#[(h,.ref v)])
 (hpr:t.probe (fun i=>(es[i]?.map (·.1)).getD 0) h (t.probeStart h)=some (.candidate j 0 nx)) (hv:PairV s.heap v p) (hp:PairV s.heap u p) (hQ:Q (.there none) s):wpAny (model prog w) A (setSearchFrom S (.ref u) h true (fuel+1) none) Q E s:=by
 show wpAny _ _ (setState S >>= _) _ _ _
 refine wpAny_bind (wpAny_setState_of hS hd hf ?_)
 dsimp only
 have hg:t.gaveWay=false:=by unfold SetTable.gaveWay;rw[hm];rfl
 rw[hg,if_neg qh]
 refine wpAny_bind (wpAny_pure ?_)
 show wpAny _ _ (match t.probe (fun i=>(es[i]?.map (·.1)).getD 0) h (t.probeStart h)with | some met=>_ | _=>_) _ _ _
 rw[hpr]
 dsimp only
 have hfl:((es.filter (·.1==h)).toList.map (·.2))=[Value.ref v]:=by
  rw[hes]
  simp
 have hes0:es[0]?=some (h,.ref v):=by rw[hes];rfl
 rw[hfl,hes0]
 cases t.led with
 | true=>
   rw[if_neg (by decide)]
   dsimp only
   refine wpAny_bind (wpAny_holding (wpAny_eqBool_tuple (knd:=Yd1 prog w) hu hv.key hp.key ?_))
   rw[decide_eq_true rfl]
   refine wpAny_bind (wpAny_setState_of hS hd hf ?_)
   dsimp only
   rw[if_pos (by rfl)]
   exact wpAny_pure hQ
 | false=>
   rw[if_pos (by decide)]
   refine wpAny_bind (Yor hp hv ?_)
   rw[if_neg (by decide)]
   dsimp only
   refine wpAny_bind (wpAny_holding (wpAny_eqBool_tuple (knd:=Yd1 prog w) hu hv.key hp.key ?_))
   rw[decide_eq_true rfl]
   refine wpAny_bind (wpAny_setState_of hS hd hf ?_)
   dsimp only
   rw[if_pos (by rfl)]
   exact wpAny_pure hQ
theorem Yos{S u:Addr}{h:Int}{o:Obj}{es:Array (Int × Value)}{ep:Nat}{t:SetTable}{Q:Bool->Shared->Prop}(hS:s.heap.get? S=some o)(hd:o.data=.set es ep t)(hf:t.fits es.size=true)
 (hsr:∀Q':SetFound->Shared->Prop,Q' (.there none) s->wpAny (model prog w) A (setSearch S (.ref u) h true) Q' E s) (hQ:Q false s):wpAny (model prog w) A (setAddHashed S (.ref u) h) Q E s:=by
 unfold setAddHashed setAddHashedIn
 refine wpAny_holding (wpAny_bind (wpAny_setState_of hS hd hf ?_))
 dsimp only
 have hby:byScan (.ref u) es=false:=rfl
 rw[hby,if_neg qh]
 refine wpAny_bind (hsr _ ?_)
 exact wpAny_pure hQ
theorem Yqz{S u v:Addr}{p:Int × Bool}{hh:Int}{Q:Bool->Shared->Prop}(hu:A.units < cLine)(hS:SetQ w s.heap S [(hh,v)])(hv:PairV s.heap v p)(hp:PairV s.heap u p)(hQ:Q false s):wpAny (model prog w) A (setAddHashed S (.ref u) hh) Q E s:=by
 obtain⟨o,es,ep,t,h1,h2,h3,h4,h5,h6,h7,h8,h9⟩:=hS.ex
 have hes:es=#[(hh,.ref v)]:=by
  apply Array.toList_inj.mp
  rw[h4]
  rfl
 have hz:t.place=#[SetTable.bits hh % 8]:=by
  apply Array.toList_inj.mp
  rw[h8]
  rfl
 obtain⟨nx,hpr⟩:=Ym1 (h:=hh) h6 hz h7 (hA:=fun i=>(es[i]?.map (·.1)).getD 0) (by rw[hes];rfl)
 refine Yos h1 h3 h5 (fun Q' q=>?_) hQ
 have h100:(100000:Nat)=99999+1:=rfl
 unfold setSearch
 rw[h100]
 generalize (99999:Nat)=fuel
 exact Yk9 fuel hu h1 h3 h5 h6 hes hpr hv hp q
def oncE:List Addr->List (Int × Bool)->List Addr
 | [u1,u2],[p1,p2]=>if p1=p2 then [u1]else [u1,u2]
 | us,_=>us
theorem Yot{l I S:Addr}{us:List Addr}{ps:List (Int × Bool)}{R:Result->Shared->Prop}(hh:A.handled=none)(hu:A.units+2 < cLine)(hit:s.heap.IsListIter I l 0)(hl:s.heap.IsList l (us.map Value.ref).toArray)(h2:us.length<=2)(hps:ps.length=us.length)
 (hp:∀(i:Nat) u p,us[i]?=some u->ps[i]?=some p->PairV s.heap u p) (hd:∀p q,ps=[p,q]->p=q\/pH p≠pH q) (hS:SetQ w s.heap S []) (hIl:l≠I) (hIS:S≠I) (hlS:l≠S) (hIu:∀u∈us,u≠I) (hSu:∀u∈us,u≠S)
 (hR:∀h' tk vs,SetV w h' S vs->vs.Perm ((oncE us ps).map Value.ref)->(∀b o,b≠S->b≠I->s.heap.get? b=some o->h'.get? b=some o)->R (.ok (.ret .none)) { s with heap:=h',toks:=tk }) :
 codeAny (model prog w) A (.builtin "set.update.loop" ⟨[.ref S,.ref I],[]⟩) R s:=by
 have lk:∀{h h':Heap} {its:Array Value},h.IsList l its->(∀o,h.get? l=some o->h'.get? l=some o)->h'.IsList l its:=fun x k=>let ⟨o,e,r⟩:=x;⟨o,k o e,r⟩
 have ik:∀{h h':Heap} {i:Nat},h.IsListIter I l i->(∀o,h.get? I=some o->h'.get? I=some o)->h'.IsListIter I l i:=fun x k=>let ⟨o,e,r⟩:=x;⟨o,k o e,r⟩
 rcases us with _ | ⟨u1,_ | ⟨u2,_ | ⟨u3,ur⟩⟩⟩
 ·refine Yl5 hh hit hl rfl fun h1 hs1=>?_
  exact hR h1 s.toks _ ((hS.keep fun o e=>hs1 S o hIS e).vals (by simp)) (.refl _) fun b o _ hb e=>hs1 b o hb e
 ·rcases ps with _ | ⟨p1,_ | ⟨p2,pr⟩⟩
  ·simp at hps
  ·have hu1:=hp 0 u1 p1 rfl rfl
   refine Yk8 hu hit hl rfl hu1 (hIu u1 (by simp)) fun h1 tk1 hi1 hs1=>?_
   refine Yg2 (s:={ s with heap:=h1,toks:=tk1 }) (hS.keep fun o e=>by rw[hs1.2 S hIS];exact e) (by simp) (hu1.keep fun o e=>by rw[hs1.2 u1 (hIu u1 (by simp))];exact e) (by simp) fun h2' vs2 hs2 hn2 hp2 ho2=>?_
   refine Yl5 hh (ik hi1 fun o e=>by rw[hs2.2 I (Ne.symm hIS)];exact e) (lk hl fun o e=>by rw[hs2.2 l hlS,hs1.2 l hIl];exact e) rfl fun h3 hs3=>?_
   refine hR h3 tk1 _ (((ho2 rfl).keep fun o e=>hs3 S o hIS e).vals (by simp)) (.refl _) fun b o hb1 hb2 e=>hs3 b o hb2 (by rw[hs2.2 b hb1,hs1.2 b hb2];exact e)
  ·simp at hps
 ·rcases ps with _ | ⟨p1,_ | ⟨p2,_ | ⟨p3,pr⟩⟩⟩
  ·simp at hps
  ·simp at hps
  ·have hu1:=hp 0 u1 p1 rfl rfl
   have hu2:=hp 1 u2 p2 rfl rfl
   have n1:=hIu u1 (by simp)
   have n2:=hIu u2 (by simp)
   have m2:=hSu u2 (by simp)
   refine Yk8 hu hit hl rfl hu1 n1 fun h1 tk1 hi1 hs1=>?_
   refine Yg2 (s:={ s with heap:=h1,toks:=tk1 }) (hS.keep fun o e=>by rw[hs1.2 S hIS];exact e) (by simp) (hu1.keep fun o e=>by rw[hs1.2 u1 n1];exact e) (by simp) fun h2' vs2 hs2 hn2 hp2 ho2=>?_
   have k2:∀b o,b≠S->b≠I->s.heap.get? b=some o->h2'.get? b=some o:=fun b o hb1 hb2 e=>by rw[hs2.2 b hb1,hs1.2 b hb2];exact e
   refine Yk8 (s:={ s with heap:=h2',toks:=tk1 }) hu (ik hi1 fun o e=>by rw[hs2.2 I (Ne.symm hIS)];exact e) (lk hl fun o e=>k2 l o hlS hIl e) rfl (hu2.keep fun o e=>k2 u2 o m2 n2 e) n2 fun h3 tk3 hi3 hs3=>?_
   have k3:∀b o,b≠S->b≠I->s.heap.get? b=some o->h3.get? b=some o:=fun b o hb1 hb2 e=>by rw[hs3.2 b hb2];exact k2 b o hb1 hb2 e
   by_cases hpq:p1=p2
   ·subst hpq
    refine Yqz (s:={ s with heap:=h3,toks:=tk3 }) (v:=u1) (p:=p1) (by show _+1 < cLine;lia) ((ho2 rfl).keep fun o e=>by rw[hs3.2 S hIS];exact e) (hu1.keep fun o e=>k3 u1 o (hSu u1 (by simp)) n1 e) (hu2.keep fun o e=>k3 u2 o m2 n2 e) ?_
    refine Yl5 (s:={ s with heap:=h3,toks:=tk3 }) hh hi3 (lk hl fun o e=>k3 l o hlS hIl e) rfl fun h5 hs5=>?_
    refine hR h5 tk3 _ (((ho2 rfl).keep fun o e=>hs5 S o hIS (by rw[hs3.2 S hIS];exact e)).vals (by simp)) ?_ fun b o hb1 hb2 e=>hs5 b o hb2 (k3 b o hb1 hb2 e)
    rw[oncE,if_pos rfl]
    exact .refl _
   ·have hdp:pH p1≠pH p2:=by
     rcases hd p1 p2 rfl with z | z
     ·exact absurd z hpq
     ·exact z
    refine Yg2 (s:={ s with heap:=h3,toks:=tk3 }) ((ho2 rfl).keep fun o e=>by rw[hs3.2 S hIS];exact e) (by simp) (hu2.keep fun o e=>k3 u2 o m2 n2 e) (fun q hq=>?_) fun h4 vs4 hs4 hn4 hp4 _=>?_
    ·simp only[List.mem_singleton]at hq
     rw[hq]
     exact hdp
    ·refine Yl5 (s:={ s with heap:=h4,toks:=tk3 }) hh (ik hi3 fun o e=>by rw[hs4.2 I (Ne.symm hIS)];exact e) (lk hl fun o e=>by rw[hs4.2 l hlS];exact k3 l o hlS hIl e) rfl fun h5 hs5=>?_
     refine hR h5 tk3 vs4 (hn4.at fun o e=>hs5 S o hIS e) ?_ fun b o hb1 hb2 e=>hs5 b o hb2 (by rw[hs4.2 b hb1];exact k3 b o hb1 hb2 e)
     rw[oncE,if_neg hpq]
     exact hp4
  ·simp at hps
 ·simp at h2
theorem Yg3{l:Addr}{us:List Addr}{ps:List (Int × Bool)}{Q:Value->Shared->Prop}(hh:A.handled=none)(hu:A.units+8 < cLine)(hl:s.heap.IsList l (us.map Value.ref).toArray)(h2:us.length<=2)(hps:ps.length=us.length)
 (hp:∀(i:Nat) u p,us[i]?=some u->ps[i]?=some p->PairV s.heap u p) (hd:∀p q,ps=[p,q]->p=q\/pH p≠pH q)
 (h:∀(h':Heap) (tk:Nat) vs,SetV w h' s.heap.objs.size vs->vs.Perm ((oncE us ps).map Value.ref)->(∀b o,s.heap.get? b=some o->h'.get? b=some o)->Q (.ref s.heap.objs.size) { s with heap:=h',toks:=tk }) :
 wpAny (model prog w) A (call (.type "set") [.ref l]) Q E s:=by
 refine Ydu (Q₁:=fun obj s₁=>obj=.ref s.heap.objs.size/\s₁={ s with heap:=s.heap.push (emS w) }) F.called_set (F.typeCall_set_1 _) F.entry_set_init (Yj2 _ ⟨rfl,rfl⟩) ?_
 rintro obj s₁ ⟨rfl,rfl⟩
 have hS:(s.heap.push (emS w)).get? s.heap.objs.size=some (emS w):=qo _ rfl
 have hT:Shared.TypeIs { s with heap:=s.heap.push (emS w) } (.ref s.heap.objs.size) "set":=⟨_,hS,rfl⟩
 refine⟨hT,fun A' E' Q' hq=>check_set_init_1 hT hq,?_⟩
 have hul:∀u∈us,u < s.heap.objs.size:=fun u hm=>by
  obtain⟨i,hi,e⟩:=List.getElem_of_mem hm
  have hi':i < ps.length:=by lia
  obtain⟨o,_,_,ho,_⟩:=hp i u ps[i] (by rw[qp hi,e]) (qp hi')
  exact qk ho
 generalize hits:(us.map Value.ref).toArray=items at hl
 obtain⟨ol,hol,hcl,nl,hdl⟩:=hl
 obtain⟨ocls,odict,odata,oslots⟩:=ol
 simp only at hcl hdl
 subst hcl;subst hdl
 have hol':(s.heap.push (emS w)).get? l=some { cls:=.type "list",dict:=odict,data:=.seq items nl,slots:=oslots }:=qd _ hol
 have hsls:=F.sub_list_set
 have hslf:=F.sub_list_frozenset
 have hne:(Value.type "list"==Value.type "dict")=false:=by decide
 have hl1:(s.heap.push (emS w)).IsList l items:=⟨_,hol',rfl,nl,rfl⟩
 unfold Builtin.«set.__init__» noKeywords Builtin.Frozenset.updateFrom
 generalize hPI:pyIter=PI
 wp_walk
 subst hPI
 refine wpAny_pyIter_list hl1 ?_
 refine wpAny_bind (wpAny_runValue ?_)
 have hlS:l < s.heap.objs.size:=qk hol
 have hsz:(s.heap.push (emS w)).objs.size=s.heap.objs.size+1:=Heap.size_push ..
 have hol2:((s.heap.push (emS w)).push { cls:=.type "list_iterator",data:=.fields #[.ref l,.int 0 0] }).IsList l items:=hl1.push _
 rw[<-hits]at hol2
 refine Yot (us:=us) (ps:=ps) (by simp[hh]) (by show _+2 < cLine;simp;lia) ⟨_,qo _ rfl,rfl,rfl⟩ hol2 h2 hps (fun i u p hi hp'=>(hp i u p hi hp').keep fun o e=>qd _ (qd _ e)) hd ?_ ?_ ?_ ?_ ?_ ?_ ?_
 ·exact⟨emS w,#[],0,_,qd _ hS,⟨rfl,rfl,rfl⟩,rfl,rfl,rfl,rfl,rfl,rfl,.fresh⟩
 ·rw[hsz];exact ql (qv hlS)
 ·rw[hsz];exact ql (Nat.lt_succ_self _)
 ·exact ql hlS
 ·intro u hm;rw[hsz];exact ql (qv (hul u hm))
 ·intro u hm;exact ql (hul u hm)
 ·intro h' tk vs hN hpm old
  show wpAny _ _ _ _ _ _
  refine wpAny_pure ?_
  show wpAny _ _ (ret Value.none) _ _ _
  refine wpAny_pure ⟨rfl,h h' tk vs hN hpm fun b o e=>?_⟩
  have hb:=qk e
  exact old b o (ql hb) (by rw[hsz];exact ql (qv hb)) (qd _ (qd _ e))
end
end
section
set_option maxRecDepth 100000
section
variable {prog:Program} {w:World} {A:Around} {E:Value->Shared->Prop} {s:Shared}
theorem Yq0:∀{us:List Addr} {ps:List (Int × Bool)},(∀p q,ps=[p,q]->pH p≠pH q)->(oncE us ps).length=us.length:=by
 intro us ps hd
 unfold oncE
 split
 ·rw[if_neg fun e=>hd _ _ rfl (by rw[e])]
 ·rfl
theorem Yek{l:Addr}{us:List Addr}{ps:List (Int × Bool)}{n:Nat}{Q:Value->Shared->Prop}(hh:A.handled=none)(hu:A.units+8 < cLine)(hl:s.heap.IsList l (us.map Value.ref).toArray)(h2:us.length<=2)(hps:ps.length=us.length)
 (hp:∀(i:Nat) u p,us[i]?=some u->ps[i]?=some p->PairV s.heap u p) (hd:∀p q,ps=[p,q]->p=q\/pH p≠pH q) (hn:(oncE us ps).length=n)
 (h:∀(h':Heap) (tk:Nat),SetN w h' s.heap.objs.size n->(∀b o,s.heap.get? b=some o->h'.get? b=some o)->Q (.ref s.heap.objs.size) { s with heap:=h',toks:=tk }) :
 wpAny (model prog w) A (call (.type "set") [.ref l]) Q E s:=by
 refine Yg3 hh hu hl h2 hps hp hd fun h' tk vs hS hpm hk=>h h' tk ?_ hk
 obtain⟨o,es,ep,t,h1,hx,h3,hvs,hb,hf,_⟩:=hS
 refine⟨o,es,ep,t,h1,hx,h3,?_,hf⟩
 have e1:es.size=vs.length:=by rw[<-hvs,qe,qi]
 rw[e1,hpm.length_eq,qe,hn]
end
def setC(w:World)(p:Addr)(n:Nat):HO:=.ext fun h=>SetN w h p n
theorem Yla{P:Program}{w:World}{H:Hp}{h:Heap}{p:Addr}{n:Nat}(x:SetN w h p n):ObjOk P w H h p (setC w p n):=by
 refine⟨x,?_,fun h1 h2 e k=>?_⟩
 ·obtain⟨o,_,_,_,ho,_⟩:=x
  exact⟨o,ho⟩
 ·obtain⟨o,es,ep,t,ho,r⟩:=e
  exact⟨o,es,ep,t,k o ho,r⟩
theorem SetI.count{P:Program}{w:World}{h:Heap}{a:Addr}{ns:List Int}(x:SetI P w h a ns):SetN w h a ns.length:=by
 obtain⟨o,es,ep,t,h1,h2,h3,h4,h5,h6,h7,h8,h9⟩:=x
 exact⟨o,es,ep,t,h1,h2,h3,by rw[<-h5,qe,qi],h8⟩
def VPrs(H:Hp):List V->List (Int × Bool)->Prop
 | [],[]=>True
 | x::xs,q::qs=>(∃b,x=.ref b/\H b=some (.tup [.int q.1,.bl q.2]))/\VPrs H xs qs
 | _,_=>False
def Yhs:List (Int × Bool)->Bool
 | [p,q]=>decide (pH p≠pH q)
 | l=>decide (l.length<=2)
def You:List (Int × Bool)->Bool
 | [p,q]=>decide (p=q)
 | _=>false
theorem Ym2{l:List (Int × Bool)}(h:You l=true):∃p,l=[p,p]:=by
 rcases l with _ | ⟨p1,_ | ⟨p2,_ | ⟨p3,r⟩⟩⟩
 ·cases h
 ·cases h
 ·exact⟨p1,by rw[of_decide_eq_true h]⟩
 ·cases h
def Yyk(K:W.Frag)(w:World):List V->Hp->VK->Prop:=fun xs H Q=>∃a ys n,xs=[.ref a]/\SqL K H a ys/\((∃ns:List Int,ys=ns.map V.int/\ns.length < 4000/\n=(ddup [] ns).length)\/(∃qs,VPrs H ys qs/\((Yhs qs=true/\n=qs.length)\/(You qs=true/\n=1))))/\∀p,H p=none->Q (.ref p) (upd H p (setC w p n))
section
variable {X:Cx}
theorem Yov{pins:List (Addr × Obj)}{s:Shared}{σ:L2.St}{H:Hp}(I:Inv X pins σ H s):∀{ys:List V} {its:List Value} {qs:List (Int × Bool)},VPrs H ys qs->Vals ys its->∃us:List Addr,its=us.map Value.ref/\us.length=qs.length/\∀(i:Nat) u p,us[i]?=some u->qs[i]?=some p->PairV s.heap u p
 | [],its,[],_,r=>by
   cases r
   exact⟨[],rfl,rfl,fun i u p h=>by simp at h⟩
 | y::ys,its,q::qs,h,r=>by
   obtain⟨⟨b,rfl,hb⟩,h⟩:=h
   cases r with
   | cons r1 r2=>
     cases r1
     obtain⟨us,h1,h2,h3⟩:=Yov I h r2
     obtain⟨its2,rv,⟨o,e,hc,n,hd⟩,_⟩:=I.tuple (xs:=[.int q.1,.bl q.2]) (.of hb)
     cases rv with
     | cons ra rb=>
       cases rb with
       | cons rc rd=>
         cases rd
         obtain⟨t,rfl⟩:=ra
         cases rc
         refine⟨b::us,by rw[h1];rfl,by simp[h2],fun i u p hi hp=>?_⟩
         cases i with
         | zero=>
           simp at hi hp
           subst hi hp
           exact⟨o,t,n,e,hc,hd⟩
         | succ i=>exact h3 i u p (by simpa using hi) (by simpa using hp)
 | [],_,_::_,h,_=>h.elim
 | _::_,_,[],h,_=>h.elim
theorem Yow(hc:X.calm=true)(hu:X.A.units+64 < cLine):Yb6 X (.type "set") (Yyk X.K X.w):=by
 intro pins s σ H xs us Q I r h
 obtain⟨a,ys,n,rfl,hq,hn,q⟩:=h
 obtain⟨u,rfl,rx⟩:=Yhn r
 cases rx
 have hh:X.A.handled=none:=I.ok.hd hc
 have hsb:scanBound=4096:=rfl
 obtain⟨its,rv,pl,hz⟩:=I.list hq
 rcases hn with⟨ns,rfl,hl,rfl⟩ | ⟨qs,hv,hd⟩
 ·have hlen:=rv.length
  rw[qe]at hlen
  refine Yip hh pl.isList (by simpa using Yom rv) (by rw[qj,hsb];lia) fun h' tk ms hS hp hk=>?_
  exact⟨.ref s.heap.objs.size,_,I.laid (t':=tk) (fun b o e=>hk b o (qk e) e) (qt _) (Yla (by rw[<-hp.length_eq];exact hS.count)),rfl,q _ (I.hok.fresh (qt _))⟩
 ·obtain⟨bs,e1,e2,e3⟩:=Yov I hv rv
  have hls:s.heap.IsList a (bs.map Value.ref).toArray:=by rw[<-e1];exact pl.isList
  rcases hd with⟨hd,rfl⟩ | ⟨hd,rfl⟩
  ·have hl2:qs.length<=2:=by
    rcases qs with _ | ⟨p1,_ | ⟨p2,_ | ⟨p3,r⟩⟩⟩
    ·simp
    ·simp
    ·simp
    ·simp[Yhs]at hd
   have hdf:∀p q,qs=[p,q]->pH p≠pH q:=fun p q e=>by
    subst e
    simpa [Yhs]using hd
   refine Yek hh (by lia) hls (by lia) e2.symm e3 (fun p q e=>.inr (hdf p q e)) (Yq0 hdf) fun h' tk hS hk=>?_
   exact⟨.ref s.heap.objs.size,_,I.laid (t':=tk) hk (qt _) (Yla (by rw[<-e2];exact hS)),rfl,q _ (I.hok.fresh (qt _))⟩
  ·obtain⟨p,rfl⟩:=Ym2 hd
   obtain⟨u1,u2,rfl⟩:∃u1 u2,bs=[u1,u2]:=by
    rcases bs with _ | ⟨u1,_ | ⟨u2,_ | ⟨u3,r⟩⟩⟩
    ·simp at e2
    ·simp at e2
    ·exact⟨u1,u2,rfl⟩
    ·simp at e2
   refine Yek hh (by lia) hls (qt _) e2.symm e3 (fun p q e=>.inl (by cases e;rfl)) (by rw[oncE,if_pos rfl]) fun h' tk hS hk=>?_
   exact⟨.ref s.heap.objs.size,_,I.laid (t':=tk) hk (qt _) (Yla hS),rfl,q _ (I.hok.fresh (qt _))⟩
def Yyl(w:World):List V->Hp->VK->Prop:=fun xs H Q=>∃a n,xs=[.ref a]/\H a=some (setC w a n)/\n < 4000/\Q (.int n) H
theorem Yox:Yb6 X (.builtin "len") (Yyl X.w):=by
 intro pins s σ H xs us Q I r h
 obtain⟨a,n,rfl,ha,hn,q⟩:=h
 obtain⟨u,rfl,rx⟩:=Yhn r
 cases rx
 obtain⟨o,es,ep,t,h1,h2,h3,h4,h5⟩:SetN X.w s.heap a n:=(show ObjOk X.prog X.w H s.heap a (setC X.w a n) from I.hok a _ ha).1
 refine call_len_set h1 h2 h3 h5 (by rw[h4];lia) ?_
 exact⟨.int n,H,I.tok _,⟨_,by rw[h4]⟩,q⟩
end
def prsD:List D->Option (List (Int × Bool))
 | []=>some []
 | d::l=>(prI d).bind fun x=>(prsD l).map (x::·)
theorem Yw0{K:W.Frag}{G:Hp}{d:D}{p:Int × Bool}{x:V}(h:prI d=some p)(rx:Rp K G d x):∃b,x=.ref b/\G b=some (.tup [.int p.1,.bl p.2]):=by
 rw[Yiv h,Rp]at rx
 obtain⟨b,ys,rfl,hb,ry⟩:=rx
 rw[RpL]at ry
 obtain⟨y1,yr,rfl,r1,ry⟩:=ry
 rw[RpL]at ry
 obtain⟨y2,yr,rfl,r2,ry⟩:=ry
 rw[RpL]at ry
 subst ry
 rw[Rp]at r1
 rw[Rp]at r2
 subst r1
 subst r2
 exact⟨b,rfl,hb⟩
theorem Yoy{d:D}{l:List D}{ps:List (Int × Bool)}(e:prsD (d::l)=some ps):∃p ps',ps=p::ps'/\prI d=some p/\prsD l=some ps':=by
 obtain⟨x,h1,h2⟩:=qa e
 obtain⟨y,h3,h4⟩:=qb h2
 exact⟨x,y,h4.symm,h1,h3⟩
def Ybu(l:List D):Option D:=match Yco l with
 | some ns=>if ns.length < 4000 then some (.int (ddup [] ns).length)else none
 | none=>(prsD l).bind fun ps=>if Yhs ps=true then some (.int ps.length)else if You ps=true then some (.int 1)else none
def Yd2:List D->Option D
 | [.lst l]=>Ybu l
 | _=>none
theorem Yoz{K:W.Frag}{G H:Hp}(s:Same G H):∀{l:List D} {ps:List (Int × Bool)} {xs:List V},prsD l=some ps->RpL K G l xs->VPrs H xs ps
 | [],ps,xs,e,r=>by
   rw[prsD]at e
   cases e
   rw[RpL]at r
   subst r
   exact trivial
 | d::l,ps,xs,e,r=>by
   obtain⟨p,ps',rfl,h0,h1⟩:=Yoy e
   rw[RpL]at r
   obtain⟨x,xr,rfl,rx,rr⟩:=r
   obtain⟨b,rfl,hb⟩:=Yw0 h0 rx
   exact⟨⟨b,rfl,s _ _ hb⟩,Yoz s h1 rr⟩
theorem Yl7:∀(l acc:List Int),(ddup acc l).length<=acc.length+l.length
 | [],acc=>by simp[ddup]
 | k::l,acc=>by
   rw[ddup]
   have:=Yl7 l (if k∈acc then acc else acc++[k])
   split at this
   ·rename_i h;rw[if_pos h];simp;lia
   ·rename_i h;rw[if_neg h];simp at this ⊢;lia
section
variable {X:Cx} {e:Expr} {ga:Ro->Option (List D)} {p p2 pos pos2:Pos}
theorem Yo0(hc:X.calm=true)(hu:X.A.units+64 < cLine)(hm:X.mg "len"=none)(hm2:X.mg "set"=none)(hg:Gl X "len")(hg2:Gl X "set")(ha:MCA X [e] ga)(hs:starEach [e] X.env=[(false,eval e X.env)]:=by rfl)
 (he:starEach [.Call (.Name "set" p2) [e] [] pos2] X.env=[(false,eval (.Call (.Name "set" p2) [e] [] pos2) X.env)]:=by rfl)
 (hpl:(backTo pos2 (starEach [] X.env)).any (·.1)=false:=by rfl) (hpl2:(backTo pos (starEach [] X.env)).any (·.1)=false:=by rfl) :
 ME X (.Call (.Name "len" p) [.Call (.Name "set" p2) [e] [] pos2] [] pos) (cC ga Yd2):=
 PE.imp (Yeb Yox hg hm (by decide +kernel) (Ybn (Yev (Yow hc hu) hg2 hm2 boot_set ha (by decide) (by decide) hs hpl) Yfx he) (by decide) (by decide) he hpl2) fun σ H Q hx_=>by
  obtain⟨ρ,d,H0,G0,G,e,s,h⟩:=hx_
  unfold cC at e
  obtain⟨ds,h1,e⟩:=qa e
  refine tCAof.at h1 s fun vs H1 G1 g1 r1 s1=>?_
  unfold Yd2 at e
  split at e
  case h_2=>cases e
  rename_i l
  obtain⟨v,rfl,rv⟩:=Ydx r1
  rw[Ct]at rv
  obtain⟨a,xs,rfl,hq,rl⟩:=rv
  unfold Ybu at e
  split at e
  ·rename_i ns hns
   split at e
   case isFalse=>cases e
   rename_i hl
   cases e
   cases Yfl hns
   cases Yiw rl
   refine⟨a,_,(ddup [] ns).length,rfl,.inl hq,.inl ⟨ns,rfl,hl,rfl⟩,fun m hm'=>?_⟩
   have g2:=Gr.hid s1.seen hm' (setC X.w m (ddup [] ns).length)
   refine⟨m,_,rfl,Yy,by have:=Yl7 ns [];simp at this;lia,?_⟩
   exact h _ _ G1 (g1.trans g2) (by rw[Rp])
  ·obtain⟨ps,h2,e⟩:=qa e
   have hv:=Yoz s1.seen h2 rl
   obtain⟨n,hn,hc,rfl⟩:∃n:Nat,n < 4000/\((Yhs ps=true/\n=ps.length)\/(You ps=true/\n=1))/\d=.int n:=by
    split at e
    ·rename_i hd
     refine⟨_,?_,.inl ⟨hd,rfl⟩,by cases e;rfl⟩
     rcases ps with _ | ⟨p1,_ | ⟨p2,_ | ⟨p3,r⟩⟩⟩
     ·simp
     ·simp
     ·simp
     ·simp[Yhs]at hd
    ·split at e
     ·rename_i hd
      exact⟨1,by decide,.inr ⟨hd,rfl⟩,by cases e;rfl⟩
     ·cases e
   refine⟨a,xs,n,rfl,.inl hq,.inr ⟨ps,hv,hc⟩,fun m hm'=>?_⟩
   have g2:=Gr.hid s1.seen hm' (setC X.w m n)
   exact⟨m,_,rfl,Yy,hn,h _ _ G1 (g1.trans g2) (by rw[Rp])⟩
@[simp] theorem lensetC_lst(l:List D):Yd2 [.lst l]=Ybu l:=nr0 rfl
end
end
section
end
section
set_option maxRecDepth 100000
def advM(mask:Nat)(p:SetTable.Probe):SetTable.Probe:=SetTable.advance { mask:=mask,place:=#[],dummies:=#[],finger:=0,led:=false,moves:=0,plain:=false } p
def itP(mask:Nat):Nat->SetTable.Probe->SetTable.Probe
 | 0,p=>p
 | k+1,p=>itP mask k (advM mask p)
def stP(mask i perturb:Nat):SetTable.Probe:={ j:=i,more:=SetTable.runEnd mask i - i,i,perturb,dummy:=none }
def Way(mask:Nat)(occ:Nat->Prop)(p:SetTable.Probe)(j:Nat):Prop:=∃k,(itP mask k p).j=j/\∀m,m < k->occ (itP mask m p).j
abbrev hSt(mask:Nat)(h:Int):SetTable.Probe:=stP mask (SetTable.bits h % (mask+1)) (SetTable.bits h)
section
variable {t:SetTable} {hA:Nat->Int} {h:Int}
structure Clean(t:SetTable)(n:Nat):Prop where
 hs:t.mask+1∈Yyj
 dm:t.dummies=#[]
 rise:Rise t.place
 le:∀j∈t.place.toList,j<=t.mask
 sz:t.place.size=n
 room:n<=t.mask
end
end
section
set_option maxRecDepth 100000
def bI(b:Bool):Int:=if b then 1 else 0
def bH(bs:List Bool):Int:=Ys3 (bs.map bI)
def TupB(h:Heap)(u:Addr)(bs:List Bool):Prop:=bs.length<=4/\∃o n,h.get? u=some o/\o.cls=.type "tuple"/\o.data=.seq (bs.map Value.bool).toArray n
structure SetB(w:World)(h:Heap)(S:Addr)(us:List (Addr × List Bool)):Prop where
 ex:∃o es ep t,h.get? S=some o/\o.ExactSet/\o.data=.set es ep t/\es.toList.Perm (us.map fun u=>(bH u.2,Value.ref u.1))/\t.fits es.size=true/\Clean t es.size/\Tab (byT w) t/\es.size * 5 < t.mask * 3/\∀q∈es.toList.zip t.place.toList,Way t.mask (·∈t.place.toList) (hSt t.mask q.1.1) q.2
 keys:(us.map (·.2)).Nodup
 tups:∀u∈us,TupB h u.1 u.2
 few:us.length<=24
end
section
set_option maxRecDepth 100000
section
variable {n:Nat} {key:Nat->Nat} {cmp:Nat->Nat->(Bool->Shared->Prop)->Shared->Prop} {s:Shared}
variable (hinj:∀i j,i < n->j < n->key i=key j->i=j) (hc:∀i j (C:Bool->Shared->Prop),i < n->j < n->C (decide (key i < key j)) s->cmp i j C s)
include hinj hc
omit hinj hc in
omit hinj hc in
omit hinj hc in
end
end
section
end
section
set_option maxRecDepth 100000
end
section
structure ZE(X:Cx)(e:Expr)(f:Ro->Option D):Prop where
 un:ME X e f
structure ZC(X:Cx)(e:Expr)(f:Ro->Option D):Prop where
 un:MC X e f
structure ZCA(X:Cx)(es:List Expr)(f:Ro->Option (List D)):Prop where
 un:MCA X es f
structure ZF(X:Cx)(e:Expr)(f:Ro->Option (List D)):Prop where
 un:MF X e f
structure ZT(X:Cx)(e:Expr)(f:Ro->Option Bool):Prop where
 un:MT X e f
structure ZW(X:Cx)(e:Expr)(f:Ro->Option Bool):Prop where
 un:MW X e f
structure ZA(X:Cx)(es:List Expr)(f:Ro->Option (List D)):Prop where
 un:MA X es f
structure ZI(X:Cx)(tg iter:Expr)(f:Ro->Option (List D)):Prop where
 un:MI X tg iter f
structure ZS(X:Cx)(st:Stmt)(f:Ro->Option Out):Prop where
 un:MS X st f
structure ZB(X:Cx)(sts:List Stmt)(f:Ro->Option Out):Prop where
 un:MB X sts f
structure ZG(X:Cx)(tg:Expr)(gt:D->Ro->Option Ro):Prop where
 un:MG X tg gt
structure ZIfs(X:Cx)(K:W.Frag)(ifs:List Expr)(f:Ro->Option Bool):Prop where
 un:PIfs X ifs (tTof K f)
structure ZO(X:Cx)(e:Option Expr)(f:Option (Ro->Option D)):Prop where
 un:PO X e (tO X.K f)
structure ZP(X:Cx)(pos:Pos)(keys:List (Option Expr))(values:List Expr)(ks:List Str)(fs:List (Ro->Option D)):Prop where
 un:MP X pos keys values ks fs
section
variable {K:W.Frag} {X:Cx} {H0 G0 H G:Hp} {σ:L2.St} {ρ:Ro} {a b c e:Expr} {es:List Expr} {fa fb fc f:Ro->Option D} {ga:Ro->Option (List D)} {pos:Pos}
theorem Yc{e:Expr}{f:Ro->Option D}(h:ZE X e f):ZC X e f:=⟨ME.mc h.un⟩
theorem Yl(i:Nat){x:Str}(hN:X.N[i]?=some x:=by rfl)(hv:Vis X.env.scope x:=by first | exact Or.inl rfl | exact Or.inr (Or.inl rfl) | exact Or.inr (Or.inr rfl))(hd:(x==("__debug__":Str))=false:=by decide)(hcd:(x==("__classdict__":Str))=false:=by decide):ZE X (.Name x pos) (getV i):=⟨Yvq i hN hv hd hcd⟩
theorem Yd(i:Nat){x:Str}(hN:X.N[i]?=some x:=by rfl)(hv:Vis X.env.scope x:=by first | exact Or.inl rfl | exact Or.inr (Or.inl rfl) | exact Or.inr (Or.inr rfl))(hd:(x==("__debug__":Str))=false:=by decide)(hcd:(x==("__classdict__":Str))=false:=by decide):ZC X (.Name x pos) (getC i):=⟨Yvr i hN hv hd hcd⟩
theorem Ye{i:Int}{j}:ZE X (.Constant (.int i) j pos) (kD (.int i)):=⟨Yvs ⟩
theorem Ybk{k:Bool}{j}:ZE X (.Constant (.bool k) j pos) (kD (.bl k)):=⟨Yx3 ⟩
theorem Ycq{j}:ZE X (.Constant .none j pos) (kD .non):=⟨Yvt ⟩
theorem Yav{x:Str}{j}(hx:PyData.strOk x=true:=by decide +kernel):ZE X (.Constant (.str x) j pos) (kD (.str x)):=⟨Yvu hx⟩
theorem Ytx(ha:ZC X a fa)(hb:ZC X b fb):ZE X (.BinOp a .Sub b pos) (b2 fa fb subI):=⟨Yvv ha.un hb.un⟩
theorem Yo1(ha:ZC X a fa)(hb:ZC X b fb):ZE X (.BinOp a .Mult b pos) (b2 fa fb mulI):=⟨Yvw ha.un hb.un⟩
theorem Yax(ha:ZC X a fa)(hb:ZC X b fb):ZE X (.BinOp a .FloorDiv b pos) (b2 fa fb divI):=⟨Yvx ha.un hb.un⟩
theorem Yt(ha:ZC X a fa)(hb:ZC X b fb):ZE X (.BinOp a .Mod b pos) (b2 fa fb modI):=⟨Yvy ha.un hb.un⟩
theorem Yw1(ha:ZC X a fa)(hb:ZC X b fb):ZE X (.Compare a [.Gt] [b] pos) (mB (b2 fa fb gtI)):=⟨Yx5 ha.un hb.un⟩
theorem Yka(ha:ZC X a fa)(hb:ZC X b fb):ZT X (.Compare a [.Lt] [b] pos) (b2 fa fb ltI):=⟨Yx6 ha.un hb.un⟩
theorem Ykb(ha:ZC X a fa)(hb:ZC X b fb):ZT X (.Compare a [.Gt] [b] pos) (b2 fa fb gtI):=⟨Yx7 ha.un hb.un⟩
theorem Yd3(hu:X.A.units+64 < cLine)(ha:ZC X a fa)(hb:ZC X b fb):ZE X (.Compare a [.Eq] [b] pos) (mB (b2 fa fb (eqM false))):=⟨Yx8 hu ha.un hb.un⟩
theorem Yr8(hu:X.A.units+64 < cLine)(ha:ZC X a fa)(hb:ZC X b fb):ZE X (.Compare a [.NotEq] [b] pos) (mB (b2 fa fb (eqM true))):=⟨Yx9 hu ha.un hb.un⟩
theorem Ybv(hu:X.A.units+64 < cLine)(ha:ZC X a fa)(hb:ZC X b fb):ZT X (.Compare a [.Eq] [b] pos) (b2 fa fb (eqM false)):=⟨Yya hu ha.un hb.un⟩
theorem Yr9(hu:X.A.units+64 < cLine)(ha:ZC X a fa)(hb:ZC X b fb):ZT X (.Compare a [.NotEq] [b] pos) (b2 fa fb (eqM true)):=⟨Yyb hu ha.un hb.un⟩
theorem Yo2(hu:X.A.units+64 < cLine)(ha:ZC X a fa)(hb:ZC X b fb)(hm:behindInMarks .NotIn b=false:=by with_unfolding_all rfl):ZT X (.Compare a [.NotIn] [b] pos) (b2 fa fb (inM true)):=⟨Yvz hu ha.un hb.un hm⟩
end
section
variable {K:W.Frag} {X:Cx} {a b c e tg elt iter ie ke:Expr} {es rest ifs:List Expr} {fa fb f fe fk:Ro->Option D} {fc fd:Ro->Option Bool} {ga gl:Ro->Option (List D)} {pos p pos' px:Pos} {x:Str} {id T:String} {r:List V->Hp->VK->Prop} {g:List D->Option D} {gf:List D->Option (List D)} {st:Stmt} {sts:List Stmt} {fs gs:Ro->Option Out} {scope:Scope} {N:List Str} {src:List (Option Nat)} {gt:D->Ro->Option Ro} {P:Program} {w:World} {mg:Str->Option Value} {base:Heap}
theorem Ydj(ha:ZC X a fa)(he:∀whole,isTrue a X.env whole=(do let v <-whole;standAt a.pos;holding [v] (truthy v)):=by intro _;rfl):ZT X a (b1 fa truD):=⟨Yv0 ha.un he⟩
theorem Yl8(ha:ZT X a fc):ZW X (.BoolOp .And [a] pos) fc:=⟨Ys7 ha.un⟩
theorem Yd4(ha:ZT X a fc):ZW X (.BoolOp .Or [a] pos) fc:=⟨Yv1 ha.un⟩
theorem Yo3(ha:ZT X a fc)(hb:ZW X (.BoolOp .And (b::rest) pos) fd):ZW X (.BoolOp .And (a::b::rest) pos) (andT fc fd):=⟨Yv3 ha.un hb.un⟩
theorem Yf0(ha:ZT X a fc)(hb:ZW X (.BoolOp .Or (b::rest) pos) fd):ZW X (.BoolOp .Or (a::b::rest) pos) (orT fc fd):=⟨Yyc ha.un hb.un⟩
theorem Yfm(ha:ZT X a fc):ZT X (.UnaryOp .Not a pos) (notT fc):=⟨Yv4 ha.un⟩
theorem Ygg(ha:ZE X a fa):ZE X (.BoolOp .And [a] pos) fa:=⟨Ys9 ha.un⟩
theorem Yty(ha:ZE X a fa):ZE X (.BoolOp .Or [a] pos) fa:=⟨Yv5 ha.un⟩
theorem Yfn(ha:ZE X a fa)(hb:ZE X (.BoolOp .And (b::rest) pos) fb):ZE X (.BoolOp .And (a::b::rest) pos) (andV fa fb):=⟨Yv6 ha.un hb.un⟩
theorem Yw2(ha:ZE X a fa)(hb:ZE X (.BoolOp .Or (b::rest) pos) fb):ZE X (.BoolOp .Or (a::b::rest) pos) (orV fa fb):=⟨Yyd ha.un hb.un⟩
theorem Yo4(ha:ZE X a fa):ZE X (.UnaryOp .Not a pos) (notV fa):=⟨Yv7 ha.un⟩
theorem Ytz(ha:ZC X a fa)(hb:ZC X b fb):ZE X (.Compare a [.Is] [b] pos) (mB (b2 fa fb (isN false))):=⟨Yv8 ha.un hb.un⟩
theorem Yo5(ha:ZC X a fa)(hb:ZC X b fb):ZT X (.Compare a [.Is] [b] pos) (b2 fa fb (isN false)):=⟨Yv9 ha.un hb.un⟩
theorem Yiy(ha:ZC X a fa)(hb:ZC X b fb):ZT X (.Compare a [.IsNot] [b] pos) (b2 fa fb (isN true)):=⟨Yta ha.un hb.un⟩
theorem Ys(ha:ZC X a fa)(hb:ZC X b fb)(hs:Yij b:=by intro _ _;rfl):ZE X (.Subscript a b pos) (b2 fa fb ixD):=⟨Ytb ha.un hb.un hs⟩
theorem Ycr{lo hi:Option Expr}{fl fh:Option (Ro->Option D)}{p2:Pos}(ha:ZC X a fa)(hl:ZO X lo fl)(hh:ZO X hi fh):ZF X (.Subscript a (.Slice lo hi none p2) pos) (slF fa fl fh):=⟨Yqk ha.un hl.un hh.un⟩
theorem Yh2 :ZO X none none:=⟨Yye ⟩
theorem Yf1(h:ZC X e f):ZO X (some e) (some f):=⟨Yyf h.un⟩
theorem Yaj{g:Ro->Option (List D)}(h:ZF X e g):ZE X e (lF g):=⟨MF.me h.un⟩
theorem Yh :ZA X [] aNil:=⟨Ywc ⟩
theorem Yb(ha:ZE X e f)(hr:ZA X es ga)(hs:starEach (e::es) X.env=(false,eval e X.env)::starEach es X.env:=by rfl):ZA X (e::es) (Yg f ga):=⟨Ytc ha.un hr.un hs⟩
theorem Yq :ZCA X [] aNil:=⟨Ytd ⟩
theorem Ym(ha:ZC X e f)(hr:ZCA X es ga)(hs:starEach (e::es) X.env=(false,eval e X.env)::starEach es X.env:=by rfl):ZCA X (e::es) (Yg f ga):=⟨Yql ha.un hr.un hs⟩
theorem Yau{x1}(h:ZA X es ga):ZE X (.Tuple es x1 pos) (dTup ga):=⟨Ywd h.un⟩
theorem Yag(h:ZA X es ga):ZF X (.List es pos) (dLst ga):=⟨Ywe h.un⟩
theorem Yan(hc:Yb6 X (.builtin id) r)(hr:SemC X.K r g)(hg:Gl X x)(hm:X.mg x=none)(hv:bootBuiltins x=some (.builtin id))(ha:ZCA X (e::es) ga)(hn:x≠"__name__":=by decide)(hdb:(x==("__debug__":Str))=false:=by decide)(he:starEach (e::es) X.env=(false,eval e X.env)::starEach es X.env:=by rfl)(hpl:(backTo pos (starEach es X.env)).any (·.1)=false:=by rfl):ZE X (.Call (.Name x p) (e::es) [] pos) (cC ga g):=⟨Yqm hc hr hg hm hv ha.un hn hdb he hpl⟩
theorem Yd5(hc:Yb6 X (.builtin id) r)(hr:SemF X.K r gf)(hg:Gl X x)(hm:X.mg x=none)(hv:bootBuiltins x=some (.builtin id))(ha:ZCA X (e::es) ga)(hn:x≠"__name__":=by decide)(hdb:(x==("__debug__":Str))=false:=by decide)(he:starEach (e::es) X.env=(false,eval e X.env)::starEach es X.env:=by rfl)(hpl:(backTo pos (starEach es X.env)).any (·.1)=false:=by rfl):ZF X (.Call (.Name x p) (e::es) [] pos) (cF ga gf):=⟨Yqn hc hr hg hm hv ha.un hn hdb he hpl⟩
theorem Yaz(hc:Yb6 X (.type T) r)(hr:SemC X.K r g)(hg:Gl X x)(hm:X.mg x=none)(hv:bootBuiltins x=some (.type T))(ha:ZCA X (e::es) ga)(hn:x≠"__name__":=by decide)(hdb:(x==("__debug__":Str))=false:=by decide)(he:starEach (e::es) X.env=(false,eval e X.env)::starEach es X.env:=by rfl)(hpl:(backTo pos (starEach es X.env)).any (·.1)=false:=by rfl):ZE X (.Call (.Name x p) (e::es) [] pos) (cC ga g):=⟨Yn0 hc hr hg hm hv ha.un hn hdb he hpl⟩
theorem Ym3(hc:Yb6 X (.type T) r)(hr:SemF X.K r gf)(hg:Gl X x)(hm:X.mg x=none)(hv:bootBuiltins x=some (.type T))(ha:ZCA X (e::es) ga)(hn:x≠"__name__":=by decide)(hdb:(x==("__debug__":Str))=false:=by decide)(he:starEach (e::es) X.env=(false,eval e X.env)::starEach es X.env:=by rfl)(hpl:(backTo pos (starEach es X.env)).any (·.1)=false:=by rfl):ZF X (.Call (.Name x p) (e::es) [] pos) (cF ga gf):=⟨Yn1 hc hr hg hm hv ha.un hn hdb he hpl⟩
theorem Yae :ZB X [] sNil:=⟨Ywf ⟩
theorem Yi(h1:ZS X st fs)(h2:ZB X sts gs):ZB X (st::sts) (sSeq fs gs):=⟨Ytg h1.un h2.un⟩
theorem Yp(h1:ZS X st fs):ZB X [st] fs:=⟨Ywg h1.un⟩
theorem Ydk(is:List Nat)(h:ZS X st fs):ZS X st (wF is fs):=⟨Ywh is h.un⟩
theorem Yay(i:Nat){x:Str}(hN:X.N.Nodup)(he:ZE X e f)(hi:X.N[i]?=some x:=by rfl)(hx:Loc X.env.scope x:=by first | exact Or.inl rfl | exact Or.inr rfl)(hs:swapsWith e (some (.Name x pos')) pos.line X.env=pure false:=by rfl)(hf:X.fn x=true\/X.env.scope.names.lookup x=some .local:=by first | exact .inl rfl | exact .inr rfl):ZS X (.Assign [.Name x pos'] e pos) (sSet i f):=⟨Ywk i hN he.un hi hx hs hf⟩
theorem Yb8(i:Nat){x:Str}(hN:X.N.Nodup)(he:ZF X e gl)(hi:X.N[i]?=some x:=by rfl)(hx:Loc X.env.scope x:=by first | exact Or.inl rfl | exact Or.inr rfl)(hs:swapsWith e (some (.Name x pos')) pos.line X.env=pure false:=by rfl)(hf:X.fn x=true\/X.env.scope.names.lookup x=some .local:=by first | exact .inl rfl | exact .inr rfl):ZS X (.Assign [.Name x pos'] e pos) (sOwn i gl):=⟨Ywl i hN he.un hi hx hs hf⟩
theorem Yu(he:ZE X e f):ZS X (.Return (some e) pos) (sRet f):=⟨Ywm he.un⟩
theorem Yar{c:Expr}{a b:List Stmt}{fc:Ro->Option Bool}(hc:ZT X c fc)(ha:ZB X a fs)(hb:ZB X b gs):ZS X (.If c a b pos) (sIf fc fs gs):=⟨Yyg hc.un ha.un hb.un⟩
theorem Yh3(i:Nat){x:Str}{p2 apos cpos:Pos}(he:ZE X e f)(hN:X.N[i]?=some x:=by rfl)(hv:Vis X.env.scope x:=by first | exact Or.inl rfl | exact Or.inr (Or.inl rfl) | exact Or.inr (Or.inr rfl))(hd:(x==("__debug__":Str))=false:=by decide)(hcd:(x==("__classdict__":Str))=false:=by decide)(hse:swapsWith (.Call (.Attribute (.Name x p2) "append" apos) [e] [] cpos) none pos.line X.env=pure false:=by rfl)(hs:starEach [e] X.env=[(false,eval e X.env)]:=by rfl)(hfew:((backTo cpos (starEach [e] X.env)).all (fun x=>!x.1)&&(backToKw cpos (keywordEach [] X.env)).all (fun x=>x.1.isSome)&&decide ([e].length+([]:List Keyword).length+(if ([]:List Keyword).isEmpty then 0 else 1) < 30))=true:=by rfl)(hline:(apos.endLine==cpos.line)=true:=by rfl)(hbase:attributeBase (.Name x p2) "append" X.env (eval (.Name x p2) X.env)=eval (.Name x p2) X.env:=by rfl):ZS X (.Expr (.Call (.Attribute (.Name x p2) "append" apos) [e] [] cpos) pos) (sMut i f appD):=⟨Yn2 i he.un hN hv hd hcd hse hs hfew hline hbase⟩
theorem Yc6{l:Expr}(hl:ZE X l f):ZI X tg l (b1 f Yw):=⟨Ywo hl.un⟩
theorem Yee{a:Expr}{ga:Ro->Option (List D)}{p:Pos}(hg:Gl X "range")(hm:X.mg "range"=none)(ha:ZA X [a] ga)(hs:starEach [a] X.env=[(false,eval a X.env)]:=by rfl):ZI X tg (.Call (.Name "range" p) [a] [] pos) (cF ga rng1):=⟨Yn4 hg hm ha.un hs⟩
theorem Ya9(i:Nat){x:Str}(hN:X.N.Nodup)(hi:X.N[i]?=some x:=by rfl)(hx:Loc X.env.scope x:=by first | exact Or.inl rfl | exact Or.inr rfl)(hf:X.fn x=true\/X.env.scope.names.lookup x=some .local:=by first | exact .inl rfl | exact .inr rfl):ZG X (.Name x pos) (gSet i):=⟨Yth i hN hi hx hf⟩
theorem Yo6{iter:Expr}{body:List Stmt}{gt:D->Ro->Option Ro}(hp:PassesOwn (model X.prog X.w) X.A X.env X.xe)(hc:X.calm=true)(hi:ZI X tg iter gl)(hg:ZG X tg gt)(hb:ZB X body fs)(hs:∀x,foldedSetIterable iter X.env x=pure x:=by intro _;rfl):ZS X (.For tg iter body [] pos) (sFor gl gt fs):=⟨Ywq hp hc hi.un hg.un hb.un hs⟩
theorem Ydl :ZIfs X X.K [] tY:=⟨Yn5 ⟩
theorem Ygh(S:CompSc X.N X.env.scope N src scope)(hc:X.calm=true)(hit:ZI X tg iter gl)(hg:∀cl C fp s H,ZG (Yv X scope N cl C fp s H) tg gt)(hi:∀cl C fp s H,ZIfs (Yv X scope N cl C fp s H) X.K ifs fc)(he:∀cl C fp s H,ZE (Yv X scope N cl C fp s H) elt fe)(hle:∀ρ d ρ1,gt d (capR src ρ)=some ρ1->Le (capR src ρ) ρ1)(hs:∀x,foldedSetIterable iter X.env x=pure x:=by intro _;rfl):ZF X (.ListComp elt [⟨tg,iter,ifs,0⟩] scope pos) (Yej gl src gt fc fe):=⟨Ytj S hc hit.un (fun cl C fp s H=>(hg cl C fp s H).un) (fun cl C fp s H=>(hi cl C fp s H).un) (fun cl C fp s H=>(he cl C fp s H).un) hle hs⟩
theorem Ye1(i:Nat){y:Str}{py spos:Pos}(hN:X.N.Nodup)(S:CompSc X.N X.env.scope N src scope)(hc:X.calm=true)(hit:ZI X tg iter gl)(hg:∀cl C fp s H,ZG (Yv X scope N cl C fp s H) tg gt)(hi:∀cl C fp s H,ZIfs (Yv X scope N cl C fp s H) X.K ifs fc)(he:∀cl C fp s H,ZE (Yv X scope N cl C fp s H) elt fe)(hle:∀ρ d ρ1,gt d (capR src ρ)=some ρ1->Le (capR src ρ) ρ1)(hsw:swapsWith (.ListComp elt [⟨tg,iter,ifs,0⟩] scope pos) (some (.Name y py)) spos.line X.env=pure true:=by rfl)(hy:X.N[i]?=some y:=by rfl)(hx:Loc X.env.scope y:=by first | exact Or.inl rfl | exact Or.inr rfl)(hf:X.fn y=true\/X.env.scope.names.lookup y=some .local:=by first | exact .inl rfl | exact .inr rfl)(hs:∀x,foldedSetIterable iter X.env x=pure x:=by intro _;rfl):ZS X (.Assign [.Name y py] (.ListComp elt [⟨tg,iter,ifs,0⟩] scope pos) spos) (sOwn i (Yej gl src gt fc fe)):=⟨Ytk i hN S hc hit.un (fun cl C fp s H=>(hg cl C fp s H).un) (fun cl C fp s H=>(hi cl C fp s H).un) (fun cl C fp s H=>(he cl C fp s H).un) hle hsw hy hx hf hs⟩
theorem Yh4{x qual:Str}{st:Stmt}{f:Addr}{fd:FuncData}{N ps:List Str}{k n m:Nat}{fb:Ro->Option Out}(F:Fun K x qual st f fd)(S:FnScope N ps (defScope st))(hn:N.length=n)(hm:ps.length=m)(hb:∀(cdv:Value) (A:Around) (outer:List Env) (s:Shared) (H:Hp) (E:XK),Room k (A.deeper (envOfC qual (defScope st) s.heap.objs.size f cdv))->ZB (cxOf CX0 P w K mg base N qual (defScope st) f cdv A outer s H E).nox (defBody st) fb):FnOk P w K mg base CX0 (k+1) f fd ps (spOf K m (runB m n fb)):=Yn7 F S hn hm (fun cdv A outer s H E hr=>(hb cdv A outer s H E hr).un)
theorem Yk{j k n:Nat}{x:Str}{p:Pos}{ps:List Str}{fn:List D->Option D}(c:Okf X.prog X.w X.K X.mg X.base j n x ps fn)(hr:Room k X.A)(hg:Gl X x)(ha:ZA X (e::es) ga)(hl:∀ρ l,ga ρ=some l->l.length=n)(hj:j<=k:=by first | exact qt _ | lia)(hdb:(x==("__debug__":Str))=false:=by decide)(he:starEach (e::es) X.env=(false,eval e X.env)::starEach es X.env:=by rfl)(hpl:(backTo pos (starEach es X.env)).any (·.1)=false:=by rfl):ZE X (.Call (.Name x p) (e::es) [] pos) (cC ga fn):=⟨Yqr c hr hg ha.un hl hj hdb he hpl⟩
theorem Yc7(ha:ZC X a fa)(hb:ZC X b fb):ZE X (.BinOp a .Add b pos) (b2 fa fb addI):=⟨Yws ha.un hb.un⟩
theorem Yt0(ha:ZC X a fa):ZE X (.UnaryOp .USub a pos) (b1 fa negI):=⟨Ywt ha.un⟩
theorem Yg4(ha:ZC X a fa)(hb:ZC X b fb):ZF X (.BinOp a .Add b pos) (b2 fa fb catD):=⟨Ywu ha.un hb.un⟩
theorem Yb9{T:String}{tn:Str}{p p2:Pos}(ha:ZC X a fa)(hg:Gl X "isinstance")(hg2:Gl X tn)(hm:X.mg "isinstance"=none)(hm2:X.mg tn=none)(hv2:bootBuiltins tn=some (.type T))(hk:Kit T)(hv:bootBuiltins "isinstance"=some (.builtin "isinstance"):=by decide +kernel)(hn2:tn≠"__name__":=by decide)(hd2:(tn==("__debug__":Str))=false:=by decide)(hs:starEach [a,.Name tn p2] X.env=(false,eval a X.env)::starEach [.Name tn p2] X.env:=by rfl)(hs2:starEach [.Name tn p2] X.env=(false,eval (.Name tn p2) X.env)::starEach [] X.env:=by rfl)(hpl:(backTo pos (starEach [.Name tn p2] X.env)).any (·.1)=false:=by rfl):ZE X (.Call (.Name "isinstance" p) [a,.Name tn p2] [] pos) (mB (b1 fa (isiD T))):=⟨Ywv ha.un hg hg2 hm hm2 hv2 hk hv hn2 hd2 hs hs2 hpl⟩
theorem Ym4(i:Nat){x:Str}{p2 apos cpos:Pos}(hb:ZE X ie fb)(he:ZE X e f)(hN:X.N[i]?=some x:=by rfl)(hv:Vis X.env.scope x:=by first | exact Or.inl rfl | exact Or.inr (Or.inl rfl) | exact Or.inr (Or.inr rfl))(hd:(x==("__debug__":Str))=false:=by decide)(hcd:(x==("__classdict__":Str))=false:=by decide)(hse:swapsWith (.Call (.Attribute (.Name x p2) "insert" apos) [ie,e] [] cpos) none pos.line X.env=pure false:=by rfl)(hs:starEach [ie,e] X.env=(false,eval ie X.env)::starEach [e] X.env:=by rfl)(hs2:starEach [e] X.env=[(false,eval e X.env)]:=by rfl)(hfew:((backTo cpos (starEach [ie,e] X.env)).all (fun x=>!x.1)&&(backToKw cpos (keywordEach [] X.env)).all (fun x=>x.1.isSome)&&decide ([ie,e].length+([]:List Keyword).length+(if ([]:List Keyword).isEmpty then 0 else 1) < 30))=true:=by rfl)(hline:(apos.endLine==cpos.line)=true:=by rfl)(hbase:attributeBase (.Name x p2) "insert" X.env (eval (.Name x p2) X.env)=eval (.Name x p2) X.env:=by rfl)(hpl:(backTo cpos (starEach [e] X.env)).any (·.1)=false:=by rfl):ZS X (.Expr (.Call (.Attribute (.Name x p2) "insert" apos) [ie,e] [] cpos) pos) (Yoh i fb f insD):=⟨Yoj i hb.un he.un hN hv hd hcd hse hs hs2 hfew hline hbase hpl⟩
theorem Ye2{i:Int}(g:GI X.mg x i)(hg:Gl X x)(hd:(x==("__debug__":Str))=false:=by decide):ZE X (.Name x px) (kD (.int i)):=⟨Ytp g hg hd⟩
end
section
variable {X:Cx} {a b c e:Expr} {fa fb fc f:Ro->Option D} {pos px:Pos} {st:Stmt} {K:W.Frag} {x:Str} {ks:List Str}
theorem Yo7{op op':CmpOp}{r r':R2}{g g':D->D->Option Bool}(ho:OpR X (compareOp op) r)(hr:Yey X.K r g)(ho':OpR X (compareOp op') r')(hr':Yey X.K r' g')(ha:ZC X a fa)(hb:ZC X b fb)(hc:ZC X c fc)(hm:lastMarks [op,op'] [b,c]=false:=by with_unfolding_all rfl):ZE X (.Compare a [op,op'] [b,c] pos) (mB (ch3 fa fb fc g g')):=⟨Yqw ho hr ho' hr' ha.un hb.un hc.un hm⟩
theorem Ycs :ZS X st nS:=⟨Yqx ⟩
theorem Yiz(ha:ZC X a fa)(hb:ZC X b fb):ZT X (.Compare a [.Is] [b] pos) (b2 fa fb (isB false)):=⟨Ywy ha.un hb.un⟩
theorem Yl9(hu:X.A.units+64 < cLine)(g:GT X.K X.mg x ks)(hg:Gl X x)(ha:ZC X a fa)(hm:behindInMarks .NotIn (.Name x px)=false:=by with_unfolding_all rfl)(hd:(x==("__debug__":Str))=false:=by decide):ZT X (.Compare a [.NotIn] [.Name x px] pos) (b1 fa (inG true ks)):=⟨Ytw hu g hg ha.un hm hd⟩
end
theorem Yel{X:Cx}{e:Expr}{f:Ro->Option Bool}(h:ZW X e f):ZT X e f:=⟨PW.pt h.un⟩
end
section
section
variable {X:Cx} {e:Expr} {ga:Ro->Option (List D)} {p p2 pos pos2:Pos}
theorem Yef(hc:X.calm=true)(hu:X.A.units+64 < cLine)(hm:X.mg "len"=none)(hm2:X.mg "set"=none)(hg:Gl X "len")(hg2:Gl X "set")(ha:ZCA X [e] ga)(hs:starEach [e] X.env=[(false,eval e X.env)]:=by rfl)(he:starEach [.Call (.Name "set" p2) [e] [] pos2] X.env=[(false,eval (.Call (.Name "set" p2) [e] [] pos2) X.env)]:=by rfl)(hpl:(backTo pos2 (starEach [] X.env)).any (·.1)=false:=by rfl)(hpl2:(backTo pos (starEach [] X.env)).any (·.1)=false:=by rfl):ZE X (.Call (.Name "len" p) [.Call (.Name "set" p2) [e] [] pos2] [] pos) (cC ga Yd2):=⟨Yo0 hc hu hm hm2 hg hg2 ha.un hs he hpl hpl2⟩
end
end
section
variable {K:W.Frag}
def Yym(K:W.Frag)(j:Nat)(x:Option (Option V))(H0 G0:Hp)(F:Ends):Out->Prop
 | .nx ρ'=>∀σ' H' G',SR K H0 G0 σ' H' G' ρ'->σ'[j]?=x->F.nx σ' H'
 | .rt _=>False
 | .bk ρ'=>∀σ' H' G',SR K H0 G0 σ' H' G' ρ'->σ'[j]?=x->F.bk σ' H'
 | .ct ρ'=>∀σ' H' G',SR K H0 G0 σ' H' G' ρ'->σ'[j]?=x->F.ct σ' H'
def sOfK(K:W.Frag)(j:Nat)(f:Ro->Option Out):TS:=fun F σ H=>∃ρ out H0 G0 G,f ρ=some out/\SR K H0 G0 σ H G ρ/\Yym K j σ[j]? H0 G0 F out
structure KS(j:Nat)(X:Cx)(st:Stmt)(f:Ro->Option Out):Prop where
 un:PS X st (sOfK X.K j f)
structure KB(j:Nat)(X:Cx)(sts:List Stmt)(f:Ro->Option Out):Prop where
 un:PSs X sts (sOfK X.K j f)
def sOfR(K:W.Frag)(j r:Nat)(fb:Ro->Option Out):TS:=fun F σ H=>∃ρ ρ' l d H0 G0 G,fb ρ=some (.nx ρ')/\getO j ρ'=some l/\getV r (frz [r] ρ')=some d/\SR K H0 G0 σ H G ρ/\
 ∀v σ' H' G',SR K H0 G0 σ' H' G' (frz [r] ρ')->σ'[j]?=σ[j]?->Rp K G' d v->F.rt v H'
structure KR(j r:Nat)(X:Cx)(sts:List Stmt)(f:Ro->Option Out):Prop where
 un:PSs X sts (sOfR X.K j r f)
def sOfL(K:W.Frag)(gl:Ro->Option (List D))(fb:Ro->Option Out):TS:=fun F σ H=>∃ρ ρ' l H0 G0 G,fb ρ=some (.nx ρ')/\gl ρ'=some l/\SR K H0 G0 σ H G ρ/\
 ∀p xs H' G',Gr H0 G0 H' G'->H0 p=none->G' p=none->H' p=some (.lst xs)->RpL K G' l xs->F.rt (.ref p) H'
structure KL(gl:Ro->Option (List D))(X:Cx)(sts:List Stmt)(f:Ro->Option Out):Prop where
 un:PSs X sts (sOfL X.K gl f)
theorem len1{us:List Value}(h:us.length=1):∃a0,us=[a0]:=List.length_eq_one_iff.mp h
theorem len2{us:List Value}(h:us.length=2):∃a0 a1,us=[a0,a1]:=by
 cases us with
 | nil=>cases h
 | cons a us=>
   obtain⟨b0,rfl⟩:=len1 (Nat.succ.inj h)
   exact⟨a,b0,rfl⟩
theorem len3{us:List Value}(h:us.length=3):∃a0 a1 a2,us=[a0,a1,a2]:=by
 cases us with
 | nil=>cases h
 | cons a us=>
   obtain⟨b0,b1,rfl⟩:=len2 (Nat.succ.inj h)
   exact⟨a,b0,b1,rfl⟩
theorem len4{us:List Value}(h:us.length=4):∃a0 a1 a2 a3,us=[a0,a1,a2,a3]:=by
 cases us with
 | nil=>cases h
 | cons a us=>
   obtain⟨b0,b1,b2,rfl⟩:=len3 (Nat.succ.inj h)
   exact⟨a,b0,b1,b2,rfl⟩
theorem len5{us:List Value}(h:us.length=5):∃a0 a1 a2 a3 a4,us=[a0,a1,a2,a3,a4]:=by
 cases us with
 | nil=>cases h
 | cons a us=>
   obtain⟨b0,b1,b2,b3,rfl⟩:=len4 (Nat.succ.inj h)
   exact⟨a,b0,b1,b2,b3,rfl⟩
theorem len6{us:List Value}(h:us.length=6):∃a0 a1 a2 a3 a4 a5,us=[a0,a1,a2,a3,a4,a5]:=by
 cases us with
 | nil=>cases h
 | cons a us=>
   obtain⟨b0,b1,b2,b3,b4,rfl⟩:=len5 (Nat.succ.inj h)
   exact⟨a,b0,b1,b2,b3,b4,rfl⟩
theorem len7{us:List Value}(h:us.length=7):∃a0 a1 a2 a3 a4 a5 a6,us=[a0,a1,a2,a3,a4,a5,a6]:=by
 cases us with
 | nil=>cases h
 | cons a us=>
   obtain⟨b0,b1,b2,b3,b4,b5,rfl⟩:=len6 (Nat.succ.inj h)
   exact⟨a,b0,b1,b2,b3,b4,b5,rfl⟩
end
end M
namespace M
open PySem L2
theorem nr{α:Sort _}{a b:α}(h:a=b):a=b:=h
section
variable {ρ:Ro}
@[simp] theorem ap_b2{α:Type}(fa fb:Ro->Option D)(g:D->D->Option α):b2 fa fb g ρ=(fa ρ).bind fun x=>(fb ρ).bind fun y=>g x y:=nr rfl
@[simp] theorem ap_b1{α:Type}(fa:Ro->Option D)(g:D->Option α):b1 fa g ρ=(fa ρ).bind g:=nr rfl
@[simp] theorem ap_kD(d:D):kD d ρ=some d:=nr rfl
@[simp] theorem ap_mB(f:Ro->Option Bool):mB f ρ=(f ρ).map D.bl:=nr rfl
@[simp] theorem ap_andT(f g:Ro->Option Bool):andT f g ρ=(f ρ).bind fun k=>if k=true then g ρ else some false:=nr rfl
@[simp] theorem ap_orT(f g:Ro->Option Bool):orT f g ρ=(f ρ).bind fun k=>if k=true then some true else g ρ:=nr rfl
@[simp] theorem ap_notT(f:Ro->Option Bool):notT f ρ=(f ρ).map (!·):=nr rfl
@[simp] theorem ap_andV(f g:Ro->Option D):andV f g ρ=((f ρ).bind blD).bind fun k=>if k=true then g ρ else some (.bl false):=nr rfl
@[simp] theorem ap_orV(f g:Ro->Option D):orV f g ρ=((f ρ).bind blD).bind fun k=>if k=true then some (.bl true)else g ρ:=nr rfl
@[simp] theorem ap_notV(f:Ro->Option D):notV f ρ=((f ρ).bind blD).map fun k=>.bl (!k):=nr rfl
@[simp] theorem ap_lF(f:Ro->Option (List D)):lF f ρ=(f ρ).map D.lst:=nr rfl
@[simp] theorem ap_aNil:aNil ρ=some []:=nr rfl
@[simp] theorem ap_aCons(f:Ro->Option D)(g:Ro->Option (List D)):Yg f g ρ=(f ρ).bind fun d=>(g ρ).map (d::·):=nr rfl
@[simp] theorem ap_dTup(f:Ro->Option (List D)):dTup f ρ=(f ρ).bind fun l=>if l.length<=cap6 then some (.tup l)else none:=nr rfl
@[simp] theorem ap_dLst(f:Ro->Option (List D)):dLst f ρ=(f ρ).bind fun l=>if l.length<=cap6 then some l else none:=nr rfl
@[simp] theorem ap_cC(f:Ro->Option (List D))(g:List D->Option D):cC f g ρ=(f ρ).bind g:=nr rfl
@[simp] theorem ap_cF(f:Ro->Option (List D))(g:List D->Option (List D)):cF f g ρ=(f ρ).bind g:=nr rfl
@[simp] theorem ap_slF(f:Ro->Option D)(lo hi:Option (Ro->Option D)):slF f lo hi ρ=((f ρ).bind lstD).bind fun l=>(optI lo ρ).bind fun i=>(optI hi ρ).bind fun j=>some (cutD l i j):=nr rfl
@[simp] theorem ap_optN:optI none ρ=some none:=nr rfl
@[simp] theorem ap_optS(f:Ro->Option D):optI (some f) ρ=((f ρ).bind intD).map some:=nr rfl
@[simp] theorem ap_sNil:sNil ρ=some (.nx ρ):=nr rfl
@[simp] theorem ap_sSet(i:Nat)(f:Ro->Option D):sSet i f ρ=(f ρ).map fun d=>.nx (ρ.set i (some (.sh d))):=nr rfl
@[simp] theorem ap_sOwn(i:Nat)(f:Ro->Option (List D)):sOwn i f ρ=(f ρ).map fun l=>.nx (ρ.set i (some (.ow l))):=nr rfl
@[simp] theorem ap_sRet(f:Ro->Option D):sRet f ρ=(f ρ).map .rt:=nr rfl
@[simp] theorem ap_sIf(c:Ro->Option Bool)(f g:Ro->Option Out):sIf c f g ρ=(c ρ).bind fun k=>if k=true then f ρ else g ρ:=nr rfl
@[simp] theorem ap_sMut(i:Nat)(f:Ro->Option D)(g:List D->D->Option (List D)):sMut i f g ρ=(getO i ρ).bind fun l=>(f ρ).bind fun d=>(g l d).map fun l'=>.nx (ρ.set i (some (.ow l'))):=nr rfl
@[simp] theorem ap_sFor(gl:Ro->Option (List D))(gt:D->Ro->Option Ro)(fb:Ro->Option Out):sFor gl gt fb ρ=(gl ρ).bind fun ds=>forM gt fb ds ρ:=nr rfl
@[simp] theorem ap_fComp(gl:Ro->Option (List D))(src:List (Option Nat))(gt:D->Ro->Option Ro)(fc:Ro->Option Bool)(fe:Ro->Option D):Yej gl src gt fc fe ρ=(gl ρ).bind fun ds=>Ydz gt fc fe (capR src ρ) ds:=nr rfl
@[simp] theorem ap_wF(is:List Nat)(f:Ro->Option Out):wF is f ρ=f (frz is ρ):=nr rfl
@[simp] theorem ap_tY:tY ρ=some true:=nr rfl
@[simp] theorem ap_gSet(i:Nat)(d:D):gSet i d ρ=some (ρ.set i (some (.sh d))):=nr rfl
def Yt1(g:Ro->Option Out):Out->Option Out
 | .nx ρ'=>g ρ'
 | o=>some o
@[simp] theorem thenS_nx(g:Ro->Option Out)(ρ':Ro):Yt1 g (.nx ρ')=g ρ':=nr rfl
@[simp] theorem thenS_rt(g:Ro->Option Out)(d:D):Yt1 g (.rt d)=some (.rt d):=nr rfl
@[simp] theorem Ybp(f g:Ro->Option Out):sSeq f g ρ=(f ρ).bind (Yt1 g):=nr rfl
def endB:Out->Option D
 | .rt d=>some d
 | .nx _=>some .non
 | _=>none
@[simp] theorem endB_rt(d:D):endB (.rt d)=some d:=nr rfl
theorem Yba{k n:Nat}{fb:Ro->Option Out}{ds:List D}(h:ds.length=k):runB k n fb ds=(fb (Yj n ds)).bind endB:=by
 unfold runB
 rw[if_pos h]
 rfl
@[simp] theorem ap_ch3(fa fb fc:Ro->Option D)(g g':D->D->Option Bool):ch3 fa fb fc g g' ρ=(fa ρ).bind fun x=>(fb ρ).bind fun y=>(g x y).bind fun k=>if k=true then (fc ρ).bind fun z=>g' y z else some false:=nr rfl
@[simp] theorem frz_nil:frz [] ρ=ρ:=nr rfl
@[simp] theorem frz_cons(i:Nat)(is:List Nat):frz (i::is) ρ=frz is (frz1 i ρ):=nr rfl
end
@[simp] theorem add_int'(i j:Int):addI (.int i) (.int j)=some (.int (i+j)):=nr rfl
@[simp] theorem sub_int'(i j:Int):subI (.int i) (.int j)=some (.int (i - j)):=nr rfl
theorem Yma{i j:Int}(h:-(2 ^ 64) < i/\i < 2 ^ 64):mulI (.int i) (.int j)=some (.int (i * j)):=by
 simp only[mulI,i2]
 rw[if_pos]
 simp only[Bool.or_eq_true,Qb,decide_eq_true_eq]
 exact .inl h
@[simp] theorem Ymb{i j:Int}(h:0 < j)(h':j < 1073741824):divI (.int i) (.int j)=some (.int (i / j)):=by
 simp only[divI,i2]
 rw[if_pos]
 simp only[Qb,decide_eq_true_eq]
 exact⟨h,h'⟩
@[simp] theorem Ye3{i j:Int}(h:0 < j):modI (.int i) (.int j)=some (.int (i % j)):=by
 simp only[modI,i2]
 rw[if_pos]
 simp only[decide_eq_true_eq]
 exact h
@[simp] theorem lt_int'(i j:Int):ltI (.int i) (.int j)=some (decide (i < j)):=nr rfl
@[simp] theorem le_int'(i j:Int):leI (.int i) (.int j)=some (decide (i<=j)):=nr rfl
@[simp] theorem gt_int'(i j:Int):gtI (.int i) (.int j)=some (decide (j < i)):=nr rfl
@[simp] theorem blD_bl(b:Bool):blD (.bl b)=some b:=nr rfl
@[simp] theorem truD_bl(b:Bool):truD (.bl b)=some b:=nr rfl
@[simp] theorem itemsOf_tup(l:List D):Yw (.tup l)=some l:=nr rfl
@[simp] theorem itemsOf_lst(l:List D):Yw (.lst l)=some l:=nr rfl
@[simp] theorem itemsOf_scr(ns:List Int):Yw (.scr ns)=some (ns.map D.int):=nr rfl
@[simp] theorem lenC_one(c:D):lenC [c]=(Yw c).map fun l=>.int l.length:=nr rfl
@[simp] theorem tupC_one(c:D):tupC [c]=(Yw c).map D.tup:=nr rfl
@[simp] theorem listF_one(c:D):Ytf [c]=Yw c:=nr rfl
@[simp] theorem intC_bl(b:Bool):intC [.bl b]=some (.int (if b then 1 else 0)):=nr rfl
@[simp] theorem Yt2(c:D)(i:Int):ixD c (.int i)=(Yw c).bind fun l=>atI l i:=nr rfl
@[simp] theorem lstD_lst(l:List D):lstD (.lst l)=some l:=nr rfl
@[simp] theorem lstD_scr(ns:List Int):lstD (.scr ns)=some (ns.map D.int):=nr rfl
@[simp] theorem intD_int(i:Int):intD (.int i)=some i:=nr rfl
@[simp] theorem negI_int(i:Int):negI (.int i)=some (.int (-i)):=nr rfl
@[simp] theorem Yo8(i j:Int):eqD (.int i) (.int j)=(i==j):=by simp[eqD,toPy,PyData.eqv]
@[simp] theorem Ysa(i j:Bool):eqD (.bl i) (.bl j)=(i==j):=by simp[eqD,toPy,PyData.eqv]
@[simp] theorem Yt3(i j:Str):eqD (.str i) (.str j)=(i==j):=by simp[eqD,toPy,PyData.eqv]
@[simp] theorem Yt4(l m:List D):eqD (.tup l) (.tup m)=eqL l m:=by simp[eqD,eqL,toPy,PyData.eqv]
@[simp] theorem Yt5:eqL [] []=true:=by simp[eqL,Ycy,PyData.eqvAll]
@[simp] theorem Yq1(a b:D)(l m:List D):eqL (a::l) (b::m)=(eqD a b&&eqL l m):=by simp[eqL,eqD,Ycy,PyData.eqvAll]
@[simp] theorem dep_int(i:Int):dep (.int i)=0:=by simp[dep]
@[simp] theorem Ysb(i:Bool):dep (.bl i)=0:=by simp[dep]
@[simp] theorem dep_str(i:Str):dep (.str i)=0:=by simp[dep]
@[simp] theorem dep_non:dep .non=0:=by simp[dep]
@[simp] theorem Yep(l:List D):dep (.tup l)=depL l+1:=by simp[dep]
@[simp] theorem Ymc:depL []=0:=by simp[depL]
@[simp] theorem Yb5(d:D)(l:List D):depL (d::l)=max (dep d) (depL l):=by simp[depL]
theorem Ymd{neg:Bool}{d e:D}(h:dep d<=60)(h':dep e<=60):eqM neg d e=some (if neg then !eqD d e else eqD d e):=by
 unfold eqM
 rw[if_pos ⟨h,h'⟩]
theorem Ysc{neg:Bool}{d c:D}{l:List D}(hc:Yw c=some l)(h:dep d<=60)(h':depL l<=60):inM neg d c=some (if neg then !inD d l else inD d l):=by
 unfold inM
 rw[hc,qc,if_pos ⟨h',h⟩]
@[simp] theorem compM_nil(gt:D->Ro->Option Ro)(fc:Ro->Option Bool)(fe:Ro->Option D)(ρ:Ro):Ydz gt fc fe ρ []=some []:=nr rfl
theorem Ykc{gt:D->Ro->Option Ro}{fc:Ro->Option Bool}{fe:Ro->Option D}{ρ:Ro}{α:Type}(enc:α->D)(p:α->Bool)(f:α->D):∀(l:List α),(∀a∈l,∃ρ1,gt (enc a) ρ=some ρ1/\fc ρ1=some (p a)/\(p a=true->fe ρ1=some (f a)))->
 Ydz gt fc fe ρ (l.map enc)=some ((l.filter p).map f)
 | [],_=>rfl
 | a::l,h=>by
   obtain⟨ρ1,h1,h2,h3⟩:=h a qg
   have ih:=Ykc enc p f l fun b hb=>h b (qf _ hb)
   rw[Qa,Ydz,h1,qc,h2,qc]
   cases hp:p a with
   | true=>
     rw[if_pos rfl,h3 hp,qc,ih,List.filter_cons_of_pos hp]
     rfl
   | false=>rw[if_neg qh,ih,List.filter_cons_of_neg (by rw[hp];exact qh)]
@[simp] theorem atI_zero{α:Type}(a:α)(l:List α):atI (a::l) 0=some a:=by
 have:=Yii (xs:=a::l) (j:=0) (v:=a) rfl
 simpa using this
@[simp] theorem atI_one{α:Type}(a b:α)(l:List α):atI (a::b::l) 1=some b:=by
 have:=Yii (xs:=a::b::l) (j:=1) (v:=b) rfl
 simpa using this
theorem Yw3{α:Type}{l:List α}{i:Int}{j:Nat}{v:α}(hi:i=(j:Int))(h:l[j]?=some v):atI l i=some v:=by
 subst hi
 exact Yii h
theorem Yi0{gt:D->Ro->Option Ro}{fb:Ro->Option Out}{α:Type}(enc:α->D)(I:List α->Ro->Prop):∀(l pre:List α) (ρ:Ro),I pre ρ->
 (∀q a r ρ,pre++l=q++a::r->I q ρ->∃ρ1 ρ2,gt (enc a) ρ=some ρ1/\fb ρ1=some (.nx ρ2)/\I (q++[a]) ρ2)->∃ρ',M.forM gt fb (l.map enc) ρ=some (.nx ρ')/\I (pre++l) ρ'
 | [],pre,ρ,h0,_=>⟨ρ,rfl,by rw[List.append_nil];exact h0⟩
 | a::l,pre,ρ,h0,hs=>by
   obtain⟨ρ1,ρ2,e1,e2,h2⟩:=hs pre a l ρ rfl h0
   obtain⟨ρ',e3,h3⟩:=Yi0 enc I l (pre++[a]) ρ2 h2 fun q b r ρ e hI=>hs q b r ρ (by rw[<-e,List.append_assoc];rfl) hI
   refine⟨ρ',?_,by rw[List.append_assoc]at h3;exact h3⟩
   rw[Qa,M.forM,e1,qc,e2,qc]
   exact e3
theorem Yi1(a n:Int):rngD a n=(List.range (n - a).toNat).map fun i=>D.int (a+(i:Nat)):=rfl
theorem Yi2{n:Int}(h:-1000000<=n)(h':n<=1000000):rng1 [.int n]=some (rngD 0 n):=by
 have hcap:(cap6:Int)=1000000:=by decide
 simp only[rng1]
 rw[if_pos]
 simp only[Qb,decide_eq_true_eq]
 lia
theorem Yme{α:Type}{l:List α}{i:Nat}(h:i < l.length):atI l (i:Int)=some l[i]:=Yii (qp h)
theorem Yt6{α β:Type}(f:α->β)(l:List α)(i:Int):atI (l.map f) i=(atI l i).map f:=by
 unfold atI
 rw[qe]
 cases ixN l.length i with
 | none=>rfl
 | some j=>
   show(l.map f)[j]?=(l[j]?).map f
   rw[qz]
end M
namespace M
open PySem L2
@[simp] theorem eqM_int(neg:Bool)(i j:Int):eqM neg (.int i) (.int j)=some (if neg then !decide (i=j)else decide (i=j)):=by
 rw[Ymd (by simp) (by simp),Yo8];rfl
@[simp] theorem eqM_bl(neg:Bool)(i j:Bool):eqM neg (.bl i) (.bl j)=some (if neg then !(i==j)else i==j):=by
 rw[Ymd (by simp) (by simp),Ysa]
@[simp] theorem isN_non(neg:Bool):isN neg .non .non=some (if neg then false else true):=by cases neg<;>rfl
@[simp] theorem isN_int(neg:Bool)(i:Int):isN neg (.int i) .non=some (if neg then true else false):=by cases neg<;>rfl
@[simp] theorem isN_bl(neg:Bool)(l:Bool):isN neg (.bl l) .non=some (if neg then true else false):=by cases neg<;>rfl
@[simp] theorem Yq2{α:Type}(f:α->Bool):∀l:List α,blsD (l.map fun a=>.bl (f a))=some (l.map f)
 | []=>rfl
 | a::l=>by rw[Qa,blsD,Yq2 f l];rfl
@[simp] theorem Ye4{α:Type}(f:α->Int):∀l:List α,Yco (l.map fun a=>.int (f a))=some (l.map f)
 | []=>rfl
 | a::l=>by rw[Qa,Yco,Ye4 f l];rfl
@[simp] theorem Yo9(l:List Int):Yco (l.map D.int)=some l:=by simpa using Ye4 id l
@[simp] theorem anyC_lst(l:List D):anyC [.lst l]=(blsD l).map fun bs=>.bl (bs.any id):=nr rfl
@[simp] theorem allC_lst(l:List D):allC [.lst l]=(blsD l).map fun bs=>.bl (bs.all id):=nr rfl
@[simp] theorem ap_sMut2{ρ:Ro}(i:Nat)(fi f:Ro->Option D)(g:List D->D->D->Option (List D)):Yoh i fi f g ρ=(f ρ).bind fun d=>(getO i ρ).bind fun l=>(fi ρ).bind fun k=>(g l k d).map fun l'=>.nx (ρ.set i (some (.ow l'))):=nr rfl
@[simp] theorem cap6_eq:cap6=1000000:=nr rfl
@[simp] theorem gV0(d:D)(r:Ro):getV 0 (some (.sh d)::r)=some d:=nr rfl
@[simp] theorem gC0(d:D)(r:Ro):getC 0 (some (.sh d)::r)=some d:=nr rfl
@[simp] theorem gC0o(l:List D)(r:Ro):getC 0 (some (.ow l)::r)=some (.lst l):=nr rfl
@[simp] theorem gO0(l:List D)(r:Ro):getO 0 (some (.ow l)::r)=some l:=nr rfl
@[simp] theorem gVs(n:Nat)(b:Option B)(r:Ro):getV (n+1) (b::r)=getV n r:=by simp[getV]
@[simp] theorem gCs(n:Nat)(b:Option B)(r:Ro):getC (n+1) (b::r)=getC n r:=by simp[getC]
@[simp] theorem gOs(n:Nat)(b:Option B)(r:Ro):getO (n+1) (b::r)=getO n r:=by simp[getO]
@[simp] theorem frz0o(l:List D)(r:Ro):frz1 0 (some (.ow l)::r)=some (.sh (.lst l))::r:=nr rfl
@[simp] theorem frz_s(n:Nat)(b:Option B)(r:Ro):frz1 (n+1) (b::r)=b::frz1 n r:=by
 unfold frz1
 rw[List.getElem?_cons_succ]
 cases h:r[n]? with
 | none=>rfl
 | some o=>
   cases o with
   | none=>rfl
   | some b=>cases b<;>rfl
theorem Ykd{fe:Ro->Option D}{r:Ro}{α:Type}{enc:α->D}(f:α->D){l:List α}(h:∀a∈l,fe (some (.sh (enc a))::r)=some (f a)):Ydz (gSet 0) tY fe (none::r) (l.map enc)=some (l.map f):=by
 have:=Ykc (gt:=gSet 0) (fc:=tY) (fe:=fe) (ρ:=none::r) enc (fun _=>true) f l fun a ha=>⟨_,rfl,rfl,fun _=>h a ha⟩
 rw[List.filter_eq_self.mpr (fun _ _=>rfl)]at this
 exact this
end M
namespace Bk
open PySem L2 M
abbrev Say:=Nat × Bool
inductive Kd where
 | e | s | i | n
 deriving DecidableEq
inductive Rl where
 | ei (l:List Say)
 | su (b:List Nat) (o:Bool)
 | im (b:List Nat) (h:Option Nat)
 deriving DecidableEq
def kS:Kd->Str
 | .e=>Str.ofString "eithers"
 | .s=>Str.ofString "sums"
 | .i=>Str.ofString "ifs"
 | .n=>Str.ofString "nots"
def kdD(k:Kd):D:=.str (kS k)
abbrev nD(n:Nat):D:=.int n
def sayD(s:Say):D:=.tup [.int s.1,.bl s.2]
def optD:Option Nat->D
 | none=>.non
 | some n=>.int n
def rlD:Rl->D
 | .ei l=>.tup (l.map sayD)
 | .su b o=>.tup [.tup (b.map nD),.bl o]
 | .im b h=>.tup [.tup (b.map nD),optD h]
def Yi3(k:Kd)(R:List Rl):D:=.tup [kdD k,.tup (R.map rlD)]
@[simp] theorem dep_kd(k:Kd):dep (kdD k)=0:=by simp[kdD]
@[simp] theorem dep_say(s:Say):dep (sayD s)=1:=by simp[sayD]
@[simp] theorem Ypa(h:Option Nat):dep (optD h)=0:=by cases h<;>simp[optD]
theorem Yw4:∀{k j:Kd},kS k=kS j->k=j:=by
 intro k j
 cases k<;>cases j<;>first | (intro _;rfl) | (intro h;exact absurd h (by decide +kernel))
@[simp] theorem Yw5(k j:Kd):eqD (kdD k) (kdD j)=decide (k=j):=by
 rw[kdD,kdD,Yt3]
 by_cases h:k=j
 ·simp[h]
 ·have h':¬kS k=kS j:=fun e=>h (Yw4 e)
  simp[h,h']
theorem Ysd(neg:Bool)(k j:Kd):eqM neg (kdD k) (kdD j)=some (if neg then !decide (k=j)else decide (k=j)):=by
 rw[Ymd (by simp) (by simp),Yw5]
@[simp] theorem eqM_e(neg:Bool)(k:Kd):eqM neg (kdD k) (.str (Str.ofString "eithers"))=some (if neg then !decide (k=.e)else decide (k=.e)):=Ysd neg k .e
@[simp] theorem eqM_s(neg:Bool)(k:Kd):eqM neg (kdD k) (.str (Str.ofString "sums"))=some (if neg then !decide (k=.s)else decide (k=.s)):=Ysd neg k .s
@[simp] theorem Yw6(a b:Nat):eqD (nD a) (nD b)=decide (a=b):=by
 rw[nD,nD,Yo8]
 by_cases h:a=b
 ·simp[h]
 ·have:¬(a:Int)=b:=by lia
  simp[h,this]
@[simp] theorem Yt7(s t:Say):eqD (sayD s) (sayD t)=decide (s=t):=by
 obtain⟨a,p⟩:=s
 obtain⟨b,q⟩:=t
 have:=Yw6 a b
 simp only[nD]at this
 simp only[sayD,Yt4,Yq1,this,Ysa,Yt5,Bool.and_true]
 by_cases h1:a=b<;>by_cases h2:p=q<;>simp[h1,h2]
theorem Ylb{α:Type} [DecidableEq α] {enc:α->D} (he:∀a b,eqD (enc a) (enc b)=decide (a=b)) (s:α):∀l:List α,inD (enc s) (l.map enc)=decide (s∈l)
 | []=>by simp[inD]
 | t::l=>by
   have ih:=Ylb he s l
   unfold inD at ih ⊢
   rw[Qa,List.any_cons,ih,he]
   by_cases h1:t=s
   ·simp[h1]
   ·have h1':¬s=t:=fun e=>h1 e.symm
    simp[h1,h1']
theorem Ypb:∀{l:List D} {d:D},d∈l->dep d<=depL l
 | e::l,d,h=>by
   rw[Yb5]
   rcases qr h with rfl | h
   ·exact Nat.le_max_left _ _
   ·exact Nat.le_trans (Ypb h) (Nat.le_max_right _ _)
theorem Yfo{n:Nat}:∀{l:List D},(∀d∈l,dep d<=n)->depL l<=n
 | [],_=>by simp
 | d::l,h=>by
   rw[Yb5]
   exact Nat.max_le.mpr ⟨h d qg,Yfo fun e he=>h e (qf _ he)⟩
theorem Yw7{c:D}(s:Say)(l:List Say)(neg:Bool)(hc:Yw c=some (l.map sayD)):inM neg (sayD s) c=some (if neg then !decide (s∈l)else decide (s∈l)):=by
 rw[Ysc hc (by simp) (Yfo fun d hd=>by obtain⟨x,_,rfl⟩:=qw hd;simp),Ylb Yt7]
 by_cases hm:s∈l<;>simp[hm]
theorem in_n{c:D}(s:Nat)(l:List Nat)(neg:Bool)(hc:Yw c=some (l.map nD)):inM neg (nD s) c=some (if neg then !decide (s∈l)else decide (s∈l)):=by
 rw[Ysc hc (by simp) (Yfo fun d hd=>by obtain⟨x,_,rfl⟩:=qw hd;simp),Ylb Yw6]
def at'(ev:List Bool)(n:Nat):Bool:=ev.getD n false
def In(k:Kd)(n:Nat):Rl->Prop
 | .ei l=>k=.e/\∀s∈l,s.1 < n
 | .su b _=>k=.s/\∀x∈b,x < n
 | .im b h=>(k=.i\/k=.n)/\(∀x∈b,x < n)/\∀x,h=some x->x < n
def slt(s t:Say):Prop:=s.1 < t.1\/(s.1=t.1/\s.2=false/\t.2=true)
def Srt:Rl->Prop
 | .ei l=>l.length<=2/\l.Pairwise slt
 | .su b _=>b.Pairwise (· < ·)
 | .im b _=>b.Pairwise (· < ·)
def hd(ev:List Bool)(w:Bool):Option Nat->Bool
 | none=>false
 | some x=>at' ev x==w
def nth(R:List Rl)(i:Nat):Rl:=R.getD i (.ei [])
def so(k:Kd)(ev:List Bool):Rl->Bool
 | .ei l=>l.any fun s=>at' ev s.1==s.2
 | .su b o=>decide ((b.filter (at' ev)).length % 2=1)==o
 | .im b h=>(b.any fun x=>at' ev x != decide (k=.i))||hd ev (decide (k=.i)) h
end Bk
namespace Bk
def brk(k:Kd)(ev:List Bool)(R:List Rl):List Nat:=(List.range R.length).filter fun i=>!so k ev (nth R i)
end Bk
namespace Bk
open PySem L2 M
mutual
def Pl:D->Prop
 | .tup l=>l.length<=1000000/\PlL l
 | .lst _=>False
 | .scr _=>False
 | .dct _ _ _=>False
 | .obj _ _ _=>False
 | .adr _=>False
 | _=>True
def PlL:List D->Prop
 | []=>True
 | d::l=>Pl d/\PlL l
end
theorem PlL_iff:∀{l:List D},PlL l↔∀d∈l,Pl d
 | []=>by simp[PlL]
 | d::l=>by simp[PlL,PlL_iff (l:=l)]
theorem Yw8(s:Say):Pl (sayD s):=by simp[sayD,Pl,PlL]
theorem Yyn(k:Kd):Pl (kdD k):=by simp[kdD,Pl]
theorem Yw9(h:Option Nat):Pl (optD h):=by cases h<;>simp[optD,Pl]
theorem Yxa{b:List Nat}(h:b.length<=1000000):Pl (.tup (b.map nD)):=by
 rw[Pl]
 refine⟨by simpa using h,PlL_iff.mpr fun d hd=>?_⟩
 obtain⟨x,_,rfl⟩:=qw hd
 simp[Pl]
def sz:Rl->Nat
 | .ei l=>l.length
 | .su b _=>b.length
 | .im b _=>b.length
theorem Yyo{r:Rl}(h:sz r<=1000000):Pl (rlD r):=by
 cases r with
 | ei l=>
   rw[rlD,Pl]
   refine⟨by simpa [sz]using h,PlL_iff.mpr fun d hd=>?_⟩
   obtain⟨x,_,rfl⟩:=qw hd
   exact Yw8 x
 | su b o=>
   rw[rlD,Pl]
   exact⟨by simp,Yxa h,by simp[Pl],by simp[PlL]⟩
 | im b o=>
   rw[rlD,Pl]
   exact⟨by simp,Yxa h,Yw9 o,by simp[PlL]⟩
theorem Yt8{k:Kd}{R:List Rl}(h:R.length<=1000000)(hR:∀r∈R,sz r<=1000000):Pl (Yi3 k R):=by
 rw[Yi3,Pl]
 refine⟨by simp,Yyn k,?_,by simp[PlL]⟩
 rw[Pl]
 refine⟨by simpa using h,PlL_iff.mpr fun d hd=>?_⟩
 obtain⟨r,hr,rfl⟩:=qw hd
 exact Yyo (hR r hr)
theorem Yse(b:List Nat):dep (.tup (b.map nD))<=1:=by
 rw[Yep]
 have:depL (b.map nD)<=0:=Yfo fun d hd=>by
  obtain⟨x,_,rfl⟩:=qw hd
  simp
 lia
theorem Yxb(r:Rl):dep (rlD r)<=2:=by
 cases r with
 | ei l=>
   rw[rlD,Yep]
   have:depL (l.map sayD)<=1:=Yfo fun d hd=>by
    obtain⟨x,_,rfl⟩:=qw hd
    simp
   lia
 | su b o=>
   have:=Yse b
   rw[rlD,Yep,Yb5,Yb5,Ymc]
   first | rw[Ysb] | rw[Ypa]
   lia
 | im b o=>
   have:=Yse b
   rw[rlD,Yep,Yb5,Yb5,Ymc]
   first | rw[Ysb] | rw[Ypa]
   lia
theorem Yq3(k:Kd)(R:List Rl):dep (Yi3 k R)<=4:=by
 rw[Yi3,Yep,Yb5,Yb5,Yep]
 have:depL (R.map rlD)<=2:=Yfo fun d hd=>by
  obtain⟨x,_,rfl⟩:=qw hd
  exact Yxb x
 simp
 lia
theorem Ypc{n:Nat}:∀{l:List Nat} {a:Nat},l.Pairwise (· < ·)->(∀x∈l,a<=x/\x < n)->l.length<=n - a
 | [],_,_,_=>Nat.zero_le _
 | x::l,a,h,hl=>by
   have hx:=hl x qg
   have hp:=List.pairwise_cons.mp h
   have ih:=Ypc (n:=n) (l:=l) (a:=x+1) hp.2 fun y hy=>⟨hp.1 y hy,(hl y (qf _ hy)).2⟩
   rw[qq]
   lia
theorem Ysf{n:Nat}{l:List Nat}(h:l.Pairwise (· < ·))(hl:∀x∈l,x < n):l.length<=n:=Ypc (a:=0) h fun x hx=>⟨Nat.zero_le _,hl x hx⟩
theorem Yyp{k:Kd}{n:Nat}{r:Rl}(hi:In k n r)(hs:Srt r):sz r<=n+2:=by
 cases r with
 | ei l=>exact Nat.le_trans hs.1 (by lia)
 | su b o=>exact Nat.le_trans (Ysf hs hi.2) (by lia)
 | im b o=>exact Nat.le_trans (Ysf hs hi.2.1) (by lia)
end Bk
namespace Bk
end Bk
namespace Bk
open PySem L2 M
end Bk
namespace M
open PySem PySem.Spec PyProof.Rows L2
section
def Exc(h:Heap)(ea T:Addr)(C fl:Value):Prop:=
 ∃oe vs oT ts,h.get? ea=some oe/\(oe.cls=C/\vs[2]?=some .none)/\oe.data=.fields vs/\vs[1]?=some (.ref T)/\T≠ea/\h.get? T=some oT/\oT.data=.fields ts/\ts[3]?=some fl
structure XStep(h h':Heap)(ea T:Addr)(fr:List Addr):Prop where
 keep:∀b o,h.get? b=some o->b≠ea->b≠T->b∉fr->h'.get? b=some o
 slot:∀b o,h.get? b=some o->b∈fr->∃sl,h'.get? b=some { o with slots:=sl }
section
variable {M:Model} {A:Around} {E:Value->Shared->Prop} {s:Shared} {env:Env} {outer:List Env} {L ea T:Addr} {C:Value} {base h h' h0:Heap} {Q:Unit->Shared->Prop} {P:Program} {w:World} {H H0:Hp} {fr fs ex:List Addr}
theorem Ypd{oe:Obj}{vs:Array Value}{head:Value}{had:Bool}(hfr:A.frames=some (env::outer))(ff:s.heap.FunFrames base (env::outer))(hf:env.frame=some L)(he:s.heap.get? ea=some oe)(hd:oe.data=.fields vs)(h2:vs[2]?=some .none)
 (hQ:∀h' T',Exc h' ea T' oe.cls (rawInt L)->s.heap.get? T'=none->XStep s.heap h' ea T' (frs (env::outer))->Q () { s with heap:=h' }) :
 wpAny M A (do let a <-frameOf env;let pl <-entryPlaceOf L had;let b <-EntryCells.newEntry head a .none (rawInt L) .none pl;setField (.ref ea) 1 b) Q E s:=by
 have hsz:1 < vs.size:=Nat.lt_of_succ_lt (Array.getElem?_eq_some_iff.mp h2).1
 have hne:ea∉frs (env::outer):=fun hm=>by
  obtain⟨_,o,ho,hn⟩:=ff.mem hm
  rw[he]at ho;cases ho;exact hn vs hd
 refine wpAny_bind (wpAny_frameOf_fun hfr ff hf fun h₁ hs=>?_)
 refine wpAny_bind (wpAny_entryPlaceOf fun pl hpl=>?_)
 unfold EntryCells.newEntry newFields
 refine wpAny_bind (wpAny_newObj_type ?_ (hpl.sizeOk5 _ _ _ _ _))
 have he₁:h₁.get? ea=some oe:=(hs.2.1 ea hne).trans he
 generalize hob:({ cls:=.type "traceback",dict:=none,data:=.fields ([head,.ref L,.none,rawInt L,.none]++(if pl.isEmpty then List.replicate 6 Value.none else pl)).toArray }:Obj)=ob
 have hTe:h₁.objs.size≠ea:=Nat.ne_of_gt (qk he₁)
 have he₂:=qd (h:=h₁) ob he₁
 refine wpAny_setField he₂ hd hsz (hQ _ h₁.objs.size ?_ (Heap.get?_none_of_le (by rw[hs.1];exact qt _)) ⟨fun b o e n1 n2 n3=>?_,fun b o e m=>?_⟩)
 ·have hd₃:=Obj.data_mapFields hd (·.setIfInBounds 1 (Value.ref h₁.objs.size))
  have hT:(h₁.push ob).get? h₁.objs.size=some ob:=qo h₁ (by rw[<-hob];rfl)
  refine⟨_,_,ob,_,Heap.get?_update_self _ he₂ (Obj.isFreed_of_fields hd₃),⟨Obj.cls_mapFields _ _,by rw[Array.getElem?_setIfInBounds_ne (by decide)];exact h2⟩,hd₃,by simp[hsz],hTe,(Heap.get?_update_other _ _ (Ne.symm hTe)).trans hT,by rw[<-hob],by first | (simp;done) | (rcases hpl with rfl | ⟨_,_,_,_,_,_,_,rfl⟩<;>simp)⟩
 ·rw[Heap.get?_update_other _ _ (Ne.symm n1)]
  exact qd _ ((hs.2.1 b n3).trans e)
 ·obtain⟨sl,q⟩:=hs.2.2 b o e
  refine⟨sl,?_⟩
  rw[Heap.get?_update_other _ _ (fun z=>hne (by rw[z];exact m))]
  exact qd _ q
theorem Ype(hfr:A.frames=some (env::outer))(hf:env.frame=some L)(ff:s.heap.FunFrames base (env::outer))(x:Exc s.heap ea T C .none)
 (hQ:∀h' T',Exc h' ea T' C (rawInt L)->(T'=T\/s.heap.get? T'=none)->XStep s.heap h' ea T (frs (env::outer))->Q () { s with heap:=h' }):wpAny M A (noteFrame (.ref ea) env) Q E s:=by
 obtain⟨oe,vs,oT,ts,he,⟨rfl,h2⟩,hd,h1,hne,hT,hdT,h3⟩:=x
 unfold noteFrame
 simp only[hf]
 refine wpAny_bind (wpAny_field he hd h1 ?_)
 rw[if_pos (show(Value.ref T != Value.none)=true from by simp)]
 refine wpAny_bind (wpAny_field hT hdT h3 ?_)
 rw[if_neg (show ¬((Value.none==rawInt L)=true) from by simp[rawInt])]
 refine wpAny_bind (wpAny_setField hT hdT (Array.getElem?_eq_some_iff.mp h3).1 ?_)
 have other:∀b,b≠T->(s.heap.update T (Obj.mapFields (·.setIfInBounds 3 Value.none))).get? b=s.heap.get? b:=fun b hb=>Heap.get?_update_other _ _ (Ne.symm hb)
 have nT:∀b∈frs (env::outer),b≠T:=fun b hb z=>by
  obtain⟨_,o,ho,hn⟩:=ff.mem hb
  rw[z,hT]at ho;cases ho;exact hn ts hdT
 have ff':(s.heap.update T (Obj.mapFields (·.setIfInBounds 3 Value.none))).FunFrames base (env::outer):=ff.of_keeps fun b o hb hn=>⟨o,(other b fun z=>by rw[z,hT]at hb;cases hb;exact hn ts hdT).trans hb,rfl⟩
 refine Ypd hfr ff' hf ((other ea (Ne.symm hne)).trans he) hd h2 fun h' T' x' n st=>?_
 have nT':T'=T\/s.heap.get? T'=none:=by
  by_cases z:T'=T
  ·exact .inl z
  ·exact .inr ((other T' z).symm.trans n)
 refine hQ h' T' x' nT' ⟨fun b o e n1 n2 n3=>st.keep b o ((other b n2).trans e) n1 (fun z=>?_) n3,fun b o e m=>st.slot b o ((other b (nT b m)).trans e) m⟩
 rcases nT' with q | q
 ·exact n2 (z.trans q)
 ·rw[z,q]at e;cases e
theorem Yfp{l:List Env}{fl:Value}(x:Exc s.heap ea T C fl)
 (hQ:∀h',Exc h' ea T C .none->XStep s.heap h' ea T (frs l)->(∀b o,s.heap.get? b=some o->b≠T->h'.get? b=some o)->Q () { s with heap:=h' }) (ff:s.heap.FunFrames base l):wpAny M A (setFlight (.ref ea) none) Q E s:=by
 obtain⟨oe,vs,oT,ts,he,hc,hd,h1,hne,hT,hdT,h3⟩:=x
 have hsz:3 < ts.size:=(Array.getElem?_eq_some_iff.mp h3).1
 unfold setFlight
 refine wpAny_bind (wpAny_field he hd h1 ?_)
 rw[if_pos (show(Value.ref T != Value.none)=true from by simp)]
 have other:∀b,b≠T->(s.heap.update T (Obj.mapFields (·.setIfInBounds 3 ((none:Option Addr).elim Value.none fun f=>rawInt f)))).get? b=s.heap.get? b:=fun b hb=>Heap.get?_update_other _ _ (Ne.symm hb)
 refine wpAny_setField hT hdT hsz (hQ _ ?_ ⟨fun b o e _ n2 _=>(other b n2).trans e,fun b o e m=>⟨o.slots,(other b fun z=>?_).trans e⟩⟩ fun b o e n=>(other b n).trans e)
 ·exact⟨oe,vs,_,_,(other ea (Ne.symm hne)).trans he,hc,hd,h1,hne,Heap.get?_update_self _ hT (Obj.isFreed_of_fields (Obj.data_mapFields hdT _)),Obj.data_mapFields hdT _,by simp[hsz]⟩
 ·obtain⟨_,o',ho,hn⟩:=ff.mem m
  rw[z,hT]at ho;cases ho;exact hn ts hdT
theorem Ye5{h h' base:Heap}:∀{l:List Env},h.FunFrames base l->(∀b∈frs l,∀o,h.get? b=some o->∃sl,h'.get? b=some { o with slots:=sl })->h'.FunFrames base l
 | [],_,_=>trivial
 | env::r,⟨hk,⟨L,o,hf,hn,ho,hd⟩,hr⟩,hb=>by
   have e:frs (env::r)=L::frs r:=by unfold frs;rw[List.filterMap_cons,hf]
   obtain⟨sl,q⟩:=hb L (by rw[e];exact .head _) o ho
   exact⟨hk,⟨L,_,hf,hn,q,hd⟩,Ye5 hr fun b q=>hb b (by rw[e];exact .tail _ q)⟩
theorem Yq4(hfr:A.frames=some (env::outer))(hf:env.frame=some L)(ff:s.heap.FunFrames base (env::outer))(x:Exc s.heap ea T C .none)
 (hQ:∀h' T',Exc h' ea T' C .none->(T'=T\/s.heap.get? T'=none)->XStep s.heap h' ea T (frs (env::outer))->Q () { s with heap:=h' }):wpAny M A (leaving env (.ref ea)) Q E s:=by
 unfold leaving
 refine wpAny_bind (Ype hfr hf ff x fun h1 T1 x1 z1 st1=>?_)
 refine Yfp (base:=base) (l:=env::outer) x1 (fun h2 x2 st2 _=>hQ h2 T1 x2 z1 ⟨fun b o e n1 n2 n3=>?_,fun b o e m=>?_⟩) (Ye5 ff fun b hb o e=>st1.slot b o e hb)
 ·refine st2.keep b o (st1.keep b o e n1 n2 n3) n1 (fun z=>?_) n3
  rcases z1 with q | q
  ·exact n2 (z.trans q)
  ·rw[z,q]at e;cases e
 ·obtain⟨sl,q⟩:=st1.slot b o e m
  obtain⟨sl',q'⟩:=st2.slot b _ q m
  exact⟨sl',q'⟩
theorem Ym5{h:Heap}{args:List Value}(hfr:A.frames=some (env::outer))(hf:env.frame=some L)(ff:h.FunFrames base (env::outer))(hx:Heap.MadeExcOf h s.heap ea C args)
 (hQ:∀h' T',Exc h' ea T' C .none->h.get? T'=none->XStep h h' ea T' (frs (env::outer))->Q () { s with heap:=h' }):wpAny M A (leaving env (.ref ea)) Q E s:=by
 obtain⟨t,he,_,_⟩:=hx.there
 have ff':s.heap.FunFrames base (env::outer):=ff.of_keeps fun b o hb _=>⟨o,hx.keeps b o hb,rfl⟩
 unfold leaving
 refine wpAny_bind ?_
 unfold noteFrame
 simp only[hf]
 refine wpAny_bind (wpAny_field he rfl (x:=.none) rfl ?_)
 rw[if_neg (by decide)]
 refine Ypd hfr ff' hf he rfl rfl fun h1 T1 x1 z1 st1=>?_
 have no:h.get? T1=none:=by
  cases q:h.get? T1 with
  | none=>rfl
  | some o=>rw[hx.keeps _ _ q]at z1;cases z1
 refine Yfp (base:=base) (l:=env::outer) x1 (fun h2 x2 st2 _=>hQ h2 T1 x2 no ⟨fun b o e n1 n2 n3=>?_,fun b o e m=>?_⟩) (Ye5 ff' fun b hb o e=>st1.slot b o e hb)
 ·exact st2.keep b o (st1.keep b o (hx.keeps _ _ e) n1 n2 n3) n1 n2 n3
 ·obtain⟨sl,q⟩:=st1.slot b o (hx.keeps _ _ e) m
  obtain⟨sl',q'⟩:=st2.slot b _ q m
  exact⟨sl',q'⟩
theorem XStep.hok(st:XStep h h' ea T fr)(x:HOk P w H h)(he:H ea=none)(hT:H T=none)(hf:∀b∈fr,H b=none):HOk P w H h':=fun a o e=>by
 refine(x a o e).stay (fun b u hb q=>?_) (fun _ z=>z) fun _ _ z=>z
 have n:H b≠none:=fun z=>by
  rcases hb with rfl | hb
  ·rw[e]at z;cases z
  ·rw[hb]at z;cases z
 exact st.keep b u q (fun z=>n (by rw[z];exact he)) (fun z=>n (by rw[z];exact hT)) fun z=>n (hf b z)
theorem ObjOk.there{a:Addr}{o:HO}(x:ObjOk P w H h a o):∃u,h.get? a=some u:=by
 cases o with
 | lst xs=>obtain⟨_,_,_,_,e⟩:=x;exact⟨_,e⟩
 | tup xs=>obtain⟨_,_,_,u,e,_⟩:=x;exact⟨_,e⟩
 | dK kvs=>obtain⟨_,_,_,_,o,_,_,e,_⟩:=x;exact⟨_,e⟩
 | dT kvs=>obtain⟨_,_,_,_,o,_,_,e,_⟩:=x;exact⟨_,e⟩
 | set S n=>obtain⟨o,_,_,_,e,_⟩:=x;exact⟨_,e⟩
 | ins C dx fs=>obtain⟨_,_,_,e,_⟩:=x;exact⟨_,e⟩
 | own y=>obtain⟨_,e⟩:=x;exact⟨_,e⟩
 | xd fs=>obtain⟨_,⟨_,_,_,e,_⟩,_⟩:=x;exact⟨_,e⟩
 | rng lo hi=>obtain⟨_,_,_,e⟩:=x;exact⟨_,e⟩
 | frz ob u=>obtain⟨e,_⟩:=x;exact⟨_,e⟩
 | tbl ps=>exact⟨_,(show h.get? a=some _ from x)⟩
 | met f y=>exact⟨_,(show h.get? a=some _ from x)⟩
 | ext φ=>obtain⟨_,⟨_,e⟩,_⟩:=x;exact⟨_,e⟩
theorem Ycz(x:HOk P w H h){a:Addr}(e:h.get? a=none):H a=none:=by
 cases q:H a with
 | none=>rfl
 | some o=>
   obtain⟨u,z⟩:=ObjOk.there (x a o q)
   rw[e]at z;cases z
theorem XStep.un(st:XStep h h' ea T fr)(u:Un fs ex H0 H h0 h)(he:h0.get? ea=none)(hT:h0.get? T=none)(hf:∀b∈fr,b∈fs\/h0.get? b=none):Un fs ex H0 H h0 h':=by
 have ne:∀b o,h0.get? b=some o->b≠ea/\b≠T:=fun b o e=>⟨fun z=>(by rw[z,he]at e;cases e),fun z=>(by rw[z,hT]at e;cases e)⟩
 refine⟨fun b o e n m1 m2=>?_,fun b o e n m1 m2=>?_,u.free,fun b o e m=>?_,u.tups,u.frzs,u.tbls⟩
 ·refine st.keep b o (u.keep b o e n m1 m2) (ne b o e).1 (ne b o e).2 fun z=>?_
  rcases hf b z with z | z
  ·exact m1 z
  ·rw[z]at e;cases e
 ·obtain⟨sl,e1⟩:=u.slot b o e n m1 m2
  by_cases z:b∈fr
  ·obtain⟨sl',e2⟩:=st.slot b _ e1 z
   exact⟨sl',e2⟩
  ·exact⟨sl,st.keep b _ e1 (ne b o e).1 (ne b o e).2 z⟩
 ·obtain⟨o',e1⟩:=u.there b o e m
  by_cases z:b∈fr
  ·obtain⟨sl',e2⟩:=st.slot b _ e1 z
   exact⟨_,e2⟩
  ·exact⟨o',st.keep b _ e1 (ne b o e).1 (ne b o e).2 z⟩
end
def CXN(P:Program)(w:World):CXT:=fun outer H s E e s'=>
 ∃ea T H' C,e=.ref ea/\s'.os=s.os/\AllBare s'.gens/\Un (frs outer) [] H H' s.heap s'.heap/\HOk P w H' s'.heap/\Exc s'.heap ea T C .none/\s.heap.get? ea=none/\s.heap.get? T=none/\H' ea=none/\H' T=none/\E C none H'
section
variable {P:Program} {w:World} {K:W.Frag} {mg:Str->Option Value} {base:Heap} {N:List Str} {qual:Str} {scope:Scope} {f:Addr} {cd:Value} {A:Around} {outer:List Env} {s0:Shared} {H0:Hp} {E:XK}
theorem Ycj{X:Cx}{pins:List (Addr × Obj)}{σ:L2.St}{H:Hp}{s:Shared}(I:Inv X pins σ H s)(hx:X.ex=[]){a:Addr}(e:s.heap.get? a=none):X.s₀.heap.get? a=none:=by
 cases q:X.s₀.heap.get? a with
 | none=>rfl
 | some o=>
   obtain⟨o',z⟩:=I.base.there a o q (by rw[hx];exact fun z=>nomatch z)
   rw[e]at z;cases z
theorem Ylc:Yhx (CXN P w) (cxOf (CXN P w) P w K mg base N qual scope f cd A outer s0 H0 E) E:=by
 rintro pins σ H s e s' I ⟨ea,T,H',C,rfl,os,bare,un,hok,x,n1,n2,n3,n4,hE⟩
 have J:=I.call' os un hok bare (fun b z=>nomatch z)
 have e1:=Ycj I rfl n1
 have e2:=Ycj I rfl n2
 show wpAny _ _ (leaving _ _) _ _ _
 refine Yq4 (base:=base) I.ok.frames rfl J.stack x fun h' T' x' hT' st=>?_
 have hT0:s0.heap.get? T'=none:=by
  rcases hT' with rfl | z
  ·exact e2
  ·exact Ycj J rfl z
 have hT1:H' T'=none:=by
  rcases hT' with rfl | z
  ·exact n4
  ·exact Ycz J.hok z
 have fr:∀b∈frs (envOfC qual scope s0.heap.objs.size f cd::outer),b∈frs outer\/s0.heap.get? b=none:=fun b hb=>by
  rcases qr (show b∈s0.heap.objs.size::frs outer from hb)with rfl | hb
  ·exact .inr (Heap.get?_none_of_le (qt _))
  ·exact .inl hb
 exact⟨ea,T',H',C,rfl,J.os,J.bare,st.un J.base e1 e2 fr,st.hok J.hok n3 n4 J.stkFree,x',e1,hT0,n3,hT1,hE⟩
end
end
section
def vM:List Value:=[.type "ValueError",.type "Exception",.type "BaseException",.type "object"]
def mroK(K:W.Frag)(C:Addr):List Value:=match K.lookup C with
 | some ⟨_,_,.cls cd,_⟩=>cd.mro
 | _=>[]
abbrev XC(K:W.Frag)(C:Addr):Prop:=W.excIn K C vM "ValueError.__new__"=true
theorem Yh5{K:W.Frag}{h:Heap}{C:Addr}(X:K.In h)(q:XC K C):∃bm N nm q bs hdct sn sub ab col dd k0 k1 k2 k3 k5 mN,
 h.get? C=some (excClassObj nm q C N bs bm hdct sn sub ab col dd k0 k1 k2 k3 k5 "ValueError.__new__")/\h.Ns N mN/\mN "__init__"=none/\OwnTail h vM bm/\mroK K C=.ref C::bm:=by
 unfold XC W.excIn at q
 split at q
 ·rename_i dd cd sl ho
  split at q
  ·rename_i C' bm k0 k1 k2 k3 n k5 hm hs
   simp only[Qb,beq_iff_eq,Bool.not_eq_true']at q
   obtain⟨⟨⟨⟨⟨rfl,rfl⟩,hdel⟩,ht⟩,hok⟩,hni⟩:=q
   obtain⟨nm,bs,mro,ns,qn,hd,sn,sub,ab,col,del⟩:=cd
   dsimp only at hm hdel hok hni
   subst hm hdel
   have hsl:sl=#[k0,k1,k2,k3,some (.builtin "ValueError.__new__"),k5]:=by
    obtain⟨l⟩:=sl
    simp only at hs
    rw[hs]
   subst hsl
   exact⟨bm,ns,nm,qn,bs,hd,sn,sub,ab,col,dd,k0,k1,k2,k3,k5,_,X _ _ ho,.of_isNs (W.isNs_of_in X hok),W.nsMap_none_of_in X hok hni,W.tail_of_in X ht,by unfold mroK;rw[ho]⟩
  ·cases q
 ·cases q
section
variable {P:Program} {w:World} {K:W.Frag} {mg:Str->Option Value} {base:Heap} {N:List Str} {qual:Str} {scope:Scope} {f:Addr} {cd:Value} {A:Around} {outer:List Env} {s0:Shared} {H0:Hp} {E:XK}
theorem Yq5{C:Addr}{x m:Str}{np p1 cpos pos:Pos}{j:Nat}(hm:mg x=some (.ref C))(hc:XC K C)(hg:Gl (cxOf (CXN P w) P w K mg base N qual scope f cd A outer s0 H0 E) x:=by rfl)(hdb:(x==("__debug__":Str))=false:=by decide)
 (hs:starEach [Expr.Constant (.str m) j p1] (envOfC qual scope s0.heap.objs.size f cd)=[(false,eval (Expr.Constant (.str m) j p1) (envOfC qual scope s0.heap.objs.size f cd))]:=by rfl) :
 PS (cxOf (CXN P w) P w K mg base N qual scope f cd A outer s0 H0 E) (.Raise (some (.Call (.Name x np) [.Constant (.str m) j p1] [] cpos)) none pos) (fun _ _ H=>E (.ref C) none H):=by
 intro pins s σ H D I h
 obtain⟨bm,N',nm,q,bs,hdct,sn,sub,ab,col,dd,k0,k1,k2,k3,k5,mN,hC,hN,hni,T,_⟩:=Yh5 I.kIn hc
 refine wpAny_Raise_call_subT (nm:=nm) (q:=q) (N:=N') (bs:=bs) (hdct:=hdct) (sn:=sn) (sub:=sub) (ab:=ab) (col:=col) (dd:=dd) (k0:=k0) (k1:=k1) (k2:=k2) (k3:=k3) (k5:=k5) (bmB:=vM) PySem.F.excBase_ValueError (T.hasType (by decide)) (I.ok.hd rfl) (by show(backTo cpos (starEach _ (envOfC qual scope s0.heap.objs.size f cd))).any _=false;rw[hs];rfl) hni (Yff I hg hm ⟨rfl,?_⟩ hdb)
 show wpAny _ _ (evalArgs _ _ (backTo cpos (starEach _ (envOfC qual scope s0.heap.objs.size f cd))) _) _ _ _
 rw[hs]
 refine PySem.Calls.evalArgs_plain (PySem.Calls.spliced_cons ?_)
 show wpAny _ _ (eval (Expr.Constant (.str m) j p1) _) _ _ _
 refine PySem.Calls.Constant_str (PySem.Calls.spliced_nil ⟨rfl,by show 1<=sizeLine;decide,hC,hN,T,fun h' ea hx=>?_⟩)
 show wpAny _ _ (leaving _ _) _ _ _
 have ff:s.heap.FunFrames base (envOfC qual scope s0.heap.objs.size f cd::outer):=I.stack
 refine Ym5 (base:=base) (h:=s.heap) I.ok.frames rfl ff hx fun h' T' x' n2 st=>?_
 have e1:=Ycj I rfl hx.new
 have e2:=Ycj I rfl n2
 have n3:=Ycz I.hok hx.new
 have n4:=Ycz I.hok n2
 have fr:∀b∈frs (envOfC qual scope s0.heap.objs.size f cd::outer),b∈frs outer\/s0.heap.get? b=none:=fun b hb=>by
  rcases qr (show b∈s0.heap.objs.size::frs outer from hb)with rfl | hb
  ·exact .inr (Heap.get?_none_of_le (qt _))
  ·exact .inl hb
 exact⟨ea,T',H,.ref C,rfl,I.os,I.bare,st.un I.base e1 e2 fr,st.hok I.hok n3 n4 I.stkFree,x',e1,e2,n3,n4,h⟩
end
end
section
structure Off(X:Cx)(pins:List (Addr × Obj))(H:Hp)(b:Addr):Prop where
 s0:X.s₀.heap.get? b=none
 hp:H b=none
 lo:b≠X.env.locals
 ce:∀x c,X.env.cells.lookup x=some c->c≠b
 pi:∀p∈X.pn++pins,p.1≠b
section
variable {X:Cx} {pins:List (Addr × Obj)} {σ:L2.St} {H H':Hp} {s:Shared} {b ea T:Addr} {h':Heap}
theorem Off.of(I:Inv X pins σ H s)(hx:X.ex=[])(e:s.heap.get? b=none)(hp:H' b=none):Off X pins H' b where
 s0:=Ycj I hx e
 hp:=hp
 lo:=fun z=>by
  obtain⟨m,⟨o,_,_,q,_⟩,_⟩:=I.loc
  rw[z,q]at e;cases e
 ce:=fun x c q z=>by
  obtain⟨v,o,q2,_⟩:=I.cell x c q
  rw[<-z,q2]at e;cases e
 pi:=fun p hp z=>by
  have:=(I.pin p hp).1
  rw[z,e]at this;cases this
theorem Off.none(I:Inv X pins σ H s)(hx:X.ex=[])(e:s.heap.get? b=none):Off X pins H b:=Off.of I hx e (Ycz I.hok e)
theorem Yld(I:Inv X pins σ H s)(st:XStep s.heap h' ea T (frs X.stack))(oe:Off X pins H ea)(oT:Off X pins H T):Inv X pins σ H { s with heap:=h' }:=by
 have fr:∀b∈frs X.stack,b∈X.fs\/X.s₀.heap.get? b=none:=fun b hb=>by
  rcases qr (I.stkSub b hb)with rfl | hb
  ·exact .inr (Heap.get?_none_of_le I.ok.above)
  ·exact .inl hb
 have any:∀b o,s.heap.get? b=some o->b≠ea->b≠T->∃sl,h'.get? b=some { o with slots:=sl }:=fun b o e n1 n2=>by
  by_cases z:b∈frs X.stack
  ·exact st.slot b o e z
  ·exact⟨o.slots,st.keep b o e n1 n2 z⟩
 have cellK:∀x c,X.env.cells.lookup x=some c->∀v,s.heap.IsCell c v->h'.IsCell c v:=fun x c e v ⟨o,ho,hd⟩=>by
  obtain⟨sl,q⟩:=any c o ho (oe.ce x c e) (oT.ce x c e)
  exact⟨_,q,hd⟩
 refine⟨I.ok,I.os,I.bare,st.un I.base oe.s0 oT.s0 fr,?_,fun x c e=>?_,I.free,I.freeC,fun p hp=>?_,st.hok I.hok oe.hp oT.hp I.stkFree,I.len⟩
 ·obtain⟨m,⟨o,es,ep,ho,r⟩,hl⟩:=I.loc
  obtain⟨sl,q⟩:=any _ o ho (Ne.symm oe.lo) (Ne.symm oT.lo)
  refine⟨m,⟨_,es,ep,q,r⟩,fun i x v e1 e2 e3=>?_⟩
  obtain⟨u,r,l⟩:=hl i x v e1 e2 e3
  refine⟨u,r,?_⟩
  rcases l with l | ⟨k,c,e,z⟩
  ·exact .inl l
  ·exact .inr ⟨k,c,e,cellK x c e _ z⟩
 ·obtain⟨v,z⟩:=I.cell x c e
  exact⟨v,cellK x c e v z⟩
 ·obtain⟨e,n,ne,nf,d⟩:=I.pin p hp
  refine⟨st.keep p.1 p.2 e (oe.pi p hp) (oT.pi p hp) fun z=>?_,n,ne,nf,d⟩
  rcases qr (I.stkSub _ z)with q | q
  ·exact ne q
  ·exact nf q
end
abbrev Cx.mk(X:Cx)(ea:Addr)(pn:List (Addr × Obj)):Cx:={ X with A:=X.A.mark (some (.ref ea)),calm:=false,pn:=pn++X.pn,xe:=fun _ _=>False }
section
variable {X:Cx} {pins pn:List (Addr × Obj)} {σ:L2.St} {H:Hp} {s:Shared} {ea:Addr}
theorem Inv.mk(I:Inv X pins σ H s)(hp:∀p∈pn,s.heap.get? p.1=some p.2/\H p.1=none/\p.1≠X.env.locals/\p.1∉X.fs/\∀v,p.2.data≠.cell v):Inv (Cx.mk X ea pn) pins σ H s:=
 ⟨⟨I.ok.mod,I.ok.kind,I.ok.glob,I.ok.blt,I.ok.above,I.ok.inj,I.ok.has,I.ok.cab,(fun z=>nomatch z),I.ok.frames,I.ok.stk,I.ok.exf,I.ok.bs,I.ok.bsz,I.ok.noex,I.ok.exfs,I.ok.funs,I.ok.frf⟩,I.os,I.bare,I.base,I.loc,I.cell,I.free,I.freeC,fun p q=>by
  rcases qu (show p∈(pn++X.pn)++pins from q)with q | q
  ·rcases qu q with q | q
   ·exact hp p q
   ·exact I.pin p (List.mem_append.mpr (.inl q))
  ·exact I.pin p (List.mem_append.mpr (.inr q)),I.hok,I.len⟩
theorem Inv.unmk(ok:X.Ok)(I:Inv (Cx.mk X ea pn) pins σ H s):Inv X pins σ H s:=
 ⟨ok,I.os,I.bare,I.base,I.loc,I.cell,I.free,I.freeC,fun p q=>I.pin p (by
  rcases qu q with q | q
  ·exact List.mem_append.mpr (.inl (List.mem_append.mpr (.inr q)))
  ·exact List.mem_append.mpr (.inr q)),I.hok,I.len⟩
theorem Ypf(ok:X.Ok){D:Ends}{fl:Flow}{s':Shared}(h:SP (Cx.mk X ea pn) pins D fl s'):SP X pins D fl s':=by
 cases fl with
 | next=>obtain⟨σ',H',I,q⟩:=h;exact⟨σ',H',Inv.unmk ok I,q⟩
 | brk=>obtain⟨σ',H',I,q⟩:=h;exact⟨σ',H',Inv.unmk ok I,q⟩
 | cont=>obtain⟨σ',H',I,q⟩:=h;exact⟨σ',H',Inv.unmk ok I,q⟩
 | ret u=>obtain⟨v,σ',H',I,r,q⟩:=h;exact⟨v,σ',H',Inv.unmk ok I,r,q⟩
end
theorem Yg5{K:W.Frag}{M:Model}{A:Around}{E:Value->Shared->Prop}{s:Shared}{e B C:Addr}{oe:Obj}{Q:Bool->Shared->Prop}(X:K.In s.heap)(hB:XC K B)(hC:XC K C)(he:s.heap.get? e=some oe)(hcls:oe.cls=.ref C)
 (hq:Q ((mroK K C).contains (.ref B)) s):wpAny M A (excMatches (.ref e) (.ref B)) Q E s:=by
 obtain⟨bm,N,nm,q,bs,hdct,sn,sub,ab,col,dd,k0,k1,k2,k3,k5,mN,oC,_,_,T,em⟩:=Yh5 X hC
 obtain⟨bm',N',nm',q',bs',hdct',sn',sub',ab',col',dd',l0,l1,l2,l3,l5,mN',oB,_,_,T',em'⟩:=Yh5 X hB
 rw[em]at hq
 obtain⟨hp,g,d,t,os⟩:=s
 have hcB:(Value.ref B::bm').contains (.type "BaseException")=true:=by rw[List.contains_cons,T'.hasType (show vM.contains (.type "BaseException")=true by decide),Bool.or_true]
 have f:=tc_notTuple
 unfold excMatches
 repeat (first | (with_reducible refine wpAny_loadPart_at he ?_;rw[hcls]) | with_reducible refine wpAny_loadPart_at oB ?_ | (with_reducible refine wpAny_isSubtype_exc oB ?_;rw[hcB]) | with_reducible refine wpAny_isSubtype_exc oC ?_ | wp_step)
 all_goals (generalize (Value.ref C::bm).contains (.ref B)=z at *;cases z<;>(wp_walk;first | exact hq | done))
end
section
section
variable {X:Cx} {pins:List (Addr × Obj)} {σ:L2.St} {H:Hp} {s:Shared} {ea T:Addr} {C:Value} {M:Model} {E:Value->Shared->Prop} {Q:Flow->Shared->Prop} {hs:List ExceptHandler}
theorem Ymf{h':Heap}{T':Addr}(I:Inv X pins σ H s)(hx:X.ex=[])(oT:Off X pins H T)(z:T'=T\/s.heap.get? T'=none):Off X pins H T':=by
 rcases z with rfl | z
 ·exact oT
 ·exact Off.none I hx z
theorem Ysg(hx:X.ex=[])(hst:X.stack=X.env::X.outer)(hf:X.env.frame=some X.env.locals)(I:Inv X pins σ H s)(x:Exc s.heap ea T C .none)(oe:Off X pins H ea)(oT:Off X pins H T)
 (k:∀h' T',Inv X pins σ H { s with heap:=h' }->Exc h' ea T' C .none->Off X pins H T'->wpAny M X.A (handleBy (.ref ea) X.env hs) Q E { s with heap:=h' }) :
 wpAny M X.A (noteFrame (.ref ea) X.env) (fun _ s₂=>wpAny M X.A (setFlight (.ref ea) none) (fun _ s₃=>wpAny M X.A (handleBy (.ref ea) X.env hs) Q E s₃) E s₂) E s:=by
 have ff:=I.stack
 rw[hst]at ff
 refine Ype (by rw[I.ok.frames,hst]) hf ff x fun h1 T1 x1 z1 st1=>?_
 rw[<-hst]at st1
 have I1:=Yld I st1 oe oT
 have oT1:=Ymf (h':=h1) I hx oT z1
 refine Yfp (base:=X.base) (l:=X.stack) x1 (fun h2 x2 st2 _=>?_) I1.stack
 exact k h2 T1 (Yld (s:={ s with heap:=h1 }) I1 st2 oe oT1) x2 oT1
def Xo(ob:Obj)(C:Value):Prop:=ob.cls=C/\∃vs,ob.data=.fields vs/\vs[2]?=some .none
theorem Ymg(I:Inv X pins σ H s)(x:Exc s.heap ea T C .none)(oe:Off X pins H ea):∃ob,Xo ob C/\∀p∈[(ea,ob)],s.heap.get? p.1=some p.2/\H p.1=none/\p.1≠X.env.locals/\p.1∉X.fs/\∀v,p.2.data≠.cell v:=by
 obtain⟨ob,vs,oT,ts,h1,h2,h3,_⟩:=x
 refine⟨ob,⟨h2.1,vs,h3,h2.2⟩,fun p hp=>?_⟩
 obtain rfl:p=(ea,ob):=by simpa using hp
 refine⟨h1,oe.hp,oe.lo,fun z=>?_,fun v z=>?_⟩
 ·obtain⟨_,o,q,_⟩:=I.ok.funs.mem z
  rw[oe.s0]at q;cases q
 ·rw[h3]at z;cases z
end
section
variable {X:Cx} {pins:List (Addr × Obj)} {σ:L2.St} {H:Hp} {s:Shared} {ea T B C f:Addr} {E:Value->Shared->Prop} {Q:Flow->Shared->Prop} {rest:List ExceptHandler} {y n x:Str} {np hpos p cpos pos1 pos:Pos} {b₀:Stmt} {suite:List Stmt} {k:Nat} {fd:FuncData} {ps:List Str} {sp:Sp} {e:Expr} {es:List Expr} {t:TA} {ts:TS}
theorem Yle(hx:X.ex=[])(I:Inv X pins σ H s)(x:Exc s.heap ea T (.ref C) .none)(oe:Off X pins H ea)(oT:Off X pins H T)(hB:XC X.K B)(hC:XC X.K C)(hy:X.mg y=some (.ref B))(hg:Gl X y)(hin:(mroK X.K C).contains (.ref B)=true)(hdb:(y==("__debug__":Str))=false)
 (k:∀s' ob,Xo ob (.ref C)->Inv (Cx.mk X ea [(ea,ob)]) pins σ H s'->wpAny (model X.prog X.w) (X.A.mark (some (.ref ea))) (execs (b₀::suite) X.env) Q (fun _ _=>False) s') :
 wpAny (model X.prog X.w) X.A (handleBy (.ref ea) X.env (.ExceptHandler (some (.Name y np)) none (b₀::suite) hpos::rest)) Q E s:=by
 obtain⟨ob,hcl,hp⟩:=Ymg I x oe
 have he:=(hp _ (.head _)).1
 have J:=Inv.mk (ea:=ea) I hp
 refine wpAny_handleBy_cons (codeAny_handlers_test (Yff (X:=Cx.mk X ea [(ea,ob)]) J hg hy ?_ hdb)) (by intro q;cases q)
 refine Yg5 I.kIn hB hC he hcl.1 ?_
 rw[hin]
 refine codeAny_handlers_suite ?_
 refine Yfp (base:=X.base) (l:=X.stack) x (fun h2 x2 st2 _=>?_) I.stack
 have I2:=Yld I st2 oe oT
 obtain⟨ob2,hcl2,hp2⟩:=Ymg I2 x2 oe
 exact wpAny_mono (k _ ob2 hcl2 (Inv.mk I2 hp2)) (fun _ _ z=>z) fun _ _ z=>z.elim
theorem Ypg{i:Nat}(hx:X.ex=[])(I:Inv X pins σ H s)(x:Exc s.heap ea T (.ref C) .none)(oe:Off X pins H ea)(oT:Off X pins H T)(hB:XC X.K B)(hC:XC X.K C)(hy:X.mg y=some (.ref B))(hg:Gl X y)(hin:(mroK X.K C).contains (.ref B)=true)(hdb:(y==("__debug__":Str))=false)
 (hN:X.N.Nodup) (hi:X.N[i]?=some n) (hl:Loc X.env.scope n) (hf:X.fn n=true\/X.env.scope.names.lookup n=some .local)
 (k:∀s' ob,Xo ob (.ref C)->Inv (Cx.mk X ea [(ea,ob)]) pins (σ.set i (some (V.ref ea))) H s'->wpAny (model X.prog X.w) (X.A.mark (some (.ref ea))) (execs (b₀::suite) X.env) (fun f s₄=>wpAny (model X.prog X.w) X.A (do bindName X.env n .none;unbindBehindTheSuite X.env n hpos) (fun _ s₅=>Q f s₅) E s₄) (fun _ _=>False) s') :
 wpAny (model X.prog X.w) X.A (handleBy (.ref ea) X.env (.ExceptHandler (some (.Name y np)) (some n) (b₀::suite) hpos::rest)) Q E s:=by
 obtain⟨ob,hcl,hp⟩:=Ymg I x oe
 have he:=(hp _ (.head _)).1
 have J:=Inv.mk (ea:=ea) I hp
 refine wpAny_handleBy_cons (codeAny_handlers_test (Yff (X:=Cx.mk X ea [(ea,ob)]) J hg hy ?_ hdb)) (by intro q;cases q)
 refine Yg5 I.kIn hB hC he hcl.1 ?_
 rw[hin]
 refine codeAny_handlers_suite_as ?_
 refine Yfp (base:=X.base) (l:=X.stack) x (fun h2 x2 st2 _=>?_) I.stack
 have I2:=Yld I st2 oe oT
 obtain⟨ob2,hcl2,hp2⟩:=Ymg I2 x2 oe
 refine Yih (X:=Cx.mk X ea [(ea,ob2)]) (v:=V.ref ea) (Inv.mk I2 hp2) hN hi hl rfl (fun s' I'=>?_) hf
 exact wpAny_mono (k _ ob2 hcl2 I') (fun _ _ z=>z) fun _ _ z=>z.elim
theorem Yph{i:Nat}{Q:Unit->Shared->Prop}{M:Model}(I:Inv X pins σ H s)(hN:X.N.Nodup)(hi:X.N[i]?=some n)(hl:X.env.kindOf n=some .local)(k:∀s',Inv X pins (σ.set i none) H s'->Q () s') :
 wpAny M X.A (do bindName X.env n .none;unbindBehindTheSuite X.env n hpos) Q E s:=by
 obtain⟨m,hn,hlk⟩:=id I.loc
 refine wpAny_nameGoes_keeps hl hn (by rw[I.ok.kind];rfl) fun h' v hn' sb=>k _ ?_
 have cne:=I.cne
 have hiσ:i < σ.length:=by rw[I.len];exact(qm hi).1
 refine⟨I.ok,I.os,I.bare,⟨fun b o e n hb hx=>?_,fun b o e n hb hx=>?_,I.base.free,fun b o e hx=>?_,I.base.tups,I.base.frzs,I.base.tbls⟩,⟨_,hn',fun j y v' e1 e2 e3=>?_⟩,fun y c e=>?_,I.free,I.freeC,fun p hp=>?_,fun b ob e=>?_,by rw[List.length_set];exact I.len⟩
 ·exact(sb.2 b (ql (qx (qk e) I.ok.above))).trans (I.base.keep b o e n hb hx)
 ·obtain⟨sl,e1⟩:=I.base.slot b o e n hb hx
  exact⟨sl,(sb.2 b (ql (qx (qk e) I.ok.above))).trans e1⟩
 ·obtain⟨o',e1⟩:=I.base.there b o e hx
  exact⟨o',(sb.2 b (ql (qx (qk e) I.ok.above))).trans e1⟩
 ·by_cases hj:j=i
  ·subst hj
   rw[List.getElem?_set_self hiσ]at e2
   cases e2
  ·rw[qy (Ne.symm hj)]at e2
   obtain⟨u',r',q⟩:=hlk j y v' e1 e2 e3
   refine⟨u',r',?_⟩
   rcases q with⟨k,e⟩ | ⟨k,c,e,z⟩
   ·refine .inl ⟨k,?_⟩
    have:y≠n:=fun e=>hj (Yig hN e1 (e ▸ hi))
    simp[this,e]
   ·exact .inr ⟨k,c,e,z.sameBut sb (cne y c e)⟩
 ·obtain⟨w',z⟩:=I.cell y c e
  exact⟨w',z.sameBut sb (cne y c e)⟩
 ·obtain⟨e,n,ne,nf,d⟩:=I.pin p hp
  exact⟨(sb.2 p.1 ne).trans e,n,ne,nf,d⟩
 ·refine(I.hok b ob e).stay (fun c w' hc q=>(sb.2 c ?_).trans q) (fun _ q=>q) fun _ _ q=>q
  rintro rfl
  rcases hc with rfl | hc
  ·rw[I.free]at e;cases e
  ·rw[I.free]at hc;cases hc
theorem Ymh{pins:List (Addr × Obj)}{σ:L2.St}{H:Hp}{s:Shared}{Q:VK}{E:XK}{XE:Value->Shared->Prop}(hxe:∀e s,¬X.xe e s)(F:FnOk X.prog X.w X.K X.mg X.base (CXN X.prog X.w) k f fd ps sp)(hr:Room k X.A)(hg:Gl X x)(hm:X.mg x=some (.ref f))(hk:W.keepIn X.K (.ref f)=true)(hb:Binds X.K fd ps [])
 (ha:PA X (e::es) t) (hdb:(x==("__debug__":Str))=false) (he:starEach (e::es) X.env=(false,eval e X.env)::starEach es X.env) (hpl:(backTo cpos (starEach es X.env)).any (·.1)=false)
 (I:Inv X pins σ H s) (h:t σ H fun vs H1=>sp vs H1 Q E) (hE:∀H1 s1 e s',Inv X pins σ H1 s1->CXN X.prog X.w X.stack H1 s1 E e s'->XE e s') :
 wpAny (model X.prog X.w) X.A (eval (.Call (.Name x p) (e::es) [] cpos) X.env) (EP X pins σ Q) XE s:=by
 refine wpAny_Call_Name_kw (Yff I hg hm ?_ hdb)
 refine W.callWith_K (h₀:=X.base) I.ok.mod.kin hk (wpAny_mono (ha cpos pins s σ H _ I h) (fun us s1 ⟨vs,H1,I1,r,q⟩=>⟨I1.kIn,?_⟩) fun e s z=>(hxe e s z).elim) he hpl
 have hl:(us++[]).length=ps.length:=by rw[List.append_nil,<-r.length];exact F.len _ _ _ _ q
 refine wpAny_call (codeAny_mono (F.run X.A X.stack s1 H1 ⟨us,[]⟩ us vs Q E hr I1.env0 (by have:=hb s1 us I1.kIn hl;rwa [List.append_nil]at this) r q) fun r s' hq=>?_)
 cases r with
 | error e=>exact hE H1 s1 e s' I1 hq
 | ok fl=>
   cases fl with
   | ret u=>exact I1.after hq
   | next=>exact False.elim hq
   | brk=>exact False.elim hq
   | cont=>exact False.elim hq
theorem Yt9(hxe:∀e s,¬X.xe e s)(hx:X.ex=[])(hst:X.stack=X.env::X.outer)(hfr:X.env.frame=some X.env.locals)(F:FnOk X.prog X.w X.K X.mg X.base (CXN X.prog X.w) k f fd ps sp)(hr:Room k X.A)(hg:Gl X x)(hm:X.mg x=some (.ref f))(hk:W.keepIn X.K (.ref f)=true)(hb:Binds X.K fd ps [])
 (ha:PA X (e::es) t) (hB:XC X.K B) (hC:XC X.K C) (hy:X.mg y=some (.ref B)) (hgy:Gl X y) (hin:(mroK X.K C).contains (.ref B)=true) (hs:∀ea ob,Xo ob (.ref C)->PSs (Cx.mk X ea [(ea,ob)]) (b₀::suite) ts)
 (hdb:(x==("__debug__":Str))=false:=by decide) (hdy:(y==("__debug__":Str))=false:=by decide) (he:starEach (e::es) X.env=(false,eval e X.env)::starEach es X.env:=by rfl) (hpl:(backTo cpos (starEach es X.env)).any (·.1)=false:=by rfl) (hsw:swapsWith (.Call (.Name x p) (e::es) [] cpos) none pos1.line X.env=pure false:=by rfl) :
 PS X (.Try [.Expr (.Call (.Name x p) (e::es) [] cpos) pos1] [.ExceptHandler (some (.Name y np)) none (b₀::suite) hpos] [] [] pos) (fun D σ H=>t σ H fun vs H1=>sp vs H1 (fun _ H2=>D.nx σ H2) fun C' _ H2=>C'=.ref C/\ts D σ H2):=by
 intro pins s σ H D I h
 refine wpAny_Try_except (wpAny_execs_cons (wpAny_Expr_any (wpAny_mono (Ymh hxe F hr hg hm hk hb ha hdb he hpl I h fun H1 s1 e s' I1 z=>?_) (fun v s1 q=>?_) fun _ _ z=>z) I.quiet hsw))
 ·obtain⟨ea,T,H',C',rfl,os,bare,un,hok,x0,n1,n2,n3,n4,rfl,hts⟩:=z
  have J:=I1.call' os un hok bare (fun b z=>nomatch z)
  refine Ysg hx hst hfr J x0 (Off.of I1 hx n1 n3) (Off.of I1 hx n2 n4) fun h' T' I2 x2 o2=>?_
  refine Yle hx I2 x2 (Off.of I1 hx n1 n3) o2 hB hC hy hgy hin hdy fun s3 ob hc I3=>?_
  exact wpAny_mono (hs ea ob hc pins s3 σ H' D I3 hts) (fun _ _ q=>Ypf I.ok q) fun _ _ z=>z
 ·obtain⟨v',H1,I1,r1,q1⟩:=q
  exact wpAny_execs_nil (wpAny_execs_nil ⟨σ,H1,I1,q1⟩)
theorem Yua{i:Nat}(hxe:∀e s,¬X.xe e s)(hx:X.ex=[])(hst:X.stack=X.env::X.outer)(hfr:X.env.frame=some X.env.locals)(F:FnOk X.prog X.w X.K X.mg X.base (CXN X.prog X.w) k f fd ps sp)(hr:Room k X.A)(hg:Gl X x)(hm:X.mg x=some (.ref f))(hk:W.keepIn X.K (.ref f)=true)(hb:Binds X.K fd ps [])
 (ha:PA X (e::es) t) (hB:XC X.K B) (hC:XC X.K C) (hy:X.mg y=some (.ref B)) (hgy:Gl X y) (hin:(mroK X.K C).contains (.ref B)=true) (hN:X.N.Nodup) (hs:∀ea ob,Xo ob (.ref C)->PSs (Cx.mk X ea [(ea,ob)]) (b₀::suite) (fun D σ H=>∃σ',σ=σ'.set i (some (V.ref ea))/\σ'.length=σ.length/\ts { nx:=fun σ2 H2=>D.nx σ2 H2,rt:=fun _ _=>False } σ' H))
 (hi:X.N[i]?=some n:=by rfl) (hl:X.env.kindOf n=some .local:=by rfl) (hdb:(x==("__debug__":Str))=false:=by decide) (hdy:(y==("__debug__":Str))=false:=by decide) (he:starEach (e::es) X.env=(false,eval e X.env)::starEach es X.env:=by rfl) (hpl:(backTo cpos (starEach es X.env)).any (·.1)=false:=by rfl) (hsw:swapsWith (.Call (.Name x p) (e::es) [] cpos) none pos1.line X.env=pure false:=by rfl) :
 PS X (.Try [.Expr (.Call (.Name x p) (e::es) [] cpos) pos1] [.ExceptHandler (some (.Name y np)) (some n) (b₀::suite) hpos] [] [] pos) (fun D σ H=>t σ H fun vs H1=>sp vs H1 (fun _ H2=>D.nx σ H2) fun C' _ H2=>C'=.ref C/\ts { nx:=fun σ2 H3=>D.nx (σ2.set i none) H3,rt:=fun _ _=>False } σ H2):=by
 intro pins s σ H D I h
 refine wpAny_Try_except (wpAny_execs_cons (wpAny_Expr_any (wpAny_mono (Ymh hxe F hr hg hm hk hb ha hdb he hpl I h fun H1 s1 e s' I1 z=>?_) (fun v s1 q=>?_) fun _ _ z=>z) I.quiet hsw))
 ·obtain⟨ea,T,H',C',rfl,os,bare,un,hok,x0,n1,n2,n3,n4,rfl,hts⟩:=z
  have J:=I1.call' os un hok bare (fun b z=>nomatch z)
  refine Ysg hx hst hfr J x0 (Off.of I1 hx n1 n3) (Off.of I1 hx n2 n4) fun h' T' I2 x2 o2=>?_
  refine Ypg hx I2 x2 (Off.of I1 hx n1 n3) o2 hB hC hy hgy hin hdy hN hi (.inl hl) (.inr hl) fun s3 ob hc I3=>?_
  refine wpAny_mono (hs ea ob hc pins s3 _ H' { nx:=fun σ2 H3=>D.nx (σ2.set i none) H3,rt:=fun _ _=>False } I3 ⟨σ,rfl,by rw[List.length_set],hts⟩) (fun fl s4 q=>?_) fun _ _ z=>z
  have q':=Ypf I.ok q
  cases fl with
  | next=>
    obtain⟨σ4,H4,I4,q4⟩:=q'
    exact Yph I4 hN hi hl fun s5 I5=>⟨_,H4,I5,q4⟩
  | brk=>obtain⟨_,_,_,q4⟩:=q';exact False.elim q4
  | cont=>obtain⟨_,_,_,q4⟩:=q';exact False.elim q4
  | ret u=>obtain⟨_,_,_,_,_,q4⟩:=q';exact False.elim q4
 ·obtain⟨v',H1,I1,r1,q1⟩:=q
  exact wpAny_execs_nil (wpAny_execs_nil ⟨σ,H1,I1,q1⟩)
end
end
section
def qN:List Str:=["__getattribute__","__getattr__","__class__"]
inductive TailN (h:Heap) (bmB:List Value):List Value->Prop
 | base:TailN h bmB bmB
 | own {A:Addr} {c0:Value} {dd:Option Addr} {cd:ClassData} {sl:Array (Option Value)} {mA:Str->Option Value} {tl:List Value} :
  h.get? A=some { cls:=c0,dict:=dd,data:=.cls cd,slots:=sl }->h.Ns cd.ns mA->(∀n∈qN,mA n=none)->TailN h bmB tl->TailN h bmB (.ref A::tl)
def Ypi(K:W.Frag)(bmB:List Value):List Value->Bool
 | []=>bmB==[]
 | v::r=>(v::r)==bmB||match v with
   | .ref A=>(match K.lookup A with
     | some ⟨_,_,.cls cd,_⟩=>W.nsOkIn K cd.ns&&qN.all (fun n=>W.nsIn K cd.ns n==some none)&&Ypi K bmB r
     | _=>false)
   | _=>false
theorem Ymi{K:W.Frag}{h:Heap}{bmB:List Value}(X:K.In h):∀{l:List Value},Ypi K bmB l=true->TailN h bmB l
 | [],e=>by rw[<-beq_iff_eq.mp e];exact .base
 | v::r,e=>by
   unfold Ypi at e
   rcases Bool.or_eq_true_iff.mp e with q | q
   ·rw[beq_iff_eq.mp q];exact .base
   ·split at q
    ·split at q
     ·rename_i ho
      simp only[Qb]at q
      exact .own (X _ _ ho) (.of_isNs (W.isNs_of_in X q.1.1)) (fun n hn=>W.nsMap_none_of_in X q.1.1 (beq_iff_eq.mp (List.all_eq_true.mp q.1.2 n hn))) (Ymi X q.2)
     ·cases q
    ·cases q
abbrev XQ(K:W.Frag)(C:Addr):Prop:=Ypi K vM (mroK K C)=true
section
variable {prog:Program} {w:World} {A:Around} {E:Value->Shared->Prop} {h:Heap} {g:Array GenState} {d:Drawn} {t:Nat} {os:OsState} {a:Addr} {o:Obj}
 {nm q:Str} {C N:Addr} {bs bm:List Value} {hdct:Bool} {sn:List Str} {sub:List Value} {ab:Bool} {col:Option Bool} {dd:Option Addr} {k0 k1 k2 k3 k5:Option Value} {newId:String}
theorem Yub{M:Model}{tl bmB:List Value}{n:Str}{y:Option Value}{Q:Option Value->Shared->Prop}(hn:n∈qN)(T:TailN h bmB tl)(hrest:lookupAlong bmB n=pure y)(hq:Q y ⟨h,g,d,t,os⟩):wpAny M A (lookupAlong tl n) Q E ⟨h,g,d,t,os⟩:=by
 induction T with
 | base=>rw[hrest];exact wpAny_pure hq
 | own hA hN hni _ ih=>
   rw[lookupAlong_cons]
   refine wpAny_bind (wpAny_classOwn_cls hA hN ?_)
   rw[hni n hn]
   exact ih
theorem Ypj{M:Model}{n:Str}{y:Option Value}{Q:Option Value->Shared->Prop}(hn:n∈qN)(hC:h.get? C=some (excClassObj nm q C N bs bm hdct sn sub ab col dd k0 k1 k2 k3 k5 newId))(T:TailN h vM (.ref C::bm))(hB:typeLookup (.type "ValueError") n=pure y)(hq:Q y ⟨h,g,d,t,os⟩) :
 wpAny M A (typeLookup (.ref C) n) Q E ⟨h,g,d,t,os⟩:=by
 have hrest:lookupAlong vM n=pure y:=by rw[typeLookup_eq,(show mroOf (.type "ValueError")=pure vM from F.attrBase_ValueError.mro)]at hB;exact hB
 rw[typeLookup_eq]
 exact wpAny_bind (wpAny_mroOf_exc hC (Yub hn T hrest hq))
theorem Yke:typeLookup (.type "ValueError") "__class__"=pure (some (.builtin "object.__class__")):=by rw[typeLookup_type,builtinLookup_eq_fast];kernel_rfl
theorem Yuc{R:Result->Shared->Prop}(hC:h.get? C=some (excClassObj nm q C N bs bm hdct sn sub ab col dd k0 k1 k2 k3 k5 newId))(T:OwnTail h vM bm)(hx:h.get? a=some o)(hc:o.cls=.ref C)(hq:R (.ok (.ret (.ref C))) ⟨h,g,d,t,os⟩) :
 codeAny (model prog w) A (.call (.builtin "getset_descriptor.__get__") ⟨[.builtin "object.__class__",.ref a,.ref C],[]⟩) R ⟨h,g,d,t,os⟩:=by
 have hT5:(⟨h,g,d,t,os⟩:Shared).TypeIs (.builtin "object.__class__") "getset_descriptor":=F.typeOf_object_class
 have hcB:(Value.ref C::bm).contains (.type (".".intercalate ("object.__class__".cutAt '.').dropLast))=true:=by
  rw[F.owner_object_class,List.contains_cons,T.hasType (show vM.contains (.type "object")=true by decide)];rfl
 refine codeAny_call_builtin F.slot_gs_get.plain F.entry_gs_get (F.slot_gs_get.check _ _ _ _ _ _ _ _ hT5 (F.args_gs_get _ _ _) ?_)
 repeat (any_goals (first | assumption | (with_reducible refine wpAny_loadPart_at hx ?_;rw[hc]) | (with_reducible refine wpAny_isSubtype_exc hC ?_;rw[hcB]) | wp_step))
 refine⟨Code.quiet_builtin _ (by decide +kernel),codeAny_builtin F.entry_object_class ?_⟩
 repeat (any_goals (first | assumption | (with_reducible refine wpAny_loadPart_at hx ?_;rw[hc]) | wp_step))
theorem Ypk{M:Model}{nameV:Value}{Q:Unit->Shared->Prop}(hC:h.get? C=some (excClassObj nm q C N bs bm hdct sn sub ab col dd k0 k1 k2 k3 k5 newId))(T:OwnTail h vM bm)
 (hx:h.get? a=some o) (hc:o.cls=.ref C) (hq:Q () ⟨h,g,d,t,os⟩):wpAny M A (checkBuiltinCall "BaseException.__getattribute__" ⟨[.ref a,nameV],[]⟩) Q E ⟨h,g,d,t,os⟩:=by
 have hk:builtinKind "BaseException.__getattribute__"=some .slot:=by decide +kernel
 have hsplit:splitId "BaseException.__getattribute__"=some ("BaseException","__getattribute__"):=by decide +kernel
 have hcB:(Value.ref C::bm).contains (.type "BaseException")=true:=by rw[List.contains_cons,T.hasType (show vM.contains (.type "BaseException")=true by decide)];rfl
 have ha:=F.args_bexc_ga (.ref a) nameV
 simp only[checkBuiltinCall,hk,hsplit]
 refine wpAny_bind ?_
 ·unfold isInstance
  repeat (first | (with_reducible refine wpAny_loadPart_at hx ?_;rw[hc]) | (with_reducible refine wpAny_isSubtype_exc hC ?_;rw[hcB]) | wp_step)
  exact hq
theorem Ypl{tk:Tok}{Q:Fin->Shared->Prop}(hC:h.get? C=some (excClassObj nm q C N bs bm hdct sn sub ab col dd k0 k1 k2 k3 k5 newId))(T:OwnTail h vM bm)(TN:TailN h vM (.ref C::bm))(hx:h.get? a=some o)(hc:o.cls=.ref C)(hq:Q (.done (.ret (.ref C))) ⟨h,g,d,t,os⟩) :
 wpAny (model prog w) A (Builtin.«object.__getattribute__» ⟨[.ref a,.str "__class__" tk],[]⟩) Q E ⟨h,g,d,t,os⟩:=by
 have hT5:(⟨h,g,d,t,os⟩:Shared).TypeIs (.builtin "object.__class__") "getset_descriptor":=F.typeOf_object_class
 have f5:=F.typeOf_object_class
 have f6:=F.slot_gs_get.lookup
 have f7:=F.slot_gs_set.lookup
 have hmA:("__class__":Str)∈qN:=.tail _ (.tail _ (.head _))
 repeat (any_goals (first | assumption | (with_reducible refine wpAny_loadPart_at hx ?_;rw[hc]) | with_reducible refine Ypj hmA hC TN Yke ?_ | wp_step))
 refine Yuc hC T hx hc ?_
 repeat (any_goals (first | assumption | wp_step))
theorem Yq6{tk:Tok}{R:Result->Shared->Prop}(hC:h.get? C=some (excClassObj nm q C N bs bm hdct sn sub ab col dd k0 k1 k2 k3 k5 newId))(T:OwnTail h vM bm)(TN:TailN h vM (.ref C::bm))(hx:h.get? a=some o)(hc:o.cls=.ref C)(hq:R (.ok (.ret (.ref C))) ⟨h,g,d,t,os⟩) :
 codeAny (model prog w) A (.call (.builtin "BaseException.__getattribute__") ⟨[.ref a,.str "__class__" tk],[]⟩) R ⟨h,g,d,t,os⟩:=
 codeAny_call_builtin F.attrBase_ValueError.ga.plain F.entry_bexc_ga (Ypk hC T hx hc (Ypl hC T TN hx hc hq))
theorem Yxc{tk:Tok}{Q:Value->Shared->Prop}(hC:h.get? C=some (excClassObj nm q C N bs bm hdct sn sub ab col dd k0 k1 k2 k3 k5 newId))(T:OwnTail h vM bm)(TN:TailN h vM (.ref C::bm))(hx:h.get? a=some o)(hc:o.cls=.ref C)(hq:Q (.ref C) ⟨h,g,d,t,os⟩) :
 wpAny (model prog w) A (getAttrBy (.ref a) (.str "__class__" tk) false) Q E ⟨h,g,d,t,os⟩:=by
 have f3:=F.attrBase_ValueError.ga.bind (.ref a)
 have hx2:(Value.builtin "BaseException.__getattribute__"==Value.builtin "object.__getattribute__")=false:=by decide +kernel
 have hx1:(onTheHeap (Value.ref C)&&Value.builtin "BaseException.__getattribute__"==Value.builtin "object.__getattribute__")=false:=by rw[hx2];rfl
 have hm1:("__getattribute__":Str)∈qN:=.head _
 have hm2:("__getattr__":Str)∈qN:=.tail _ (.head _)
 repeat (any_goals (first | assumption | (with_reducible refine wpAny_loadPart_at hx ?_;rw[hc]) | with_reducible refine Ypj hm1 hC TN F.attrBase_ValueError.ga.lookup ?_ | with_reducible refine Ypj hm2 hC TN F.attrBase_ValueError.noGetattr ?_ | wp_step))
 refine Yq6 hC T TN hx hc ?_
 repeat (any_goals (first | assumption | wp_step))
theorem Yq7{Q:Option Value->Shared->Prop}(hC:h.get? C=some (excClassObj nm q C N bs bm hdct sn sub ab col dd k0 k1 k2 k3 k5 newId))(T:OwnTail h vM bm)(TN:TailN h vM (.ref C::bm))(hx:h.get? a=some o)(hc:o.cls=.ref C)(hq:Q (some (.ref C)) ⟨h,g,d,t+1,os⟩) :
 wpAny (model prog w) A (getAttr? (.ref a) "__class__") Q E ⟨h,g,d,t,os⟩:=by
 unfold getAttr? getAttrBy?
 repeat (any_goals (first | assumption | with_reducible apply Yxc hC T TN hx hc | wp_step))
end
end
section
section
variable {prog:Program} {w:World} {A:Around} {E:Value->Shared->Prop} {h:Heap} {g:Array GenState} {d:Drawn} {t:Nat} {os:OsState} {a:Addr} {o:Obj}
 {nm q nm' q':Str} {C N B N':Addr} {bs bm bs' bm':List Value} {hdct hdct':Bool} {sn sn':List Str} {sub sub':List Value} {ab ab':Bool} {col col':Option Bool} {dd dd':Option Addr} {k0 k1 k2 k3 k5 l0 l1 l2 l3 l5:Option Value} {newId newId':String}
theorem Yq8{dep:Int}{tk:Tok}{Q:Fin->Shared->Prop}(hC:h.get? C=some (excClassObj nm q C N bs bm hdct sn sub ab col dd k0 k1 k2 k3 k5 newId))(T:OwnTail h vM bm)(TN:TailN h vM (.ref C::bm))
 (hB:h.get? B=some (excClassObj nm' q' B N' bs' bm' hdct' sn' sub' ab' col' dd' l0 l1 l2 l3 l5 newId')) (hx:h.get? a=some o) (hc:o.cls=.ref C) {z:Bool} (hz:(Value.ref C::bm).contains (.ref B)=z)
 (hq:∀t',Q (.done (.ret (.bool z))) ⟨h,g,d,t',os⟩):wpAny (model prog w) A (Builtin.«isinstance.nested» ⟨[.ref a,.ref B,.int dep tk],[]⟩) Q E ⟨h,g,d,t,os⟩:=by
 have q0:=hq t
 have q1:=hq (t+1)
 by_cases e:C=B
 ·subst e
  obtain rfl:true=z:=by rw[<-hz];simp
  have eb:(Value.ref C==Value.ref C)=true:=by simp
  repeat (any_goals (first | assumption | (with_reducible refine wpAny_loadPart_at hx ?_;rw[hc]) | wp_step))
 ·have eb:(Value.ref C==Value.ref B)=false:=by
   cases e2:(Value.ref C==Value.ref B)with
   | false=>rfl
   | true=>exact absurd (by injection eq_of_beq e2) e
  cases z with
  | true=>repeat (any_goals (first | assumption | (with_reducible refine wpAny_loadPart_at hx ?_;rw[hc]) | with_reducible refine wpAny_loadPart_at hB ?_ | with_reducible refine wpAny_loadPart_at hC ?_ | (with_reducible refine wpAny_isSubtype_exc hC ?_;rw[hz]) | wp_step))
  | false=>repeat (any_goals (first | assumption | (with_reducible refine wpAny_loadPart_at hx ?_;rw[hc]) | with_reducible refine wpAny_loadPart_at hB ?_ | with_reducible refine wpAny_loadPart_at hC ?_ | (with_reducible refine wpAny_isSubtype_exc hC ?_;rw[hz]) | with_reducible refine Yq7 hC T TN hx hc ?_ | wp_step))
theorem Ypm{dep:Int}{tk:Tok}{Q:Fin->Shared->Prop}(hC:h.get? C=some (excClassObj nm q C N bs bm hdct sn sub ab col dd k0 k1 k2 k3 k5 newId))(T:OwnTail h vM bm)(hx:h.get? a=some o)(hc:o.cls=.ref C)
 (hq:Q (.done (.ret (.bool true))) ⟨h,g,d,t,os⟩):wpAny (model prog w) A (Builtin.«isinstance.nested» ⟨[.ref a,.type "ValueError",.int dep tk],[]⟩) Q E ⟨h,g,d,t,os⟩:=by
 have hz:(Value.ref C::bm).contains (.type "ValueError")=true:=by rw[List.contains_cons,T.hasType (show vM.contains (.type "ValueError")=true by decide)];rfl
 have ht:typeOf (.type "ValueError")=pure (.type "type"):=by kernel_rfl
 have eb:(Value.ref C==Value.type "ValueError")=false:=by rfl
 repeat (any_goals (first | assumption | (with_reducible refine wpAny_loadPart_at hx ?_;rw[hc]) | with_reducible refine wpAny_loadPart_at hC ?_ | (with_reducible refine wpAny_isSubtype_exc hC ?_;rw[hz]) | wp_step))
end
end
section
def Xp(K:W.Frag)(mg:Str->Option Value)(x y:Str)(z:Bool):Prop:=∃C D,mg x=some (.ref C)/\mg y=some (.ref D)/\XC K C/\XQ K C/\XC K D/\(mroK K C).contains (.ref D)=z
def spX(K:W.Frag)(mg:Str->Option Value)(n:Nat)(fr:List D->Option Bool)(xn:Str):Sp:=fun vs H _ E=>vs.length=n/\∃ds G,Same G H/\RpL K G ds vs/\fr ds=some true/\∀C H' G',mg xn=some (.ref C)->Gr H G H' G'->E (.ref C) none H'
def sxOf(K:W.Frag)(mg:Str->Option Value)(E:XK)(xn:Str)(r:Ro->Option Bool):TS:=fun _ σ H=>∃ρ H0 G0 G,r ρ=some true/\SR K H0 G0 σ H G ρ/\∀C H' G',mg xn=some (.ref C)->Gr H0 G0 H' G'->E (.ref C) none H'
structure ZX(X:Cx)(E:XK)(xn:Str)(sts:List Stmt)(r:Ro->Option Bool):Prop where
 un:PSs X sts (sxOf X.K X.mg E xn r)
def Okx(P:Program)(w:World)(K:W.Frag)(mg:Str->Option Value)(base:Heap)(k n:Nat)(x:Str)(ps:List Str)(fr:List D->Option Bool)(xn:Str):Prop:=
 ∃a fd,FnOk P w K mg base (CXN P w) k a fd ps (spX K mg n fr xn)/\Binds K fd ps []/\W.keepIn K (.ref a)=true/\mg x=some (.ref a)
def runX(k n:Nat)(r:Ro->Option Bool)(ds:List D):Option Bool:=if ds.length=k then r (Yj n ds)else none
def xYes:Ro->Option Bool:=fun _=>some true
def xNo:Ro->Option Bool:=fun _=>some false
def xIf(c:Ro->Option Bool)(a b:Ro->Option Bool):Ro->Option Bool:=fun ρ=>(c ρ).bind fun k=>if k=true then a ρ else b ρ
def Ya5(ga:Ro->Option (List D))(fr:List D->Option Bool):Ro->Option Bool:=fun ρ=>(ga ρ).bind fr
theorem PA.nox'{X:Cx}{es:List Expr}{t:TA}(h:PA X.nox es t):PA X es t:=fun pos pins s σ H Q I hw=>
 wpAny_mono (h pos pins s σ H Q (I.wish _) hw) (fun _ _ ⟨v,H',I',r,q⟩=>⟨v,H',I'.unwish,r,q⟩) fun _ _ z=>False.elim z
section
variable {P:Program} {w:World} {K:W.Frag} {mg:Str->Option Value} {base:Heap} {N:List Str} {qual xn:Str} {scope:Scope} {f:Addr} {cd:Value} {A:Around} {outer:List Env} {s0:Shared} {H0:Hp} {E:XK} {sts rest:List Stmt}
theorem Ydm{y m:Str}{np p1 cpos pos:Pos}{j:Nat}{z:Bool}(hp:Xp K mg xn y z)(hg:Gl (cxOf (CXN P w) P w K mg base N qual scope f cd A outer s0 H0 E) xn:=by rfl)(hdb:(xn==("__debug__":Str))=false:=by decide)
 (hs:starEach [Expr.Constant (.str m) j p1] (envOfC qual scope s0.heap.objs.size f cd)=[(false,eval (Expr.Constant (.str m) j p1) (envOfC qual scope s0.heap.objs.size f cd))]:=by rfl) :
 ZX (cxOf (CXN P w) P w K mg base N qual scope f cd A outer s0 H0 E) E xn (.Raise (some (.Call (.Name xn np) [.Constant (.str m) j p1] [] cpos)) none pos::rest) xYes:=by
 obtain⟨C,_,hm,_,hc,_⟩:=hp
 exact⟨PSs.imp (Yes (Yq5 hm hc hg hdb hs) Yet) fun D σ H ⟨ρ,H0,G0,G,_,s,h⟩=>h C H G hm s.gr⟩
theorem Ypn{X:Cx}:ZX X E xn sts xNo:=⟨PSs.imp Yet fun _ _ _ ⟨_,_,_,_,e,_⟩=>by cases e⟩
theorem Yi4{X:Cx}{c:Expr}{a:List Stmt}{fc ra rr:Ro->Option Bool}{pos:Pos}(hc:ZT X.nox c fc)(ha:ZX X E xn a ra)(hr:ZX X E xn rest rr):ZX X E xn (.If c a [] pos::rest) (xIf fc ra rr):=
 ⟨PSs.imp (Yes (Ysm (PT.nox hc.un) ha.un Yne) hr.un) fun D σ H ⟨ρ,H0,G0,G,e,s,h⟩=>by
  unfold xIf at e
  obtain⟨k,h1,e⟩:=qa e
  refine tTof.at h1 s fun H1 G1 g1 s1=>?_
  cases k with
  | true=>
    rw[if_pos rfl]at e ⊢
    exact⟨ρ,H0,G0,G1,e,s1,h⟩
  | false=>
    rw[if_neg qh]at e ⊢
    exact⟨ρ,H0,G0,G1,e,s1,h⟩⟩
theorem Ym6{x:Str}{st:Stmt}{fd:FuncData}{ps:List Str}{k n m:Nat}{r:Ro->Option Bool}(F:Fun K x qual st f fd)(S:FnScope N ps (defScope st))(hn:N.length=n)(hm:ps.length=m)
 (hb:∀(cdv:Value) (A:Around) (outer:List Env) (s:Shared) (H:Hp) (E:XK),Room k (A.deeper (envOfC qual (defScope st) s.heap.objs.size f cdv))->ZX (cxOf (CXN P w) P w K mg base N qual (defScope st) f cdv A outer s H E) E xn (defBody st) r) :
 FnOk P w K mg base (CXN P w) (k+1) f fd ps (spX K mg m (runX m n r) xn):=by
 obtain⟨oc,od,kV,doc,pm,an,cdv,ct,osl,rfl,lk,hcd⟩:=F.ex
 refine Yvi lk hcd S (fun vs H Q E h=>by rw[h.1,hm]) fun A outer s H vs Q E hr h=>?_
 obtain⟨hl,ds,G,sm,rr,e,q⟩:=h
 refine⟨_,(hb cdv A outer s H E hr).un,?_⟩
 unfold runX at e
 split at e
 ·exact⟨Yj n ds,H,G,G,e,by rw[<-hn];exact SR.start sm rr,fun C H' G' hC g=>q C H' G' hC g⟩
 ·cases e
end
def tryF(ga:Ro->Option (List D))(fr:List D->Option Bool)(g:Ro->Option Out):Ro->Option Out:=fun ρ=>(ga ρ).bind fun l=>(fr l).bind fun b=>if b=true then g ρ else none
section
variable {X:Cx} {j k n:Nat} {x y nm xn:Str} {ps:List Str} {fr:List D->Option Bool} {p cpos pos1 np hpos pos:Pos} {e:Expr} {es:List Expr} {ga:Ro->Option (List D)} {b₀:Stmt} {suite:List Stmt} {g:Ro->Option Out}
theorem Yq9(c:Okx X.prog X.w X.K X.mg X.base j n x ps fr xn)(hp:Xp X.K X.mg xn y true)(hr:Room k X.A)(hg:Gl X x)(hgy:Gl X y)(ha:ZA X (e::es) ga)(hl:∀ρ l,ga ρ=some l->l.length=n)(hs:∀ea ob,(∀C,X.mg xn=some (.ref C)->Xo ob (.ref C))->ZB (Cx.mk X ea [(ea,ob)]) (b₀::suite) g)
 (hxe:∀e s,¬X.xe e s:=by exact fun _ _ h=>h) (hx:X.ex=[]:=by rfl) (hst:X.stack=X.env::X.outer:=by rfl) (hfr:X.env.frame=some X.env.locals:=by rfl) (hj:j<=k:=by first | exact qt _ | omega)
 (hdb:(x==("__debug__":Str))=false:=by decide) (hdy:(y==("__debug__":Str))=false:=by decide) (he:starEach (e::es) X.env=(false,eval e X.env)::starEach es X.env:=by rfl) (hpl:(backTo cpos (starEach es X.env)).any (·.1)=false:=by rfl) (hsw:swapsWith (.Call (.Name x p) (e::es) [] cpos) none pos1.line X.env=pure false:=by rfl) :
 ZS X (.Try [.Expr (.Call (.Name x p) (e::es) [] cpos) pos1] [.ExceptHandler (some (.Name y np)) none (b₀::suite) hpos] [] [] pos) (tryF ga fr g):=by
 obtain⟨a,fd,F,hb,hk,hm⟩:=c
 obtain⟨C,B,mC,mB,hC,_,hB,hin⟩:=hp
 refine⟨PS.imp (Yt9 (ts:=sOf X.K g) hxe hx hst hfr (F.mono hj) hr hg hm hk hb ha.un hB hC mB hgy hin (fun ea ob hob=>(hs ea ob fun C' q=>by rw[mC]at q;cases q;exact hob).un) hdb hdy he hpl hsw) fun D σ H ⟨ρ,out,H0,G0,G,e,s,h⟩=>?_⟩
 unfold tryF at e
 obtain⟨l,h1,e⟩:=qa e
 obtain⟨b,h2,e⟩:=qa e
 cases b with
 | false=>rw[if_neg qh]at e;cases e
 | true=>
   rw[if_pos rfl]at e
   refine tAof.at h1 s fun vs H1 G1 g1 r1 s1=>⟨by rw[r1.length];exact hl ρ l h1,l,G1,s1.seen,r1,h2,fun C' H' G' hC' g'=>?_⟩
   rw[mC]at hC'
   cases hC'
   exact⟨rfl,ρ,out,H0,G0,G',e,s1.grow g',h⟩
theorem SR.drop{K:W.Frag}{H0 G0 H G:Hp}{σ:L2.St}{ρ:Ro}(s:SR K H0 G0 σ H G ρ)(i:Nat):SR K H0 G0 (σ.set i none) H G (ρ.set i none):=by
 have get:∀(m:Nat) (o:B),(ρ.set i none)[m]?=some (some o)->m≠i/\ρ[m]?=some (some o):=fun m o e=>by
  by_cases z:m=i
  ·subst z
   rw[List.getElem?_set,if_pos rfl]at e
   split at e<;>cases e
  ·rw[qy (Ne.symm z)]at e
   exact⟨z,e⟩
 have gs:∀m,m≠i->(σ.set i none)[m]?=σ[m]?:=fun m z=>qy (Ne.symm z)
 refine⟨s.gr,by rw[List.length_set,List.length_set];exact s.len,fun m d e=>?_,fun m l e=>?_,fun m m' l l' a b e e' ne q q'=>?_,fun m t ks vs e=>?_,fun m m' t ks vs t' ks' vs' a b e e' ne q q'=>?_⟩
 ·obtain⟨z,e⟩:=get _ _ e
  rw[gs m z];exact s.sh m d e
 ·obtain⟨z,e⟩:=get _ _ e
  rw[gs m z];exact s.ow m l e
 ·obtain⟨z,e⟩:=get _ _ e
  obtain⟨z',e'⟩:=get _ _ e'
  rw[gs m z]at q;rw[gs m' z']at q'
  exact s.ap m m' l l' a b e e' ne q q'
 ·obtain⟨z,e⟩:=get _ _ e
  rw[gs m z];exact s.od m t ks vs e
 ·obtain⟨z,e⟩:=get _ _ e
  obtain⟨z',e'⟩:=get _ _ e'
  rw[gs m z]at q;rw[gs m' z']at q'
  exact s.apd m m' t ks vs t' ks' vs' a b e e' ne q q'
theorem Yra(i:Nat){gs:Addr->Ro->Option Out}(c:Okx X.prog X.w X.K X.mg X.base j n x ps fr xn)(hp:Xp X.K X.mg xn y true)(hr:Room k X.A)(hg:Gl X x)(hgy:Gl X y)(ha:ZA X (e::es) ga)(hl:∀ρ l,ga ρ=some l->l.length=n)(hN:X.N.Nodup)
 (hs:∀ea ob,(∀C,X.mg xn=some (.ref C)->Xo ob (.ref C))->ZB (Cx.mk X ea [(ea,ob)]) (b₀::suite) (gs ea)) (hgs:∀ea ρ out,g ρ=some out->∃ρ3,gs ea (ρ.set i (some (.sh (.adr ea))))=some (.nx ρ3)/\out=.nx (ρ3.set i none))
 (hxe:∀e s,¬X.xe e s:=by exact fun _ _ h=>h) (hx:X.ex=[]:=by rfl) (hst:X.stack=X.env::X.outer:=by rfl) (hfr:X.env.frame=some X.env.locals:=by rfl) (hj:j<=k:=by first | exact qt _ | omega) (hi:X.N[i]?=some nm:=by rfl) (hlo:X.env.kindOf nm=some .local:=by rfl)
 (hdb:(x==("__debug__":Str))=false:=by decide) (hdy:(y==("__debug__":Str))=false:=by decide) (he:starEach (e::es) X.env=(false,eval e X.env)::starEach es X.env:=by rfl) (hpl:(backTo cpos (starEach es X.env)).any (·.1)=false:=by rfl) (hsw:swapsWith (.Call (.Name x p) (e::es) [] cpos) none pos1.line X.env=pure false:=by rfl) :
 ZS X (.Try [.Expr (.Call (.Name x p) (e::es) [] cpos) pos1] [.ExceptHandler (some (.Name y np)) (some nm) (b₀::suite) hpos] [] [] pos) (tryF ga fr g):=by
 obtain⟨a,fd,F,hb,hk,hm⟩:=c
 obtain⟨C,B,mC,mB,hC,_,hB,hin⟩:=hp
 refine⟨PS.imp (Yua (i:=i) (ts:=fun D σ H=>∃ρ ρ2 H0 G0 G,g ρ=some (.nx ρ2)/\SR X.K H0 G0 σ H G ρ/\∀σ' H' G' ρ3,ρ3.set i none=ρ2->SR X.K H0 G0 σ' H' G' ρ3->D.nx σ' H') hxe hx hst hfr (F.mono hj) hr hg hm hk hb ha.un hB hC mB hgy hin hN (fun ea ob hob=>?_) hi hlo hdb hdy he hpl hsw) fun D σ H ⟨ρ,out,H0,G0,G,e,s,h⟩=>?_⟩
 ·refine PSs.imp (hs ea ob fun C' q=>by rw[mC]at q;cases q;exact hob).un fun D σ H ⟨σ',e1,e2,ρ,ρ2,H0,G0,G,e,s,h⟩=>?_
  obtain⟨ρ3,e3,e4⟩:=hgs ea ρ _ e
  cases e4
  subst e1
  exact⟨_,_,H0,G0,G,e3,s.set_sh i (by rw[Rp]),fun σ2 H2 G2 s2=>h σ2 H2 G2 ρ3 rfl s2⟩
 ·unfold tryF at e
  obtain⟨l,h1,e⟩:=qa e
  obtain⟨b,h2,e⟩:=qa e
  cases b with
  | false=>rw[if_neg qh]at e;cases e
  | true=>
    rw[if_pos rfl]at e
    refine tAof.at h1 s fun vs H1 G1 g1 r1 s1=>⟨by rw[r1.length];exact hl ρ l h1,l,G1,s1.seen,r1,h2,fun C' H' G' hC' g'=>?_⟩
    rw[mC]at hC'
    cases hC'
    obtain⟨ρ3,_,rfl⟩:=hgs 0 ρ _ e
    refine⟨rfl,ρ,_,H0,G0,G',e,s1.grow g',fun σ2 H2 G2 ρ4 e4 s2=>h _ H2 G2 ?_⟩
    rw[<-e4]
    exact s2.drop i
end
def isX(i:Nat)(ea:Addr)(z:Bool):Ro->Option D:=fun ρ=>(getV i ρ).bind fun d=>match d with
 | .adr b=>if b=ea then some (.bl z)else none
 | _=>none
section
variable {X:Cx} {ea:Addr} {ob:Obj} {x xn y:Str} {p p1 p2 pos:Pos} {z:Bool}
theorem Ypo{C B:Addr}(hob:Xo ob (.ref C))(hC:XC X.K C)(hQ:XQ X.K C)(hB:XC X.K B)(hz:(mroK X.K C).contains (.ref B)=z):Yb6 (Cx.mk X ea [(ea,ob)]) (.builtin "isinstance") (fun xs H Q=>xs=[.ref ea,.ref B]/\Q (.bl z) H):=by
 intro pins s σ H xs us Q I r h
 obtain⟨rfl,q⟩:=h
 obtain⟨u,u',rfl,r1,r2⟩:=Yjs r
 cases (show u=Value.ref ea from r1)
 cases (show u'=Value.ref B from r2)
 have he:=(I.pin (ea,ob) (List.mem_append.mpr (.inl (List.mem_append.mpr (.inl (.head _)))))).1
 have X':X.K.In s.heap:=I.kIn
 obtain⟨bm,N,nm,q0,bs,hdct,sn,sub,ab,col,dd,k0,k1,k2,k3,k5,mN,oC,_,_,T,em⟩:=Yh5 X' hC
 obtain⟨bm',N',nm',q',bs',hdct',sn',sub',ab',col',dd',l0,l1,l2,l3,l5,mN',oB,_,_,T',em'⟩:=Yh5 X' hB
 have TN:=Ymi X' hQ
 rw[em]at hz TN
 refine call_isinstance (S:=fun _ R s'=>s'=s/\∀t',R (.ok (.ret (.bool z))) { s' with toks:=t' }) (fun _ _ _ _ s' hs=>?_) ⟨rfl,fun t'=>⟨.bl z,H,I.tok t',rfl,q⟩⟩
 obtain⟨rfl,hs⟩:=hs
 obtain⟨hp,g,d,t,os⟩:=s'
 exact isinstance_outer (Yq8 oC T TN oB he hob.1 hz fun t'=>hs t') (by intro e;cases e)
theorem Yc0(i:Nat)(hp:Xp X.K X.mg xn y z)(hob:∀C,X.mg xn=some (.ref C)->Xo ob (.ref C))(hm:X.mg "isinstance"=none)(hg:Gl X "isinstance":=by rfl)(hgy:Gl X y:=by rfl)(hi:X.N[i]?=some x:=by rfl)(hv:Vis X.env.scope x:=by first | exact Or.inl rfl | exact Or.inr (Or.inl rfl) | exact Or.inr (Or.inr rfl))
 (hb:bootBuiltins "isinstance"=some (.builtin "isinstance"):=by decide +kernel) (hd:(x==("__debug__":Str))=false:=by decide) (hcd:(x==("__classdict__":Str))=false:=by decide) (hdy:(y==("__debug__":Str))=false:=by decide)
 (hs:starEach [.Name x p1,.Name y p2] X.env=(false,eval (.Name x p1) X.env)::starEach [.Name y p2] X.env:=by rfl) (hs2:starEach [.Name y p2] X.env=(false,eval (.Name y p2) X.env)::starEach [] X.env:=by rfl) (hpl:(backTo pos (starEach [.Name y p2] X.env)).any (·.1)=false:=by rfl) :
 ZE (Cx.mk X ea [(ea,ob)]) (.Call (.Name "isinstance" p) [.Name x p1,.Name y p2] [] pos) (isX i ea z):=by
 obtain⟨C,B,mC,mB,hC,hQ,hB,hz⟩:=hp
 refine⟨PE.imp (Yeb (X:=Cx.mk X ea [(ea,ob)]) (Ypo (hob C mC) hC hQ hB hz) hg hm hb (Ybn (Yhv (i:=i) hi hv hd hcd) (Ybn (Yky hgy mB (v:=.ref B) rfl hdy) Yfx hs2) hs) (by decide) (by decide) hs hpl) fun σ H Q ⟨ρ,d,H0,G0,G,e,s,h⟩=>?_⟩
 obtain⟨d',h1,e2⟩:=qa (show(getV i ρ).bind _=some d from e)
 clear e
 cases d' with
 | adr b=>
   dsimp only at e2
   split at e2
   ·rename_i hb
    subst hb
    cases e2
    obtain⟨v,hv,rv⟩:=s.sh i _ (Ygt h1)
    rw[Rp]at rv
    subst rv
    exact⟨_,hv,rfl,h _ H G (.refl s.seen) (by rw[Rp])⟩
   ·cases e2
 | _=>cases e2
theorem Ypp{C:Addr}(hob:Xo ob (.ref C))(hC:XC X.K C):Yb6 (Cx.mk X ea [(ea,ob)]) (.builtin "isinstance") (fun xs H Q=>xs=[.ref ea,.ty "ValueError"]/\Q (.bl true) H):=by
 intro pins s σ H xs us Q I r h
 obtain⟨rfl,q⟩:=h
 obtain⟨u,u',rfl,r1,r2⟩:=Yjs r
 cases (show u=Value.ref ea from r1)
 cases (show u'=Value.type "ValueError" from r2)
 have he:=(I.pin (ea,ob) (List.mem_append.mpr (.inl (List.mem_append.mpr (.inl (.head _)))))).1
 obtain⟨bm,N,nm,q0,bs,hdct,sn,sub,ab,col,dd,k0,k1,k2,k3,k5,mN,oC,_,_,T,em⟩:=Yh5 (show X.K.In s.heap from I.kIn) hC
 refine call_isinstance (S:=fun _ R s'=>s'=s/\R (.ok (.ret (.bool true))) s') (fun _ _ _ _ s' hs=>?_) ⟨rfl,⟨.bl true,H,I,rfl,q⟩⟩
 obtain⟨rfl,hs⟩:=hs
 obtain⟨hp,g,d,t,os⟩:=s'
 exact isinstance_outer (Ypm oC T he hob.1 hs) (by intro e;cases e)
theorem Yrb(i:Nat){z':Bool}(hp:Xp X.K X.mg xn y z')(hob:∀C,X.mg xn=some (.ref C)->Xo ob (.ref C))(hm:X.mg "isinstance"=none)(hm2:X.mg "ValueError"=none)(hg:Gl X "isinstance":=by rfl)(hgy:Gl X "ValueError":=by rfl)(hi:X.N[i]?=some x:=by rfl)(hv:Vis X.env.scope x:=by first | exact Or.inl rfl | exact Or.inr (Or.inl rfl) | exact Or.inr (Or.inr rfl))
 (hb:bootBuiltins "isinstance"=some (.builtin "isinstance"):=by decide +kernel) (hb2:bootBuiltins "ValueError"=some (.type "ValueError"):=by decide +kernel) (hd:(x==("__debug__":Str))=false:=by decide) (hcd:(x==("__classdict__":Str))=false:=by decide)
 (hs:starEach [.Name x p1,.Name "ValueError" p2] X.env=(false,eval (.Name x p1) X.env)::starEach [.Name "ValueError" p2] X.env:=by rfl) (hs2:starEach [.Name "ValueError" p2] X.env=(false,eval (.Name "ValueError" p2) X.env)::starEach [] X.env:=by rfl) (hpl:(backTo pos (starEach [.Name "ValueError" p2] X.env)).any (·.1)=false:=by rfl) :
 ZE (Cx.mk X ea [(ea,ob)]) (.Call (.Name "isinstance" p) [.Name x p1,.Name "ValueError" p2] [] pos) (isX i ea true):=by
 obtain⟨C,B,mC,mB,hC,_⟩:=hp
 refine⟨PE.imp (Yeb (X:=Cx.mk X ea [(ea,ob)]) (Ypp (hob C mC) hC) hg hm hb (Ybn (Yhv (i:=i) hi hv hd hcd) (Ybn (Ynd hgy hm2 hb2 (v:=.ty "ValueError") rfl (by decide) (by decide)) Yfx hs2) hs) (by decide) (by decide) hs hpl) fun σ H Q ⟨ρ,d,H0,G0,G,e,s,h⟩=>?_⟩
 obtain⟨d',h1,e2⟩:=qa (show(getV i ρ).bind _=some d from e)
 clear e
 cases d' with
 | adr b=>
   dsimp only at e2
   split at e2
   ·rename_i hb
    subst hb
    cases e2
    obtain⟨v,hv,rv⟩:=s.sh i _ (Ygt h1)
    rw[Rp]at rv
    subst rv
    exact⟨_,hv,rfl,h _ H G (.refl s.seen) (by rw[Rp])⟩
   ·cases e2
 | _=>cases e2
end
end
section
theorem Yi5:entryFor table "proto.unchain"=some Builtin.«proto.unchain»:=entryFor_of_tree (by kernel_rfl)
section
variable {prog:Program} {w:World} {A:Around} {E:Value->Shared->Prop} {s:Shared} {ea:Addr} {ob:Obj} {ws:Array Value} {X:Cx} {C:Value}
theorem Ypq{α:Type}{n:Addr}{o:Obj}{vs:Array Value}{Q:α->Shared->Prop}(hh:A.handled=some (.ref ea))(he:s.heap.get? ea=some ob)(hd:ob.data=.fields ws)(h2:ws[2]?=some .none)(hn:s.heap.get? n=some o)(hnd:o.data=.fields vs)(hsz:2 < vs.size)(hne:ea≠n)
 (h:E (.ref n) { s with heap:=s.heap.update n (Obj.mapFields (·.setIfInBounds 2 (.ref ea))) }):wpAny (model prog w) A (raiseNew (.ref n):Sem α) Q E s:=by
 unfold raiseNew
 refine wpAny_bind (wpAny_handled ?_)
 rw[hh]
 show wpAny _ _ (if (Value.ref ea != Value.ref n)=true then _ else _) _ _ _
 rw[if_pos (show(Value.ref ea != Value.ref n)=true from by simpa using hne)]
 refine wpAny_bind (wpAny_holding (wpAny_runValue (codeAny_builtin Yi5 ?_)))
 unfold Builtin.«proto.unchain»
 refine wpAny_bind (wpAny_field he hd h2 ?_)
 rw[if_pos (by decide)]
 refine wpAny_bind (wpAny_pure (wpAny_pure ?_))
 refine wpAny_bind ?_
 unfold updateField
 refine wpAny_bind (wpAny_load hn ?_)
 rw[hnd]
 show wpAny _ _ (if 2 < vs.size then _ else _) _ _ _
 rw[if_pos hsz]
 exact wpAny_update hn (wpAny_throw h)
theorem Ypr{it l:Addr}{i:Nat}{items:Array Value}{Q:Option Value->Shared->Prop}(hh:A.handled=some (.ref ea))(he:s.heap.get? ea=some ob)(hob:ob.data=.fields ws)(h2:ws[2]?=some .none)(hne:ea≠it)
 (hit:s.heap.IsListIter it l i) (hl:s.heap.IsList l items) (hx:items[i]?=none) (hQ:∀h',Heap.ExtBut it s.heap h'->Q none { s with heap:=h' }):wpAny (model prog w) A (pyNext (.ref it)) Q E s:=by
 obtain⟨o,ho,hc,hd⟩:=id hit
 obtain⟨ol,hol,_,nl,hdl⟩:=hl
 unfold pyNext
 refine wpAny_bind (wpAny_attempt (wpAny_callSpecial?_slot (name:=Str.ofString "__next__") hit.typeIs slot_listiter_next (wpAny_call_entry slot_listiter_next hit.typeIs entry_listiter_next ?_ (args_listiter_next _))))
 show wpAny _ _ (field (.ref it) 0 >>= _) _ _ s
 refine wpAny_bind (wpAny_field ho hd (x:=.ref l) rfl ?_)
 show wpAny _ _ (if (Value.ref l==Value.none)=true then _ else _) _ _ s
 rw[if_neg (show ¬((Value.ref l==Value.none)=true) from qh)]
 show wpAny _ _ (field (.ref it) 1 >>= _) _ _ s
 refine wpAny_bind (wpAny_field ho hd (x:=.int i 0) rfl ?_)
 show wpAny _ _ (seqItems? (.ref l) >>= _) _ _ s
 refine wpAny_bind (wpAny_seqItems hol hdl ?_)
 simp only[Int.toNat_natCast,hx]
 refine wpAny_bind (wpAny_rule (wpAny_bind (wpAny_setField ho hd (by simp) ?_)))
 show wpAny _ _ (newExc (.type "StopIteration") [] >>= _) _ _ _
 refine wpAny_bind ?_
 simp only[newExc,newTuple]
 refine wpAny_bind (wpAny_newObj_type ?_ (by size_fits))
 refine wpAny_bind (m:=firstArgMember _ _) (wpAny_of_eq (a:=Value.none) (by first | rfl | (simp only[firstArgMember];rfl)) ?_)
 refine wpAny_newObj_type ?_ (by size_fits)
 have hlt:=qk he
 refine Ypq (show A.in1.handled=some (.ref ea) from hh) (qd _ (qd _ ((Heap.get?_update_other _ _ (Ne.symm hne)).trans he))) hob h2 (qo _ rfl) rfl (by simp[ownMembersOf]) (ql (by rw[Heap.size_push,Heap.size_update];exact qv hlt)) ?_
 refine wpAny_bind (wpAny_isInstance (T:="StopIteration") (b:=true) ⟨_,Heap.get?_update_self _ (qo _ rfl) rfl,rfl⟩ isSubtype_stop ?_)
 refine wpAny_pure (hQ _ fun b u hb e=>?_)
 have:=qk e
 rw[Heap.get?_update_other _ _ (Nat.ne_of_gt (by rw[Heap.size_push,Heap.size_update];exact qv this))]
 exact qd _ (qd _ ((Heap.get?_update_other _ _ (Ne.symm hb)).trans e))
theorem Ylf(hh:A.handled=some (.ref ea))(hob:ob.data=.fields ws)(h2:ws[2]?=some .none)(I ax:Addr)(hne:ax≠I)(hei:ea≠I)(items:Array Value) :
 Walks prog w A I [I,ax,ea] [I] items.size (fun i v=>items[i]?=some v) (fun i h=>(h.IsListIter I ax i/\h.IsList ax items)/\h.get? ea=some ob) where
 sub:=fun b hb=>by simp at hb;simp[hb]
 frame:=fun _ _ _ st hk=>⟨⟨st.1.1.at fun o e=>hk I (by simp) o e,st.1.2.at fun o e=>hk ax (by simp) o e⟩,hk ea (by simp) _ st.2⟩
 item:=fun i s Q E hi st hQ=>by
  refine wpAny_pyNext_list_item st.1.1 st.1.2 (x:=items[i]) (by simp[hi]) fun h' hit' hs'=>?_
  exact hQ _ h' s.toks (by simp[hi]) ⟨⟨hit',st.1.2.extBut hs'.extBut hne⟩,hs'.extBut ea _ hei st.2⟩ fun b o hb e=>hs'.extBut b o (fun h=>hb (by simp[h])) e
 done:=fun s Q E st hQ=>Ypr hh st.2 hob h2 hei st.1.1 st.1.2 (by simp) fun h' he'=>hQ h' s.toks fun b o hb e=>he' b o (fun h=>hb (by simp[h])) e
 self:=fun _ _ _ _ st hQ=>wpAny_pyIter_listiter st.1.1 hQ
theorem Yps(hob:Xo ob C):Yb6 (Cx.mk X ea [(ea,ob)]) (.builtin "any") (rBls fun bs=>.bl (bs.any id)):=by
 intro pins s σ H xs us Q I r h
 obtain⟨a,bs,rfl,hr,q⟩:=h
 obtain⟨u,rfl,ru⟩:=Yhn r
 cases ru
 obtain⟨its,rv,pl,hz⟩:=I.list (.inl hr)
 cases Yix rv
 obtain⟨hcl,ws,hd,h2⟩:=hob
 have he:=(I.pin (ea,ob) (List.mem_append.mpr (.inl (List.mem_append.mpr (.inl (.head _)))))).1
 have hl:=pl.isList
 have hne:a≠s.heap.objs.size:=by
  obtain⟨o,ho,_⟩:=hl
  exact ql (qk ho)
 have hei:ea≠s.heap.objs.size:=ql (qk he)
 have hhm:(Cx.mk X ea [(ea,ob)]).A.in1.handled=some (.ref ea):=rfl
 refine call_any_walk (wpAny_pyIter_list hl ?_)
 refine⟨_,_,_,_,_,_,fun i=>bs.getD i false,rfl,Ylf hhm hd h2 s.heap.objs.size a hne hei _,⟨⟨⟨_,qo _ rfl,rfl,rfl⟩,?_⟩,qd _ he⟩,Yj8 _ _ _ bs,fun h' tk k=>⟨.bl _,H,(show Inv (Cx.mk X ea [(ea,ob)]) pins σ H { s with heap:=h',toks:=tk } from Yfz I k),?_,q⟩⟩
 ·obtain⟨o,ho,r⟩:=hl
  exact⟨o,qd _ ho,r⟩
 ·show Value.bool _=Value.bool _
  rw[qj,qe,Yob]
end
end
section
section
variable {X:Cx} {ea:Addr} {ob:Obj} {xn y:Str} {z:Bool}
theorem Yh6(hp:Xp X.K X.mg xn y z)(hob:∀C,X.mg xn=some (.ref C)->Xo ob (.ref C)):Yb6 (Cx.mk X ea [(ea,ob)]) (.builtin "any") (rBls fun bs=>.bl (bs.any id)):=by
 obtain⟨C,_,hC,_⟩:=hp
 exact Yps (hob C hC)
end
def powI:D->D->Option D:=i2 (fun i j=>decide (0<=j/\j<=1000000/\i.natAbs < 2 ^ 64)) fun i j=>i ^ j.toNat
section
variable {X:Cx} {a b:Expr} {fa fb:Ro->Option D} {pos:Pos}
theorem Yxd(ha:MC X a fa)(hb:MC X b fb):ME X (.BinOp a .Pow b pos) (b2 fa fb powI):=Yhz Yu9 (Yl2 (fun i j h=>(show 0<=j/\j<=1000000/\i.natAbs < 2 ^ 64 from of_decide_eq_true h))) ha hb
theorem Yud(ha:ZC X a fa)(hb:ZC X b fb):ZE X (.BinOp a .Pow b pos) (b2 fa fb powI):=⟨Yxd ha.un hb.un⟩
end
def Xk(K:W.Frag)(x y:Str)(z:Bool):Prop:=∃C D,W.nsIn K mainGlobals x=some (some (.ref C))/\W.nsIn K mainGlobals y=some (some (.ref D))/\XC K C/\XQ K C/\XC K D/\(mroK K C).contains (.ref D)=z
theorem Xk.on{K:W.Frag}{h:Heap}{mg:Str->Option Value}{x y:Str}{z:Bool}(F:Xk K x y z)(X:K.In h)(G:h.Ns mainGlobals mg):Xp K mg x y z:=by
 obtain⟨C,D,a,b,r⟩:=F
 exact⟨C,D,W.mg_of X G a,W.mg_of X G b,r⟩
theorem xk_mk{K:W.Frag}{x y:Str}{z:Bool}{C D:Addr}(a:W.nsIn K mainGlobals x=some (some (.ref C)))(b:W.nsIn K mainGlobals y=some (some (.ref D)))(c:W.excIn K C vM "ValueError.__new__"=true)(d:Ypi K vM (mroK K C)=true)(e:W.excIn K D vM "ValueError.__new__"=true)(f:(mroK K C).contains (.ref D)=z):Xk K x y z:=⟨C,D,a,b,c,d,e,f⟩
end
section
section
variable {M:Model} {A:Around} {E:Value->Shared->Prop} {s:Shared} {env env0:Env} {outer:List Env} {L ea T:Addr} {C fl:Value} {base:Heap} {Q:Unit->Shared->Prop}
theorem Yrc{Q:Value->Shared->Prop}(hfr:A.frames=some (env0::outer))(ff:s.heap.FunFrames base (env0::outer))(hf0:env0.frame=some L)(hf:env.frame=some L)
 (h:∀h',Heap.SlotsOnly ((env0::outer).filterMap (·.frame)) s.heap h'->Q (.ref L) { s with heap:=h' }):wpAny M A (frameOf env) Q E s:=by
 unfold PySem.frameOf
 refine wpAny_bind (wpAny_frameEnvs hfr ?_)
 have hdw:((env0::outer).dropWhile fun x=>x.frame != env.frame)=env0::outer:=by simp[List.dropWhile,hf0,hf]
 rw[hdw]
 unfold frameObject
 refine wpAny_bind (wpAny_bind (wpAny_readyFrames_fun ff fun h₁ hs₁=>wpAny_pure ?_))
 rw[hf0]
 exact wpAny_pure (h h₁ hs₁)
theorem Yrd{oe:Obj}{vs:Array Value}{head:Value}{had:Bool}(hfr:A.frames=some (env0::outer))(ff:s.heap.FunFrames base (env0::outer))(hf0:env0.frame=some L)(hf:env.frame=some L)(he:s.heap.get? ea=some oe)(hd:oe.data=.fields vs)(h2:vs[2]?=some .none)
 (hQ:∀h' T',Exc h' ea T' oe.cls (rawInt L)->s.heap.get? T'=none->XStep s.heap h' ea T' (frs (env0::outer))->Q () { s with heap:=h' }) :
 wpAny M A (do let a <-frameOf env;let pl <-entryPlaceOf L had;let b <-EntryCells.newEntry head a .none (rawInt L) .none pl;setField (.ref ea) 1 b) Q E s:=by
 have hsz:1 < vs.size:=Nat.lt_of_succ_lt (Array.getElem?_eq_some_iff.mp h2).1
 have hne:ea∉frs (env0::outer):=fun hm=>by
  obtain⟨_,o,ho,hn⟩:=ff.mem hm
  rw[he]at ho;cases ho;exact hn vs hd
 refine wpAny_bind (Yrc hfr ff hf0 hf fun h₁ hs=>?_)
 refine wpAny_bind (wpAny_entryPlaceOf fun pl hpl=>?_)
 unfold EntryCells.newEntry newFields
 refine wpAny_bind (wpAny_newObj_type ?_ (hpl.sizeOk5 _ _ _ _ _))
 have he₁:h₁.get? ea=some oe:=(hs.2.1 ea hne).trans he
 generalize hob:({ cls:=.type "traceback",dict:=none,data:=.fields ([head,.ref L,.none,rawInt L,.none]++(if pl.isEmpty then List.replicate 6 Value.none else pl)).toArray }:Obj)=ob
 have hTe:h₁.objs.size≠ea:=Nat.ne_of_gt (qk he₁)
 have he₂:=qd (h:=h₁) ob he₁
 refine wpAny_setField he₂ hd hsz (hQ _ h₁.objs.size ?_ (Heap.get?_none_of_le (by rw[hs.1];exact qt _)) ⟨fun b o e n1 n2 n3=>?_,fun b o e m=>?_⟩)
 ·have hd₃:=Obj.data_mapFields hd (·.setIfInBounds 1 (Value.ref h₁.objs.size))
  have hT:(h₁.push ob).get? h₁.objs.size=some ob:=qo h₁ (by rw[<-hob];rfl)
  refine⟨_,_,ob,_,Heap.get?_update_self _ he₂ (Obj.isFreed_of_fields hd₃),⟨Obj.cls_mapFields _ _,by rw[Array.getElem?_setIfInBounds_ne (by decide)];exact h2⟩,hd₃,by simp[hsz],hTe,(Heap.get?_update_other _ _ (Ne.symm hTe)).trans hT,by rw[<-hob],by first | (simp;done) | (rcases hpl with rfl | ⟨_,_,_,_,_,_,_,rfl⟩<;>simp)⟩
 ·rw[Heap.get?_update_other _ _ (Ne.symm n1)]
  exact qd _ ((hs.2.1 b n3).trans e)
 ·obtain⟨sl,q⟩:=hs.2.2 b o e
  refine⟨sl,?_⟩
  rw[Heap.get?_update_other _ _ (fun z=>hne (by rw[z];exact m))]
  exact qd _ q
theorem Ymj(hfr:A.frames=some (env0::outer))(hf0:env0.frame=some L)(hf:env.frame=some L)(ff:s.heap.FunFrames base (env0::outer))(x:Exc s.heap ea T C fl)
 (hQ:∀h' T',Exc h' ea T' C (rawInt L)->(T'=T\/s.heap.get? T'=none)->XStep s.heap h' ea T (frs (env0::outer))->Q () { s with heap:=h' }):wpAny M A (noteFrame (.ref ea) env) Q E s:=by
 obtain⟨oe,vs,oT,ts,he,⟨rfl,h2⟩,hd,h1,hne,hT,hdT,h3⟩:=x
 unfold noteFrame
 simp only[hf]
 refine wpAny_bind (wpAny_field he hd h1 ?_)
 rw[if_pos (show(Value.ref T != Value.none)=true from by simp)]
 refine wpAny_bind (wpAny_field hT hdT h3 ?_)
 by_cases hfl:(fl==rawInt L)=true
 ·rw[if_pos hfl]
  have hfe:fl=rawInt L:=eq_of_beq hfl
  subst hfe
  exact wpAny_pure (hQ s.heap T ⟨oe,vs,oT,ts,he,⟨rfl,h2⟩,hd,h1,hne,hT,hdT,h3⟩ (.inl rfl) ⟨fun b o e _ _ _=>e,fun b o e _=>⟨o.slots,e⟩⟩)
 ·rw[if_neg hfl]
  refine wpAny_bind (wpAny_setField hT hdT (Array.getElem?_eq_some_iff.mp h3).1 ?_)
  have other:∀b,b≠T->(s.heap.update T (Obj.mapFields (·.setIfInBounds 3 Value.none))).get? b=s.heap.get? b:=fun b hb=>Heap.get?_update_other _ _ (Ne.symm hb)
  have nT:∀b∈frs (env0::outer),b≠T:=fun b hb z=>by
   obtain⟨_,o,ho,hn⟩:=ff.mem hb
   rw[z,hT]at ho;cases ho;exact hn ts hdT
  have ff':(s.heap.update T (Obj.mapFields (·.setIfInBounds 3 Value.none))).FunFrames base (env0::outer):=ff.of_keeps fun b o hb hn=>⟨o,(other b fun z=>by rw[z,hT]at hb;cases hb;exact hn ts hdT).trans hb,rfl⟩
  refine Yrd hfr ff' hf0 hf ((other ea (Ne.symm hne)).trans he) hd h2 fun h' T' x' n st=>?_
  have nT':T'=T\/s.heap.get? T'=none:=by
   by_cases z:T'=T
   ·exact .inl z
   ·exact .inr ((other T' z).symm.trans n)
  refine hQ h' T' x' nT' ⟨fun b o e n1 n2 n3=>st.keep b o ((other b n2).trans e) n1 (fun z=>?_) n3,fun b o e m=>st.slot b o ((other b (nT b m)).trans e) m⟩
  rcases nT' with q | q
  ·exact n2 (z.trans q)
  ·rw[z,q]at e;cases e
theorem Ym7{l:List Env}{f:Option Addr}(x:Exc s.heap ea T C fl)(hQ:∀h',Exc h' ea T C (f.elim Value.none fun f=>rawInt f)->XStep s.heap h' ea T (frs l)->(∀b o,s.heap.get? b=some o->b≠T->h'.get? b=some o)->Q () { s with heap:=h' })(ff:s.heap.FunFrames base l):wpAny M A (setFlight (.ref ea) f) Q E s:=by
 obtain⟨oe,vs,oT,ts,he,hc,hd,h1,hne,hT,hdT,h3⟩:=x
 have hsz:3 < ts.size:=(Array.getElem?_eq_some_iff.mp h3).1
 unfold setFlight
 refine wpAny_bind (wpAny_field he hd h1 ?_)
 rw[if_pos (show(Value.ref T != Value.none)=true from by simp)]
 have other:∀b,b≠T->(s.heap.update T (Obj.mapFields (·.setIfInBounds 3 (f.elim Value.none fun f=>rawInt f)))).get? b=s.heap.get? b:=fun b hb=>Heap.get?_update_other _ _ (Ne.symm hb)
 refine wpAny_setField hT hdT hsz (hQ _ ?_ ⟨fun b o e _ n2 _=>(other b n2).trans e,fun b o e m=>⟨o.slots,(other b fun z=>?_).trans e⟩⟩ fun b o e n=>(other b n).trans e)
 ·exact⟨oe,vs,_,_,(other ea (Ne.symm hne)).trans he,hc,hd,h1,hne,Heap.get?_update_self _ hT (Obj.isFreed_of_fields (Obj.data_mapFields hdT _)),Obj.data_mapFields hdT _,by simp[hsz]⟩
 ·obtain⟨_,o',ho,hn⟩:=ff.mem m
  rw[z,hT]at ho;cases ho;exact hn ts hdT
theorem Ypt(hfr:A.frames=some (env::outer))(hf:env.frame=some L)(ff:s.heap.FunFrames base (env::outer))(x:Exc s.heap ea T C fl)
 (hQ:∀h' T',Exc h' ea T' C .none->(T'=T\/s.heap.get? T'=none)->XStep s.heap h' ea T (frs (env::outer))->Q () { s with heap:=h' }):wpAny M A (leaving env (.ref ea)) Q E s:=by
 unfold leaving
 refine wpAny_bind (Ymj hfr hf hf ff x fun h1 T1 x1 z1 st1=>?_)
 refine Yfp (base:=base) (l:=env::outer) x1 (fun h2 x2 st2 _=>hQ h2 T1 x2 z1 ⟨fun b o e n1 n2 n3=>?_,fun b o e m=>?_⟩) (Ye5 ff fun b hb o e=>st1.slot b o e hb)
 ·refine st2.keep b o (st1.keep b o e n1 n2 n3) n1 (fun z=>?_) n3
  rcases z1 with q | q
  ·exact n2 (z.trans q)
  ·rw[z,q]at e;cases e
 ·obtain⟨sl,q⟩:=st1.slot b o e m
  obtain⟨sl',q'⟩:=st2.slot b _ q m
  exact⟨sl',q'⟩
end
def Fly(X:Cx)(pins:List (Addr × Obj))(σ:L2.St)(E:XK)(e:Value)(s:Shared):Prop:=∃ea T H C fl,e=.ref ea/\Inv X pins σ H s/\Exc s.heap ea T C fl/\Off X pins H ea/\Off X pins H T/\E C none H
section
variable {P:Program} {w:World} {K:W.Frag} {mg:Str->Option Value} {base:Heap} {N:List Str} {qual:Str} {scope:Scope} {f:Addr} {cd:Value} {A:Around} {outer:List Env} {s0:Shared} {H0:Hp} {E:XK}
theorem Yfq{pins:List (Addr × Obj)}{σ:L2.St}{e:Value}{s:Shared}(x:Fly (cxOf (CXN P w) P w K mg base N qual scope f cd A outer s0 H0 E) pins σ E e s):(cxOf (CXN P w) P w K mg base N qual scope f cd A outer s0 H0 E).xe e s:=by
 obtain⟨ea,T,H',C,fl,rfl,J,x,oe,oT,hE⟩:=x
 show wpAny _ _ (leaving _ _) _ _ _
 refine Ypt (base:=base) J.ok.frames rfl J.stack x fun h' T' x' hT' st=>?_
 have oT':Off (cxOf (CXN P w) P w K mg base N qual scope f cd A outer s0 H0 E) pins H' T':=by
  rcases hT' with rfl | z
  ·exact oT
  ·exact Off.none J rfl z
 have J':=Yld J st oe oT
 exact⟨ea,T',H',C,rfl,J'.os,J'.bare,J'.base,J'.hok,x',oe.s0,oT'.s0,oe.hp,oT'.hp,hE⟩
end
end
end M
namespace L2
open PySem PySem.Spec PyProof.Rows M
def FlyE(X:Cx)(scope:Scope)(N:List Str)(cl:List (Str × Addr))(C:Addr)(fp:List Addr)(s:Shared)(H:Hp)(pn:List (Addr × Obj))(E:XK)(e:Value)(s':Shared):Prop:=
 ∃σ1 s1 H1 ea T H2 C',e=.ref ea/\Inv (Yv X scope N cl C fp s H) pn σ1 H1 s1/\s1.heap.get? ea=none/\s1.heap.get? T=none/\Inv (Yv X scope N cl C fp s H) pn σ1 H2 s'/\Exc s'.heap ea T C' .none/\H2 ea=none/\H2 T=none/\E C' none H2
abbrev cxE(X:Cx)(scope:Scope)(N:List Str)(cl:List (Str × Addr))(C:Addr)(fp:List Addr)(s:Shared)(H:Hp)(pn:List (Addr × Obj))(E:XK):Cx:={ Yv X scope N cl C fp s H with pn:=pn,xe:=fun e s'=>FlyE X scope N cl C fp s H pn E e s' }
section
variable {X:Cx} {scope:Scope} {N:List Str} {cl:List (Str × Addr)} {C:Addr} {fp:List Addr} {s0 s:Shared} {H0 H:Hp} {pn:List (Addr × Obj)} {E:XK} {σ:St} {elt tg iter:Expr} {ifs:List Expr} {pos:Pos} {wi:TI} {g:TG} {ti:TT} {te:TE} {src:List (Option Nat)}
theorem toE(I:Inv (Yv X scope N cl C fp s0 H0) pn σ H s):Inv (cxE X scope N cl C fp s0 H0 pn E) [] σ H s:=
 ⟨⟨I.ok.mod,I.ok.kind,I.ok.glob,I.ok.blt,I.ok.above,I.ok.inj,I.ok.has,I.ok.cab,I.ok.hd,I.ok.frames,I.ok.stk,I.ok.exf,I.ok.bs,I.ok.bsz,I.ok.noex,I.ok.exfs,I.ok.funs,I.ok.frf⟩,I.os,I.bare,I.base,I.loc,I.cell,I.free,I.freeC,fun p q=>I.pin p (by simpa using q),I.hok,I.len⟩
theorem ofE(I:Inv (cxE X scope N cl C fp s0 H0 pn E) [] σ H s):Inv (Yv X scope N cl C fp s0 H0) pn σ H s:=
 ⟨⟨I.ok.mod,I.ok.kind,I.ok.glob,I.ok.blt,I.ok.above,I.ok.inj,I.ok.has,I.ok.cab,I.ok.hd,I.ok.frames,I.ok.stk,I.ok.exf,I.ok.bs,I.ok.bsz,I.ok.noex,I.ok.exfs,I.ok.funs,I.ok.frf⟩,I.os,I.bare,I.base,I.loc,I.cell,I.free,I.freeC,fun p q=>I.pin p (by simpa using q),I.hok,I.len⟩
theorem Yh7{pins:List (Addr × Obj)}{σ:St}{H:Hp}{s:Shared}{Q:VK}{it:Addr}{fp:List Addr}{tn:Nat->Heap->Prop}{J:It}{R:Value->Addr->Result->Shared->Prop}{E:Value->Shared->Prop}{E1:XK}
 (S:CompSc X.N X.env.scope N src scope) (hc:X.calm=true) (hg:∀cl C fp s H,PG (Yv X scope N cl C fp s H) tg g) (hi:∀cl C fp s H,PIfs (Yv X scope N cl C fp s H) ifs ti) (he:∀cl C fp s H pn,PE (cxE X scope N cl C fp s H pn E1) elt te)
 (I:Inv X pins σ H s) (T:Turn X.prog X.w X.K tg J fp it tn) (st:tn 0 s.heap) (hf:∀b∈fp,FpOk X pins H b)
 (hX:∀(cl:List (Str × Addr)) (C Dd:Addr) (s3 s':Shared) (H':Hp) (e:Value) (pn:List (Addr × Obj)),C≠X.env.locals->X.s₀.heap.objs.size<=C->(∀x c,X.env.cells.lookup x=some c->c≠C)->(∀p∈X.pn++pins,p.1≠C)->(∀σ1 H1 s1,Inv (Yv X scope N cl C fp s3 H') pn σ1 H1 s1->Inv X pins σ H1 s1)->FlyE X scope N cl C fp s3 H' pn E1 e s'->notedBy (model X.prog X.w) X.A (compEnvC scope cl C X.env) (fun e s'=>R (.ref Dd) C (.error e) s') e s')
 (h:∀p,H p=none->∃W:Nat->Nat->St->Hp->Prop,(∃m,W 0 m (capσ src σ) (upd H p (.lst [])))/\∀i m σ1 H2,W i m σ1 H2->
  (J.stop i H2/\Q (.ref p) H2)\/
  (J.go i H2/\∀x H3,J.yld i H2 x H3->g x σ1 H3 fun σ4 H4=>ti σ4 H4 fun b H5=>if b=true then te σ4 H5 fun v H6=>∃xs,H6 p=some (.lst xs)/\xs.length < sizeLine/\∃m',m' < m/\W (i+1) m' σ4 (upd H6 p (.lst (xs++[v])))else ∃m',m' < m/\W (i+1) m' σ4 H5))
 (hR:∀(D C:Addr) (s':Shared) (H':Hp) (m:Str->Option Value),Inv X pins σ H' s'->s'.heap.Ns C m->H' C=none->C≠X.env.locals->X.s₀.heap.objs.size<=C->(∀x c,X.env.cells.lookup x=some c->c≠C)->(∀p∈X.pn++pins,p.1≠C)->Q (.ref D) H'->R (.ref D) C (.ok .next) s') :
 wpAny (model X.prog X.w) X.A (newList []) (fun acc s₃=>wpAny (model X.prog X.w) X.A (newFunctionEnv scope X.env.globals (clOf X.env scope.names []) [] X.env.qual none .none (some X.env)) (fun cenv s₄=>
  codeAny (model X.prog X.w) X.A (.compStart (.ListComp elt [⟨tg,iter,ifs,0⟩] scope pos) 0 (.ref it) acc { cenv with scope:=relabel scope X.env }) (R acc cenv.locals) s₄) E s₃) E s:=by
 refine wpAny_newObj_type (Ygr ?_)
 have hfree:H s.heap.objs.size=none:=I.fresh
 obtain⟨W,⟨m0,w0⟩,turn⟩:=h s.heap.objs.size hfree
 have I3:Inv X pins σ (upd H s.heap.objs.size (.lst [])) { s with heap:=s.heap.push { cls:=.type "list",dict:=none,data:=.seq ([]:List Value).toArray },toks:=s.toks }:=I.lnew (ys:=[]) (its:=[]) .nil (Nat.zero_le _)
 generalize hD:s.heap.objs.size=Dd at *
 generalize hH3:upd H Dd (.lst [])=H3 at *
 have kp0:∀b o,s.heap.get? b=some o->(s.heap.push { cls:=.type "list",dict:=none,data:=.seq ([]:List Value).toArray }).get? b=some o:=fun b o e=>qd _ e
 have lt0:∀b o,s.heap.get? b=some o->b≠Dd:=fun b o e=>by rw[<-hD];exact ql (qk e)
 generalize hs3:s.heap.push { cls:=.type "list",dict:=none,data:=.seq ([]:List Value).toArray }=hp3 at *
 have f3:∀b∈fp,FpOk X pins H3 b:=fun b hb=>by
  obtain⟨o,e,_⟩:=T.obj _ _ st b hb
  refine⟨?_,(hf b hb).2⟩
  rw[<-hH3,Yaa (lt0 b o e)]
  exact(hf b hb).1
 have ob3:∀b∈fp,∃o,hp3.get? b=some o:=fun b hb=>by
  obtain⟨o,e,_⟩:=T.obj _ _ st b hb
  exact⟨o,kp0 b o e⟩
 dsimp only
 have hns₁:(pushCells (hp3.push { cls:=.type "dict",data:=.dict #[] }) scope.names).Ns hp3.objs.size (fun _=>none):=(Heap.Ns.new hp3 (.type "dict")).keeps (pushCells_keeps _ _)
 have old:∀b o,hp3.get? b=some o->(pushCells (hp3.push { cls:=.type "dict",data:=.dict #[] }) scope.names).get? b=some o:=fun b o e=>pushCells_keeps _ _ b o (qd _ e)
 have cok:=cellsFrom_ok scope.names (hp3.push { cls:=.type "dict",data:=.dict #[] }) (hp3.objs.size+1) [] ⟨fun _ _ hm=>(nomatch hm),List.Pairwise.nil⟩ (by rw[Heap.size_push];exact qt _)
 rw[Heap.size_push]at cok
 have chas:∀x,scope.names.lookup x=some NameKind.cell->∃c,(cellsFrom (hp3.objs.size+1) scope.names []).lookup x=some c:=fun x hx=>Option.isSome_iff_exists.mp (PySem.W.cellsFrom_some _ _ _ (.inl hx))
 have cmem:∀x c,(x,c)∈cellsFrom (hp3.objs.size+1) scope.names []->(x,NameKind.cell)∈scope.names:=fun x c h=>Ycd _ _ x c h
 generalize cellsFrom (hp3.objs.size+1) scope.names []=own at *
 generalize pushCells (hp3.push { cls:=.type "dict",data:=.dict #[] }) scope.names=h₁ at *
 have I4:Inv (Yv X scope N (own++clOf X.env scope.names []) hp3.objs.size fp { s with heap:=hp3,toks:=s.toks } H3) [] (capσ src σ) H3 { s with heap:=h₁,toks:=s.toks }:=
  Yhy (s:={ s with heap:=hp3,toks:=s.toks }) (tk:=s.toks) S I3 f3 ob3 hns₁ old cok cmem chas
 have st4:tn 0 h₁:=T.keep _ _ _ st fun b _ o e=>old b o (kp0 b o e)
 have hCl:hp3.objs.size≠X.env.locals:=Nat.ne_of_gt I3.lt
 have hCc:∀x c,X.env.cells.lookup x=some c->c≠hp3.objs.size:=fun x c e=>by
  obtain⟨v,q⟩:=I3.cell x c e
  exact ql q.lt
 have hCp:∀p∈X.pn++pins,p.1≠hp3.objs.size:=fun p hp=>ql (qk (I3.pin p hp).1)
 have stat:∀{H':Hp},(∀b∈fp,H' b=none)->∀b∈fp,FpOk (Yv X scope N (own++clOf X.env scope.names []) hp3.objs.size fp { s with heap:=hp3,toks:=s.toks } H3) [] H' b:=fun {H'} hn b hb=>by
  obtain⟨e1,e2⟩:=I4.ok.exf b hb
  exact⟨hn b hb,e1,I4.ok.exfs b hb,.inl hb,e2,fun p hp=>nomatch hp⟩
 have loop:codeAny (model X.prog X.w) X.A (.compLoop (.ListComp elt [⟨tg,iter,ifs,0⟩] scope pos) 0 (.ref it) (.ref Dd) (compEnvC scope (own++clOf X.env scope.names []) hp3.objs.size X.env)) (R (.ref Dd) hp3.objs.size) { s with heap:=h₁,toks:=s.toks }:=by
  refine Ycc (fun n s'=>∃i σ' H',Inv (Yv X scope N (own++clOf X.env scope.names []) hp3.objs.size fp { s with heap:=hp3,toks:=s.toks } H3) [] σ' H' s'/\tn i s'.heap/\(∀b∈fp,H' b=none)/\W i n σ' H') ?_ m0 ⟨0,_,H3,I4,st4,fun b hb=>(f3 b hb).1,w0⟩
  rintro n s3 ⟨i,σ3,H3',I3',st3,fr3,w3⟩
  rcases turn i n σ3 H3' w3 with⟨stop,qn⟩ | ⟨go,step⟩
  ·refine thn (T.done (Yv X scope N (own++clOf X.env scope.names []) hp3.objs.size fp { s with heap:=hp3,toks:=s.toks } H3) rfl rfl rfl hc i [] s3 σ3 H3' _ I3' (stat fr3) st3 stop) fun r s4 ⟨hr,I5⟩=>?_
   subst hr
   obtain⟨m,hm,_⟩:=I5.loc
   exact hR Dd hp3.objs.size s4 H3' m (Yin I3 f3 I5) hm I5.free hCl (Nat.le_trans I3.sz (qt _)) hCc hCp qn
  ·refine thn (T.item (Yv X scope N (own++clOf X.env scope.names []) hp3.objs.size fp { s with heap:=hp3,toks:=s.toks } H3) rfl rfl rfl hc i [] s3 σ3 H3' _ I3' (stat fr3) st3 go) fun r s4 ⟨u,hr,h4⟩=>?_
   subst hr
   refine thn h4 fun _ s5 ⟨x,H5,I5,r5,y5,st5,fr5⟩=>?_
   have I5':=I5.pinned (stat fr5) (T.obj _ _ st5)
   have un:∀{α:Type} {t:Sem α} {Q':α->Shared->Prop} {E':Value->Shared->Prop} {s':Shared},wpAny (model X.prog X.w) X.A t Q' (fun _ _=>False) s'->wpAny (model X.prog X.w) X.A t Q' E' s':=fun h=>wpAny_mono h (fun _ _ q=>q) fun _ _ f=>f.elim
   refine un (thn (hg _ _ _ _ _ _ s5 σ3 H5 x u _ I5' r5 (step x H5 y5)) fun _ s6 ⟨σ6,H6,I6,q6⟩=>?_)
   refine un (thn (hi _ _ _ _ _ _ s6 σ6 H6 _ I6 q6) fun ok s7 ⟨H7,I7,q7⟩=>?_)
   have again:∀{H8:Hp} {s8:Shared} {m':Nat},m' < n->Inv (Yv X scope N (own++clOf X.env scope.names []) hp3.objs.size fp { s with heap:=hp3,toks:=s.toks } H3) ([]++Ygm fp s5.heap) σ6 H8 s8->W (i+1) m' σ6 H8->
    ∃m,m < n/\∃i σ' H',Inv (Yv X scope N (own++clOf X.env scope.names []) hp3.objs.size fp { s with heap:=hp3,toks:=s.toks } H3) [] σ' H' s8/\tn i s8.heap/\(∀b∈fp,H' b=none)/\W i m σ' H':=fun {H8 s8 m'} hm I8 w8=>by
    refine⟨m',hm,i+1,σ6,H8,I8.unpinned,T.keep _ _ _ st5 fun b hb o e=>(I8.pin (b,o) (Qc _ (Qc _ (Ych hb e)))).1,fun b hb=>?_,w8⟩
    obtain⟨o,e,d⟩:=T.obj _ _ st5 b hb
    exact(I8.pin (b,o) (Qc _ (Qc _ (Ych hb e)))).2.1
   cases ok with
   | false=>
     rw[if_neg qh]at q7 ⊢
     obtain⟨m',hm,w7⟩:=q7
     exact again hm I7 w7
   | true=>
     rw[if_pos rfl]at q7 ⊢
     refine wpAny_mono (he _ _ _ _ _ ([]++Ygm fp s5.heap) [] s7 σ6 H7 _ (toE I7) q7) (fun y s8 ⟨v,H8,I8',r8,q8⟩=>?_) (fun e s8 z=>hX _ _ _ _ _ _ _ _ hCl (Nat.le_trans I3.sz (qt _)) hCc hCp (fun σ1 H1 s1 J=>Yin I3 f3 J) z)
     have I8:=ofE I8'
     obtain⟨xs,e8,z8,m',hm,w8⟩:=q8
     refine un (thn (Ygn _ s8 σ6 H8 (.ref Dd) [v] (.ref Dd) [y] (fun _ H9=>H9=upd H8 Dd (.lst (xs++[v]))) I8 rfl (.cons r8 .nil) ⟨Dd,xs,v,rfl,rfl,e8,z8,rfl⟩) fun _ s9 ⟨_,H9,I9,_,q9⟩=>?_)
     subst q9
     exact again hm I9 w8
 exact codeAny_compStart_list loop (T.self _ _ _ _ _ st4 loop)
theorem Ymk{E1:XK}{pins:List (Addr × Obj)}{σ:St}{H:Hp}{s:Shared}{fp:List Addr}{use:Option (Value->Sem Unit)}{Q:Value->Shared->Prop}{acc:Value}(hfly:∀pins σ e s,Fly X pins σ E1 e s->X.xe e s)(hx:X.ex=[])(hst:X.stack=X.env::X.outer)(hfr:X.env.frame=some X.env.locals)(I:Inv X pins σ H s)
 (cl:List (Str × Addr)) (C:Addr) (s3 s':Shared) (H':Hp) (e:Value) (pn:List (Addr × Obj)) (hCl:C≠X.env.locals) (hCs:X.s₀.heap.objs.size<=C) (hCc:∀x c,X.env.cells.lookup x=some c->c≠C) (hCp:∀p∈X.pn++pins,p.1≠C)
 (toX:∀σ1 H1 s1,Inv (Yv X scope N cl C fp s3 H') pn σ1 H1 s1->Inv X pins σ H1 s1) (z:FlyE X scope N cl C fp s3 H' pn E1 e s') :
 notedBy (model X.prog X.w) X.A (compEnvC scope cl C X.env) (fun e s'=>compPost (model X.prog X.w) X.A X.xe use Q acc C (.error e) s') e s':=by
 obtain⟨σ1,sa,Ha,ea,T',Hb,C',rfl,Ja,n1,n2,Jb,x,n3,n4,hE⟩:=z
 have Ia:=toX _ _ _ Ja
 have Ib:=toX _ _ _ Jb
 have oe:Off X pins Hb ea:=Off.of Ia hx n1 n3
 have oT:Off X pins Hb T':=Off.of Ia hx n2 n4
 obtain⟨m,hm,_⟩:=Jb.loc
 have hm':s'.heap.Ns C m:=hm
 obtain⟨oC,es,ep,hoC,hdC,rC⟩:=id hm'
 have nf:∀b ob vs,s'.heap.get? b=some ob->ob.data=.fields vs->b≠C:=fun b ob vs e d z=>by
  rw[z,hoC]at e;cases e;rw[hdC]at d;cases d
 have neC:ea≠C/\T'≠C:=by
  obtain⟨oe,vs,oT,ts,h1,_,h3,_,_,h6,h7,_⟩:=x
  exact⟨nf _ _ _ h1 h3,nf _ _ _ h6 h7⟩
 have ff:=Ib.stack
 rw[hst]at ff
 refine Ymj (env0:=X.env) (outer:=X.outer) (L:=X.env.locals) (by rw[Ib.ok.frames,hst]) hfr hfr ff x fun h1 T1 x1 z1 st1=>?_
 rw[<-hst]at st1
 have I1:=Yld Ib st1 oe oT
 have oT1:=Ymf (h':=h1) Ib hx oT z1
 have neT1:T1≠C:=by
  rcases z1 with rfl | z
  ·exact neC.2
  ·intro w;rw[w,hoC]at z;cases z
 have hCf:C∉frs X.stack:=fun hb=>by
  rcases qr (Ib.stkSub _ hb)with w | w
  ·exact hCl w
  ·obtain⟨_,o,ho,_⟩:=I.ok.funs.mem w
   exact absurd (qx (qk ho) hCs) (Nat.lt_irrefl _)
 refine⟨m,⟨oC,es,ep,st1.keep C oC hoC (Ne.symm neC.1) (Ne.symm neC.2) hCf,hdC,rC⟩,fun h' sb cenv hcv=>?_⟩
 have I3:=I1.turned (h':=h') (t':=s'.toks) (it:=C) (fun b o hb e=>(sb.2 b hb).trans e) Jb.free hCl (.inr hCs) hCc hCp
 have x3:Exc h' ea T1 C' (rawInt X.env.locals):=by
  obtain⟨oe,vs,oT,ts,h1,h2,h3,h4,h5,h6,h7,h8⟩:=x1
  exact⟨oe,vs,oT,ts,(sb.2 _ neC.1).trans h1,h2,h3,h4,h5,(sb.2 _ neT1).trans h6,h7,h8⟩
 unfold PySem.passOn
 obtain⟨oe3,vs3,oT3,ts3,g1,g2,g3,g4,g5,g6,g7,g8⟩:=id x3
 refine wpAny_bind (wpAny_field g1 g3 g4 ?_)
 rw[if_neg (show ¬((Value.ref T1==Value.none)=true) from qh)]
 refine wpAny_bind (Ym7 (base:=X.base) (l:=X.stack) x3 (fun h4 x4 st4 _=>wpAny_throw (hfly pins σ _ _ ?_)) I3.stack)
 exact⟨ea,T1,Hb,C',_,rfl,Yld I3 st4 oe oT1,x4,oe,oT1,hE⟩
theorem Yre{E1:XK}(hfly:∀pins σ e s,Fly X pins σ E1 e s->X.xe e s)(hx:X.ex=[])(hst:X.stack=X.env::X.outer)(hfr:X.env.frame=some X.env.locals)
 (S:CompSc X.N X.env.scope N src scope) (hc:X.calm=true) (hit:PI X tg iter wi) (hg:∀cl C fp s H,PG (Yv X scope N cl C fp s H) tg g) (hi:∀cl C fp s H,PIfs (Yv X scope N cl C fp s H) ifs ti) (he:∀cl C fp s H pn,PE (cxE X scope N cl C fp s H pn E1) elt te)
 (hs:∀x,foldedSetIterable iter X.env x=pure x:=by intro _;rfl):PE X (.ListComp elt [⟨tg,iter,ifs,0⟩] scope pos) (tLC wi src g ti te):=by
 intro pins s σ H Q I h
 rw[eval_ListComp]
 have hcl:closureFor scope X.env=pure (clOf X.env scope.names []):=Ybs fun y hy hf=>I.ok.has y.1 (S.fr y hy hf)
 refine wpAny_comprehension_free (use:=none) rfl hs hcl S.kind S.names ?_
 refine thn (hit pins s σ H _ I h) fun v s1 h1=>thn h1 fun itv s2 ⟨it,fp,tn,J,H2,e,I2,T,st2,f2,q⟩=>?_
 subst e
 refine Yh7 (Q:=Q) (E1:=E1) (R:=fun acc C=>compPost (model X.prog X.w) X.A X.xe none (EP X pins σ Q) acc C) S hc hg hi he I2 T st2 f2 (fun cl C Dd s3 s' H' e pn hCl hCs hCc hCp toX z=>Ymk hfly hx hst hfr I cl C s3 s' H' e pn hCl hCs hCc hCp toX z) q fun D C s' H' m I' hm hC hCl hCs hCc hCp hq=>?_
 refine⟨m,hm,fun h' sb=>?_⟩
 exact⟨.ref D,H',I'.turned (t':=s'.toks) (fun b o hb e=>(sb.2 b hb).trans e) hC hCl (.inr hCs) hCc hCp,rfl,hq⟩
theorem Yrf{E1:XK}{i:Nat}{y:Str}{py spos:Pos}(hfly:∀pins σ e s,Fly X pins σ E1 e s->X.xe e s)(hx0:X.ex=[])(hst:X.stack=X.env::X.outer)(hfr:X.env.frame=some X.env.locals)
 (S:CompSc X.N X.env.scope N src scope) (hc:X.calm=true) (hit:PI X tg iter wi) (hg:∀cl C fp s H,PG (Yv X scope N cl C fp s H) tg g) (hi:∀cl C fp s H,PIfs (Yv X scope N cl C fp s H) ifs ti) (he:∀cl C fp s H pn,PE (cxE X scope N cl C fp s H pn E1) elt te)
 (hN:X.N.Nodup) (hy:X.N[i]?=some y) (hx:Loc X.env.scope y) (hsw:swapsWith (.ListComp elt [⟨tg,iter,ifs,0⟩] scope pos) (some (.Name y py)) spos.line X.env=pure true)
 (hf:X.fn y=true\/X.env.scope.names.lookup y=some .local:=by first | exact .inl rfl | exact .inr rfl | assumption)
 (hs:∀x,foldedSetIterable iter X.env x=pure x:=by intro _;rfl):PS X (.Assign [.Name y py] (.ListComp elt [⟨tg,iter,ifs,0⟩] scope pos) spos) (tAsg (tLC wi src g ti te) (Yjq i)):=by
 intro pins s σ H D I h
 rw[exec_Assign_Name_used _ _ _ _ hsw]
 refine wpAny_bind (wpAny_standAt (wpAny_bind ?_))
 show wpAny _ X.A (do let _ <-comprehension (.ListComp elt [⟨tg,iter,ifs,0⟩] scope pos) scope X.env _ (newList []) false (eval iter X.env) (some (assign (.Name y py) X.env))) _ _ s
 have hcl:closureFor scope X.env=pure (clOf X.env scope.names []):=Ybs fun y hy hf=>I.ok.has y.1 (S.fr y hy hf)
 refine wpAny_bind (wpAny_mono (wpAny_comprehension_free (use:=some (assign (.Name y py) X.env)) (Q:=fun _ s'=>SP X pins D .next s') rfl hs hcl S.kind S.names ?_) (fun _ s' hq=>wpAny_pure (wpAny_pure hq)) fun _ _ e=>e)
 refine thn (hit pins s σ H _ I h) fun v s1 h1=>thn h1 fun itv s2 ⟨it,fp,tn,J,H2,e,I2,T,st2,f2,q⟩=>?_
 subst e
 refine Yh7 (Q:=fun x H1=>Yjq i x σ H1 D.nx) (E1:=E1) (R:=fun acc C=>compPost (model X.prog X.w) X.A X.xe (some (assign (.Name y py) X.env)) (fun _ s'=>SP X pins D .next s') acc C) S hc hg hi he I2 T st2 f2 (fun cl C Dd s3 s' H' e pn hCl hCs hCc hCp toX z=>Ymk hfly hx0 hst hfr I cl C s3 s' H' e pn hCl hCs hCc hCp toX z) q fun Dd C s' H' m I' hm hC hCl hCs hCc hCp hq=>?_
 show wpAny _ X.A (assign (.Name y py) X.env (.ref Dd)) _ _ s'
 refine wpAny_assign_Name (Ygl I' hN hy hx (v:=.ref Dd) rfl (fun s'' I'' hsb=>?_) hf)
 obtain⟨a,sb,ha⟩:=hsb
 have hCa:C≠a:=by
  rcases ha with e | e
  ·rw[e];exact hCl
  ·exact Ne.symm (hCc y a e)
 refine⟨m,hm.sameBut sb hCa,fun h' sb'=>?_⟩
 exact⟨_,H',I''.turned (t':=s''.toks) (fun b o hb e=>(sb'.2 b hb).trans e) hC hCl (.inr hCs) hCc hCp,hq⟩
theorem Yrg{scope:Scope}{N:List Str}{cl:List (Str × Addr)}{C:Addr}{fp:List Addr}{s:Shared}{H:Hp}{pn:List (Addr × Obj)}{E:XK}:Yhx (CXN X.prog X.w) (cxE X scope N cl C fp s H pn E) E:=by
 rintro pins σ H1 s1 e s' I ⟨ea,T,H',C',rfl,os,bare,un,hok,x,n1,n2,n3,n4,hE⟩
 have I0:Inv (cxE X scope N cl C fp s H pn E) [] σ H1 s1:=I.pins_of (fun p hp=>nomatch hp)
 have J:=I0.call' os un hok bare (fun b z=>nomatch z)
 exact⟨σ,s1,H1,ea,T,H',C',rfl,ofE I0,n1,n2,ofE J,x,n3,n4,hE⟩
end
end L2
namespace M
open PySem PySem.Spec PyProof.Rows L2
section
def sxE(K:W.Frag)(mg:Str->Option Value)(E:XK)(xn:Str)(r:Ro->Option Bool):TE:=fun σ H _=>∃ρ H0 G0 G,r ρ=some true/\SR K H0 G0 σ H G ρ/\∀C H' G',mg xn=some (.ref C)->Gr H0 G0 H' G'->E (.ref C) none H'
def sxA(K:W.Frag)(mg:Str->Option Value)(E:XK)(xn:Str)(r:Ro->Option Bool):TA:=fun σ H _=>∃ρ H0 G0 G,r ρ=some true/\SR K H0 G0 σ H G ρ/\∀C H' G',mg xn=some (.ref C)->Gr H0 G0 H' G'->E (.ref C) none H'
structure YE(X:Cx)(E:XK)(xn:Str)(e:Expr)(r:Ro->Option Bool):Prop where
 un:PE X e (sxE X.K X.mg E xn r)
structure YA(X:Cx)(E:XK)(xn:Str)(es:List Expr)(r:Ro->Option Bool):Prop where
 un:PA X es (sxA X.K X.mg E xn r)
structure YS(X:Cx)(E:XK)(xn:Str)(st:Stmt)(r:Ro->Option Bool):Prop where
 un:PS X st (sxOf X.K X.mg E xn r)
def Yue(f:Ro->Option D)(r:Ro->Option Bool):Ro->Option Bool:=fun ρ=>(f ρ).bind fun _=>r ρ
def xGo(r1:Ro->Option Bool)(fs:Ro->Option Out)(r2:Ro->Option Bool):Ro->Option Bool:=fun ρ=>(r1 ρ).bind fun b=>if b=true then some true else (fs ρ).bind fun
 | .nx ρ'=>r2 ρ'
 | _=>some false
def Yfr(gt:D->Ro->Option Ro)(fe:Ro->Option D)(fr:Ro->Option Bool)(ρ:Ro):List D->Option Bool
 | []=>some false
 | d::ds=>(gt d ρ).bind fun ρ1=>(fr ρ1).bind fun b=>if b=true then some true else (fe ρ1).bind fun _=>Yfr gt fe fr ρ ds
def Yc1(gl:Ro->Option (List D))(src:List (Option Nat))(gt:D->Ro->Option Ro)(fe:Ro->Option D)(fr:Ro->Option Bool):Ro->Option Bool:=fun ρ=>(gl ρ).bind fun ds=>Yfr gt fe fr (capR src ρ) ds
section
variable {X:Cx} {E:XK} {xn:Str} {e elt tg iter:Expr} {es:List Expr} {f fe:Ro->Option D} {r r1 r2 fr:Ro->Option Bool} {pos cpos p:Pos} {st:Stmt} {rest:List Stmt} {fs:Ro->Option Out} {scope:Scope} {N:List Str} {src:List (Option Nat)} {gl:Ro->Option (List D)} {gt:D->Ro->Option Ro}
theorem PS.nox'{t:TS}(h:PS X.nox st t):PS X st t:=fun pins s σ H D I hw=>
 wpAny_mono (h pins s σ H D (I.wish _) hw) (fun _ _ q=>q.unwish) fun _ _ z=>False.elim z
theorem Yct{j k n:Nat}{x:Str}{ps:List Str}{fr:List D->Option Bool}{ga:Ro->Option (List D)}(px:Yhx (CXN X.prog X.w) X E)(c:Okx X.prog X.w X.K X.mg X.base j n x ps fr xn)(hr:Room k X.A)(hg:Gl X x)(ha:ZA X.nox (e::es) ga)(hl:∀ρ l,ga ρ=some l->l.length=n)(hj:j<=k:=by first | exact qt _ | omega)(hdb:(x==("__debug__":Str))=false:=by decide)
 (he:starEach (e::es) X.env=(false,eval e X.env)::starEach es X.env:=by rfl) (hpl:(backTo cpos (starEach es X.env)).any (·.1)=false:=by rfl):YE X E xn (.Call (.Name x p) (e::es) [] cpos) (Ya5 ga fr):=by
 obtain⟨a,fd,F,hb,hk,hm⟩:=c
 refine⟨PE.imp (Yno (E:=E) (F.mono hj) hr hg hm hk hb .nil px (PA.nox' ha.un) hdb he hpl) fun σ H Q ⟨ρ,H0,G0,G,e,s,h⟩=>?_⟩
 unfold Ya5 at e
 obtain⟨l,h1,e⟩:=qa e
 refine tAof.at h1 s fun vs H1 G1 g1 r1 s1=>?_
 show spX X.K X.mg n fr xn (vs++[]) H1 _ E
 rw[List.append_nil]
 exact⟨by rw[r1.length];exact hl ρ l h1,l,G1,s1.seen,r1,e,fun C H' G' hC g'=>h C H' G' hC (s1.gr.trans g')⟩
theorem Yuf(h:YE X E xn e r)(hs:starEach (e::es) X.env=(false,eval e X.env)::starEach es X.env:=by rfl):YA X E xn (e::es) r:=
 ⟨PA.imp (Ybn h.un (t:=fun _ _ _=>False) (fun _ _ _ _ _ _ _ z=>z.elim) hs) fun _ _ _ z=>z⟩
theorem Yug(h:ZE X.nox e f)(hr:YA X E xn es r)(hs:starEach (e::es) X.env=(false,eval e X.env)::starEach es X.env:=by rfl):YA X E xn (e::es) (Yue f r):=
 ⟨PA.imp (Ybn (PE.nox h.un) hr.un hs) fun σ H Q ⟨ρ,H0,G0,G,e,s,h⟩=>by
  obtain⟨d,h1,e⟩:=qa e
  exact tOf.at h1 s fun v H1 G1 g1 r1 s1=>⟨ρ,H0,G0,G1,e,s1,h⟩⟩
theorem Yrh:YA X E xn es xNo:=⟨PA.imp (t:=fun _ _ _=>False) (fun _ _ _ _ _ _ _ z=>z.elim) fun _ _ _ ⟨_,_,_,_,e,_⟩=>by cases e⟩
def Yc8(r1:Ro->Option Bool)(f:Ro->Option D)(r2:Ro->Option Bool):Ro->Option Bool:=fun ρ=>(r1 ρ).bind fun b=>if b=true then some true else (f ρ).bind fun _=>r2 ρ
theorem Yfs(h1:YE X E xn e r1)(h:ZE X.nox e f)(hr:YA X E xn es r2)(hs:starEach (e::es) X.env=(false,eval e X.env)::starEach es X.env:=by rfl):YA X E xn (e::es) (Yc8 r1 f r2):=by
 have both:PE X e (fun σ H Q=>tOf X.K f σ H Q\/sxE X.K X.mg E xn r1 σ H Q):=fun pins s σ H Q I h'=>by
  rcases h' with h' | h'
  ·exact PE.nox h.un pins s σ H Q I h'
  ·exact h1.un pins s σ H Q I h'
 refine⟨PA.imp (Ybn both hr.un hs) fun σ H Q ⟨ρ,H0,G0,G,e,s,h⟩=>?_⟩
 obtain⟨b,e1,e⟩:=qa e
 cases b with
 | true=>exact .inr ⟨ρ,H0,G0,G,e1,s,h⟩
 | false=>
   rw[if_neg qh]at e
   obtain⟨d,h1,e⟩:=qa e
   exact .inl (tOf.at h1 s fun v H1 G1 g1 r1 s1=>⟨ρ,H0,G0,G1,e,s1,h⟩)
theorem Yh8(h:YE X E xn e r):ZX X E xn (.Return (some e) pos::rest) r:=⟨PSs.imp (Yes (PS.imp (Yrr h.un) (t':=sxOf X.K X.mg E xn r) fun _ _ _ z=>z) Yet) fun _ _ _ z=>z⟩
theorem Yml{x1}(h:YA X E xn es r):YE X E xn (.Tuple es x1 pos) r:=⟨PE.imp (Yrv h.un) fun _ _ _ z=>z⟩
theorem Yyq:YS X E xn st xNo:=⟨PS.imp Yp8 fun _ _ _ ⟨_,_,_,_,e,_⟩=>by cases e⟩
theorem Yyr{c:Expr}{a:List Stmt}{fc ra:Ro->Option Bool}(hc:ZT X.nox c fc)(ha:ZX X E xn a ra):YS X E xn (.If c a [] pos) (xIf fc ra xNo):=
 ⟨PS.imp (Ysm (PT.nox hc.un) ha.un Yet) fun D σ H ⟨ρ,H0,G0,G,e,s,h⟩=>by
  obtain⟨k,h1,e⟩:=qa e
  refine tTof.at h1 s fun H1 G1 g1 s1=>?_
  cases k with
  | true=>
    rw[if_pos rfl]at e ⊢
    exact⟨ρ,H0,G0,G1,e,s1,h⟩
  | false=>cases e⟩
theorem Ypu(h1:ZS X.nox st fs)(h2:YS X E xn st r1)(hr:ZX X E xn rest r2):ZX X E xn (st::rest) (xGo r1 fs r2):=by
 have both:PS X st (fun D σ H=>sOf X.K fs D σ H\/sxOf X.K X.mg E xn r1 D σ H):=fun pins s σ H D I h=>by
  rcases h with h | h
  ·exact PS.nox' h1.un pins s σ H D I h
  ·exact h2.un pins s σ H D I h
 refine⟨PSs.imp (Yes both hr.un) fun D σ H ⟨ρ,H0,G0,G,e,s,h⟩=>?_⟩
 unfold xGo at e
 obtain⟨b,e1,e⟩:=qa e
 cases b with
 | true=>exact .inr ⟨ρ,H0,G0,G,e1,s,h⟩
 | false=>
   rw[if_neg qh]at e
   obtain⟨o,e2,e⟩:=qa e
   cases o with
   | nx ρ'=>exact .inl ⟨ρ,.nx ρ',H0,G0,G,e2,s,fun σ' H' G' s'=>⟨ρ',H0,G0,G',e,s',h⟩⟩
   | rt d=>cases e
   | bk ρ'=>cases e
   | ct ρ'=>cases e
theorem Yxe(i:Nat){x:Str}{pos':Pos}(hN:X.N.Nodup)(h:YE X E xn e r)(hi:X.N[i]?=some x:=by rfl)(hx:Loc X.env.scope x:=by first | exact Or.inl rfl | exact Or.inr rfl)(hs:swapsWith e (some (.Name x pos')) pos.line X.env=pure false:=by rfl)
 (hf:X.fn x=true\/X.env.scope.names.lookup x=some .local:=by first | exact .inl rfl | exact .inr rfl):YS X E xn (.Assign [.Name x pos'] e pos) r:=⟨PS.imp (Yng hN hi hx h.un hs hf) fun _ _ _ z=>z⟩
theorem Yys{T:String}{x:Str}{rr:List V->Hp->VK->Prop}(hc:Yb6 X (.type T) rr)(h:YA X E xn (e::es) r)(hg:Gl X x)(hm:X.mg x=none)(hv:bootBuiltins x=some (.type T))(hn:x≠"__name__":=by decide)(hdb:(x==("__debug__":Str))=false:=by decide)
 (he:starEach (e::es) X.env=(false,eval e X.env)::starEach es X.env:=by rfl) (hpl:(backTo pos (starEach es X.env)).any (·.1)=false:=by rfl):YE X E xn (.Call (.Name x p) (e::es) [] pos) r:=⟨PE.imp (Yev hc hg hm hv h.un hn hdb he hpl) fun _ _ _ z=>z⟩
theorem PI.nox'{t:TI}(h:PI X.nox tg iter t):PI X tg iter t:=fun pins s σ H R I hw=>
 wpAny_mono (h pins s σ H R (I.wish _) hw) (fun _ _ q=>wpAny_mono q (fun _ _ ⟨it,fp,tn,J,H',e,I',T,st,f,q⟩=>⟨it,fp,tn,J,H',e,I'.unwish,T,st,f,q⟩) fun _ _ z=>False.elim z) fun _ _ z=>False.elim z
def tEl(K:W.Frag)(mg:Str->Option Value)(E:XK)(xn:Str)(fe:Ro->Option D)(fr:Ro->Option Bool):TE:=fun σ H Q=>tOf K fe σ H Q\/sxE K mg E xn fr σ H Q
theorem Ymm{K:W.Frag}{mg:Str->Option Value}(hle:∀ρ d ρ1,gt d (capR src ρ)=some ρ1->Le (capR src ρ) ρ1){σ:L2.St}{H:Hp}{Q:VK}
 (h:sxE K mg E xn (Yc1 gl src gt fe fr) σ H Q):tLC (tIof K gl) src (gOf K gt) (tTof K tY) (tEl K mg E xn fe fr) σ H Q:=by
 obtain⟨ρ,H0,G0,G,e,s,h⟩:=h
 unfold Yc1 at e
 obtain⟨ds,h1,h2⟩:=qa e
 refine⟨ρ,ds,H0,G0,G,h1,s,fun J H1 G1 g1 wk p hp=>?_⟩
 have s1:=s.grow g1
 have sc:=s1.cap src
 have gp:G1 p=none:=s1.seen.free hp
 refine⟨fun i m σ' H'=>m=ds.length - i/\i<=ds.length/\∃G' xs,SR K H1 G1 σ' H' G' (capR src ρ)/\H' p=some (.lst xs)/\G' p=none/\xs.length<=i/\Yfr gt fe fr (capR src ρ) (ds.drop i)=some true,
  ⟨_,rfl,Nat.zero_le _,G1,[],sc.grow (Gr.hid s1.seen hp _),Yy,gp,Nat.zero_le _,h2⟩,?_⟩
 rintro i m σ' H' ⟨rfl,hi,G',xs,s',hx,gx,hl,e'⟩
 have W:=wk.2 i H' G' s'.gr.g s'.seen
 by_cases hlt:i < ds.length
 ·have hdi:ds[i]?=some ds[i]:=qp hlt
  obtain⟨go,yl⟩:=W.1 _ hdi
  rw[List.drop_eq_getElem_cons hlt,Yfr]at e'
  obtain⟨ρ1,e1,e'⟩:=qa e'
  obtain⟨b,e2,e'⟩:=qa e'
  refine .inr ⟨go,fun x H2 y=>?_⟩
  obtain⟨G2,g2,r2⟩:=yl x H2 y
  have keep:∀{Ha Ga Hb Gb:Hp},Gr Ha Ga Hb Gb->Ha p=some (.lst xs)->Ga p=none->Hb p=some (.lst xs)/\Gb p=none:=fun {Ha Ga Hb Gb} g e1 e2=>by
   refine⟨g.h _ _ e1,?_⟩
   cases q:Gb p with
   | none=>rfl
   | some o=>
     have:=g.n p e2 (by rw[q];exact fun z=>nomatch z)
     rw[e1]at this
     cases this
  obtain⟨hx2,gx2⟩:=keep g2 hx gx
  refine⟨_,capR src ρ,ρ1,H1,G1,G2,e1,s'.grow g2,r2,fun σ3 s3=>?_⟩
  refine tTof.at (b:=true) rfl s3 fun H4 G4 g4 s4=>?_
  obtain⟨hx4,gx4⟩:=keep g4 hx2 gx2
  have le:=hle ρ _ ρ1 e1
  rw[if_pos rfl]
  cases b with
  | true=>exact .inr ⟨ρ1,H1,G1,G4,e2,s4,fun C H' G' hC g'=>h C H' G' hC (s1.gr.trans g')⟩
  | false=>
    rw[if_neg qh]at e'
    obtain⟨v,e3,e'⟩:=qa e'
    refine .inl (tOf.at e3 s4 fun w H5 G5 g5 r5 s5=>?_)
    obtain⟨hx5,gx5⟩:=keep g5 hx4 gx4
    have hz:=wk.1
    refine⟨xs,hx5,by omega,ds.length - (i+1),by omega,rfl,hlt,G5,xs++[w],?_,Yy,gx5,by simp;omega,e'⟩
    have s6:=s5.le le
    have noow:∀(i:Nat) l,(capR src ρ)[i]?≠some (some (B.ow l)):=fun i l h=>by
     unfold capR at h
     rw[qz]at h
     obtain⟨o,h1,h2⟩:=qb h
     obtain⟨j,rfl,h3⟩:=qa h2
     split at h3<;>cases h3
    have nood:∀(i:Nat) t ks vs,(capR src ρ)[i]?≠some (some (B.od t ks vs)):=fun i t ks vs h=>by
     unfold capR at h
     rw[qz]at h
     obtain⟨o,h1,h2⟩:=qb h
     obtain⟨j,rfl,h3⟩:=qa h2
     split at h3<;>cases h3
    refine SR.mkSh ⟨fun b o q=>?_,s6.gr.g,fun b o q=>?_,s6.gr.n⟩ s6.len s6.sh noow nood
    ·rw[Yaa (Yab q hp)];exact s6.gr.h b o q
    ·rw[Yaa (Yab q gx5)];exact s6.gr.s b o q
 ·have ei:i=ds.length:=by omega
  subst ei
  rw[List.drop_length,Yfr]at e'
  cases e'
theorem Yxf{cl:List (Str × Addr)}{C:Addr}{fp:List Addr}{s:Shared}{H:Hp}{pn:List (Addr × Obj)}(h1:ZE (cxE X scope N cl C fp s H pn E).nox elt fe)(h2:YE (cxE X scope N cl C fp s H pn E) E xn elt fr):PE (cxE X scope N cl C fp s H pn E) elt (tEl X.K X.mg E xn fe fr):=fun pins s σ H Q I h=>by
 rcases h with h | h
 ·exact PE.nox h1.un pins s σ H Q I h
 ·exact h2.un pins s σ H Q I h
theorem Yuh(hfly:∀pins σ e s,Fly X pins σ E e s->X.xe e s)(S:CompSc X.N X.env.scope N src scope)(hc:X.calm=true)(hit:ZI X.nox tg iter gl)(hg:∀cl C fp s H,ZG (Yv X scope N cl C fp s H) tg gt)(h1:∀cl C fp s H pn,ZE (cxE X scope N cl C fp s H pn E).nox elt fe)(h2:∀cl C fp s H pn,YE (cxE X scope N cl C fp s H pn E) E xn elt fr)
 (hle:∀ρ d ρ1,gt d (capR src ρ)=some ρ1->Le (capR src ρ) ρ1) (hx:X.ex=[]:=by rfl) (hst:X.stack=X.env::X.outer:=by rfl) (hfr:X.env.frame=some X.env.locals:=by rfl) (hs:∀x,foldedSetIterable iter X.env x=pure x:=by intro _;rfl):YE X E xn (.ListComp elt [⟨tg,iter,[],0⟩] scope pos) (Yc1 gl src gt fe fr):=
 ⟨PE.imp (Yre hfly hx hst hfr S hc (PI.nox' hit.un) (fun cl C fp s H=>(hg cl C fp s H).un) (fun _ _ _ _ _=>Yn5) (fun cl C fp s H pn=>Yxf (h1 cl C fp s H pn) (h2 cl C fp s H pn)) hs) fun _ _ _ h=>Ymm hle h⟩
theorem Ypv(i:Nat){y:Str}{py spos:Pos}(hN:X.N.Nodup)(hfly:∀pins σ e s,Fly X pins σ E e s->X.xe e s)(S:CompSc X.N X.env.scope N src scope)(hc:X.calm=true)(hit:ZI X.nox tg iter gl)(hg:∀cl C fp s H,ZG (Yv X scope N cl C fp s H) tg gt)(h1:∀cl C fp s H pn,ZE (cxE X scope N cl C fp s H pn E).nox elt fe)(h2:∀cl C fp s H pn,YE (cxE X scope N cl C fp s H pn E) E xn elt fr)
 (hle:∀ρ d ρ1,gt d (capR src ρ)=some ρ1->Le (capR src ρ) ρ1) (hsw:swapsWith (.ListComp elt [⟨tg,iter,[],0⟩] scope pos) (some (.Name y py)) spos.line X.env=pure true:=by rfl) (hy:X.N[i]?=some y:=by rfl) (hl:Loc X.env.scope y:=by first | exact Or.inl rfl | exact Or.inr rfl)
 (hf:X.fn y=true\/X.env.scope.names.lookup y=some .local:=by first | exact .inl rfl | exact .inr rfl) (hx:X.ex=[]:=by rfl) (hst:X.stack=X.env::X.outer:=by rfl) (hfr:X.env.frame=some X.env.locals:=by rfl) (hs:∀x,foldedSetIterable iter X.env x=pure x:=by intro _;rfl):YS X E xn (.Assign [.Name y py] (.ListComp elt [⟨tg,iter,[],0⟩] scope pos) spos) (Yc1 gl src gt fe fr):=
 ⟨PS.imp (Yrf hfly hx hst hfr S hc (PI.nox' hit.un) (fun cl C fp s H=>(hg cl C fp s H).un) (fun _ _ _ _ _=>Yn5) (fun cl C fp s H pn=>Yxf (h1 cl C fp s H pn) (h2 cl C fp s H pn)) hN hy hl hsw hf hs) fun _ _ _ h=>Ymm hle h⟩
end
end
section
section
variable {X:Cx} {pos:Pos}
theorem Yri:ZE X (.Dict [] [] pos) (kD (.dct false [] [])):=⟨PE.imp Yqd fun σ H Q ⟨ρ,d,H0,G0,G,e,s,h⟩=>by
 cases e
 intro p hp
 exact h _ _ _ ((Gr.hid s.seen hp _).show hp (s.seen.free hp) Yy) (by
  rw[Rp]
  exact⟨p,[],[],rfl,Yyi (ns:=[]) (vxs:=[]) Yy .nil rfl,.nil,.nil⟩)⟩
end
end
end M
namespace Lw
open PySem PySem.Spec PyProof.Rows L2 M
def top(i:Nat):Stmt:=PySem.Challenge.pw_duskbook_k02_no_book.main.body.getD i (.Pass ⟨0,0,0,0⟩)
def Ydn:List Str:=[(Str.ofString "eithers"),(Str.ofString "sums"),(Str.ofString "ifs"),(Str.ofString "nots")]
set_option maxHeartbeats 4000000
def Fq(K:W.Frag)(mg:Str->Option Value)(x:Str)(i:Nat):Prop:=∃a fd,Fun K x x (top i) a fd/\mg x=some (.ref a)
def Fk(K:W.Frag)(x:Str)(i:Nat):Prop:=∃a fd,W.nsIn K mainGlobals x=some (some (.ref a))/\Fun K x x (top i) a fd
theorem Fk.on{K:W.Frag}{h:Heap}{mg:Str->Option Value}{x:Str}{i:Nat}(F:Fk K x i)(X:K.In h)(G:h.Ns mainGlobals mg):Fq K mg x i:=by
 obtain⟨a,fd,n,f⟩:=F
 exact⟨a,fd,f,W.mg_of X G n⟩
theorem fk_mk{K:W.Frag}{x:Str}{i:Nat}{f:Addr}{oc:Value}{od an:Option Addr}{osl:Array (Option Value)}{kV doc pm cdv ct:Value}(a:W.nsIn K mainGlobals x=some (some (.ref f)))(l:K.lookup f=some ⟨oc,od,.func (W.fnOf x x (defArgs (top i)) (defBody (top i)) (defScope (top i)) .none kV doc pm an cdv ct),osl⟩)(c:W.codeIn K cdv x=true)(k:W.keepIn K (.ref f)=true):Fk K x i:=⟨_,_,a,Yrx l c k⟩
theorem fns{N ps:List Str}{sc:Scope}(a:sc.kind=.function:=by rfl)(b:sc.isCoroutine=false:=by rfl)(c:sc.isGenerator=false:=by rfl)(d:N.Nodup:=by decide +kernel)(e:N.take ps.length=ps:=by rfl)(f:∀x∈ps,sc.names.lookup x=some .local\/sc.names.lookup x=some .cell:=by decide +kernel)(g:∀y∈sc.names,y.2≠.free:=by decide +kernel):FnScope N ps sc:=⟨a,b,c,d,e,f,g⟩
def Bnd(x:Str)(i:Nat)(ps:List Str):Prop:=∀(kV doc pm:Value) (an:Option Addr) (cdv ct:Value) (us:List Value),us.length=ps.length->bindArgs (W.fnOf x x (defArgs (top i)) (defBody (top i)) (defScope (top i)) .none kV doc pm an cdv ct) ⟨us,[]⟩=pure (ps.zip us)
theorem okfn{P:Program}{w:World}{K:W.Frag}{mg:Str->Option Value}{base:Heap}{x:Str}{i k n m:Nat}{N ps:List Str}{fb:Ro->Option Out}(F:Fq K mg x i)(S:FnScope N ps (defScope (top i)))(hb:∀{f:Addr} {cdv:Value} {A:Around} {outer:List Env} {s:Shared} {H:Hp} {E:XK},Room k (A.deeper (envOfC x (defScope (top i)) s.heap.objs.size f cdv))->ZB (cxOf CX0 P w K mg base N x (defScope (top i)) f cdv A outer s H E).nox (defBody (top i)) fb)(hn:N.length=n:=by rfl)(hm:ps.length=m:=by rfl)(B:Bnd x i ps:=by(intro _ _ _ _ _ _ us hl;first | (obtain⟨_,rfl⟩:=len1 hl;rfl) | (obtain⟨_,_,rfl⟩:=len2 hl;rfl) | (obtain⟨_,_,_,rfl⟩:=len3 hl;rfl) | (obtain⟨_,_,_,_,rfl⟩:=len4 hl;rfl) | (obtain⟨_,_,_,_,_,rfl⟩:=len5 hl;rfl) | (obtain⟨_,_,_,_,_,_,rfl⟩:=len6 hl;rfl) | (obtain⟨_,_,_,_,_,_,_,rfl⟩:=len7 hl;rfl))):Okf P w K mg base (k+1) m x ps (runB m n fb):=by
 obtain⟨a,fd,f,h⟩:=F
 exact Ywr f (f.binds B) h (Yh4 (k:=k) f S hn hm fun _ _ _ _ _ _ hr=>hb hr)
theorem okfx{P:Program}{w:World}{K:W.Frag}{mg:Str->Option Value}{base:Heap}{x xn:Str}{i k n m:Nat}{N ps:List Str}{r:Ro->Option Bool}(F:Fq K mg x i)(S:FnScope N ps (defScope (top i)))(hb:∀{f:Addr} {cdv:Value} {A:Around} {outer:List Env} {s:Shared} {H:Hp} {E:XK},Room k (A.deeper (envOfC x (defScope (top i)) s.heap.objs.size f cdv))->ZX (cxOf (CXN P w) P w K mg base N x (defScope (top i)) f cdv A outer s H E) E xn (defBody (top i)) r)(hn:N.length=n:=by rfl)(hm:ps.length=m:=by rfl)(B:Bnd x i ps:=by(intro _ _ _ _ _ _ us hl;first | (obtain⟨_,rfl⟩:=len1 hl;rfl) | (obtain⟨_,_,rfl⟩:=len2 hl;rfl) | (obtain⟨_,_,_,rfl⟩:=len3 hl;rfl) | (obtain⟨_,_,_,_,rfl⟩:=len4 hl;rfl) | (obtain⟨_,_,_,_,_,rfl⟩:=len5 hl;rfl) | (obtain⟨_,_,_,_,_,_,rfl⟩:=len6 hl;rfl) | (obtain⟨_,_,_,_,_,_,_,rfl⟩:=len7 hl;rfl))):Okx P w K mg base (k+1) m x ps (runX m n r) xn:=by
 obtain⟨a,fd,f,h⟩:=F
 exact⟨a,fd,Ym6 (k:=k) f S hn hm fun _ _ _ _ _ _ hr=>hb hr,f.binds B,f.kp,h⟩
theorem okfr{P:Program}{w:World}{K:W.Frag}{mg:Str->Option Value}{base:Heap}{x:Str}{i m L:Nat}{ps:List Str}{mr:Nat->List D->Option D}(F:Fq K mg x i)(h0:mr 0=fun _=>none)(hs:∀{k j:Nat},Okf P w K mg base k m x ps (mr j)->L<=k->Okf P w K mg base (k+1) m x ps (mr (j+1)))(hm:ps.length=m:=by rfl)(B:Bnd x i ps:=by(intro _ _ _ _ _ _ us hl;first | (obtain⟨_,rfl⟩:=len1 hl;rfl) | (obtain⟨_,_,rfl⟩:=len2 hl;rfl) | (obtain⟨_,_,_,rfl⟩:=len3 hl;rfl) | (obtain⟨_,_,_,_,rfl⟩:=len4 hl;rfl) | (obtain⟨_,_,_,_,_,rfl⟩:=len5 hl;rfl) | (obtain⟨_,_,_,_,_,_,rfl⟩:=len6 hl;rfl) | (obtain⟨_,_,_,_,_,_,_,rfl⟩:=len7 hl;rfl))):∀j,Okf P w K mg base (L+j) m x ps (mr j)
 | 0=>by
   obtain⟨a,fd,f,h⟩:=F
   rw[h0]
   exact Yqu f (f.binds B) h hm
 | j+1=>hs (okfr F h0 hs hm B j) (Nat.le_add_right _ _)
theorem aL1{f0:Ro->Option D}:∀ρ l,Yg f0 aNil ρ=some l->l.length=1:=Ygy fun _ _ h=>Yqo h
theorem aL2{f0 f1:Ro->Option D}:∀ρ l,Yg f0 (Yg f1 aNil) ρ=some l->l.length=2:=Ygy aL1
theorem aL3{f0 f1 f2:Ro->Option D}:∀ρ l,Yg f0 (Yg f1 (Yg f2 aNil)) ρ=some l->l.length=3:=Ygy aL2
structure Bl(K:W.Frag)(w:World)(mg:Str->Option Value):Prop where
 Len:mg "len"=none
 Range:mg "range"=none
 List:mg "list"=none
 Tuple:mg "tuple"=none
 Int:mg "int"=none
 Bool:mg "bool"=none
 Str:mg "str"=none
 Sorted:mg "sorted"=none
 Any:mg "any"=none
 All:mg "all"=none
 Isinstance:mg "isinstance"=none
 Set:mg "set"=none
 Max:mg "max"=none
 Valueerror:mg "ValueError"=none
 g_BEACON_COUNT:GI mg "BEACON_COUNT" 60
 g_KINDS:GT K mg "KINDS" Ydn
 g_MOST_RULES:GI mg "MOST_RULES" 60
 g_MOST_SAYINGS:GI mg "MOST_SAYINGS" 2
 f15:Fq K mg "is_beacon" 15
 f16:Fq K mg "checked_beacon" 16
 f17:Fq K mg "checked_truth" 17
 f18:Fq K mg "checked_beacons" 18
 f19:Fq K mg "either_made" 19
 f20:Fq K mg "sum_made" 20
 f21:Fq K mg "if_made" 21
 f22:Fq K mg "rule_made" 22
 f23:Fq K mg "book_made" 23
 f25:Fq K mg "_law_cell" 25
 f26:Fq K mg "_law_mixed" 26
 f27:Fq K mg "_law_kind" 27
 f28:Fq K mg "_law_rule" 28
 f29:Fq K mg "_law_same" 29
 f30:Fq K mg "_law_strange" 30
 f31:Fq K mg "_law_headless" 31
 f32:Fq K mg "_law_no_truth" 32
 f33:Fq K mg "_law_bad_either" 33
 f34:Fq K mg "_law_bad_rule" 34
 f35:Fq K mg "_law_kinds" 35
 x_NoBook_NoBook:Xp K mg "NoBook" "NoBook" true
 x_NoBook_DuskError:Xp K mg "NoBook" "DuskError" true
 x_NoBook_NoPage:Xp K mg "NoBook" "NoPage" false
 x_NoBook_NoneSettled:Xp K mg "NoBook" "NoneSettled" false
 x_NoBook_NoLight:Xp K mg "NoBook" "NoLight" false
 x_NoBook_NoHands:Xp K mg "NoBook" "NoHands" false
 x_NoBook_Over:Xp K mg "NoBook" "Over" false
 x_NoBook_NoTable:Xp K mg "NoBook" "NoTable" false
 x_NoBook_NoPaper:Xp K mg "NoBook" "NoPaper" false
section
variable {P:Program} {w:World} {K:W.Frag} {mg:Str->Option Value} {base:Heap}
theorem Ykf:FnScope ["thing"] ["thing"] (defScope (top 15)):=fns
def Ycu:Ro->Option Out:=(sRet (andV (mB (b1 (getC 0) (isiD "int"))) (andV (notV (mB (b1 (getC 0) (isiD "bool")))) (mB (ch3 (kD (.int 0)) (getC 0) (kD (.int 60)) leI ltI)))))
def y9:List D->Option D:=runB 1 1 Ycu
theorem Yf2(bl:Bl K w mg):Okf P w K mg base 1 1 "is_beacon" ["thing"] y9:=by
 refine okfn bl.f15 Ykf fun hr=>?_
 exact(Yp (Yu (Yfn (Yb9 (Yd 0) rfl rfl bl.Isinstance bl.Int boot_int (Yn8)) (Yfn (Yo4 (Yb9 (Yd 0) rfl rfl bl.Isinstance bl.Bool boot_bool (Ygf))) (Ygg (Yo7 Yxy Ygv Yvb Ygv (Yc Ye) (Yd 0) (Yc (Ye2 bl.g_BEACON_COUNT rfl))))))))
theorem Ydd:FnScope ["thing"] ["thing"] (defScope (top 16)):=fns
def Yca:Ro->Option Out:=(sSeq (sIf (notT (b1 (cC (Yg (getV 0) aNil) y9) truD)) nS sNil) (sRet (getV 0)))
def Yr:List D->Option D:=runB 1 1 Yca
theorem Yz(bl:Bl K w mg):Okf P w K mg base 2 1 "checked_beacon" ["thing"] Yr:=by
 refine okfn bl.f16 Ydd fun hr=>?_
 exact(Yi (Yar (Yfm (Ydj (Yc (Yk (Yf2 bl) hr rfl (Yb (Yl 0) Yh) aL1)))) (Yp Ycs) Yae) (Yp (Yu (Yl 0))))
def Ybz:Ro->Option Bool:=(xIf (notT (b1 (cC (Yg (getV 0) aNil) y9) truD)) xYes xNo)
def Yap:List D->Option Bool:=runX 1 1 Ybz
theorem Ybw(bl:Bl K w mg):Okx P w K mg base 2 1 "checked_beacon" ["thing"] Yap "NoBook":=by
 refine okfx bl.f16 Ydd fun hr=>?_
 exact(Yi4 (Yfm (Ydj (Yc (Yk (Yf2 bl) hr rfl (Yb (Yl 0) Yh) aL1)))) (Ydm bl.x_NoBook_NoBook) Ypn)
theorem Ydv:FnScope ["thing"] ["thing"] (defScope (top 17)):=fns
def Yd6:Ro->Option Out:=(sSeq (sIf (orT (b2 (getC 0) (kD (.bl true)) (isB false)) (b2 (getC 0) (kD (.bl false)) (isB false))) (sRet (getV 0)) sNil) nS)
def Yah:List D->Option D:=runB 1 1 Yd6
theorem Ya0(bl:Bl K w mg):Okf P w K mg base 1 1 "checked_truth" ["thing"] Yah:=by
 refine okfn bl.f17 Ydv fun hr=>?_
 exact(Yi (Yar (Yel (Yf0 (Yiz (Yd 0) (Yc Ybk)) (Yd4 (Yiz (Yd 0) (Yc Ybk))))) (Yp (Yu (Yl 0))) Yae) (Yp Ycs))
def Yf6:Ro->Option Bool:=(xIf (orT (b2 (getC 0) (kD (.bl true)) (isB false)) (b2 (getC 0) (kD (.bl false)) (isB false))) xNo xYes)
def Yaw:List D->Option Bool:=runX 1 1 Yf6
theorem Yde(bl:Bl K w mg):Okx P w K mg base 1 1 "checked_truth" ["thing"] Yaw "NoBook":=by
 refine okfx bl.f17 Ydv fun hr=>?_
 exact(Yi4 (Yel (Yf0 (Yiz (Yd 0) (Yc Ybk)) (Yd4 (Yiz (Yd 0) (Yc Ybk))))) Ypn (Ydm bl.x_NoBook_NoBook))
theorem sc_checked_beacons:FnScope ["beacons","checked"] ["beacons"] (defScope (top 18)):=fns
theorem cs_checked_beacons_0:CompSc ["beacons","checked"] (defScope (top 18)) ["beacon"] [none] (fsc [(".0",.local),("beacon",.local),("checked_beacon",.globalImplicit)]):=Ya6 (by decide +kernel)
theorem cs_checked_beacons_1:CompSc ["beacons","checked"] (defScope (top 18)) ["beacon"] [none] (fsc [(".0",.local),("beacon",.local),("checked_beacon",.globalImplicit)]):=Ya6 (by decide +kernel)
theorem cs_checked_beacons_3:CompSc ["beacons","checked"] (defScope (top 18)) ["beacon"] [none] (fsc [(".0",.local),("beacon",.local),("checked_beacon",.globalImplicit)]):=Ya6 (by decide +kernel)
def Ybj:Ro->Option D:=(cC (Yg (getV 0) aNil) Yr)
@[simp] def Yeq:Ro->Option Out:=(sRet (cC (Yg (lF (cF (Yg (getC 1) aNil) Yhq)) aNil) tupC))
@[simp] def Yer:Ro->Option Out:=(sSeq (sIf (b2 (cC (Yg (getC 1) aNil) Yd2) (cC (Yg (getC 1) aNil) lenC) ltI) nS sNil) Yeq)
def Yas:Ro->Option D:=(cC (Yg (getV 0) aNil) Yr)
def Yaf:Ro->Option D:=(cC (Yg (getV 0) aNil) Yr)
def y0:Ro->Option Bool:=(Ya5 (Yg (getV 0) aNil) Yap)
def Ydf:Ro->Option Out:=(sSeq (sOwn 1 (Yej (b1 (getV 0) Yw) [none] (gSet 0) tY (Ybj))) Yer)
def Yac:List D->Option D:=runB 1 2 Ydf
theorem Ybb(bl:Bl K w mg):Okf P w K mg base 3 1 "checked_beacons" ["beacons"] Yac:=by
 refine okfn bl.f18 sc_checked_beacons fun hr=>?_
 exact(Yi (Ye1 1 sc_checked_beacons.nd cs_checked_beacons_0 rfl (Yc6 (Yl 0)) (fun _ _ _ _ _=>(Ya9 0 cs_checked_beacons_0.nd)) (fun _ _ _ _ _=>Ydl) (fun _ _ _ _ _=>(Yk (Yz bl) hr rfl (Yb (Yl 0) Yh) aL1)) (Yb7 (i:=0) rfl)) (Yi (Yar (Yka (Yc (Yef rfl hr.units bl.Len bl.Set rfl rfl (Ym (Yd 1) Yq))) (Yc (Yan y8 Ybo rfl bl.Len PySem.boot_len (Ym (Yd 1) Yq)))) (Yp Ycs) Yae) (Yp (Yu (Yaz Yat Ydy rfl bl.Tuple boot_tuple (Ym (Yc (Yaj (Yd5 Yb4 Ycp rfl bl.Sorted boot_sorted (Ym (Yd 1) Yq)))) Yq))))))
def Ybc:Ro->Option Bool:=(xGo (Yc1 (b1 (getV 0) Yw) [none] (gSet 0) Yaf y0) (sOwn 1 (Yej (b1 (getV 0) Yw) [none] (gSet 0) tY (Yas))) (xIf (b2 (cC (Yg (getC 1) aNil) Yd2) (cC (Yg (getC 1) aNil) lenC) ltI) xYes xNo))
def Yo:List D->Option Bool:=runX 1 2 Ybc
theorem Ycv(bl:Bl K w mg):Okx P w K mg base 3 1 "checked_beacons" ["beacons"] Yo "NoBook":=by
 refine okfx bl.f18 sc_checked_beacons fun hr=>?_
 exact(Ypu (Ye1 1 sc_checked_beacons.nd cs_checked_beacons_1 rfl (Yc6 (Yl 0)) (fun _ _ _ _ _=>(Ya9 0 cs_checked_beacons_1.nd)) (fun _ _ _ _ _=>Ydl) (fun _ _ _ _ _=>(Yk (Yz bl) hr rfl (Yb (Yl 0) Yh) aL1)) (Yb7 (i:=0) rfl)) (Ypv 1 sc_checked_beacons.nd (fun _ _ _ _ h=>Yfq h) cs_checked_beacons_3 rfl (Yc6 (Yl 0)) (fun _ _ _ _ _=>(Ya9 0 cs_checked_beacons_3.nd)) (fun _ _ _ _ _ _=>(Yk (Yz bl) hr rfl (Yb (Yl 0) Yh) aL1)) (fun _ _ _ _ _ _=>(Yct Yrg (Ybw bl) hr rfl (Yb (Yl 0) Yh) aL1)) (Yb7 (i:=0) rfl)) (Yi4 (Yka (Yc (Yef rfl hr.units bl.Len bl.Set rfl rfl (Ym (Yd 1) Yq))) (Yc (Yan y8 Ybo rfl bl.Len PySem.boot_len (Ym (Yd 1) Yq)))) (Ydm bl.x_NoBook_NoBook) Ypn))
theorem sc_either_made:FnScope ["sayings","checked"] ["sayings"] (defScope (top 19)):=fns
theorem cs_either_made_0:CompSc ["sayings","checked"] (defScope (top 19)) ["saying"] [none] (fsc [(".0",.local),("saying",.local),("checked_beacon",.globalImplicit),("checked_truth",.globalImplicit)]):=Ya6 (by decide +kernel)
theorem cs_either_made_1:CompSc ["sayings","checked"] (defScope (top 19)) ["saying"] [none] (fsc [(".0",.local),("saying",.local),("checked_beacon",.globalImplicit),("checked_truth",.globalImplicit)]):=Ya6 (by decide +kernel)
theorem cs_either_made_3:CompSc ["sayings","checked"] (defScope (top 19)) ["saying"] [none] (fsc [(".0",.local),("saying",.local),("checked_beacon",.globalImplicit),("checked_truth",.globalImplicit)]):=Ya6 (by decide +kernel)
def Ycb:Ro->Option D:=(dTup (Yg (cC (Yg (b2 (getC 0) (kD (.int 0)) ixD) aNil) Yr) (Yg (cC (Yg (b2 (getC 0) (kD (.int 1)) ixD) aNil) Yah) aNil)))
@[simp] def Yg6:Ro->Option Out:=(sRet (cC (Yg (lF (cF (Yg (getC 1) aNil) Yhq)) aNil) tupC))
@[simp] def Yg7:Ro->Option Out:=(sSeq (sIf (b2 (cC (Yg (getC 1) aNil) Yd2) (cC (Yg (getC 1) aNil) lenC) ltI) nS sNil) Yg6)
@[simp] def Yg8:Ro->Option Out:=(sSeq (sOwn 1 (Yej (b1 (getV 0) Yw) [none] (gSet 0) tY (Ycb))) Yg7)
def Ya1:Ro->Option D:=(dTup (Yg (cC (Yg (b2 (getC 0) (kD (.int 0)) ixD) aNil) Yr) (Yg (cC (Yg (b2 (getC 0) (kD (.int 1)) ixD) aNil) Yah) aNil)))
def Yai:Ro->Option D:=(dTup (Yg (cC (Yg (b2 (getC 0) (kD (.int 0)) ixD) aNil) Yr) (Yg (cC (Yg (b2 (getC 0) (kD (.int 1)) ixD) aNil) Yah) aNil)))
def Yx:Ro->Option Bool:=(Yc8 (Ya5 (Yg (b2 (getC 0) (kD (.int 0)) ixD) aNil) Yap) (cC (Yg (b2 (getC 0) (kD (.int 0)) ixD) aNil) Yr) (Yc8 (Ya5 (Yg (b2 (getC 0) (kD (.int 1)) ixD) aNil) Yaw) (cC (Yg (b2 (getC 0) (kD (.int 1)) ixD) aNil) Yah) xNo))
def Ye6:Ro->Option Out:=(sSeq (sIf (b2 (cC (Yg (getC 0) aNil) lenC) (kD (.int 2)) gtI) nS sNil) Yg8)
def Yce:List D->Option D:=runB 1 2 Ye6
theorem Yht(bl:Bl K w mg):Okf P w K mg base 3 1 "either_made" ["sayings"] Yce:=by
 refine okfn bl.f19 sc_either_made fun hr=>?_
 exact(Yi (Yar (Ykb (Yc (Yan y8 Ybo rfl bl.Len PySem.boot_len (Ym (Yd 0) Yq))) (Yc (Ye2 bl.g_MOST_SAYINGS rfl))) (Yp Ycs) Yae) (Yi (Ye1 1 sc_either_made.nd cs_either_made_0 rfl (Yc6 (Yl 0)) (fun _ _ _ _ _=>(Ya9 0 cs_either_made_0.nd)) (fun _ _ _ _ _=>Ydl) (fun _ _ _ _ _=>(Yau (Yb (Yk (Yz bl) hr rfl (Yb (Ys (Yd 0) (Yc Ye)) Yh) aL1) (Yb (Yk (Ya0 bl) hr rfl (Yb (Ys (Yd 0) (Yc Ye)) Yh) aL1) Yh)))) (Yb7 (i:=0) rfl)) (Yi (Yar (Yka (Yc (Yef rfl hr.units bl.Len bl.Set rfl rfl (Ym (Yd 1) Yq))) (Yc (Yan y8 Ybo rfl bl.Len PySem.boot_len (Ym (Yd 1) Yq)))) (Yp Ycs) Yae) (Yp (Yu (Yaz Yat Ydy rfl bl.Tuple boot_tuple (Ym (Yc (Yaj (Yd5 Yb4 Ycp rfl bl.Sorted boot_sorted (Ym (Yd 1) Yq)))) Yq)))))))
def Ya7:Ro->Option Bool:=(xIf (b2 (cC (Yg (getC 0) aNil) lenC) (kD (.int 2)) gtI) xYes (xGo (Yc1 (b1 (getV 0) Yw) [none] (gSet 0) Yai Yx) (sOwn 1 (Yej (b1 (getV 0) Yw) [none] (gSet 0) tY (Ya1))) (xIf (b2 (cC (Yg (getC 1) aNil) Yd2) (cC (Yg (getC 1) aNil) lenC) ltI) xYes xNo)))
def Yad:List D->Option Bool:=runX 1 2 Ya7
theorem Yg9(bl:Bl K w mg):Okx P w K mg base 3 1 "either_made" ["sayings"] Yad "NoBook":=by
 refine okfx bl.f19 sc_either_made fun hr=>?_
 exact(Yi4 (Ykb (Yc (Yan y8 Ybo rfl bl.Len PySem.boot_len (Ym (Yd 0) Yq))) (Yc (Ye2 bl.g_MOST_SAYINGS rfl))) (Ydm bl.x_NoBook_NoBook) (Ypu (Ye1 1 sc_either_made.nd cs_either_made_1 rfl (Yc6 (Yl 0)) (fun _ _ _ _ _=>(Ya9 0 cs_either_made_1.nd)) (fun _ _ _ _ _=>Ydl) (fun _ _ _ _ _=>(Yau (Yb (Yk (Yz bl) hr rfl (Yb (Ys (Yd 0) (Yc Ye)) Yh) aL1) (Yb (Yk (Ya0 bl) hr rfl (Yb (Ys (Yd 0) (Yc Ye)) Yh) aL1) Yh)))) (Yb7 (i:=0) rfl)) (Ypv 1 sc_either_made.nd (fun _ _ _ _ h=>Yfq h) cs_either_made_3 rfl (Yc6 (Yl 0)) (fun _ _ _ _ _=>(Ya9 0 cs_either_made_3.nd)) (fun _ _ _ _ _ _=>(Yau (Yb (Yk (Yz bl) hr rfl (Yb (Ys (Yd 0) (Yc Ye)) Yh) aL1) (Yb (Yk (Ya0 bl) hr rfl (Yb (Ys (Yd 0) (Yc Ye)) Yh) aL1) Yh)))) (fun _ _ _ _ _ _=>(Yml (Yfs (Yct Yrg (Ybw bl) hr rfl (Yb (Ys (Yd 0) (Yc Ye)) Yh) aL1) (Yk (Yz bl) hr rfl (Yb (Ys (Yd 0) (Yc Ye)) Yh) aL1) (Yfs (Yct Yrg (Yde bl) hr rfl (Yb (Ys (Yd 0) (Yc Ye)) Yh) aL1) (Yk (Ya0 bl) hr rfl (Yb (Ys (Yd 0) (Yc Ye)) Yh) aL1) Yrh)))) (Yb7 (i:=0) rfl)) (Yi4 (Yka (Yc (Yef rfl hr.units bl.Len bl.Set rfl rfl (Ym (Yd 1) Yq))) (Yc (Yan y8 Ybo rfl bl.Len PySem.boot_len (Ym (Yd 1) Yq)))) (Ydm bl.x_NoBook_NoBook) Ypn)))
theorem Yha:FnScope ["rule"] ["rule"] (defScope (top 20)):=fns
def Yh9:Ro->Option Out:=(sRet (dTup (Yg (cC (Yg (b2 (getC 0) (kD (.int 0)) ixD) aNil) Yac) (Yg (cC (Yg (b2 (getC 0) (kD (.int 1)) ixD) aNil) Yah) aNil))))
def Yeg:List D->Option D:=runB 1 1 Yh9
theorem Ylg(bl:Bl K w mg):Okf P w K mg base 4 1 "sum_made" ["rule"] Yeg:=by
 refine okfn bl.f20 Yha fun hr=>?_
 exact(Yp (Yu (Yau (Yb (Yk (Ybb bl) hr rfl (Yb (Ys (Yd 0) (Yc Ye)) Yh) aL1) (Yb (Yk (Ya0 bl) hr rfl (Yb (Ys (Yd 0) (Yc Ye)) Yh) aL1) Yh)))))
def Ydo:Ro->Option Bool:=(Yc8 (Ya5 (Yg (b2 (getC 0) (kD (.int 0)) ixD) aNil) Yo) (cC (Yg (b2 (getC 0) (kD (.int 0)) ixD) aNil) Yac) (Yc8 (Ya5 (Yg (b2 (getC 0) (kD (.int 1)) ixD) aNil) Yaw) (cC (Yg (b2 (getC 0) (kD (.int 1)) ixD) aNil) Yah) xNo))
def Ybh:List D->Option Bool:=runX 1 1 Ydo
theorem Ykg(bl:Bl K w mg):Okx P w K mg base 4 1 "sum_made" ["rule"] Ybh "NoBook":=by
 refine okfx bl.f20 Yha fun hr=>?_
 exact(Yh8 (Yml (Yfs (Yct Ylc (Ycv bl) hr rfl (Yb (Ys (Yd 0) (Yc Ye)) Yh) aL1) (Yk (Ybb bl) hr rfl (Yb (Ys (Yd 0) (Yc Ye)) Yh) aL1) (Yfs (Yct Ylc (Yde bl) hr rfl (Yb (Ys (Yd 0) (Yc Ye)) Yh) aL1) (Yk (Ya0 bl) hr rfl (Yb (Ys (Yd 0) (Yc Ye)) Yh) aL1) Yrh))))
theorem sc_if_made:FnScope ["rule","head"] ["rule"] (defScope (top 21)):=fns
@[simp] def Ylh:Ro->Option Out:=(sRet (dTup (Yg (cC (Yg (b2 (getC 0) (kD (.int 0)) ixD) aNil) Yac) (Yg (getV 1) aNil))))
@[simp] def Yli:Ro->Option Out:=(sSeq (sIf (b2 (getC 1) (kD .non) (isN true)) (sSet 1 (cC (Yg (getV 1) aNil) Yr)) sNil) Ylh)
def Yhb:Ro->Option Out:=(sSeq (sSet 1 (b2 (getC 0) (kD (.int 1)) ixD)) Yli)
def Ye7:List D->Option D:=runB 1 2 Yhb
theorem Ym8(bl:Bl K w mg):Okf P w K mg base 4 1 "if_made" ["rule"] Ye7:=by
 refine okfn bl.f21 sc_if_made fun hr=>?_
 exact(Yi (Yay 1 sc_if_made.nd (Ys (Yd 0) (Yc Ye))) (Yi (Yar (Yiy (Yd 1) (Yc Ycq)) (Yp (Yay 1 sc_if_made.nd (Yk (Yz bl) hr rfl (Yb (Yl 1) Yh) aL1))) Yae) (Yp (Yu (Yau (Yb (Yk (Ybb bl) hr rfl (Yb (Ys (Yd 0) (Yc Ye)) Yh) aL1) (Yb (Yl 1) Yh)))))))
def Yck:Ro->Option Bool:=(xGo xNo (sSet 1 (b2 (getC 0) (kD (.int 1)) ixD)) (xGo (xIf (b2 (getC 1) (kD .non) (isN true)) (xGo (Ya5 (Yg (getV 1) aNil) Yap) (sSet 1 (cC (Yg (getV 1) aNil) Yr)) xNo) xNo) (sIf (b2 (getC 1) (kD .non) (isN true)) (sSet 1 (cC (Yg (getV 1) aNil) Yr)) sNil) (Yc8 (Ya5 (Yg (b2 (getC 0) (kD (.int 0)) ixD) aNil) Yo) (cC (Yg (b2 (getC 0) (kD (.int 0)) ixD) aNil) Yac) xNo)))
def Ybd:List D->Option Bool:=runX 1 2 Yck
theorem Ylj(bl:Bl K w mg):Okx P w K mg base 4 1 "if_made" ["rule"] Ybd "NoBook":=by
 refine okfx bl.f21 sc_if_made fun hr=>?_
 exact(Ypu (Yay 1 sc_if_made.nd (Ys (Yd 0) (Yc Ye))) Yyq (Ypu (Yar (Yiy (Yd 1) (Yc Ycq)) (Yp (Yay 1 sc_if_made.nd (Yk (Yz bl) hr rfl (Yb (Yl 1) Yh) aL1))) Yae) (Yyr (Yiy (Yd 1) (Yc Ycq)) (Ypu (Yay 1 sc_if_made.nd (Yk (Yz bl) hr rfl (Yb (Yl 1) Yh) aL1)) (Yxe 1 sc_if_made.nd (Yct Ylc (Ybw bl) hr rfl (Yb (Yl 1) Yh) aL1)) Ypn)) (Yh8 (Yml (Yfs (Yct Ylc (Ycv bl) hr rfl (Yb (Ys (Yd 0) (Yc Ye)) Yh) aL1) (Yk (Ybb bl) hr rfl (Yb (Ys (Yd 0) (Yc Ye)) Yh) aL1) Yrh)))))
theorem Yf3:FnScope ["kind","rule"] ["kind","rule"] (defScope (top 22)):=fns
@[simp] def Yi6:Ro->Option Out:=(sRet (cC (Yg (getV 1) aNil) Ye7))
@[simp] def Yi7:Ro->Option Out:=(sSeq (sIf (b2 (getC 0) (kD (.str "sums")) (eqM false)) (sRet (cC (Yg (getV 1) aNil) Yeg)) sNil) Yi6)
def Ydp:Ro->Option Out:=(sSeq (sIf (b2 (getC 0) (kD (.str "eithers")) (eqM false)) (sRet (cC (Yg (getV 1) aNil) Yce)) sNil) Yi7)
def Yb0:List D->Option D:=runB 2 2 Ydp
theorem Yd7(bl:Bl K w mg):Okf P w K mg base 5 2 "rule_made" ["kind","rule"] Yb0:=by
 refine okfn bl.f22 Yf3 fun hr=>?_
 exact(Yi (Yar (Ybv hr.units (Yd 0) (Yc Yav)) (Yp (Yu (Yk (Yht bl) hr rfl (Yb (Yl 1) Yh) aL1))) Yae) (Yi (Yar (Ybv hr.units (Yd 0) (Yc Yav)) (Yp (Yu (Yk (Ylg bl) hr rfl (Yb (Yl 1) Yh) aL1))) Yae) (Yp (Yu (Yk (Ym8 bl) hr rfl (Yb (Yl 1) Yh) aL1)))))
def Ybe:Ro->Option Bool:=(xIf (b2 (getC 0) (kD (.str "eithers")) (eqM false)) (Ya5 (Yg (getV 1) aNil) Yad) (xIf (b2 (getC 0) (kD (.str "sums")) (eqM false)) (Ya5 (Yg (getV 1) aNil) Ybh) (Ya5 (Yg (getV 1) aNil) Ybd)))
def Yak:List D->Option Bool:=runX 2 2 Ybe
theorem Yi8(bl:Bl K w mg):Okx P w K mg base 5 2 "rule_made" ["kind","rule"] Yak "NoBook":=by
 refine okfx bl.f22 Yf3 fun hr=>?_
 exact(Yi4 (Ybv hr.units (Yd 0) (Yc Yav)) (Yh8 (Yct Ylc (Yg9 bl) hr rfl (Yb (Yl 1) Yh) aL1)) (Yi4 (Ybv hr.units (Yd 0) (Yc Yav)) (Yh8 (Yct Ylc (Ykg bl) hr rfl (Yb (Yl 1) Yh) aL1)) (Yh8 (Yct Ylc (Ylj bl) hr rfl (Yb (Yl 1) Yh) aL1))))
theorem Yf4:FnScope ["kind","rules"] ["kind","rules"] (defScope (top 23)):=fns
theorem cs_book_made_0:CompSc ["kind","rules"] (defScope (top 23)) ["rule","kind"] [none,some 0] (fsc [(".0",.local),("rule",.local),("rule_made",.globalImplicit),("kind",.free)]):=Ya6 (by decide +kernel)
theorem cs_book_made_1:CompSc ["kind","rules"] (defScope (top 23)) ["rule","kind"] [none,some 0] (fsc [(".0",.local),("rule",.local),("rule_made",.globalImplicit),("kind",.free)]):=Ya6 (by decide +kernel)
theorem cs_book_made_2:CompSc ["kind","rules"] (defScope (top 23)) ["rule","kind"] [none,some 0] (fsc [(".0",.local),("rule",.local),("rule_made",.globalImplicit),("kind",.free)]):=Ya6 (by decide +kernel)
def Yc9:Ro->Option D:=(cC (Yg (getV 1) (Yg (getV 0) aNil)) Yb0)
@[simp] def Yi9:Ro->Option Out:=(sRet (dTup (Yg (getV 0) (Yg (cC (Yg (lF (Yej (b1 (getV 1) Yw) [none,some 0] (gSet 0) tY (Yc9))) aNil) tupC) aNil))))
@[simp] def Yja:Ro->Option Out:=(sSeq (sIf (b2 (cC (Yg (getC 1) aNil) lenC) (kD (.int 60)) gtI) nS sNil) Yi9)
def Yda:Ro->Option D:=(cC (Yg (getV 1) (Yg (getV 0) aNil)) Yb0)
def Yb1:Ro->Option Bool:=(Ya5 (Yg (getV 1) (Yg (getV 0) aNil)) Yak)
def Yhu:Ro->Option D:=(cC (Yg (getV 1) (Yg (getV 0) aNil)) Yb0)
def Yhc:Ro->Option Out:=(sSeq (sIf (orT (notT (b1 (mB (b1 (getC 0) (isiD "str"))) truD)) (b1 (getC 0) (inG true Ydn))) nS sNil) Yja)
def Ydq:List D->Option D:=runB 2 2 Yhc
theorem Ykh(bl:Bl K w mg):Okf P w K mg base 6 2 "book_made" ["kind","rules"] Ydq:=by
 refine okfn bl.f23 Yf4 fun hr=>?_
 exact(Yi (Yar (Yel (Yf0 (Yfm (Ydj (Yc (Yb9 (Yd 0) rfl rfl bl.Isinstance bl.Str boot_str (Yiu))))) (Yd4 (Yl9 hr.units bl.g_KINDS rfl (Yd 0))))) (Yp Ycs) Yae) (Yi (Yar (Ykb (Yc (Yan y8 Ybo rfl bl.Len PySem.boot_len (Ym (Yd 1) Yq))) (Yc (Ye2 bl.g_MOST_RULES rfl))) (Yp Ycs) Yae) (Yp (Yu (Yau (Yb (Yl 0) (Yb (Yaz Yat Ydy rfl bl.Tuple boot_tuple (Ym (Yc (Yaj (Ygh cs_book_made_0 rfl (Yc6 (Yl 1)) (fun _ _ _ _ _=>(Ya9 0 cs_book_made_0.nd)) (fun _ _ _ _ _=>Ydl) (fun _ _ _ _ _=>(Yk (Yd7 bl) hr rfl (Yb (Yl 1) (Yb (Yl 0) Yh)) aL2)) (Yb7 (i:=0) rfl)))) Yq)) Yh)))))))
def Ybq:Ro->Option Bool:=(xIf (orT (notT (b1 (mB (b1 (getC 0) (isiD "str"))) truD)) (b1 (getC 0) (inG true Ydn))) xYes (xIf (b2 (cC (Yg (getC 1) aNil) lenC) (kD (.int 60)) gtI) xYes (Yue (getV 0) (Yc8 (Yc1 (b1 (getV 1) Yw) [none,some 0] (gSet 0) Yda Yb1) (cC (Yg (lF (Yej (b1 (getV 1) Yw) [none,some 0] (gSet 0) tY (Yhu))) aNil) tupC) xNo))))
def Yal:List D->Option Bool:=runX 2 2 Ybq
theorem Ye8(bl:Bl K w mg):Okx P w K mg base 6 2 "book_made" ["kind","rules"] Yal "NoBook":=by
 refine okfx bl.f23 Yf4 fun hr=>?_
 exact(Yi4 (Yel (Yf0 (Yfm (Ydj (Yc (Yb9 (Yd 0) rfl rfl bl.Isinstance bl.Str boot_str (Yiu))))) (Yd4 (Yl9 hr.units bl.g_KINDS rfl (Yd 0))))) (Ydm bl.x_NoBook_NoBook) (Yi4 (Ykb (Yc (Yan y8 Ybo rfl bl.Len PySem.boot_len (Ym (Yd 1) Yq))) (Yc (Ye2 bl.g_MOST_RULES rfl))) (Ydm bl.x_NoBook_NoBook) (Yh8 (Yml (Yug (Yl 0) (Yfs (Yys Yat (Yuf (Yuh (fun _ _ _ _ h=>Yfq h) cs_book_made_1 rfl (Yc6 (Yl 1)) (fun _ _ _ _ _=>(Ya9 0 cs_book_made_1.nd)) (fun _ _ _ _ _ _=>(Yk (Yd7 bl) hr rfl (Yb (Yl 1) (Yb (Yl 0) Yh)) aL2)) (fun _ _ _ _ _ _=>(Yct Yrg (Yi8 bl) hr rfl (Yb (Yl 1) (Yb (Yl 0) Yh)) aL2)) (Yb7 (i:=0) rfl))) rfl bl.Tuple boot_tuple) (Yaz Yat Ydy rfl bl.Tuple boot_tuple (Ym (Yc (Yaj (Ygh cs_book_made_2 rfl (Yc6 (Yl 1)) (fun _ _ _ _ _=>(Ya9 0 cs_book_made_2.nd)) (fun _ _ _ _ _=>Ydl) (fun _ _ _ _ _=>(Yk (Yd7 bl) hr rfl (Yb (Yl 1) (Yb (Yl 0) Yh)) aL2)) (Yb7 (i:=0) rfl)))) Yq)) Yrh))))))
theorem Ylk:FnScope ["script","k"] ["script","k"] (defScope (top 25)):=fns
def Yft:Ro->Option Out:=(sSeq (sIf (b2 (getC 1) (cC (Yg (getC 0) aNil) lenC) ltI) (sRet (b2 (getC 0) (getC 1) ixD)) sNil) (sRet (kD (.int 0))))
def Ybr:List D->Option D:=runB 2 2 Yft
theorem Ycw(bl:Bl K w mg):Okf P w K mg base 1 2 "_law_cell" ["script","k"] Ybr:=by
 refine okfn bl.f25 Ylk fun hr=>?_
 exact(Yi (Yar (Yka (Yd 1) (Yc (Yan y8 Ybo rfl bl.Len PySem.boot_len (Ym (Yd 0) Yq)))) (Yp (Yu (Ys (Yd 0) (Yd 1)))) Yae) (Yp (Yu Ye)))
theorem Yki:FnScope ["cell","by"] ["cell","by"] (defScope (top 26)):=fns
def Yhd:Ro->Option Out:=(sRet (b2 (b2 (b2 (getC 0) (kD (.int 2305843009213693951)) modI) (getC 1) mulI) (kD (.int 2305843009213693951)) modI))
def Ycx:List D->Option D:=runB 2 2 Yhd
theorem Yf5(bl:Bl K w mg):Okf P w K mg base 1 2 "_law_mixed" ["cell","by"] Ycx:=by
 refine okfn bl.f26 Yki fun hr=>?_
 exact(Yp (Yu (Yt (Yc (Yo1 (Yc (Yt (Yd 0) (Yc Ye))) (Yd 1))) (Yc Ye))))
theorem Yll:FnScope ["cell"] ["cell"] (defScope (top 27)):=fns
def Ydg:Ro->Option Out:=(sRet (b2 (lF (dLst (Yg (kD (.str "eithers")) (Yg (kD (.str "sums")) (Yg (kD (.str "ifs")) (Yg (kD (.str "nots")) aNil)))))) (b2 (getC 0) (kD (.int 4)) modI) ixD))
def Yeh:List D->Option D:=runB 1 1 Ydg
theorem Ylm(bl:Bl K w mg):Okf P w K mg base 1 1 "_law_kind" ["cell"] Yeh:=by
 refine okfn bl.f27 Yll fun hr=>?_
 exact(Yp (Yu (Ys (Yc (Yaj (Yag (Yb Yav (Yb Yav (Yb Yav (Yb Yav Yh))))))) (Yc (Yt (Yd 0) (Yc Ye))))))
theorem sc_law_rule:FnScope ["kind","cell","many","left","size","sayings","k","body"] ["kind","cell","many"] (defScope (top 28)):=fns
def Ycf:Ro->Option Out:=(sSeq (sIf (b2 (dTup (Yg (b2 (b2 (getC 3) (kD (.int 2)) divI) (getC 2) modI) (Yg (mB (b2 (b2 (getC 3) (kD (.int 2)) modI) (kD (.int 1)) (eqM false))) aNil))) (getC 5) (inM true)) (sMut 5 (dTup (Yg (b2 (b2 (getC 3) (kD (.int 2)) divI) (getC 2) modI) (Yg (mB (b2 (b2 (getC 3) (kD (.int 2)) modI) (kD (.int 1)) (eqM false))) aNil))) appD) sNil) (sSet 3 (b2 (getC 3) (b2 (kD (.int 2)) (getC 2) mulI) divI)))
def Ycg:Ro->Option Out:=(sSeq (sIf (b2 (b2 (getC 3) (getC 2) modI) (getC 7) (inM true)) (sMut 7 (b2 (getC 3) (getC 2) modI) appD) sNil) (sSet 3 (b2 (getC 3) (getC 2) divI)))
@[simp] def Ykj:Ro->Option Out:=(sRet (dTup (Yg (cC (Yg (lF (cF (Yg (getC 7) aNil) Yhq)) aNil) tupC) (Yg (b2 (lF (dLst (Yg (kD .non) (Yg (b2 (b2 (getC 3) (kD (.int 3)) divI) (getC 2) modI) aNil)))) (cC (Yg (mB (b2 (b2 (getC 3) (kD (.int 3)) modI) (kD (.int 0)) gtI)) aNil) intC) ixD) aNil))))
@[simp] def Yd8:Ro->Option Out:=(sSeq (sIf (b2 (getC 0) (kD (.str "sums")) (eqM false)) (sRet (dTup (Yg (cC (Yg (lF (cF (Yg (getC 7) aNil) Yhq)) aNil) tupC) (Yg (mB (b2 (b2 (getC 3) (kD (.int 2)) modI) (kD (.int 1)) (eqM false))) aNil)))) sNil) Ykj)
@[simp] def Ykk:Ro->Option Out:=(sSeq (sFor (cF (Yg (getV 4) aNil) rng1) (gSet 6) Ycg) Yd8)
@[simp] def Ykl:Ro->Option Out:=(sSeq (sOwn 7 (dLst aNil)) Ykk)
@[simp] def Ykm:Ro->Option Out:=(sSeq (sIf (b2 (getC 0) (kD (.str "eithers")) (eqM false)) (sSeq (sOwn 5 (dLst aNil)) (sSeq (sFor (cF (Yg (getV 4) aNil) rng1) (gSet 6) Ycf) (sRet (cC (Yg (lF (cF (Yg (getC 5) aNil) Yhq)) aNil) tupC)))) sNil) Ykl)
@[simp] def Ykn:Ro->Option Out:=(sSeq (sSet 3 (b2 (getC 3) (kD (.int 7)) divI)) Ykm)
@[simp] def Yko:Ro->Option Out:=(sSeq (sSet 4 (b2 (getC 3) (b2 (lF (dLst (Yg (kD (.int 7)) (Yg (kD (.int 3)) aNil)))) (cC (Yg (mB (b2 (getC 0) (kD (.str "eithers")) (eqM false))) aNil) intC) ixD) modI)) Ykn)
def Yei:Ro->Option Out:=(sSeq (sSet 3 (cC (Yg (getV 1) (Yg (kD (.int 1181783497276652981)) aNil)) Ycx)) Yko)
def Ycl:List D->Option D:=runB 3 8 Yei
theorem Yhe(bl:Bl K w mg):Okf P w K mg base 2 3 "_law_rule" ["kind","cell","many"] Ycl:=by
 refine okfn bl.f28 sc_law_rule fun hr=>?_
 exact(Yi (Yay 3 sc_law_rule.nd (Yk (Yf5 bl) hr rfl (Yb (Yl 1) (Yb Ye Yh)) aL2)) (Yi (Yay 4 sc_law_rule.nd (Yt (Yd 3) (Yc (Ys (Yc (Yaj (Yag (Yb Ye (Yb Ye Yh))))) (Yc (Yaz Yeu Yit rfl bl.Int boot_int (Ym (Yc (Yd3 hr.units (Yd 0) (Yc Yav))) Yq))))))) (Yi (Yay 3 sc_law_rule.nd (Yax (Yd 3) (Yc Ye))) (Yi (Yar (Ybv hr.units (Yd 0) (Yc Yav)) (Yi (Yb8 5 sc_law_rule.nd (Yag Yh)) (Yi (Yo6 PassesOwn.never rfl (Yee rfl bl.Range (Yb (Yl 4) Yh)) (Ya9 6 sc_law_rule.nd) (Yi (Yar (Yo2 hr.units (Yc (Yau (Yb (Yt (Yc (Yax (Yd 3) (Yc Ye))) (Yd 2)) (Yb (Yd3 hr.units (Yc (Yt (Yd 3) (Yc Ye))) (Yc Ye)) Yh)))) (Yd 5)) (Yp (Yh3 5 (Yau (Yb (Yt (Yc (Yax (Yd 3) (Yc Ye))) (Yd 2)) (Yb (Yd3 hr.units (Yc (Yt (Yd 3) (Yc Ye))) (Yc Ye)) Yh))))) Yae) (Yp (Yay 3 sc_law_rule.nd (Yax (Yd 3) (Yc (Yo1 (Yc Ye) (Yd 2)))))))) (Yp (Yu (Yaz Yat Ydy rfl bl.Tuple boot_tuple (Ym (Yc (Yaj (Yd5 Yb4 Ycp rfl bl.Sorted boot_sorted (Ym (Yd 5) Yq)))) Yq)))))) Yae) (Yi (Yb8 7 sc_law_rule.nd (Yag Yh)) (Yi (Yo6 PassesOwn.never rfl (Yee rfl bl.Range (Yb (Yl 4) Yh)) (Ya9 6 sc_law_rule.nd) (Yi (Yar (Yo2 hr.units (Yc (Yt (Yd 3) (Yd 2))) (Yd 7)) (Yp (Yh3 7 (Yt (Yd 3) (Yd 2)))) Yae) (Yp (Yay 3 sc_law_rule.nd (Yax (Yd 3) (Yd 2)))))) (Yi (Yar (Ybv hr.units (Yd 0) (Yc Yav)) (Yp (Yu (Yau (Yb (Yaz Yat Ydy rfl bl.Tuple boot_tuple (Ym (Yc (Yaj (Yd5 Yb4 Ycp rfl bl.Sorted boot_sorted (Ym (Yd 7) Yq)))) Yq)) (Yb (Yd3 hr.units (Yc (Yt (Yd 3) (Yc Ye))) (Yc Ye)) Yh))))) Yae) (Yp (Yu (Yau (Yb (Yaz Yat Ydy rfl bl.Tuple boot_tuple (Ym (Yc (Yaj (Yd5 Yb4 Ycp rfl bl.Sorted boot_sorted (Ym (Yd 7) Yq)))) Yq)) (Yb (Ys (Yc (Yaj (Yag (Yb Ycq (Yb (Yt (Yc (Yax (Yd 3) (Yc Ye))) (Yd 2)) Yh))))) (Yc (Yaz Yeu Yit rfl bl.Int boot_int (Ym (Yc (Yw1 (Yc (Yt (Yd 3) (Yc Ye))) (Yc Ye))) Yq)))) Yh))))))))))))
theorem Yln:FnScope ["found","due"] ["found","due"] (defScope (top 29)):=fns
theorem cs_law_same_0:CompSc ["found","due"] (defScope (top 29)) ["k","found","due"] [none,some 0,some 1] (fsc [(".0",.local),("k",.local),("_law_same",.globalImplicit),("due",.free),("found",.free)]):=Ya6 (by decide +kernel)
def Ydr(rec:List D->Option D):Ro->Option D:=(cC (Yg (b2 (getC 1) (getC 0) ixD) (Yg (b2 (getC 2) (getC 0) ixD) aNil)) rec)
def Ycm(rec:List D->Option D):Ro->Option Out:=(sSeq (sIf (b1 (mB (b1 (getC 1) (isiD "tuple"))) truD) (sSeq (sIf (orT (notT (b1 (mB (b1 (getC 0) (isiD "tuple"))) truD)) (b2 (cC (Yg (getC 0) aNil) lenC) (cC (Yg (getC 1) aNil) lenC) (eqM true))) (sRet (kD (.bl false))) sNil) (sRet (cC (Yg (lF (Yej (cF (Yg (cC (Yg (getC 1) aNil) lenC) aNil) rng1) [none,some 0,some 1] (gSet 0) tY (Ydr rec))) aNil) allC))) sNil) (sSeq (sIf (b2 (getC 1) (kD .non) (isN false)) (sRet (mB (b2 (getC 0) (kD .non) (isN false)))) sNil) (sSeq (sIf (b1 (mB (b1 (getC 1) (isiD "bool"))) truD) (sRet (andV (mB (b1 (getC 0) (isiD "bool"))) (mB (b2 (getC 0) (getC 1) (eqM false))))) sNil) (sSeq (sIf (b1 (mB (b1 (getC 1) (isiD "str"))) truD) (sRet (andV (mB (b1 (getC 0) (isiD "str"))) (mB (b2 (getC 0) (getC 1) (eqM false))))) sNil) (sRet (andV (mB (b1 (getC 0) (isiD "int"))) (andV (notV (mB (b1 (getC 0) (isiD "bool")))) (mB (b2 (getC 0) (getC 1) (eqM false))))))))))
def Ybf:Nat->List D->Option D
 | 0=>fun _=>none
 | k+1=>runB 2 2 (Ycm (Ybf k))
def Yfu:List D->Option D:=Ybf 12
theorem Ykp(bl:Bl K w mg){k j:Nat}(rc:Okf P w K mg base k 2 "_law_same" ["found","due"] (Ybf j))(hk:0<=k):Okf P w K mg base (k+1) 2 "_law_same" ["found","due"] (Ybf (j+1)):=by
 refine okfn bl.f29 Yln fun hr=>?_
 exact(Yi (Yar (Ydj (Yc (Yb9 (Yd 1) rfl rfl bl.Isinstance bl.Tuple boot_tuple (Yj5)))) (Yi (Yar (Yel (Yf0 (Yfm (Ydj (Yc (Yb9 (Yd 0) rfl rfl bl.Isinstance bl.Tuple boot_tuple (Yj5))))) (Yd4 (Yr9 hr.units (Yc (Yan y8 Ybo rfl bl.Len PySem.boot_len (Ym (Yd 0) Yq))) (Yc (Yan y8 Ybo rfl bl.Len PySem.boot_len (Ym (Yd 1) Yq))))))) (Yp (Yu Ybk)) Yae) (Yp (Yu (Yan (Yoe rfl) Yto rfl bl.All boot_all (Ym (Yc (Yaj (Ygh cs_law_same_0 rfl (Yee rfl bl.Range (Yb (Yan y8 Ybo rfl bl.Len PySem.boot_len (Ym (Yd 1) Yq)) Yh)) (fun _ _ _ _ _=>(Ya9 0 cs_law_same_0.nd)) (fun _ _ _ _ _=>Ydl) (fun _ _ _ _ _=>(Yk rc hr rfl (Yb (Ys (Yd 1) (Yd 0)) (Yb (Ys (Yd 2) (Yd 0)) Yh)) aL2)) (Yb7 (i:=0) rfl)))) Yq))))) Yae) (Yi (Yar (Yo5 (Yd 1) (Yc Ycq)) (Yp (Yu (Ytz (Yd 0) (Yc Ycq)))) Yae) (Yi (Yar (Ydj (Yc (Yb9 (Yd 1) rfl rfl bl.Isinstance bl.Bool boot_bool (Ygf)))) (Yp (Yu (Yfn (Yb9 (Yd 0) rfl rfl bl.Isinstance bl.Bool boot_bool (Ygf)) (Ygg (Yd3 hr.units (Yd 0) (Yd 1)))))) Yae) (Yi (Yar (Ydj (Yc (Yb9 (Yd 1) rfl rfl bl.Isinstance bl.Str boot_str (Yiu)))) (Yp (Yu (Yfn (Yb9 (Yd 0) rfl rfl bl.Isinstance bl.Str boot_str (Yiu)) (Ygg (Yd3 hr.units (Yd 0) (Yd 1)))))) Yae) (Yp (Yu (Yfn (Yb9 (Yd 0) rfl rfl bl.Isinstance bl.Int boot_int (Yn8)) (Yfn (Yo4 (Yb9 (Yd 0) rfl rfl bl.Isinstance bl.Bool boot_bool (Ygf))) (Ygg (Yd3 hr.units (Yd 0) (Yd 1)))))))))))
theorem Ylo(bl:Bl K w mg):Okf P w K mg base 12 2 "_law_same" ["found","due"] Yfu:=okfr (L:=0) (mr:=Ybf) bl.f29 rfl (Ykp bl) (j:=12)
theorem sc_law_strange:FnScope ["cell","far"] ["cell"] (defScope (top 30)):=fns
def Yao:Ro->Option Out:=(sSeq (sSet 1 (b2 (b2 (getC 0) (kD (.int 10)) divI) (b2 (kD (.int 10)) (kD (.int 60)) powI) modI)) (sRet (b2 (lF (dLst (Yg (kD (.bl true)) (Yg (kD (.bl false)) (Yg (kD (.str "3")) (Yg (b2 (b1 (kD (.int 1)) negI) (getC 1) subI) (Yg (b2 (kD (.int 60)) (getC 1) addI) (Yg (dTup (Yg (kD (.int 0)) aNil)) (Yg (kD (.int 60)) (Yg (lF (dLst (Yg (kD (.int 0)) aNil))) (Yg (kD (.dct false [] [])) (Yg (kD .non) aNil)))))))))))) (b2 (getC 0) (kD (.int 10)) modI) ixD)))
def Ybi:List D->Option D:=runB 1 2 Yao
theorem Ydb(bl:Bl K w mg):Okf P w K mg base 1 1 "_law_strange" ["cell"] Ybi:=by
 refine okfn bl.f30 sc_law_strange fun hr=>?_
 exact(Yi (Yay 1 sc_law_strange.nd (Yt (Yc (Yax (Yd 0) (Yc Ye))) (Yc (Yud (Yc Ye) (Yc Ye))))) (Yp (Yu (Ys (Yc (Yaj (Yag (Yb Ybk (Yb Ybk (Yb Yav (Yb (Ytx (Yc (Yt0 (Yc Ye))) (Yd 1)) (Yb (Yc7 (Yc Ye) (Yd 1)) (Yb (Yau (Yb Ye Yh)) (Yb Ye (Yb (Yaj (Yag (Yb Ye Yh))) (Yb Yri (Yb Ycq Yh))))))))))))) (Yc (Yt (Yd 0) (Yc Ye)))))))
theorem sc_law_headless:FnScope ["cell","thing"] ["cell"] (defScope (top 31)):=fns
@[simp] def Yf7:Ro->Option Out:=(sRet (getV 1))
@[simp] def Yf8:Ro->Option Out:=(sSeq (sIf (b2 (getC 1) (kD .non) (isN false)) (sRet (lF (dLst (Yg (kD (.int 2)) aNil)))) sNil) Yf7)
def Ydc:Ro->Option Out:=(sSeq (sSet 1 (cC (Yg (getV 0) aNil) Ybi)) Yf8)
def Yb2:List D->Option D:=runB 1 2 Ydc
theorem Yhf(bl:Bl K w mg):Okf P w K mg base 2 1 "_law_headless" ["cell"] Yb2:=by
 refine okfn bl.f31 sc_law_headless fun hr=>?_
 exact(Yi (Yay 1 sc_law_headless.nd (Yk (Ydb bl) hr rfl (Yb (Yl 0) Yh) aL1)) (Yi (Yar (Yo5 (Yd 1) (Yc Ycq)) (Yp (Yu (Yaj (Yag (Yb Ye Yh))))) Yae) (Yp (Yu (Yl 1)))))
theorem Yhg:FnScope ["cell"] ["cell"] (defScope (top 32)):=fns
def Ya8:Ro->Option Out:=(sRet (b2 (lF (dLst (Yg (kD (.int 0)) (Yg (kD (.int 1)) (Yg (kD (.str "True")) (Yg (kD .non) (Yg (kD (.int 2)) aNil))))))) (b2 (getC 0) (kD (.int 5)) modI) ixD))
def Ybl:List D->Option D:=runB 1 1 Ya8
theorem Yd9(bl:Bl K w mg):Okf P w K mg base 1 1 "_law_no_truth" ["cell"] Ybl:=by
 refine okfn bl.f32 Yhg fun hr=>?_
 exact(Yp (Yu (Ys (Yc (Yaj (Yag (Yb Ye (Yb Ye (Yb Yav (Yb Ycq (Yb Ye Yh)))))))) (Yc (Yt (Yd 0) (Yc Ye))))))
theorem sc_law_bad_either:FnScope ["way","cell","saying"] ["way","cell"] (defScope (top 33)):=fns
@[simp] def Ye9:Ro->Option Out:=(sRet (lF (dLst (Yg (dTup (Yg (b2 (getC 1) (kD (.int 20)) modI) (Yg (kD (.bl true)) aNil))) (Yg (dTup (Yg (b2 (kD (.int 20)) (b2 (getC 1) (kD (.int 20)) modI) addI) (Yg (kD (.bl false)) aNil))) (Yg (dTup (Yg (b2 (kD (.int 40)) (b2 (getC 1) (kD (.int 20)) modI) addI) (Yg (mB (b2 (b2 (getC 1) (kD (.int 2)) modI) (kD (.int 1)) (eqM false))) aNil))) aNil))))))
@[simp] def Yfa:Ro->Option Out:=(sSeq (sIf (b2 (getC 0) (kD (.int 4)) (eqM false)) (sRet (lF (dLst (Yg (dTup (Yg (b2 (b2 (getC 1) (kD (.int 2)) divI) (kD (.int 60)) modI) (Yg (mB (b2 (b2 (getC 1) (kD (.int 2)) modI) (kD (.int 1)) (eqM false))) aNil))) (Yg (lF (dLst (Yg (b2 (b2 (getC 1) (kD (.int 2)) divI) (kD (.int 60)) modI) (Yg (mB (b2 (b2 (getC 1) (kD (.int 2)) modI) (kD (.int 1)) (eqM false))) aNil)))) aNil))))) sNil) Ye9)
@[simp] def Yfb:Ro->Option Out:=(sSeq (sIf (b2 (getC 0) (kD (.int 3)) (eqM false)) (sRet (lF (slF (lF (dLst (Yg (dTup (Yg (b2 (b2 (getC 1) (kD (.int 10)) divI) (kD (.int 60)) modI) (Yg (cC (Yg (b2 (getC 1) (kD (.int 2)) divI) aNil) Ybl) aNil))) (Yg (dTup (Yg (kD (.int 3)) (Yg (kD (.bl true)) aNil))) aNil)))) none (some (b2 (kD (.int 1)) (b2 (getC 1) (kD (.int 2)) modI) addI))))) sNil) Yfa)
def Yaq:Ro->Option Out:=(sSeq (sIf (b2 (getC 0) (kD (.int 2)) (eqM false)) (sSeq (sOwn 2 (dLst (Yg (cC (Yg (b2 (getC 1) (kD (.int 4)) divI) aNil) Ybi) (Yg (mB (b2 (b2 (getC 1) (kD (.int 2)) modI) (kD (.int 1)) (eqM false))) aNil)))) (wF [2] (sRet (b2 (lF (dLst (Yg (lF (dLst (Yg (getV 2) aNil))) (Yg (lF (dLst (Yg (dTup (Yg (kD (.int 3)) (Yg (kD (.bl true)) aNil))) (Yg (getV 2) aNil)))) (Yg (lF (dLst (Yg (getV 2) (Yg (dTup (Yg (kD (.int 3)) (Yg (kD (.bl true)) aNil))) aNil)))) aNil))))) (b2 (b2 (b2 (getC 1) (kD (.int 2)) divI) (kD (.int 2)) modI) (b2 (getC 1) (kD (.int 2)) modI) addI) ixD)))) sNil) Yfb)
def Ybm:List D->Option D:=runB 2 3 Yaq
theorem Yfv(bl:Bl K w mg):Okf P w K mg base 2 2 "_law_bad_either" ["way","cell"] Ybm:=by
 refine okfn bl.f33 sc_law_bad_either fun hr=>?_
 exact(Yi (Yar (Ybv hr.units (Yd 0) (Yc Ye)) (Yi (Yb8 2 sc_law_bad_either.nd (Yag (Yb (Yk (Ydb bl) hr rfl (Yb (Yax (Yd 1) (Yc Ye)) Yh) aL1) (Yb (Yd3 hr.units (Yc (Yt (Yd 1) (Yc Ye))) (Yc Ye)) Yh)))) (Yp (Ydk [2] (Yu (Ys (Yc (Yaj (Yag (Yb (Yaj (Yag (Yb (Yl 2) Yh))) (Yb (Yaj (Yag (Yb (Yau (Yb Ye (Yb Ybk Yh))) (Yb (Yl 2) Yh)))) (Yb (Yaj (Yag (Yb (Yl 2) (Yb (Yau (Yb Ye (Yb Ybk Yh))) Yh)))) Yh)))))) (Yc (Yc7 (Yc (Yt (Yc (Yax (Yd 1) (Yc Ye))) (Yc Ye))) (Yc (Yt (Yd 1) (Yc Ye)))))))))) Yae) (Yi (Yar (Ybv hr.units (Yd 0) (Yc Ye)) (Yp (Yu (Yaj (Ycr (fl:=none) (fh:=(some (b2 (kD (.int 1)) (b2 (getC 1) (kD (.int 2)) modI) addI))) (Yc (Yaj (Yag (Yb (Yau (Yb (Yt (Yc (Yax (Yd 1) (Yc Ye))) (Yc Ye)) (Yb (Yk (Yd9 bl) hr rfl (Yb (Yax (Yd 1) (Yc Ye)) Yh) aL1) Yh))) (Yb (Yau (Yb Ye (Yb Ybk Yh))) Yh))))) Yh2 (Yf1 (Yc (Yc7 (Yc Ye) (Yc (Yt (Yd 1) (Yc Ye)))))))))) Yae) (Yi (Yar (Ybv hr.units (Yd 0) (Yc Ye)) (Yp (Yu (Yaj (Yag (Yb (Yau (Yb (Yt (Yc (Yax (Yd 1) (Yc Ye))) (Yc Ye)) (Yb (Yd3 hr.units (Yc (Yt (Yd 1) (Yc Ye))) (Yc Ye)) Yh))) (Yb (Yaj (Yag (Yb (Yt (Yc (Yax (Yd 1) (Yc Ye))) (Yc Ye)) (Yb (Yd3 hr.units (Yc (Yt (Yd 1) (Yc Ye))) (Yc Ye)) Yh)))) Yh)))))) Yae) (Yp (Yu (Yaj (Yag (Yb (Yau (Yb (Yt (Yd 1) (Yc Ye)) (Yb Ybk Yh))) (Yb (Yau (Yb (Yc7 (Yc Ye) (Yc (Yt (Yd 1) (Yc Ye)))) (Yb Ybk Yh))) (Yb (Yau (Yb (Yc7 (Yc Ye) (Yc (Yt (Yd 1) (Yc Ye)))) (Yb (Yd3 hr.units (Yc (Yt (Yd 1) (Yc Ye))) (Yc Ye)) Yh))) Yh))))))))))
theorem sc_law_bad_rule:FnScope ["kind","way","cell","good_row","twice","at"] ["kind","way","cell"] (defScope (top 34)):=fns
@[simp] def Yf9:Ro->Option Out:=(wF [3] (sRet (dTup (Yg (getV 3) (Yg (cC (Yg (b2 (getC 2) (kD (.int 25)) divI) aNil) Yb2) aNil)))))
@[simp] def Yga:Ro->Option Out:=(sSeq (sIf (b2 (getC 0) (kD (.str "sums")) (eqM false)) (wF [3] (sRet (dTup (Yg (getV 3) (Yg (cC (Yg (b2 (getC 2) (kD (.int 25)) divI) aNil) Ybl) aNil))))) sNil) Yf9)
@[simp] def Ygb:Ro->Option Out:=(sSeq (sIf (orT (b2 (getC 1) (kD (.int 2)) (eqM false)) (andT (b2 (getC 0) (kD (.str "sums")) (eqM false)) (b2 (getC 1) (kD (.int 5)) (eqM false)))) (sSeq (sSet 5 (b2 (b2 (getC 2) (kD (.int 5)) divI) (b2 (cC (Yg (getC 3) aNil) lenC) (kD (.int 1)) addI) modI)) (sRet (dTup (Yg (lF (b2 (lF (b2 (lF (slF (getC 3) none (some (getC 5)))) (lF (dLst (Yg (cC (Yg (b2 (getC 2) (kD (.int 25)) divI) aNil) Ybi) aNil))) catD)) (lF (slF (getC 3) (some (getC 5)) none)) catD)) (Yg (b2 (lF (dLst (Yg (kD (.bl true)) (Yg (kD .non) aNil)))) (cC (Yg (mB (b2 (getC 0) (kD (.str "sums")) (eqM true))) aNil) intC) ixD) aNil))))) sNil) Yga)
@[simp] def Ygc:Ro->Option Out:=(sSeq (sIf (b2 (getC 1) (kD (.int 4)) (eqM false)) (sSeq (sOwn 4 (dLst (Yg (kD (.int 7)) (Yg (kD (.int 50)) (Yg (kD (.int 11)) (Yg (kD (.int 3)) aNil)))))) (sSeq (Yoh 4 (b2 (b2 (getC 2) (kD (.int 5)) divI) (kD (.int 5)) modI) (b2 (getC 4) (b2 (b2 (getC 2) (kD (.int 25)) divI) (kD (.int 4)) modI) ixD) insD) (wF [4] (sRet (dTup (Yg (getV 4) (Yg (b2 (lF (dLst (Yg (kD (.bl true)) (Yg (kD (.int 2)) aNil)))) (cC (Yg (mB (b2 (getC 0) (kD (.str "sums")) (eqM true))) aNil) intC) ixD) aNil))))))) sNil) Ygb)
@[simp] def Ygd:Ro->Option Out:=(sSeq (sOwn 3 (slF (lF (dLst (Yg (kD (.int 7)) (Yg (kD (.int 50)) (Yg (kD (.int 11)) (Yg (kD (.int 3)) aNil)))))) none (some (b2 (getC 2) (kD (.int 5)) modI)))) Ygc)
def Yam:Ro->Option Out:=(sSeq (sIf (b2 (getC 0) (kD (.str "eithers")) (eqM false)) (sRet (cC (Yg (getV 1) (Yg (b2 (getC 2) (kD (.int 7)) divI) aNil)) Ybm)) sNil) Ygd)
def Yb3:List D->Option D:=runB 3 6 Yam
theorem Yhh(bl:Bl K w mg):Okf P w K mg base 3 3 "_law_bad_rule" ["kind","way","cell"] Yb3:=by
 refine okfn bl.f34 sc_law_bad_rule fun hr=>?_
 exact(Yi (Yar (Ybv hr.units (Yd 0) (Yc Yav)) (Yp (Yu (Yk (Yfv bl) hr rfl (Yb (Yl 1) (Yb (Yax (Yd 2) (Yc Ye)) Yh)) aL2))) Yae) (Yi (Yb8 3 sc_law_bad_rule.nd (Ycr (fl:=none) (fh:=(some (b2 (getC 2) (kD (.int 5)) modI))) (Yc (Yaj (Yag (Yb Ye (Yb Ye (Yb Ye (Yb Ye Yh))))))) Yh2 (Yf1 (Yc (Yt (Yd 2) (Yc Ye)))))) (Yi (Yar (Ybv hr.units (Yd 1) (Yc Ye)) (Yi (Yb8 4 sc_law_bad_rule.nd (Yag (Yb Ye (Yb Ye (Yb Ye (Yb Ye Yh)))))) (Yi (Ym4 4 (Yt (Yc (Yax (Yd 2) (Yc Ye))) (Yc Ye)) (Ys (Yd 4) (Yc (Yt (Yc (Yax (Yd 2) (Yc Ye))) (Yc Ye))))) (Yp (Ydk [4] (Yu (Yau (Yb (Yl 4) (Yb (Ys (Yc (Yaj (Yag (Yb Ybk (Yb Ye Yh))))) (Yc (Yaz Yeu Yit rfl bl.Int boot_int (Ym (Yc (Yr8 hr.units (Yd 0) (Yc Yav))) Yq)))) Yh)))))))) Yae) (Yi (Yar (Yel (Yf0 (Ybv hr.units (Yd 1) (Yc Ye)) (Yd4 (Yel (Yo3 (Ybv hr.units (Yd 0) (Yc Yav)) (Yl8 (Ybv hr.units (Yd 1) (Yc Ye)))))))) (Yi (Yay 5 sc_law_bad_rule.nd (Yt (Yc (Yax (Yd 2) (Yc Ye))) (Yc (Yc7 (Yc (Yan y8 Ybo rfl bl.Len PySem.boot_len (Ym (Yd 3) Yq))) (Yc Ye))))) (Yp (Yu (Yau (Yb (Yaj (Yg4 (Yc (Yaj (Yg4 (Yc (Yaj (Ycr (fl:=none) (fh:=(some (getC 5))) (Yd 3) Yh2 (Yf1 (Yd 5))))) (Yc (Yaj (Yag (Yb (Yk (Ydb bl) hr rfl (Yb (Yax (Yd 2) (Yc Ye)) Yh) aL1) Yh))))))) (Yc (Yaj (Ycr (fl:=(some (getC 5))) (fh:=none) (Yd 3) (Yf1 (Yd 5)) Yh2))))) (Yb (Ys (Yc (Yaj (Yag (Yb Ybk (Yb Ycq Yh))))) (Yc (Yaz Yeu Yit rfl bl.Int boot_int (Ym (Yc (Yr8 hr.units (Yd 0) (Yc Yav))) Yq)))) Yh)))))) Yae) (Yi (Yar (Ybv hr.units (Yd 0) (Yc Yav)) (Yp (Ydk [3] (Yu (Yau (Yb (Yl 3) (Yb (Yk (Yd9 bl) hr rfl (Yb (Yax (Yd 2) (Yc Ye)) Yh) aL1) Yh)))))) Yae) (Yp (Ydk [3] (Yu (Yau (Yb (Yl 3) (Yb (Yk (Yhf bl) hr rfl (Yb (Yax (Yd 2) (Yc Ye)) Yh) aL1) Yh)))))))))))
theorem sc_law_kinds:FnScope ["kind","rules","kinds","e","some","more"] ["kind","rules"] (defScope (top 35)):=fns
def Yea(ea:Addr):Ro->Option Out:=(sSeq (sOwn 4 (dLst (Yg (isX 3 ea false) (Yg (isX 3 ea false) (Yg (isX 3 ea false) (Yg (isX 3 ea false) aNil)))))) (sSeq (sOwn 5 (dLst (Yg (isX 3 ea false) (Yg (isX 3 ea false) (Yg (isX 3 ea false) aNil))))) (sOwn 2 (dLst (Yg (isX 3 ea true) (Yg (isX 3 ea true) (Yg (orV (cC (Yg (getC 4) aNil) anyC) (cC (Yg (getC 5) aNil) anyC)) aNil)))))))
def Yc2:Ro->Option Out
 | [a0,a1,_,_,_,_]=>some (.nx [a0,a1,some (.ow [.bl true,.bl true,.bl false]),none,some (.ow [.bl false,.bl false,.bl false,.bl false]),some (.ow [.bl false,.bl false,.bl false])])
 | _=>none
theorem Yjb:∀ea ρ out,Yc2 ρ=some out->∃ρ3,Yea ea (ρ.set 3 (some (.sh (.adr ea))))=some (.nx ρ3)/\out=.nx (ρ3.set 3 none):=by
 intro ea ρ out h
 unfold Yc2 at h
 split at h
 ·cases h
  exact⟨_,by simp[Yea,isX];rfl,rfl⟩
 ·cases h
@[simp] def Yjc:Ro->Option Out:=(wF [2] (sRet (getV 2)))
@[simp] def Yjd:Ro->Option Out:=(sSeq (tryF (Yg (getV 0) (Yg (getV 1) aNil)) Yal Yc2) Yjc)
def Yhi:Ro->Option Out:=(sSeq (sOwn 2 (dLst aNil)) Yjd)
def Yds:List D->Option D:=runB 2 6 Yhi
theorem Ykq(bl:Bl K w mg):Okf P w K mg base 7 2 "_law_kinds" ["kind","rules"] Yds:=by
 refine okfn bl.f35 sc_law_kinds fun hr=>?_
 exact(Yi (Yb8 2 sc_law_kinds.nd (Yag Yh)) (Yi (Yra 3 (gs:=Yea) (Ye8 bl) bl.x_NoBook_DuskError hr rfl rfl (Yb (Yl 0) (Yb (Yl 1) Yh)) aL2 sc_law_kinds.nd (fun ea ob hob=>(Yi (Yb8 4 sc_law_kinds.nd (Yag (Yb (Yc0 3 bl.x_NoBook_NoHands hob bl.Isinstance) (Yb (Yc0 3 bl.x_NoBook_NoLight hob bl.Isinstance) (Yb (Yc0 3 bl.x_NoBook_NoneSettled hob bl.Isinstance) (Yb (Yc0 3 bl.x_NoBook_NoPage hob bl.Isinstance) Yh)))))) (Yi (Yb8 5 sc_law_kinds.nd (Yag (Yb (Yc0 3 bl.x_NoBook_NoPaper hob bl.Isinstance) (Yb (Yc0 3 bl.x_NoBook_NoTable hob bl.Isinstance) (Yb (Yc0 3 bl.x_NoBook_Over hob bl.Isinstance) Yh))))) (Yp (Yb8 2 sc_law_kinds.nd (Yag (Yb (Yrb 3 bl.x_NoBook_NoBook hob bl.Isinstance bl.Valueerror) (Yb (Yc0 3 bl.x_NoBook_NoBook hob bl.Isinstance) (Yb (Yw2 (Yan (Yh6 bl.x_NoBook_NoBook hob) Yog rfl bl.Any boot_any (Ym (Yd 4) Yq)) (Yty (Yan (Yh6 bl.x_NoBook_NoBook hob) Yog rfl bl.Any boot_any (Ym (Yd 5) Yq)))) Yh))))))))) Yjb) (Yp (Ydk [2] (Yu (Yl 2))))))
theorem sc_law:FnScope ["script","kind","many","way","cell","rules","bad_kind","bad_rules","at","refused"] ["script"] (defScope (top 36)):=fns
theorem cs_law_0:CompSc ["script","kind","many","way","cell","rules","bad_kind","bad_rules","at","refused"] (defScope (top 36)) ["one","kind","many"] [none,some 1,some 2] (fsc [(".0",.local),("one",.local),("_law_rule",.globalImplicit),("kind",.free),("many",.free)]):=Ya6 (by decide +kernel)
theorem cs_law_1:CompSc ["script","kind","many","way","cell","rules","bad_kind","bad_rules","at","refused"] (defScope (top 36)) ["k","rules","kind","many"] [none,some 5,some 1,some 2] (fsc [(".0",.local),("k",.local),("_law_rule",.globalImplicit),("len",.globalImplicit),("kind",.free),("many",.free),("rules",.free)]):=Ya6 (by decide +kernel)
def Yje:Ro->Option D:=(cC (Yg (getV 1) (Yg (getV 0) (Yg (getV 2) aNil))) Ycl)
def Ygi:Ro->Option D:=(b2 (lF (b2 (getC 1) (lF (dLst (Yg (cC (Yg (getV 2) (Yg (kD (.int 0)) (Yg (getV 3) aNil))) Ycl) aNil))) catD)) (b2 (getC 0) (b2 (cC (Yg (getC 1) aNil) lenC) (kD (.int 1)) addI) modI) ixD)
def Yjf:Ro->Option Out:=(wF [5] (sRet (cC (Yg (cC (Yg (getV 1) (Yg (getV 5) aNil)) Ydq) (Yg (dTup (Yg (getV 1) (Yg (cC (Yg (getC 5) aNil) tupC) aNil))) aNil)) Yfu)))
def Ymn:Ro->Option Out:=(sSeq (wF [7] (sIf (orT (notT (b1 (getC 9) truD)) (b2 (cC (Yg (getV 6) (Yg (getV 7) aNil)) Yds) (lF (dLst (Yg (kD (.bl true)) (Yg (kD (.bl true)) (Yg (kD (.bl false)) aNil))))) (eqM true))) (sRet (kD (.bl false))) sNil)) Yjf)
def Ymo:Ro->Option Out:=(sSeq (wF [7] (tryF (Yg (getV 6) (Yg (getV 7) aNil)) Yal (sSet 9 (kD (.bl true))))) Ymn)
def Yjg:Ro->Option Out:=(sSeq (sSet 9 (kD (.bl false))) Ymo)
def Yjh:Ro->Option Out:=(sSeq (sIf (b2 (getC 3) (kD (.int 1)) (eqM false)) (wF [5] (sOwn 7 (Yej (cF (Yg (b2 (kD (.int 61)) (b2 (getC 4) (kD (.int 40)) modI) addI) aNil) rng1) [none,some 5,some 1,some 2] (gSet 0) tY (Ygi)))) sNil) Yjg)
def Yji:Ro->Option Out:=(sSeq (sIf (b2 (getC 3) (kD (.int 0)) (eqM false)) (sSet 6 (b2 (lF (dLst (Yg (kD (.str "either")) (Yg (kD (.str "")) (Yg (kD .non) (Yg (kD (.int 3)) (Yg (kD (.str "Ifs")) (Yg (kD (.bl true)) (Yg (lF (dLst (Yg (kD (.str "sums")) aNil))) (Yg (kD (.str "nots ")) aNil)))))))))) (b2 (b2 (getC 4) (kD (.int 2)) divI) (kD (.int 8)) modI) ixD)) sNil) Yjh)
def Ylp:Ro->Option Out:=(sSeq (sIf (orT (b2 (getC 3) (kD (.int 1)) gtI) (andT (b2 (getC 3) (kD (.int 0)) (eqM false)) (b2 (b2 (getC 4) (kD (.int 2)) modI) (kD (.int 1)) (eqM false)))) (sSeq (sSet 8 (b2 (cC (Yg (getV 0) (Yg (kD (.int 3)) aNil)) Ybr) (b2 (cC (Yg (getC 5) aNil) lenC) (kD (.int 1)) addI) modI)) (sOwn 7 (b2 (lF (b2 (lF (slF (getC 5) none (some (getC 8)))) (lF (dLst (Yg (cC (Yg (getV 1) (Yg (cC (Yg (kD (.int 2)) (Yg (getC 3) aNil)) maxC) (Yg (getV 4) aNil))) Yb3) aNil))) catD)) (lF (slF (getC 5) (some (getC 8)) none)) catD))) sNil) Yji)
def Ylq:Ro->Option Out:=(sSeq (sOwn 7 (cF (Yg (getC 5) aNil) Ytf)) Ylp)
def Ylr:Ro->Option Out:=(sSeq (sSet 6 (getV 1)) Ylq)
def Yls:Ro->Option Out:=(sSeq (sOwn 5 (Yej (b1 (lF (slF (getC 0) (some (kD (.int 4))) (some (kD (.int 63))))) Yw) [none,some 1,some 2] (gSet 0) tY (Yje))) Ylr)
def Ylt:Ro->Option Out:=(sSeq (sSet 4 (cC (Yg (cC (Yg (getV 0) (Yg (kD (.int 2)) aNil)) Ybr) (Yg (kD (.int 1865811235122147685)) aNil)) Ycx)) Yls)
def Ylu:Ro->Option Out:=(sSeq (sSet 3 (b2 (cC (Yg (getV 0) (Yg (kD (.int 1)) aNil)) Ybr) (kD (.int 6)) modI)) Ylt)
def Ylv:Ro->Option Out:=(sSeq (sSet 2 (b2 (kD (.int 1)) (b2 (b2 (cC (Yg (getV 0) (Yg (kD (.int 0)) aNil)) Ybr) (kD (.int 4)) divI) (kD (.int 60)) modI) addI)) Ylu)
def Yxg:Ro->Option Out:=(sSeq (sSet 1 (cC (Yg (cC (Yg (getV 0) (Yg (kD (.int 0)) aNil)) Ybr) aNil) Yeh)) Ylv)
def Ylw:List D->Option D:=runB 1 10 Yxg
theorem Yxh(bl:Bl K w mg){a:Addr}{fd:FuncData}(F:Fun K "law" "law" (top 36) a fd):FnOk P w K mg base CX0 13 a fd ["script"] (spOf K 1 Ylw):=by
 refine Yh4 (k:=12) F sc_law rfl rfl fun cdv A outer s H E hr=>?_
 exact(Yi (Yay 1 sc_law.nd (Yk (Ylm bl) hr rfl (Yb (Yk (Ycw bl) hr rfl (Yb (Yl 0) (Yb Ye Yh)) aL2) Yh) aL1)) (Yi (Yay 2 sc_law.nd (Yc7 (Yc Ye) (Yc (Yt (Yc (Yax (Yc (Yk (Ycw bl) hr rfl (Yb (Yl 0) (Yb Ye Yh)) aL2)) (Yc Ye))) (Yc Ye))))) (Yi (Yay 3 sc_law.nd (Yt (Yc (Yk (Ycw bl) hr rfl (Yb (Yl 0) (Yb Ye Yh)) aL2)) (Yc Ye))) (Yi (Yay 4 sc_law.nd (Yk (Yf5 bl) hr rfl (Yb (Yk (Ycw bl) hr rfl (Yb (Yl 0) (Yb Ye Yh)) aL2) (Yb Ye Yh)) aL2)) (Yi (Yb8 5 sc_law.nd (Ygh cs_law_0 rfl (Yc6 (Yaj (Ycr (fl:=(some (kD (.int 4)))) (fh:=(some (kD (.int 63)))) (Yd 0) (Yf1 (Yc Ye)) (Yf1 (Yc Ye))))) (fun _ _ _ _ _=>(Ya9 0 cs_law_0.nd)) (fun _ _ _ _ _=>Ydl) (fun _ _ _ _ _=>(Yk (Yhe bl) hr rfl (Yb (Yl 1) (Yb (Yl 0) (Yb (Yl 2) Yh))) aL3)) (Yb7 (i:=0) rfl))) (Yi (Yay 6 sc_law.nd (Yl 1)) (Yi (Yb8 7 sc_law.nd (Ym3 Yjy Yqp rfl bl.List boot_list (Ym (Yd 5) Yq))) (Yi (Yar (Yel (Yf0 (Ykb (Yd 3) (Yc Ye)) (Yd4 (Yel (Yo3 (Ybv hr.units (Yd 3) (Yc Ye)) (Yl8 (Ybv hr.units (Yc (Yt (Yd 4) (Yc Ye))) (Yc Ye)))))))) (Yi (Yay 8 sc_law.nd (Yt (Yc (Yk (Ycw bl) hr rfl (Yb (Yl 0) (Yb Ye Yh)) aL2)) (Yc (Yc7 (Yc (Yan y8 Ybo rfl bl.Len PySem.boot_len (Ym (Yd 5) Yq))) (Yc Ye))))) (Yp (Yb8 7 sc_law.nd (Yg4 (Yc (Yaj (Yg4 (Yc (Yaj (Ycr (fl:=none) (fh:=(some (getC 8))) (Yd 5) Yh2 (Yf1 (Yd 8))))) (Yc (Yaj (Yag (Yb (Yk (Yhh bl) hr rfl (Yb (Yl 1) (Yb (Yan (Ynl rfl) Ytt rfl bl.Max boot_max (Ym (Yc Ye) (Ym (Yd 3) Yq))) (Yb (Yl 4) Yh))) aL3) Yh))))))) (Yc (Yaj (Ycr (fl:=(some (getC 8))) (fh:=none) (Yd 5) (Yf1 (Yd 8)) Yh2))))))) Yae) (Yi (Yar (Ybv hr.units (Yd 3) (Yc Ye)) (Yp (Yay 6 sc_law.nd (Ys (Yc (Yaj (Yag (Yb Yav (Yb Yav (Yb Ycq (Yb Ye (Yb Yav (Yb Ybk (Yb (Yaj (Yag (Yb Yav Yh))) (Yb Yav Yh))))))))))) (Yc (Yt (Yc (Yax (Yd 4) (Yc Ye))) (Yc Ye)))))) Yae) (Yi (Yar (Ybv hr.units (Yd 3) (Yc Ye)) (Yp (Ydk [5] (Ye1 7 sc_law.nd cs_law_1 rfl (Yee rfl bl.Range (Yb (Yc7 (Yc Ye) (Yc (Yt (Yd 4) (Yc Ye)))) Yh)) (fun _ _ _ _ _=>(Ya9 0 cs_law_1.nd)) (fun _ _ _ _ _=>Ydl) (fun _ _ _ _ _=>(Ys (Yc (Yaj (Yg4 (Yd 1) (Yc (Yaj (Yag (Yb (Yk (Yhe bl) hr rfl (Yb (Yl 2) (Yb Ye (Yb (Yl 3) Yh))) aL3) Yh))))))) (Yc (Yt (Yd 0) (Yc (Yc7 (Yc (Yan y8 Ybo rfl bl.Len PySem.boot_len (Ym (Yd 1) Yq))) (Yc Ye))))))) (Yb7 (i:=0) rfl)))) Yae) (Yi (Yay 9 sc_law.nd Ybk) (Yi (Ydk [7] (Yq9 (Ye8 bl) bl.x_NoBook_NoBook hr rfl rfl (Yb (Yl 6) (Yb (Yl 7) Yh)) aL2 (fun ea ob hob=>(Yp (Yay 9 sc_law.nd Ybk))))) (Yi (Ydk [7] (Yar (Yel (Yf0 (Yfm (Ydj (Yd 9))) (Yd4 (Yr9 hr.units (Yc (Yk (Ykq bl) hr rfl (Yb (Yl 6) (Yb (Yl 7) Yh)) aL2)) (Yc (Yaj (Yag (Yb Ybk (Yb Ybk (Yb Ybk Yh)))))))))) (Yp (Yu Ybk)) Yae)) (Yp (Ydk [5] (Yu (Yk (Ylo bl) hr rfl (Yb (Yk (Ykh bl) hr rfl (Yb (Yl 1) (Yb (Yl 5) Yh)) aL2) (Yb (Yau (Yb (Yl 1) (Yb (Yaz Yat Ydy rfl bl.Tuple boot_tuple (Ym (Yd 5) Yq)) Yh))) Yh)) aL2)))))))))))))))))
end
abbrev Yjj:Nat:=13
theorem all_mk{l:W.OpenLaw}{w:World}{K:W.Frag}{h:Heap}{mg:Str->Option Value}{fa ui:Addr}(X:K.In h)(G:h.Ns mainGlobals mg)(hfa:mg "law"=some (.ref fa))
 {u0 uo:Option Addr} {u4:Array (Option Value)} {u5 up uq ut ug uu:Value}
 (F_is_beacon:Fk K "is_beacon" 15)
 (F_checked_beacon:Fk K "checked_beacon" 16)
 (F_checked_truth:Fk K "checked_truth" 17)
 (F_checked_beacons:Fk K "checked_beacons" 18)
 (F_either_made:Fk K "either_made" 19)
 (F_sum_made:Fk K "sum_made" 20)
 (F_if_made:Fk K "if_made" 21)
 (F_rule_made:Fk K "rule_made" 22)
 (F_book_made:Fk K "book_made" 23)
 (F_law_cell:Fk K "_law_cell" 25)
 (F_law_mixed:Fk K "_law_mixed" 26)
 (F_law_kind:Fk K "_law_kind" 27)
 (F_law_rule:Fk K "_law_rule" 28)
 (F_law_same:Fk K "_law_same" 29)
 (F_law_strange:Fk K "_law_strange" 30)
 (F_law_headless:Fk K "_law_headless" 31)
 (F_law_no_truth:Fk K "_law_no_truth" 32)
 (F_law_bad_either:Fk K "_law_bad_either" 33)
 (F_law_bad_rule:Fk K "_law_bad_rule" 34)
 (F_law_kinds:Fk K "_law_kinds" 35)
 (u6:W.nsIn K mainGlobals "law"=some (some (.ref ui))) (u7:K.lookup ui=some ⟨u5,u0,.func (W.fnOf "law" "law" (defArgs (top 36)) (defBody (top 36)) (defScope (top 36)) .none up uq ut uo ug uu),u4⟩) (u8:W.codeIn K ug "law"=true) (u9:W.keepIn K (.ref ui)=true)
 (X_NoBook_NoBook:Xk K "NoBook" "NoBook" true)
 (X_NoBook_DuskError:Xk K "NoBook" "DuskError" true)
 (X_NoBook_NoPage:Xk K "NoBook" "NoPage" false)
 (X_NoBook_NoneSettled:Xk K "NoBook" "NoneSettled" false)
 (X_NoBook_NoLight:Xk K "NoBook" "NoLight" false)
 (X_NoBook_NoHands:Xk K "NoBook" "NoHands" false)
 (X_NoBook_Over:Xk K "NoBook" "Over" false)
 (X_NoBook_NoTable:Xk K "NoBook" "NoTable" false)
 (X_NoBook_NoPaper:Xk K "NoBook" "NoPaper" false)
 {ua:Tok} (ub:W.nsIn K mainGlobals "BEACON_COUNT"=some (some (.int 60 ua)))
 {uh:Addr} {uv:_} {uw:_} {ux:_} {uj uk ul um:_} (uy:W.nsIn K mainGlobals "KINDS"=some (some (.ref uh))) (uz:K.lookup uh=some ⟨.type "tuple",uv,.seq #[.str "eithers" uj,.str "sums" uk,.str "ifs" ul,.str "nots" um] uw,ux⟩)
 {ue:Tok} (uf:W.nsIn K mainGlobals "MOST_RULES"=some (some (.int 60 ue)))
 {uc:Tok} (ud:W.nsIn K mainGlobals "MOST_SAYINGS"=some (some (.int 2 uc)))
 (z_len:W.nsIn K mainGlobals "len"=some none)
 (z_range:W.nsIn K mainGlobals "range"=some none)
 (z_list:W.nsIn K mainGlobals "list"=some none)
 (z_tuple:W.nsIn K mainGlobals "tuple"=some none)
 (z_int:W.nsIn K mainGlobals "int"=some none)
 (z_bool:W.nsIn K mainGlobals "bool"=some none)
 (z_str:W.nsIn K mainGlobals "str"=some none)
 (z_sorted:W.nsIn K mainGlobals "sorted"=some none)
 (z_any:W.nsIn K mainGlobals "any"=some none)
 (z_all:W.nsIn K mainGlobals "all"=some none)
 (z_isinstance:W.nsIn K mainGlobals "isinstance"=some none)
 (z_set:W.nsIn K mainGlobals "set"=some none)
 (z_max:W.nsIn K mainGlobals "max"=some none)
 (z_ValueError:W.nsIn K mainGlobals "ValueError"=some none)
 : ∃fd:FuncData,(∀(s:Shared) (v:Value),BindsTo s fd ⟨[v],[]⟩ [("script",v)])/\∀base:Heap,K.In base->base.Ns mainGlobals mg->FnOk l.prog w K mg base CX0 Yjj fa fd ["script"] (spOf K 1 Ylw):=by
 have e:=hfa.symm.trans (W.mg_of X G u6)
 cases e
 have bl:Bl K w mg:=⟨W.mg_none_of X G z_len,W.mg_none_of X G z_range,W.mg_none_of X G z_list,W.mg_none_of X G z_tuple,W.mg_none_of X G z_int,W.mg_none_of X G z_bool,W.mg_none_of X G z_str,W.mg_none_of X G z_sorted,W.mg_none_of X G z_any,W.mg_none_of X G z_all,W.mg_none_of X G z_isinstance,W.mg_none_of X G z_set,W.mg_none_of X G z_max,W.mg_none_of X G z_ValueError,⟨_,W.mg_of X G ub⟩,⟨_,_,_,_,W.mg_of X G uy,uz,rfl,rfl,(.cons ⟨⟨_,rfl⟩,by decide +kernel⟩ (.cons ⟨⟨_,rfl⟩,by decide +kernel⟩ (.cons ⟨⟨_,rfl⟩,by decide +kernel⟩ (.cons ⟨⟨_,rfl⟩,by decide +kernel⟩ .nil))))⟩,⟨_,W.mg_of X G uf⟩,⟨_,W.mg_of X G ud⟩,F_is_beacon.on X G,F_checked_beacon.on X G,F_checked_truth.on X G,F_checked_beacons.on X G,F_either_made.on X G,F_sum_made.on X G,F_if_made.on X G,F_rule_made.on X G,F_book_made.on X G,F_law_cell.on X G,F_law_mixed.on X G,F_law_kind.on X G,F_law_rule.on X G,F_law_same.on X G,F_law_strange.on X G,F_law_headless.on X G,F_law_no_truth.on X G,F_law_bad_either.on X G,F_law_bad_rule.on X G,F_law_kinds.on X G,X_NoBook_NoBook.on X G,X_NoBook_DuskError.on X G,X_NoBook_NoPage.on X G,X_NoBook_NoneSettled.on X G,X_NoBook_NoLight.on X G,X_NoBook_NoHands.on X G,X_NoBook_Over.on X G,X_NoBook_NoTable.on X G,X_NoBook_NoPaper.on X G⟩
 have va:=Yrx (st:=(top 36)) u7 u8 u9
 refine⟨W.fnOf "law" "law" (defArgs (top 36)) (defBody (top 36)) (defScope (top 36)) .none up uq ut uo ug uu,fun s v=>.of_eq rfl,fun base _ _=>?_⟩
 exact Yxh bl va
theorem walk(hlaw:∀ns:List Int,ns.length<=63->Ylw [.scr ns]=some (.bl true)){l:W.OpenLaw}{q:Program}{loose:List Str}{XP:(Str->Option Value)->Heap->Prop}{YP:World->Heap->Prop}{d:DefRec}{K:Params->W.Frag}(hn:l.most=some 63)(hdf:d.params.defaults=[])
 (hY:∀(w:World) (h:Heap),YP w h->(K w.params).In h)
 (F:∀(w:World) (mg:Str->Option Value) (fa:Addr) (h:Heap),(K w.params).In h->h.Ns mainGlobals mg->mg d.name=some (.ref fa)->
  ∃fd:FuncData,(∀(s:Shared) (u:Value),BindsTo s fd ⟨[u],[]⟩ [("script",u)])/\∀base:Heap,(K w.params).In base->base.Ns mainGlobals mg->FnOk l.prog w (K w.params) mg base CX0 Yjj fa fd ["script"] (spOf (K w.params) 1 Ylw)) :
 W.WalkO q loose XP YP l.row.toRowW d [] (fun f vs=>PySem.call f vs):=
 L2.walk_of (n:=63) (k:=Yjj) (x:="script") (CX:=fun _=>CX0) (sp:=fun w=>spOf (K w.params) 1 Ylw) hn (by decide) hdf ⟨rfl,by decide,by decide⟩ hY F
  (fun w H a ns hl _ hS=>⟨rfl,[.scr ns],.bl true,H,Same.refl H,.one (by rw[Rp];exact⟨a,rfl,hS⟩),hlaw ns hl,fun v H' G' g r=>by rw[Rp]at r;exact r⟩) fun _ _ _ _ _ z=>z
end Lw
namespace Lw
open PySem L2 M Bk
theorem Ymp(ns:List Int)(k:Nat):Ybr [.scr ns,.int k]=some (.int (ns.getD k 0)):=by
 rw[Ybr,Yba (by rfl)]
 by_cases h:k < ns.length
 ·have e:atI (ns.map D.int) (k:Int)=some (.int ns[k]):=by
   rw[Yt6,Yme h]
   rfl
  simp[Yft,Yj,h,e]
 ·simp[Yft,Yj,h]
end Lw
namespace Lw
open PySem L2 M Bk
theorem Yui(ns:List Int)(a b:Nat):cutD (ns.map D.int) (some (a:Int)) (some (b:Int))=((ns.drop (min a ns.length)).take (min b ns.length - min a ns.length)).map D.int:=by
 unfold cutD
 rw[HT.sIx_nat,HT.sIx_nat]
 simp
theorem drawn{fe:Ro->Option D}{r:Ro}{P:Rl->Prop}(h:∀c:Int,∃x:Rl,P x/\fe (some (.sh (.int c))::r)=some (rlD x)):∀cells:List Int,∃R:List Rl,R.length=cells.length/\(∀x∈R,P x)/\Ydz (gSet 0) tY fe (none::r) (cells.map D.int)=some (R.map rlD)
 | []=>⟨[],rfl,fun _ h=>(nomatch h),rfl⟩
 | c::cells=>by
   obtain⟨R,h1,h2,h3⟩:=drawn h cells
   obtain⟨x,hx,hr⟩:=h c
   refine⟨x::R,by simp[h1],fun y hy=>?_,?_⟩
   ·rcases qr hy with rfl | hy
    ·exact hx
    ·exact h2 y hy
   ·rw[Qa,Ydz,h3]
    simp[hr]
end Lw
namespace Lw
open PySem L2 M Bk
theorem Ypw(c m:Int):∃v:Int,0<=v/\Ycx [.int c,.int m]=some (.int v):=by
 refine⟨c % 2305843009213693951 * m % 2305843009213693951,Int.emod_nonneg _ (by decide),?_⟩
 rw[Ycx,Yba (by rfl)]
 have h1:0<=c % 2305843009213693951:=Int.emod_nonneg _ (by decide)
 have h2:c % 2305843009213693951 < 2305843009213693951:=Int.emod_lt_of_pos _ (by decide)
 have h3:mulI (.int (c % 2305843009213693951)) (.int m)=some (.int (c % 2305843009213693951 * m)):=Yma ⟨by omega,by omega⟩
 simp[Yhd,Yj,h3]
end Lw
namespace Lw
open PySem L2 M Bk
theorem Yxi(c:Int):∃k:Kd,Yeh [.int c]=some (kdD k):=by
 have h0:0<=c % 4:=Int.emod_nonneg _ (by decide)
 have h4:c % 4 < 4:=Int.emod_lt_of_pos _ (by decide)
 rw[Yeh,Yba (by rfl)]
 have e:c % 4=0\/c % 4=1\/c % 4=2\/c % 4=3:=by omega
 rcases e with e | e | e | e
 ·exact⟨.e,by simp[Ydg,Yj,e];rfl⟩
 ·exact⟨.s,by simp[Ydg,Yj,e];rfl⟩
 ·exact⟨.i,by simp[Ydg,Yj,e];rfl⟩
 ·exact⟨.n,by simp[Ydg,Yj,e];rfl⟩
end Lw
namespace Lw
open PySem L2 M Bk
theorem Ymq(l:List Nat)(hn:l.Nodup)(hl:l.length < 64):∃l':List Nat,l'.Perm l/\l'.Pairwise (· < ·)/\Yhq [.lst (l.map nD)]=some (l'.map nD):=by
 have e1:l.map nD=(l.map Int.ofNat).map D.int:=by simp[nD,Function.comp_def]
 have hp:=Yed (l.map Int.ofNat)
 have hs:=Yd0 (l.map Int.ofNat)
 have e2:∃l':List Nat,Yhp (l.map Int.ofNat)=l'.map Int.ofNat:=by
  have hm:∀x∈Yhp (l.map Int.ofNat),0<=x:=fun x hx=>by
   obtain⟨y,_,rfl⟩:=qw (hp.mem_iff.mp hx)
   exact Int.natCast_nonneg y
  refine⟨(Yhp (l.map Int.ofNat)).map Int.toNat,?_⟩
  rw[List.map_map]
  refine(List.map_id _).symm.trans (List.map_congr_left fun x hx=>?_)
  have:=hm x hx
  simp[Function.comp_def]
  omega
 obtain⟨l',e2⟩:=e2
 rw[e2]at hp hs
 have hp':l'.Perm l:=by
  have:=hp.map Int.toNat
  simpa [Function.comp_def]using this
 refine⟨l',hp',?_,?_⟩
 ·have hn':l'.Nodup:=hp'.nodup_iff.mpr hn
  have hs':l'.Pairwise (·<=·):=by
   have:=List.pairwise_map.mp hs
   exact this.imp fun h=>by simpa using h
  exact(hs'.and hn').imp fun h=>Nat.lt_of_le_of_ne h.1 h.2
 ·show Yqt (l.map nD)=_
  rw[e1]
  unfold Yqt
  rw[Yo9]
  simp[hl,e2,nD,Function.comp_def]
theorem Ymr(l:List Say)(h:l.length<=2)(hn:l.Nodup):∃l':List Say,l'.Perm l/\l'.Pairwise slt/\Yhq [.lst (l.map sayD)]=some (l'.map sayD):=by
 match l,h,hn with
 | [],_,_=>exact⟨[],.refl _,.nil,rfl⟩
 | [a],_,_=>exact⟨[a],.refl _,by simp,rfl⟩
 | [a,b],_,hn=>
   have hab:a≠b:=by simpa using hn
   have e:Yhq [.lst ([a,b].map sayD)]=some (if plt b.1 b.2 a.1 a.2=true then [sayD b,sayD a]else [sayD a,sayD b]):=rfl
   obtain⟨x,p⟩:=a
   obtain⟨y,q⟩:=b
   cases hp:plt (y:Int) q (x:Int) p with
   | true=>
     refine⟨[(y,q),(x,p)],.swap _ _ [],?_,by rw[e];simp[hp]⟩
     unfold plt at hp
     have:slt (y,q) (x,p):=by
      unfold slt
      split at hp
      ·rename_i hxy
       simp at hp
       exact .inr ⟨by omega,hp.1,hp.2⟩
      ·simp at hp
       exact .inl hp
     simpa using this
   | false=>
     refine⟨[(x,p),(y,q)],.refl _,?_,by rw[e];simp[hp]⟩
     unfold plt at hp
     have:slt (x,p) (y,q):=by
      unfold slt
      split at hp
      ·rename_i hxy
       have hxy':y=x:=by omega
       subst hxy'
       have hpq:p≠q:=fun z=>hab (by rw[z])
       refine .inr ⟨rfl,?_⟩
       cases p<;>cases q<;>simp at hp hpq ⊢
      ·rename_i hxy
       simp at hp
       left
       show x < y
       omega
     simpa using this
theorem Ysh(k:Kd)(c:Int)(n:Nat)(h0:0 < n)(hn:n<=1000):∃r:Rl,In k n r/\Srt r/\Ycl [kdD k,.int c,.int n]=some (rlD r):=by
 obtain⟨v,hv0,hv⟩:=Ypw c 1181783497276652981
 have hn0:(0:Int) < n:=by omega
 have hn1:(n:Int) < 1073741824:=by omega
 have hn2:2 * (n:Int) < 1073741824:=by omega
 have hn3:(0:Int) < 2 * n:=by omega
 have hmod:∀x:Int,modI (.int x) (.int (n:Int))=some (.int (x % n)):=fun x=>Ye3 hn0
 have hdiv:∀x:Int,divI (.int x) (.int (n:Int))=some (.int (x / n)):=fun x=>Ymb hn0 hn1
 have hdiv2:∀x:Int,divI (.int x) (.int (2 * (n:Int)))=some (.int (x / (2 * n))):=fun x=>Ymb hn3 hn2
 have hmul:mulI (.int 2) (.int (n:Int))=some (.int (2 * n)):=Yma ⟨by decide,by decide⟩
 have hst:Yj 8 [kdD k,.int c,.int n]=[some (.sh (kdD k)),some (.sh (.int c)),some (.sh (.int n)),none,none,none,none,none]:=rfl
 rw[Ycl,Yba (by rfl),hst]
 by_cases hk:k=.e
 ·subst hk
  generalize hsz:v % 3=size
  have hs0:0<=size:=by omega
  have hs3:size < 3:=by omega
  obtain⟨ρ',e1,l,left,y,hl,hnd,hlt,hlf,rfl⟩:=Yi0 (gt:=gSet 6) (fb:=Ycf) (fun i:Nat=>D.int (0+(i:Nat))) (fun pre ρ=>∃(l:List Say) (left:Int) (y:Option B),l.length<=pre.length/\l.Nodup/\(∀s∈l,s.1 < n)/\0<=left/\
   ρ=[some (.sh (kdD .e)),some (.sh (.int c)),some (.sh (.int n)),some (.sh (.int left)),some (.sh (.int size)),some (.ow (l.map sayD)),y,none]) (List.range (size - 0).toNat) []
   [some (.sh (kdD .e)),some (.sh (.int c)),some (.sh (.int n)),some (.sh (.int (v / 7))),some (.sh (.int size)),some (.ow []),none,none] ⟨[],v / 7,none,qt _,.nil,by simp,by omega,rfl⟩ (by
    rintro q a r ρ e ⟨l,left,y,hl,hnd,hlt,hlf,rfl⟩
    have hq:q.length < 1000:=by have:=congrArg List.length e;simp at this;omega
    have hcap:l.length < 1000000:=by omega
    obtain⟨b,hb⟩:∃b:Nat,left / 2 % (n:Int)=(b:Int):=⟨(left / 2 % n).toNat,by have:=Int.emod_nonneg (left / 2) (show(n:Int)≠0 by omega);omega⟩
    have hbn:b < n:=by have:=Int.emod_lt_of_pos (left / 2) hn0;omega
    have hsd:D.tup [.int (b:Int),.bl (decide (left % 2=1))]=sayD (b,decide (left % 2=1)):=rfl
    have hin:=Yw7 (c:=.lst (l.map sayD)) (b,decide (left % 2=1)) l true rfl
    have hd:0<=left / (2 * (n:Int)):=Int.ediv_nonneg hlf (by omega)
    by_cases hm:(b,decide (left % 2=1))∈l
    ·refine⟨_,_,rfl,?_,l,left / (2 * n),some (.sh (.int (0+(a:Int)))),by simp;omega,hnd,hlt,hd,rfl⟩
     simp[Ycf,hmod,hdiv2,hb,hsd,hin,hm,hmul,hn2,hn3]
    ·refine⟨_,_,rfl,?_,l++[(b,decide (left % 2=1))],left / (2 * n),some (.sh (.int (0+(a:Int)))),by simp;omega,?_,?_,hd,rfl⟩
     ·simp[Ycf,hmod,hdiv2,hb,hsd,hin,hm,hmul,hn2,hn3,appD,hcap]
     ·rw[List.nodup_append]
      refine⟨hnd,by simp,?_⟩
      intro x hx y hy z
      simp at hy
      subst hy
      exact hm (z ▸ hx)
     ·intro s hs
      rcases qu hs with hs | hs
      ·exact hlt s hs
      ·simp at hs
       subst hs
       exact hbn)
  have hl2:l.length<=2:=by simp at hl;omega
  obtain⟨l',hp,hpw,hs⟩:=Ymr l hl2 hnd
  refine⟨.ei l',⟨rfl,fun s hs=>hlt s (hp.mem_iff.mp hs)⟩,⟨by rw[hp.length_eq];exact hl2,hpw⟩,?_⟩
  have hr:=Yi2 (n:=size) (by omega) (by omega)
  rw[Yi1]at hr
  simp[Yei,hv,hsz,hr]at e1 ⊢
  rw[e1]
  simp[hs,rlD]
 ·generalize hsz:v % 7=size
  have hs0:0<=size:=by omega
  have hs3:size < 7:=by omega
  obtain⟨ρ',e1,l,left,y,hl,hnd,hlt,hlf,rfl⟩:=Yi0 (gt:=gSet 6) (fb:=Ycg) (fun i:Nat=>D.int (0+(i:Nat))) (fun pre ρ=>∃(l:List Nat) (left:Int) (y:Option B),l.length<=pre.length/\l.Nodup/\(∀s∈l,s < n)/\0<=left/\
   ρ=[some (.sh (kdD k)),some (.sh (.int c)),some (.sh (.int n)),some (.sh (.int left)),some (.sh (.int size)),none,y,some (.ow (l.map nD))]) (List.range (size - 0).toNat) []
   [some (.sh (kdD k)),some (.sh (.int c)),some (.sh (.int n)),some (.sh (.int (v / 7))),some (.sh (.int size)),none,none,some (.ow [])] ⟨[],v / 7,none,qt _,.nil,by simp,by omega,rfl⟩ (by
    rintro q a r ρ e ⟨l,left,y,hl,hnd,hlt,hlf,rfl⟩
    have hq:q.length < 1000:=by have:=congrArg List.length e;simp at this;omega
    have hcap:l.length < 1000000:=by omega
    obtain⟨b,hb⟩:∃b:Nat,left % (n:Int)=(b:Int):=⟨(left % n).toNat,by have:=Int.emod_nonneg left (show(n:Int)≠0 by omega);omega⟩
    have hbn:b < n:=by have:=Int.emod_lt_of_pos left hn0;omega
    have hin:=in_n (c:=.lst (l.map nD)) b l true rfl
    simp only[nD]at hin
    have hd:0<=left / (n:Int):=Int.ediv_nonneg hlf (by omega)
    by_cases hm:b∈l
    ·refine⟨_,_,rfl,?_,l,left / n,some (.sh (.int (0+(a:Int)))),by simp;omega,hnd,hlt,hd,rfl⟩
     simp[Ycg,hmod,hdiv,hb,hin,hm,nD]
    ·refine⟨_,_,rfl,?_,l++[b],left / n,some (.sh (.int (0+(a:Int)))),by simp;omega,?_,?_,hd,rfl⟩
     ·simp[Ycg,hmod,hdiv,hb,hin,hm,appD,hcap,nD]
     ·rw[List.nodup_append]
      refine⟨hnd,by simp,?_⟩
      intro x hx y hy z
      simp at hy
      subst hy
      exact hm (z ▸ hx)
     ·intro s hs
      rcases qu hs with hs | hs
      ·exact hlt s hs
      ·simp at hs
       subst hs
       exact hbn)
  have hl6:l.length < 64:=by simp at hl;omega
  obtain⟨l',hp,hpw,hs⟩:=Ymq l hnd hl6
  have hr:=Yi2 (n:=size) (by omega) (by omega)
  rw[Yi1]at hr
  have pre:Yei [some (.sh (kdD k)),some (.sh (.int c)),some (.sh (.int n)),none,none,none,none,none]=Yd8 [some (.sh (kdD k)),some (.sh (.int c)),some (.sh (.int n)),some (.sh (.int left)),some (.sh (.int size)),none,y,some (.ow (l.map nD))]:=by
   simp[Yei,hv,hsz,hr,hk,-Yd8]at e1 ⊢
   rw[e1]
   rfl
  clear e1 hr hv
  rw[pre]
  by_cases hks:k=.s
  ·subst hks
   refine⟨.su l' (decide (left % 2=1)),⟨rfl,fun s hs=>hlt s (hp.mem_iff.mp hs)⟩,hpw,?_⟩
   simp[hs,rlD]
  ·have hki:k=.i\/k=.n:=by cases k<;>simp at hk hks ⊢
   obtain⟨b,hb⟩:∃b:Nat,left / 3 % (n:Int)=(b:Int):=⟨(left / 3 % n).toNat,by have:=Int.emod_nonneg (left / 3) (show(n:Int)≠0 by omega);omega⟩
   have hbn:b < n:=by have:=Int.emod_lt_of_pos (left / 3) hn0;omega
   by_cases h3:0 < left % 3
   ·refine⟨.im l' (some b),⟨hki,fun s hs=>hlt s (hp.mem_iff.mp hs),fun x hx=>by cases hx;exact hbn⟩,hpw,?_⟩
    simp[hs,rlD,hks,h3,hb,hmod,optD]
   ·refine⟨.im l' none,⟨hki,fun s hs=>hlt s (hp.mem_iff.mp hs),fun x hx=>by cases hx⟩,hpw,?_⟩
    simp[hs,rlD,hks,h3,hb,hmod,optD]
end Lw
namespace Lw
open PySem L2 M Bk
theorem Ykr:∀(j:Nat) (d:D),Pl d->dep d < j->Ybf j [d,d]=some (.bl true)
 | 0,_,_,h=>absurd h (Nat.not_lt_zero _)
 | j+1,d,hp,hd=>by
   rw[Ybf,Yba (by rfl)]
   cases d with
   | tup l=>
     rw[Pl]at hp
     obtain⟨hl,hp⟩:=hp
     rw[Yep]at hd
     have hc:=Ykd (fe:=Ydr (Ybf j)) (r:=[some (.sh (.tup l)),some (.sh (.tup l))]) (enc:=fun i:Nat=>D.int (0+(i:Nat))) (fun _=>.bl true) (l:=List.range l.length) (fun i hi=>by
      have hi':=List.mem_range.mp hi
      have hm:l[i]∈l:=List.getElem_mem hi'
      have ih:=Ykr j l[i] (PlL_iff.mp hp _ hm) (by have:=Ypb hm;omega)
      simp[Ydr,Yme hi',ih])
     have hrg:=Yi2 (n:=(l.length:Int)) (by omega) (by omega)
     rw[Yi1]at hrg
     simp[Ycm,Yj,isiD,Ycn,Yho,capR,hrg]at hc ⊢
     rw[hc]
     simp[Function.comp_def]
   | non=>simp[Ycm,Yj,isiD,Ycn,Yho]
   | bl b=>simp[Ycm,Yj,isiD,Ycn,Yho]
   | int i=>simp[Ycm,Yj,isiD,Ycn,Yho,isN,Yj4]
   | str x=>simp[Ycm,Yj,isiD,Ycn,Yho,isN,Yj4,Ymd]
   | lst l=>exact hp.elim
   | scr l=>exact hp.elim
   | dct t l m=>exact hp.elim
   | obj t l m=>exact hp.elim
   | adr l=>exact hp.elim
theorem Yxj{d:D}(h:Pl d)(hd:dep d < 12):Yfu [d,d]=some (.bl true):=Ykr 12 d h hd
end Lw
namespace Lw
open PySem L2 M Bk
def tabH:List Int:=(List.range 120).map fun i=>pH (((i / 2:Nat):Int),decide (i % 2=1))
def Yjk:List Int->Bool
 | []=>true
 | a::l=>!(l.contains a)&&Yjk l
set_option maxRecDepth 100000 in
theorem Yxk:Yjk tabH=true:=by decide +kernel
theorem Yfc:∀{l:List Int},Yjk l=true->l.Nodup
 | [],_=>.nil
 | a::l,h=>by
   rw[Yjk,Qb]at h
   refine List.nodup_cons.mpr ⟨fun hm=>?_,Yfc h.2⟩
   have:l.contains a=true:=by simpa using hm
   rw[this]at h
   exact Bool.noConfusion h.1
def sIdx(s:Say):Nat:=2 * s.1+if s.2 then 1 else 0
theorem Ysi(s:Say)(h:s.1 < 60):tabH[sIdx s]?=some (pH ((s.1:Int),s.2)):=by
 obtain⟨b,l⟩:=s
 have hi:sIdx (b,l) < 120:=by cases l<;>simp[sIdx]at *<;>omega
 unfold tabH
 rw[qz,List.getElem?_range hi,Option.map_some]
 cases l
 ·have e1:sIdx (b,false) / 2=b:=by simp[sIdx]
  have e2:sIdx (b,false) % 2=0:=by simp[sIdx]
  dsimp only
  rw[e1,e2]
  rfl
 ·have e1:sIdx (b,true) / 2=b:=by simp only[sIdx,if_true];omega
  have e2:sIdx (b,true) % 2=1:=by simp only[sIdx,if_true];omega
  dsimp only
  rw[e1,e2]
  rfl
theorem Yxl{T:List Int}(hn:T.Nodup){i j:Nat}{x:Int}(h1:T[i]?=some x)(h2:T[j]?=some x):i=j:=by
 obtain⟨hi,a1⟩:=qm h1
 obtain⟨hj,a2⟩:=qm h2
 exact(List.getElem_inj hn).mp (a1.trans a2.symm)
theorem Ym9{s t:Say}(h:sIdx s=sIdx t):s=t:=by
 obtain⟨b,l⟩:=s
 obtain⟨c,m⟩:=t
 cases l<;>cases m<;>simp[sIdx]at h ⊢<;>omega
theorem Yyt{s t:Say}(hs:s.1 < 60)(ht:t.1 < 60)(hst:s≠t):pH ((s.1:Int),s.2)≠pH ((t.1:Int),t.2):=fun e=>by
 have h1:=Ysi s hs
 have h2:=Ysi t ht
 rw[<-e]at h2
 exact hst (Ym9 (Yxl (Yfc Yxk) h1 h2))
theorem Yjl:∀l:List Say,prsD (l.map sayD)=some (l.map fun s=>((s.1:Int),s.2))
 | []=>by simp[prsD]
 | s::l=>by
   rw[Qa,sayD,prsD,Yjl l]
   rfl
theorem Yia{l:List D}{ps:List (Int × Bool)}(h1:Yco l=none)(h2:prsD l=some ps)(h3:Yhs ps=true):Ybu l=some (.int ps.length):=by
 unfold Ybu
 rw[h1]
 dsimp only
 rw[h2,qc,if_pos h3]
theorem Ypx{p q:Int × Bool}(h:pH p≠pH q):Yhs [p,q]=true:=decide_eq_true h
theorem Ypy(p:Int × Bool):Yhs [p]=true:=decide_eq_true (Nat.le_succ 1)
theorem Yjm(a:Say)(l:List Say):Yco ((a::l).map sayD)=none:=by
 rw[Qa,sayD]
 simp[Yco]
theorem Yib(l:List Say)(h2:l.length<=2)(hn:l.Nodup)(h60:∀s∈l,s.1 < 60):Ybu (l.map sayD)=some (.int l.length):=by
 rcases l with _ | ⟨a,_ | ⟨b,_ | ⟨c,r⟩⟩⟩
 ·simp[Ybu,Yco,ddup]
 ·exact Yia (Yjm a []) (Yjl [a]) (Ypy _)
 ·have hab:a≠b:=by simpa using hn
  exact Yia (Yjm a [b]) (Yjl [a,b]) (Ypx (Yyt (h60 a qg) (h60 b (qf _ qg)) hab))
 ·simp at h2
theorem Yic:∀(l acc:List Int),(acc++l).Nodup->ddup acc l=acc++l
 | [],acc,_=>by simp[ddup]
 | k::l,acc,h=>by
   have hk:k∉acc:=fun hm=>by
    rw[List.nodup_append]at h
    exact h.2.2 k hm k qg rfl
   rw[ddup,if_neg hk,Yic l (acc++[k]) (by simpa using h)]
   simp
theorem Yid(l:List Nat)(hn:l.Nodup)(hl:l.length<=1000):Ybu (l.map nD)=some (.int l.length):=by
 unfold Ybu
 have e:Yco (l.map nD)=some (l.map fun x:Nat=>(x:Int)):=Ye4 (fun x:Nat=>(x:Int)) l
 have hn':(l.map fun x:Nat=>(x:Int)).Nodup:=by
  rw[List.nodup_iff_pairwise_ne,List.pairwise_map]
  exact(List.nodup_iff_pairwise_ne.mp hn).imp fun h z=>h (by omega)
 rw[e]
 dsimp only
 rw[if_pos (by rw[qe];omega),Yic _ [] (by simpa using hn')]
 simp
theorem Ydt(b:Nat)(h:b < 60):Yr [nD b]=some (nD b):=by
 have h1:y9 [nD b]=some (.bl true):=by
  rw[y9,Yba (by rfl)]
  have q1:(0:Int)<=(b:Int):=by omega
  have q2:(b:Int) < 60:=by omega
  simp[Ycu,Yj,isiD,Yho,Ycn,nD,q1,q2]
 rw[Yr,Yba (by rfl)]
 simp[Yca,Yj,h1]
theorem Yjn(o:Bool):Yah [.bl o]=some (.bl o):=by
 rw[Yah,Yba (by rfl)]
 cases o<;>simp[Yd6,Yj,isB]
theorem Ybx{c:D}(l b:List Nat)(hc:Yw c=some (l.map nD))(hp:l.Perm b)(hb:b.Pairwise (· < ·))(h60:∀x∈b,x < 60)(hl:b.length<=60):Yac [c]=some (.tup (b.map nD)):=by
 have hn:l.Nodup:=hp.nodup_iff.mpr (hb.imp fun h=>ql h)
 have hll:l.length<=60:=by rw[hp.length_eq];exact hl
 have hcm:=Ykd (fe:=Ybj) (r:=[]) (enc:=nD) nD (l:=l) (fun x hx=>by
  have:=Ydt x (h60 x (hp.mem_iff.mp hx))
  simp[Ybj,this])
 obtain⟨l',s1,s2,s3⟩:=Ymq l hn (by omega)
 have e:l'=b:=(s1.trans hp).eq_of_pairwise (fun a b _ _ h1 h2=>absurd h1 (Nat.lt_asymm h2)) s2 hb
 rw[e]at s3
 have hls:=Yid l hn (by omega)
 rw[Yac,Yba (by rfl)]
 simp[Ydf,Yj,hc,capR,hcm,hls,s3]
def sayL(f:Bool)(s:Say):D:=if f then .lst [.int s.1,.bl s.2]else sayD s
def Hd:Rl->D->Prop
 | .ei l,d=>∃(l':List Say) (f:Bool),l'.Perm l/\Yw d=some (l'.map (sayL f))
 | .su b o,d=>∃(b':List Nat) (c:D),b'.Perm b/\d=.tup [c,.bl o]/\Yw c=some (b'.map nD)
 | .im b h,d=>∃(b':List Nat) (c:D),b'.Perm b/\d=.tup [c,optD h]/\Yw c=some (b'.map nD)
theorem Yhj{a b:Say}(h1:slt a b)(h2:slt b a):False:=by
 unfold slt at h1 h2
 rcases h1 with h1 | ⟨h1,h3,h4⟩
 ·rcases h2 with h2 | ⟨h2,_,_⟩<;>omega
 ·rcases h2 with h2 | ⟨h2,h5,h6⟩
  ·omega
  ·rw[h3]at h6
   cases h6
theorem Ygj{b:List Nat}(hb:b.Pairwise (· < ·))(h60:∀x∈b,x < 60):b.length<=60:=by
 have hn:b.Nodup:=hb.imp fun h=>ql h
 have hs:b⊆List.range 60:=fun x hx=>List.mem_range.mpr (h60 x hx)
 have:=List.Nodup.length_le_of_subset hn hs
 simpa using this
theorem Yhk(k:Kd)(r:Rl)(hin:In k 60 r)(hs:Srt r){d:D}(hd:Hd r d):Yb0 [kdD k,d]=some (rlD r):=by
 rw[Yb0,Yba (by rfl)]
 cases r with
 | ei l=>
   obtain⟨rfl,h60⟩:=hin
   obtain⟨h2,hpw⟩:=hs
   obtain⟨l',f,hp,hit⟩:=hd
   have hn:l'.Nodup:=hp.nodup_iff.mpr (hpw.imp fun h z=>by subst z;exact Yhj h h)
   have hl':l'.length<=2:=by rw[hp.length_eq];exact h2
   have h60':∀s∈l',s.1 < 60:=fun s hs=>h60 s (hp.mem_iff.mp hs)
   have hcm:=Ykd (fe:=Ycb) (r:=[]) (enc:=sayL f) sayD (l:=l') (fun s hs=>by
    have h1:=Ydt s.1 (h60' s hs)
    have h2:=Yjn s.2
    simp only[nD]at h1
    cases f<;>simp[Ycb,sayL,sayD,h1,h2])
   obtain⟨ls,s1,s2,s3⟩:=Ymr l' hl' hn
   have e:ls=l:=(s1.trans hp).eq_of_pairwise (fun a b _ _ h1 h2=>(Yhj h1 h2).elim) s2 hpw
   rw[e]at s3
   have hls:=Yib l' hl' hn h60'
   have hle:¬(2:Int) < (l'.length:Int):=by omega
   have hem:Yce [d]=some (.tup (l.map sayD)):=by
    rw[Yce,Yba (by rfl)]
    generalize hq:l'.map (sayL f)=q at hit hcm
    have hql:q.length=l'.length:=by rw[<-hq];simp
    simp[Ye6,Yj,hit,hql,hle,capR,hcm,hls,s3]
   simp[Ydp,Yj,hem,rlD]
 | su b o=>
   obtain⟨rfl,h60⟩:=hin
   obtain⟨b',c,hp,rfl,hc⟩:=hd
   have hbm:=Ybx b' b hc hp hs h60 (Ygj hs h60)
   have hem:Yeg [.tup [c,.bl o]]=some (.tup [.tup (b.map nD),.bl o]):=by
    rw[Yeg,Yba (by rfl)]
    simp[Yh9,Yj,hbm,Yjn]
   simp[Ydp,Yj,hem,rlD]
 | im b h=>
   obtain⟨hk,h60,hh⟩:=hin
   obtain⟨b',c,hp,rfl,hc⟩:=hd
   have hbm:=Ybx b' b hc hp hs h60 (Ygj hs h60)
   have hem:Ye7 [.tup [c,optD h]]=some (.tup [.tup (b.map nD),optD h]):=by
    rw[Ye7,Yba (by rfl)]
    cases h with
    | none=>simp[Yhb,Yj,hbm,optD]
    | some x=>
      have hx:=Ydt x (hh x rfl)
      simp only[nD]at hx
      simp[Yhb,Yj,hbm,optD,hx]
   have hk1:k≠.e:=by rcases hk with rfl | rfl<;>decide
   have hk2:k≠.s:=by rcases hk with rfl | rfl<;>decide
   simp[Ydp,Yj,hem,rlD,hk1,hk2]
theorem Yrj(k:Kd):kS k∈Ydn:=by cases k<;>simp[Ydn,kS]
def HdL:List Rl->List D->Prop
 | [],[]=>True
 | r::R,d::ds=>Hd r d/\HdL R ds
 | _,_=>False
theorem HdL.length:∀{R:List Rl} {ds:List D},HdL R ds->ds.length=R.length
 | [],[],_=>rfl
 | r::R,d::ds,h=>by rw[qq,qq,HdL.length h.2]
 | [],_::_,h=>h.elim
 | _::_,[],h=>h.elim
theorem Yks(k:Kd):∀{R:List Rl} {ds:List D},(∀r∈R,In k 60 r/\Srt r)->HdL R ds->Ydz (gSet 0) tY Yc9 [none,some (.sh (kdD k))] ds=some (R.map rlD)
 | [],[],_,_=>by simp
 | r::R,d::ds,h,hd=>by
   have ih:=Yks k (R:=R) (ds:=ds) (fun r hr=>h r (qf _ hr)) hd.2
   have h1:=Yhk k r (h r qg).1 (h r qg).2 hd.1
   rw[Ydz,ih]
   simp[Yc9,h1]
 | [],_::_,_,h=>h.elim
 | _::_,[],_,h=>h.elim
theorem Ylx(k:Kd){R:List Rl}{c:D}{ds:List D}(hR:∀r∈R,In k 60 r/\Srt r)(hd:HdL R ds)(hc:Yw c=some ds)(hl:R.length<=60):Ydq [kdD k,c]=some (Yi3 k R):=by
 rw[Ydq,Yba (by rfl)]
 have hcm:=Yks k hR hd
 have hlen:=hd.length
 have hle:¬(60:Int) < (ds.length:Int):=by omega
 have hk:=Yrj k
 simp[Yhc,Yj,kdD,isiD,Yho,Ycn,hk,hc,hle,capR,Yi3]
 simp only[kdD]at hcm
 rw[hcm]
 simp
end Lw
namespace Lw
open PySem L2 M Bk
theorem Ygk{gt:D->Ro->Option Ro}{fe:Ro->Option D}{fr:Ro->Option Bool}{ρ:Ro}{d:D}{post:List D}(hd:∃ρ1,gt d ρ=some ρ1/\fr ρ1=some true) :
 ∀{pre:List D},(∀x∈pre,∃ρ1 v,gt x ρ=some ρ1/\fr ρ1=some false/\fe ρ1=some v)->Yfr gt fe fr ρ (pre++d::post)=some true
 | [],_=>by
   obtain⟨ρ1,h1,h2⟩:=hd
   show Yfr gt fe fr ρ (d::post)=_
   rw[Yfr,h1,qc,h2,qc,if_pos rfl]
 | x::pre,h=>by
   obtain⟨ρ1,v,h1,h2,h3⟩:=h x (.head _)
   show Yfr gt fe fr ρ (x::(pre++d::post))=_
   rw[Yfr,h1,qc,h2,qc,if_neg qh,h3,qc]
   exact Ygk hd fun y hy=>h y (.tail _ hy)
theorem Yfd{gt:D->Ro->Option Ro}{fe:Ro->Option D}{fr:Ro->Option Bool}{ρ:Ro}:∀{l:List D},(∀x∈l,∃ρ1 v,gt x ρ=some ρ1/\fr ρ1=some false/\fe ρ1=some v)->Yfr gt fe fr ρ l=some false
 | [],_=>rfl
 | x::l,h=>by
   obtain⟨ρ1,v,h1,h2,h3⟩:=h x (.head _)
   rw[Yfr,h1,qc,h2,qc,if_neg qh,h3,qc]
   exact Yfd fun y hy=>h y (.tail _ hy)
theorem Ypz{d:D}(h:y9 [d]=some (.bl false)):Yap [d]=some true:=by
 unfold Yap runX
 simp[Ybz,xIf,Yj,h,xYes]
theorem Yjo{d:D}(h:y9 [d]=some (.bl true)):Yap [d]=some false/\Yr [d]=some d:=by
 constructor
 ·unfold Yap runX
  simp[Ybz,xIf,Yj,h,xNo]
 ·rw[Yr,Yba (by rfl)]
  simp[Yca,Yj,h]
theorem Yrk(b:Bool):Yaw [.bl b]=some false/\Yah [.bl b]=some (.bl b):=by
 cases b<;>exact⟨rfl,rfl⟩
theorem Yp0{m:Int}(h:m < 0\/60<=m):y9 [.int m]=some (.bl false):=by
 rw[y9,Yba (by rfl)]
 have h1:isiD "int" (D.int m)=some true:=rfl
 have h2:isiD "bool" (D.int m)=some false:=rfl
 by_cases h0:0<=m
 ·have h4:¬m < 60:=by omega
  simp[Ycu,Yj,h0,h4,h1,h2]
 ·simp[Ycu,Yj,h0,h1,h2]
theorem Yfe{b:Nat}(h:b < 60):y9 [nD b]=some (.bl true):=by
 rw[y9,Yba (by rfl)]
 have h1:isiD "int" (D.int (b:Int))=some true:=rfl
 have h2:isiD "bool" (D.int (b:Int))=some false:=rfl
 have h3:(b:Int) < 60:=by omega
 simp[Ycu,Yj,nD,h1,h2,h3]
theorem Yhl(c:Int):∃d,Ybi [.int c]=some d/\y9 [d]=some (.bl false):=by
 have hp:powI (.int 10) (.int 60)=some (.int (10 ^ 60)):=rfl
 have hf:0<=c / 10 % 10 ^ 60:=Int.emod_nonneg _ (by decide)
 have hm:modI (.int (c / 10)) (.int (10 ^ 60))=some (.int (c / 10 % 10 ^ 60)):=by
  have:((10:Int) ^ 60)≠0:=by decide
  simp[modI,i2,this]
 generalize hFF:c / 10 % 10 ^ 60=f at *
 generalize hTT:(10:Int) ^ 60=T at *
 clear hFF hTT
 have e:c % 10=0\/c % 10=1\/c % 10=2\/c % 10=3\/c % 10=4\/c % 10=5\/c % 10=6\/c % 10=7\/c % 10=8\/c % 10=9:=by omega
 rw[Ybi,Yba (by rfl)]
 rcases e with e | e | e | e | e | e | e | e | e | e
 ·exact⟨.bl true,by simp[Yao,Yj,hp,hm,e]<;>rfl,by rfl⟩
 ·exact⟨.bl false,by simp[Yao,Yj,hp,hm,e]<;>rfl,by rfl⟩
 ·exact⟨.str "3",by simp[Yao,Yj,hp,hm,e]<;>rfl,by rfl⟩
 ·exact⟨.int (-1 - f),by simp[Yao,Yj,hp,hm,e]<;>rfl,Yp0 (by omega)⟩
 ·exact⟨.int (60+f),by simp[Yao,Yj,hp,hm,e]<;>rfl,Yp0 (by omega)⟩
 ·exact⟨.tup [.int 0],by simp[Yao,Yj,hp,hm,e]<;>rfl,by rfl⟩
 ·exact⟨.int 60,by simp[Yao,Yj,hp,hm,e]<;>rfl,Yp0 (by omega)⟩
 ·exact⟨.lst [.int 0],by simp[Yao,Yj,hp,hm,e]<;>rfl,by rfl⟩
 ·exact⟨.dct false [] [],by simp[Yao,Yj,hp,hm,e]<;>rfl,by rfl⟩
 ·exact⟨.non,by simp[Yao,Yj,hp,hm,e]<;>rfl,by rfl⟩
theorem Yie(c:Int):∃d,Ybl [.int c]=some d/\Yaw [d]=some true:=by
 have e:c % 5=0\/c % 5=1\/c % 5=2\/c % 5=3\/c % 5=4:=by omega
 rw[Ybl,Yba (by rfl)]
 rcases e with e | e | e | e | e
 ·exact⟨.int 0,by simp[Ya8,Yj,e]<;>rfl,by rfl⟩
 ·exact⟨.int 1,by simp[Ya8,Yj,e]<;>rfl,by rfl⟩
 ·exact⟨.str "True",by simp[Ya8,Yj,e]<;>rfl,by rfl⟩
 ·exact⟨.non,by simp[Ya8,Yj,e]<;>rfl,by rfl⟩
 ·exact⟨.int 2,by simp[Ya8,Yj,e]<;>rfl,by rfl⟩
theorem Yuj{pre:List Nat}{d:D}{post:List D}(hp:∀b∈pre,b < 60)(hd:y9 [d]=some (.bl false)){c:D}(hc:Yw c=some (pre.map nD++d::post)):Yo [c]=some true:=by
 have h:=Ygk (gt:=gSet 0) (fe:=Yaf) (fr:=y0) (ρ:=[none]) (d:=d) (post:=post) ⟨_,rfl,by
  have:=Ypz hd
  simp[y0,Ya5,this]⟩ (pre:=pre.map nD) (fun x hx=>by
  obtain⟨b,hb,rfl⟩:=qw hx
  obtain⟨h1,h2⟩:=Yjo (Yfe (hp b hb))
  generalize nD b=B at *
  exact⟨_,B,rfl,by simp[y0,Ya5,h1],by simp[Yaf,h2]⟩)
 unfold Yo runX
 generalize pre.map nD++d::post=L at *
 simp[Ybc,xGo,Yc1,Yj,hc,capR,h]
theorem Yhm{l:List Nat}(h60:∀b∈l,b < 60)(hn:l.Nodup)(hl:l.length<=60){c:D}(hc:Yw c=some (l.map nD)):Yo [c]=some false:=by
 have h:=Yfd (gt:=gSet 0) (fe:=Yaf) (fr:=y0) (ρ:=[none]) (l:=l.map nD) (fun x hx=>by
  obtain⟨b,hb,rfl⟩:=qw hx
  obtain⟨h1,h2⟩:=Yjo (Yfe (h60 b hb))
  generalize nD b=B at *
  exact⟨_,B,rfl,by simp[y0,Ya5,h1],by simp[Yaf,h2]⟩)
 have hcm:=Ykd (fe:=Yas) (r:=[]) (enc:=nD) nD (l:=l) (fun x hx=>by
  have:=Ydt x (h60 x hx)
  simp[Yas,this])
 have hls:=Yid l hn (by omega)
 unfold Yo runX
 have hlen:(l.map nD).length=l.length:=by simp
 generalize l.map nD=L at *
 simp[Ybc,xGo,Yc1,xIf,Yj,hc,capR,h,hcm,hls,hlen,xNo]
theorem Yjp:∀(r acc:List Int),(ddup acc r).length<=acc.length+r.length
 | [],acc=>by simp[ddup]
 | k::r,acc=>by
   rw[ddup]
   by_cases hk:k∈acc
   ·rw[if_pos hk]
    have:=Yjp r acc
    simp;omega
   ·rw[if_neg hk]
    have:=Yjp r (acc++[k])
    simp at this ⊢;omega
theorem Yif:∀(r acc:List Int),¬(acc++r).Nodup->acc.Nodup->(ddup acc r).length < acc.length+r.length
 | [],acc,h,h'=>absurd (by simpa using h') h
 | k::r,acc,h,h'=>by
   rw[ddup]
   by_cases hk:k∈acc
   ·rw[if_pos hk]
    have:=Yjp r acc
    simp;omega
   ·rw[if_neg hk]
    have:=Yif r (acc++[k]) (by simpa using h) (by rw[List.nodup_append];exact⟨h',by simp,fun a ha b hb z=>by rw[List.mem_singleton.mp hb]at z;exact hk (z ▸ ha)⟩)
    simp at this ⊢;omega
theorem Yp1{l:List Nat}(h60:∀b∈l,b < 60)(hn:¬l.Nodup)(hl:l.length<=60){c:D}(hc:Yw c=some (l.map nD)):Yo [c]=some true:=by
 have h:=Yfd (gt:=gSet 0) (fe:=Yaf) (fr:=y0) (ρ:=[none]) (l:=l.map nD) (fun x hx=>by
  obtain⟨b,hb,rfl⟩:=qw hx
  obtain⟨h1,h2⟩:=Yjo (Yfe (h60 b hb))
  generalize nD b=B at *
  exact⟨_,B,rfl,by simp[y0,Ya5,h1],by simp[Yaf,h2]⟩)
 have hcm:=Ykd (fe:=Yas) (r:=[]) (enc:=nD) nD (l:=l) (fun x hx=>by
  have:=Ydt x (h60 x hx)
  simp[Yas,this])
 obtain⟨m,hm,hls⟩:∃m:Nat,m < l.length/\Ybu (l.map nD)=some (.int m):=by
  refine⟨(ddup [] (l.map fun x:Nat=>(x:Int))).length,?_,?_⟩
  ·have:=Yif (l.map fun x:Nat=>(x:Int)) [] (fun z=>hn (by
    have z':(l.map fun x:Nat=>(x:Int)).Nodup:=by simpa using z
    rw[List.nodup_iff_pairwise_ne,List.pairwise_map]at z'
    exact List.nodup_iff_pairwise_ne.mpr (z'.imp fun h w=>h (by rw[w])))) .nil
   simpa using this
  ·unfold Ybu
   have e:Yco (l.map nD)=some (l.map fun x:Nat=>(x:Int)):=Ye4 (fun x:Nat=>(x:Int)) l
   rw[e]
   dsimp only
   rw[if_pos (by rw[qe];omega)]
 have hlt:(m:Int) < (l.length:Int):=by omega
 have hlen:(l.map nD).length=l.length:=by simp
 unfold Yo runX
 generalize l.map nD=L at *
 simp[Ybc,xGo,Yc1,xIf,Yj,hc,capR,h,hcm,hls,hlen,hm,xYes]
theorem Yyu(k:Kd)(r:Rl)(hin:In k 60 r)(hs:Srt r):Yak [kdD k,rlD r]=some false:=by
 cases r with
 | ei l=>
   obtain⟨rfl,h60⟩:=hin
   obtain⟨h2,hpw⟩:=hs
   have hn:l.Nodup:=hpw.imp fun h z=>by subst z;exact Yhj h h
   have h:=Yfd (gt:=gSet 0) (fe:=Yai) (fr:=Yx) (ρ:=[none]) (l:=l.map sayD) (fun x hx=>by
    obtain⟨s,hs,rfl⟩:=qw hx
    obtain⟨h1,h2⟩:=Yjo (Yfe (h60 s hs))
    obtain⟨h3,h4⟩:=Yrk s.2
    simp only[nD]at h1 h2
    exact⟨_,.tup [.int (s.1:Int),.bl s.2],rfl,by simp[Yx,Yc8,Ya5,sayD,h1,h2,h3,h4,xNo],by simp[Yai,sayD,h2,h4]⟩)
   have hcm:=Ykd (fe:=Ya1) (r:=[]) (enc:=sayD) sayD (l:=l) (fun s hs=>by
    have h1:=Ydt s.1 (h60 s hs)
    have h2:=Yjn s.2
    simp only[nD]at h1
    simp[Ya1,sayD,h1,h2])
   have hls:=Yib l h2 hn h60
   have hle:¬(2:Int) < (l.length:Int):=by omega
   have hlen:(l.map sayD).length=l.length:=by simp
   have hx:Yad [.tup (l.map sayD)]=some false:=by
    unfold Yad runX
    generalize l.map sayD=L at *
    simp[Ya7,xGo,Yc1,xIf,Yj,capR,h,hcm,hls,hlen,hle,xNo]
   unfold Yak runX
   simp[Ybe,xIf,Ya5,Yj,rlD,hx]
 | su b o=>
   obtain⟨rfl,h60⟩:=hin
   have hl:=Ygj hs h60
   have hn:b.Nodup:=hs.imp fun h=>ql h
   have h1:=Yhm h60 hn hl (c:=.tup (b.map nD)) rfl
   have h2:=Ybx b b (c:=.tup (b.map nD)) rfl (.refl _) hs h60 hl
   obtain⟨h3,h4⟩:=Yrk o
   have hx:Ybh [.tup [.tup (b.map nD),.bl o]]=some false:=by
    unfold Ybh runX
    generalize b.map nD=L at *
    simp[Ydo,Yc8,Ya5,Yj,h1,h2,h3,h4,xNo]
   unfold Yak runX
   simp[Ybe,xIf,Ya5,Yj,rlD,hx]
 | im b h=>
   obtain⟨hk,h60,hh⟩:=hin
   have hl:=Ygj hs h60
   have hn:b.Nodup:=hs.imp fun h=>ql h
   have h1:=Yhm h60 hn hl (c:=.tup (b.map nD)) rfl
   have h2:=Ybx b b (c:=.tup (b.map nD)) rfl (.refl _) hs h60 hl
   have hx:Ybd [.tup [.tup (b.map nD),optD h]]=some false:=by
    unfold Ybd runX
    cases h with
    | none=>
      generalize b.map nD=L at *
      simp[Yck,xGo,xIf,Yc8,Ya5,Yj,h1,h2,xNo,optD]
    | some x=>
      obtain⟨h3,h4⟩:=Yjo (Yfe (hh x rfl))
      have hni:isN true (nD x) .non=some true:=rfl
      have ho:optD (some x)=nD x:=rfl
      rw[ho]
      generalize b.map nD=L at *
      generalize nD x=NX at *
      simp[Yck,xGo,xIf,Yc8,Ya5,Yj,h1,h2,h3,h4,xNo,hni]
   unfold Yak runX
   rcases hk with rfl | rfl<;>simp[Ybe,xIf,Ya5,Yj,rlD,hx]
theorem Yp2(r:Rl):Hd r (rlD r):=by
 cases r with
 | ei l=>exact⟨l,false,.refl _,rfl⟩
 | su b o=>exact⟨b,_,.refl _,rfl,rfl⟩
 | im b h=>exact⟨b,_,.refl _,rfl,rfl⟩
theorem Yxm(k:Kd):isiD "str" (kdD k)=some true/\inG true Ydn (kdD k)=some false:=by cases k<;>exact⟨rfl,rfl⟩
theorem Yrl{k:Kd}{pre:List Rl}(hp:∀r∈pre,In k 60 r/\Srt r){d:D}(hd:Yak [kdD k,d]=some true){post:List D}:Yal [kdD k,.lst (pre.map rlD++d::post)]=some true:=by
 obtain⟨k1,k2⟩:=Yxm k
 have h:=Ygk (gt:=gSet 0) (fe:=Yda) (fr:=Yb1) (ρ:=[none,some (.sh (kdD k))]) (d:=d) (post:=post) ⟨_,rfl,by
  generalize kdD k=KD at *
  simp[Yb1,Ya5,hd]⟩ (pre:=pre.map rlD) (fun x hx=>by
  obtain⟨r,hr,rfl⟩:=qw hx
  have h1:=Yyu k r (hp r hr).1 (hp r hr).2
  have h2:=Yhk k r (hp r hr).1 (hp r hr).2 (Yp2 r)
  generalize rlD r=R at *
  generalize kdD k=KD at *
  exact⟨_,R,rfl,by simp[Yb1,Ya5,h1],by simp[Yda,h2]⟩)
 unfold Yal runX
 generalize pre.map rlD++d::post=L at *
 generalize kdD k=KD at *
 by_cases hl:(60:Int) < (L.length:Int)
 ·simp[Ybq,xIf,Yj,k1,k2,hl,xYes]
 ·simp[Ybq,xIf,Yue,Yc8,Yc1,Yj,k1,k2,hl,capR,h]
theorem Yrm{k:Kd}{L:List D}(hl:60 < L.length):Yal [kdD k,.lst L]=some true:=by
 obtain⟨k1,k2⟩:=Yxm k
 have hl':(60:Int) < (L.length:Int):=by omega
 unfold Yal runX
 generalize kdD k=KD at *
 simp[Ybq,xIf,Yj,k1,k2,hl',xYes]
theorem Yc3{d:D}(h:isiD "str" d=some false\/(isiD "str" d=some true/\inG true Ydn d=some true))(c:D):Yal [d,c]=some true:=by
 unfold Yal runX
 rcases h with h | ⟨h1,h2⟩
 ·simp[Ybq,xIf,Yj,h,xYes]
 ·simp[Ybq,xIf,Yj,h1,h2,xYes]
theorem Yuk{kd c:D}(h:Yal [kd,c]=some true):Yds [kd,c]=some (.lst [.bl true,.bl true,.bl false]):=by
 rw[Yds,Yba (by rfl)]
 simp[Yhi,Yj,tryF,h,Yc2]
theorem Yna(c:Int):∃d,Yb2 [.int c]=some d/\y9 [d]=some (.bl false)/\isN true d .non=some true:=by
 obtain⟨d,h1,h2⟩:=Yhl c
 rw[Yb2,Yba (by rfl)]
 by_cases hz:isN false d .non=some true
 ·refine⟨.lst [.int 2],?_,by rfl,by rfl⟩
  simp[Ydc,Yj,h1,hz]
 ·have hz':isN false d .non=some false:=by
   cases d<;>first | rfl | exact absurd rfl hz
  refine⟨d,?_,h2,?_⟩
  ·simp[Ydc,Yj,h1,hz']
  ·cases d<;>first | rfl | exact absurd rfl hz
theorem Yp3(x:Int):∃d,atI [D.str "either",D.str "",D.non,D.int 3,D.str "Ifs",D.bl true,D.lst [D.str "sums"],D.str "nots "] (x % 8)=some d/\∀c,Yal [d,c]=some true:=by
 have e:x % 8=0\/x % 8=1\/x % 8=2\/x % 8=3\/x % 8=4\/x % 8=5\/x % 8=6\/x % 8=7:=by omega
 rcases e with e | e | e | e | e | e | e | e<;>rw[e]
 ·exact⟨_,rfl,Yc3 (.inr ⟨rfl,rfl⟩)⟩
 ·exact⟨_,rfl,Yc3 (.inr ⟨rfl,rfl⟩)⟩
 ·exact⟨_,rfl,Yc3 (.inl rfl)⟩
 ·exact⟨_,rfl,Yc3 (.inl rfl)⟩
 ·exact⟨_,rfl,Yc3 (.inr ⟨rfl,rfl⟩)⟩
 ·exact⟨_,rfl,Yc3 (.inl rfl)⟩
 ·exact⟨_,rfl,Yc3 (.inl rfl)⟩
 ·exact⟨_,rfl,Yc3 (.inr ⟨rfl,rfl⟩)⟩
theorem Yfw{c o:D}(h:Yo [c]=some true):Ybh [.tup [c,o]]=some true:=by
 unfold Ybh runX
 simp[Ydo,Yc8,Ya5,Yj,h]
theorem Yrn{c o v:D}(h1:Yo [c]=some false)(h2:Yac [c]=some v)(h3:Yaw [o]=some true):Ybh [.tup [c,o]]=some true:=by
 unfold Ybh runX
 simp[Ydo,Yc8,Ya5,Yj,h1,h2,h3]
theorem Yp4{c d:D}(h1:isN true d .non=some true)(h2:y9 [d]=some (.bl false)):Ybd [.tup [c,d]]=some true:=by
 have h3:=Ypz h2
 unfold Ybd runX
 simp[Yck,xGo,xIf,Ya5,Yj,h1,h3,xNo]
theorem Yul{c:D}(h:Yo [c]=some true):Ybd [.tup [c,.non]]=some true:=by
 unfold Ybd runX
 simp[Yck,xGo,xIf,Yc8,Ya5,Yj,h,xNo]
theorem Yum{c:D}{b:Nat}(hb:b < 60)(h:Yo [c]=some true):Ybd [.tup [c,nD b]]=some true:=by
 obtain⟨h3,h4⟩:=Yjo (Yfe hb)
 have hni:isN true (nD b) .non=some true:=rfl
 unfold Ybd runX
 generalize nD b=NX at *
 simp[Yck,xGo,xIf,Yc8,Ya5,Yj,h,h3,h4,xNo,hni]
theorem xr_s{d:D}(h:Ybh [d]=some true):Yak [kdD .s,d]=some true:=by
 unfold Yak runX
 simp[Ybe,xIf,Ya5,Yj,h]
theorem xr_w{k:Kd}(hk:k=.i\/k=.n){d:D}(h:Ybd [d]=some true):Yak [kdD k,d]=some true:=by
 unfold Yak runX
 rcases hk with rfl | rfl<;>simp[Ybe,xIf,Ya5,Yj,h]
theorem xr_e{d:D}(h:Yad [d]=some true):Yak [kdD .e,d]=some true:=by
 unfold Yak runX
 simp[Ybe,xIf,Ya5,Yj,h]
theorem Yun{L:List D}(h:2 < L.length):Yad [.lst L]=some true:=by
 have h':(2:Int) < (L.length:Int):=by omega
 unfold Yad runX
 simp[Ya7,xIf,Yj,h',xYes]
theorem Ykt{pre:List Say}(hp:∀s∈pre,s.1 < 60){d b t:D}(h0:ixD d (.int 0)=some b)(h1:ixD d (.int 1)=some t)(hd:y9 [b]=some (.bl false)\/(y9 [b]=some (.bl true)/\Yaw [t]=some true)){post:List D}:Yad [.lst (pre.map sayD++d::post)]=some true:=by
 have h:=Ygk (gt:=gSet 0) (fe:=Yai) (fr:=Yx) (ρ:=[none]) (d:=d) (post:=post) ⟨_,rfl,by
  rw[Yt2]at h0 h1
  rcases hd with hd | ⟨hd,ht⟩
  ·have:=Ypz hd
   simp[Yx,Yc8,Ya5,h0,this]
  ·obtain⟨h2,h3⟩:=Yjo hd
   simp[Yx,Yc8,Ya5,h0,h1,h2,h3,ht]⟩ (pre:=pre.map sayD) (fun x hx=>by
  obtain⟨s,hs,rfl⟩:=qw hx
  obtain⟨h1,h2⟩:=Yjo (Yfe (hp s hs))
  obtain⟨h3,h4⟩:=Yrk s.2
  simp only[nD]at h1 h2
  exact⟨_,.tup [.int (s.1:Int),.bl s.2],rfl,by simp[Yx,Yc8,Ya5,sayD,h1,h2,h3,h4,xNo],by simp[Yai,sayD,h2,h4]⟩)
 unfold Yad runX
 generalize pre.map sayD++d::post=L at *
 by_cases hl:(2:Int) < (L.length:Int)
 ·simp[Ya7,xIf,Yj,hl,xYes]
 ·simp[Ya7,xGo,Yc1,xIf,Yj,hl,capR,h]
theorem Yku(s:Say):Ybu [sayD s,sayD s]=some (.int 1):=by
 unfold Ybu
 have e1:=Yjm s [s]
 have e2:=Yjl [s,s]
 simp only[Qa,List.map_nil]at e1 e2
 rw[e1]
 dsimp only
 rw[e2,qc,if_neg (by simp[Yhs]),if_pos (by simp[You])]
theorem Yuo{S1 S2:List D}{m:Nat}{u:Int}(h:Yfr (gSet 0) Yai Yx [none] S2=some false)(hcm:Ydz (gSet 0) tY Ya1 [none] S2=some S1)(hls:Ybu S1=some (.int u))(n1:S2.length=m)(n2:S1.length=m)(n4:¬(2:Int) < (m:Int))(n5:u < (m:Int)):Yad [.lst S2]=some true:=by
 unfold Yad runX
 simp[Ya7,xGo,Yc1,xIf,Yj,capR,h,hcm,hls,n1,n2,n4,n5,xYes]
theorem Yro{s:Say}(h60:s.1 < 60):Yad [.lst [sayD s,sayL true s]]=some true:=by
 have h:=Yfd (gt:=gSet 0) (fe:=Yai) (fr:=Yx) (ρ:=[none]) (l:=[sayD s,sayL true s]) (fun x hx=>by
  obtain⟨h1,h2⟩:=Yjo (Yfe h60)
  obtain⟨h3,h4⟩:=Yrk s.2
  simp only[nD]at h1 h2
  have hx':x=sayD s\/x=sayL true s:=by simpa using hx
  rcases hx' with rfl | rfl
  ·exact⟨_,.tup [.int (s.1:Int),.bl s.2],rfl,by simp[Yx,Yc8,Ya5,sayD,h1,h2,h3,h4,xNo],by simp[Yai,sayD,h2,h4]⟩
  ·exact⟨_,.tup [.int (s.1:Int),.bl s.2],rfl,by simp[Yx,Yc8,Ya5,sayL,h1,h2,h3,h4,xNo],by simp[Yai,sayL,h2,h4]⟩)
 have hcm:=Ykd (fe:=Ya1) (r:=[]) (enc:=fun f=>sayL f s) (fun _=>sayD s) (l:=[false,true]) (fun f _=>by
  have h1:=Ydt s.1 h60
  have h2:=Yjn s.2
  simp only[nD]at h1
  cases f<;>simp[Ya1,sayL,sayD,h1,h2])
 have hl:[false,true].map (fun f=>sayL f s)=[sayD s,sayL true s]:=rfl
 have hl2:[false,true].map (fun _=>sayD s)=[sayD s,sayD s]:=rfl
 rw[hl,hl2]at hcm
 have hls:=Yku s
 exact Yuo (m:=2) (u:=1) h hcm hls rfl rfl (by decide) (by decide)
theorem Ynb{w:Int}(hw:w=2\/w=3\/w=4\/w=5)(c:Int):∃d,Ybm [.int w,.int c]=some d/\Yad [d]=some true:=by
 rw[Ybm,Yba (by rfl)]
 rcases hw with rfl | rfl | rfl | rfl
 ·obtain⟨z,h1,h2⟩:=Yhl (c / 4)
  have g:D.tup [.int 3,.bl true]=sayD (3,true):=rfl
  have e:c / 2 % 2+c % 2=0\/c / 2 % 2+c % 2=1\/c / 2 % 2+c % 2=2:=by omega
  have hat (a b c:D):atI [a,b,c] 2=some c:=rfl
  rcases e with e | e | e
  ·refine⟨.lst [.lst [z,.bl (decide (c % 2=1))]],by simp[Yaq,Yj,h1,e,frz,frz1],?_⟩
   exact Ykt (pre:=[]) (by simp) (b:=z) rfl rfl (.inl h2)
  ·refine⟨.lst [.tup [.int 3,.bl true],.lst [z,.bl (decide (c % 2=1))]],by simp[Yaq,Yj,h1,e,frz,frz1],?_⟩
   rw[g]
   exact Ykt (pre:=[(3,true)]) (by simp) (b:=z) rfl rfl (.inl h2)
  ·refine⟨.lst [.lst [z,.bl (decide (c % 2=1))],.tup [.int 3,.bl true]],by simp[Yaq,Yj,h1,e,frz,frz1,hat],?_⟩
   exact Ykt (pre:=[]) (by simp) (b:=z) rfl rfl (.inl h2)
 ·obtain⟨z,h1,h2⟩:=Yie (c / 2)
  obtain⟨b,hb⟩:∃b:Nat,c / 10 % 60=(b:Int):=⟨(c / 10 % 60).toNat,by omega⟩
  have hb60:b < 60:=by omega
  have hbb:=Yfe hb60
  have e:c % 2=0\/c % 2=1:=by omega
  have hc1 (a b:D):cutD [a,b] none (some 1)=[a]:=rfl
  have hc2 (a b:D):cutD [a,b] none (some 2)=[a,b]:=rfl
  rcases e with e | e
  ·refine⟨.lst [.tup [nD b,z]],by simp[Yaq,Yj,h1,e,hb,optI,hc1,nD],?_⟩
   exact Ykt (pre:=[]) (by simp) (b:=nD b) rfl rfl (.inr ⟨hbb,h2⟩)
  ·refine⟨.lst [.tup [nD b,z],.tup [.int 3,.bl true]],by simp[Yaq,Yj,h1,e,hb,optI,hc2,nD],?_⟩
   exact Ykt (pre:=[]) (by simp) (b:=nD b) rfl rfl (.inr ⟨hbb,h2⟩)
 ·obtain⟨b,hb⟩:∃b:Nat,c / 2 % 60=(b:Int):=⟨(c / 2 % 60).toNat,by omega⟩
  have hb60:b < 60:=by omega
  exact⟨.lst [sayD (b,decide (c % 2=1)),sayL true (b,decide (c % 2=1))],by simp[Yaq,Yj,hb,sayD,sayL],Yro hb60⟩
 ·exact⟨_,by simp[Yaq,Yj];rfl,Yun (by simp)⟩
theorem Yp5(l:List D)(i:Nat)(h:i<=l.length):cutD l none (some (i:Int))=l.take i:=by
 unfold cutD
 rw[HT.sIx_nat,HT.sIx_none,Nat.min_eq_left h]
 simp
theorem Ykv(l:List D)(i:Nat)(h:i<=l.length):cutD l (some (i:Int)) none=l.drop i:=by
 unfold cutD
 rw[HT.sIx_nat,HT.sIx_none,Nat.min_eq_left h]
 exact List.take_of_length_le (by simp)
theorem Ykw(l:List D)(z:D)(i:Nat)(hl:l.length<=1000):catD (.lst (l.take i)) (.lst [z])=some (l.take i++[z])/\catD (.lst (l.take i++[z])) (.lst (l.drop i))=some (l.take i++z::l.drop i):=by
 have h6:cap6=1000000:=rfl
 refine⟨if_pos ?_,?_⟩
 ·rw[h6];simp;omega
 ·refine(if_pos ?_).trans ?_
  ·rw[h6];simp;omega
  ·simp
abbrev rowN:List Nat:=[7,50,11,3]
abbrev rowD:List D:=[.int 7,.int 50,.int 11,.int 3]
theorem e_tw:∀a:Nat,a < 5->∀b:Nat,b < 4->atI rowD (b:Int)=some (nD (rowN.getD b 0))/\insD rowD (.int (a:Int)) (nD (rowN.getD b 0))=some ((rowN.take a++rowN.getD b 0::rowN.drop a).map nD):=by
 intro a ha b hb
 have ea:a=0\/a=1\/a=2\/a=3\/a=4:=by omega
 have eb:b=0\/b=1\/b=2\/b=3:=by omega
 rcases ea with rfl | rfl | rfl | rfl | rfl<;>rcases eb with rfl | rfl | rfl | rfl<;>exact⟨rfl,rfl⟩
theorem Yyv:∀a,a < 5->∀b,b < 4->(∀x∈rowN.take a++rowN.getD b 0::rowN.drop a,x < 60)/\¬(rowN.take a++rowN.getD b 0::rowN.drop a).Nodup/\(rowN.take a++rowN.getD b 0::rowN.drop a).length<=60:=by decide
theorem Yp6(c:Int):∃v,atI rowD (c / 25 % 4)=some v/\∃l:List Nat,insD rowD (.int (c / 5 % 5)) v=some (l.map nD)/\Yo [.lst (l.map nD)]=some true:=by
 obtain⟨a,ha⟩:∃a:Nat,c / 5 % 5=(a:Int):=⟨(c / 5 % 5).toNat,by omega⟩
 obtain⟨b,hb⟩:∃b:Nat,c / 25 % 4=(b:Int):=⟨(c / 25 % 4).toNat,by omega⟩
 obtain⟨h1,h2⟩:=e_tw a (by omega) b (by omega)
 obtain⟨h3,h4,h5⟩:=Yyv a (by omega) b (by omega)
 rw[ha,hb]
 exact⟨_,h1,_,h2,Yp1 h3 h4 h5 rfl⟩
theorem Yxn(c:Int):∃l:List Nat,cutD rowD none (some (c % 5))=l.map nD/\(∀x∈l,x < 60)/\l.length<=4/\Yo [.lst (l.map nD)]=some false/\∃v,Yac [.lst (l.map nD)]=some v:=by
 have e:c % 5=0\/c % 5=1\/c % 5=2\/c % 5=3\/c % 5=4:=by omega
 rcases e with e | e | e | e | e<;>rw[e]
 ·exact⟨[],rfl,by decide,by decide,Yhm (by decide) (by decide) (by decide) rfl,_,Ybx [] [] rfl (.refl _) (by decide) (by decide) (by decide)⟩
 ·exact⟨[7],rfl,by decide,by decide,Yhm (by decide) (by decide) (by decide) rfl,_,Ybx [7] [7] rfl (.refl _) (by decide) (by decide) (by decide)⟩
 ·exact⟨[7,50],rfl,by decide,by decide,Yhm (by decide) (by decide) (by decide) rfl,_,Ybx [7,50] [7,50] rfl (.refl _) (by decide) (by decide) (by decide)⟩
 ·exact⟨[7,50,11],rfl,by decide,by decide,Yhm (by decide) (by decide) (by decide) rfl,_,Ybx [7,50,11] [7,11,50] rfl (by decide) (by decide) (by decide) (by decide)⟩
 ·exact⟨[7,50,11,3],rfl,by decide,by decide,Yhm (by decide) (by decide) (by decide) rfl,_,Ybx [7,50,11,3] [3,7,11,50] rfl (by decide) (by decide) (by decide) (by decide)⟩
theorem Yrp(k:Kd){w:Int}(hw:w=2\/w=3\/w=4\/w=5)(c:Int):∃d,Yb3 [kdD k,.int w,.int c]=some d/\Yak [kdD k,d]=some true:=by
 rw[Yb3,Yba (by rfl)]
 by_cases hk:k=.e
 ·subst hk
  obtain⟨d,h1,h2⟩:=Ynb hw (c / 7)
  exact⟨d,by simp[Yam,Yj,h1],xr_e h2⟩
 have hkw:k≠.s->k=.i\/k=.n:=fun h=>by cases k<;>simp at hk h ⊢
 obtain⟨l,g1,g2,g3,g4,v,g5⟩:=Yxn c
 have hLl:(l.map nD).length<=1000:=by rw[qe];omega
 have hll:(l.map nD).length=l.length:=qe _
 obtain⟨j,hj⟩:∃j:Nat,c / 5 % ((l.length:Int)+1)=(j:Int):=⟨(c / 5 % ((l.length:Int)+1)).toNat,by
  have:=Int.emod_nonneg (c / 5) (show(l.length:Int)+1≠0 by omega)
  omega⟩
 have hjl:j<=l.length:=by
  have:=Int.emod_lt_of_pos (c / 5) (show(0:Int) < (l.length:Int)+1 by omega)
  omega
 obtain⟨z,z1,z2⟩:=Yhl (c / 25)
 have x1:=Yp5 (l.map nD) j (by omega)
 have x2:=Ykv (l.map nD) j (by omega)
 obtain⟨x3,x4⟩:=Ykw (l.map nD) z j hLl
 have x5:Yo [.lst ((l.map nD).take j++z::(l.map nD).drop j)]=some true:=by
  refine Yuj (pre:=l.take j) (post:=(l.map nD).drop j) (fun b hb=>g2 b (List.mem_of_mem_take hb)) z2 ?_
  rw[List.map_take]
  rfl
 have hmod:modI (.int (c / 5)) (.int ((l.length:Int)+1))=some (.int (j:Int)):=by rw[Ye3 (by omega),hj]
 clear g2 hj hLl
 generalize (l.map nD).take j=L1 at *
 generalize (l.map nD).drop j=L2 at *
 generalize l.map nD=L at *
 by_cases hs:k=.s
 ·subst hs
  rcases hw with rfl | rfl | rfl | rfl
  ·refine⟨.tup [.lst (L1++z::L2),.bl true],?_,xr_s (Yfw x5)⟩
   simp[Yam,Yj,optI,g1,hll,hmod,z1,x1,x2,x3,x4]
  ·obtain⟨t,t1,t2⟩:=Yie (c / 25)
   refine⟨.tup [.lst L,t],?_,xr_s (Yrn g4 g5 t2)⟩
   simp[Yam,Yj,optI,g1,frz,frz1,t1]
  ·obtain⟨u,u1,l',u2,u3⟩:=Yp6 c
   refine⟨.tup [.lst (l'.map nD),.bl true],?_,xr_s (Yfw u3)⟩
   generalize l'.map nD=L' at *
   simp[Yam,Yj,optI,g1,frz,frz1,u1,u2]
  ·refine⟨.tup [.lst (L1++z::L2),.bl true],?_,xr_s (Yfw x5)⟩
   simp[Yam,Yj,optI,g1,hll,hmod,z1,x1,x2,x3,x4]
 ·have hw2:=hkw hs
  obtain⟨t,t1,t2,t3⟩:=Yna (c / 25)
  rcases hw with rfl | rfl | rfl | rfl
  ·refine⟨.tup [.lst (L1++z::L2),.non],?_,xr_w hw2 (Yul x5)⟩
   simp[Yam,Yj,hk,hs,optI,g1,hll,hmod,z1,x1,x2,x3,x4]
  ·refine⟨.tup [.lst L,t],?_,xr_w hw2 (Yp4 t3 t2)⟩
   simp[Yam,Yj,hk,hs,optI,g1,frz,frz1,t1]
  ·obtain⟨u,u1,l',u2,u3⟩:=Yp6 c
   refine⟨.tup [.lst (l'.map nD),nD 2],?_,xr_w hw2 (Yum (by decide) u3)⟩
   generalize l'.map nD=L' at *
   simp[Yam,Yj,hk,hs,optI,g1,frz,frz1,u1,u2,nD]
  ·refine⟨.tup [.lst L,t],?_,xr_w hw2 (Yp4 t3 t2)⟩
   simp[Yam,Yj,hk,hs,optI,g1,frz,frz1,t1]
theorem Yup{k:Kd}{n m:Nat}(h:n<=m){r:Rl}(hi:In k n r):In k m r:=by
 cases r with
 | ei l=>exact⟨hi.1,fun s hs=>qx (hi.2 s hs) h⟩
 | su b o=>exact⟨hi.1,fun x hx=>qx (hi.2 x hx) h⟩
 | im b o=>exact⟨hi.1,fun x hx=>qx (hi.2.1 x hx) h,fun x hx=>qx (hi.2.2 x hx) h⟩
theorem Yms:∀R:List Rl,HdL R (R.map rlD)
 | []=>trivial
 | r::R=>⟨Yp2 r,Yms R⟩
theorem Yxo{k:Kd}{RR:List D}{n:Nat}{c0:D}(hl:RR.length<=60)(h0:Ycl [kdD k,.int 0,.int n]=some c0)(m:Nat)(hm:m<=1000):∃SP,SP.length=m/\Ydz (gSet 0) tY Ygi [none,some (.sh (.lst RR)),some (.sh (kdD k)),some (.sh (.int n))] (rngD 0 m)=some SP:=by
 have hcat:catD (.lst RR) (.lst [c0])=some (RR++[c0]):=by
  have h6:cap6=1000000:=rfl
  refine if_pos ?_
  rw[h6];simp;omega
 rw[Yi1]
 have hm':((m:Int) - 0).toNat=m:=by omega
 rw[hm']
 have h:=Ykd (fe:=Ygi) (r:=[some (.sh (.lst RR)),some (.sh (kdD k)),some (.sh (.int n))]) (enc:=fun i:Nat=>D.int (0+(i:Int))) (fun i=>(RR++[c0]).getD (i % (RR.length+1)) .non) (l:=List.range m) (fun i _=>by
  have hi:i % (RR.length+1) < (RR++[c0]).length:=by
   have:=Nat.mod_lt i (show 0 < RR.length+1 by omega)
   simpa using this
  have hat:atI (RR++[c0]) ((i:Int) % ((RR.length:Int)+1))=some ((RR++[c0]).getD (i % (RR.length+1)) .non):=
   Yw3 (j:=i % (RR.length+1)) (by simp[Int.natCast_emod]) (by rw[List.getD_eq_getElem?_getD,qp hi];simp)
  have hmod:modI (.int (i:Int)) (.int ((RR.length:Int)+1))=some (.int ((i:Int) % ((RR.length:Int)+1))):=Ye3 (by omega)
  generalize (RR++[c0]).getD (i % (RR.length+1)) .non=v at *
  simp[Ygi,h0,hcat,hmod,hat])
 exact⟨_,by simp,h⟩
theorem law_true(ns:List Int)(hns:ns.length<=63):Ylw [.scr ns]=some (.bl true):=by
 rw[Ylw,Yba (by rfl)]
 have c0:=Ymp ns 0
 have c1:=Ymp ns 1
 have c2:=Ymp ns 2
 have c3:=Ymp ns 3
 have k4:=Yui ns 4 63
 generalize hcl:(ns.drop (min 4 ns.length)).take (min 63 ns.length - min 4 ns.length)=cells at k4
 have hcl':cells.length<=59:=by
  rw[<-hcl,List.length_take,List.length_drop]
  omega
 generalize ns.getD 0 0=x0 at *
 generalize ns.getD 1 0=x1 at *
 generalize ns.getD 2 0=x2 at *
 generalize ns.getD 3 0=x3 at *
 obtain⟨n,hn⟩:∃n:Nat,1+x0 / 4 % 60=(n:Int):=⟨(1+x0 / 4 % 60).toNat,by omega⟩
 have h0:0 < n:=by omega
 have h60:n<=60:=by omega
 obtain⟨k,hk⟩:=Yxi x0
 obtain⟨cl,hcl0,hmx⟩:=Ypw x2 1865811235122147685
 obtain⟨R,hRl,hR,hRc⟩:=drawn (fe:=Yje) (r:=[some (.sh (kdD k)),some (.sh (.int n))]) (P:=fun r=>In k 60 r/\Srt r) (fun c=>by
  obtain⟨r,hin,hs,hr⟩:=Ysh k c n h0 (by omega)
  exact⟨r,⟨Yup h60 hin,hs⟩,by simp[Yje,hr]⟩) cells
 obtain⟨r0,_,_,hr0⟩:=Ysh k 0 n h0 (by omega)
 have s2:=Yxj (d:=Yi3 k R) (Yt8 (by omega) (fun r hr=>Nat.le_trans (Yyp (hR r hr).1 (hR r hr).2) (by omega))) (Nat.lt_of_le_of_lt (Yq3 _ _) (by omega))
 have m1:=Ylx k (c:=.lst (R.map rlD)) hR (Yms R) rfl (by omega)
 have hbk:D.tup [kdD k,.tup (R.map rlD)]=Yi3 k R:=rfl
 generalize Yi3 k R=BK at *
 have hRRl:(R.map rlD).length<=59:=by rw[qe];omega
 obtain⟨j,hj⟩:∃j:Nat,x3 % (((R.map rlD).length:Int)+1)=(j:Int):=⟨(x3 % (((R.map rlD).length:Int)+1)).toNat,by
  have:=Int.emod_nonneg x3 (show((R.map rlD).length:Int)+1≠0 by omega)
  omega⟩
 have hjl:j<=(R.map rlD).length:=by
  have:=Int.emod_lt_of_pos x3 (show(0:Int) < ((R.map rlD).length:Int)+1 by omega)
  omega
 have hmod:modI (.int x3) (.int (((R.map rlD).length:Int)+1))=some (.int (j:Int)):=by rw[Ye3 (by omega),hj]
 have y1:=Yp5 (R.map rlD) j hjl
 have y2:=Ykv (R.map rlD) j hjl
 have y3:=fun z=>Ykw (R.map rlD) z j (by omega)
 have y4:∀z,Yak [kdD k,z]=some true->Yal [kdD k,.lst ((R.map rlD).take j++z::(R.map rlD).drop j)]=some true:=fun z hz=>by
  rw[<-List.map_take]
  exact Yrl (fun r hr=>hR r (List.mem_of_mem_take hr)) hz
 have y5:=Yxo (k:=k) (RR:=R.map rlD) (n:=n) (by omega) hr0
 clear hj hjl hR hRl hcl
 generalize (R.map rlD).take j=L1 at *
 generalize (R.map rlD).drop j=L2 at *
 generalize R.map rlD=RR at *
 generalize rlD r0=c00 at *
 have hw:x1 % 6=0\/x1 % 6=1\/x1 % 6=2\/x1 % 6=3\/x1 % 6=4\/x1 % 6=5:=by omega
 generalize hW:x1 % 6=w at *
 simp at c0 c1 c2 c3 k4
 have hst:Yj 10 [D.scr ns]=[some (.sh (.scr ns)),none,none,none,none,none,none,none,none,none]:=rfl
 rw[hst]
 have q13:∀x d6 d7 d8 d9,(x=B.ow RR\/x=.sh (.lst RR))->Yjf [some (.sh (.scr ns)),some (.sh (kdD k)),some (.sh (.int (n:Int))),some (.sh (.int w)),some (.sh (.int cl)),some x,d6,d7,d8,d9]=some (.rt (.bl true)):=by
  intro x d6 d7 d8 d9 hx
  rcases hx with rfl | rfl<;>simp[Yjf,frz,frz1,m1,hbk,s2]
 have he:eqM true (.lst [.bl true,.bl true,.bl false]) (.lst [.bl true,.bl true,.bl false])=some false:=rfl
 have q10:∀x d6 SP d8,(x=B.ow RR\/x=.sh (.lst RR))->Yal [d6,.lst SP]=some true->Yjg [some (.sh (.scr ns)),some (.sh (kdD k)),some (.sh (.int (n:Int))),some (.sh (.int w)),some (.sh (.int cl)),some x,some (.sh d6),some (.ow SP),d8,none]=some (.rt (.bl true)):=by
  intro x d6 SP d8 hx hb
  have hkk:=Yuk hb
  have:=q13 x (some (.sh d6)) (some (.sh (.lst SP))) d8 (some (.sh (.bl true))) hx
  rw[Yjg,Ybp]
  simp
  rw[Ymo,Ybp]
  simp[frz,frz1,tryF,hb]
  rw[Ymn,Ybp]
  simp[frz,frz1,hkk,he]
  exact this
 have q9:∀d6 SP d8,w≠1->Yal [d6,.lst SP]=some true->Yjh [some (.sh (.scr ns)),some (.sh (kdD k)),some (.sh (.int (n:Int))),some (.sh (.int w)),some (.sh (.int cl)),some (.ow RR),some (.sh d6),some (.ow SP),d8,none]=some (.rt (.bl true)):=by
  intro d6 SP d8 h hb
  have:=q10 (.ow RR) d6 SP d8 (.inl rfl) hb
  rw[Yjh,Ybp]
  simp[h]
  exact this
 have q8:∀SP d8,w≠1->(w≠0->Yal [kdD k,.lst SP]=some true)->Yji [some (.sh (.scr ns)),some (.sh (kdD k)),some (.sh (.int (n:Int))),some (.sh (.int w)),some (.sh (.int cl)),some (.ow RR),some (.sh (kdD k)),some (.ow SP),d8,none]=some (.rt (.bl true)):=by
  intro SP d8 h hb
  rw[Yji,Ybp]
  by_cases h0:w=0
  ·obtain⟨d6,e1,e2⟩:=Yp3 (cl / 2)
   have:=q9 d6 SP d8 h (e2 _)
   simp[h0,e1]
   rw[h0]at this
   exact this
  ·have:=q9 (kdD k) SP d8 h (hb h0)
   simp[h0]
   exact this
 have q7:Ylp [some (.sh (.scr ns)),some (.sh (kdD k)),some (.sh (.int (n:Int))),some (.sh (.int w)),some (.sh (.int cl)),some (.ow RR),some (.sh (kdD k)),some (.ow RR),none,none]=some (.rt (.bl true)):=by
  rw[Ylp,Ybp]
  by_cases h1:w=1
  ·subst h1
   obtain⟨SP,e1,e2⟩:=y5 (61+(cl % 40).toNat) (by omega)
   have e3:rng1 [.int (61+cl % 40)]=some (rngD 0 ((61+(cl % 40).toNat:Nat):Int)):=by
    have:((61+(cl % 40).toNat:Nat):Int)=61+cl % 40:=by omega
    rw[this]
    exact Yi2 (by omega) (by omega)
   generalize rngD 0 ((61+(cl % 40).toNat:Nat):Int)=RG at *
   have:=q10 (.sh (.lst RR)) (kdD k) SP none (.inr rfl) (Yrm (by omega))
   simp
   rw[Yji,Ybp]
   simp
   rw[Yjh,Ybp]
   simp[frz,frz1,e3,capR,e2]
   exact this
  ·by_cases hc:w > 1\/(w=0/\cl % 2=1)
   ·obtain⟨w',hw',hmx'⟩:∃w',(w'=2\/w'=3\/w'=4\/w'=5)/\(if w > 2 then w else 2)=w':=⟨_,by split<;>omega,rfl⟩
    obtain⟨z,z1,z2⟩:=Yrp k hw' cl
    obtain⟨y6,y7⟩:=y3 z
    have:=q8 (L1++z::L2) (some (.sh (.int (j:Int)))) h1 (fun _=>y4 z z2)
    rcases hc with hc | ⟨hc,hc2⟩
    ·simp[hc,c3,hmod,optI,y1,y2,hmx',z1,y6,y7]
     exact this
    ·subst hc
     simp at hmx'
     subst hmx'
     simp[hc2,c3,hmod,optI,y1,y2,z1,y6,y7]
     exact this
   ·have hw0:w=0:=by omega
    subst hw0
    have hc2:¬cl % 2=1:=fun h=>hc (.inr ⟨rfl,h⟩)
    have:=q8 RR none (by decide) (fun h=>absurd rfl h)
    simp[hc2]
    exact this
 have q6:Ylq [some (.sh (.scr ns)),some (.sh (kdD k)),some (.sh (.int (n:Int))),some (.sh (.int w)),some (.sh (.int cl)),some (.ow RR),some (.sh (kdD k)),none,none,none]=some (.rt (.bl true)):=by
  rw[Ylq,Ybp]
  simp
  exact q7
 have q5:Ylr [some (.sh (.scr ns)),some (.sh (kdD k)),some (.sh (.int (n:Int))),some (.sh (.int w)),some (.sh (.int cl)),some (.ow RR),none,none,none,none]=some (.rt (.bl true)):=by
  rw[Ylr,Ybp]
  simp
  exact q6
 clear q6 q7 q8 q9 q10 q13 y1 y2 y3 y4 y5
 have q4:Yls [some (.sh (.scr ns)),some (.sh (kdD k)),some (.sh (.int (n:Int))),some (.sh (.int w)),some (.sh (.int cl)),none,none,none,none,none]=some (.rt (.bl true)):=by
  rw[Yls,Ybp]
  simp[k4,capR,hRc]
  exact q5
 have q3:Ylt [some (.sh (.scr ns)),some (.sh (kdD k)),some (.sh (.int (n:Int))),some (.sh (.int w)),none,none,none,none,none,none]=some (.rt (.bl true)):=by
  rw[Ylt,Ybp]
  simp[c2,hmx]
  exact q4
 have q2:Ylu [some (.sh (.scr ns)),some (.sh (kdD k)),some (.sh (.int (n:Int))),none,none,none,none,none,none,none]=some (.rt (.bl true)):=by
  rw[Ylu,Ybp]
  simp[c1,hW]
  exact q3
 have q1:Ylv [some (.sh (.scr ns)),some (.sh (kdD k)),none,none,none,none,none,none,none,none]=some (.rt (.bl true)):=by
  rw[Ylv,Ybp]
  simp[c0,hn]
  exact q2
 rw[Yxg,Ybp]
 simp[c0,hk,q1]
end Lw
end
namespace Op
open PySem PySem.W PyProof.Rows PySem.Calls
set_option maxRecDepth 100000
noncomputable abbrev pg:Program:=PySem.Challenge.pw_duskbook_k02_no_book
noncomputable abbrev en(P:Params)(x:Str)(t:Nat)(v:Value):DictEntry:=⟨PyData.keyHash P x,.str x t,v⟩
noncomputable abbrev fn(name qual:Str)(s:Stmt)(dV kV doc pm:Value)(an:Option Addr)(cdv ct:Value)(g b:Nat):Data:=.func ⟨name,qual,L2.defArgs s,.stmts (L2.defBody s),L2.defScope s,g,[],dV,kV,doc,pm,an,cdv,ct,b⟩
noncomputable abbrev tu(l:List Value):Obj:=⟨.type "tuple",none,.seq ⟨l⟩ 0,#[]⟩
noncomputable abbrev fl:Obj:=⟨.none,none,.fields #[],#[]⟩
noncomputable abbrev oZ(x:Str)(i:Nat):Obj:=⟨.none,none,fn x x (Lw.top i) .none .none .none .none none .none .none 0 0,#[]⟩
noncomputable abbrev oF(x:Str)(i:Nat)(pm:Value)(c:Nat):Obj:=⟨.type "function",none,.func (fnOf x x (L2.defArgs (Lw.top i)) (L2.defBody (Lw.top i)) (L2.defScope (Lw.top i)) .none .none .none pm none (.ref c) .none),#[]⟩
noncomputable abbrev oC(x:Str)(t l n b:Nat)(u v:Value)(c k e:Nat):Obj:=⟨.type "code",none,.fields #[.str x t,.str x (t+1),.str "/claim/cut.py" (t+2),.int (.ofNat l) 0,.int (.ofNat n) 0,.int 0 0,.int 0 0,.int 3 0,.ref b,.bool true,.int (.ofNat k) 0,.ref (b+1),.none,u,v,.ref c,.int (.ofNat e) 0,.int (.ofNat l) 0,.str "/claim/cut.py" (e+1)],#[]⟩
noncomputable abbrev p0:Value:=(.str "duskbook.books" 335)
noncomputable abbrev p1:Value:=(.str "law_duskbook_k02_no_book" 410)
noncomputable def et0(P:Params):List DictEntry:=[en P "__doc__" 166 .none,en P "__package__" 167 .none,en P "__loader__" 168 (.builtin "__main__.__loader__#opaque"),en P "__spec__" 169 .none,en P "__annotations__" 170 (.ref 6),en P "__builtins__" 171 (.ref 4),en P "__file__" 173 (.str "/claim/cut.py" 172),en P "__cached__" 174 .none,en P "DuskError" 206 (.ref 24),en P "NoBook" 222 (.ref 37),en P "NoHands" 238 (.ref 49),en P "Over" 254 (.ref 61),en P "NoLight" 270 (.ref 73),en P "NoneSettled" 286 (.ref 85),en P "NoTable" 302 (.ref 97),en P "NoPage" 318 (.ref 109),en P "NoPaper" 334 (.ref 121),en P "KINDS" 341 (.ref 124),en P "BEACON_COUNT" 343 (.int (60) 342),en P "MOST_RULES" 345 (.int (60) 344),en P "MOST_SAYINGS" 347 (.int (2) 346),en P "is_beacon" 354 (.ref 131),en P "checked_beacon" 361 (.ref 138),en P "checked_truth" 368 (.ref 145),en P "checked_beacons" 374 (.ref 150),en P "either_made" 380 (.ref 155),en P "sum_made" 387 (.ref 162),en P "if_made" 395 (.ref 169),en P "rule_made" 403 (.ref 176),en P "book_made" 409 (.ref 181),en P "_law_cell" 419 (.ref 188),en P "_law_mixed" 427 (.ref 195),en P "_law_kind" 434 (.ref 202),en P "_law_rule" 448 (.ref 209),en P "_law_same" 454 (.ref 214),en P "_law_strange" 462 (.ref 221),en P "_law_headless" 470 (.ref 228),en P "_law_no_truth" 477 (.ref 235),en P "_law_bad_either" 486 (.ref 242),en P "_law_bad_rule" 498 (.ref 249)]
noncomputable def et1(P:Params):List DictEntry:=[en P "_law_kinds" 510 (.ref 256),en P "law" 516 (.ref 261)]
noncomputable def et(P:Params):List DictEntry:=et0 P++et1 P
noncomputable abbrev ns(P:Params)(x:DictEntry)(n k:Nat):Obj:=⟨.type "dict",none,.dict ⟨x::(et P).take n⟩ k,#[]⟩
noncomputable def ff0:List Value:=[(.int (2) 0),(.int (0) 0),(.ref 20),(.int (4) 0),(.int (0) 0),(.ref 33),(.int (6) 0),(.int (0) 0),(.ref 45),(.int (8) 0),(.int (0) 0),(.ref 57),(.int (10) 0),(.int (0) 0),(.ref 69),(.int (12) 0),(.int (0) 0),(.ref 81),(.int (14) 0),(.int (0) 0),(.ref 93),(.int (16) 0),(.int (0) 0),(.ref 105),(.int (18) 0),(.int (0) 0),(.ref 117),(.int (25) 0),(.int (0) 0),(.ref 130),(.int (27) 0),(.int (0) 0),(.ref 137),(.int (31) 0),(.int (0) 0),(.ref 144),(.int (35) 0),(.int (0) 0),(.ref 149),(.int (40) 0)]
noncomputable def ff1:List Value:=[(.int (0) 0),(.ref 154),(.int (47) 0),(.int (0) 0),(.ref 161),(.int (49) 0),(.int (0) 0),(.ref 168),(.int (54) 0),(.int (0) 0),(.ref 175),(.int (60) 0),(.int (0) 0),(.ref 180),(.int (67) 0),(.int (0) 0),(.ref 187),(.int (71) 0),(.int (0) 0),(.ref 194),(.int (73) 0),(.int (0) 0),(.ref 201),(.int (75) 0),(.int (0) 0),(.ref 208),(.int (94) 0),(.int (0) 0),(.ref 213),(.int (106) 0),(.int (0) 0),(.ref 220),(.int (109) 0),(.int (0) 0),(.ref 227),(.int (114) 0),(.int (0) 0),(.ref 234),(.int (116) 0),(.int (0) 0)]
noncomputable def ff2:List Value:=[(.ref 241),(.int (125) 0),(.int (0) 0),(.ref 248),(.int (139) 0),(.int (0) 0),(.ref 255),(.int (148) 0),(.int (0) 0),(.ref 260)]
noncomputable def ff:List Value:=ff0++ff1++ff2
noncomputable abbrev ft(n:Nat):Obj:=⟨.none,none,.fields ⟨ff.take n⟩,#[]⟩
noncomputable abbrev dF(x:Str)(i l n t b:Nat)(pm:Value)(k:Nat):List Obj:=[tu [],fl,oZ x i,oC x t l n b .none .none (b+2) k (t+3),oF x i pm (b+3)]
noncomputable abbrev dG(x:Str)(i l n t b:Nat)(pm:Value)(k:Nat)(u:List Value):List Obj:=[tu [],fl,tu u,tu [],oZ x i,oC x t l n b (.ref (b+2)) (.ref (b+3)) (b+4) k (t+3+u.length),oF x i pm (b+5)]
noncomputable def al0(P:Params):List Obj:=[boot_o_0 P,boot_o_1 P,boot_o_2 P,ns P (en P "__name__" 165 (.str "law_duskbook_k02_no_book" 410)) 42 43,boot_o_4 P,boot_o_5 P,boot_o_6 P,boot_o_7 P,boot_o_8 P,boot_o_9 P,boot_o_10 P,tu [],ft 90,⟨(.type "code"),none,(.fields #[(.str "<module>" 182),(.str "<module>" 183),(.str "/claim/cut.py" 184),(.int (1) 0),(.int (0) 0),(.int (0) 0),(.int (0) 0),(.int (0) 0),(.ref 11),(.bool false),(.int (181) 0),(.ref 12),.none,.none,.none,.none,(.int (185) 0),(.int (1) 0),(.str "/claim/cut.py" 186)]),#[]⟩,⟨(.type "frame"),none,.plain,#[(some (.ref 13)),(some (.ref 3)),(some (.ref 3)),none,(some (.str "__main__" 164)),none,(some (.ref 0))]⟩,tu [(.type "ValueError")],⟨(.type "builtin_function_or_method"),none,(.fields #[(.builtin "type.__prepare__"),(.type "type")]),#[]⟩,⟨(.type "dict"),none,(.dict #[en P "__module__" 196 (.str "duskbook.errors" 187),en P "__qualname__" 198 (.str "DuskError" 197),en P "__firstlineno__" 200 (.int (2) 199),en P "__static_attributes__" 201 (.ref 22)] 4),#[]⟩,tu [],fl,⟨(.type "code"),none,(.fields #[(.str "DuskError" 191),(.str "DuskError" 192),(.str "/claim/cut.py" 193),(.int (2) 0),(.int (0) 0),(.int (0) 0),(.int (0) 0),(.int (0) 0),(.ref 18),(.bool false),(.int (181) 0),(.ref 19),.none,.none,.none,.none,(.int (194) 0),(.int (2) 0),(.str "/claim/cut.py" 195)]),#[]⟩,⟨(.type "frame"),none,.plain,#[(some (.ref 20)),(some (.ref 3)),(some (.ref 17)),none,(some (.str "duskbook.errors" 187)),none,(some (.ref 0))]⟩,tu [],⟨(.type "dict"),none,(.dict #[en P "__module__" 196 (.str "duskbook.errors" 187),en P "__firstlineno__" 200 (.int (2) 199),en P "__static_attributes__" 201 (.ref 22),en P "__weakref__" 203 (.ref 25),en P "__doc__" 204 .none] 3),#[]⟩,⟨(.type "type"),none,(.cls ⟨"DuskError",[(.type "ValueError")],[(.ref 24),(.type "ValueError"),(.type "Exception"),(.type "BaseException"),(.type "object")],23,"DuskError",true,[],[(.ref 37),(.ref 49),(.ref 61),(.ref 73),(.ref 85),(.ref 97),(.ref 109),(.ref 121)],false,none,false⟩),#[(some (.ref 15)),none,(some (.str "DuskError" 189)),(some (.str "DuskError" 197)),(some (.builtin "ValueError.__new__")),(some (.bool true))]⟩,⟨(.type "getset_descriptor"),none,(.fields #[(.str "__weakref__" 202),(.ref 24),(.builtin "ExceptionGroup.__weakref__"),.none]),#[]⟩,⟨(.type "super"),none,(.fields #[(.ref 24),(.ref 24),(.ref 24)]),#[]⟩,⟨(.type "builtin_function_or_method"),none,(.fields #[(.builtin "object.__init_subclass__"),(.ref 24)]),#[]⟩,tu [(.ref 24)],⟨(.type "builtin_function_or_method"),none,(.fields #[(.builtin "type.__prepare__"),(.type "type")]),#[]⟩,⟨(.type "dict"),none,(.dict #[en P "__module__" 214 (.str "duskbook.errors" 187),en P "__qualname__" 216 (.str "NoBook" 215),en P "__firstlineno__" 218 (.int (4) 217),en P "__static_attributes__" 219 (.ref 35)] 4),#[]⟩,tu [],fl,⟨(.type "code"),none,(.fields #[(.str "NoBook" 209),(.str "NoBook" 210),(.str "/claim/cut.py" 211),(.int (4) 0),(.int (0) 0),(.int (0) 0),(.int (0) 0),(.int (0) 0),(.ref 31),(.bool false),(.int (181) 0),(.ref 32),.none,.none,.none,.none,(.int (212) 0),(.int (4) 0),(.str "/claim/cut.py" 213)]),#[]⟩,⟨(.type "frame"),none,.plain,#[(some (.ref 33)),(some (.ref 3)),(some (.ref 30)),none,(some (.str "duskbook.errors" 187)),none,(some (.ref 0))]⟩,tu [],⟨(.type "dict"),none,(.dict #[en P "__module__" 214 (.str "duskbook.errors" 187),en P "__firstlineno__" 218 (.int (4) 217),en P "__static_attributes__" 219 (.ref 35),en P "__doc__" 220 .none] 2),#[]⟩,⟨(.type "type"),none,(.cls ⟨"NoBook",[(.ref 24)],[(.ref 37),(.ref 24),(.type "ValueError"),(.type "Exception"),(.type "BaseException"),(.type "object")],36,"NoBook",true,[],[],false,none,false⟩),#[(some (.ref 28)),none,(some (.str "NoBook" 207)),(some (.str "NoBook" 215)),(some (.builtin "ValueError.__new__")),(some (.bool true))]⟩,⟨(.type "super"),none,(.fields #[(.ref 37),(.ref 37),(.ref 37)]),#[]⟩,⟨(.type "builtin_function_or_method"),none,(.fields #[(.builtin "object.__init_subclass__"),(.ref 37)]),#[]⟩]++([tu [(.ref 24)],⟨(.type "builtin_function_or_method"),none,(.fields #[(.builtin "type.__prepare__"),(.type "type")]),#[]⟩,⟨(.type "dict"),none,(.dict #[en P "__module__" 230 (.str "duskbook.errors" 187),en P "__qualname__" 232 (.str "NoHands" 231),en P "__firstlineno__" 234 (.int (6) 233),en P "__static_attributes__" 235 (.ref 47)] 4),#[]⟩,tu [],fl,⟨(.type "code"),none,(.fields #[(.str "NoHands" 225),(.str "NoHands" 226),(.str "/claim/cut.py" 227),(.int (6) 0),(.int (0) 0),(.int (0) 0),(.int (0) 0),(.int (0) 0),(.ref 43),(.bool false),(.int (181) 0),(.ref 44),.none,.none,.none,.none,(.int (228) 0),(.int (6) 0),(.str "/claim/cut.py" 229)]),#[]⟩,⟨(.type "frame"),none,.plain,#[(some (.ref 45)),(some (.ref 3)),(some (.ref 42)),none,(some (.str "duskbook.errors" 187)),none,(some (.ref 0))]⟩,tu [],⟨(.type "dict"),none,(.dict #[en P "__module__" 230 (.str "duskbook.errors" 187),en P "__firstlineno__" 234 (.int (6) 233),en P "__static_attributes__" 235 (.ref 47),en P "__doc__" 236 .none] 2),#[]⟩,⟨(.type "type"),none,(.cls ⟨"NoHands",[(.ref 24)],[(.ref 49),(.ref 24),(.type "ValueError"),(.type "Exception"),(.type "BaseException"),(.type "object")],48,"NoHands",true,[],[],false,none,false⟩),#[(some (.ref 40)),none,(some (.str "NoHands" 223)),(some (.str "NoHands" 231)),(some (.builtin "ValueError.__new__")),(some (.bool true))]⟩,⟨(.type "super"),none,(.fields #[(.ref 49),(.ref 49),(.ref 49)]),#[]⟩,⟨(.type "builtin_function_or_method"),none,(.fields #[(.builtin "object.__init_subclass__"),(.ref 49)]),#[]⟩,tu [(.ref 24)],⟨(.type "builtin_function_or_method"),none,(.fields #[(.builtin "type.__prepare__"),(.type "type")]),#[]⟩,⟨(.type "dict"),none,(.dict #[en P "__module__" 246 (.str "duskbook.errors" 187),en P "__qualname__" 248 (.str "Over" 247),en P "__firstlineno__" 250 (.int (8) 249),en P "__static_attributes__" 251 (.ref 59)] 4),#[]⟩,tu [],fl,⟨(.type "code"),none,(.fields #[(.str "Over" 241),(.str "Over" 242),(.str "/claim/cut.py" 243),(.int (8) 0),(.int (0) 0),(.int (0) 0),(.int (0) 0),(.int (0) 0),(.ref 55),(.bool false),(.int (181) 0),(.ref 56),.none,.none,.none,.none,(.int (244) 0),(.int (8) 0),(.str "/claim/cut.py" 245)]),#[]⟩,⟨(.type "frame"),none,.plain,#[(some (.ref 57)),(some (.ref 3)),(some (.ref 54)),none,(some (.str "duskbook.errors" 187)),none,(some (.ref 0))]⟩,tu [],⟨(.type "dict"),none,(.dict #[en P "__module__" 246 (.str "duskbook.errors" 187),en P "__firstlineno__" 250 (.int (8) 249),en P "__static_attributes__" 251 (.ref 59),en P "__doc__" 252 .none] 2),#[]⟩,⟨(.type "type"),none,(.cls ⟨"Over",[(.ref 24)],[(.ref 61),(.ref 24),(.type "ValueError"),(.type "Exception"),(.type "BaseException"),(.type "object")],60,"Over",true,[],[],false,none,false⟩),#[(some (.ref 52)),none,(some (.str "Over" 239)),(some (.str "Over" 247)),(some (.builtin "ValueError.__new__")),(some (.bool true))]⟩,⟨(.type "super"),none,(.fields #[(.ref 61),(.ref 61),(.ref 61)]),#[]⟩,⟨(.type "builtin_function_or_method"),none,(.fields #[(.builtin "object.__init_subclass__"),(.ref 61)]),#[]⟩,tu [(.ref 24)],⟨(.type "builtin_function_or_method"),none,(.fields #[(.builtin "type.__prepare__"),(.type "type")]),#[]⟩,⟨(.type "dict"),none,(.dict #[en P "__module__" 262 (.str "duskbook.errors" 187),en P "__qualname__" 264 (.str "NoLight" 263),en P "__firstlineno__" 266 (.int (10) 265),en P "__static_attributes__" 267 (.ref 71)] 4),#[]⟩,tu [],fl,⟨(.type "code"),none,(.fields #[(.str "NoLight" 257),(.str "NoLight" 258),(.str "/claim/cut.py" 259),(.int (10) 0),(.int (0) 0),(.int (0) 0),(.int (0) 0),(.int (0) 0),(.ref 67),(.bool false),(.int (181) 0),(.ref 68),.none,.none,.none,.none,(.int (260) 0),(.int (10) 0),(.str "/claim/cut.py" 261)]),#[]⟩,⟨(.type "frame"),none,.plain,#[(some (.ref 69)),(some (.ref 3)),(some (.ref 66)),none,(some (.str "duskbook.errors" 187)),none,(some (.ref 0))]⟩,tu [],⟨(.type "dict"),none,(.dict #[en P "__module__" 262 (.str "duskbook.errors" 187),en P "__firstlineno__" 266 (.int (10) 265),en P "__static_attributes__" 267 (.ref 71),en P "__doc__" 268 .none] 2),#[]⟩,⟨(.type "type"),none,(.cls ⟨"NoLight",[(.ref 24)],[(.ref 73),(.ref 24),(.type "ValueError"),(.type "Exception"),(.type "BaseException"),(.type "object")],72,"NoLight",true,[],[],false,none,false⟩),#[(some (.ref 64)),none,(some (.str "NoLight" 255)),(some (.str "NoLight" 263)),(some (.builtin "ValueError.__new__")),(some (.bool true))]⟩,⟨(.type "super"),none,(.fields #[(.ref 73),(.ref 73),(.ref 73)]),#[]⟩,⟨(.type "builtin_function_or_method"),none,(.fields #[(.builtin "object.__init_subclass__"),(.ref 73)]),#[]⟩,tu [(.ref 24)],⟨(.type "builtin_function_or_method"),none,(.fields #[(.builtin "type.__prepare__"),(.type "type")]),#[]⟩,⟨(.type "dict"),none,(.dict #[en P "__module__" 278 (.str "duskbook.errors" 187),en P "__qualname__" 280 (.str "NoneSettled" 279),en P "__firstlineno__" 282 (.int (12) 281),en P "__static_attributes__" 283 (.ref 83)] 4),#[]⟩,tu []]++([fl,⟨(.type "code"),none,(.fields #[(.str "NoneSettled" 273),(.str "NoneSettled" 274),(.str "/claim/cut.py" 275),(.int (12) 0),(.int (0) 0),(.int (0) 0),(.int (0) 0),(.int (0) 0),(.ref 79),(.bool false),(.int (181) 0),(.ref 80),.none,.none,.none,.none,(.int (276) 0),(.int (12) 0),(.str "/claim/cut.py" 277)]),#[]⟩,⟨(.type "frame"),none,.plain,#[(some (.ref 81)),(some (.ref 3)),(some (.ref 78)),none,(some (.str "duskbook.errors" 187)),none,(some (.ref 0))]⟩,tu [],⟨(.type "dict"),none,(.dict #[en P "__module__" 278 (.str "duskbook.errors" 187),en P "__firstlineno__" 282 (.int (12) 281),en P "__static_attributes__" 283 (.ref 83),en P "__doc__" 284 .none] 2),#[]⟩,⟨(.type "type"),none,(.cls ⟨"NoneSettled",[(.ref 24)],[(.ref 85),(.ref 24),(.type "ValueError"),(.type "Exception"),(.type "BaseException"),(.type "object")],84,"NoneSettled",true,[],[],false,none,false⟩),#[(some (.ref 76)),none,(some (.str "NoneSettled" 271)),(some (.str "NoneSettled" 279)),(some (.builtin "ValueError.__new__")),(some (.bool true))]⟩,⟨(.type "super"),none,(.fields #[(.ref 85),(.ref 85),(.ref 85)]),#[]⟩,⟨(.type "builtin_function_or_method"),none,(.fields #[(.builtin "object.__init_subclass__"),(.ref 85)]),#[]⟩,tu [(.ref 24)],⟨(.type "builtin_function_or_method"),none,(.fields #[(.builtin "type.__prepare__"),(.type "type")]),#[]⟩,⟨(.type "dict"),none,(.dict #[en P "__module__" 294 (.str "duskbook.errors" 187),en P "__qualname__" 296 (.str "NoTable" 295),en P "__firstlineno__" 298 (.int (14) 297),en P "__static_attributes__" 299 (.ref 95)] 4),#[]⟩,tu [],fl,⟨(.type "code"),none,(.fields #[(.str "NoTable" 289),(.str "NoTable" 290),(.str "/claim/cut.py" 291),(.int (14) 0),(.int (0) 0),(.int (0) 0),(.int (0) 0),(.int (0) 0),(.ref 91),(.bool false),(.int (181) 0),(.ref 92),.none,.none,.none,.none,(.int (292) 0),(.int (14) 0),(.str "/claim/cut.py" 293)]),#[]⟩,⟨(.type "frame"),none,.plain,#[(some (.ref 93)),(some (.ref 3)),(some (.ref 90)),none,(some (.str "duskbook.errors" 187)),none,(some (.ref 0))]⟩,tu [],⟨(.type "dict"),none,(.dict #[en P "__module__" 294 (.str "duskbook.errors" 187),en P "__firstlineno__" 298 (.int (14) 297),en P "__static_attributes__" 299 (.ref 95),en P "__doc__" 300 .none] 2),#[]⟩,⟨(.type "type"),none,(.cls ⟨"NoTable",[(.ref 24)],[(.ref 97),(.ref 24),(.type "ValueError"),(.type "Exception"),(.type "BaseException"),(.type "object")],96,"NoTable",true,[],[],false,none,false⟩),#[(some (.ref 88)),none,(some (.str "NoTable" 287)),(some (.str "NoTable" 295)),(some (.builtin "ValueError.__new__")),(some (.bool true))]⟩,⟨(.type "super"),none,(.fields #[(.ref 97),(.ref 97),(.ref 97)]),#[]⟩,⟨(.type "builtin_function_or_method"),none,(.fields #[(.builtin "object.__init_subclass__"),(.ref 97)]),#[]⟩,tu [(.ref 24)],⟨(.type "builtin_function_or_method"),none,(.fields #[(.builtin "type.__prepare__"),(.type "type")]),#[]⟩,⟨(.type "dict"),none,(.dict #[en P "__module__" 310 (.str "duskbook.errors" 187),en P "__qualname__" 312 (.str "NoPage" 311),en P "__firstlineno__" 314 (.int (16) 313),en P "__static_attributes__" 315 (.ref 107)] 4),#[]⟩,tu [],fl,⟨(.type "code"),none,(.fields #[(.str "NoPage" 305),(.str "NoPage" 306),(.str "/claim/cut.py" 307),(.int (16) 0),(.int (0) 0),(.int (0) 0),(.int (0) 0),(.int (0) 0),(.ref 103),(.bool false),(.int (181) 0),(.ref 104),.none,.none,.none,.none,(.int (308) 0),(.int (16) 0),(.str "/claim/cut.py" 309)]),#[]⟩,⟨(.type "frame"),none,.plain,#[(some (.ref 105)),(some (.ref 3)),(some (.ref 102)),none,(some (.str "duskbook.errors" 187)),none,(some (.ref 0))]⟩,tu [],⟨(.type "dict"),none,(.dict #[en P "__module__" 310 (.str "duskbook.errors" 187),en P "__firstlineno__" 314 (.int (16) 313),en P "__static_attributes__" 315 (.ref 107),en P "__doc__" 316 .none] 2),#[]⟩,⟨(.type "type"),none,(.cls ⟨"NoPage",[(.ref 24)],[(.ref 109),(.ref 24),(.type "ValueError"),(.type "Exception"),(.type "BaseException"),(.type "object")],108,"NoPage",true,[],[],false,none,false⟩),#[(some (.ref 100)),none,(some (.str "NoPage" 303)),(some (.str "NoPage" 311)),(some (.builtin "ValueError.__new__")),(some (.bool true))]⟩,⟨(.type "super"),none,(.fields #[(.ref 109),(.ref 109),(.ref 109)]),#[]⟩,⟨(.type "builtin_function_or_method"),none,(.fields #[(.builtin "object.__init_subclass__"),(.ref 109)]),#[]⟩,tu [(.ref 24)],⟨(.type "builtin_function_or_method"),none,(.fields #[(.builtin "type.__prepare__"),(.type "type")]),#[]⟩,⟨(.type "dict"),none,(.dict #[en P "__module__" 326 (.str "duskbook.errors" 187),en P "__qualname__" 328 (.str "NoPaper" 327),en P "__firstlineno__" 330 (.int (18) 329),en P "__static_attributes__" 331 (.ref 119)] 4),#[]⟩,tu [],fl,⟨(.type "code"),none,(.fields #[(.str "NoPaper" 321),(.str "NoPaper" 322),(.str "/claim/cut.py" 323),(.int (18) 0),(.int (0) 0),(.int (0) 0),(.int (0) 0),(.int (0) 0),(.ref 115),(.bool false),(.int (181) 0),(.ref 116),.none,.none,.none,.none,(.int (324) 0),(.int (18) 0),(.str "/claim/cut.py" 325)]),#[]⟩,⟨(.type "frame"),none,.plain,#[(some (.ref 117)),(some (.ref 3)),(some (.ref 114)),none,(some (.str "duskbook.errors" 187)),none,(some (.ref 0))]⟩,tu []]++([⟨(.type "dict"),none,(.dict #[en P "__module__" 326 (.str "duskbook.errors" 187),en P "__firstlineno__" 330 (.int (18) 329),en P "__static_attributes__" 331 (.ref 119),en P "__doc__" 332 .none] 2),#[]⟩,⟨(.type "type"),none,(.cls ⟨"NoPaper",[(.ref 24)],[(.ref 121),(.ref 24),(.type "ValueError"),(.type "Exception"),(.type "BaseException"),(.type "object")],120,"NoPaper",true,[],[],false,none,false⟩),#[(some (.ref 112)),none,(some (.str "NoPaper" 319)),(some (.str "NoPaper" 327)),(some (.builtin "ValueError.__new__")),(some (.bool true))]⟩,⟨(.type "super"),none,(.fields #[(.ref 121),(.ref 121),(.ref 121)]),#[]⟩,⟨(.type "builtin_function_or_method"),none,(.fields #[(.builtin "object.__init_subclass__"),(.ref 121)]),#[]⟩,tu [(.str "eithers" 337),(.str "sums" 338),(.str "ifs" 339),(.str "nots" 340)]]++(dG "is_beacon" 15 25 1 348 125 p0 181 [(.str "thing" 351)]++(dG "checked_beacon" 16 27 1 355 132 p0 181 [(.str "thing" 358)]++(dG "checked_truth" 17 31 1 362 139 p0 181 [(.str "thing" 365)]++(dF "checked_beacons" 18 35 1 369 146 p0 181++(dF "either_made" 19 40 1 375 151 p0 181++(dG "sum_made" 20 47 1 381 156 p0 181 [(.str "rule" 384)]++(dG "if_made" 21 49 1 388 163 p0 181 [(.str "rule" 391),(.str "head" 392)]++(dG "rule_made" 22 54 2 396 170 p0 181 [(.str "kind" 399),(.str "rule" 400)]++(dF "book_made" 23 60 2 404 177 p0 181++(dG "_law_cell" 25 67 2 412 182 p1 181 [(.str "script" 415),(.str "k" 416)]++(dG "_law_mixed" 26 71 2 420 189 p1 181 [(.str "cell" 423),(.str "by" 424)]++(dG "_law_kind" 27 73 1 428 196 p1 181 [(.str "cell" 431)]++(dG "_law_rule" 28 75 3 435 203 p1 181 [(.str "kind" 438),(.str "cell" 439),(.str "many" 440),(.str "left" 441),(.str "size" 442),(.str "sayings" 443),(.str "k" 444),(.str "body" 445)]++(dF "_law_same" 29 94 2 449 210 p1 181++(dG "_law_strange" 30 106 1 455 215 p1 181 [(.str "cell" 458),(.str "far" 459)]++(dG "_law_headless" 31 109 1 463 222 p1 181 [(.str "cell" 466),(.str "thing" 467)]++(dG "_law_no_truth" 32 114 1 471 229 p1 181 [(.str "cell" 474)]++(dG "_law_bad_either" 33 116 2 478 236 p1 181 [(.str "way" 481),(.str "cell" 482),(.str "saying" 483)]++(dG "_law_bad_rule" 34 125 3 487 243 p1 181 [(.str "kind" 490),(.str "way" 491),(.str "cell" 492),(.str "good_row" 493),(.str "twice" 494),(.str "at" 495)]++(dG "_law_kinds" 35 139 2 499 250 p1 181 [(.str "kind" 502),(.str "rules" 503),(.str "kinds" 504),(.str "e" 505),(.str "some" 506),(.str "more" 507)]++(dF "law" 36 148 1 511 257 p1 181))))))))))))))))))))))))
noncomputable def al(P:Params):List Obj:=al0 P
noncomputable def upd(l:List (Nat × Obj))(xs:List Obj):List Obj:=l.foldl (fun xs p=>xs.set p.1 p.2) xs
noncomputable def ev:List Obj->List Obj
 | []=>[]
 | [x]=>[x]
 | x::_::r=>x::ev r
noncomputable def bt:Nat->List Obj->BT
 | 0,_=>.nil
 | _+1,[]=>.nil
 | n+1,x::xs=>.node x (bt n (ev xs)) (bt n (ev xs.tail))
noncomputable abbrev bd:List Stmt:=behindTheImports pg
noncomputable abbrev sl(i n:Nat):List Stmt:=(bd.drop i).take n
noncomputable abbrev env:Env:={ scope:=pg.main.scope,locals:=mainNs,globals:=mainNs,cells:=[],code:=(.ref 13),frame:=some 14 }
noncomputable abbrev cE:Code:=.body bd env
noncomputable abbrev B:List Frame:=[topFrame ⟨0,0,0,0⟩]
noncomputable abbrev ss(n:Nat)(l:Params->List (Nat × Obj))(t:Nat)(w:World)(os:OsState):SharedT:=⟨bt 12 (upd (l w.params) ((al w.params).take n)),n,{},.mk [],boot_drawn,t,os⟩
noncomputable def h0(P:Params):Heap:=⟨⟨upd [(3,boot_o_3 P),(12,fl)] ((al P).take 15)⟩,{}⟩
noncomputable abbrev s0(w:World)(os:OsState):Shared:=⟨h0 w.params,.mk [],boot_drawn,187,os⟩
noncomputable abbrev s1:World->OsState->SharedT:=ss 15 (fun P=>[(3,boot_o_3 P),(12,fl)]) 187
noncomputable abbrev s2:World->OsState->SharedT:=ss 28 (fun P=>[(3,ns P (en P "__name__" 165 (.str "duskbook.errors" 187)) 9 10),(12,ft 3),(24,⟨(.type "type"),none,(.cls ⟨"DuskError",[(.type "ValueError")],[(.ref 24),(.type "ValueError"),(.type "Exception"),(.type "BaseException"),(.type "object")],23,"DuskError",true,[],[],false,none,false⟩),#[(some (.ref 15)),none,(some (.str "DuskError" 189)),(some (.str "DuskError" 197)),(some (.builtin "ValueError.__new__")),(some (.bool true))]⟩)]) 207
noncomputable abbrev s3:World->OsState->SharedT:=ss 40 (fun P=>[(3,ns P (en P "__name__" 165 (.str "duskbook.errors" 187)) 10 11),(12,ft 6),(24,⟨(.type "type"),none,(.cls ⟨"DuskError",[(.type "ValueError")],[(.ref 24),(.type "ValueError"),(.type "Exception"),(.type "BaseException"),(.type "object")],23,"DuskError",true,[],[(.ref 37)],false,none,false⟩),#[(some (.ref 15)),none,(some (.str "DuskError" 189)),(some (.str "DuskError" 197)),(some (.builtin "ValueError.__new__")),(some (.bool true))]⟩)]) 223
noncomputable abbrev s4:World->OsState->SharedT:=ss 52 (fun P=>[(3,ns P (en P "__name__" 165 (.str "duskbook.errors" 187)) 11 12),(12,ft 9),(24,⟨(.type "type"),none,(.cls ⟨"DuskError",[(.type "ValueError")],[(.ref 24),(.type "ValueError"),(.type "Exception"),(.type "BaseException"),(.type "object")],23,"DuskError",true,[],[(.ref 37),(.ref 49)],false,none,false⟩),#[(some (.ref 15)),none,(some (.str "DuskError" 189)),(some (.str "DuskError" 197)),(some (.builtin "ValueError.__new__")),(some (.bool true))]⟩)]) 239
noncomputable abbrev s5:World->OsState->SharedT:=ss 64 (fun P=>[(3,ns P (en P "__name__" 165 (.str "duskbook.errors" 187)) 12 13),(12,ft 12),(24,⟨(.type "type"),none,(.cls ⟨"DuskError",[(.type "ValueError")],[(.ref 24),(.type "ValueError"),(.type "Exception"),(.type "BaseException"),(.type "object")],23,"DuskError",true,[],[(.ref 37),(.ref 49),(.ref 61)],false,none,false⟩),#[(some (.ref 15)),none,(some (.str "DuskError" 189)),(some (.str "DuskError" 197)),(some (.builtin "ValueError.__new__")),(some (.bool true))]⟩)]) 255
noncomputable abbrev s6:World->OsState->SharedT:=ss 76 (fun P=>[(3,ns P (en P "__name__" 165 (.str "duskbook.errors" 187)) 13 14),(12,ft 15),(24,⟨(.type "type"),none,(.cls ⟨"DuskError",[(.type "ValueError")],[(.ref 24),(.type "ValueError"),(.type "Exception"),(.type "BaseException"),(.type "object")],23,"DuskError",true,[],[(.ref 37),(.ref 49),(.ref 61),(.ref 73)],false,none,false⟩),#[(some (.ref 15)),none,(some (.str "DuskError" 189)),(some (.str "DuskError" 197)),(some (.builtin "ValueError.__new__")),(some (.bool true))]⟩)]) 271
noncomputable abbrev s7:World->OsState->SharedT:=ss 88 (fun P=>[(3,ns P (en P "__name__" 165 (.str "duskbook.errors" 187)) 14 15),(12,ft 18),(24,⟨(.type "type"),none,(.cls ⟨"DuskError",[(.type "ValueError")],[(.ref 24),(.type "ValueError"),(.type "Exception"),(.type "BaseException"),(.type "object")],23,"DuskError",true,[],[(.ref 37),(.ref 49),(.ref 61),(.ref 73),(.ref 85)],false,none,false⟩),#[(some (.ref 15)),none,(some (.str "DuskError" 189)),(some (.str "DuskError" 197)),(some (.builtin "ValueError.__new__")),(some (.bool true))]⟩)]) 287
noncomputable abbrev s8:World->OsState->SharedT:=ss 100 (fun P=>[(3,ns P (en P "__name__" 165 (.str "duskbook.errors" 187)) 15 16),(12,ft 21),(24,⟨(.type "type"),none,(.cls ⟨"DuskError",[(.type "ValueError")],[(.ref 24),(.type "ValueError"),(.type "Exception"),(.type "BaseException"),(.type "object")],23,"DuskError",true,[],[(.ref 37),(.ref 49),(.ref 61),(.ref 73),(.ref 85),(.ref 97)],false,none,false⟩),#[(some (.ref 15)),none,(some (.str "DuskError" 189)),(some (.str "DuskError" 197)),(some (.builtin "ValueError.__new__")),(some (.bool true))]⟩)]) 303
noncomputable abbrev s9:World->OsState->SharedT:=ss 112 (fun P=>[(3,ns P (en P "__name__" 165 (.str "duskbook.errors" 187)) 16 17),(12,ft 24),(24,⟨(.type "type"),none,(.cls ⟨"DuskError",[(.type "ValueError")],[(.ref 24),(.type "ValueError"),(.type "Exception"),(.type "BaseException"),(.type "object")],23,"DuskError",true,[],[(.ref 37),(.ref 49),(.ref 61),(.ref 73),(.ref 85),(.ref 97),(.ref 109)],false,none,false⟩),#[(some (.ref 15)),none,(some (.str "DuskError" 189)),(some (.str "DuskError" 197)),(some (.builtin "ValueError.__new__")),(some (.bool true))]⟩)]) 319
noncomputable abbrev s10:World->OsState->SharedT:=ss 151 (fun P=>[(3,ns P (en P "__name__" 165 (.str "duskbook.books" 335)) 25 26),(12,ft 39)]) 375
noncomputable abbrev s11:World->OsState->SharedT:=ss 236 (fun P=>[(3,ns P (en P "__name__" 165 (.str "law_duskbook_k02_no_book" 410)) 38 39),(12,ft 78)]) 478
noncomputable abbrev s12:World->OsState->SharedT:=ss 262 (fun P=>[]) 517
noncomputable def h13(P:Params):Heap:=⟨⟨upd [] ((al P).take 262)⟩,{}⟩
noncomputable abbrev s13(w:World)(os:OsState):Shared:=⟨h13 w.params,.mk [],boot_drawn,517,os⟩
noncomputable abbrev sz(w:World)(os:OsState):Shared:=⟨boot_heap w.params,.mk [],boot_drawn,boot_toks,os⟩
theorem e0:∀w:World,(fun os=>topGo treeTable pg w 11 (some (.ref 6)) 12 (sz w os) (topStub pg))=fun os=>some (s0 w os,⟨denote treeTable cE,cE,⟨0,0,0,0⟩,B⟩):=by
 rw[W.Fast.te15667345088766844465,W.Fast.te14364793385576792824,W.Fast.te11892475500146522536];intro w;kernel_rfl
theorem e1:∀w:World,(fun os=>segRun treeTable pg w 11 (some (.ref 6)) 1 1 (s0 w os) (blockOf bd env cE ⟨0,0,0,0⟩ B))=fun os=>some (.next,(s1 w os).abs,cE,⟨0,0,0,0⟩):=by
 rw[W.Fast.te14374325043358763698,W.Fast.te14364793385576792824];intro w;kernel_rfl
theorem e2:∀w:World,(fun os=>segRunT treeTable pg w 11 (some (.ref 6)) 1 196 (s1 w os) (piecesOf (sl 0 2) env cE ⟨0,0,0,0⟩ B))=fun os=>some (.next,s2 w os,cE,⟨2,0,3,8⟩):=by
 rw[W.Fast.te10110043849684766642,W.Fast.te14364793385576792824];intro w;kernel_rfl
theorem e3:∀w:World,(fun os=>segRunT treeTable pg w 11 (some (.ref 6)) 1 214 (s2 w os) (piecesOf (sl 2 1) env cE ⟨2,0,3,8⟩ B))=fun os=>some (.next,s3 w os,cE,⟨4,0,5,8⟩):=by
 rw[W.Fast.te10110043849684766642,W.Fast.te14364793385576792824];intro w;kernel_rfl
theorem e4:∀w:World,(fun os=>segRunT treeTable pg w 11 (some (.ref 6)) 1 214 (s3 w os) (piecesOf (sl 3 1) env cE ⟨4,0,5,8⟩ B))=fun os=>some (.next,s4 w os,cE,⟨6,0,7,8⟩):=by
 rw[W.Fast.te10110043849684766642,W.Fast.te14364793385576792824];intro w;kernel_rfl
theorem e5:∀w:World,(fun os=>segRunT treeTable pg w 11 (some (.ref 6)) 1 214 (s4 w os) (piecesOf (sl 4 1) env cE ⟨6,0,7,8⟩ B))=fun os=>some (.next,s5 w os,cE,⟨8,0,9,8⟩):=by
 rw[W.Fast.te10110043849684766642,W.Fast.te14364793385576792824];intro w;kernel_rfl
theorem e6:∀w:World,(fun os=>segRunT treeTable pg w 11 (some (.ref 6)) 1 214 (s5 w os) (piecesOf (sl 5 1) env cE ⟨8,0,9,8⟩ B))=fun os=>some (.next,s6 w os,cE,⟨10,0,11,8⟩):=by
 rw[W.Fast.te10110043849684766642,W.Fast.te14364793385576792824];intro w;kernel_rfl
theorem e7:∀w:World,(fun os=>segRunT treeTable pg w 11 (some (.ref 6)) 1 214 (s6 w os) (piecesOf (sl 6 1) env cE ⟨10,0,11,8⟩ B))=fun os=>some (.next,s7 w os,cE,⟨12,0,13,8⟩):=by
 rw[W.Fast.te10110043849684766642,W.Fast.te14364793385576792824];intro w;kernel_rfl
theorem e8:∀w:World,(fun os=>segRunT treeTable pg w 11 (some (.ref 6)) 1 214 (s7 w os) (piecesOf (sl 7 1) env cE ⟨12,0,13,8⟩ B))=fun os=>some (.next,s8 w os,cE,⟨14,0,15,8⟩):=by
 rw[W.Fast.te10110043849684766642,W.Fast.te14364793385576792824];intro w;kernel_rfl
theorem e9:∀w:World,(fun os=>segRunT treeTable pg w 11 (some (.ref 6)) 1 214 (s8 w os) (piecesOf (sl 8 1) env cE ⟨14,0,15,8⟩ B))=fun os=>some (.next,s9 w os,cE,⟨16,0,17,8⟩):=by
 rw[W.Fast.te10110043849684766642,W.Fast.te14364793385576792824];intro w;kernel_rfl
theorem e10:∀w:World,(fun os=>segRunT treeTable pg w 11 (some (.ref 6)) 1 377 (s9 w os) (piecesOf (sl 9 10) env cE ⟨16,0,17,8⟩ B))=fun os=>some (.next,s10 w os,cE,⟨35,0,39,33⟩):=by
 rw[W.Fast.te10110043849684766642,W.Fast.te14364793385576792824];intro w;kernel_rfl
theorem e11:∀w:World,(fun os=>segRunT treeTable pg w 11 (some (.ref 6)) 1 391 (s10 w os) (piecesOf (sl 19 14) env cE ⟨35,0,39,33⟩ B))=fun os=>some (.next,s11 w os,cE,⟨114,0,115,44⟩):=by
 rw[W.Fast.te10110043849684766642,W.Fast.te14364793385576792824];intro w;kernel_rfl
theorem e12:∀w:World,(fun os=>segRunT treeTable pg w 11 (some (.ref 6)) 1 126 (s11 w os) (piecesOf (sl 33 4) env cE ⟨114,0,115,44⟩ B))=fun os=>some (.next,s12 w os,cE,⟨148,0,170,66⟩):=by
 rw[W.Fast.te10110043849684766642,W.Fast.te14364793385576792824];intro w;kernel_rfl
theorem e13:∀w:World,(fun os=>topRun treeTable pg w 11 (some (.ref 6)) 2 (s12 w os).abs ⟨doneF .next,cE,⟨148,0,170,66⟩,B⟩)=fun os=>some (s13 w os):=by
 rw[W.Fast.te14082659384304107361,W.Fast.te14364793385576792824];intro w;kernel_rfl
noncomputable abbrev m13:Nat:=2
noncomputable abbrev t13:List Stmt:=[]
noncomputable abbrev R(w:World)(os:OsState)(m:Nat)(s:Shared)(t:List Stmt)(p:Pos):Prop:=topRun treeTable pg w 11 (some (.ref 6)) m s (restOf t env cE p B)=some (s13 w os)
theorem r13(w:World)(os:OsState):R w os m13 (s12 w os).abs t13 ⟨148,0,170,66⟩:=congrFun (e13 w) os
noncomputable abbrev m12:Nat:=126+m13
noncomputable abbrev t12:List Stmt:=sl 33 4++t13
theorem r12(w:World)(os:OsState):R w os m12 (s11 w os).abs t12 ⟨114,0,115,44⟩:=piece_app (segRun_of (congrFun (e12 w) os)) (r13 w os)
noncomputable abbrev m11:Nat:=391+m12
noncomputable abbrev t11:List Stmt:=sl 19 14++t12
theorem r11(w:World)(os:OsState):R w os m11 (s10 w os).abs t11 ⟨35,0,39,33⟩:=piece_app (segRun_of (congrFun (e11 w) os)) (r12 w os)
noncomputable abbrev m10:Nat:=377+m11
noncomputable abbrev t10:List Stmt:=sl 9 10++t11
theorem r10(w:World)(os:OsState):R w os m10 (s9 w os).abs t10 ⟨16,0,17,8⟩:=piece_app (segRun_of (congrFun (e10 w) os)) (r11 w os)
noncomputable abbrev m9:Nat:=214+m10
noncomputable abbrev t9:List Stmt:=sl 8 1++t10
theorem r9(w:World)(os:OsState):R w os m9 (s8 w os).abs t9 ⟨14,0,15,8⟩:=piece_app (segRun_of (congrFun (e9 w) os)) (r10 w os)
noncomputable abbrev m8:Nat:=214+m9
noncomputable abbrev t8:List Stmt:=sl 7 1++t9
theorem r8(w:World)(os:OsState):R w os m8 (s7 w os).abs t8 ⟨12,0,13,8⟩:=piece_app (segRun_of (congrFun (e8 w) os)) (r9 w os)
noncomputable abbrev m7:Nat:=214+m8
noncomputable abbrev t7:List Stmt:=sl 6 1++t8
theorem r7(w:World)(os:OsState):R w os m7 (s6 w os).abs t7 ⟨10,0,11,8⟩:=piece_app (segRun_of (congrFun (e7 w) os)) (r8 w os)
noncomputable abbrev m6:Nat:=214+m7
noncomputable abbrev t6:List Stmt:=sl 5 1++t7
theorem r6(w:World)(os:OsState):R w os m6 (s5 w os).abs t6 ⟨8,0,9,8⟩:=piece_app (segRun_of (congrFun (e6 w) os)) (r7 w os)
noncomputable abbrev m5:Nat:=214+m6
noncomputable abbrev t5:List Stmt:=sl 4 1++t6
theorem r5(w:World)(os:OsState):R w os m5 (s4 w os).abs t5 ⟨6,0,7,8⟩:=piece_app (segRun_of (congrFun (e5 w) os)) (r6 w os)
noncomputable abbrev m4:Nat:=214+m5
noncomputable abbrev t4:List Stmt:=sl 3 1++t5
theorem r4(w:World)(os:OsState):R w os m4 (s3 w os).abs t4 ⟨4,0,5,8⟩:=piece_app (segRun_of (congrFun (e4 w) os)) (r5 w os)
noncomputable abbrev m3:Nat:=214+m4
noncomputable abbrev t3:List Stmt:=sl 2 1++t4
theorem r3(w:World)(os:OsState):R w os m3 (s2 w os).abs t3 ⟨2,0,3,8⟩:=piece_app (segRun_of (congrFun (e3 w) os)) (r4 w os)
noncomputable abbrev m2:Nat:=196+m3
noncomputable abbrev t2:List Stmt:=sl 0 2++t3
theorem r2(w:World)(os:OsState):R w os m2 (s1 w os).abs t2 ⟨0,0,0,0⟩:=piece_app (segRun_of (congrFun (e2 w) os)) (r3 w os)
theorem tb:bd=t2:=by kernel_rfl
theorem run(w:World)(os:OsState):topRun treeTable pg w 11 (some (.ref 6)) (12+(1+m2)) (sz w os) (topStub pg)=some (s13 w os):=by
 have r:=r2 w os
 unfold R at r
 rw[<-congrArg (fun x=>restOf x env cE ⟨0,0,0,0⟩ B) tb]at r
 exact go_top (congrFun (e0 w) os) (piece_block (congrFun (e1 w) os) r)
theorem op:∀w:World,(fencedOpening treeTable pg w 5280).map (fun s=>(s.heap,s.gens,s.drawn,s.toks))=some (boot_heap w.params,Array.mk [],boot_drawn,boot_toks):=
 boot_open (by kernel_rfl) (by decide) (fun s=>by kernel_rfl)
theorem size:∀w:World,((boot_heap w.params).isNs mainGlobals&&(Array.mk []:Array GenState).size==0,(boot_heap w.params).objs.size,(boot_heap w.params).nsMap mainGlobals "__annotations__")=(true,11,(some (.ref 6))):=by
 rw[W.Fast.te8920871248978507458];intro w;kernel_rfl
noncomputable def K(P:Params):Frag:=(nat_lit 3,ns P (en P "__name__" 165 (.str "law_duskbook_k02_no_book" 410)) 42 43)::(nat_lit 23,⟨(.type "dict"),none,(.dict #[en P "__module__" 196 (.str "duskbook.errors" 187),en P "__firstlineno__" 200 (.int (2) 199),en P "__static_attributes__" 201 (.ref 22),en P "__weakref__" 203 (.ref 25),en P "__doc__" 204 .none] 3),#[]⟩)::(nat_lit 24,⟨(.type "type"),none,(.cls ⟨"DuskError",[(.type "ValueError")],[(.ref 24),(.type "ValueError"),(.type "Exception"),(.type "BaseException"),(.type "object")],23,"DuskError",true,[],[(.ref 37),(.ref 49),(.ref 61),(.ref 73),(.ref 85),(.ref 97),(.ref 109),(.ref 121)],false,none,false⟩),#[(some (.ref 15)),none,(some (.str "DuskError" 189)),(some (.str "DuskError" 197)),(some (.builtin "ValueError.__new__")),(some (.bool true))]⟩)::(nat_lit 36,⟨(.type "dict"),none,(.dict #[en P "__module__" 214 (.str "duskbook.errors" 187),en P "__firstlineno__" 218 (.int (4) 217),en P "__static_attributes__" 219 (.ref 35),en P "__doc__" 220 .none] 2),#[]⟩)::(nat_lit 37,⟨(.type "type"),none,(.cls ⟨"NoBook",[(.ref 24)],[(.ref 37),(.ref 24),(.type "ValueError"),(.type "Exception"),(.type "BaseException"),(.type "object")],36,"NoBook",true,[],[],false,none,false⟩),#[(some (.ref 28)),none,(some (.str "NoBook" 207)),(some (.str "NoBook" 215)),(some (.builtin "ValueError.__new__")),(some (.bool true))]⟩)::(nat_lit 48,⟨(.type "dict"),none,(.dict #[en P "__module__" 230 (.str "duskbook.errors" 187),en P "__firstlineno__" 234 (.int (6) 233),en P "__static_attributes__" 235 (.ref 47),en P "__doc__" 236 .none] 2),#[]⟩)::(nat_lit 49,⟨(.type "type"),none,(.cls ⟨"NoHands",[(.ref 24)],[(.ref 49),(.ref 24),(.type "ValueError"),(.type "Exception"),(.type "BaseException"),(.type "object")],48,"NoHands",true,[],[],false,none,false⟩),#[(some (.ref 40)),none,(some (.str "NoHands" 223)),(some (.str "NoHands" 231)),(some (.builtin "ValueError.__new__")),(some (.bool true))]⟩)::(nat_lit 60,⟨(.type "dict"),none,(.dict #[en P "__module__" 246 (.str "duskbook.errors" 187),en P "__firstlineno__" 250 (.int (8) 249),en P "__static_attributes__" 251 (.ref 59),en P "__doc__" 252 .none] 2),#[]⟩)::(nat_lit 61,⟨(.type "type"),none,(.cls ⟨"Over",[(.ref 24)],[(.ref 61),(.ref 24),(.type "ValueError"),(.type "Exception"),(.type "BaseException"),(.type "object")],60,"Over",true,[],[],false,none,false⟩),#[(some (.ref 52)),none,(some (.str "Over" 239)),(some (.str "Over" 247)),(some (.builtin "ValueError.__new__")),(some (.bool true))]⟩)::(nat_lit 72,⟨(.type "dict"),none,(.dict #[en P "__module__" 262 (.str "duskbook.errors" 187),en P "__firstlineno__" 266 (.int (10) 265),en P "__static_attributes__" 267 (.ref 71),en P "__doc__" 268 .none] 2),#[]⟩)::(nat_lit 73,⟨(.type "type"),none,(.cls ⟨"NoLight",[(.ref 24)],[(.ref 73),(.ref 24),(.type "ValueError"),(.type "Exception"),(.type "BaseException"),(.type "object")],72,"NoLight",true,[],[],false,none,false⟩),#[(some (.ref 64)),none,(some (.str "NoLight" 255)),(some (.str "NoLight" 263)),(some (.builtin "ValueError.__new__")),(some (.bool true))]⟩)::(nat_lit 84,⟨(.type "dict"),none,(.dict #[en P "__module__" 278 (.str "duskbook.errors" 187),en P "__firstlineno__" 282 (.int (12) 281),en P "__static_attributes__" 283 (.ref 83),en P "__doc__" 284 .none] 2),#[]⟩)::(nat_lit 85,⟨(.type "type"),none,(.cls ⟨"NoneSettled",[(.ref 24)],[(.ref 85),(.ref 24),(.type "ValueError"),(.type "Exception"),(.type "BaseException"),(.type "object")],84,"NoneSettled",true,[],[],false,none,false⟩),#[(some (.ref 76)),none,(some (.str "NoneSettled" 271)),(some (.str "NoneSettled" 279)),(some (.builtin "ValueError.__new__")),(some (.bool true))]⟩)::(nat_lit 96,⟨(.type "dict"),none,(.dict #[en P "__module__" 294 (.str "duskbook.errors" 187),en P "__firstlineno__" 298 (.int (14) 297),en P "__static_attributes__" 299 (.ref 95),en P "__doc__" 300 .none] 2),#[]⟩)::(nat_lit 97,⟨(.type "type"),none,(.cls ⟨"NoTable",[(.ref 24)],[(.ref 97),(.ref 24),(.type "ValueError"),(.type "Exception"),(.type "BaseException"),(.type "object")],96,"NoTable",true,[],[],false,none,false⟩),#[(some (.ref 88)),none,(some (.str "NoTable" 287)),(some (.str "NoTable" 295)),(some (.builtin "ValueError.__new__")),(some (.bool true))]⟩)::(nat_lit 108,⟨(.type "dict"),none,(.dict #[en P "__module__" 310 (.str "duskbook.errors" 187),en P "__firstlineno__" 314 (.int (16) 313),en P "__static_attributes__" 315 (.ref 107),en P "__doc__" 316 .none] 2),#[]⟩)::(nat_lit 109,⟨(.type "type"),none,(.cls ⟨"NoPage",[(.ref 24)],[(.ref 109),(.ref 24),(.type "ValueError"),(.type "Exception"),(.type "BaseException"),(.type "object")],108,"NoPage",true,[],[],false,none,false⟩),#[(some (.ref 100)),none,(some (.str "NoPage" 303)),(some (.str "NoPage" 311)),(some (.builtin "ValueError.__new__")),(some (.bool true))]⟩)::(nat_lit 120,⟨(.type "dict"),none,(.dict #[en P "__module__" 326 (.str "duskbook.errors" 187),en P "__firstlineno__" 330 (.int (18) 329),en P "__static_attributes__" 331 (.ref 119),en P "__doc__" 332 .none] 2),#[]⟩)::(nat_lit 121,⟨(.type "type"),none,(.cls ⟨"NoPaper",[(.ref 24)],[(.ref 121),(.ref 24),(.type "ValueError"),(.type "Exception"),(.type "BaseException"),(.type "object")],120,"NoPaper",true,[],[],false,none,false⟩),#[(some (.ref 112)),none,(some (.str "NoPaper" 319)),(some (.str "NoPaper" 327)),(some (.builtin "ValueError.__new__")),(some (.bool true))]⟩)::(nat_lit 124,tu [(.str "eithers" 337),(.str "sums" 338),(.str "ifs" 339),(.str "nots" 340)])::(nat_lit 130,oC "is_beacon" 348 25 1 125 (.ref 127) (.ref 128) 129 181 352)::(nat_lit 131,oF "is_beacon" 15 p0 130)::(nat_lit 137,oC "checked_beacon" 355 27 1 132 (.ref 134) (.ref 135) 136 181 359)::(nat_lit 138,oF "checked_beacon" 16 p0 137)::(nat_lit 144,oC "checked_truth" 362 31 1 139 (.ref 141) (.ref 142) 143 181 366)::(nat_lit 145,oF "checked_truth" 17 p0 144)::(nat_lit 149,oC "checked_beacons" 369 35 1 146 .none .none 148 181 372)::(nat_lit 150,oF "checked_beacons" 18 p0 149)::(nat_lit 154,oC "either_made" 375 40 1 151 .none .none 153 181 378)::(nat_lit 155,oF "either_made" 19 p0 154)::(nat_lit 161,oC "sum_made" 381 47 1 156 (.ref 158) (.ref 159) 160 181 385)::(nat_lit 162,oF "sum_made" 20 p0 161)::(nat_lit 168,oC "if_made" 388 49 1 163 (.ref 165) (.ref 166) 167 181 393)::(nat_lit 169,oF "if_made" 21 p0 168)::(nat_lit 175,oC "rule_made" 396 54 2 170 (.ref 172) (.ref 173) 174 181 401)::(nat_lit 176,oF "rule_made" 22 p0 175)::(nat_lit 180,oC "book_made" 404 60 2 177 .none .none 179 181 407)::(nat_lit 181,oF "book_made" 23 p0 180)::(nat_lit 187,oC "_law_cell" 412 67 2 182 (.ref 184) (.ref 185) 186 181 417)::(nat_lit 188,oF "_law_cell" 25 p1 187)::(nat_lit 194,oC "_law_mixed" 420 71 2 189 (.ref 191) (.ref 192) 193 181 425)::(nat_lit 195,oF "_law_mixed" 26 p1 194)::(nat_lit 201,oC "_law_kind" 428 73 1 196 (.ref 198) (.ref 199) 200 181 432)::(nat_lit 202,oF "_law_kind" 27 p1 201)::(nat_lit 208,oC "_law_rule" 435 75 3 203 (.ref 205) (.ref 206) 207 181 446)::(nat_lit 209,oF "_law_rule" 28 p1 208)::(nat_lit 213,oC "_law_same" 449 94 2 210 .none .none 212 181 452)::(nat_lit 214,oF "_law_same" 29 p1 213)::(nat_lit 220,oC "_law_strange" 455 106 1 215 (.ref 217) (.ref 218) 219 181 460)::(nat_lit 221,oF "_law_strange" 30 p1 220)::(nat_lit 227,oC "_law_headless" 463 109 1 222 (.ref 224) (.ref 225) 226 181 468)::(nat_lit 228,oF "_law_headless" 31 p1 227)::(nat_lit 234,oC "_law_no_truth" 471 114 1 229 (.ref 231) (.ref 232) 233 181 475)::(nat_lit 235,oF "_law_no_truth" 32 p1 234)::(nat_lit 241,oC "_law_bad_either" 478 116 2 236 (.ref 238) (.ref 239) 240 181 484)::(nat_lit 242,oF "_law_bad_either" 33 p1 241)::(nat_lit 248,oC "_law_bad_rule" 487 125 3 243 (.ref 245) (.ref 246) 247 181 496)::(nat_lit 249,oF "_law_bad_rule" 34 p1 248)::(nat_lit 255,oC "_law_kinds" 499 139 2 250 (.ref 252) (.ref 253) 254 181 508)::(nat_lit 256,oF "_law_kinds" 35 p1 255)::(nat_lit 260,oC "law" 511 148 1 257 .none .none 259 181 514)::(nat_lit 261,oF "law" 36 p1 260)::[]
noncomputable def hk:Hook:=kHook K (3::23::24::36::37::48::49::60::61::72::73::84::85::96::97::108::109::120::121::124::130::131::137::138::144::145::149::150::154::155::161::162::168::169::175::176::180::181::187::188::194::195::201::202::208::209::213::214::220::221::227::228::234::235::241::242::248::249::255::256::260::261::[]) (fun _=>by kernel_rfl)
noncomputable def Q:Program:={ pg with main:={ pg.main with body:=[Lw.top 36] } }
noncomputable def ls:List Str:=(["DuskError","NoBook","NoHands","Over","NoLight","NoneSettled","NoTable","NoPage","NoPaper","KINDS","BEACON_COUNT","MOST_RULES","MOST_SAYINGS","is_beacon","checked_beacon","checked_truth","checked_beacons","either_made","sum_made","if_made","rule_made","book_made","_law_cell","_law_mixed","_law_kind","_law_rule","_law_same","_law_strange","_law_headless","_law_no_truth","_law_bad_either","_law_bad_rule","_law_kinds"]).map Str.ofString
noncomputable abbrev Xt(s:Shared):Bool:=xlAt Q [] s&&recOk (RowW.records (OpenRow.toRowW PySem.Challenge.rw_duskbook_k02_no_book.row)) s
theorem Yyw:∀w:World,(fun os=>((staticsOk (importedModules pg.main.body) (boot_heap w.params) (h13 w.params)&&namesBound pg (h13 w.params)&&gensDone (s13 w os)&&laidKept (boot_heap w.params) (h13 w.params)),openSeen Q ls (importedModules pg.main.body) Xt true (s13 w os),Hook.obs hk (s13 w os)))=fun _=>(true,openGood Q ls,Hook.val hk w):=by
 rw[W.Fast.te5923862056798008813,W.Fast.te4187177175401517315];intro w;kernel_rfl
theorem left:LeftO pg Q ls Xt (Hook.obs hk) (Hook.val hk) 5280:=LeftO.of_pieces (H₁:=h13) (M:=12+(1+m2)) op size run (by decide) Yyw
end Op
open PySem PySem.W PyProof.Rows
set_option maxRecDepth 100000 in
theorem PySem.Challenge.cw_duskbook_k02_no_book_holds : PySem.Challenge.rw_duskbook_k02_no_book.Holds := by
 w_on;o_law
 refine holds_open (q:=Op.Q) (loose:=Op.ls) (Xt:=Op.Xt) (XP:=XL Op.Q []) (Yf:=Hook.obs Op.hk) (Ya:=Hook.val Op.hk) (YP:=InK Op.K) (N:=5280) Op.left (Hook.of Op.hk) (Hook.keeps Op.hk) (fun s e=>xl_of s (Bool.and_eq_true_iff.mp e).1) XL.keeps (by rfl) (by rfl) (by rfl) (fun s e=>recFacts_of (Bool.and_eq_true_iff.mp e).2) (by rfl) (by assumption) (by decide +kernel) ⟨rfl,rfl,rfl,rfl,rfl,by decide +kernel⟩ ?hw ?hc
 (case hw=>w_witness2)
 k_fill
 refine Lw.walk Lw.law_true (l:=PySem.Challenge.rw_duskbook_k02_no_book) rfl rfl (K:=Op.K) (fun w h Y=>Y) ?F
 case F=>
  intro w mg fa h KX G hmg
  refine' Lw.all_mk KX G hmg ?_ ?_ ?_ ?_ ?_ ?_ ?_ ?_ ?_ ?_ ?_ ?_ ?_ ?_ ?_ ?_ ?_ ?_ ?_ ?_ ?_ ?_ ?_ ?_ ?_ ?_ ?_ ?_ ?_ ?_ ?_ ?_ ?_ ?_ ?_ ?_ ?_ ?_ ?_ ?_ ?_ ?_ ?_ ?_ ?_ ?_ ?_ ?_ ?_ ?_ ?_ ?_
  all_goals (try (first | (refine' M.xk_mk ?a ?b ?c ?d ?e ?f;(case a=>k_is);(case b=>k_is);(case c=>kernel_rfl);(case d=>kernel_rfl);(case e=>kernel_rfl);(case f=>kernel_rfl)) | (refine' Lw.fk_mk ?a ?l ?c ?k;(case a=>k_is);(case l=>k_is);(case c=>k_is);(case k=>k_is)) | k_is))
