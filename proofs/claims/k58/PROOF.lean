import PyProof.Rows.All
import Wide.All
import OpenK.AllK
import Wide.FinOn
import Lean
import PyProof.EqAt
import PyProof.EqKinds
import PyProof.TupleCall
import PySem.Challenge.RW_duskbook_k58_papers_written
set_option Elab.async false
set_option linter.all false
set_option maxRecDepth 100000
abbrev fsc(l:List (PySem.Str × PySem.NameKind)):PySem.Scope:={ kind:=.function,names:=l,isGenerator:=false,isCoroutine:=false,more:=[] }
theorem qa{α β:Type _}{o:Option α}{f:α->Option β}{b:β}(h:o.bind f=some b):∃a,o=some a/\f a=some b:=Option.bind_eq_some_iff.mp h
theorem qc{α β:Type _}{o:Option α}{f:α->β}{b:β}(h:o.map f=some b):∃a,o=some a/\f a=b:=Option.map_eq_some_iff.mp h
def qd:=@Option.bind_some
def qe:=@PySem.Heap.get?_push_of_some
def qf:=@List.length_map
def qg:=@List.mem_cons_of_mem
def qh:=@List.mem_cons_self
def qi:=@Bool.false_ne_true
def qj:=@List.size_toArray
def qk:=@PySem.Heap.lt_size
def ql:=@Nat.ne_of_lt
theorem qm{α:Type _}{l:List α}{i:Nat}{a:α}(h:l[i]?=some a):∃h:i < l.length,l[i]=a:=List.getElem?_eq_some_iff.mp h
def qo:=@PySem.Heap.get?_push_size
def qp:=@List.getElem?_eq_getElem
def qr:=@List.length_cons
theorem qs{α:Type _}{a b:α}{l:List α}(h:a∈b::l):a=b\/a∈l:=List.mem_cons.mp h
def qt:=@Nat.le_refl
theorem qu{α:Type _}{a:α}{s t:List α}(h:a∈s++t):a∈s\/a∈t:=List.mem_append.mp h
def qv:=@List.length_append
def qw:=@Nat.le_trans
def qx:=@List.getElem?_set_ne
def qy:=@List.map_cons
def qz:=@Nat.lt_of_lt_of_le
def Qa:=@List.getElem?_map
def Qb:=@List.lookup_cons
def Qc:=@List.nil_append
def Qd:=@List.append_assoc
def Qe:=@List.mem_append_right
set_option maxHeartbeats 4000000
noncomputable section
namespace L2
open PySem PySem.Spec PyProof.Rows
abbrev Key:=Sum Int Str
def Ypw:Key->Value->Bool
 | .inl k,v=>Value.isInt k v
 | .inr x,v=>Value.isStrOf x v
def keyH(w:World):Key->Int
 | .inl k=>hashInt k
 | .inr x=>hashStr w x
theorem Yal:∀{k:Key} {v:Value},Ypw k v=true->(∃i t,k=Sum.inl i/\v=Value.int i t)\/(∃x t,k=Sum.inr x/\v=Value.str x t)
 | .inl i,v,h=>by
   obtain⟨t,e⟩:=Value.isInt_shape (k:=i) (v:=v) h
   exact .inl ⟨i,t,rfl,e⟩
 | .inr x,v,h=>by
   obtain⟨t,e⟩:=Value.isStrOf_shape (x:=x) (v:=v) h
   exact .inr ⟨x,t,rfl,e⟩
theorem Ypx(a b:Int):decide ((Sum.inl a:Key)=Sum.inl b)=(a==b):=by
 by_cases e:a=b
 ·subst e;simp
 ·have h:¬(Sum.inl a:Key)=Sum.inl b:=fun q=>e (Sum.inl.inj q)
  rw[decide_eq_false h]
  exact(beq_eq_false_iff_ne.mpr e).symm
theorem Ypy(a b:Str):decide ((Sum.inr a:Key)=Sum.inr b)=decide (a=b):=by
 by_cases e:a=b
 ·subst e;simp
 ·have h:¬(Sum.inr a:Key)=Sum.inr b:=fun q=>e (Sum.inr.inj q)
  rw[decide_eq_false h,decide_eq_false e]
theorem Ypz(a:Int)(b:Str):decide ((Sum.inl a:Key)=Sum.inr b)=false:=decide_eq_false (fun q=>nomatch q)
theorem Yp0(a:Str)(b:Int):decide ((Sum.inr a:Key)=Sum.inl b)=false:=decide_eq_false (fun q=>nomatch q)
def Yhx(prog:Program)(w:World):KeyKind prog w Key where
 is:=Ypw
 hash:=keyH w
 inj:=fun v a b ha hb=>by
  rcases Yal ha with⟨i,t,rfl,rfl⟩ | ⟨x,t,rfl,rfl⟩
  ·rcases Yal hb with⟨j,u,rfl,e⟩ | ⟨y,u,rfl,e⟩
   ·injection e with e1 _;rw[e1]
   ·exact nomatch e
  ·rcases Yal hb with⟨j,u,rfl,e⟩ | ⟨y,u,rfl,e⟩
   ·exact nomatch e
   ·injection e with e1 _;rw[e1]
 byValue:=fun k v h=>by
  rcases Yal h with⟨i,t,rfl,rfl⟩ | ⟨x,t,rfl,rfl⟩<;>rfl
 pyHash:=fun hv h=>by
  rcases Yal hv with⟨i,t,rfl,rfl⟩ | ⟨x,t,rfl,rfl⟩
  ·exact wpAny_pyHash_int h
  ·exact wpAny_pyHash_str h
 eqBool:=fun hu hv h=>by
  rcases Yal hu with⟨i,t,rfl,rfl⟩ | ⟨x,t,rfl,rfl⟩
  ·rcases Yal hv with⟨j,u,rfl,rfl⟩ | ⟨y,u,rfl,rfl⟩
   ·rw[Ypx]at h;exact wpAny_eqBool_int h
   ·rw[Ypz]at h;exact SeqAt.EqAt.int_str i t y u _ _ _ _ h
  ·rcases Yal hv with⟨j,u,rfl,rfl⟩ | ⟨y,u,rfl,rfl⟩
   ·rw[Yp0]at h;exact SeqAt.EqAt.str_int x t j u _ _ _ _ h
   ·rw[Ypy]at h;exact wpAny_eqBool_str h
 «strs»:=fun k x t v h=>by
  rcases Yal h with⟨i,u,rfl,e⟩ | ⟨y,u,rfl,e⟩
  ·exact nomatch e
  ·injection e with e1 _
   subst e1
   cases v<;>rfl
end L2
namespace L2
open PySem PySem.Spec PyProof.Rows
inductive V where
 | non | bl (b:Bool) | int (i:Int) | str (x:Str) | byt (b:Array UInt8) | flt (b:UInt64) | ref (a:Addr) | ty (n:String)
 deriving DecidableEq
def RelV:V->Value->Prop
 | .non,u=>u=Value.none
 | .bl b,u=>u=Value.bool b
 | .int i,u=>∃t,u=Value.int i t
 | .str x,u=>∃t,u=Value.str x t
 | .byt b,u=>∃t,u=Value.bytes b t
 | .flt b,u=>∃t,u=Value.float b t
 | .ref a,u=>u=Value.ref a
 | .ty n,u=>u=Value.type n
abbrev Vals:List V->List Value->Prop:=Paired RelV
theorem Vals.length{xs:List V}{us:List Value}(r:Vals xs us):xs.length=us.length:=Paired.length r
theorem Vals.get:∀{xs:List V} {us:List Value} {i:Nat} {x:V},Vals xs us->xs[i]?=some x->∃u,us[i]?=some u/\RelV x u
 | _,_,_,_,.nil,e=>by simp at e
 | _,_,0,_,.cons r _,e=>by simp at e;subst e;exact⟨_,rfl,r⟩
 | _,_,i+1,x,.cons _ t,e=>by
   obtain⟨u,h1,h2⟩:=Vals.get (i:=i) (x:=x) t (by simpa using e)
   exact⟨u,by simpa using h1,h2⟩
theorem Vals.append:∀{xs ys:List V} {us ws:List Value},Vals xs us->Vals ys ws->Vals (xs++ys) (us++ws)
 | _,_,_,_,.nil,s=>s
 | _,_,_,_,.cons r t,s=>.cons r (Vals.append t s)
theorem Vals.take:∀{xs:List V} {us:List Value} (n:Nat),Vals xs us->Vals (xs.take n) (us.take n)
 | _,_,0,_=>.nil
 | _,_,_+1,.nil=>.nil
 | _,_,n+1,.cons r t=>.cons r (Vals.take n t)
theorem Vals.drop:∀{xs:List V} {us:List Value} (n:Nat),Vals xs us->Vals (xs.drop n) (us.drop n)
 | _,_,0,r=>r
 | _,_,_+1,.nil=>.nil
 | _,_,n+1,.cons _ t=>Vals.drop n t
def RelO:Option V->Option Value->Prop
 | some v,some u=>RelV v u
 | none,none=>True
 | _,_=>False
def KV{κ:Type}:List (κ × V)->List (κ × Value)->Prop:=Paired fun(p:κ × V) (q:κ × Value)=>p.1=q.1/\RelV p.2 q.2
def kV:Key->V
 | .inl i=>.int i
 | .inr x=>.str x
inductive HO where
 | lst (xs:List V)
 | tup (xs:List V)
 | dK (kvs:List (Key × V)) | dT (kvs:List (List Key × V))
 | set (S:Int->Bool) (n:Nat)
 | ins (C dx:Addr) (fs:List (Str × V))
 | own (x:Addr)
 | xd (fs:List (Str × V))
 | met (f x:Addr)
 | rng (lo hi:Int)
 | frz (o:Obj) (u:HO)
 | tbl (ps:Array Value)
 | ext (φ:Heap->Prop)
abbrev Hp:=Addr->Option HO
def upd(H:Hp)(a:Addr)(o:HO):Hp:=fun b=>if b=a then some o else H b
theorem Ym{H:Hp}{a:Addr}{o:HO}:upd H a o a=some o:=by unfold upd;rw[if_pos rfl]
theorem Yj{H:Hp}{a b:Addr}{o:HO}(h:b≠a):upd H a o b=H b:=by unfold upd;rw[if_neg h]
theorem Yn{H:Hp}{a b:Addr}{o:HO}(h:H a=some o)(h':H b=none):a≠b:=by
 intro e;subst e;rw[h]at h';cases h'
section
variable (P:Program) (w:World)
def ObjOk(H:Hp)(h:Heap)(a:Addr):HO->Prop
 | .lst xs=>xs.length<=sizeLine/\∃(its:List Value) (n:Nat),Vals xs its/\h.get? a=some { cls:=.type "list",data:=.seq its.toArray n }
 | .tup xs=>xs.length<=sizeLine/\∃its:List Value,Vals xs its/\IsTup h a its.toArray
 | .dK kvs=>kvs.length<=sizeLine/\(a==sysModules)=false/\∃vs,KV kvs vs/\h.DictOf (Yhx P w) a vs
 | .dT kvs=>kvs.length<=sizeLine/\(a==sysModules)=false/\∃xs:List (List Key × Addr × Value),
  Paired (fun(p:List Key × V) (q:List Key × Addr × Value)=>p.1=q.1/\H q.2.1=some (.tup (p.1.map kV))/\RelV p.2 q.2.2) kvs xs/\
  ∃o es ep,h.get? a=some o/\o.ExactDict/\o.data=.dict es ep/\es.toList=xs.map (entryOfKey (tupleKind (Yhx P w)))/\(xs.map (·.1)).Nodup
 | .set S n=>h.SetOf (intKind P w) a S n
 | .ins C dx fs=>H dx=some (.own a)/\fs.length<=1000/\dx≠a/\h.get? a=some (W.instObj C dx)/\
  ∃mA,h.Ns1 dx mA/\(∀f,RelO (fs.lookup f) (mA f))/\PySem.Within mA (fs.map (·.1))
 | .own _=>∃o,h.get? a=some o
 | .xd fs=>∃mA,h.Ns1 a mA/\∀f,RelO (fs.lookup f) (mA f)
 | .rng lo hi=>∃t u v,h.get? a=some { cls:=.type "range",data:=.fields #[.int lo t,.int hi u,.int 1 v] }
 | .frz o u=>h.get? a=some o/\ObjOk H h a u
 | .tbl ps=>h.get? a=some { cls:=.none,data:=.fields ps }
 | .met f x=>h.get? a=some (W.methodObj (.ref f) (.ref x))
 | .ext φ=>φ h/\(∃o,h.get? a=some o)/\∀h1 h2:Heap,φ h1->(∀o,h1.get? a=some o->h2.get? a=some o)->φ h2
def HOk(H:Hp)(h:Heap):Prop:=∀a o,H a=some o->ObjOk P w H h a o
end
section
variable {P:Program} {w:World} {H H':Hp} {h h':Heap} {a:Addr} {o:HO}
theorem ObjOk.lt(x:ObjOk P w H h a o):a < h.objs.size:=by
 cases o with
 | lst xs=>obtain⟨_,_,_,_,e⟩:=x;exact qk e
 | tup xs=>obtain⟨_,_,_,p⟩:=x;exact p.lt
 | dK kvs=>obtain⟨_,_,_,_,o,_,_,e,_⟩:=x;exact qk e
 | dT kvs=>obtain⟨_,_,_,_,o,_,_,e,_⟩:=x;exact qk e
 | set S n=>obtain⟨o,_,_,_,e,_⟩:=x;exact qk e
 | ins C dx fs=>obtain⟨_,_,_,e,_⟩:=x;exact qk e
 | own y=>obtain⟨_,e⟩:=x;exact qk e
 | xd fs=>obtain⟨_,⟨_,_,_,e,_⟩,_⟩:=x;exact qk e
 | rng lo hi=>obtain⟨_,_,_,e⟩:=x;exact qk e
 | frz ob u=>obtain⟨e,_⟩:=x;exact qk e
 | tbl ps=>exact qk (show h.get? a=some _ from x)
 | met f y=>exact qk (show h.get? a=some _ from x)
 | ext φ=>obtain⟨_,⟨_,e⟩,_⟩:=x;exact qk e
theorem Paired.mapP{α β:Type}{F G:α->β->Prop}:∀{l₁:List α} {l₂:List β},Paired F l₁ l₂->(∀a b,F a b->G a b)->Paired G l₁ l₂
 | _,_,.nil,_=>.nil
 | _,_,.cons r t,f=>.cons (f _ _ r) (Paired.mapP t f)
theorem ObjOk.stay(x:ObjOk P w H h a o)(k:∀b u,(b=a\/H b=some (.own a))->h.get? b=some u->h'.get? b=some u)
 (ho:∀b,H b=some (.own a)->H' b=some (.own a)) (ht:∀b xs,H b=some (.tup xs)->H' b=some (.tup xs)):ObjOk P w H' h' a o:=by
 induction o with
 | lst xs=>obtain⟨z,its,n,r,e⟩:=x;exact⟨z,its,n,r,k _ _ (.inl rfl) e⟩
 | tup xs=>obtain⟨z,its,r,ob,e,c⟩:=x;exact⟨z,its,r,ob,k _ _ (.inl rfl) e,c⟩
 | dK kvs=>obtain⟨z,y,vs,r,ob,es,ep,e,c⟩:=x;exact⟨z,y,vs,r,ob,es,ep,k _ _ (.inl rfl) e,c⟩
 | dT kvs=>
   obtain⟨z,y,xs,r,ob,es,ep,e,c⟩:=x
   exact⟨z,y,xs,Paired.mapP r fun p q z=>⟨z.1,ht _ _ z.2.1,z.2.2⟩,ob,es,ep,k _ _ (.inl rfl) e,c⟩
 | set S n=>obtain⟨ob,es,ep,t,e,c⟩:=x;exact⟨ob,es,ep,t,k _ _ (.inl rfl) e,c⟩
 | ins C dx fs=>
   obtain⟨d,z,ne,e,mA,⟨od,es,ep,e2,c⟩,r⟩:=x
   exact⟨ho _ d,z,ne,k _ _ (.inl rfl) e,mA,⟨od,es,ep,k _ _ (.inr d) e2,c⟩,r⟩
 | own y=>obtain⟨ob,e⟩:=x;exact⟨ob,k _ _ (.inl rfl) e⟩
 | xd fs=>obtain⟨mA,⟨od,es,ep,e,c⟩,r⟩:=x;exact⟨mA,⟨od,es,ep,k _ _ (.inl rfl) e,c⟩,r⟩
 | rng lo hi=>obtain⟨t,u,v,e⟩:=x;exact⟨t,u,v,k _ _ (.inl rfl) e⟩
 | frz ob u ih=>obtain⟨e,q⟩:=x;exact⟨k _ _ (.inl rfl) e,ih q⟩
 | tbl ps=>
   have e:h.get? a=some { cls:=.none,data:=.fields ps }:=x
   show h'.get? a=some { cls:=.none,data:=.fields ps }
   exact k a _ (.inl rfl) e
 | met f y=>
   have e:h.get? a=some (W.methodObj (.ref f) (.ref y)):=x
   show h'.get? a=some (W.methodObj (.ref f) (.ref y))
   exact k a _ (.inl rfl) e
 | ext φ=>obtain⟨p,⟨o,e⟩,st⟩:=x;exact⟨st _ _ p fun o q=>k _ _ (.inl rfl) q,⟨o,k _ _ (.inl rfl) e⟩,st⟩
theorem HOk.lt(x:HOk P w H h)(e:H a=some o):a < h.objs.size:=(x a o e).lt
theorem HOk.fresh(x:HOk P w H h)(e:h.objs.size<=a):H a=none:=by
 cases q:H a with
 | none=>rfl
 | some u=>exact absurd (qz (x.lt q) e) (Nat.lt_irrefl _)
theorem HOk.kept(x:HOk P w H h)(k:∀b u,h.get? b=some u->h'.get? b=some u):HOk P w H h':=fun a o e=>
 (x a o e).stay (fun b u _ q=>k b u q) (fun _ q=>q) fun _ _ q=>q
theorem HOk.laid(x:HOk P w H h)(k:∀b u,h.get? b=some u->h'.get? b=some u)(hp:h.objs.size<=a)(new:ObjOk P w (upd H a o) h' a o):HOk P w (upd H a o) h':=fun b u e=>by
 have hn:=x.fresh hp
 by_cases hb:b=a
 ·subst hb;rw[Ym]at e;cases e;exact new
 ·rw[Yj hb]at e
  exact(x b u e).stay (fun c v _ q=>k c v q) (fun c q=>by rw[Yj (Yn q hn)];exact q) fun c xs q=>by rw[Yj (Yn q hn)];exact q
end
def Rd(H:Hp)(a:Addr)(u:HO):Prop:=H a=some u\/∃o,H a=some (.frz o u)
theorem Rd.ok{P:Program}{w:World}{H:Hp}{h:Heap}{a:Addr}{u:HO}(r:Rd H a u)(x:HOk P w H h):ObjOk P w H h a u:=by
 rcases r with r | ⟨o,r⟩
 ·exact x a u r
 ·obtain⟨_,q⟩:=x a _ r
  exact q
def Mut:Option HO->Prop
 | some (.lst _)=>True
 | some (.dK _)=>True
 | some (.dT _)=>True
 | some (.set _ _)=>True
 | some (.ins _ _ _)=>True
 | some (.ext _)=>True
 | _=>False
section
variable {P:Program} {w:World} {H:Hp} {h h':Heap} {x e:Addr} {o':HO}
theorem HOk.write(ok:HOk P w H h)(mu:Mut (H x))(he:e=x\/H e=some (.own x))(k:∀b u,b≠e->h.get? b=some u->h'.get? b=some u)(heo:∃u,h'.get? e=some u)
 (new:ObjOk P w (upd H x o') h' x o'):HOk P w (upd H x o') h':=fun b u q=>by
 have nown:∀c y,H c=some (.own y)->c≠x:=fun c y r z=>by subst z;rw[r]at mu;exact mu
 have ntup:∀c xs,H c=some (.tup xs)->c≠x:=fun c xs r z=>by subst z;rw[r]at mu;exact mu
 by_cases hb:b=x
 ·subst hb;rw[Ym]at q;cases q;exact new
 ·rw[Yj hb]at q
  by_cases hbe:b=e
  ·have q':H b=some (.own x):=by
    rcases he with z | z
    ·exact absurd (hbe.trans z) hb
    ·rw[hbe];exact z
   rw[q]at q';cases q'
   obtain⟨v,hv⟩:=heo
   exact⟨v,by rw[hbe];exact hv⟩
  ·refine(ok b u q).stay (fun c v hc r=>k c v ?_ r) (fun c r=>by rw[Yj (nown c b r)];exact r) fun c xs r=>by rw[Yj (ntup c xs r)];exact r
   rcases hc with rfl | hc
   ·exact hbe
   ·rintro rfl
    rcases he with z | z
    ·exact nown c b hc z
    ·rw[hc]at z;cases z;exact hb rfl
end
structure Un(fs ex:List Addr)(H H':Hp)(h h':Heap):Prop where
 keep:∀b o,h.get? b=some o->H b=none->b∉fs->b∉ex->h'.get? b=some o
 slot:∀b o,h.get? b=some o->H b=none->b∈fs->b∉ex->∃sl,h'.get? b=some { o with slots:=sl }
 free:∀b o,h.get? b=some o->H b=none->b∉ex->H' b=none
 there:∀b o,h.get? b=some o->b∉ex->∃o',h'.get? b=some o'
 tups:∀b xs,H b=some (.tup xs)->H' b=some (.tup xs)
 frzs:∀b o u,H b=some (.frz o u)->H' b=some (.frz o u)
 tbls:∀b ps,H b=some (.tbl ps)->∃more,H' b=some (.tbl (ps++more))
section
variable {fs fs' ex ex':List Addr} {H H1 H2:Hp} {h h1 h2 h':Heap} {a x e:Addr} {o:HO}
theorem Un.any(u:Un fs ex H H1 h h1){b:Addr}{ob:Obj}(q:h.get? b=some ob)(n:H b=none)(hx:b∉ex):∃sl,h1.get? b=some { ob with slots:=sl }:=by
 by_cases hb:b∈fs
 ·exact u.slot b ob q n hb hx
 ·exact⟨ob.slots,u.keep b ob q n hb hx⟩
theorem Un.kept(k:∀b u,h.get? b=some u->h'.get? b=some u):Un fs ex H H h h':=
 ⟨fun b ob q _ _ _=>k b ob q,fun b ob q _ _ _=>⟨ob.slots,k b ob q⟩,fun _ _ _ n _=>n,fun b ob q _=>⟨ob,k b ob q⟩,fun _ _ q=>q,fun _ _ _ q=>q,fun _ ps q=>⟨#[],by rw[q];simp⟩⟩
theorem Un.refl:Un fs ex H H h h:=Un.kept fun _ _ q=>q
theorem Un.laid(k:∀b u,h.get? b=some u->h'.get? b=some u)(hp:h.objs.size<=a)(hn:H a=none):Un fs ex H (upd H a o) h h' where
 keep:=fun b u q _ _ _=>k b u q
 slot:=fun b u q _ _ _=>⟨u.slots,k b u q⟩
 free:=fun b u q n _=>by rw[Yj (ql (qz (qk q) hp))];exact n
 there:=fun b u q _=>⟨u,k b u q⟩
 tups:=fun b xs q=>by rw[Yj (Yn q hn)];exact q
 frzs:=fun b u xs q=>by rw[Yj (Yn q hn)];exact q
 tbls:=fun b ps q=>⟨#[],by rw[Yj (Yn q hn),q];simp⟩
theorem Un.write(mu:Mut (H x))(he:e=x\/H e=some (.own x))(k:∀b u,b≠e->h.get? b=some u->h'.get? b=some u)(heo:∃u,h'.get? e=some u):Un fs ex H (upd H x o) h h':=by
 have hx:∀b,H b=none->b≠x:=fun b n z=>by subst z;rw[n]at mu;exact mu
 have hb:∀b,H b=none->b≠e:=fun b n z=>by
  subst z
  rcases he with r | r
  ·exact hx b n r
  ·rw[n]at r;cases r
 have hm:∀b u,H b=some u->¬Mut (some u)->b≠x:=fun b u q nm z=>by subst z;rw[q]at mu;exact nm mu
 refine⟨fun b u q n _ _=>k b u (hb b n) q,fun b u q n _ _=>⟨u.slots,k b u (hb b n) q⟩,fun b u q n _=>by rw[Yj (hx b n)];exact n,fun b u q _=>?_,
  fun b xs q=>by rw[Yj (hm b _ q fun z=>z)];exact q,fun b u xs q=>by rw[Yj (hm b _ q fun z=>z)];exact q,fun b ps q=>⟨#[],by rw[Yj (hm b _ q fun z=>z),q];simp⟩⟩
 by_cases hbe:b=e
 ·subst hbe;exact heo
 ·exact⟨u,k b u hbe q⟩
end
def trk(h:Heap)(H:Hp):List Addr:=(List.range h.objs.size).filter fun a=>(H a).isSome
def hidT(h:Heap)(H:Hp):Heap:=W.hideAll h (trk h H)
theorem Yju(h:Heap)(H:Hp):(hidT h H).objs.size=h.objs.size:=W.hideAll_size _ _
theorem Yl5{h:Heap}{H:Hp}{b:Addr}{o:Obj}(e:h.get? b=some o)(n:H b=none):(hidT h H).get? b=some o:=
 W.hideAll_get _ e fun hm=>by
  have q:(H b).isSome=true:=(List.mem_filter.mp hm).2
  rw[n]at q;simp at q
theorem Yn5{h:Heap}{H:Hp}{b:Addr}{o:Obj}(e:(hidT h H).get? b=some o):h.get? b=some o/\H b=none:=by
 have e':h.get? b=some o:=W.of_hideAll (trk h H) e
 refine⟨e',?_⟩
 cases q:H b with
 | none=>rfl
 | some x=>
   have hm:b∈trk h H:=List.mem_filter.mpr ⟨List.mem_range.mpr (qk e'),by simp[q]⟩
   have z:(hidT h H).get? b=none:=W.hideAll_none (trk h H) hm
   rw[z]at e;cases e
end L2
namespace L2
open PySem PySem.Spec PyProof.Rows
structure Mod(K:W.Frag)(mg:Str->Option Value)(base:Heap):Prop where
 kin:K.In base
 glob:base.Ns mainGlobals mg
 blt:∃mb,base.Ns builtinsNs mb/\∀x:Str,x≠"__name__"->mb x=bootBuiltins x
 nolimit:base.NoLimit
structure Cx where
 prog:Program
 w:World
 K:W.Frag
 mg:Str->Option Value
 base:Heap
 A:Around
 N:List Str
 s₀:Shared
 H₀:Hp
 env:Env
 outer:List Env
 stack:List Env
 ex:List Addr
 fn:Str->Bool
 calm:Bool
 pn:List (Addr × Obj)
 xe:Value->Shared->Prop
def frs(l:List Env):List Addr:=l.filterMap (·.frame)
abbrev Cx.fs(X:Cx):List Addr:=frs X.outer
def Vis(sc:Scope)(x:Str):Prop:=sc.names.lookup x=some .local\/sc.names.lookup x=some .cell\/sc.names.lookup x=some .free
def Loc(sc:Scope)(x:Str):Prop:=sc.names.lookup x=some .local\/sc.names.lookup x=some .cell
def Look(env:Env)(h:Heap)(m:Str->Option Value)(x:Str)(u:Value):Prop:=
 (env.kindOf x=some .local/\m x=some u)\/((env.kindOf x=some .cell\/env.kindOf x=some .free)/\∃c,env.cells.lookup x=some c/\h.IsCell c (some u))
structure Cx.Ok(X:Cx):Prop where
 mod:Mod X.K X.mg X.base
 kind:X.env.scope.kind=.function
 glob:X.env.globals=mainGlobals
 blt:X.env.builtins=builtinsNs
 above:X.s₀.heap.objs.size<=X.env.locals
 inj:∀x y c,X.env.cells.lookup x=some c->X.env.cells.lookup y=some c->x=y
 has:∀x,(X.env.kindOf x=some .cell\/X.env.kindOf x=some .free)->∃c,X.env.cells.lookup x=some c
 cab:∀x c,X.fn x=true->X.env.cells.lookup x=some c->X.s₀.heap.objs.size<=c
 hd:X.calm=true->X.A.handled=none
 frames:X.A.frames=some X.stack
 stk:X.stack=X.outer\/(X.stack=X.env::X.outer/\X.env.frame=some X.env.locals)
 exf:∀b∈X.ex,b≠X.env.locals/\∀x c,X.env.cells.lookup x=some c->c≠b
 bs:∀b o,X.base.get? b=some o->X.s₀.heap.get? b=some o/\X.H₀ b=none
 bsz:X.base.objs.size<=X.s₀.heap.objs.size
 noex:∀b o,X.base.get? b=some o->b∉X.ex
 exfs:∀b∈X.ex,b∉X.fs
 funs:X.s₀.heap.FunFrames X.base X.outer
 frf:∀b∈X.fs,X.H₀ b=none
structure Inv(X:Cx)(pins:List (Addr × Obj))(σ:List (Option V))(H:Hp)(s:Shared):Prop where
 ok:X.Ok
 os:s.os=X.s₀.os
 bare:AllBare s.gens
 base:Un X.fs X.ex X.H₀ H X.s₀.heap s.heap
 loc:∃m,s.heap.Ns X.env.locals m/\∀(i:Nat) (x:Str) (v:V),X.N[i]?=some x->σ[i]?=some (some v)->Vis X.env.scope x->∃u,RelV v u/\Look X.env s.heap m x u
 cell:∀x c,X.env.cells.lookup x=some c->∃v,s.heap.IsCell c v
 free:H X.env.locals=none
 freeC:∀x c,X.env.cells.lookup x=some c->H c=none
 pin:∀p∈X.pn++pins,s.heap.get? p.1=some p.2/\H p.1=none/\p.1≠X.env.locals/\p.1∉X.fs/\∀v,p.2.data≠.cell v
 hok:HOk X.prog X.w H s.heap
 len:σ.length=X.N.length
section
variable {X:Cx} {pins:List (Addr × Obj)} {σ:List (Option V)} {H H':Hp} {s:Shared} {h':Heap}
theorem Cx.Ok.nofr(ok:X.Ok){b:Addr}{o:Obj}(e:X.base.get? b=some o):b∉X.fs:=fun hb=>by
 have:=(ok.funs.mem hb).1
 rw[e]at this;cases this
theorem Inv.bs(I:Inv X pins σ H s):∀b o,X.base.get? b=some o->s.heap.get? b=some o/\H b=none:=fun b o e=>
 ⟨I.base.keep b o (I.ok.bs b o e).1 (I.ok.bs b o e).2 (I.ok.nofr e) (I.ok.noex b o e),I.base.free b o (I.ok.bs b o e).1 (I.ok.bs b o e).2 (I.ok.noex b o e)⟩
theorem Inv.bk(I:Inv X pins σ H s):∀b o,X.base.get? b=some o->s.heap.get? b=some o:=fun b o e=>(I.bs b o e).1
theorem Inv.mod(I:Inv X pins σ H s):Mod X.K X.mg X.base:=I.ok.mod
theorem Inv.kIn(I:Inv X pins σ H s):X.K.In s.heap:=I.ok.mod.kin.keeps I.bk
theorem Inv.lt(I:Inv X pins σ H s):X.env.locals < s.heap.objs.size:=let ⟨_,hn,_⟩:=I.loc;hn.lt
theorem Inv.sz(I:Inv X pins σ H s):X.s₀.heap.objs.size<=s.heap.objs.size:=qw I.ok.above (Nat.le_of_lt I.lt)
theorem Inv.nofs(I:Inv X pins σ H s){a:Addr}(h:s.heap.objs.size<=a):a∉X.fs:=fun hb=>by
 obtain⟨_,o,ho,_⟩:=I.ok.funs.mem hb
 exact absurd (qz (qk ho) (qw I.sz h)) (Nat.lt_irrefl _)
theorem Inv.cne(I:Inv X pins σ H s):∀x c,X.env.cells.lookup x=some c->c≠X.env.locals:=fun x c e z=>by
 obtain⟨v,o,ho,hd⟩:=I.cell x c e
 obtain⟨m,⟨o',es,ep,ho',hd',_⟩,_⟩:=I.loc
 rw[z,ho']at ho;cases ho;rw[hd']at hd;cases hd
theorem Inv.funs(I:Inv X pins σ H s):s.heap.FunFrames X.base X.outer:=by
 have all:∀(l:List Env),(∀b∈frs l,b∈X.fs)->X.s₀.heap.FunFrames X.base l->s.heap.FunFrames X.base l:=by
  intro l
  induction l with
  | nil=>intro _ _;trivial
  | cons env r ih=>
    intro hs hl
    obtain⟨hk,⟨L,o,hf,hn,ho,hd⟩,hr⟩:=hl
    have hL:L∈X.fs:=hs L (by unfold frs;rw[List.filterMap_cons,hf];exact qh)
    obtain⟨sl,e⟩:=I.base.slot L o ho (I.ok.frf L hL) hL fun z=>I.ok.exfs L z hL
    exact⟨hk,⟨L,_,hf,hn,e,hd⟩,ih (fun b hb=>hs b (by unfold frs;rw[List.filterMap_cons,hf];exact qg _ hb)) hr⟩
 exact all X.outer (fun _ hb=>hb) I.ok.funs
theorem Inv.stack(I:Inv X pins σ H s):s.heap.FunFrames X.base X.stack:=by
 rcases I.ok.stk with e | ⟨e,hf⟩
 ·rw[e];exact I.funs
 ·rw[e]
  obtain⟨m,hn,_⟩:=I.loc
  refine .cons (by rw[I.ok.kind];decide) hf hn ?_ I.funs
  exact Heap.get?_none_of_le (qw I.ok.bsz I.ok.above)
theorem Inv.stkSub(I:Inv X pins σ H s):∀b∈frs X.stack,b∈X.env.locals::X.fs:=fun b hb=>by
 rcases I.ok.stk with e | ⟨e,hf⟩
 ·rw[e]at hb;exact qg _ hb
 ·rw[e]at hb
  unfold frs at hb
  rw[List.filterMap_cons,hf]at hb
  exact hb
theorem Inv.stkFree(I:Inv X pins σ H s):∀b∈frs X.stack,H b=none:=fun b hb=>by
 rcases qs (I.stkSub b hb)with e | hb
 ·rw[e];exact I.free
 ·obtain⟨_,o,ho,_⟩:=I.ok.funs.mem hb
  exact I.base.free b o ho (I.ok.frf b hb) fun z=>I.ok.exfs b z hb
theorem Inv.step{g':Array GenState}{t':Nat}{d':Drawn}{ch:List Addr}(I:Inv X pins σ H s)
 (hch:∀b∈ch,(b∈X.ex\/X.s₀.heap.objs.size<=b)/\b≠X.env.locals/\(∀x c,X.env.cells.lookup x=some c->c≠b)/\∀p∈X.pn++pins,p.1≠b)
 (keep:∀b o,b≠X.env.locals->b∉X.fs->b∉ch->s.heap.get? b=some o->H b=none->h'.get? b=some o)
 (slot:∀b o,b≠X.env.locals->b∈X.fs->b∉ch->s.heap.get? b=some o->H b=none->∃sl,h'.get? b=some { o with slots:=sl }) (free:∀b o,b∉ch->s.heap.get? b=some o->H b=none->H' b=none)
 (there:∀b o,b∉ch->s.heap.get? b=some o->∃o',h'.get? b=some o')
 (tups:∀b xs,H b=some (.tup xs)->H' b=some (.tup xs)) (frzs:∀b o u,H b=some (.frz o u)->H' b=some (.frz o u)) (tbls:∀b ps,H b=some (.tbl ps)->∃more,H' b=some (.tbl (ps++more)))
 (ns:∀m,s.heap.Ns X.env.locals m->h'.Ns X.env.locals m) (hok:HOk X.prog X.w H' h') (hg:AllBare g') :
 Inv X pins σ H' { s with heap:=h',gens:=g',drawn:=d',toks:=t' }:=by
 have neL:∀b o,X.s₀.heap.get? b=some o->b≠X.env.locals:=fun b o e=>ql (qz (qk e) I.ok.above)
 have neC:∀b o,X.s₀.heap.get? b=some o->b∉X.ex->b∉ch:=fun b o e hx hb=>by
  rcases(hch b hb).1 with z | z
  ·exact hx z
  ·exact absurd (qz (qk e) z) (Nat.lt_irrefl _)
 have cellK:∀x c,X.env.cells.lookup x=some c->∀v,s.heap.IsCell c v->h'.IsCell c v:=fun x c e v hx_=>by
  obtain⟨o,ho,hd⟩:=hx_
  have nch:c∉ch:=fun z=>(hch c z).2.2.1 x c e rfl
  by_cases hc:c∈X.fs
  ·obtain⟨sl,q⟩:=slot c o (I.cne x c e) hc nch ho (I.freeC x c e)
   exact⟨_,q,hd⟩
  ·exact⟨o,keep c o (I.cne x c e) hc nch ho (I.freeC x c e),hd⟩
 refine⟨I.ok,I.os,hg,⟨fun b o e n hb hx=>?_,fun b o e n hb hx=>?_,fun b o e n hx=>?_,fun b o e hx=>?_,fun b xs e=>tups b xs (I.base.tups b xs e),fun b o xs e=>frzs b o xs (I.base.frzs b o xs e),fun b ps e=>?_⟩,?_,fun x c e=>?_,?_,fun x c e=>?_,fun p hp=>?_,hok,I.len⟩
 ·exact keep b o (neL b o e) hb (neC b o e hx) (I.base.keep b o e n hb hx) (I.base.free b o e n hx)
 ·obtain⟨sl,e1⟩:=I.base.slot b o e n hb hx
  obtain⟨sl',e2⟩:=slot b _ (neL b o e) hb (neC b o e hx) e1 (I.base.free b o e n hx)
  exact⟨sl',e2⟩
 ·obtain⟨o',e1⟩:=I.base.there b o e hx
  exact free b o' (neC b o e hx) e1 (I.base.free b o e n hx)
 ·obtain⟨o',e1⟩:=I.base.there b o e hx
  exact there b o' (neC b o e hx) e1
 ·obtain⟨m1,e1⟩:=I.base.tbls b ps e
  obtain⟨m2,e2⟩:=tbls b _ e1
  exact⟨m1++m2,by rw[e2,Array.append_assoc]⟩
 ·obtain⟨m,hn,hl⟩:=I.loc
  refine⟨m,ns m hn,fun i x v e1 e2 e3=>?_⟩
  obtain⟨u,r,l⟩:=hl i x v e1 e2 e3
  refine⟨u,r,?_⟩
  rcases l with l | ⟨k,c,e,z⟩
  ·exact .inl l
  ·exact .inr ⟨k,c,e,cellK x c e _ z⟩
 ·obtain⟨v,z⟩:=I.cell x c e
  exact⟨v,cellK x c e v z⟩
 ·obtain⟨m,⟨o,_,_,ho,_⟩,_⟩:=I.loc
  exact free _ o (fun z=>(hch _ z).2.1 rfl) ho I.free
 ·obtain⟨v,o,ho,hd⟩:=I.cell x c e
  exact free c o (fun z=>(hch c z).2.2.1 x c e rfl) ho (I.freeC x c e)
 ·obtain⟨e,n,ne,nf,d⟩:=I.pin p hp
  have nch:p.1∉ch:=fun z=>(hch p.1 z).2.2.2 p hp rfl
  exact⟨keep p.1 p.2 ne nf nch e n,free p.1 p.2 nch e n,ne,nf,d⟩
theorem Inv.un{t':Nat}(I:Inv X pins σ H s)(u:Un X.fs [] H H' s.heap h')(hok:HOk X.prog X.w H' h'):Inv X pins σ H' { s with heap:=h',toks:=t' }:=by
 obtain⟨m,⟨o,es,ep,ho,r⟩,_⟩:=id I.loc
 obtain⟨sl,hL⟩:=u.any ho I.free (by simp)
 exact I.step (g':=s.gens) (d':=s.drawn) (ch:=[]) (fun _ z=>nomatch z) (fun b o _ hb _ e n=>u.keep b o e n hb (by simp)) (fun b o _ hb _ e n=>u.slot b o e n hb (by simp)) (fun b o _ e n=>u.free b o e n (by simp)) (fun b o _ e=>u.there b o e (by simp)) u.tups u.frzs u.tbls (fun m' hm=>by
  obtain⟨o',es',ep',ho',r'⟩:=hm
  rw[ho]at ho';cases ho'
  exact⟨_,es',ep',hL,r'⟩) hok I.bare
theorem Inv.call{g':Array GenState}{t':Nat}{d':Drawn}{ch:List Addr}(I:Inv X pins σ H s)(u:Un (frs X.stack) ch H H' s.heap h')(hok:HOk X.prog X.w H' h')(hg:AllBare g')
 (hch:∀b∈ch,(b∈X.ex\/X.s₀.heap.objs.size<=b)/\b≠X.env.locals/\(∀x c,X.env.cells.lookup x=some c->c≠b)/\∀p∈X.pn++pins,p.1≠b) :
 Inv X pins σ H' { s with heap:=h',gens:=g',drawn:=d',toks:=t' }:=by
 obtain⟨m,⟨o,es,ep,ho,r⟩,_⟩:=id I.loc
 obtain⟨sl,hL⟩:=u.any ho I.free fun z=>(hch _ z).2.1 rfl
 exact I.step (ch:=ch) hch (fun b o hL hb hc e n=>u.keep b o e n (fun z=>(qs (I.stkSub b z)).elim hL hb) hc) (fun b o _ _ hc e n=>u.any e n hc) (fun b o hc e n=>u.free b o e n hc) (fun b o hc e=>u.there b o e hc) u.tups u.frzs u.tbls (fun m' hm=>by
  obtain⟨o',es',ep',ho',r'⟩:=hm
  rw[ho]at ho';cases ho'
  exact⟨_,es',ep',hL,r'⟩) hok hg
theorem Inv.turned{t':Nat}{it:Addr}(I:Inv X pins σ H s)(k:∀b o,b≠it->s.heap.get? b=some o->h'.get? b=some o)(hn:H it=none)(hL:it≠X.env.locals)
 (h1:it∈X.ex\/X.s₀.heap.objs.size<=it) (h2:∀x c,X.env.cells.lookup x=some c->c≠it) (h3:∀p∈X.pn++pins,p.1≠it):Inv X pins σ H { s with heap:=h',toks:=t' }:=by
 have nit:∀b u,H b=some u->b≠it:=fun b u e z=>by rw[z,hn]at e;cases e
 refine I.step (g':=s.gens) (d':=s.drawn) (ch:=[it]) (fun b hb=>?_) (fun b o _ _ hc e _=>k b o (fun z=>hc (by simp[z])) e) (fun b o _ _ hc e _=>⟨o.slots,k b o (fun z=>hc (by simp[z])) e⟩) (fun _ _ _ _ n=>n)
  (fun b o hc e=>⟨o,k b o (fun z=>hc (by simp[z])) e⟩) (fun _ _ e=>e) (fun _ _ _ e=>e) (fun b ps e=>⟨#[],by rw[e];simp⟩) (fun m hm=>?_) (fun b u e=>?_) I.bare
 ·have e:b=it:=by simpa using hb
  subst e
  exact⟨h1,hL,h2,h3⟩
 ·obtain⟨o,es,ep,ho,r⟩:=hm
  exact⟨o,es,ep,k _ o (Ne.symm hL) ho,r⟩
 ·refine(I.hok b u e).stay (fun c v hc q=>k c v ?_ q) (fun _ q=>q) fun _ _ q=>q
  rcases hc with z | z
  ·rw[z];exact nit b u e
  ·exact nit c _ z
theorem Inv.tok(I:Inv X pins σ H s)(t:Nat):Inv X pins σ H { s with toks:=t }:=I.un (h':=s.heap) (t':=t) Un.refl I.hok
theorem Inv.kept{t':Nat}(I:Inv X pins σ H s)(k:∀b u,s.heap.get? b=some u->h'.get? b=some u):Inv X pins σ H { s with heap:=h',toks:=t' }:=I.un (Un.kept k) (I.hok.kept k)
theorem Inv.laid{a:Addr}{o:HO}{t':Nat}(I:Inv X pins σ H s)(k:∀b u,s.heap.get? b=some u->h'.get? b=some u)(hp:s.heap.objs.size<=a)(new:ObjOk X.prog X.w (upd H a o) h' a o) :
 Inv X pins σ (upd H a o) { s with heap:=h',toks:=t' }:=I.un (Un.laid k hp (I.hok.fresh hp)) (I.hok.laid k hp new)
theorem Inv.write{x e:Addr}{o:HO}{t':Nat}(I:Inv X pins σ H s)(mu:Mut (H x))(he:e=x\/H e=some (.own x))(k:∀b u,b≠e->s.heap.get? b=some u->h'.get? b=some u)(heo:∃u,h'.get? e=some u)
 (new:ObjOk X.prog X.w (upd H x o) h' x o):Inv X pins σ (upd H x o) { s with heap:=h',toks:=t' }:=I.un (Un.write mu he k heo) (I.hok.write mu he k heo new)
theorem Inv.pins_of{pins':List (Addr × Obj)}(I:Inv X pins σ H s)(h:∀p∈pins',s.heap.get? p.1=some p.2/\H p.1=none/\p.1≠X.env.locals/\p.1∉X.fs/\∀v,p.2.data≠.cell v):Inv X pins' σ H s:=
 ⟨I.ok,I.os,I.bare,I.base,I.loc,I.cell,I.free,I.freeC,fun p hp=>(qu hp).elim (fun z=>I.pin p (List.mem_append_left _ z)) (h p),I.hok,I.len⟩
theorem Yiq{N:List Str}(hN:N.Nodup){i j:Nat}{x:Str}(a:N[i]?=some x)(b:N[j]?=some x):i=j:=by
 obtain⟨h1,e1⟩:=qm a
 obtain⟨h2,e2⟩:=qm b
 exact(List.getElem_inj hN).mp (e1.trans e2.symm)
theorem Yjv{M:Model}{A:Around}{E:Value->Shared->Prop}{i:Nat}{x:Str}{v:V}{u:Value}{Q:Unit->Shared->Prop}(I:Inv X pins σ H s)(hN:X.N.Nodup)(hi:X.N[i]?=some x)(hx:Loc X.env.scope x)(r:RelV v u)
 (h:∀s',Inv X pins (σ.set i (some v)) H s'->(∃a,Heap.SameBut a s.heap s'.heap/\(a=X.env.locals\/X.env.cells.lookup x=some a))->Q () s') (hf:X.fn x=true\/X.env.scope.names.lookup x=some .local:=by first | exact .inl rfl | exact .inr rfl | assumption):wpAny M A (storeName X.env x u) Q E s:=by
 obtain⟨m,hn,hl⟩:=id I.loc
 have hcls:(X.env.scope.kind==.class||(X.env.scope.kind==.module&&X.env.locals != X.env.globals))=false:=by rw[I.ok.kind];rfl
 have hiσ:i < σ.length:=by rw[I.len];exact(qm hi).1
 have cne:=I.cne
 have tracked:∀{a:Addr} {h':Heap},(∃o,s.heap.get? a=some o/\H a=none)->Heap.SameBut a s.heap h'->HOk X.prog X.w H h':=fun {a h'} ha hs b ob e=>by
  obtain⟨_,_,hfree⟩:=ha
  refine(I.hok b ob e).stay (fun c w' hc q=>(hs.2 c ?_).trans q) (fun _ q=>q) fun _ _ q=>q
  rintro rfl
  rcases hc with rfl | hc
  ·rw[hfree]at e;cases e
  ·rw[hfree]at hc;cases hc
 rcases hx with hk | hk
 ·refine wpAny_storeName_local hk hn (fun h' hn' hs=>?_) hcls
  obtain⟨oL,_,_,hoL,_⟩:=id hn
  refine h _ ⟨I.ok,I.os,I.bare,⟨fun b o e n hb hx=>?_,fun b o e n hb hx=>?_,I.base.free,fun b o e hx=>?_,I.base.tups,I.base.frzs,I.base.tbls⟩,⟨_,hn',fun j y v' e1 e2 e3=>?_⟩,fun y c e=>?_,I.free,I.freeC,fun p hp=>?_,tracked ⟨oL,hoL,I.free⟩ hs,by simpa using I.len⟩ ⟨_,hs,.inl rfl⟩
  ·exact(hs.2 b (ql (qz (qk e) I.ok.above))).trans (I.base.keep b o e n hb hx)
  ·obtain⟨sl,e1⟩:=I.base.slot b o e n hb hx
   exact⟨sl,(hs.2 b (ql (qz (qk e) I.ok.above))).trans e1⟩
  ·obtain⟨o',e1⟩:=I.base.there b o e hx
   exact⟨o',(hs.2 b (ql (qz (qk e) I.ok.above))).trans e1⟩
  ·by_cases hj:j=i
   ·subst hj
    rw[hi]at e1;cases e1
    rw[List.getElem?_set_self hiσ]at e2
    cases e2
    exact⟨u,r,.inl ⟨hk,by simp⟩⟩
   ·rw[qx (Ne.symm hj)]at e2
    obtain⟨u',r',q⟩:=hl j y v' e1 e2 e3
    refine⟨u',r',?_⟩
    rcases q with⟨k,e⟩ | ⟨k,c,e,z⟩
    ·refine .inl ⟨k,?_⟩
     have:y≠x:=fun e=>hj (Yiq hN e1 (e ▸ hi))
     simp[this,e]
    ·exact .inr ⟨k,c,e,z.sameBut hs (cne y c e)⟩
  ·obtain⟨w',z⟩:=I.cell y c e
   exact⟨w',z.sameBut hs (cne y c e)⟩
  ·obtain⟨e,n,ne,nf,d⟩:=I.pin p hp
   exact⟨(hs.2 p.1 ne).trans e,n,ne,nf,d⟩
 ·have hfn:X.fn x=true:=by
   rcases hf with z | z
   ·exact z
   ·rw[z]at hk;cases hk
  obtain⟨c,hc⟩:=I.ok.has x (.inl hk)
  obtain⟨w',z⟩:=I.cell x c hc
  refine wpAny_storeName_cell I.ok.kind hk hc z (fun h' hc' hs=>?_)
  obtain⟨oc,hoc,hocd⟩:=id z
  refine h { s with heap:=h' } ⟨I.ok,I.os,I.bare,⟨fun b o e n hb hx=>?_,fun b o e n hb hx=>?_,I.base.free,fun b o e hx=>?_,I.base.tups,I.base.frzs,I.base.tbls⟩,⟨m,hn.sameBut hs (Ne.symm (cne x c hc)),fun j y v' e1 e2 e3=>?_⟩,fun y c' e=>?_,I.free,I.freeC,fun p hp=>?_,tracked ⟨oc,hoc,I.freeC x c hc⟩ hs,by simpa using I.len⟩ ⟨c,hs,.inr hc⟩
  ·exact(hs.2 b (ql (qz (qk e) (I.ok.cab x c hfn hc)))).trans (I.base.keep b o e n hb hx)
  ·obtain⟨sl,e1⟩:=I.base.slot b o e n hb hx
   exact⟨sl,(hs.2 b (ql (qz (qk e) (I.ok.cab x c hfn hc)))).trans e1⟩
  ·obtain⟨o',e1⟩:=I.base.there b o e hx
   exact⟨o',(hs.2 b (ql (qz (qk e) (I.ok.cab x c hfn hc)))).trans e1⟩
  ·by_cases hj:j=i
   ·subst hj
    rw[hi]at e1;cases e1
    rw[List.getElem?_set_self hiσ]at e2
    cases e2
    exact⟨u,r,.inr ⟨.inl hk,c,hc,hc'⟩⟩
   ·rw[qx (Ne.symm hj)]at e2
    obtain⟨u',r',q⟩:=hl j y v' e1 e2 e3
    refine⟨u',r',?_⟩
    rcases q with q | ⟨k,c',e,z'⟩
    ·exact .inl q
    ·refine .inr ⟨k,c',e,z'.sameBut hs ?_⟩
     rintro rfl
     exact hj (Yiq hN e1 (I.ok.inj _ _ _ e hc ▸ hi))
  ·by_cases hcc:c'=c
   ·subst hcc;exact⟨_,hc'⟩
   ·obtain⟨w2,z2⟩:=I.cell y c' e
    exact⟨w2,z2.sameBut hs hcc⟩
  ·obtain⟨e,n,ne,nf,d⟩:=I.pin p hp
   refine⟨(hs.2 p.1 ?_).trans e,n,ne,nf,d⟩
   intro q
   rw[q,hoc]at e
   have q':oc=p.2:=Option.some.inj e
   exact d w' (by rw[<-q'];exact hocd)
theorem Yir{M:Model}{A:Around}{E:Value->Shared->Prop}{i:Nat}{x:Str}{v:V}{u:Value}{Q:Unit->Shared->Prop}(I:Inv X pins σ H s)(hN:X.N.Nodup)(hi:X.N[i]?=some x)(hx:Loc X.env.scope x)(r:RelV v u)
 (h:∀s',Inv X pins (σ.set i (some v)) H s'->Q () s') (hf:X.fn x=true\/X.env.scope.names.lookup x=some .local:=by first | exact .inl rfl | exact .inr rfl | assumption):wpAny M A (storeName X.env x u) Q E s:=
 Yjv I hN hi hx r (fun s' I' _=>h s' I') hf
theorem Inv.call'{s':Shared}{ch:List Addr}(I:Inv X pins σ H s)(ho:s'.os=s.os)(u:Un (frs X.stack) ch H H' s.heap s'.heap)(hok:HOk X.prog X.w H' s'.heap)(hg:AllBare s'.gens)
 (hch:∀b∈ch,(b∈X.ex\/X.s₀.heap.objs.size<=b)/\b≠X.env.locals/\(∀x c,X.env.cells.lookup x=some c->c≠b)/\∀p∈X.pn++pins,p.1≠b):Inv X pins σ H' s':=by
 obtain⟨h',g',d',t',o'⟩:=s'
 have e:o'=s.os:=ho
 subst e
 exact I.call (g':=g') (t':=t') (d':=d') u hok hg hch
end
abbrev XK:=Value->Option Addr->Hp->Prop
abbrev St:=List (Option V)
abbrev VK:=V->Hp->Prop
abbrev TE:=St->Hp->VK->Prop
abbrev TT:=St->Hp->(Bool->Hp->Prop)->Prop
abbrev TA:=St->Hp->(List V->Hp->Prop)->Prop
structure Ends where
 nx:St->Hp->Prop
 rt:VK
 bk:St->Hp->Prop:=fun _ _=>False
 ct:St->Hp->Prop:=fun _ _=>False
abbrev TS:=Ends->St->Hp->Prop
def EP(X:Cx)(pins:List (Addr × Obj))(σ:St)(Q:VK)(u:Value)(s':Shared):Prop:=∃v H',Inv X pins σ H' s'/\RelV v u/\Q v H'
def TP(X:Cx)(pins:List (Addr × Obj))(σ:St)(Q:Bool->Hp->Prop)(b:Bool)(s':Shared):Prop:=∃H',Inv X pins σ H' s'/\Q b H'
def AP(X:Cx)(pins:List (Addr × Obj))(σ:St)(Q:List V->Hp->Prop)(us:List Value)(s':Shared):Prop:=∃vs H',Inv X pins σ H' s'/\Vals vs us/\Q vs H'
def SP(X:Cx)(pins:List (Addr × Obj))(D:Ends)(f:Flow)(s':Shared):Prop:=
 match f with
 | .next=>∃σ' H',Inv X pins σ' H' s'/\D.nx σ' H'
 | .brk=>∃σ' H',Inv X pins σ' H' s'/\D.bk σ' H'
 | .cont=>∃σ' H',Inv X pins σ' H' s'/\D.ct σ' H'
 | .ret u=>∃v σ' H',Inv X pins σ' H' s'/\RelV v u/\D.rt v H'
def PE(X:Cx)(e:Expr)(t:TE):Prop:=
 ∀(pins:List (Addr × Obj)) (s:Shared) (σ:St) (H:Hp) (Q:VK),Inv X pins σ H s->t σ H Q->wpAny (model X.prog X.w) X.A (eval e X.env) (EP X pins σ Q) X.xe s
def PT(X:Cx)(e:Expr)(t:TT):Prop:=
 ∀(pins:List (Addr × Obj)) (s:Shared) (σ:St) (H:Hp) (Q:Bool->Hp->Prop),Inv X pins σ H s->t σ H Q->wpAny (model X.prog X.w) X.A (isTrue e X.env (eval e X.env)) (TP X pins σ Q) X.xe s
def PW(X:Cx)(e:Expr)(t:TT):Prop:=
 ∀(whole:Sem Value) (pins:List (Addr × Obj)) (s:Shared) (σ:St) (H:Hp) (Q:Bool->Hp->Prop),Inv X pins σ H s->t σ H Q->wpAny (model X.prog X.w) X.A (isTrue e X.env whole) (TP X pins σ Q) X.xe s
theorem PW.pt{X:Cx}{e:Expr}{t:TT}(h:PW X e t):PT X e t:=h _
def PA(X:Cx)(es:List Expr)(t:TA):Prop:=
 ∀(pos:Pos) (pins:List (Addr × Obj)) (s:Shared) (σ:St) (H:Hp) (Q:List V->Hp->Prop),Inv X pins σ H s->t σ H Q->wpAny (model X.prog X.w) X.A (spliced (backTo pos (starEach es X.env))) (AP X pins σ Q) X.xe s
def PS(X:Cx)(st:Stmt)(t:TS):Prop:=
 ∀(pins:List (Addr × Obj)) (s:Shared) (σ:St) (H:Hp) (D:Ends),Inv X pins σ H s->t D σ H->wpAny (model X.prog X.w) X.A (exec st X.env) (SP X pins D) X.xe s
def PSs(X:Cx)(st:List Stmt)(t:TS):Prop:=
 ∀(pins:List (Addr × Obj)) (s:Shared) (σ:St) (H:Hp) (D:Ends),Inv X pins σ H s->t D σ H->wpAny (model X.prog X.w) X.A (execs st X.env) (SP X pins D) X.xe s
theorem thn{α:Type}{t:Sem α}{Q Q':α->Shared->Prop}{M:Model}{A:Around}{E:Value->Shared->Prop}{s:Shared}(h:wpAny M A t Q E s)(hQ:∀a s,Q a s->Q' a s):wpAny M A t Q' E s:=wpAny_mono h hQ fun _ _ x=>x
end L2
namespace L2
open PySem PySem.Spec PyProof.Rows
section
variable {X:Cx}
def tVar(i:Nat):TE:=fun σ H Q=>∃v,σ[i]?=some (some v)/\Q v H
def tC(v:V):TE:=fun _ H Q=>Q v H
theorem Yfa{i:Nat}{x:Str}{pos:Pos}(hN:X.N[i]?=some x)(hv:Vis X.env.scope x)(hd:(x==("__debug__":Str))=false:=by decide)(hcd:(x==("__classdict__":Str))=false:=by decide):PE X (.Name x pos) (tVar i):=by
 intro pins s σ H Q I h
 obtain⟨v,e,h⟩:=h
 obtain⟨m,hn,hl⟩:=I.loc
 obtain⟨u,r,l⟩:=hl i x v hN e hv
 have fin:EP X pins σ Q u s:=⟨v,H,I,r,h⟩
 rcases l with⟨hk,hm⟩ | ⟨hk,c,hc,hcell⟩
 ·exact wpAny_Name (wpAny_loadName_local I.ok.kind hk hn hm fin) hd
 ·rcases hk with hk | hk
  ·exact wpAny_Name (wpAny_loadName_cell I.ok.kind hk hc hcell fin) hd
  ·exact wpAny_Name (wpAny_loadName_free I.ok.kind hk hc hcell fin hcd) hd
theorem Yp1{i j pos}:PE X (.Constant (.int i) j pos) (tC (.int i)):=fun _ _ _ H _ I h=>wpAny_Constant_int ⟨.int i,H,I.tok _,⟨_,rfl⟩,h⟩
theorem Ysf{b j pos}:PE X (.Constant (.bool b) j pos) (tC (.bl b)):=fun _ _ _ H _ I h=>Constant_bool ⟨.bl b,H,I,rfl,h⟩
theorem Yp2{j pos}:PE X (.Constant .none j pos) (tC .non):=fun _ _ _ H _ I h=>Constant_none ⟨.non,H,I,rfl,h⟩
theorem Ynf{x j pos}:PE X (.Constant (.str x) j pos) (tC (.str x)):=fun _ _ _ H _ I h=>Calls.Constant_str ⟨.str x,H,I.tok _,⟨_,rfl⟩,h⟩
def Gl(X:Cx)(x:Str):Prop:=X.env.kindOf x=some .globalImplicit
theorem Ygg{E:Value->Shared->Prop}{pins:List (Addr × Obj)}{s:Shared}{σ:St}{H:Hp}{x:Str}{u:Value}{pos:Pos}{Q:Value->Shared->Prop}(I:Inv X pins σ H s)(hg:Gl X x)(hm:X.mg x=some u)(h:Q u s)
 (hd:(x==("__debug__":Str))=false:=by decide):wpAny (model X.prog X.w) X.A (eval (.Name x pos) X.env) Q E s:=
 Calls.Name_function_global I.ok.kind hg (Calls.loadGlobal_global (by rw[I.ok.glob];exact I.mod.glob.keeps I.bk) hm h) hd
theorem Yfb{E:Value->Shared->Prop}{pins:List (Addr × Obj)}{s:Shared}{σ:St}{H:Hp}{x:Str}{u:Value}{pos:Pos}{Q:Value->Shared->Prop}(I:Inv X pins σ H s)(hg:Gl X x)(hm:X.mg x=none)(hv:bootBuiltins x=some u)(h:Q u s)
 (hn:x≠"__name__":=by decide) (hd:(x==("__debug__":Str))=false:=by decide):wpAny (model X.prog X.w) X.A (eval (.Name x pos) X.env) Q E s:=by
 obtain⟨mb,h1,h2⟩:=I.mod.blt
 exact Calls.Name_function_global I.ok.kind hg (Calls.loadGlobal_builtin (by rw[I.ok.glob];exact I.mod.glob.keeps I.bk) hm (by rw[I.ok.blt];exact h1.keeps I.bk) ((h2 x hn).trans hv) h) hd
theorem Yjw{x:Str}{v:V}{u:Value}{pos:Pos}(hg:Gl X x)(hm:X.mg x=some u)(r:RelV v u)(hd:(x==("__debug__":Str))=false:=by decide):PE X (.Name x pos) (tC v):=
 fun _ _ _ H _ I h=>Ygg I hg hm ⟨v,H,I,r,h⟩ hd
theorem Yn6{x:Str}{v:V}{u:Value}{pos:Pos}(hg:Gl X x)(hm:X.mg x=none)(hv:bootBuiltins x=some u)(r:RelV v u)(hn:x≠"__name__":=by decide)(hd:(x==("__debug__":Str))=false:=by decide):PE X (.Name x pos) (tC v):=
 fun _ _ _ H _ I h=>Yfb I hg hm hv ⟨v,H,I,r,h⟩ hn hd
variable {a b:Expr} {ta tb:TE} {pos:Pos}
variable {tA tB':TT} {rest:List Expr}
def tOr(t u:TT):TT:=fun σ H Q=>t σ H fun c H1=>if c=true then Q true H1 else u σ H1 Q
def tNot(t:TT):TT:=fun σ H Q=>t σ H fun c H1=>Q (!c) H1
theorem Yp3(ha:PT X a tA):PW X (.BoolOp .Or [a] pos) tA:=by
 intro wh pins s σ H Q I h
 refine isTrue_or (thn (ha pins s σ H Q I h) fun c s1 e=>?_)
 cases c with
 | false=>exact isTrue_or_nil e
 | true=>exact e
theorem Ysg(ha:PT X a tA)(hb:PW X (.BoolOp .Or (b::rest) pos) tB'):PW X (.BoolOp .Or (a::b::rest) pos) (tOr tA tB'):=by
 intro wh pins s σ H Q I h
 refine isTrue_or (thn (ha pins s σ H _ I h) fun c s1 hx_=>?_)
 obtain⟨H1,I1,q1⟩:=hx_
 cases c with
 | true=>exact⟨H1,I1,q1⟩
 | false=>exact hb wh pins s1 σ H1 Q I1 q1
theorem Yp4(ha:PT X a tA):PT X (.UnaryOp .Not a pos) (tNot tA):=by
 intro pins s σ H Q I h
 exact isTrue_not (ha pins s σ H (fun c H1=>Q (!c) H1) I h)
def tIf(t:TT)(ta tb:TE):TE:=fun σ H Q=>t σ H fun c H1=>if c=true then ta σ H1 Q else tb σ H1 Q
theorem Yl6{c:Expr}(hc:PT X c tA)(ha:PE X a ta)(hb:PE X b tb):PE X (.IfExp c a b pos) (tIf tA ta tb):=by
 intro pins s σ H Q I h
 refine wpAny_IfExp (thn (hc pins s σ H _ I h) fun d s1 hx_=>?_)
 obtain⟨H1,I1,q1⟩:=hx_
 cases d with
 | true=>exact ha pins s1 σ H1 Q I1 q1
 | false=>exact hb pins s1 σ H1 Q I1 q1
end
end L2
namespace L2
open PySem PySem.Spec PyProof.Rows
def SqL(K:W.Frag)(H:Hp)(a:Addr)(xs:List V):Prop:=
 Rd H a (.lst xs)\/
  ∃(o:Obj) (its:Array Value) (n:Nat),K.lookup a=some o/\o.cls=.type "list"/\o.dict=none/\o.data=.seq its n/\its.size<=sizeLine/\Vals xs its.toList
def SqT(K:W.Frag)(H:Hp)(a:Addr)(xs:List V):Prop:=
 Rd H a (.tup xs)\/
  ∃(o:Obj) (its:Array Value) (n:Nat),K.lookup a=some o/\o.cls=.type "tuple"/\o.data=.seq its n/\its.size<=sizeLine/\Vals xs its.toList
def absV:Value->Option V
 | .none=>some .non
 | .bool b=>some (.bl b)
 | .int i _=>some (.int i)
 | .str x _=>some (.str x)
 | .bytes b _=>some (.byt b)
 | .float b _=>some (.flt b)
 | .ref a=>some (.ref a)
 | .type n=>some (.ty n)
 | _=>none
theorem RelV.abs{x:V}{u:Value}(r:RelV x u):absV u=some x:=by
 cases x with
 | non=>cases r;rfl
 | bl _=>cases r;rfl
 | int _=>obtain⟨t,rfl⟩:=r;rfl
 | str _=>obtain⟨t,rfl⟩:=r;rfl
 | byt _=>obtain⟨t,rfl⟩:=r;rfl
 | flt _=>obtain⟨t,rfl⟩:=r;rfl
 | ref _=>cases r;rfl
 | ty _=>cases r;rfl
theorem RelV.inj{x y:V}{u:Value}(r:RelV x u)(q:RelV y u):x=y:=Option.some.inj (r.abs.symm.trans q.abs)
theorem Vals.inj:∀{xs ys:List V} {us:List Value},Vals xs us->Vals ys us->xs=ys
 :=by
  intro xs ys us h
  induction h generalizing ys with
  | nil=>
    intro h2
    cases h2
    rfl
  | cons r t ih=>
    intro h2
    cases h2 with
    | cons r' t'=>rw[r.inj r',ih t']
section
variable {X:Cx} {pins:List (Addr × Obj)} {σ:St} {H:Hp} {s:Shared} {a:Addr} {xs ys:List V}
theorem SqL.of{K:W.Frag}(h:H a=some (.lst xs)):SqL K H a xs:=.inl (.inl h)
theorem SqT.of{K:W.Frag}(h:H a=some (.tup xs)):SqT K H a xs:=.inl (.inl h)
theorem Inv.list(I:Inv X pins σ H s)(h:SqL X.K H a xs):∃its:List Value,Vals xs its/\PlainL s.heap a its.toArray/\xs.length<=sizeLine:=by
 rcases h with h | ⟨o,its,n,hk,hc,hd,hs,hz,r⟩
 ·obtain⟨z,its,n,r,e⟩:=h.ok I.hok
  exact⟨its,r,⟨_,n,e,rfl,rfl,rfl⟩,z⟩
 ·refine⟨its.toList,r,⟨o,n,I.kIn a o hk,hc,hd,by simpa using hs⟩,?_⟩
  have e:=r.length
  simp only[Array.length_toList]at e
  lia
theorem Inv.tuple(I:Inv X pins σ H s)(h:SqT X.K H a xs):∃its:List Value,Vals xs its/\IsTup s.heap a its.toArray/\xs.length<=sizeLine:=by
 rcases h with h | ⟨o,its,n,hk,hc,hs,hz,r⟩
 ·obtain⟨z,its,r,p⟩:=h.ok I.hok
  exact⟨its,r,p,z⟩
 ·refine⟨its.toList,r,⟨o,I.kIn a o hk,hc,n,by simpa using hs⟩,?_⟩
  have e:=r.length
  simp only[Array.length_toList]at e
  lia
theorem Inv.list_inj(I:Inv X pins σ H s)(h:SqL X.K H a xs)(h':SqL X.K H a ys):xs=ys:=by
 obtain⟨its,r,⟨o,n,e,_,_,d⟩,_⟩:=I.list h
 obtain⟨its',r',⟨o',n',e',_,_,d'⟩,_⟩:=I.list h'
 rw[e]at e';cases e'
 rw[d]at d'
 injection d' with d1 _
 have:its=its':=by simpa using congrArg Array.toList d1
 subst this
 exact r.inj r'
theorem Inv.tuple_inj(I:Inv X pins σ H s)(h:SqT X.K H a xs)(h':SqT X.K H a ys):xs=ys:=by
 obtain⟨its,r,⟨o,e,_,n,d⟩,_⟩:=I.tuple h
 obtain⟨its',r',⟨o',e',_,n',d'⟩,_⟩:=I.tuple h'
 rw[e]at e';cases e'
 rw[d]at d'
 injection d' with d1 _
 have:its=its':=by simpa using congrArg Array.toList d1
 subst this
 exact r.inj r'
end
abbrev Cx.wish(X:Cx)(E:Value->Shared->Prop):Cx:={ X with xe:=E }
abbrev Cx.nox(X:Cx):Cx:=X.wish fun _ _=>False
theorem Cx.Ok.wish{X:Cx}(ok:X.Ok)(E:Value->Shared->Prop):(X.wish E).Ok:=
 ⟨ok.mod,ok.kind,ok.glob,ok.blt,ok.above,ok.inj,ok.has,ok.cab,ok.hd,ok.frames,ok.stk,ok.exf,ok.bs,ok.bsz,ok.noex,ok.exfs,ok.funs,ok.frf⟩
theorem Cx.Ok.unwish{X:Cx}{E:Value->Shared->Prop}(ok:(X.wish E).Ok):X.Ok:=
 ⟨ok.mod,ok.kind,ok.glob,ok.blt,ok.above,ok.inj,ok.has,ok.cab,ok.hd,ok.frames,ok.stk,ok.exf,ok.bs,ok.bsz,ok.noex,ok.exfs,ok.funs,ok.frf⟩
section
variable {X:Cx} {pins:List (Addr × Obj)} {σ:St} {H:Hp} {s:Shared} {E:Value->Shared->Prop} {st:Stmt} {rest:List Stmt} {t u:TS} {e:Expr} {te:TE} {pos:Pos}
theorem Inv.wish(I:Inv X pins σ H s)(E:Value->Shared->Prop):Inv (X.wish E) pins σ H s:=⟨I.ok.wish E,I.os,I.bare,I.base,I.loc,I.cell,I.free,I.freeC,I.pin,I.hok,I.len⟩
theorem Inv.unwish(I:Inv (X.wish E) pins σ H s):Inv X pins σ H s:=⟨I.ok.unwish,I.os,I.bare,I.base,I.loc,I.cell,I.free,I.freeC,I.pin,I.hok,I.len⟩
theorem SP.unwish{D:Ends}{f:Flow}{s':Shared}(h:SP (X.wish E) pins D f s'):SP X pins D f s':=by
 cases f with
 | next=>obtain⟨σ',H',I,q⟩:=h;exact⟨σ',H',I.unwish,q⟩
 | brk=>obtain⟨σ',H',I,q⟩:=h;exact⟨σ',H',I.unwish,q⟩
 | cont=>obtain⟨σ',H',I,q⟩:=h;exact⟨σ',H',I.unwish,q⟩
 | ret u=>obtain⟨v,σ',H',I,r,q⟩:=h;exact⟨v,σ',H',I.unwish,r,q⟩
theorem PSs.nox{st:List Stmt}{t:TS}(h:PSs X.nox st t):PSs X st t:=fun pins s σ H D I hw=>
 wpAny_mono (h pins s σ H D (I.wish _) hw) (fun _ _ q=>q.unwish) fun _ _ z=>False.elim z
def Ysh:TS:=fun D σ H=>D.nx σ H
def tSeq(t u:TS):TS:=fun D σ H=>t { D with nx:=u D } σ H
theorem Yjx:PSs X [] Ysh:=fun _ _ σ H _ I h=>wpAny_execs_nil ⟨σ,H,I,h⟩
theorem Ygh(h1:PS X st t)(h2:PSs X rest u):PSs X (st::rest) (tSeq t u):=by
 intro pins s σ H D I h
 refine wpAny_execs_cons (thn (h1 pins s σ H { D with nx:=u D } I h) fun f s1 q=>?_)
 cases f with
 | next=>
   obtain⟨σ',H',I',q⟩:=q
   exact h2 pins s1 σ' H' D I' q
 | ret v=>exact q
 | brk=>exact q
 | cont=>exact q
theorem Yjy(h1:PS X st t):PSs X [st] t:=by
 intro pins s σ H D I h
 refine wpAny_execs_cons (thn (h1 pins s σ H D I h) fun f s1 q=>?_)
 cases f with
 | next=>exact wpAny_execs_nil q
 | ret v=>exact q
 | brk=>exact q
 | cont=>exact q
theorem Inv.quiet{pins:List (Addr × Obj)}{σ:St}{H:Hp}{s:Shared}(I:Inv X pins σ H s):interactive X.env=false:=by simp[interactive,I.ok.kind]
def Ysi(te:TE):TS:=fun D σ H=>te σ H fun _ H1=>D.nx σ H1
theorem Yhy(he:PE X e te)(hs:swapsWith e none pos.line X.env=pure false:=by rfl):PS X (.Expr e pos) (Ysi te):=by
 intro pins s σ H D I h
 refine wpAny_Expr_any (thn (he pins s σ H _ I h) fun v s1 hx_=>?_) I.quiet hs
 obtain⟨x,H1,I1,r1,q1⟩:=hx_
 exact⟨σ,H1,I1,q1⟩
def tRet(te:TE):TS:=fun D σ H=>te σ H D.rt
theorem Yng(he:PE X e te):PS X (.Return (some e) pos) (tRet te):=by
 intro pins s σ H D I h
 refine wpAny_Return_some (thn (he pins s σ H _ I h) fun v s1 hx_=>?_)
 obtain⟨x,H1,I1,r1,q1⟩:=hx_
 exact⟨x,σ,H1,I1,r1,q1⟩
def tIfS(c:TT)(t u:TS):TS:=fun D σ H=>c σ H fun b H1=>if b=true then t D σ H1 else u D σ H1
theorem Yp5{c:Expr}{a b:List Stmt}{tc:TT}(hc:PT X c tc)(ha:PSs X a t)(hb:PSs X b u):PS X (.If c a b pos) (tIfS tc t u):=by
 intro pins s σ H D I h
 refine wpAny_If (thn (hc pins s σ H _ I h) fun d s1 hx_=>?_)
 obtain⟨H1,I1,q1⟩:=hx_
 cases d with
 | true=>exact ha pins s1 σ H1 D I1 q1
 | false=>exact hb pins s1 σ H1 D I1 q1
end
abbrev TG:=V->St->Hp->(St->Hp->Prop)->Prop
abbrev TGs:=List V->St->Hp->(St->Hp->Prop)->Prop
def PG(X:Cx)(target:Expr)(t:TG):Prop:=
 ∀(pins:List (Addr × Obj)) (s:Shared) (σ:St) (H:Hp) (v:V) (u:Value) (Q:St->Hp->Prop),Inv X pins σ H s->RelV v u->t v σ H Q->
  wpAny (model X.prog X.w) X.A (assign target X.env u) (fun _ s'=>∃σ' H',Inv X pins σ' H' s'/\Q σ' H') X.xe s
def PGs(X:Cx)(ts:List Expr)(t:TGs):Prop:=
 ∀(pins:List (Addr × Obj)) (s:Shared) (σ:St) (H:Hp) (vs:List V) (us:List Value) (Q:St->Hp->Prop),Inv X pins σ H s->Vals vs us->t vs σ H Q->
  wpAny (model X.prog X.w) X.A (assignInOrder ((assignEach ts X.env).map (·.2)) us) (fun _ s'=>∃σ' H',Inv X pins σ' H' s'/\Q σ' H') X.xe s
section
variable {X:Cx} {pos:Pos}
def Yl7(i:Nat):TG:=fun v σ H Q=>Q (σ.set i (some v)) H
theorem Yhz{i:Nat}{x:Str}(hN:X.N.Nodup)(hi:X.N[i]?=some x)(hx:Loc X.env.scope x)(hf:X.fn x=true\/X.env.scope.names.lookup x=some .local:=by first | exact .inl rfl | exact .inr rfl | assumption):PG X (.Name x pos) (Yl7 i):=by
 intro pins s σ H v u Q I r h
 exact wpAny_assign_Name (Yir I hN hi hx r (fun s' I'=>⟨_,H,I',h⟩) hf)
def gNil:TGs:=fun vs σ H Q=>vs=[]/\Q σ H
def Ysj(t:TG)(u:TGs):TGs:=fun vs σ H Q=>∃v r,vs=v::r/\t v σ H fun σ' H'=>u r σ' H' Q
theorem Yn7:PGs X [] gNil:=by
 intro pins s σ H vs us Q I r h
 obtain⟨e,h⟩:=h
 subst e
 cases r
 exact assignInOrder_nil ⟨σ,H,I,h⟩
theorem Yis{e:Expr}{es:List Expr}{t:TG}{u:TGs}(h1:PG X e t)(h2:PGs X es u)
 (hs:(assignEach (e::es) X.env).map (·.2)=assign e X.env::(assignEach es X.env).map (·.2):=by rfl):PGs X (e::es) (Ysj t u):=by
 intro pins s σ H vs us Q I r h
 obtain⟨v,vr,e1,h⟩:=h
 subst e1
 cases r with
 | cons r rr=>
   rw[hs]
   refine assignInOrder_cons (thn (h1 pins s σ H _ _ _ I r h) fun _ s1 hx_=>?_)
   obtain⟨σ1,H1,I1,q1⟩:=hx_
   exact h2 pins s1 σ1 H1 _ _ Q I1 rr q1
def gTup(K:W.Frag)(n:Nat)(t:TGs):TG:=fun v σ H Q=>∃a xs,v=.ref a/\SqT K H a xs/\xs.length=n/\t xs σ H Q
theorem Yp6{es:List Expr}{k:Nat}{t:TGs}{n:Nat}(hc:X.calm=true)(h:PGs X es t)
 (hn:(assignEach es X.env).length=n:=by rfl) (hst:(assignEach es X.env).findIdx? (·.1)=none:=by rfl):PG X (.Tuple es k pos) (gTup X.K n t):=by
 intro pins s σ H v u Q I r hw
 obtain⟨a,xs,e1,hq,hl,hw⟩:=hw
 subst e1
 cases r
 obtain⟨its,rv,ht,hz⟩:=I.tuple hq
 refine assign_Tuple_tuple (I.ok.hd hc) ht (by simp[hn,<-hl,rv.length]) hst fun h' hx=>?_
 have I1:Inv X pins σ H { s with heap:=h' }:=I.kept (t':=s.toks) fun b o e=>hx b o (ql (qk e)) e
 exact h pins _ σ H xs _ Q I1 (by simpa using rv) hw
def tAsg(te:TE)(g:TG):TS:=fun D σ H=>te σ H fun x H1=>g x σ H1 D.nx
theorem Yit{i:Nat}{x:Str}{e:Expr}{te:TE}{pos':Pos}(hN:X.N.Nodup)(hi:X.N[i]?=some x)(hx:Loc X.env.scope x)(he:PE X e te)(hs:swapsWith e (some (.Name x pos')) pos.line X.env=pure false:=by rfl)(hf:X.fn x=true\/X.env.scope.names.lookup x=some .local:=by first | exact .inl rfl | exact .inr rfl | assumption) :
 PS X (.Assign [.Name x pos'] e pos) (tAsg te (Yl7 i)):=by
 intro pins s σ H D I h
 refine wpAny_Assign_Name (thn (he pins s σ H _ I h) fun v s1 hx_=>?_) hs
 obtain⟨y,H1,I1,r1,q1⟩:=hx_
 exact Yir I1 hN hi hx r1 (fun s2 I2=>⟨_,H1,I2,q1⟩) hf
end
structure It where
 go:Nat->Hp->Prop
 yld:Nat->Hp->V->Hp->Prop
 stop:Nat->Hp->Prop
def FpOk(X:Cx)(pins:List (Addr × Obj))(H:Hp)(b:Addr):Prop:=
 H b=none/\b≠X.env.locals/\b∉X.fs/\(b∈X.ex\/X.s₀.heap.objs.size<=b)/\(∀x c,X.env.cells.lookup x=some c->c≠b)/\∀p∈X.pn++pins,p.1≠b
theorem Inv.fpOk{X:Cx}{pins:List (Addr × Obj)}{σ:St}{H H':Hp}{s:Shared}{b:Addr}(I:Inv X pins σ H s)(hb:s.heap.objs.size<=b)(hn:H' b=none):FpOk X pins H' b:=by
 refine⟨hn,Nat.ne_of_gt (qz I.lt hb),I.nofs hb,.inr (qw I.sz hb),fun x c e z=>?_,fun p hp z=>?_⟩
 ·obtain⟨v,q⟩:=I.cell x c e
  exact absurd (qz q.lt (by rw[z];exact hb)) (Nat.lt_irrefl _)
 ·exact absurd (qz (qk (I.pin p hp).1) (by rw[z];exact hb)) (Nat.lt_irrefl _)
structure Turn(P:Program)(w:World)(K:W.Frag)(tg:Expr)(J:It)(fp:List Addr)(it:Addr)(tn:Nat->Heap->Prop):Prop where
 mem:it∈fp
 obj:∀i h,tn i h->∀b∈fp,∃o,h.get? b=some o/\∀v,o.data≠.cell v
 keep:∀i h h',tn i h->(∀b∈fp,∀o,h.get? b=some o->h'.get? b=some o)->tn i h'
 item:∀(X:Cx),X.prog=P->X.w=w->X.K=K->X.calm=true->∀(i:Nat) (pins:List (Addr × Obj)) (s:Shared) (σ:St) (H:Hp) (E:Value->Shared->Prop),Inv X pins σ H s->(∀b∈fp,FpOk X pins H b)->tn i s.heap->J.go i H->
  wpAny (model P w) X.A (pyNext (.ref it)) (fun r s1=>∃u,r=some u/\
   wpAny (model P w) X.A (letOwnedTupleGo tg (.ref it) u) (fun _ s2=>∃x H',Inv X pins σ H' s2/\RelV x u/\J.yld i H x H'/\tn (i+1) s2.heap/\∀b∈fp,H' b=none) E s1) E s
 done:∀(X:Cx),X.prog=P->X.w=w->X.K=K->X.calm=true->∀(i:Nat) (pins:List (Addr × Obj)) (s:Shared) (σ:St) (H:Hp) (E:Value->Shared->Prop),Inv X pins σ H s->(∀b∈fp,FpOk X pins H b)->tn i s.heap->J.stop i H->
  wpAny (model P w) X.A (pyNext (.ref it)) (fun r s1=>r=none/\Inv X pins σ H s1) E s
 self:∀(A:Around) (i:Nat) (s:Shared) (Q:Value->Shared->Prop) (E:Value->Shared->Prop),tn i s.heap->Q (.ref it) s->wpAny (model P w) A (pyIter (.ref it)) Q E s
abbrev TI:=St->Hp->(It->Hp->Prop)->Prop
def PIE(X:Cx)(pins:List (Addr × Obj))(σ:St)(tg:Expr)(R:It->Hp->Prop)(itv:Value)(s2:Shared):Prop:=
 ∃(it:Addr) (fp:List Addr) (tn:Nat->Heap->Prop) (J:It) (H':Hp),itv=.ref it/\Inv X pins σ H' s2/\Turn X.prog X.w X.K tg J fp it tn/\tn 0 s2.heap/\(∀b∈fp,FpOk X pins H' b)/\R J H'
def PI(X:Cx)(tg iter:Expr)(wi:TI):Prop:=
 ∀(pins:List (Addr × Obj)) (s:Shared) (σ:St) (H:Hp) (R:It->Hp->Prop),Inv X pins σ H s->wi σ H R->
  wpAny (model X.prog X.w) X.A (eval iter X.env) (fun v s1=>wpAny (model X.prog X.w) X.A (pyIter v) (PIE X pins σ tg R) X.xe s1) X.xe s
theorem Yn8{M:Model}{A:Around}{E:Value->Shared->Prop}{s:Shared}{tg:Expr}{it:Addr}{u:Value}{o:Obj}{n:String}{vs:Array Value}{Q:Unit->Shared->Prop}(ho:s.heap.get? it=some o)(hc:o.cls=.type n)(hd:o.data=.fields vs)
 (hn:["enumerate","zip","dict_itemiterator","dict_reverseitemiterator","odict_iterator","itertools.zip_longest","itertools.pairwise"].contains n=false) (hQ:Q () s):wpAny M A (letOwnedTupleGo tg (.ref it) u) Q E s:=by
 unfold letOwnedTupleGo
 cases tg<;>first
  | exact wpAny_pure hQ
  | (cases u<;>first
   | exact wpAny_pure hQ
   | (refine wpAny_bind (wpAny_load ho ?_)
      rw[hc,hd]
      show wpAny M A (if (["enumerate","zip","dict_itemiterator","dict_reverseitemiterator","odict_iterator","itertools.zip_longest","itertools.pairwise"].contains n&&vs[0]?==some (rawInt _))=true then _ else _) Q E s
      rw[if_neg (by intro h;rw[hn,Bool.false_and]at h;cases h)]
      exact wpAny_pure hQ))
def Itl(K:W.Frag)(a:Addr):It:=
 ⟨fun i H=>∃xs x,SqL K H a xs/\xs[i]?=some x,fun i H x H'=>H'=H/\∀xs,SqL K H a xs->xs[i]?=some x,fun i H=>∃xs,SqL K H a xs/\xs.length<=i⟩
def Itt(K:W.Frag)(a:Addr):It:=
 ⟨fun i H=>∃xs x,SqT K H a xs/\xs[i]?=some x,fun i H x H'=>H'=H/\∀xs,SqT K H a xs->xs[i]?=some x,fun i H=>∃xs,SqT K H a xs/\xs.length<=i⟩
def Itr(lo:Int)(n:Nat):It:=⟨fun i _=>i < n,fun i H x H'=>H'=H/\x=.int (lo+i),fun i _=>n<=i⟩
theorem Yjz{P:Program}{w:World}{K:W.Frag}{tg:Expr}(a it:Addr):Turn P w K tg (Itl K a) [it] it (fun i h=>h.IsListIter it a i) where
 mem:=by simp
 obj:=fun i h st b hb=>by
  have e:b=it:=by simpa using hb
  subst e
  obtain⟨o,e,c,d⟩:=st
  exact⟨o,e,fun v z=>by rw[d]at z;cases z⟩
 keep:=fun i h h' st k=>st.at fun o e=>k it (by simp) o e
 item:=by
  intro X hP hw hK hc i pins s σ H E I hf st hg
  subst hP hw hK
  obtain⟨xs,x,hq,hx⟩:=hg
  obtain⟨its,rv,p,hz⟩:=I.list hq
  obtain⟨u,hu,ru⟩:=rv.get hx
  obtain⟨f0,f1,f2,f3,f4,f5⟩:=hf it (by simp)
  refine wpAny_pyNext_list_item st p.isList (x:=u) (by simpa using hu) fun h' st' sb=>?_
  have I1:Inv X pins σ H { s with heap:=h' }:=I.turned (t':=s.toks) (fun b o hb e=>(sb.2 b hb).trans e) f0 f1 f3 f4 f5
  obtain⟨o,e,c,d⟩:=id st'
  exact⟨u,rfl,Yn8 (s:={ s with heap:=h' }) e c d (by decide) ⟨x,H,I1,ru,⟨rfl,fun ys hy=>by rw[I.list_inj hy hq];exact hx⟩,st',fun b hb=>(hf b hb).1⟩⟩
 done:=by
  intro X hP hw hK hc i pins s σ H E I hf st hg
  subst hP hw hK
  obtain⟨xs,hq,hx⟩:=hg
  obtain⟨its,rv,p,hz⟩:=I.list hq
  obtain⟨f0,f1,f2,f3,f4,f5⟩:=hf it (by simp)
  have hl:=rv.length
  exact wpAny_pyNext_list_end (I.ok.hd hc) st p.isList (by simp;lia) fun h' eb=>⟨rfl,I.turned (t':=s.toks) (fun b o hb e=>eb b o hb e) f0 f1 f3 f4 f5⟩
 self:=fun _ _ _ _ _ st h=>wpAny_pyIter_listiter st h
theorem Yi9{P:Program}{w:World}{K:W.Frag}{tg:Expr}(a it:Addr):Turn P w K tg (Itt K a) [it] it (fun i h=>h.IsTupleIter it a i) where
 mem:=by simp
 obj:=fun i h st b hb=>by
  have e:b=it:=by simpa using hb
  subst e
  obtain⟨o,e,c,d⟩:=st
  exact⟨o,e,fun v z=>by rw[d]at z;cases z⟩
 keep:=fun i h h' st k=>st.at fun o e=>k it (by simp) o e
 item:=by
  intro X hP hw hK hc i pins s σ H E I hf st hg
  subst hP hw hK
  obtain⟨xs,x,hq,hx⟩:=hg
  obtain⟨its,rv,p,hz⟩:=I.tuple hq
  obtain⟨u,hu,ru⟩:=rv.get hx
  obtain⟨f0,f1,f2,f3,f4,f5⟩:=hf it (by simp)
  refine wpAny_pyNext_tuple_item st (show s.heap.IsTuple a its.toArray from p) (x:=u) (by simpa using hu) fun h' st' sb=>?_
  have I1:Inv X pins σ H { s with heap:=h' }:=I.turned (t':=s.toks) (fun b o hb e=>(sb.2 b hb).trans e) f0 f1 f3 f4 f5
  obtain⟨o,e,c,d⟩:=id st'
  exact⟨u,rfl,Yn8 (s:={ s with heap:=h' }) e c d (by decide) ⟨x,H,I1,ru,⟨rfl,fun ys hy=>by rw[I.tuple_inj hy hq];exact hx⟩,st',fun b hb=>(hf b hb).1⟩⟩
 done:=by
  intro X hP hw hK hc i pins s σ H E I hf st hg
  subst hP hw hK
  obtain⟨xs,hq,hx⟩:=hg
  obtain⟨its,rv,p,hz⟩:=I.tuple hq
  obtain⟨f0,f1,f2,f3,f4,f5⟩:=hf it (by simp)
  have hl:=rv.length
  exact wpAny_pyNext_tuple_end (I.ok.hd hc) st (show s.heap.IsTuple a its.toArray from p) (by simp;lia) fun h' eb=>⟨rfl,I.turned (t':=s.toks) (fun b o hb e=>eb b o hb e) f0 f1 f3 f4 f5⟩
 self:=fun _ _ _ _ _ st h=>wpAny_pyIter_tupleiter st h
theorem Yja{P:Program}{w:World}{K:W.Frag}{tg:Expr}(it:Addr)(lo:Int)(n:Nat):Turn P w K tg (Itr lo n) [it] it (fun i h=>IsRangeIter h it (lo+(i:Nat) * 1) ((n:Int) - (i:Nat)) 1) where
 mem:=by simp
 obj:=fun i h st b hb=>by
  have e:b=it:=by simpa using hb
  subst e
  exact⟨_,st,fun v z=>by
   have z':Data.fields _=Data.cell v:=z
   cases z'⟩
 keep:=fun i h h' st k=>k it (by simp) _ st
 item:=by
  intro X hP hw hK hc i pins s σ H E I hf st hg
  subst hP hw hK
  obtain⟨f0,f1,f2,f3,f4,f5⟩:=hf it (by simp)
  have W:=Walks.range (prog:=X.prog) (w:=X.w) (I.ok.hd hc) it lo 1 n
  refine W.item i s _ _ hg st fun v h' tk hv st' kk=>?_
  obtain⟨t,rfl⟩:=hv
  have I1:Inv X pins σ H { s with heap:=h',toks:=tk }:=I.turned (fun b o hb e=>kk b o (by simpa using hb) e) f0 f1 f3 f4 f5
  refine⟨_,rfl,Yn8 (s:={ s with heap:=h',toks:=tk }) (n:="range_iterator") st' rfl rfl (by decide) ⟨.int (lo+i),H,I1,⟨t,?_⟩,⟨rfl,rfl⟩,st',fun b hb=>(hf b hb).1⟩⟩
  rw[Int.mul_one]
 done:=by
  intro X hP hw hK hc i pins s σ H E I hf st hg
  subst hP hw hK
  obtain⟨f0,f1,f2,f3,f4,f5⟩:=hf it (by simp)
  exact wpAny_pyNext_range_end (I.ok.hd hc) st (by have:n<=i:=hg;lia) fun h' eb=>⟨rfl,I.turned (t':=s.toks) (fun b o hb e=>eb b o hb e) f0 f1 f3 f4 f5⟩
 self:=fun _ _ _ _ _ st h=>wpAny_pyIter_rangeiter st h
end L2
namespace L2
open PySem PySem.Spec PyProof.Rows
section
variable {X:Cx} {tg:Expr}
theorem Yl8{pins:List (Addr × Obj)}{σ:St}{H:Hp}{s:Shared}{R:It->Hp->Prop}{E:Value->Shared->Prop}{lo hi:Int}{t u v:Tok}{tk:Nat}(I:Inv X pins σ H s)(h1:-(2 ^ 62)<=lo)(h2:lo < 2 ^ 62)(h3:-(2 ^ 62)<=hi)(h4:hi < 2 ^ 62)
 (q:R (Itr lo (hi - lo).toNat) H):wpAny (model X.prog X.w) X.A (pyIter (.ref s.heap.objs.size)) (PIE X pins σ tg R) E { s with heap:=s.heap.push { cls:=.type "range",data:=.fields #[.int lo t,.int hi u,.int 1 v] },toks:=tk }:=by
 refine wpAny_pyIter_range (IsRange.new ..) (small_one h1 h2 h3 h4) ?_
 have I1:Inv X pins σ H { s with heap:=s.heap.push { cls:=.type "range",data:=.fields #[.int lo t,.int hi u,.int 1 v] },toks:=tk }:=I.kept fun b o e=>qe _ e
 refine⟨(s.heap.push { cls:=.type "range",data:=.fields #[.int lo t,.int hi u,.int 1 v] }).objs.size,[(s.heap.push { cls:=.type "range",data:=.fields #[.int lo t,.int hi u,.int 1 v] }).objs.size],_,_,H,rfl,
  I1.kept (t':=tk) fun b o e=>qe _ e,Yja _ lo (hi - lo).toNat,?_,fun b hb=>?_,q⟩
 ·have e1:lo+((0:Nat):Int) * 1=lo:=by simp
  have e2:(((hi - lo).toNat:Nat):Int) - ((0:Nat):Int)=Builtin.Range.rangeSize lo hi 1:=by rw[rangeSize_one];split<;>lia
  show IsRangeIter _ _ (lo+((0:Nat):Int) * 1) ((((hi - lo).toNat:Nat):Int) - ((0:Nat):Int)) 1
  rw[e1,e2]
  exact qo _ rfl
 ·have e:b=(s.heap.push { cls:=.type "range",data:=.fields #[.int lo t,.int hi u,.int 1 v] }).objs.size:=by simpa using hb
  subst e
  exact I1.fpOk (qt _) (I1.hok.fresh (qt _))
def Yp7(ta:TA):TI:=fun σ H R=>ta σ H fun vs H1=>∃j:Int,vs=[.int j]/\-(2 ^ 62)<=j/\j < 2 ^ 62/\R (Itr 0 j.toNat) H1
theorem Yfc{a:Expr}{ta:TA}{p pos:Pos}(hg:Gl X "range")(hm:X.mg "range"=none)(ha:PA X [a] ta)(hs:starEach [a] X.env=[(false,eval a X.env)]:=by rfl):PI X tg (.Call (.Name "range" p) [a] [] pos) (Yp7 ta):=by
 intro pins s σ H R I h
 refine Call_ (Yfb I hg hm boot_range (PyProof.Rows.callWith_type1 (thn (ha pos pins s σ H _ I h) fun us s1 hx_=>?_) hs rfl))
 obtain⟨vs,H1,I1,r1,q1⟩:=hx_
 obtain⟨j,e,q1,q2,q⟩:=q1
 subst e
 cases r1 with
 | cons r rr=>
   cases rr
   obtain⟨t,rfl⟩:=r
   exact call_range_1 (Yl8 I1 (by lia) (by lia) q1 q2 (by simpa using q))
def tFor(wi:TI)(g:TG)(tb:TS):TS:=fun D σ H=>wi σ H fun J H1=>∃W:Nat->Nat->St->Hp->Prop,(∃m,W 0 m σ H1)/\∀i m σ H,W i m σ H->
 (J.stop i H/\D.nx σ H)\/(J.go i H/\∃N:St->Hp->Prop,(∀σ' H',N σ' H'->∃m',m' < m/\W (i+1) m' σ' H')/\∀x H',J.yld i H x H'->g x σ H' fun σ2 H2=>tb { D with nx:=N,ct:=N,bk:=D.nx } σ2 H2)
def Yg3(fp:List Addr)(h:Heap):List (Addr × Obj):=fp.filterMap fun b=>(h.get? b).map fun o=>(b,o)
theorem Yc8{fp:List Addr}{h:Heap}{b:Addr}{o:Obj}(hb:b∈fp)(e:h.get? b=some o):(b,o)∈Yg3 fp h:=List.mem_filterMap.mpr ⟨b,hb,by rw[e];rfl⟩
theorem Yj0{fp:List Addr}{h:Heap}{p:Addr × Obj}(hp:p∈Yg3 fp h):p.1∈fp/\h.get? p.1=some p.2:=by
 obtain⟨b,hb,e⟩:=List.mem_filterMap.mp hp
 cases q:h.get? b with
 | none=>rw[q]at e;cases e
 | some o=>
   rw[q]at e
   have e':(b,o)=p:=Option.some.inj e
   subst e'
   exact⟨hb,q⟩
theorem Inv.pinned{pins:List (Addr × Obj)}{σ:St}{H:Hp}{s:Shared}{fp:List Addr}(I:Inv X pins σ H s)(hf:∀b∈fp,FpOk X pins H b)(ho:∀b∈fp,∃o,s.heap.get? b=some o/\∀v,o.data≠.cell v):Inv X (pins++Yg3 fp s.heap) σ H s:=
 I.pins_of fun p hp=>(qu hp).elim (fun z=>I.pin p (Qe _ z)) fun z=>by
  obtain⟨hb,e⟩:=Yj0 z
  obtain⟨f0,f1,f2,_⟩:=hf p.1 hb
  obtain⟨o,e',d⟩:=ho p.1 hb
  rw[e]at e';cases e'
  exact⟨e,f0,f1,f2,d⟩
theorem Inv.unpinned{pins pl:List (Addr × Obj)}{σ:St}{H:Hp}{s:Shared}(I:Inv X (pins++pl) σ H s):Inv X pins σ H s:=I.pins_of fun p hp=>I.pin p (Qe _ (List.mem_append_left _ hp))
theorem Yj1{iter:Expr}{body:List Stmt}{wi:TI}{g:TG}{tb:TS}{pos:Pos}(hp:PassesOwn (model X.prog X.w) X.A X.env X.xe)(hc:X.calm=true)(hi:PI X tg iter wi)(hg:PG X tg g)(hb:PSs X body tb)
 (hs:∀x,foldedSetIterable iter X.env x=pure x:=by intro _;rfl):PS X (.For tg iter body [] pos) (tFor wi g tb):=by
 intro pins s σ H D I h
 refine wpAny_For (thn (hi pins s σ H _ I h) fun v s1 h1=>thn h1 fun itv s2 h2=>?_) hs
 obtain⟨it,fp,tn,J,H2,e,I2,T,st2,f2,W,⟨m0,w0⟩,turn⟩:=h2
 subst e
 have stat:∀{H':Hp},(∀b∈fp,H' b=none)->∀b∈fp,FpOk X pins H' b:=fun hn b hb=>⟨hn b hb,(f2 b hb).2⟩
 refine codeAny_forLoop_any (fun n s'=>∃i σ' H',Inv X pins σ' H' s'/\tn i s'.heap/\(∀b∈fp,H' b=none)/\W i n σ' H') ?_ m0 ⟨0,σ,H2,I2,st2,fun b hb=>(f2 b hb).1,w0⟩
 rintro n s3 ⟨i,σ3,H3,I3,st3,fr3,w3⟩
 rcases turn i n σ3 H3 w3 with⟨stop,qn⟩ | ⟨go,N,hN,step⟩
 ·refine wpAny_passesOwn hp (thn (T.done X rfl rfl rfl hc i pins s3 σ3 H3 X.xe I3 (stat fr3) st3 stop) fun r s4 hx_=>?_)
  obtain⟨hr,I4⟩:=hx_
  subst hr
  exact wpAny_execs_nil ⟨σ3,H3,I4,qn⟩
 ·refine wpAny_passesOwn hp (thn (T.item X rfl rfl rfl hc i pins s3 σ3 H3 X.xe I3 (stat fr3) st3 go) fun r s4 hx_=>?_)
  obtain⟨u,hr,h4⟩:=hx_
  subst hr
  refine wpAny_passesOwn hp (thn h4 fun _ s5 hx_=>?_)
  obtain⟨x,H5,I5,r5,y5,st5,fr5⟩:=hx_
  have I5':=I5.pinned (stat fr5) (T.obj _ _ st5)
  refine wpAny_passesOwn hp (thn (hg _ s5 σ3 H5 x u _ I5' r5 (step x H5 y5)) fun _ s6 hx_=>?_)
  obtain⟨σ6,H6,I6,q6⟩:=hx_
  refine wpAny_passesOwn hp (thn (hb _ s6 σ6 H6 _ I6 q6) fun f s7 q7=>?_)
  have again:∀{σ7:St} {H7:Hp},Inv X (pins++Yg3 fp s5.heap) σ7 H7 s7->N σ7 H7->∃m,m < n/\∃i σ' H',Inv X pins σ' H' s7/\tn i s7.heap/\(∀b∈fp,H' b=none)/\W i m σ' H':=fun {σ7 H7} I7 n7=>by
   obtain⟨m',hm,w7⟩:=hN σ7 H7 n7
   refine⟨m',hm,i+1,σ7,H7,I7.unpinned,T.keep _ _ _ st5 fun b hb o e=>(I7.pin (b,o) (Qe _ (Qe _ (Yc8 hb e)))).1,fun b hb=>?_,w7⟩
   obtain⟨o,e,d⟩:=T.obj _ _ st5 b hb
   exact(I7.pin (b,o) (Qe _ (Qe _ (Yc8 hb e)))).2.1
  cases f with
  | next=>obtain⟨σ7,H7,I7,n7⟩:=q7;exact again I7 n7
  | cont=>obtain⟨σ7,H7,I7,n7⟩:=q7;exact again I7 n7
  | brk=>obtain⟨σ7,H7,I7,q7⟩:=q7;exact⟨σ7,H7,I7.unpinned,q7⟩
  | ret v=>obtain⟨x7,σ7,H7,I7,r7,q7⟩:=q7;exact⟨x7,σ7,H7,I7.unpinned,r7,q7⟩
end
end L2
namespace L2
open PySem PySem.Spec PyProof.Rows
abbrev R2:=V->V->Hp->VK->Prop
def OpR(X:Cx)(f:Value->Value->Sem Value)(r:R2):Prop:=
 ∀(pins:List (Addr × Obj)) (s:Shared) (σ:St) (H:Hp) (x y:V) (v u:Value) (Q:VK),Inv X pins σ H s->RelV x v->RelV y u->r x y H Q->
  wpAny (model X.prog X.w) X.A (f v u) (EP X pins σ Q) X.xe s
def Yfd(X:Cx)(f:Value)(r:List V->Hp->VK->Prop):Prop:=
 ∀(pins:List (Addr × Obj)) (s:Shared) (σ:St) (H:Hp) (xs:List V) (us:List Value) (Q:VK),Inv X pins σ H s->Vals xs us->r xs H Q->
  wpAny (model X.prog X.w) X.A (call f us) (EP X pins σ Q) X.xe s
def TruR(X:Cx)(r:V->Hp->(Bool->Hp->Prop)->Prop):Prop:=
 ∀(pins:List (Addr × Obj)) (s:Shared) (σ:St) (H:Hp) (x:V) (v:Value) (Q:Bool->Hp->Prop),Inv X pins σ H s->RelV x v->r x H Q->
  wpAny (model X.prog X.w) X.A (truthy v) (TP X pins σ Q) X.xe s
def tOp(r:R2)(ta tb:TE):TE:=fun σ H Q=>ta σ H fun x H1=>tb σ H1 fun y H2=>r x y H2 Q
def rI(C:Int->Int->Prop)(g:Int->Int->V):R2:=fun x y H Q=>∃i j,x=.int i/\y=.int j/\C i j/\Q (g i j) H
def rI0(g:Int->Int->V):R2:=fun x y H Q=>∃i j,x=.int i/\y=.int j/\Q (g i j) H
section
variable {X:Cx} {a b c:Expr} {ta tb tc:TE} {pos:Pos}
theorem binT(ha:PE X a ta)(hb:PE X b tb){pins:List (Addr × Obj)}{s:Shared}{σ:St}{H:Hp}{R:V->V->Hp->Prop}(I:Inv X pins σ H s)
 (h:ta σ H fun x H1=>tb σ H1 fun y H2=>R x y H2) {Q:Value->Shared->Prop} {f:Value->Value->Sem Value}
 (hf:∀v u s2 x y H2,Inv X pins σ H2 s2->RelV x v->RelV y u->R x y H2->wpAny (model X.prog X.w) X.A (f v u) Q X.xe s2) :
 wpAny (model X.prog X.w) X.A (eval a X.env) (fun v s₁=>wpAny (model X.prog X.w) X.A (eval b X.env) (fun u s₂=>wpAny (model X.prog X.w) X.A (f v u) Q X.xe s₂) X.xe s₁) X.xe s:=by
 refine thn (ha pins s σ H _ I h) fun v s1 hx_=>?_
 obtain⟨x,H1,I1,r1,q1⟩:=hx_
 refine thn (hb pins s1 σ H1 _ I1 q1) fun u s2 hx_=>?_
 obtain⟨y,H2,I2,r2,q2⟩:=hx_
 exact hf v u s2 x y H2 I2 r1 r2 q2
theorem Yn9{op:Operator}{r:R2}(ho:OpR X (binaryOp op) r)(ha:PE X a ta)(hb:PE X b tb):PE X (.BinOp a op b pos) (tOp r ta tb):=by
 intro pins s σ H Q I h
 exact wpAny_BinOp (binT ha hb I h fun v u s2 x y H2 I2 rx ry q=>ho pins s2 σ H2 x y v u Q I2 rx ry q)
theorem opI{f:Value->Value->Sem Value}{C:Int->Int->Prop}{g:Int->Int->Int}
 (rule:∀(i j:Int) (t u:Tok) (s:Shared) (Q:Value->Shared->Prop) (E:Value->Shared->Prop),C i j->Q (.int (g i j) s.toks) { s with toks:=s.toks+1 }->wpAny (model X.prog X.w) X.A (f (.int i t) (.int j u)) Q E s) :
 OpR X f (rI C fun i j=>.int (g i j)):=by
 intro pins s σ H x y v u Q I rx ry h
 obtain⟨i,j,rfl,rfl,hc,q⟩:=h
 obtain⟨t,rfl⟩:=rx
 obtain⟨t',rfl⟩:=ry
 exact rule i j t t' s _ _ hc ⟨.int (g i j),H,I.tok _,⟨_,rfl⟩,q⟩
theorem opI0{f:Value->Value->Sem Value}{g:Int->Int->Int}
 (rule:∀(i j:Int) (t u:Tok) (s:Shared) (Q:Value->Shared->Prop) (E:Value->Shared->Prop),Q (.int (g i j) s.toks) { s with toks:=s.toks+1 }->wpAny (model X.prog X.w) X.A (f (.int i t) (.int j u)) Q E s) :
 OpR X f (rI0 fun i j=>.int (g i j)):=by
 intro pins s σ H x y v u Q I rx ry h
 obtain⟨i,j,rfl,rfl,q⟩:=h
 obtain⟨t,rfl⟩:=rx
 obtain⟨t',rfl⟩:=ry
 exact rule i j t t' s _ _ ⟨.int (g i j),H,I.tok _,⟨_,rfl⟩,q⟩
theorem opB0{f:Value->Value->Sem Value}{g:Int->Int->Bool}
 (rule:∀(i j:Int) (t u:Tok) (s:Shared) (Q:Value->Shared->Prop) (E:Value->Shared->Prop),Q (.bool (g i j)) s->wpAny (model X.prog X.w) X.A (f (.int i t) (.int j u)) Q E s) :
 OpR X f (rI0 fun i j=>.bl (g i j)):=by
 intro pins s σ H x y v u Q I rx ry h
 obtain⟨i,j,rfl,rfl,q⟩:=h
 obtain⟨t,rfl⟩:=rx
 obtain⟨t',rfl⟩:=ry
 exact rule i j t t' s _ _ ⟨.bl (g i j),H,I,rfl,q⟩
def CDiv(i j:Int):Prop:=0 < j/\j < 1073741824
def CMul(i j:Int):Prop:=(-(2 ^ 64) < i/\i < 2 ^ 64)\/(-(2 ^ 64) < j/\j < 2 ^ 64)
theorem CMul.ok{i j:Int}(h:CMul i j):IntMulOk i j:=by
 rcases h with⟨h1,h2⟩ | ⟨h1,h2⟩
 ·exact .of_left (intBits_le_64 h1 h2)
 ·exact .of_right (intBits_le_64 h1 h2)
theorem Ynh:OpR X (binaryOp .Add) (rI0 fun i j=>.int (i+j)):=opI0 fun _ _ _ _ _ _ _ q=>add_int q
theorem Yp8:OpR X (binaryOp .Sub) (rI0 fun i j=>.int (i - j)):=opI0 fun _ _ _ _ _ _ _ q=>sub_int q
theorem Yp9:OpR X (binaryOp .Mult) (rI CMul fun i j=>.int (i * j)):=opI fun _ _ _ _ _ _ _ hc q=>mul_int q hc.ok
theorem Yoa:OpR X (binaryOp .FloorDiv) (rI CDiv fun i j=>.int (i / j)):=opI fun i j _ _ _ _ _ hc q=>by
 have h1:(0:Int) < j:=hc.1
 have h2:j < 1073741824:=hc.2
 exact floordiv_int (by lia) (by rw[Int.fdiv_eq_ediv_of_nonneg i (by lia)];exact q) (.inl (PyProof.noPylong_small (by lia)))
theorem Yni:OpR X (binaryOp .Mod) (rI (fun _ j=>0 < j) fun i j=>.int (i % j)):=opI fun i j _ _ _ _ _ hc q=>by
 have h1:(0:Int) < j:=hc
 exact mod_int' (by lia) (by rw[Int.fmod_eq_emod_of_nonneg i (by lia)];exact q)
theorem Yqa{pins:List (Addr × Obj)}{σ:St}{H:Hp}{s:Shared}{Q:VK}{k k':Bool}(I:Inv X pins σ H s)(q:Q (.bl k) H)(e:k=k'):EP X pins σ Q (.bool k') s:=by
 subst e
 exact⟨.bl k,H,I,rfl,q⟩
theorem Ysk:OpR X (compareOp .Gt) (rI0 fun i j=>.bl (decide (j < i))):=opB0 fun _ _ _ _ _ _ _ q=>gt_int q
theorem Yqb:OpR X (compareOp .Is) (fun x y H Q=>y=.non/\Q (.bl (decide (x=.non))) H):=by
 intro pins s σ H x y v u Q I rx ry h
 obtain⟨rfl,q⟩:=h
 cases ry
 refine is_none_gen (Yqa I q ?_)
 cases x<;>first
  | (cases rx;rfl)
  | (obtain⟨t,rfl⟩:=rx;rfl)
theorem Yg4(b:Expr){op:CmpOp}(h:op≠.In:=by decide)(h2:op≠.NotIn:=by decide):behindInMarks op b=false:=by
 have e1:(op==CmpOp.In)=false:=by cases op<;>first | rfl | exact absurd rfl h
 have e2:(op==CmpOp.NotIn)=false:=by cases op<;>first | rfl | exact absurd rfl h2
 cases b with
 | Set elts k p=>
   show((k==0)&&((op==CmpOp.In)||(op==CmpOp.NotIn))&&_)=false
   rw[e1,e2]
   cases (k==0)<;>rfl
 | _=>rfl
theorem Yob{op:CmpOp}{r:R2}(ho:OpR X (compareOp op) r)(ha:PE X a ta)(hb:PE X b tb)(hm:behindInMarks op b=false):PE X (.Compare a [op] [b] pos) (tOp r ta tb):=by
 intro pins s σ H Q I h
 exact wpAny_Compare1 (binT ha hb I h fun v u s2 x y H2 I2 rx ry q=>ho pins s2 σ H2 x y v u Q I2 rx ry q) hm
def Yqc(t:TE):TT:=fun σ H Q=>t σ H fun x H'=>∃k,x=.bl k/\Q k H'
theorem Yh0{op:CmpOp}{r:R2}(ho:OpR X (compareOp op) r)(ha:PE X a ta)(hb:PE X b tb)(hm:behindInMarks op b=false):PT X (.Compare a [op] [b] pos) (Yqc (tOp r ta tb)):=by
 intro pins s σ H Q I h
 refine wpAny_isTrue_Compare1 (thn (ha pins s σ H _ I h) fun v s1 hx_=>?_) hm
 obtain⟨x,H1,I1,r1,q1⟩:=hx_
 refine thn (hb pins s1 σ H1 _ I1 q1) fun u s2 hx_=>?_
 obtain⟨y,H2,I2,r2,q2⟩:=hx_
 refine thn (ho pins s2 σ H2 x y v u _ I2 r1 r2 q2) fun c s3 hx_=>?_
 obtain⟨z,H3,I3,r3,k,e,q3⟩:=hx_
 subst e
 cases r3
 exact wpAny_truthy_bool ⟨H3,I3,q3⟩
def TruV(K:W.Frag)(x:V)(H:Hp)(k:Bool):Prop:=
 match x with
 | .non=>k=false
 | .bl b=>k=b
 | .int i=>k=(i != 0)
 | .str y=>y.length<=sizeLine/\k=((y.length:Int) != 0)
 | .byt y=>y.size<=sizeLine/\k=((y.size:Int) != 0)
 | .ref p=>(∃xs,SqL K H p xs/\k=!xs.isEmpty)\/(∃xs,SqT K H p xs/\k=!xs.isEmpty)\/∃kvs,H p=some (.dK kvs)/\k=!kvs.isEmpty
 | _=>False
theorem Yjb{κ:Type}{kvs:List (κ × V)}{vs:List (κ × Value)}(r:KV kvs vs):(!vs.isEmpty)=!kvs.isEmpty:=by
 cases r<;>rfl
theorem Yf7{xs:List V}{its:List Value}(r:Vals xs its):(!its.toArray.isEmpty)=!xs.isEmpty:=by
 cases r<;>simp
theorem Yg5:(sizeLine:Nat) < 2 ^ 63:=by rw[sizeLine_eq];decide
theorem Yqd:TruR X (fun x H Q=>∃k,TruV X.K x H k/\Q k H):=by
 intro pins s σ H x v Q I rx h
 obtain⟨k,e,q⟩:=h
 have hl:=Yg5
 have hs:sizeLine=16777216:=sizeLine_eq
 cases x with
 | non=>
   cases rx
   have e':k=false:=e
   subst e'
   exact truthy_none ⟨H,I,q⟩
 | bl b=>
   cases rx
   have e':k=b:=e
   subst e'
   exact wpAny_truthy_bool ⟨H,I,q⟩
 | int i=>
   obtain⟨t,rfl⟩:=rx
   have e':k=(i != 0):=e
   subst e'
   exact PySem.P.truthy_int ⟨H,I,q⟩
 | str y=>
   obtain⟨t,rfl⟩:=rx
   obtain⟨hy,e'⟩:y.length<=sizeLine/\k=((y.length:Int) != 0):=e
   subst e'
   exact PySem.P.truthy_str (by lia) ⟨H,I.tok _,q⟩
 | byt y=>
   obtain⟨t,rfl⟩:=rx
   obtain⟨hy,e'⟩:y.size<=sizeLine/\k=((y.size:Int) != 0):=e
   subst e'
   exact W.truthy_bytes (by lia) ⟨H,I.tok _,q⟩
 | ref p=>
   cases rx
   have e':(∃xs,SqL X.K H p xs/\k=!xs.isEmpty)\/(∃xs,SqT X.K H p xs/\k=!xs.isEmpty)\/∃kvs,H p=some (.dK kvs)/\k=!kvs.isEmpty:=e
   rcases e' with⟨xs,hx,e'⟩ | ⟨xs,hx,e'⟩ | ⟨kvs,hx,e'⟩
   ·subst e'
    obtain⟨its,r,pl,hz⟩:=I.list hx
    have hlen:=r.length
    exact wpAny_truthy_list pl.isList (by simp only[qj];lia) ⟨H,I.tok _,by rw[Yf7 r];exact q⟩
   ·subst e'
    obtain⟨its,r,pl,hz⟩:=I.tuple hx
    have hlen:=r.length
    exact truthy_tuple pl (by simp only[qj];lia) ⟨H,I.tok _,by rw[Yf7 r];exact q⟩
   ·subst e'
    obtain⟨hz,hS,vs,r,m⟩:kvs.length<=sizeLine/\(p==sysModules)=false/\∃vs,KV kvs vs/\s.heap.DictOf (Yhx X.prog X.w) p vs:=I.hok p _ hx
    have hlen:kvs.length=vs.length:=Paired.length r
    exact wpAny_truthy_dict hS m (by lia) ⟨H,I.tok _,by rw[Yjb r];exact q⟩
 | _=>exact(show False from e).elim
theorem Yl9(ha:PE X a ta)(he:∀whole,isTrue a X.env whole=(do let v <-whole;standAt a.pos;holding [v] (truthy v))) :
 PT X a (fun σ H Q=>ta σ H fun x H'=>∃k,TruV X.K x H' k/\Q k H'):=by
 intro pins s σ H Q I h
 refine isTrue_plain (thn (ha pins s σ H _ I h) fun v s1 hx_=>?_) (he _)
 obtain⟨x,H1,I1,r1,q1⟩:=hx_
 exact Yqd pins s1 σ H1 x v Q I1 r1 q1
theorem Yjc:OpR X (binaryOp .Add) (fun x y H Q=>∃i j,x=.str i/\y=.str j/\i.length+j.length<=sizeLine/\Q (.str (i++j)) H):=by
 intro pins s σ H x y v u Q I rx ry h
 obtain⟨i,j,rfl,rfl,hz,q⟩:=h
 obtain⟨t,rfl⟩:=rx
 obtain⟨t',rfl⟩:=ry
 exact add_str (fun t' tk=>⟨.str (i++j),H,I.tok _,⟨_,rfl⟩,q⟩) hz
theorem Yh1{x:V}{us:List Value}(r:Vals [x] us):∃u,us=[u]/\RelV x u:=by
 cases r with
 | cons r1 r2=>cases r2;exact⟨_,rfl,r1⟩
theorem Yqe{x y:V}{us:List Value}(r:Vals [x,y] us):∃u w',us=[u,w']/\RelV x u/\RelV y w':=by
 cases r with
 | cons r1 r2=>
   cases r2 with
   | cons r3 r4=>cases r4;exact⟨_,_,rfl,r1,r3⟩
theorem Yfe:Yfd X (.type "int") (fun xs H Q=>(∃i,xs=[.int i]/\Q (.int i) H)\/∃k,xs=[.bl k]/\Q (.int (if k then 1 else 0)) H):=by
 intro pins s σ H xs us Q I r h
 rcases h with⟨i,rfl,q⟩ | ⟨k,rfl,q⟩
 ·obtain⟨u,rfl,t,rfl⟩:=Yh1 r
  exact call_int_int ⟨.int i,H,I,⟨_,rfl⟩,q⟩
 ·obtain⟨u,rfl,r1⟩:=Yh1 r
  cases r1
  exact call_int_bool ⟨.int (if k then 1 else 0),H,I.tok _,⟨_,rfl⟩,q⟩
theorem Yaa:Yfd X (.type "str") (fun xs H Q=>∃i,xs=[.int i]/\i.natAbs.log2 < 1920/\Q (.str (toString i)) H):=by
 intro pins s σ H xs us Q I r h
 obtain⟨i,rfl,hz,q⟩:=h
 obtain⟨u,rfl,t,rfl⟩:=Yh1 r
 exact PySem.P.str_of_int hz ⟨.str _,H,I.tok _,⟨_,rfl⟩,q⟩
end
end L2
namespace L2
open PySem PySem.Spec PyProof.Rows
structure ObjM(h:Heap)(x dx C:Addr)(mA:Str->Option Value):Prop where
 obj:h.get? x=some (W.instObj C dx)
 ns:h.Ns1 dx mA
 ne:dx≠x
theorem Yj2{h:Heap}{dx:Addr}{mA:Str->Option Value}(n:h.Ns1 dx mA):∃od,h.get? dx=some od/\∀name,W.lookIn name od=some (mA name):=by
 obtain⟨o,es,ep,ho,hd,hk,_,hm⟩:=n
 refine⟨o,ho,fun name=>?_⟩
 have e:=hm name
 unfold nsFind findBy at e
 rw[<-Array.find?_toList]at e
 unfold W.lookIn
 rw[hd]
 dsimp only
 split
 ·rename_i y q
  rw[q]at e
  exact congrArg some e
 ·rename_i q
  rw[q]at e
  have a:es.toList.any (·.refKey)=false:=by
   rw[List.any_eq_false]
   intro y hy
   obtain⟨z,t,hkey⟩:=hk y (Array.mem_toList_iff.mp hy)
   simp[DictEntry.refKey,hkey]
  have a':¬es.toList.any (·.refKey)=true:=by rw[a];exact qi
  rw[if_neg a']
  exact congrArg some e
theorem ObjM.look{h:Heap}{x dx C:Addr}{mA:Str->Option Value}(I:ObjM h x dx C mA):∃od,W.InstAt h x (W.instObj C dx) C (some od)/\∀name,W.lookIn name od=some (mA name):=
 let ⟨od,ho,hl⟩:=Yj2 I.ns
 ⟨od,⟨I.obj,rfl,rfl,ho⟩,hl⟩
section
variable {P:Program} {w:World} {H H':Hp} {h h':Heap} {a C dx:Addr} {fs fs':List (Str × V)}
theorem Yoc(hok:HOk P w H h)(e:H a=some (.ins C dx fs)):∃mA,ObjM h a dx C mA/\(∀f,RelO (fs.lookup f) (mA f))/\PySem.Within mA (fs.map (·.1))/\fs.length<=1000/\H dx=some (.own a):=by
 obtain⟨d,z,ne,ob,mA,n,r,q⟩:=(show ObjOk P w H h a (.ins C dx fs) from hok a _ e)
 exact⟨mA,⟨ob,n,ne⟩,r,q,z,d⟩
end
structure Cls(K:W.Frag)(C:Addr):Prop where
 pg:W.plainGet K C Str.empty=true
 hd:W.hasDictIn K C=true
 po:W.plainOver K C=true
 sa:W.findIn K (.ref C) "__setattr__"=some (some (.builtin "object.__setattr__"))
theorem Cls.get{K:W.Frag}{C:Addr}(c:Cls K C)(f:Str):W.plainGet K C f=true:=c.pg
structure Con(K:W.Frag)(C:Addr)(f:Str)(v:V)(u:Value):Prop where
 at_:W.findIn K (.ref C) f=some (some u)
 rel:RelV v u
 get:W.specialIn K u "__get__"=some none
 cp:W.copiedNames.contains f=false
structure Meth(K:W.Frag)(C:Addr)(m:Str)(f:Addr):Prop where
 at_:W.findIn K (.ref C) m=some (some (.ref f))
 fn:W.isFn K (.ref f)=true
 kp:W.keepIn K (.ref f)=true
section
variable {X:Cx} {pins:List (Addr × Obj)} {σ:St} {H:Hp} {s:Shared} {A:Around} {E Q:Value->Shared->Prop} {c:Value} {b:Bool}
inductive TyOf (K:W.Frag) (H:Hp):V->Value->Prop where
 | non:TyOf K H .non (.type "NoneType")
 | bl (x:Bool):TyOf K H (.bl x) (.type "bool")
 | int (i:Int):TyOf K H (.int i) (.type "int")
 | str (x:Str):TyOf K H (.str x) (.type "str")
 | flt (x:UInt64):TyOf K H (.flt x) (.type "float")
 | lst {a:Addr} {xs:List V} (e:H a=some (.lst xs)):TyOf K H (.ref a) (.type "list")
 | frz {a:Addr} {o:Obj} {xs:List V} (e:H a=some (.frz o (.lst xs))):TyOf K H (.ref a) (.type "list")
 | tup {a:Addr} {xs:List V} (e:H a=some (.tup xs)):TyOf K H (.ref a) (.type "tuple")
 | dK {a:Addr} {kvs:List (Key × V)} (e:H a=some (.dK kvs)):TyOf K H (.ref a) (.type "dict")
 | dT {a:Addr} {kvs:List (List Key × V)} (e:H a=some (.dT kvs)):TyOf K H (.ref a) (.type "dict")
 | ins {a C dx:Addr} {fs:List (Str × V)} (e:H a=some (.ins C dx fs)) (cl:Cls K C) (ha:W.findIn K (.ref C) "__class__"=some (some (.builtin "object.__class__")))
  (hn:W.specialIn K (.builtin "object.__class__") "__get__"=some (some (.builtin "getset_descriptor.__get__"))) (htk:W.takesIn K (.builtin "object.__class__")=some true)
  (hm:W.mroIn K C (.type "object")=some true):TyOf K H (.ref a) (.ref C)
theorem Yj3{x:V}{u t:Value}(I:Inv X pins σ H s)(rx:RelV x u)(ty:TyOf X.K H x t)(e:W.kitOne X.K t c=some b)(h:∀tk,Q (.bool b) { s with toks:=tk }) :
 wpAny (model X.prog X.w) A (call (.builtin "isinstance") [u,c]) Q E s:=by
 cases ty with
 | non=>cases (show u=Value.none from rx);exact W.kia_one W.kitx_none I.kIn True.intro e (fun z=>nomatch z) h
 | bl y=>cases (show u=Value.bool y from rx);exact W.kia_one W.kitx_bool I.kIn True.intro e (fun z=>nomatch z) h
 | int i=>obtain⟨t,q⟩:=(show ∃t,u=Value.int i t from rx);cases q;exact W.kia_one W.kitx_int I.kIn True.intro e (fun z=>nomatch z) h
 | str y=>obtain⟨t,q⟩:=(show ∃t,u=Value.str y t from rx);cases q;exact W.kia_one W.kitx_str I.kIn True.intro e (fun z=>nomatch z) h
 | flt y=>obtain⟨t,q⟩:=(show ∃t,u=Value.float y t from rx);cases q;exact W.kia_one W.kitx_float I.kIn True.intro e (fun z=>nomatch z) h
 | @lst a xs ea=>
   cases (show u=Value.ref a from rx)
   obtain⟨_,_,n,_,h1⟩:=(show ObjOk X.prog X.w H s.heap a (.lst xs) from I.hok a _ ea)
   exact W.kia_one W.kitx_list I.kIn ⟨_,h1,rfl⟩ e (fun z=>nomatch z) h
 | @frz a ob xs ea=>
   cases (show u=Value.ref a from rx)
   obtain⟨_,_,_,n,_,h1⟩:=(show ObjOk X.prog X.w H s.heap a (.frz ob (.lst xs)) from I.hok a _ ea)
   exact W.kia_one W.kitx_list I.kIn ⟨_,h1,rfl⟩ e (fun z=>nomatch z) h
 | @tup a xs ea=>
   cases (show u=Value.ref a from rx)
   obtain⟨_,_,_,p⟩:=(show ObjOk X.prog X.w H s.heap a (.tup xs) from I.hok a _ ea)
   obtain⟨o,h1,h2,_⟩:=p
   exact W.kia_one W.kitx_tuple I.kIn ⟨o,h1,h2⟩ e (fun z=>nomatch z) h
 | @dK a kvs ea=>
   cases (show u=Value.ref a from rx)
   obtain⟨_,_,vs,_,p⟩:=(show ObjOk X.prog X.w H s.heap a (.dK kvs) from I.hok a _ ea)
   obtain⟨o,es,ep,h1,h2,_⟩:=p
   exact W.kia_one W.kitx_dict I.kIn ⟨o,h1,h2.1⟩ e (fun z=>nomatch z) h
 | @dT a kvs ea=>
   cases (show u=Value.ref a from rx)
   obtain⟨_,_,xs,_,o,es,ep,h1,h2,_⟩:=(show ObjOk X.prog X.w H s.heap a (.dT kvs) from I.hok a _ ea)
   exact W.kia_one W.kitx_dict I.kIn ⟨o,h1,h2.1⟩ e (fun z=>nomatch z) h
 | @ins a C dx fs ea cl ha hn htk hm=>
   cases (show u=Value.ref a from rx)
   obtain⟨mA,O,_⟩:=Yoc I.hok ea
   obtain⟨od,J,_⟩:=O.look
   exact W.kia_one (W.kitx_own (cl.get _) cl.hd ha hn htk hm) I.kIn J e (fun z=>nomatch z) h
end
end L2
namespace L2
open PySem PySem.Spec PyProof.Rows
structure Room(k:Nat)(A:Around):Prop where
 hd:A.handled=none
 dp:A.depth+3 * k+5 < recursionLimit
 un:A.units+16 * k+200 < cLine
theorem Room.mono{j k:Nat}{A:Around}(r:Room k A)(h:j<=k):Room j A:=⟨r.hd,by have:=r.dp;lia,by have:=r.un;lia⟩
theorem Room.deeper{k:Nat}{A:Around}(r:Room (k+1) A)(env:Env):Room k (A.deeper env):=
 ⟨r.hd,by have:=r.dp;show A.depth+1+3 * k+5 < _;lia,by have:=r.un;show A.units+3+16 * k+200 < _;lia⟩
theorem Room.depth{k:Nat}{A:Around}(r:Room k A):A.depth < recursionLimit:=by have:=r.dp;lia
theorem Room.units{k:Nat}{A:Around}(r:Room k A):A.units+64 < cLine:=by have:=r.un;lia
def tNil:TA:=fun _ H Q=>Q [] H
def Ysl(ta:TE)(tr:TA):TA:=fun σ H Q=>ta σ H fun x H1=>tr σ H1 fun xs H2=>Q (x::xs) H2
section
variable {X:Cx} {e:Expr} {es:List Expr} {te:TE} {t:TA} {pos:Pos}
theorem Yer:PA X [] tNil:=fun _ _ _ _ H Q I h=>Calls.spliced_nil ⟨[],H,I,.nil,h⟩
theorem Yb7(ha:PE X e te)(hr:PA X es t)(hs:starEach (e::es) X.env=(false,eval e X.env)::starEach es X.env:=by rfl):PA X (e::es) (Ysl te t):=by
 intro pos pins s σ H Q I h
 rw[hs]
 show wpAny _ _ (spliced ((false,eval e X.env)::backTo pos (starEach es X.env))) _ _ s
 refine Calls.spliced_cons (thn (ha pins s σ H _ I h) fun u s1 hx_=>?_)
 obtain⟨x,H1,I1,r1,q1⟩:=hx_
 refine thn (hr pos pins s1 σ H1 _ I1 q1) fun us s2 hx_=>?_
 obtain⟨xs,H2,I2,r2,q2⟩:=hx_
 exact⟨x::xs,H2,I2,.cons r1 r2,q2⟩
def tTup(t:TA):TE:=fun σ H Q=>t σ H fun xs H1=>xs.length<=sizeLine/\∀p,H1 p=none->Q (.ref p) (upd H1 p (.tup xs))
def tLst(t:TA):TE:=fun σ H Q=>t σ H fun xs H1=>xs.length<=sizeLine/\∀p,H1 p=none->Q (.ref p) (upd H1 p (.lst xs))
theorem Ynj{x1}(h:PA X es t):PE X (.Tuple es x1 pos) (tTup t):=by
 intro pins s σ H Q I hq
 refine wpAny_Tuple_spliced (thn (h pos pins s σ H _ I hq) fun us s1 ⟨xs,H1,I1,r,z,q⟩=>⟨by rw[<-r.length];exact z,?_⟩)
 have hf:H1 s1.heap.objs.size=none:=I1.hok.fresh (qt _)
 refine⟨.ref s1.heap.objs.size,upd H1 s1.heap.objs.size (.tup xs),I1.laid (t':=s1.toks) (fun b u e=>qe _ e) (qt _) ?_,rfl,q _ hf⟩
 exact⟨z,us,r,⟨_,qo _ rfl,rfl,_,rfl⟩⟩
theorem Yqf(h:PA X es t):PE X (.List es pos) (tLst t):=by
 intro pins s σ H Q I hq
 refine wpAny_List_spliced (thn (h pos pins s σ H _ I hq) fun us s1 ⟨xs,H1,I1,r,z,q⟩=>⟨by rw[<-r.length];exact z,?_⟩)
 have hf:H1 s1.heap.objs.size=none:=I1.hok.fresh (qt _)
 refine⟨.ref s1.heap.objs.size,upd H1 s1.heap.objs.size (.lst xs),I1.laid (t':=s1.toks) (fun b u e=>qe _ e) (qt _) ?_,rfl,q _ hf⟩
 exact⟨z,us,0,r,qo _ rfl⟩
end
abbrev Sp:=List V->Hp->VK->XK->Prop
abbrev CXT:=List Env->Hp->Shared->XK->Value->Shared->Prop
structure Env0(P:Program)(w:World)(K:W.Frag)(mg:Str->Option Value)(base:Heap)(A:Around)(outer:List Env)(s:Shared)(H:Hp):Prop where
 frames:A.frames=some outer
 mod:Mod K mg base
 bs:∀b o,base.get? b=some o->s.heap.get? b=some o/\H b=none
 bsz:base.objs.size<=s.heap.objs.size
 funs:s.heap.FunFrames base outer
 frf:∀b∈frs outer,H b=none
 hok:HOk P w H s.heap
 bare:AllBare s.gens
def CE(outer:List Env)(P:Program)(w:World)(H:Hp)(s:Shared)(Q:VK)(u:Value)(s':Shared):Prop:=
 ∃v H',s'.os=s.os/\AllBare s'.gens/\Un (frs outer) [] H H' s.heap s'.heap/\HOk P w H' s'.heap/\RelV v u/\Q v H'
def CR(CX:CXT)(outer:List Env)(P:Program)(w:World)(H:Hp)(s:Shared)(Q:VK)(E:XK)(r:Result)(s':Shared):Prop:=
 match r with
 | .ok (.ret u)=>CE outer P w H s Q u s'
 | .ok _=>False
 | .error e=>CX outer H s E e s'
structure FnOk(P:Program)(w:World)(K:W.Frag)(mg:Str->Option Value)(base:Heap)(CX:CXT)(k:Nat)(f:Addr)(fd:FuncData)(ps:List Str)(sp:Sp):Prop where
 len:∀vs H Q E,sp vs H Q E->vs.length=ps.length
 run:∀(A:Around) (outer:List Env) (s:Shared) (H:Hp) (args:Args) (us:List Value) (vs:List V) (Q:VK) (E:XK),Room k A->Env0 P w K mg base A outer s H->BindsTo s fd args (ps.zip us)->Vals vs us->sp vs H Q E->
  codeAny (model P w) A (.call (.ref f) args) (CR CX outer P w H s Q E) s
theorem FnOk.mono{P:Program}{w:World}{K:W.Frag}{mg:Str->Option Value}{base:Heap}{CX:CXT}{j k:Nat}{f:Addr}{fd:FuncData}{ps:List Str}{sp:Sp}(F:FnOk P w K mg base CX j f fd ps sp)(h:j<=k) :
 FnOk P w K mg base CX k f fd ps sp:=⟨F.len,fun A outer s H args us vs Q E hr=>F.run A outer s H args us vs Q E (hr.mono h)⟩
section
variable {X:Cx} {pins:List (Addr × Obj)} {σ:St} {H:Hp} {s s':Shared}
theorem Inv.env0(I:Inv X pins σ H s):Env0 X.prog X.w X.K X.mg X.base X.A X.stack s H:=
 ⟨I.ok.frames,I.ok.mod,I.bs,qw I.ok.bsz I.sz,I.stack,I.stkFree,I.hok,I.bare⟩
theorem Inv.after{Q:VK}{u:Value}(I:Inv X pins σ H s)(h:CE X.stack X.prog X.w H s Q u s'):EP X pins σ Q u s':=by
 obtain⟨v,H',os,bare,un,hok,r,q⟩:=h
 obtain⟨hh,g,d,t,os'⟩:=s'
 obtain rfl:os'=s.os:=os
 exact⟨v,H',I.call (h':=hh) (g':=g) (d':=d) (t':=t) (ch:=[]) un hok bare (fun b z=>absurd z (by simp)),r,q⟩
end
def Ysm(sp:Sp)(dvs:List V)(E:XK)(t:TA):TE:=fun σ H Q=>t σ H fun vs H1=>sp (vs++dvs) H1 Q E
def Binds(K:W.Frag)(fd:FuncData)(ps:List Str)(ds:List Value):Prop:=
 ∀(s:Shared) (us:List Value),K.In s.heap->(us++ds).length=ps.length->BindsTo s fd ⟨us,[]⟩ (ps.zip (us++ds))
theorem Binds.all{K:W.Frag}{fd:FuncData}{ps:List Str}(h:∀us:List Value,us.length=ps.length->bindArgs fd ⟨us,[]⟩=pure (ps.zip us)):Binds K fd ps []:=fun s us _ hl=>by
 rw[List.append_nil]at hl ⊢
 exact .of_eq (h us hl)
def Yj4(CX:CXT)(X:Cx)(E:XK):Prop:=∀(pins:List (Addr × Obj)) (σ:St) (H:Hp) (s:Shared) (e:Value) (s':Shared),Inv X pins σ H s->CX X.stack H s E e s'->X.xe e s'
section
variable {X:Cx} {CX:CXT} {k:Nat} {f C:Addr} {fd:FuncData} {ps:List Str} {sp:Sp} {dvs:List V} {ds:List Value} {E:XK} {x m:Str} {p pos apos:Pos} {e o:Expr} {es:List Expr} {ta:TE} {t:TA}
theorem Yqg{pins:List (Addr × Obj)}{σ:St}{H:Hp}{s:Shared}{Q:VK}{us:List Value}{vs:List V}(F:FnOk X.prog X.w X.K X.mg X.base CX k f fd ps sp)(hr:Room k X.A)(hb:Binds X.K fd ps ds)(hd:Vals dvs ds)(hx:Yj4 CX X E)
 (I:Inv X pins σ H s) (r:Vals vs us) (h:sp (vs++dvs) H Q E):wpAny (model X.prog X.w) X.A (call (.ref f) us) (EP X pins σ Q) X.xe s:=by
 have r2:Vals (vs++dvs) (us++ds):=r.append hd
 have hl:(us++ds).length=ps.length:=by rw[<-r2.length];exact F.len _ _ _ _ h
 refine wpAny_call (codeAny_mono (F.run X.A X.stack s H ⟨us,[]⟩ (us++ds) (vs++dvs) Q E hr I.env0 (hb s us I.kIn hl) r2 h) fun r s' hq=>?_)
 cases r with
 | error e=>exact hx pins σ H s e s' I hq
 | ok fl=>
   cases fl with
   | ret u=>exact I.after hq
   | next=>exact False.elim hq
   | brk=>exact False.elim hq
   | cont=>exact False.elim hq
theorem Yh2(F:FnOk X.prog X.w X.K X.mg X.base CX k f fd ps sp)(hr:Room k X.A)(hg:Gl X x)(hm:X.mg x=some (.ref f))(hk:W.keepIn X.K (.ref f)=true)(hb:Binds X.K fd ps ds)(hd:Vals dvs ds)(hx:Yj4 CX X E)
 (ha:PA X (e::es) t) (hdb:(x==("__debug__":Str))=false:=by decide) (he:starEach (e::es) X.env=(false,eval e X.env)::starEach es X.env:=by rfl) (hpl:(backTo pos (starEach es X.env)).any (·.1)=false:=by rfl) :
 PE X (.Call (.Name x p) (e::es) [] pos) (Ysm sp dvs E t):=by
 intro pins s σ H Q I h
 refine wpAny_Call_Name_kw (Ygg I hg hm ?_ hdb)
 refine W.callWith_K (h₀:=X.base) I.ok.mod.kin hk (thn (ha pos pins s σ H _ I h) fun us s1 hx_=>?_) he hpl
 obtain⟨vs,H1,I1,r,q⟩:=hx_
 refine⟨I1.kIn,?_⟩
 exact Yqg F hr hb hd hx I1 r q
structure Mk(K:W.Frag)(C f:Addr):Prop where
 makes:W.makesIn K C=true
 init:W.findIn K (.ref C) "__init__"=some (some (.ref f))
 fn:W.isFn K (.ref f)=true
 kp:W.keepIn K (.ref C)=true
end
section
variable {X:Cx} {CX:CXT} {k:Nat} {f C:Addr} {fd:FuncData} {ps ks:List Str} {sp:Sp} {E:XK} {x m:Str} {p pos apos kpos:Pos} {e o:Expr} {es:List Expr} {kws:List Keyword} {te ta:TE} {t tk:TA} {nm:Option Str}
structure KBinds(K:W.Frag)(fd:FuncData)(ps ks:List Str)(g:List Value->List Value->List Value)(gV:List V->List V->List V):Prop where
 to:∀(s:Shared) (us ws:List Value),K.In s.heap->(g us ws).length=ps.length->BindsTo s fd ⟨us,ks.zip ws⟩ (ps.zip (g us ws))
 rel:∀{vs:List V} {us:List Value} {zs:List V} {ws:List Value},Vals vs us->Vals zs ws->Vals (gV vs zs) (g us ws)
variable {g:List Value->List Value->List Value} {gV:List V->List V->List V}
end
structure FnScope(N P:List Str)(sc:Scope):Prop where
 kind:sc.kind=.function
 co:sc.isCoroutine=false
 gen:sc.isGenerator=false
 nd:N.Nodup
 pre:N.take P.length=P
 par:∀x∈P,sc.names.lookup x=some .local\/sc.names.lookup x=some .cell
 nofree:∀y∈sc.names,y.2≠.free
theorem Yg6{kindOf:Str->Option NameKind}{x:Str}:∀{binds:List (Str × Value)} {m:Str->Option Value},(∀v,(x,v)∉binds)->bindL kindOf binds m x=m x
 | [],_,_=>rfl
 | (n,v)::r,m,h=>by
   unfold bindL
   rw[Yg6 fun w hw=>h w (qg _ hw)]
   split
   ·have:x≠n:=by rintro rfl;exact h v qh
    simp[this]
   ·rfl
theorem Yg7{kindOf:Str->Option NameKind}{x:Str}:∀{binds:List (Str × Value)} {m:Str->Option Value},(∀v,(x,v)∉binds)->bindC kindOf binds m x=m x
 | [],_,_=>rfl
 | (n,v)::r,m,h=>by
   unfold bindC
   rw[Yg7 fun w hw=>h w (qg _ hw)]
   split
   ·rfl
   ·have:x≠n:=by rintro rfl;exact h v qh
    simp[this]
theorem Yg8{kindOf:Str->Option NameKind}{x:Str}{v:Value}:∀{P:List Str} {vs:List Value} {i:Nat} {m:Str->Option Value},P.Nodup->P[i]?=some x->vs[i]?=some v->kindOf x=some .local->
 bindL kindOf (P.zip vs) m x=some v
 | [],_,_,_,_,h,_,_=>by simp at h
 | _::_,[],_,_,_,_,h,_=>by simp at h
 | p::P,w::vs,0,m,nd,h1,h2,hk=>by
   simp at h1 h2;subst h1;subst h2
   show bindL kindOf ((p,w)::P.zip vs) m p=_
   unfold bindL
   rw[Yg6 fun v hv=>(List.nodup_cons.mp nd).1 (List.of_mem_zip hv).1,if_pos hk]
   simp
 | p::P,w::vs,i+1,m,nd,h1,h2,hk=>by
   show bindL kindOf ((p,w)::P.zip vs) m x=_
   unfold bindL
   exact Yg8 (i:=i) (List.nodup_cons.mp nd).2 (by simpa using h1) (by simpa using h2) hk
theorem Yg9{kindOf:Str->Option NameKind}{x:Str}{v:Value}:∀{P:List Str} {vs:List Value} {i:Nat} {m:Str->Option Value},P.Nodup->P[i]?=some x->vs[i]?=some v->kindOf x≠some .local->
 bindC kindOf (P.zip vs) m x=some v
 | [],_,_,_,_,h,_,_=>by simp at h
 | _::_,[],_,_,_,_,h,_=>by simp at h
 | p::P,w::vs,0,m,nd,h1,h2,hk=>by
   simp at h1 h2;subst h1;subst h2
   show bindC kindOf ((p,w)::P.zip vs) m p=_
   unfold bindC
   rw[Yg7 fun v hv=>(List.nodup_cons.mp nd).1 (List.of_mem_zip hv).1,if_neg hk]
   simp
 | p::P,w::vs,i+1,m,nd,h1,h2,hk=>by
   show bindC kindOf ((p,w)::P.zip vs) m x=_
   unfold bindC
   exact Yg9 (i:=i) (List.nodup_cons.mp nd).2 (by simpa using h1) (by simpa using h2) hk
def start(N:List Str)(vs:List V):St:=vs.map some++List.replicate (N.length - vs.length) none
def cxOf(CX:CXT)(P:Program)(w:World)(K:W.Frag)(mg:Str->Option Value)(base:Heap)(N:List Str)(qual:Str)(scope:Scope)(f:Addr)(cd:Value)(A:Around)(outer:List Env)(s:Shared)(H:Hp)(E:XK):Cx where
 prog:=P
 w:=w
 K:=K
 mg:=mg
 base:=base
 A:=A.deeper (envOfC qual scope s.heap.objs.size f cd)
 N:=N
 s₀:=s
 H₀:=H
 env:=envOfC qual scope s.heap.objs.size f cd
 outer:=outer
 stack:=envOfC qual scope s.heap.objs.size f cd::outer
 ex:=[]
 calm:=true
 fn:=fun _=>true
 pn:=[]
 xe:=fun e s'=>wpAny (model P w) (A.deeper (envOfC qual scope s.heap.objs.size f cd)) (leaving (envOfC qual scope s.heap.objs.size f cd) e) (fun _ s''=>CX outer H s E e s'') (fun e' s''=>CX outer H s E e' s'') s'
theorem Yiu{sc:Scope}{n:Nat}{x:Str}(h:sc.names.lookup x=some .cell):∃c,(cellsFrom n sc.names []).lookup x=some c:=by
 have q:=PySem.W.cellsFrom_some sc.names n [] (.inl h)
 exact Option.isSome_iff_exists.mp q
theorem Yj5{CX:CXT}{P:Program}{w:World}{K:W.Frag}{mg:Str->Option Value}{base:Heap}{N ps:List Str}{qual:Str}{scope:Scope}{f:Addr}{cd:Value}{A:Around}{outer:List Env}{s s1:Shared}{H:Hp}{E:XK}{us:List Value}{vs:List V}
 (S:FnScope N ps scope) (hd:A.handled=none) (e0:Env0 P w K mg base A outer s H) (hl:vs.length=ps.length) (r:Vals vs us)
 (x:InCallC s s.heap.objs.size (bindL (envOfC qual scope s.heap.objs.size f cd).kindOf (ps.zip us) fun _=>none) (cellsFrom (s.heap.objs.size+1) scope.names []) (bindC (envOfC qual scope s.heap.objs.size f cd).kindOf (ps.zip us) fun _=>none) s1) :
 Inv (cxOf CX P w K mg base N qual scope f cd A outer s H E) [] (start N vs) H s1:=by
 have hpl:ps.length<=N.length:=by have:=congrArg List.length S.pre;rw[List.length_take]at this;lia
 obtain⟨h1,tk,rfl,hk⟩:=x.done
 have noA:∀b:Addr,b∉(cxOf CX P w K mg base N qual scope f cd A outer s H E).ex:=fun b z=>absurd (show b∈([]:List Addr) from z) (by simp)
 refine⟨⟨e0.mod,S.kind,rfl,rfl,qt _,fun y z c h1 h2=>?_,fun y hy=>?_,fun y c _ h=>?_,fun _=>hd,Around.frames_deeper e0.frames,.inr ⟨rfl,rfl⟩,fun b z=>absurd z (noA b),e0.bs,e0.bsz,fun b _ _=>noA b,fun b z=>absurd z (noA b),e0.funs,e0.frf⟩,
  rfl,e0.bare,Un.kept hk,⟨_,x.toInCall.ns,fun i y v h1 h2 h3=>?_⟩,fun y c h=>⟨_,x.cell y c h⟩,e0.hok.fresh (qt _),fun y c h=>?_,fun p hp=>absurd (show p∈([]:List (Addr × Obj)) from hp) (by simp),e0.hok.kept hk,?_⟩
 ·exact name_of_addr x.apart (PySem.mem_of_lookup h1) (PySem.mem_of_lookup h2)
 ·have hy:scope.names.lookup y=some .cell\/scope.names.lookup y=some .free:=hy
  rcases hy with hy | hy
  ·exact Yiu hy
  ·exact absurd rfl (S.nofree _ (PySem.mem_of_lookup hy))
 ·exact Nat.le_of_lt (x.above y c (PySem.mem_of_lookup h))
 ·have hi:i < vs.length:=by
   unfold start at h2
   by_cases hi:i < vs.length
   ·exact hi
   ·rw[List.getElem?_append_right (by simpa using hi)]at h2
    rw[List.getElem?_replicate]at h2
    split at h2<;>cases h2
  have ha:vs[i]?=some v:=by
   unfold start at h2
   rw[List.getElem?_append_left (by simpa using hi),Qa]at h2
   cases e:vs[i]? with
   | none=>rw[e]at h2;cases h2
   | some a=>rw[e]at h2;cases h2;rfl
  obtain⟨u,hu,rv⟩:=r.get ha
  have hp:ps[i]?=some y:=by
   rw[<-S.pre,List.getElem?_take_of_lt (by lia)];exact h1
  have ndP:ps.Nodup:=by rw[<-S.pre];exact S.nd.sublist (List.take_sublist _ _)
  refine⟨u,rv,?_⟩
  rcases S.par y (List.mem_of_getElem? hp)with k | k
  ·exact .inl ⟨k,Yg8 ndP hp hu k⟩
  ·obtain⟨c,e⟩:=Yiu (n:=s.heap.objs.size+1) k
   refine .inr ⟨.inl k,c,e,?_⟩
   have q:=x.cell y c e
   rw[Yg9 ndP hp hu (by show scope.names.lookup y≠_;rw[k];decide)]at q
   exact q
 ·exact e0.hok.fresh (Nat.le_of_lt (x.above y c (PySem.mem_of_lookup h)))
 ·unfold start
  show _=N.length
  rw[qv,qf,List.length_replicate]
  lia
theorem Ysn{CX:CXT}{P:Program}{w:World}{K:W.Frag}{mg:Str->Option Value}{base:Heap}{k:Nat}{f:Addr}{name qual:Str}{params:Arguments}{body:List Stmt}{scope:Scope}{dV kV doc pm cdv ct oc:Value}{an od:Option Addr}
 {osl:Array (Option Value)} {N ps:List Str} {sp:Sp} (lk:K.lookup f=some ⟨oc,od,.func (W.fnOf name qual params body scope dV kV doc pm an cdv ct),osl⟩) (hcd:W.codeIn K cdv qual=true) (S:FnScope N ps scope)
 (len:∀vs H Q E,sp vs H Q E->vs.length=ps.length)
 (hbody:∀(A:Around) (outer:List Env) (s:Shared) (H:Hp) (vs:List V) (Q:VK) (E:XK),Room k (A.deeper (envOfC qual scope s.heap.objs.size f cdv))->sp vs H Q E->
  ∃t,PSs (cxOf CX P w K mg base N qual scope f cdv A outer s H E) body t/\t { nx:=fun _ H'=>Q .non H',rt:=Q } (start N vs) H) :
 FnOk P w K mg base CX (k+1) f (W.fnOf name qual params body scope dV kV doc pm an cdv ct) ps sp:=by
 refine⟨len,fun A outer s H args us vs Q E hr e0 hb r hsp=>?_⟩
 have hl:=len _ _ _ _ hsp
 have KX:K.In s.heap:=e0.mod.kin.keeps fun b o e=>(e0.bs b o e).1
 have lim:s.heap.NoLimit:=e0.mod.nolimit.keeps fun b o e=>(e0.bs b o e).1
 have hkind:∀y∈ps.zip us,scope.names.lookup y.1=some .local\/(scope.names.lookup y.1=some .cell/\((cellsFrom (s.heap.objs.size+1) scope.names []).lookup y.1).isSome=true):=fun⟨n,v⟩ hy=>by
  rcases S.par n (List.of_mem_zip hy).1 with q | q
  ·exact .inl q
  ·exact .inr ⟨q,PySem.W.cellsFrom_some _ _ _ (.inl q)⟩
 refine codeAny_call_function hr.depth (KX _ _ lk) rfl S.co S.gen rfl (W.codeRec_of KX hcd) (hb _ _ _ _ ?_)
 refine wpAny_newFunctionEnv_cells S.kind hkind fun env he s1 x=>?_
 subst he
 refine⟨lim.keeps x.toInCall.keep,codeAny_func ?_⟩
 obtain⟨t,ht,hq⟩:=hbody A outer s H vs Q E (hr.deeper _) hsp
 have I:Inv (cxOf CX P w K mg base N qual scope f cdv A outer s H E) [] (start N vs) H s1:=Yj5 S hr.hd e0 hl r x
 refine wpAny_mono (ht [] s1 (start N vs) H _ I hq) (fun fl s' hs=>?_) fun e s' hs=>hs
 have fin:∀{σ':St} {H':Hp} {v:V} {u:Value},Inv (cxOf CX P w K mg base N qual scope f cdv A outer s H E) [] σ' H' s'->RelV v u->Q v H'->CE outer P w H s Q u s':=
  fun {σ' H' v u} J rv q=>⟨v,H',J.os,J.bare,J.base,J.hok,rv,q⟩
 cases fl with
 | ret u=>
   obtain⟨v,σ',H',J,rv,q⟩:=hs
   exact fin J rv q
 | next=>
   obtain⟨σ',H',J,q⟩:=hs
   exact fin (v:=V.non) (u:=Value.none) J rfl q
 | brk=>
   obtain⟨_,_,_,q⟩:=hs
   exact False.elim q
 | cont=>
   obtain⟨_,_,_,q⟩:=hs
   exact False.elim q
end L2
namespace L2
open PySem PySem.Spec PyProof.Rows
section
variable {X:Cx} {x:Str} {p pos:Pos} {e:Expr} {es:List Expr} {t:TA} {id T:String} {r:List V->Hp->VK->Prop}
def tCB(r:List V->Hp->VK->Prop)(t:TA):TE:=fun σ H Q=>t σ H fun vs H1=>r vs H1 Q
theorem Yiv(hc:Yfd X (.builtin id) r)(hg:Gl X x)(hm:X.mg x=none)(hv:bootBuiltins x=some (.builtin id))(ha:PA X (e::es) t)(hn:x≠"__name__":=by decide)(hdb:(x==("__debug__":Str))=false:=by decide)
 (he:starEach (e::es) X.env=(false,eval e X.env)::starEach es X.env:=by rfl) (hpl:(backTo pos (starEach es X.env)).any (·.1)=false:=by rfl):PE X (.Call (.Name x p) (e::es) [] pos) (tCB r t):=by
 intro pins s σ H Q I h
 refine wpAny_Call_Name_kw (Yfb I hg hm hv ?_ hn hdb)
 refine PyProof.Rows.callWith_builtin1 (thn (ha pos pins s σ H _ I h) fun us s1 hx_=>?_) he hpl
 obtain⟨vs,H1,I1,r1,q1⟩:=hx_
 exact hc pins s1 σ H1 vs us Q I1 r1 q1
theorem Yha(hc:Yfd X (.type T) r)(hg:Gl X x)(hm:X.mg x=none)(hv:bootBuiltins x=some (.type T))(ha:PA X (e::es) t)(hn:x≠"__name__":=by decide)(hdb:(x==("__debug__":Str))=false:=by decide)
 (he:starEach (e::es) X.env=(false,eval e X.env)::starEach es X.env:=by rfl) (hpl:(backTo pos (starEach es X.env)).any (·.1)=false:=by rfl):PE X (.Call (.Name x p) (e::es) [] pos) (tCB r t):=by
 intro pins s σ H Q I h
 refine wpAny_Call_Name_kw (Yfb I hg hm hv ?_ hn hdb)
 refine PyProof.Rows.callWith_type1 (thn (ha pos pins s σ H _ I h) fun us s1 hx_=>?_) he hpl
 obtain⟨vs,H1,I1,r1,q1⟩:=hx_
 exact hc pins s1 σ H1 vs us Q I1 r1 q1
end
end L2
namespace L2
open PySem PySem.Spec PyProof.Rows
section
variable {κ:Type} [DecidableEq κ]
theorem RelO.isSome_eq{o:Option V}{u:Option Value}(r:RelO o u):o.isSome=u.isSome:=by
 cases o with
 | none=>cases u with
   | none=>rfl
   | some _=>exact(show False from r).elim
 | some _=>cases u with
   | none=>exact(show False from r).elim
   | some _=>rfl
end
def NoSl(i:Expr):Prop:=∀ov iv,subscripted i false ov iv=operate [ov,iv] (getItem ov iv)
theorem Yj6{prog:Program}{w:World}{A:Around}{E:Value->Shared->Prop}{s:Shared}{env:Env}{value slice:Expr}{pos:Pos}{T id:String}{Q:Value->Shared->Prop}
 (hl:typeLookup (.type T) "__getitem__"=pure (some (.builtin id))) (hs:NoSl slice)
 (h:wpAny (model prog w) A (eval value env) (fun o s₁=>wpAny (model prog w) A (eval slice env) (fun i s₂=>s₂.TypeIs o T/\wpAny (model prog w) A (getItem o i) Q E s₂) E s₁) E s) :
 wpAny (model prog w) A (eval (.Subscript value slice pos) env) Q E s:=by
 refine Subscript_ (wpAny_mono h (fun o s₁ h₁=>wpAny_mono h₁ (fun i s₂ h₂=>?_) fun _ _ x=>x) fun _ _ x=>x)
 obtain⟨hT,h₂⟩:=h₂
 unfold subscriptTail
 refine wpAny_bind ?_
 rw[getitemInPython_of_ne hT.not_modules]
 refine wpAny_bind (wpAny_specialOf hT hl ?_)
 have fin:wpAny (model prog w) A (subscripted slice false o i) (fun r s₃=>wpAny (model prog w) A (letTemporaryGo value o r >>= fun _=>pure r) Q E s₃) E s₂:=by
  rw[hs o i]
  exact wpAny_operating (wpAny_mono h₂ (fun r s₃ h₃=>wpAny_bind (wpAny_letTemporaryGo (wpAny_pure h₃))) fun _ _ x=>x)
 first
  | exact wpAny_pure (wpAny_bind fin)
  | exact wpAny_bind (wpAny_pure (wpAny_bind fin))
  | exact wpAny_bind fin
def Ynk:List (TE × TE)->St->Hp->(List (V × V)->Hp->Prop)->Prop
 | [],_,H,Q=>Q [] H
 | (tk,tv)::r,σ,H,Q=>tk σ H fun x H1=>tv σ H1 fun y H2=>Ynk r σ H2 fun ps H3=>Q ((x,y)::ps) H3
abbrev VV:List (V × V)->List (Value × Value)->Prop:=Paired fun p q=>RelV p.1 q.1/\RelV p.2 q.2
def PPs(X:Cx)(pos:Pos)(keys:List (Option Expr))(values:List Expr)(trs:List (TE × TE)):Prop:=
 ∀(pins:List (Addr × Obj)) (s:Shared) (σ:St) (H:Hp) (Q:List (V × V)->Hp->Prop),Inv X pins σ H s->Ynk trs σ H Q->
  wpAny (model X.prog X.w) X.A (evalPairs (pairTrees keys values X.env pos)) (fun vs s'=>∃ps H',Inv X pins σ H' s'/\VV ps vs/\Q ps H') X.xe s
structure M1(X:Cx)(o:Expr)(m:Str)(apos:Pos)(e:Expr)(cpos:Pos):Prop where
 base:attributeBase o m X.env (eval o X.env)=eval o X.env
 few:((backTo cpos (starEach [e] X.env)).all (fun x=>!x.1)&&(backToKw cpos (keywordEach [] X.env)).all (fun x=>x.1.isSome)
  &&decide (([e]:List Expr).length+([]:List Keyword).length+(if ([]:List Keyword).isEmpty then 0 else 1) < 30))=true
 line:(apos.endLine==cpos.line)=true
 trees:backTo cpos (starEach [e] X.env)=[(false,eval e X.env)]
structure M2(X:Cx)(o:Expr)(m:Str)(apos:Pos)(e f:Expr)(cpos:Pos):Prop where
 base:attributeBase o m X.env (eval o X.env)=eval o X.env
 few:((backTo cpos (starEach [e,f] X.env)).all (fun x=>!x.1)&&(backToKw cpos (keywordEach [] X.env)).all (fun x=>x.1.isSome)
  &&decide (([e,f]:List Expr).length+([]:List Keyword).length+(if ([]:List Keyword).isEmpty then 0 else 1) < 30))=true
 line:(apos.endLine==cpos.line)=true
 trees:backTo cpos (starEach [e,f] X.env)=[(false,eval e X.env),(false,eval f X.env)]
end L2
namespace HT
open PySem PyProof.Rows
section
variable {prog:Program} {w:World} {A:Around} {E:Value->Shared->Prop} {s:Shared}
def sIx(n d:Nat):Option Int->Nat
 | none=>d
 | some v=>if v < 0 then (v+(n:Int)).toNat else min v.toNat n
theorem sIx_none(n d:Nat):sIx n d none=d:=rfl
theorem sIx_nat(n d k:Nat):sIx n d (some (k:Int))=min k n:=by
 show(if (k:Int) < 0 then ((k:Int)+(n:Int)).toNat else min (k:Int).toNat n)=min k n
 rw[if_neg (by lia),Int.toNat_natCast]
theorem Yqh(n d:Nat)(hd:d<=n)(o:Option Int):sIx n d o<=n:=by
 cases o with
 | none=>exact hd
 | some v=>
   show(if v < 0 then (v+(n:Int)).toNat else min v.toNat n)<=n
   by_cases hv:v < 0
   ·rw[if_pos hv];lia
   ·rw[if_neg hv];exact Nat.min_le_right _ _
theorem Yj7(v:Int)(n d:Nat):(if v < 0 then max (v+(n:Int)) 0 else min v (n:Int))=((sIx n d (some v):Nat):Int):=by
 show(if v < 0 then max (v+(n:Int)) 0 else min v (n:Int))=(((if v < 0 then (v+(n:Int)).toNat else min v.toNat n):Nat):Int)
 by_cases hv:v < 0
 ·simp only[if_pos hv];lia
 ·simp only[if_neg hv];lia
theorem Yjd(lo hi:Option Int)(n:Nat):Builtin.Slice.sliceAdjust lo hi 1 (n:Int)=(((sIx n 0 lo:Nat):Int),((sIx n n hi:Nat):Int)):=by
 have h1:¬((1:Int) < 0):=by lia
 unfold Builtin.Slice.sliceAdjust
 simp only[h1,if_false]
 refine Prod.ext ?_ ?_
 ·cases lo with
  | none=>rfl
  | some v=>exact Yj7 v n 0
 ·cases hi with
  | none=>rfl
  | some v=>exact Yj7 v n n
theorem Yje(i j:Nat):Builtin.Slice.slicePlaces (i:Int) (j:Int) 1=j - i:=by
 unfold Builtin.Slice.slicePlaces
 have h1:(1:Int) > 0:=by lia
 simp only[h1,if_true,Int.ediv_one]
 split<;>lia
theorem Yf8{v:Value}{o:Option Int}{Q:Option Int->Shared->Prop}(p:IsPart v o)(h:Q o s):wpAny (model prog w) A (Builtin.Slice.slicePartIndex v) Q E s:=by
 cases p with
 | none=>exact slicePart_none h
 | int i t=>exact slicePart_int h
theorem sliceApplied_gen{sl:Addr}{vl vu:Value}{lo hi:Option Int}{n:Nat}{Q:Int × Int × Nat->Shared->Prop}(hs:s.heap.IsSliceOf sl vl vu .none)(pl:IsPart vl lo)(pu:IsPart vu hi)
 (h:Q (((sIx n 0 lo:Nat):Int),1,sIx n n hi - sIx n 0 lo) s):wpAny (model prog w) A (Builtin.Slice.sliceApplied (.ref sl) (pure (n:Int))) Q E s:=by
 obtain⟨os,hos,hcs,hds⟩:=id hs
 unfold Builtin.Slice.sliceApplied Builtin.Slice.sliceFields
 refine wpAny_bind (wpAny_bind (wpAny_field hos hds (x:=vl) rfl (wpAny_bind (wpAny_field hos hds (x:=vu) rfl (wpAny_bind (wpAny_field hos hds (x:=.none) rfl (wpAny_pure ?_)))))))
 refine wpAny_bind (slicePart_none ?_)
 show wpAny _ _ (if ((1:Int)==0)=true then _ else _) _ _ s
 rw[if_neg (by decide)]
 refine wpAny_bind (Yf8 pl (wpAny_bind (Yf8 pu (wpAny_bind (wpAny_pure ?_)))))
 show wpAny _ _ (match Builtin.Slice.sliceAdjust lo hi 1 (n:Int)with | (lo,hi)=>pure (lo,(1:Int),Builtin.Slice.slicePlaces lo hi 1)) _ _ s
 rw[Yjd lo hi n]
 show wpAny _ _ (pure (((sIx n 0 lo:Nat):Int),(1:Int),Builtin.Slice.slicePlaces ((sIx n 0 lo:Nat):Int) ((sIx n n hi:Nat):Int) 1)) _ _ s
 rw[Yje]
 exact wpAny_pure h
theorem Yma(xs:Array Value)(i k:Nat):((List.range k).filterMap fun(m:Nat)=>xs[((i:Int)+(m:Int) * 1).toNat]?).toArray=((xs.toList.drop i).take k).toArray:=by
 have e:(fun(m:Nat)=>xs[((i:Int)+(m:Int) * 1).toNat]?)=fun m=>xs[i+m]?:=by
  funext m
  have:((i:Int)+(m:Int) * 1).toNat=i+m:=by lia
  rw[this]
 rw[e]
 have:=pick_run xs i k
 rw[List.filterMap_map]at this
 have e2:((fun x=>xs[x]?) ∘ fun x=>i+x)=fun m=>xs[i+m]?:=rfl
 rw[e2]at this
 rw[this]
theorem getItem_tuple_cut{t sl:Addr}{items:Array Value}{vl vu:Value}{lo hi:Option Int}{Q:Value->Shared->Prop}(ht:IsTup s.heap t items)(hs:s.heap.IsSliceOf sl vl vu .none)(pl:IsPart vl lo)(pu:IsPart vu hi)
 (hw:¬(sIx items.size 0 lo=0/\sIx items.size items.size hi=items.size))
 (h:Q (.ref s.heap.objs.size) { s with heap:=s.heap.push { cls:=.type "tuple",data:=.seq ((items.toList.drop (sIx items.size 0 lo)).take (sIx items.size items.size hi - sIx items.size 0 lo)).toArray } })
 (hsz:items.size<=sizeLine):wpAny (model prog w) A (getItem (.ref t) (.ref sl)) Q E s:=by
 have htake:sizeOk (.seq ((items.toList.drop (sIx items.size 0 lo)).take (sIx items.size items.size hi - sIx items.size 0 lo)).toArray):=by
  show((items.toList.drop (sIx items.size 0 lo)).take (sIx items.size items.size hi - sIx items.size 0 lo)).toArray.size<=sizeLine
  rw[qj,List.length_take,List.length_drop,Array.length_toList]
  lia
 have hj:sIx items.size items.size hi<=items.size:=Yqh _ _ (qt _) hi
 obtain⟨os,hos,hcs,hds⟩:=id hs
 have hTs:s.TypeIs (.ref sl) "slice":=⟨os,hos,hcs⟩
 unfold getItem
 try with_reducible refine wpAny_holding ?_
 first | refine wpAny_bind (wpAny_pure ?_) | skip
 refine wpAny_bind (wpAny_sequenceKey ht.typeIs (by decide) ?_)
 refine wpAny_bind (wpAny_callSpecial?_slot (name:=Str.ofString "__getitem__") ht.typeIs PyProof.Rows.slot_tuple_getitem
  (wpAny_call_entry PyProof.Rows.slot_tuple_getitem ht.typeIs entry_tuple_getitem ?_ (args_tuple_getitem _ _)))
 show wpAny _ _ (Builtin.Tuple.tupleItemsOf (.ref t) >>= _) _ _ s
 refine wpAny_bind (tupleItemsOf_ ht ?_)
 refine wpAny_bind (wpAny_typeOf hTs ?_)
 rw[if_pos (by decide)]
 refine wpAny_bind (sliceApplied_gen hs pl pu ?_)
 have hno:¬((((sIx items.size 0 lo:Nat):Int)==0&&(1:Int)==1&&(sIx items.size items.size hi - sIx items.size 0 lo)==items.size)=true):=by
  intro q
  rw[Bool.and_eq_true,Bool.and_eq_true]at q
  have q1:((sIx items.size 0 lo:Nat):Int)=0:=eq_of_beq q.1.1
  have q2:sIx items.size items.size hi - sIx items.size 0 lo=items.size:=eq_of_beq q.2
  exact hw ⟨by lia,by lia⟩
 show wpAny _ _ (if (((sIx items.size 0 lo:Nat):Int)==0&&(1:Int)==1&&(sIx items.size items.size hi - sIx items.size 0 lo)==items.size)=true then _ else _) _ _ s
 rw[if_neg hno,Yma]
 first
  | exact wpAny_bind (m:=Builtin.Tuple.tupleExact _) (wpAny_newObj_type (wpAny_pure ⟨_,rfl,wpAny_pure h⟩) htake)
  | exact wpAny_bind (m:=Builtin.Tuple.tupleExact _) (wpAny_newObj_type (wpAny_bind (wpAny_pure (wpAny_pure ⟨_,rfl,wpAny_pure h⟩))) htake)
  | exact wpAny_bind (wpAny_bind (m:=Builtin.Tuple.tupleExact _) (wpAny_newObj_type (wpAny_pure (wpAny_pure ⟨_,rfl,wpAny_pure h⟩)) htake))
  | exact wpAny_bind (wpAny_bind (m:=Builtin.Tuple.tupleExact _) (wpAny_newObj_type (wpAny_pure ⟨_,rfl,wpAny_pure h⟩) htake))
end
end HT
namespace L2
open PySem PySem.Spec PyProof.Rows
abbrev TO:=St->Hp->(Option Int->Hp->Prop)->Prop
def PO(X:Cx)(e:Option Expr)(t:TO):Prop:=
 ∀(pins:List (Addr × Obj)) (s:Shared) (σ:St) (H:Hp) (Q:Option Int->Hp->Prop),Inv X pins σ H s->t σ H Q->
  wpAny (model X.prog X.w) X.A (evalPart e X.env) (fun u s'=>∃o H',Inv X pins σ H' s'/\IsPart u o/\Q o H') X.xe s
def Yj8:TO:=fun _ H Q=>Q none H
def Yqi(t:TE):TO:=fun σ H Q=>t σ H fun x H1=>∃i,x=.int i/\Q (some i) H1
theorem Yjf{ns:List Int}:∀{us:List Value},Vals (ns.map V.int) us->IntsAre us ns:=by
 induction ns with
 | nil=>intro us r;rw[List.map_nil]at r;cases r;exact .nil
 | cons n ns ih=>
   intro us r
   rw[qy]at r
   cases r with
   | cons r1 r2=>
     obtain⟨t,e⟩:=r1
     subst e
     exact .cons n t (ih r2)
section
variable {X:Cx} {e:Expr} {te:TE} {lo hi:Option Expr} {tl th:TO} {pos p2:Pos}
theorem Yod:PO X none Yj8:=by
 intro pins s σ H Q I h
 rw[evalPart_none]
 exact wpAny_pure ⟨none,H,I,.none,h⟩
theorem Yoe(h:PE X e te):PO X (some e) (Yqi te):=by
 intro pins s σ H Q I hw
 rw[evalPart_some]
 refine thn (h pins s σ H _ I hw) fun u s1 hx_=>?_
 obtain⟨x,H1,I1,r1,q1⟩:=hx_
 obtain⟨i,rfl,q⟩:=q1
 obtain⟨t,rfl⟩:=r1
 exact⟨some i,H1,I1,.int i t,q⟩
def SlR(X:Cx)(r:V->Option Int->Option Int->Hp->VK->Prop):Prop:=
 ∀(pins:List (Addr × Obj)) (s:Shared) (σ:St) (H:Hp) (x:V) (v vl vu:Value) (lo hi:Option Int) (sl:Addr) (Q:VK),Inv X pins σ H s->RelV x v->s.heap.IsSliceOf sl vl vu .none->IsPart vl lo->IsPart vu hi->r x lo hi H Q->
  ∃T id,typeLookup (.type T) "__getitem__"=pure (some (.builtin id))/\s.TypeIs v T/\wpAny (model X.prog X.w) X.A (getItem v (.ref sl)) (EP X pins σ Q) X.xe s
theorem SlR.or{r r':V->Option Int->Option Int->Hp->VK->Prop}(h:SlR X r)(h':SlR X r'):SlR X (fun x lo hi H Q=>r x lo hi H Q\/r' x lo hi H Q):=by
 intro pins s σ H x v vl vu lo hi sl Q I rx hs pl pu q
 rcases q with q | q
 ·exact h pins s σ H x v vl vu lo hi sl Q I rx hs pl pu q
 ·exact h' pins s σ H x v vl vu lo hi sl Q I rx hs pl pu q
def tSl(r:V->Option Int->Option Int->Hp->VK->Prop)(te:TE)(tl th:TO):TE:=fun σ H Q=>te σ H fun x H1=>tl σ H1 fun l H2=>th σ H2 fun u H3=>r x l u H3 Q
theorem Ymb{r:V->Option Int->Option Int->Hp->VK->Prop}(hr:SlR X r)(he:PE X e te)(hl:PO X lo tl)(hu:PO X hi th):PE X (.Subscript e (.Slice lo hi none p2) pos) (tSl r te tl th):=by
 intro pins s σ H Q I h
 refine Subscript_ (thn (he pins s σ H _ I h) fun v s1 hx_=>?_)
 obtain⟨x,H1,I1,r1,q1⟩:=hx_
 refine wpAny_Slice (thn (hl pins s1 σ H1 _ I1 q1) fun vl s2 hx_=>?_)
 obtain⟨l,H2,I2,pl,q2⟩:=hx_
 refine thn (hu pins s2 σ H2 _ I2 q2) fun vu s3 hx_=>?_
 obtain⟨u,H3,I3,pu,q3⟩:=hx_
 rw[evalPart_none]
 refine wpAny_pure ?_
 have I4:Inv X pins σ H3 { s3 with heap:=s3.heap.push { cls:=.type "slice",data:=.fields #[vl,vu,.none] } }:=I3.kept (t':=s3.toks) fun b ob q=>qe _ q
 obtain⟨T,id,hT,ht,hg⟩:=hr pins { s3 with heap:=s3.heap.push { cls:=.type "slice",data:=.fields #[vl,vu,.none] } } σ H3 x v vl vu l u s3.heap.objs.size Q I4 r1 (Heap.IsSliceOf.new ..) pl pu q3
 show wpAny (model X.prog X.w) X.A (subscriptTail e (.Slice lo hi none p2) v (.ref s3.heap.objs.size)) (EP X pins σ Q) X.xe { s3 with heap:=s3.heap.push { cls:=.type "slice",data:=.fields #[vl,vu,.none] } }
 exact tail_any (ops:=[.ref s3.heap.objs.size,v]) ht hT hg (by with_unfolding_all rfl)
def cutV(xs:List V)(lo hi:Option Int):List V:=(xs.drop (HT.sIx xs.length 0 lo)).take (HT.sIx xs.length xs.length hi - HT.sIx xs.length 0 lo)
theorem Yff(xs:List V)(lo hi:Option Int):(cutV xs lo hi).length<=xs.length:=by
 unfold cutV
 rw[List.length_take,List.length_drop]
 lia
def rSlT(K:W.Frag):V->Option Int->Option Int->Hp->VK->Prop:=fun x lo hi H Q=>∃a xs,x=.ref a/\SqT K H a xs/\
 ¬(HT.sIx xs.length 0 lo=0/\HT.sIx xs.length xs.length hi=xs.length)/\∀p,H p=none->Q (.ref p) (upd H p (.tup (cutV xs lo hi)))
theorem Yqj:SlR X (rSlT X.K):=by
 intro pins s σ H x v vl vu lo hi sl Q I rx hs pl pu h
 obtain⟨a,xs,rfl,hx,hw,q⟩:=h
 cases rx
 obtain⟨its,r,ht,hz⟩:=I.tuple hx
 have hlen:its.toArray.size=xs.length:=by rw[qj];exact r.length.symm
 refine⟨"tuple",_,PyProof.Rows.slot_tuple_getitem.lookup,ht.typeIs,?_⟩
 refine HT.getItem_tuple_cut ht hs pl pu (by rw[hlen];exact hw) ?_ (by rw[hlen];exact hz)
 rw[hlen]
 refine⟨.ref s.heap.objs.size,_,I.laid (t':=s.toks) (o:=.tup (cutV xs lo hi)) (fun b ob q=>qe _ q) (qt _) ?_,rfl,q _ (I.hok.fresh (qt _))⟩
 exact⟨qw (Yff xs lo hi) hz,_,(r.drop (HT.sIx xs.length 0 lo)).take (HT.sIx xs.length xs.length hi - HT.sIx xs.length 0 lo),IsTup.new _ _⟩
end
end L2
namespace L2
open PySem PySem.Spec PyProof.Rows
def ixN(n:Nat)(i:Int):Option Nat:=if 0<=i then (if i < n then some i.toNat else none)else if -(n:Int)<=i then some (i+n).toNat else none
def atI{α:Type}(xs:List α)(i:Int):Option α:=(ixN xs.length i).bind fun j=>xs[j]?
theorem Yof{n:Nat}{i:Int}{j:Nat}(h:ixN n i=some j):seqIndex? i n=some j/\j < n/\-(n:Int)<=i/\i < n:=by
 unfold ixN at h
 by_cases h0:0<=i
 ·rw[if_pos h0]at h
  by_cases h1:i < n
  ·rw[if_pos h1]at h
   have e:i.toNat=j:=Option.some.inj h
   exact⟨by rw[seqIndex_of h0 h1,e],by lia,by lia,h1⟩
  ·rw[if_neg h1]at h;cases h
 ·rw[if_neg h0]at h
  by_cases h1:-(n:Int)<=i
  ·rw[if_pos h1]at h
   have e:(i+n).toNat=j:=Option.some.inj h
   exact⟨by rw[seqIndex_neg (by lia) h1,e],by lia,h1,by lia⟩
  ·rw[if_neg h1]at h;cases h
theorem Yh3{α:Type}{xs:List α}{i:Int}{v:α}(h:atI xs i=some v):∃j,seqIndex? i xs.length=some j/\xs[j]?=some v/\j < xs.length/\-(xs.length:Int)<=i/\i < xs.length:=by
 unfold atI at h
 cases e:ixN xs.length i with
 | none=>rw[e]at h;cases h
 | some j=>
   rw[e]at h
   obtain⟨h1,h2,h3,h4⟩:=Yof e
   exact⟨j,h1,h,h2,h3,h4⟩
theorem Yj9{α:Type}{xs:List α}{j:Nat}{v:α}(h:xs[j]?=some v):atI xs (j:Int)=some v:=by
 have hj:j < xs.length:=(qm h).1
 have e:ixN xs.length (j:Int)=some j:=by
  unfold ixN
  rw[if_pos (by lia),if_pos (by lia)];simp
 unfold atI;rw[e];exact h
def Ygi(b:Expr):Prop:=∀o i,subscripted b false o i=operate [o,i] (getItem o i)
def IxR(X:Cx)(r:R2):Prop:=
 ∀(value slice:Expr) (pins:List (Addr × Obj)) (s:Shared) (σ:St) (H:Hp) (x y:V) (v u:Value) (Q:VK),Inv X pins σ H s->RelV x v->RelV y u->r x y H Q->
  subscripted slice false v u=operate [v,u] (getItem v u)->wpAny (model X.prog X.w) X.A (subscriptTail value slice v u) (EP X pins σ Q) X.xe s
def MtR(X:Cx)(id:String)(r:V->List V->Hp->VK->Prop):Prop:=
 ∀(pins:List (Addr × Obj)) (s:Shared) (σ:St) (H:Hp) (x:V) (xs:List V) (v:Value) (us:List Value) (Q:VK),Inv X pins σ H s->RelV x v->Vals xs us->r x xs H Q->
  wpAny (model X.prog X.w) X.A (call (.builtin id) (v::us)) (EP X pins σ Q) X.xe s
section
variable {X:Cx} {a b:Expr} {ta tb:TE} {pos:Pos}
theorem IxR.or{r r':R2}(h:IxR X r)(h':IxR X r'):IxR X (fun x y H Q=>r x y H Q\/r' x y H Q):=by
 intro value slice pins s σ H x y v u Q I rx ry q hs
 rcases q with q | q
 ·exact h value slice pins s σ H x y v u Q I rx ry q hs
 ·exact h' value slice pins s σ H x y v u Q I rx ry q hs
theorem Yso{r:R2}(hr:IxR X r)(ha:PE X a ta)(hb:PE X b tb)(hs:Ygi b):PE X (.Subscript a b pos) (tOp r ta tb):=by
 intro pins s σ H Q I h
 exact Subscript_ (binT ha hb I h fun v u s2 x y H2 I2 rx ry q=>hr a b pins s2 σ H2 x y v u Q I2 rx ry q (hs _ _))
def rIxL(K:W.Frag):R2:=fun x y H Q=>∃p xs i v,x=.ref p/\y=.int i/\SqL K H p xs/\atI xs i=some v/\Q v H
def rIxT(K:W.Frag):R2:=fun x y H Q=>∃p xs i v,x=.ref p/\y=.int i/\SqT K H p xs/\atI xs i=some v/\Q v H
def rIxS:R2:=fun x y H Q=>∃z i c,x=.str z/\y=.int i/\z.length<=sizeLine/\atI z.cps.toList i=some c/\Q (.str ⟨#[c]⟩) H
theorem ix_list:IxR X (rIxL X.K):=by
 intro value slice pins s σ H x y v u Q I rx ry h hs
 obtain⟨p,xs,i,z,rfl,rfl,hq,he,q⟩:=h
 cases rx
 obtain⟨t,rfl⟩:=ry
 obtain⟨its,r,pl,hz⟩:=I.list hq
 obtain⟨j,h1,h2,h3,h4,h5⟩:=Yh3 he
 obtain⟨w,ew,rw'⟩:=r.get h2
 have hl:=r.length
 have hn:=Yg5
 have fin:EP X pins σ Q w s:=⟨z,H,I,rw',q⟩
 by_cases h0:0<=i
 ·have hj:i.toNat=j:=by
   rw[seqIndex_of h0 h5]at h1
   exact Option.some.inj h1
  exact item_listR pl.isList h0 (by lia) (by rw[hj];simpa using ew) fin hs
 ·have hj:(i+(its.toArray.size:Int)).toNat=j:=by
   rw[seqIndex_neg (by lia) h4]at h1
   rw[qj,<-hl]
   exact Option.some.inj h1
  exact subscriptTail_builtinR (x:=w) pl.isList.typeIs slot_list_getitem.lookup
   (wpAny_getItem_list_neg (Q:=fun r s'=>r=w/\EP X pins σ Q r s') pl.isList (by lia) (by rw[qj]<;>lia) (by lia) (by rw[hj];simpa using ew) ⟨rfl,fin⟩) hs
theorem ix_tup:IxR X (rIxT X.K):=by
 intro value slice pins s σ H x y v u Q I rx ry h hs
 obtain⟨p,xs,i,z,rfl,rfl,hq,he,q⟩:=h
 cases rx
 obtain⟨t,rfl⟩:=ry
 obtain⟨its,r,pl,hz⟩:=I.tuple hq
 obtain⟨j,h1,h2,h3,h4,h5⟩:=Yh3 he
 obtain⟨w,ew,rw'⟩:=r.get h2
 have hl:=r.length
 have hn:=Yg5
 have fin:EP X pins σ Q w s:=⟨z,H,I,rw',q⟩
 exact subscriptTail_builtinR (x:=w) pl.typeIs slot_tuple_getitem.lookup
  (getItem_tuple (j:=j) (Q:=fun r s'=>r=w/\EP X pins σ Q r s') pl (by lia) (by lia) (by rw[qj,<-hl];exact h1) (by simpa using ew) ⟨rfl,fin⟩) hs
theorem Yqk:IxR X rIxS:=by
 intro value slice pins s σ H x y v u Q I rx ry h hs
 obtain⟨z,i,c,rfl,rfl,hz,he,q⟩:=h
 obtain⟨t,rfl⟩:=rx
 obtain⟨t',rfl⟩:=ry
 obtain⟨j,h1,h2,h3,h4,h5⟩:=Yh3 he
 have hl:z.cps.toList.length=z.length:=by simp[Str.length]
 rw[hl]at h1 h4 h5
 have hn:=Yg5
 exact tail_any (typeIs_str s z t) slot_str_getitem.lookup (getItem_str (c:=c) (by
  have e1:decide (i < -(2 ^ 63:Int))=false:=decide_eq_false (by lia)
  have e2:decide (i≥2 ^ 63)=false:=decide_eq_false (by lia)
  rw[e1,e2,Bool.or_false]) (by rw[h1];simpa using h2) ⟨.str ⟨#[c]⟩,H,I.tok _,⟨_,rfl⟩,q⟩) hs
def rIx(K:W.Frag):R2:=fun x y H Q=>rIxL K x y H Q\/rIxT K x y H Q\/rIxS x y H Q
theorem Yql:IxR X (rIx X.K):=ix_list.or (ix_tup.or Yqk)
theorem Yhb(lo hi:Option Int)(n:Nat):(sliceBounds lo hi none n).1=((HT.sIx n 0 lo:Nat):Int)/\(sliceBounds lo hi none n).2.1=((HT.sIx n n hi:Nat):Int)/\(sliceBounds lo hi none n).2.2=1:=by
 refine⟨?_,?_,rfl⟩
 ·cases lo with
  | none=>simp[sliceBounds,HT.sIx]
  | some i=>
    simp only[sliceBounds,HT.sIx,Option.getD_none,show(1:Int) > 0 by decide,if_true]
    by_cases h:i < 0
    ·simp only[h,if_true]<;>lia
    ·simp only[h,if_false]<;>lia
 ·cases hi with
  | none=>simp[sliceBounds,HT.sIx]
  | some i=>
    simp only[sliceBounds,HT.sIx,Option.getD_none,show(1:Int) > 0 by decide,if_true]
    by_cases h:i < 0
    ·simp only[h,if_true]<;>lia
    ·simp only[h,if_false]<;>lia
theorem Ygj(its:List Value)(lo hi:Option Int):slicePick its.toArray lo hi none=((its.drop (HT.sIx its.length 0 lo)).take (HT.sIx its.length its.length hi - HT.sIx its.length 0 lo)).toArray:=by
 obtain⟨h1,h2,h3⟩:=Yhb lo hi its.toArray.size
 unfold slicePick
 rw[h1,h2,h3]
 simp only[sliceRange_one,pick_run,qj]<;>rfl
def rSlL(K:W.Frag):V->Option Int->Option Int->Hp->VK->Prop:=fun x lo hi H Q=>∃a xs,x=.ref a/\SqL K H a xs/\∀p,H p=none->Q (.ref p) (upd H p (.lst (cutV xs lo hi)))
theorem Yog:SlR X (rSlL X.K):=by
 intro pins s σ H x v vl vu lo hi sl Q I rx hs pl pu h
 obtain⟨a,xs,rfl,hx,q⟩:=h
 cases rx
 obtain⟨its,r,ht,hz⟩:=I.list hx
 have hlen:=r.length
 refine⟨"list",_,slot_list_getitem.lookup,ht.isList.typeIs,?_⟩
 refine wpAny_getItem_list_slice ht.isList hs pl pu .none (by simp) ?_ (by rw[qj]<;>lia)
 rw[Ygj,<-hlen]
 refine⟨.ref s.heap.objs.size,_,I.laid (t':=s.toks) (o:=.lst (cutV xs lo hi)) (fun b ob q=>qe _ q) (qt _) ?_,rfl,q _ (I.hok.fresh (qt _))⟩
 exact⟨qw (Yff xs lo hi) hz,_,0,(r.drop (HT.sIx xs.length 0 lo)).take (HT.sIx xs.length xs.length hi - HT.sIx xs.length 0 lo),qo _ rfl⟩
theorem Ya7:Yfd X (.builtin "len") (fun xs H Q=>∃p ys,xs=[.ref p]/\(SqL X.K H p ys\/SqT X.K H p ys)/\Q (.int ys.length) H):=by
 intro pins s σ H xs us Q I r h
 obtain⟨p,ys,rfl,hq,q⟩:=h
 obtain⟨u,rfl,rx⟩:=Yh1 r
 cases rx
 have hn:=Yg5
 rcases hq with hq | hq
 ·obtain⟨its,r',pl,hz⟩:=I.list hq
  have hlen:=r'.length
  exact Calls.call_len_list pl.isList (by simp only[qj]<;>lia) ⟨.int ys.length,H,I.tok _,⟨s.toks+1,by rw[qj,hlen]⟩,q⟩
 ·obtain⟨its,r',pl,hz⟩:=I.tuple hq
  have hlen:=r'.length
  exact len_tuple pl (by simp only[qj]<;>lia) ⟨.int ys.length,H,I.tok _,⟨s.toks+1,by rw[qj,hlen]⟩,q⟩
theorem Yci:Yfd X (.type "tuple") (fun xs H Q=>∃p ys,xs=[.ref p]/\((SqL X.K H p ys/\∀l,H l=none->Q (.ref l) (upd H l (.tup ys)))\/(SqT X.K H p ys/\Q (.ref p) H))):=by
 intro pins s σ H xs us Q I r h
 obtain⟨p,ys,rfl,h⟩:=h
 obtain⟨u,rfl,rx⟩:=Yh1 r
 cases rx
 rcases h with⟨hq,q⟩ | ⟨hq,q⟩
 ·obtain⟨its,r',pl,hz⟩:=I.list hq
  have hlen:=r'.length
  refine call_tuple_list pl.isList (fun h' kp=>?_) (by simp only[qj]<;>lia)
  have I1:Inv X pins σ H { s with heap:=h' }:=I.kept (t':=s.toks) kp
  have I2:Inv X pins σ (upd H h'.objs.size (.tup ys)) { s with heap:=h'.push { cls:=.type "tuple",data:=.seq its.toArray } }:=
   I1.laid (t':=s.toks) (fun b o e=>qe _ e) (qt _) (show ObjOk X.prog X.w _ _ _ (.tup ys) from⟨hz,its,r',IsTup.new _ _⟩)
  exact⟨.ref h'.objs.size,_,I2,rfl,q _ (I1.hok.fresh (qt _))⟩
 ·obtain⟨its,r',pl,hz⟩:=I.tuple hq
  exact call_tuple_same pl ⟨.ref p,H,I,rfl,q⟩
def tyV(K:W.Frag)(T:String)(x:V)(H:Hp):Prop:=match x with
 | .str _=>T="str"
 | .int _=>T="int"
 | .ref p=>(T="list"/\∃xs,SqL K H p xs)\/(T="tuple"/\∃o,K.lookup p=some o/\o.cls=.type "tuple"/\o.dict=none)\/
  (T="dict"/\((∃kvs,H p=some (.dK kvs))\/∃kvs,H p=some (.dT kvs)))\/(T="set"/\∃S n,H p=some (.set S n))
 | _=>False
theorem Ynl{pins:List (Addr × Obj)}{σ:St}{H:Hp}{s:Shared}{T:String}{x:V}{v:Value}(I:Inv X pins σ H s)(r:RelV x v)(ty:tyV X.K T x H) :
 s.TypeIs v T/\∀a,v=.ref a->∃ob,s.heap.get? a=some ob/\ob.dict=none:=by
 cases x with
 | str z=>
   obtain⟨t,rfl⟩:=r
   cases (show T="str" from ty)
   exact⟨typeIs_str s z t,fun _ e=>nomatch e⟩
 | int i=>
   obtain⟨t,rfl⟩:=r
   cases (show T="int" from ty)
   exact⟨typeIs_int s i t,fun _ e=>nomatch e⟩
 | ref p=>
   cases r
   rcases ty with⟨rfl,xs,hq⟩ | ⟨rfl,o,hk,hc,hd⟩ | ⟨rfl,hk⟩ | ⟨rfl,S,n,hk⟩
   ·obtain⟨its,_,pl,_⟩:=I.list hq
    refine⟨pl.isList.typeIs,fun a e=>?_⟩
    cases e
    obtain⟨o,n,e,c,hd,_⟩:=pl
    exact⟨o,e,hd⟩
   ·refine⟨⟨o,I.kIn p o hk,hc⟩,fun a e=>?_⟩
    cases e
    exact⟨o,I.kIn _ o hk,hd⟩
   ·have z:∃o,s.heap.get? p=some o/\o.ExactDict:=by
     rcases hk with⟨kvs,hk⟩ | ⟨kvs,hk⟩
     ·obtain⟨_,_,_,_,o,_,_,e,ex,_⟩:=I.hok p _ hk
      exact⟨o,e,ex⟩
     ·obtain⟨_,_,_,_,o,_,_,e,ex,_⟩:=I.hok p _ hk
      exact⟨o,e,ex⟩
    obtain⟨o,e,ex⟩:=z
    refine⟨⟨o,e,ex.1⟩,fun a e2=>?_⟩
    cases e2
    exact⟨o,e,ex.2.1⟩
   ·obtain⟨o,_,_,_,e,ex,_⟩:=I.hok p _ hk
    refine⟨⟨o,e,ex.1⟩,fun a e2=>?_⟩
    cases e2
    exact⟨o,e,ex.2.1⟩
 | _=>exact False.elim ty
def tBM0(K:W.Frag)(T:String)(r:V->List V->Hp->VK->Prop)(to:TE):TE:=fun σ H Q=>to σ H fun x H1=>tyV K T x H1/\r x [] H1 Q
def tBM(K:W.Frag)(T:String)(r:V->List V->Hp->VK->Prop)(to:TE)(t:TA):TE:=fun σ H Q=>to σ H fun x H1=>tyV K T x H1/\t σ H1 fun xs H2=>r x xs H2 Q
variable {o e:Expr} {es:List Expr} {to:TE} {t:TA} {name:Str} {apos cpos:Pos} {T id:String} {r:V->List V->Hp->VK->Prop}
theorem Yqm(pa:PlainAttrs T)(slot:Slot T name id)(hty:typeOf (.builtin id)=pure (.type "method_descriptor"))(hm:MtR X id r)(ho:PE X o to)
 (hbase:attributeBase o name X.env (eval o X.env)=eval o X.env:=by rfl) (hline:(apos.endLine==cpos.line)=true:=by rfl):PE X (.Call (.Attribute o name apos) [] [] cpos) (tBM0 X.K T r to):=by
 intro pins s σ H Q I h
 refine wpAny_Call_method0_late hbase hline (thn (ho pins s σ H _ I h) fun v s1 hx_=>?_)
 obtain⟨x,H1,I1,r1,ty,q1⟩:=hx_
 obtain⟨h1,h2⟩:=Ynl I1 r1 ty
 exact⟨T,id,pa,slot,hty,h1,h2,Calls.callWith_builtin rfl (PySem.evalArgs_none (hm pins s1 σ H1 x [] v [] Q I1 r1 .nil q1))⟩
theorem Ymc(pa:PlainAttrs T)(slot:Slot T name id)(hty:typeOf (.builtin id)=pure (.type "method_descriptor"))(hm:MtR X id r)(ho:PE X o to)(ha:PA X (e::es) t)
 (hbase:attributeBase o name X.env (eval o X.env)=eval o X.env:=by rfl)
 (hfew:((backTo cpos (starEach (e::es) X.env)).all (fun x=>!x.1)&&(backToKw cpos (keywordEach [] X.env)).all (fun x=>x.1.isSome)
  &&decide ((e::es).length+([]:List Keyword).length+(if ([]:List Keyword).isEmpty then 0 else 1) < 30))=true:=by rfl)
 (hline:(apos.endLine==cpos.line)=true:=by rfl) (hs:starEach (e::es) X.env=(false,eval e X.env)::starEach es X.env:=by rfl) (hplain:(backTo cpos (starEach es X.env)).any (·.1)=false:=by rfl) :
 PE X (.Call (.Attribute o name apos) (e::es) [] cpos) (tBM X.K T r to t):=by
 intro pins s σ H Q I h
 refine wpAny_Call_method_late hbase hfew hline rfl (thn (ho pins s σ H _ I h) fun v s1 hx_=>?_)
 obtain⟨x,H1,I1,r1,ty,q1⟩:=hx_
 obtain⟨h1,h2⟩:=Ynl I1 r1 ty
 refine⟨T,id,pa,slot,hty,h1,h2,?_⟩
 have hA:=ha cpos pins s1 σ H1 _ I1 q1
 rw[hs]at hA ⊢
 refine Calls.callWith_builtin (by show(false||(backTo cpos (starEach es X.env)).any (·.1))=false;rw[hplain]<;>rfl) (Calls.evalArgs_plain ?_)
 refine thn hA fun us s2 hx_=>?_
 obtain⟨vs,H2,I2,r2,q2⟩:=hx_
 exact hm pins s2 σ H2 x vs v us Q I2 r1 r2 q2
end
end L2
namespace L2
open PySem PySem.Spec PyProof.Rows
def MtM(X:Cx)(id:String)(r:V->List V->Hp->VK->Prop):Prop:=
 ∀(pins:List (Addr × Obj)) (s:Shared) (σ:St) (H:Hp) (x:V) (xs:List V) (v:Value) (us:List Value) (Q:VK),Inv X pins σ H s->RelV x v->Vals xs us->r x xs H Q->
  wpAny (model X.prog X.w) X.A (call (.builtin id) (v::us)) (EP X pins σ Q) X.xe s
theorem Vals.one:∀{x:V} {us:List Value},Vals [x] us->∃u,us=[u]/\RelV x u
 :=by
  intro x us h
  cases h with
  | cons r t=>
    cases t
    exact⟨_,rfl,r⟩
theorem Vals.zero:∀{us:List Value},Vals [] us->us=[]
 | _,.nil=>rfl
theorem Vals.dropLast{xs:List V}{us:List Value}(h:Vals xs us):Vals xs.dropLast us.dropLast:=by
 induction h with
 | nil=>exact .nil
 | cons r t ih=>
   cases t with
   | nil=>exact .nil
   | cons q t'=>exact .cons r ih
theorem Yjg{α:Type}(l:List α):l.eraseIdx (l.length - 1)=l.dropLast:=by
 induction l with
 | nil=>rfl
 | cons a r ih=>
   cases r with
   | nil=>rfl
   | cons b r=>
     have e:(a::b::r).length - 1=((b::r).length - 1)+1:=by
      have h1:(a::b::r).length=r.length+2:=rfl
      have h2:(b::r).length=r.length+1:=rfl
      lia
     rw[e,List.eraseIdx_cons_succ,ih]
     all_goals rfl
section
variable {X:Cx} {pins:List (Addr × Obj)} {σ:St} {H:Hp} {s:Shared} {l b:Addr} {xs ys zs:List V}
theorem Inv.lset{its its':List Value}{n:Nat}{f:Array Value->Array Value}{t':Nat}(I:Inv X pins σ H s)(hH:H l=some (.lst xs))
 (e:s.heap.get? l=some { cls:=.type "list",data:=.seq its.toArray n }) (hf:f its.toArray=its'.toArray) (hv:Vals ys its') (hz:ys.length<=sizeLine) :
 Inv X pins σ (upd H l (.lst ys)) { s with heap:=s.heap.update l (Obj.mapSeq f),toks:=t' }:=by
 have q:=PySem.IsL.update e f
 rw[hf]at q
 refine I.write (x:=l) (e:=l) (by rw[hH];exact trivial) (.inl rfl) (fun b' u hb hu=>(Heap.get?_update_other s.heap (Obj.mapSeq f) (Ne.symm hb)).trans hu) ⟨_,q⟩ ?_
 exact⟨hz,its',_,hv,q⟩
theorem Inv.lnew{its:List Value}{t':Nat}(I:Inv X pins σ H s)(hv:Vals ys its)(hz:ys.length<=sizeLine) :
 Inv X pins σ (upd H s.heap.objs.size (.lst ys)) { s with heap:=s.heap.push { cls:=.type "list",data:=.seq its.toArray },toks:=t' }:=
 I.laid (fun _ _ q=>qe _ q) (qt _) ⟨hz,its,0,hv,qo _ rfl⟩
theorem Inv.fresh(I:Inv X pins σ H s):H s.heap.objs.size=none:=I.hok.fresh (qt _)
theorem Inv.lstM(I:Inv X pins σ H s)(hH:H l=some (.lst xs)):xs.length<=sizeLine/\∃(its:List Value) (n:Nat),Vals xs its/\xs.length=its.length/\s.heap.get? l=some { cls:=.type "list",data:=.seq its.toArray n }:=by
 obtain⟨z,its,n,r,e⟩:=I.hok l _ hH
 exact⟨z,its,n,r,r.length,e⟩
theorem Ymd{n:Nat}(h:n<=sizeLine):Builtin.List.listTooLong n=false:=by
 unfold Builtin.List.listTooLong
 exact decide_eq_false (by lia)
def Yoh:V->List V->Hp->VK->Prop:=fun x vs H Q=>∃l xs y,x=.ref l/\vs=[y]/\H l=some (.lst xs)/\xs.length < sizeLine/\Q .non (upd H l (.lst (xs++[y])))
theorem Yfg:MtM X "list.append" Yoh:=by
 intro pins s σ H x vs v us Q I rx rv h
 obtain⟨l,xs,y,rfl,rfl,hH,hz,q⟩:=h
 cases rx
 obtain⟨u,rfl,ru⟩:=rv.one
 obtain⟨z,its,n,r,hl,e⟩:=I.lstM hH
 refine call_meets F.slot_list_append ⟨_,e,rfl⟩ F.entry_list_append (F.args_list_append_2 _ _) (PySem.list_append l its.toArray n u (by rw[qj];lia)) ⟨e,?_⟩
 refine⟨.non,_,I.lset (its':=its++[u]) hH e (by simp) (r.append (.cons ru .nil)) ?_,rfl,q⟩
 rw[qv,List.length_singleton]
 lia
def rPop:V->List V->Hp->VK->Prop:=fun x vs H Q=>∃l xs y,x=.ref l/\vs=[]/\H l=some (.lst xs)/\xs[xs.length - 1]?=some y/\Q y (upd H l (.lst xs.dropLast))
theorem Yqn:MtM X "list.pop" rPop:=by
 intro pins s σ H x vs v us Q I rx rv h
 obtain⟨l,xs,y,rfl,rfl,hH,hy,q⟩:=h
 cases rx
 have hus:=rv.zero
 subst hus
 obtain⟨z,its,n,r,hl,e⟩:=I.lstM hH
 obtain⟨u,hu,ru⟩:=r.get hy
 have hy':its.toArray[its.toArray.size - 1]?=some u:=by
  show its.toArray[its.length - 1]?=some u
  rw[<-Array.getElem?_toList,<-hl]
  exact hu
 refine call_meets F.slot_list_pop ⟨_,e,rfl⟩ F.entry_list_pop (F.args_list_pop_1 _) (MeetsSeq.list_pop_last l its.toArray n u hy' (by rw[qj];lia)) ⟨e,?_⟩
 refine⟨y,_,I.lset (its':=its.dropLast) hH e ?_ r.dropLast ?_,ru,q⟩
 ·show its.toArray.eraseIdxIfInBounds (its.toArray.size - 1)=its.dropLast.toArray
  rw[qj,List.eraseIdxIfInBounds_toArray,Yjg]
 ·rw[List.length_dropLast]
  lia
end
end L2
namespace Att
open PySem PySem.W PySem.Calls PyProof.Rows
theorem Yfh{P:Params}{h:Heap}:∀(ns:List Int) (vs:List Value),WellAll P h vs (ns.map WData.int)->IntsAre vs ns:=by
 intro ns
 induction ns with
 | nil=>
   intro vs w
   rw[List.map_nil]at w
   cases w
   exact .nil
 | cons n ns ih=>
   intro vs w
   rw[qy]at w
   cases w with
   | cons a b=>
     cases a
     exact .cons _ _ (ih _ b)
theorem Yka{l:OpenLaw}{n:Nat}(hn:l.most=some n){P:Params}{h:Heap}{args:List WData}{vals:List Value}
 (hpre:l.row.toRowW.claim.pre args=true) (hwl:WellAll P h vals args) :
 ∃a vs ns,vals=[Value.ref a]/\args=[WData.list (ns.map WData.int)]/\h.get? a=some { cls:=.type "list",data:=.seq vs.toArray }/\IntsAre vs ns/\ns.length<=n:=by
 have hsh:WShape.hasAll [] args [.list .int]=true:=(pre_splitW hpre).1
 have hc:l.pre.holds [] { args:=args }=true:=(pre_splitW hpre).2
 obtain⟨d,r,rfl,h1,h2⟩:=hasAllW_cons hsh
 obtain rfl:=hasAllW_nil h2
 obtain⟨xs,rfl,h3⟩:=hasW_list h1
 obtain⟨ns,rfl⟩:=items_int h3
 have hlen:ns.length<=n:=by
  unfold OpenLaw.pre at hc
  have h4:(WTm.not (.lt (.lit (.int (n:Int))) (.len (.arg 0)))).holds [] { args:=[.list (ns.map .int)] }=true:=by
   have h4:=(holds_andW hc).1
   rw[hn]at h4
   exact h4
  have h5:=condW_of h4 (w_not (w_lt w_lit (w_len_list (w_arg rfl))))
  rw[qf]at h5
  refine Nat.le_of_not_lt fun q=>?_
  have q':(n:Int) < ((ns.length:Nat):Int):=by lia
  first
   | (rw[decide_eq_true q']at h5;exact absurd h5 (by decide))
   | (simp at h5;lia)
 cases hwl with
 | cons w1 w2=>
   cases w2
   cases w1 with
   | list ho hall=>exact⟨_,_,ns,rfl,rfl,ho,Yfh ns _ hall,hlen⟩
theorem Ykb(l:OpenLaw)(args:List WData):l.row.toRowW.claim.post args (.bool true) args=true:=
 postW_of (r:=l.row.toRowW) (X:=(true==true))
  (show WShape.has [] (.bool true) .bool=true by first | rfl | decide | simp[WShape.has,WShape.arms,WShape.armsAll])
  (show(WTm.eq .res (.lit (.bool true))).value [] { args:=args,res:=some (.bool true),after:=args }=some (.bool (true==true)) from w_eq_bool (w_res rfl) w_lit) rfl
theorem attach_call{l:OpenLaw}{n:Nat}{q:Program}{loose:List Str}{XP:(Str->Option Value)->Heap->Prop}{YP:World->Heap->Prop}{d:DefRec}
 (hn:l.most=some n) (hdf:d.params.defaults=[])
 (call:∀(w:World) (s₀ s₁:Shared) (mg mb:Str->Option Value) (fa:Addr) (o:Obj) (pm cd doc:Value) (a:Addr) (vs:List Value) (ns:List Int),
  Ground q loose [] XP w s₀ mg mb s₁.heap->YP w s₁.heap->
  s₁.heap.get? fa=some o->o.data=.func (docDef d.name d.params d.body d.scope pm cd doc)->s₁.heap.CodeRec cd d.name->mg d.name=some (.ref fa)->
  s₁.heap.get? a=some { cls:=.type "list",data:=.seq vs.toArray }->IntsAre vs ns->ns.length<=n->s₁.gens=#[]->
  codeAny (model l.prog w) callerA (.call (.ref fa) ⟨[.ref a],[]⟩) (fun r s'=>r=.ok (.ret (.bool true))/\OldK s₁.heap s'.heap/\s'.os=s₁.os/\AllBare s'.gens) s₁) :
 WalkO q loose XP YP l.row.toRowW d [] (fun f vs=>PySem.call f vs):=by
 intro w s₀ s₁ mg mb G Y fa o pm cd doc dV kV ho hd hcd hD hmg hg args vals as hpre hlay hrd hwl hlo
 obtain rfl:dV=.none:=Dflts.none hD hdf
 obtain rfl:kV=.none:=Dflts.noKw hD
 obtain⟨a,vs,ns,rfl,rfl,hobj,hints,hlen⟩:=Yka hn hpre hwl
 refine enter_call (codeAny_mono (call w s₀ s₁ mg mb fa o pm cd doc a vs ns G Y ho (fd_plain hd) hcd hmg hobj hints hlen hg) fun r s' hq=>?_)
 obtain⟨rfl,h2,h3,h4⟩:=hq
 exact⟨.inl ⟨.bool true,.bool true,[],rfl,fun _=>rfl,.bool true,Ykb l _,fun _=>⟨List.Pairwise.nil,fun _ hm=>(nomatch hm)⟩⟩,h2,h3,h4⟩
end Att
namespace L2
open PySem PySem.Spec PyProof.Rows
theorem Yhc:∀{vs:List Value} {ns:List Int},IntsAre vs ns->Vals (ns.map V.int) vs
 | _,_,.nil=>.nil
 | _,_,.cons n t h=>.cons ⟨t,rfl⟩ (Yhc h)
def Only(H:Hp):Prop:=∀b,H b=none\/∃o xs,H b=some (.frz o (.lst xs))
theorem Yme{P:Program}{w:World}{K:W.Frag}{mg mb:Str->Option Value}{CX:CXT}{k:Nat}{fa a:Addr}{fd:FuncData}{x:Str}{sp:Sp}{s₁:Shared}{vs:List Value}{ns:List Int}
 (KX:K.In s₁.heap) (hns:s₁.heap.Ns mainGlobals mg) (hb:s₁.heap.Ns builtinsNs mb) (hbb:∀x:Str,x≠"__name__"->mb x=bootBuiltins x) (hlim:s₁.heap.NoLimit) (hg:s₁.gens=#[])
 (ha:s₁.heap.get? a=some { cls:=.type "list",data:=.seq vs.toArray }) (hi:IntsAre vs ns) (hl:ns.length<=sizeLine) (hr:Room k callerA)
 (F:∀base:Heap,K.In base->base.Ns mainGlobals mg->FnOk P w K mg base CX k fa fd [x] sp) (hbind:∀(s:Shared) (u:Value),BindsTo s fd ⟨[u],[]⟩ [(x,u)])
 (hsp:∀H:Hp,Only H->SqL K H a (ns.map V.int)->sp [.ref a] H (fun v _=>v=.bl true) fun _ _ _=>False)
 (hCX:∀H e s',CX [] H s₁ (fun _ _ _=>False) e s'->False) :
 codeAny (model P w) callerA (.call (.ref fa) ⟨[.ref a],[]⟩) (fun r s'=>r=.ok (.ret (.bool true))/\OldK s₁.heap s'.heap/\s'.os=s₁.os/\AllBare s'.gens) s₁:=by
 have rv:=Yhc hi
 have lenV:=hi.length
 have core:∀H:Hp,Only H->SqL K H a (ns.map V.int)->HOk P w H s₁.heap->(∀b,H b≠none->b=a)->(H a≠none->K.lookup a=none)->
  codeAny (model P w) callerA (.call (.ref fa) ⟨[.ref a],[]⟩) (fun r s'=>r=.ok (.ret (.bool true))/\OldK s₁.heap s'.heap/\s'.os=s₁.os/\AllBare s'.gens) s₁:=by
  intro H hO hS hok hA hK
  have base_of:∀{b:Addr} {o:Obj},s₁.heap.get? b=some o->H b=none->(hidT s₁.heap H).get? b=some o:=fun e n=>Yl5 e n
  have noA:∀{b:Addr} {o:Obj} {es:Array DictEntry} {ep:Nat},s₁.heap.get? b=some o->o.data=.dict es ep->H b=none:=fun {b o es ep} e d=>by
   cases q:H b with
   | none=>rfl
   | some u=>
     have e':b=a:=hA b (by rw[q];simp)
     subst e'
     rw[ha]at e;cases e
     have d':Data.seq vs.toArray _=Data.dict es ep:=d
     cases d'
  have nsK:∀{b:Addr} {m:Str->Option Value},s₁.heap.Ns b m->(hidT s₁.heap H).Ns b m:=fun {b m} ⟨o,es,ep,e,d,r⟩=>⟨o,es,ep,base_of e (noA e d),d,r⟩
  have hKb:K.In (hidT s₁.heap H):=fun b o e=>base_of (KX b o e) (by
   cases q:H b with
   | none=>rfl
   | some u=>
     have e':b=a:=hA b (by rw[q];simp)
     subst e'
     rw[hK (by rw[q];simp)]at e;cases e)
  have hM:Mod K mg (hidT s₁.heap H):=⟨hKb,nsK hns,⟨mb,nsK hb,hbb⟩,let ⟨mc,h1,h2⟩:=hlim;⟨mc,nsK h1,h2⟩⟩
  have e0:Env0 P w K mg (hidT s₁.heap H) callerA [] s₁ H:=⟨rfl,hM,fun b o e=>Yn5 e,Nat.le_of_eq (Yju _ _),trivial,fun b hb=>absurd (show b∈([]:List Addr) from hb) (by simp),hok,.of_eq hg⟩
  refine codeAny_mono ((F _ hKb (nsK hns)).run callerA [] s₁ H ⟨[.ref a],[]⟩ [.ref a] [.ref a] _ _ hr e0 (hbind s₁ (.ref a)) (.cons rfl .nil) (hsp H hO hS)) fun r s' h=>?_
  cases r with
  | error e=>exact(hCX H e s' h).elim
  | ok fl=>
    cases fl with
    | next=>exact False.elim h
    | brk=>exact False.elim h
    | cont=>exact False.elim h
    | ret u=>
      obtain⟨v,H',os,bare,un,hok',r',q⟩:=h
      have q':v=.bl true:=q
      subst q'
      obtain rfl:u=Value.bool true:=r'
      refine⟨rfl,OldK.of_keep fun b o e=>?_,os,bare⟩
      cases q:H b with
      | none=>exact un.keep b o e q (by intro z;exact absurd (show b∈([]:List Addr) from z) (by simp)) (by simp)
      | some u=>
        rcases hO b with z | ⟨ob,xs,z⟩
        ·rw[q]at z;cases z
        ·have z2:=un.frzs b ob _ z
         obtain⟨e1,_⟩:=hok b _ z
         obtain⟨e2,_⟩:=hok' b _ z2
         rw[e]at e1;cases e1
         exact e2
 cases hk:K.lookup a with
 | some o=>
   have e:=KX a o hk
   rw[ha]at e
   cases e
   refine core (fun _=>none) (fun _=>.inl rfl) (.inr ⟨_,vs.toArray,_,hk,rfl,rfl,rfl,by rw[qj,lenV];exact hl,by simpa using rv⟩) (fun b u z=>by have z':(none:Option HO)=some u:=z;cases z') (fun b z=>absurd rfl z) fun z=>absurd rfl z
 | none=>
   refine core (fun b=>if b=a then some (.frz { cls:=.type "list",data:=.seq vs.toArray } (.lst (ns.map V.int)))else none) (fun b=>?_) (.inl (.inr ⟨{ cls:=.type "list",data:=.seq vs.toArray },if_pos rfl⟩)) (fun b u z=>?_) (fun b z=>?_) fun _=>hk
   ·by_cases hb:b=a
    ·exact .inr ⟨_,_,if_pos hb⟩
    ·exact .inl (if_neg hb)
   ·by_cases hb:b=a
    ·have z':=(if_pos hb).symm.trans z
     cases z'
     subst hb
     exact⟨ha,by rw[qf];exact hl,vs,_,rv,ha⟩
    ·have z':=(if_neg hb).symm.trans z
     cases z'
   ·by_cases hb:b=a
    ·exact hb
    ·exact absurd (if_neg hb) z
end L2
namespace L2
open PySem PySem.Spec PyProof.Rows
theorem walk_of{l:W.OpenLaw}{n k:Nat}{q:Program}{loose:List Str}{XP:(Str->Option Value)->Heap->Prop}{YP:World->Heap->Prop}{d:DefRec}{K:Params->W.Frag}{CX:World->CXT}{sp:World->Sp}{x:Str}
 (hn:l.most=some n) (hn2:n<=sizeLine) (hdf:d.params.defaults=[]) (hr:Room k callerA)
 (hY:∀(w:World) (h:Heap),YP w h->(K w.params).In h)
 (F:∀(w:World) (mg:Str->Option Value) (fa:Addr) (h:Heap),(K w.params).In h->h.Ns mainGlobals mg->mg d.name=some (.ref fa)->
  ∃fd:FuncData,(∀(s:Shared) (u:Value),BindsTo s fd ⟨[u],[]⟩ [(x,u)])/\
   ∀base:Heap,(K w.params).In base->base.Ns mainGlobals mg->FnOk l.prog w (K w.params) mg base (CX w) k fa fd [x] (sp w))
 (hsp:∀(w:World) (H:Hp) (a:Addr) (ns:List Int),ns.length<=n->Only H->SqL (K w.params) H a (ns.map V.int)->sp w [.ref a] H (fun v _=>v=.bl true) fun _ _ _=>False)
 (hCX:∀(w:World) (H:Hp) (s:Shared) (e:Value) (s':Shared),CX w [] H s (fun _ _ _=>False) e s'->False) :
 W.WalkO q loose XP YP l.row.toRowW d [] (fun f vs=>PySem.call f vs):=by
 refine Att.attach_call hn hdf fun w s₀ s₁ mg mb fa o pm cd doc a vs ns G Y ho hd hcd hmg hobj hints hlen hg=>?_
 have KX:=hY w _ Y
 obtain⟨fd,hb,hF⟩:=F w mg fa _ KX G.T.g hmg
 exact Yme KX G.T.g G.T.b G.T.builtins G.T.nolimit hg hobj hints (qw hlen hn2) hr hF hb (fun H hO hS=>hsp w H a ns hlen hO hS) fun H e s'=>hCX w H s₁ e s'
end L2
namespace L2
open PySem PySem.Spec PyProof.Rows
def defArgs(s:Stmt):Arguments:=match s with
 | .FunctionDef _ a _ _ _ _ _ _ _ _=>a
 | _=>{ posonlyargs:=[],args:=[],vararg:=none,kwonlyargs:=[],kw_defaults:=[],kwarg:=none,defaults:=[] }
def defBody(s:Stmt):List Stmt:=match s with
 | .FunctionDef _ _ b _ _ _ _ _ _ _=>b
 | _=>[]
def defScope(s:Stmt):Scope:=match s with
 | .FunctionDef _ _ _ _ _ _ sc _ _ _=>sc
 | _=>{ kind:=.function,names:=[],isGenerator:=false,isCoroutine:=false }
abbrev CX0:CXT:=fun _ _ _ _ _ _=>False
abbrev E0:XK:=fun _ _ _=>False
theorem Yoi{X:Cx}:Yj4 CX0 X E0:=fun _ _ _ _ _ _ _ h=>h.elim
structure Fun(K:W.Frag)(x qual:Str)(st:Stmt)(f:Addr)(fd:FuncData):Prop where
 ex:∃(oc:Value) (od:Option Addr) (kV doc pm:Value) (an:Option Addr) (cdv ct:Value) (osl:Array (Option Value)),
  fd=W.fnOf x qual (defArgs st) (defBody st) (defScope st) .none kV doc pm an cdv ct/\K.lookup f=some ⟨oc,od,.func fd,osl⟩/\W.codeIn K cdv qual=true
 kp:W.keepIn K (.ref f)=true
section
variable {P:Program} {w:World} {K:W.Frag} {mg:Str->Option Value} {base:Heap}
theorem Fun.ok{x qual:Str}{st:Stmt}{f:Addr}{fd:FuncData}{N ps:List Str}{k:Nat}{sp:Sp}(F:Fun K x qual st f fd)(S:FnScope N ps (defScope st))(len:∀vs H Q E,sp vs H Q E->vs.length=ps.length)
 (hbody:∀(cdv:Value) (A:Around) (outer:List Env) (s:Shared) (H:Hp) (vs:List V) (Q:VK) (E:XK),Room k (A.deeper (envOfC qual (defScope st) s.heap.objs.size f cdv))->sp vs H Q E->
  ∃t,PSs (cxOf CX0 P w K mg base N qual (defScope st) f cdv A outer s H E).nox (defBody st) t/\t { nx:=fun _ H'=>Q .non H',rt:=Q } (start N vs) H):FnOk P w K mg base CX0 (k+1) f fd ps sp:=by
 obtain⟨oc,od,kV,doc,pm,an,cdv,ct,osl,rfl,lk,hcd⟩:=F.ex
 refine Ysn lk hcd S len fun A outer s H vs Q E hr hsp=>?_
 obtain⟨t,h,q⟩:=hbody cdv A outer s H vs Q E hr hsp
 exact⟨t,h.nox,q⟩
theorem Fun.binds{x qual:Str}{st:Stmt}{f:Addr}{fd:FuncData}{ps:List Str}(F:Fun K x qual st f fd)
 (h:∀(kV doc pm:Value) (an:Option Addr) (cdv ct:Value) (us:List Value),us.length=ps.length->bindArgs (W.fnOf x qual (defArgs st) (defBody st) (defScope st) .none kV doc pm an cdv ct) ⟨us,[]⟩=pure (ps.zip us)):Binds K fd ps []:=by
 obtain⟨oc,od,kV,doc,pm,an,cdv,ct,osl,rfl,lk,hcd⟩:=F.ex
 exact .all (h kV doc pm an cdv ct)
theorem Ynm{x qual:Str}{st:Stmt}{f:Addr}{oc:Value}{od an:Option Addr}{osl:Array (Option Value)}{kV doc pm cdv ct:Value}(l:K.lookup f=some ⟨oc,od,.func (W.fnOf x qual (defArgs st) (defBody st) (defScope st) .none kV doc pm an cdv ct),osl⟩)
 (c:W.codeIn K cdv qual=true) (k:W.keepIn K (.ref f)=true):Fun K x qual st f (W.fnOf x qual (defArgs st) (defBody st) (defScope st) .none kV doc pm an cdv ct):=⟨⟨oc,od,kV,doc,pm,an,cdv,ct,osl,rfl,l,c⟩,k⟩
end
theorem iteF{A B:Prop}(h:B):if false=true then A else B:=by
 rw[if_neg qi]
 exact h
theorem iteT{A B:Prop}(h:A):if true=true then A else B:=by
 rw[if_pos rfl]
 exact h
def Same(H H':Hp):Prop:=∀b o,H b=some o->H' b=some o
theorem Same.refl(H:Hp):Same H H:=fun _ _ h=>h
theorem Same.trans{H H1 H2:Hp}(a:Same H H1)(b:Same H1 H2):Same H H2:=fun c o h=>b c o (a c o h)
theorem Same.free{H H':Hp}(e:Same H H'){l:Addr}(h:H' l=Option.none):H l=Option.none:=by
 cases q:H l with
 | none=>rfl
 | some o=>
   rw[e l o q]at h
   cases h
theorem Same.seq{K:W.Frag}{H H':Hp}{a:Addr}{xs:List V}(e:Same H H')(h:SqL K H a xs):SqL K H' a xs:=by
 rcases h with(h | ⟨o,h⟩) | h
 ·exact .inl (.inl (e _ _ h))
 ·exact .inl (.inr ⟨o,e _ _ h⟩)
 ·exact .inr h
end L2
namespace L2
open PySem PySem.Spec PyProof.Rows
def clOf(env:Env):List (Str × NameKind)->List (Str × Addr)->List (Str × Addr)
 | [],cs=>cs
 | (n,k)::r,cs=>if (k==NameKind.free)=true then (match env.cells.lookup n with | some c=>clOf env r ((n,c)::cs) | none=>clOf env r cs)else clOf env r cs
theorem Yfi{scope:Scope}{env:Env}(h:∀x∈scope.names,x.2=NameKind.free->∃c,env.cells.lookup x.1=some c):closureFor scope env=pure (clOf env scope.names []):=by
 have key:∀(l:List (Str × NameKind)) (cs:List (Str × Addr)),(∀x∈l,x.2=NameKind.free->∃c,env.cells.lookup x.1=some c)->
  (forIn l cs fun(x:Str × NameKind) (r:List (Str × Addr))=>if (x.2==NameKind.free)=true then (do let c <-cellOf env x.1;pure (ForInStep.yield ((x.1,c)::r)))else pure (ForInStep.yield r))=(pure (clOf env l cs):Sem (List (Str × Addr))):=by
  intro l
  induction l with
  | nil=>intro cs _;rfl
  | cons x l ih=>
    intro cs hl
    obtain⟨n,k⟩:=x
    have ht:=fun y hy=>hl y (qg _ hy)
    rw[List.forIn_cons]
    by_cases hk:k=NameKind.free
    ·subst hk
     obtain⟨c,hc⟩:=hl (n,NameKind.free) qh rfl
     have hc':env.cells.lookup n=some c:=hc
     have e1:cellOf env n=pure c:=by unfold cellOf;rw[hc']
     have hff:(NameKind.free==NameKind.free)=true:=rfl
     show(if (NameKind.free==NameKind.free)=true then (do let c <-cellOf env n;pure (ForInStep.yield ((n,c)::cs)))else pure (ForInStep.yield cs)) >>= _=_
     rw[if_pos hff,e1,pure_bind,pure_bind]
     show forIn l ((n,c)::cs) _=_
     rw[ih _ ht]
     show _=pure (if (NameKind.free==NameKind.free)=true then (match env.cells.lookup n with | some c=>clOf env l ((n,c)::cs) | none=>clOf env l cs)else clOf env l cs)
     rw[if_pos hff,hc']
    ·have hb:(k==NameKind.free)=false:=by simpa using hk
     show(if (k==NameKind.free)=true then _ else pure (ForInStep.yield cs)) >>= _=_
     rw[if_neg (by rw[hb];exact qi),pure_bind]
     show forIn l cs _=_
     rw[ih _ ht]
     show _=pure (if (k==NameKind.free)=true then (match env.cells.lookup n with | some c=>clOf env l ((n,c)::cs) | none=>clOf env l cs)else clOf env l cs)
     rw[if_neg (by rw[hb];exact qi)]
 have:=key scope.names [] h
 unfold closureFor
 simpa using this
theorem Ye6{env:Env}:∀(l:List (Str × NameKind)) (cs:List (Str × Addr)),(∀x c,(x,c)∈cs->env.cells.lookup x=some c)->∀x c,(x,c)∈clOf env l cs->env.cells.lookup x=some c
 | [],cs,h,x,c,e=>h x c e
 | (n,k)::r,cs,h,x,c,e=>by
   unfold clOf at e
   split at e
   ·split at e
    ·rename_i d hd
     refine Ye6 r _ (fun y b hy=>?_) x c e
     rcases qs hy with q | q
     ·cases q;exact hd
     ·exact h y b q
    ·exact Ye6 r cs h x c e
   ·exact Ye6 r cs h x c e
theorem Yc9{env:Env}:∀(l:List (Str × NameKind)) (cs:List (Str × Addr)) (p:Str × Addr),p∈cs->p∈clOf env l cs
 | [],_,_,h=>h
 | (n,k)::r,cs,p,h=>by
   unfold clOf
   split
   ·split
    ·exact Yc9 r _ p (qg _ h)
    ·exact Yc9 r _ p h
   ·exact Yc9 r _ p h
theorem Yd0{env:Env}:∀(l:List (Str × NameKind)) (cs:List (Str × Addr)) (x:Str) (c:Addr),(x,NameKind.free)∈l->env.cells.lookup x=some c->(x,c)∈clOf env l cs
 | (n,k)::r,cs,x,c,h,hc=>by
   rcases qs h with q | q
   ·cases q
    unfold clOf
    rw[if_pos (show(NameKind.free==NameKind.free)=true from rfl),hc]
    exact Yc9 r _ _ qh
   ·unfold clOf
    split
    ·split
     ·exact Yd0 r _ x c q hc
     ·exact Yd0 r _ x c q hc
    ·exact Yd0 r _ x c q hc
theorem Yd1{x:Str}{c:Addr}{cl:List (Str × Addr)}(h:(x,c)∈cl):∃d,cl.lookup x=some d:=by
 induction cl with
 | nil=>cases h
 | cons p r ih=>
   obtain⟨n,b⟩:=p
   rw[Qb]
   cases e:(x==n)with
   | true=>exact⟨b,rfl⟩
   | false=>
     rcases qs h with q | q
     ·cases q;simp at e
     ·exact ih q
structure CompSc(XN:List Str)(xsc:Scope)(N:List Str)(src:List (Option Nat))(sc:Scope):Prop where
 kind:sc.kind=.function
 xkind:xsc.kind=.function
 cellU:∀y∈sc.names,y.2=NameKind.cell->sc.names.lookup y.1=some NameKind.cell
 names:∀y∈sc.names,y.2=NameKind.local->sc.names.lookup y.1=some NameKind.local
 len:src.length=N.length
 nd:N.Nodup
 cap:∀(i j:Nat) (x:Str),N[i]?=some x->src[i]?=some (some j)->XN[j]?=some x/\sc.names.lookup x=some NameKind.free
 fr:∀y∈sc.names,y.2=NameKind.free->xsc.names.lookup y.1=some NameKind.cell\/xsc.names.lookup y.1=some NameKind.free
def capB(XN:List Str)(sc:Scope):List Str->List (Option Nat)->Bool
 | [],[]=>true
 | x::N,none::src=>capB XN sc N src
 | x::N,some j::src=>decide (XN[j]?=some x)&&decide (sc.names.lookup x=some NameKind.free)&&capB XN sc N src
 | _,_=>false
theorem Ygk{XN:List Str}{sc:Scope}:∀{N:List Str} {src:List (Option Nat)},capB XN sc N src=true->src.length=N.length
 | [],[],_=>rfl
 | _::N,none::src,h=>by
   have:=Ygk (N:=N) (src:=src) h
   simp[this]
 | _::N,some j::src,h=>by
   replace h:(decide (XN[j]?=some _)&&decide (sc.names.lookup _=some NameKind.free)&&capB XN sc N src)=true:=h
   simp only[Bool.and_eq_true]at h
   have:=Ygk (N:=N) (src:=src) h.2
   simp[this]
 | [],_::_,h=>Bool.noConfusion h
 | _::_,[],h=>Bool.noConfusion h
theorem Ygl{XN:List Str}{sc:Scope}:∀{N:List Str} {src:List (Option Nat)},capB XN sc N src=true->∀(i j:Nat) (x:Str),N[i]?=some x->src[i]?=some (some j)->XN[j]?=some x/\sc.names.lookup x=some NameKind.free
 | [],[],_,i,j,x,h,_=>by simp at h
 | _::N,none::src,h,i,j,x,h1,h2=>by
   cases i with
   | zero=>simp at h2
   | succ i=>exact Ygl (N:=N) (src:=src) h i j x (by simpa using h1) (by simpa using h2)
 | y::N,some k::src,h,i,j,x,h1,h2=>by
   replace h:(decide (XN[k]?=some y)&&decide (sc.names.lookup y=some NameKind.free)&&capB XN sc N src)=true:=h
   simp only[Bool.and_eq_true,decide_eq_true_eq]at h
   cases i with
   | zero=>
     simp at h1 h2
     subst h1;subst h2
     exact h.1
   | succ i=>exact Ygl (N:=N) (src:=src) h.2 i j x (by simpa using h1) (by simpa using h2)
 | [],_::_,h,_,_,_,_,_=>Bool.noConfusion h
 | _::_,[],h,_,_,_,_,_=>Bool.noConfusion h
def Yqo(XN:List Str)(xsc:Scope)(N:List Str)(src:List (Option Nat))(sc:Scope):Bool:=
 decide (sc.kind=.function)&&decide (xsc.kind=.function)&&sc.names.all (fun y=>decide (y.2=NameKind.cell->sc.names.lookup y.1=some NameKind.cell))&&sc.names.all (fun y=>decide (y.2=NameKind.local->sc.names.lookup y.1=some NameKind.local))&&
  decide N.Nodup&&capB XN sc N src&&sc.names.all (fun y=>decide (y.2=NameKind.free->xsc.names.lookup y.1=some NameKind.cell\/xsc.names.lookup y.1=some NameKind.free))
theorem Yd2{XN:List Str}{xsc:Scope}{N:List Str}{src:List (Option Nat)}{sc:Scope}(h:Yqo XN xsc N src sc=true):CompSc XN xsc N src sc:=by
 unfold Yqo at h
 simp only[Bool.and_eq_true,decide_eq_true_eq,List.all_eq_true]at h
 obtain⟨⟨⟨⟨⟨⟨h1,h2⟩,h3⟩,h4⟩,h5⟩,h6⟩,h7⟩:=h
 exact⟨h1,h2,h3,h4,Ygk h6,h5,Ygl h6,h7⟩
abbrev Yat(X:Cx)(scope:Scope)(N:List Str)(cl:List (Str × Addr))(C:Addr)(fp:List Addr)(s:Shared)(H:Hp):Cx where
 prog:=X.prog
 w:=X.w
 K:=X.K
 mg:=X.mg
 base:=X.base
 A:=X.A
 N:=N
 s₀:=s
 H₀:=H
 env:=compEnvC scope cl C X.env
 outer:=X.stack
 stack:=X.stack
 ex:=fp
 fn:=fun x=>scope.names.lookup x==some NameKind.cell
 calm:=X.calm
 pn:=[]
 xe:=fun _ _=>False
def capσ(src:List (Option Nat))(σ:St):St:=src.map fun o=>o.bind fun j=>(σ[j]?).join
def PIfs(X:Cx)(ifs:List Expr)(t:TT):Prop:=
 ∀(pins:List (Addr × Obj)) (s:Shared) (σ:St) (H:Hp) (Q:Bool->Hp->Prop),Inv X pins σ H s->t σ H Q->
  wpAny (model X.prog X.w) X.A (forIn ifs true fun c r=>if r=true then do let ok <-isTrue c X.env (eval c X.env);pure (ForInStep.yield ok)else pure (ForInStep.yield r)) (TP X pins σ Q) X.xe s
def tYes:TT:=fun _ H Q=>Q true H
theorem Yoj{X:Cx}:PIfs X [] tYes:=fun _ _ _ H _ I h=>wpAny_tests_nil ⟨H,I,h⟩
def tLC(wi:TI)(src:List (Option Nat))(g:TG)(ti:TT)(te:TE):TE:=fun σ H Q=>wi σ H fun J H1=>∀p,H1 p=none->
 ∃W:Nat->Nat->St->Hp->Prop,(∃m,W 0 m (capσ src σ) (upd H1 p (.lst [])))/\∀i m σ1 H2,W i m σ1 H2->
  (J.stop i H2/\Q (.ref p) H2)\/
  (J.go i H2/\∀x H3,J.yld i H2 x H3->g x σ1 H3 fun σ4 H4=>ti σ4 H4 fun b H5=>if b=true then te σ4 H5 fun v H6=>∃xs,H6 p=some (.lst xs)/\xs.length < sizeLine/\∃m',m' < m/\W (i+1) m' σ4 (upd H6 p (.lst (xs++[v])))else ∃m',m' < m/\W (i+1) m' σ4 H5)
section
variable {prog:Program} {w:World} {A:Around} {R:Result->Shared->Prop} {s:Shared} {X:Cx} {elt tg iter:Expr} {ifs:List Expr} {scope:Scope} {pos:Pos} {wi:TI} {g:TG} {ti:TT} {te:TE} {N:List Str} {src:List (Option Nat)}
theorem Ydb{elt target iter:Expr}{ifs:List Expr}{scope:Scope}{pos:Pos}{it acc:Value}{env:Env}(I:Nat->Shared->Prop)
 (turn:∀n s,I n s->wpAny (model prog w) A (pyNext it) (fun r s₁=>match r with
  | none=>R (.ok .next) s₁
  | some v=>wpAny (model prog w) A (letOwnedTupleGo target it v) (fun _ s₁=>wpAny (model prog w) A (assign target env v) (fun _ s₂=>
   wpAny (model prog w) A (forIn ifs true fun c r=>if r=true then do let ok <-isTrue c env (eval c env);pure (ForInStep.yield ok)else pure (ForInStep.yield r)) (fun ok s₃=>
    if ok=true then wpAny (model prog w) A (eval elt env) (fun x s₄=>
     wpAny (model prog w) A (call (.builtin "list.append") [acc,x]) (fun _ s₅=>∃m,m < n/\I m s₅) (notedBy (model prog w) A env fun e s'=>R (.error e) s') s₄) (notedBy (model prog w) A env fun e s'=>R (.error e) s') s₃
    else ∃m,m < n/\I m s₃) (notedBy (model prog w) A env fun e s'=>R (.error e) s') s₂) (notedBy (model prog w) A env fun e s'=>R (.error e) s') s₁) (notedBy (model prog w) A env fun e s'=>R (.error e) s') s₁) (notedBy (model prog w) A env fun e s'=>R (.error e) s') s)
 (n:Nat) (h:I n s) :
 codeAny (model prog w) A (.compLoop (.ListComp elt [⟨target,iter,ifs,0⟩] scope pos) 0 it acc env) R s:=by
 refine codeAny_loop rfl I (fun n s hI=>?_) n h
 show wpAny _ A ((compTurn (.ListComp elt [⟨target,iter,ifs,0⟩] scope pos) 0 it acc env).onRaise (fun x=>do noteFrame x env;theTreesLotGoes x)) _ _ s
 refine wpAny_noted ?_
 rw[compTurn_list]
 refine wpAny_bind (wpAny_standAt (wpAny_bind (wpAny_mono (turn n s hI) (fun r s₁ h₁=>?_) fun _ _ h'=>h')))
 cases r with
 | none=>exact wpAny_pure h₁
 | some v=>
   refine wpAny_bind (wpAny_mono h₁ (fun _ s₁ h₁=>?_) fun _ _ h'=>h')
   refine wpAny_bind (wpAny_mono h₁ (fun _ s₂ h₂=>wpAny_bind (wpAny_mono h₂ (fun ok s₃ h₃=>?_) fun _ _ h'=>h')) fun _ _ h'=>h')
   cases ok with
   | false=>exact wpAny_pure ⟨rfl,h₃⟩
   | true=>
     exact wpAny_bind (wpAny_bind (wpAny_mono h₃ (fun x s₄ h₄=>wpAny_bind (wpAny_mono h₄ (fun _ s₅ h₅=>wpAny_pure (wpAny_pure ⟨rfl,h₅⟩)) fun _ _ h'=>h')) fun _ _ h'=>h'))
theorem Yde{scope:Scope}{env:Env}{x:Str}(h:scope.names.lookup x=some NameKind.free)(hk:env.kindOf x=some NameKind.cell\/env.kindOf x=some NameKind.free) :
 (relabel scope env).names.lookup x=some NameKind.cell\/(relabel scope env).names.lookup x=some NameKind.free:=by
 unfold relabel
 show List.lookup x (scope.names.map _)=_\/List.lookup x (scope.names.map _)=_
 generalize scope.names=l at h
 induction l with
 | nil=>cases h
 | cons p r ih=>
   obtain⟨n,k⟩:=p
   rw[Qb]at h
   rw[qy]
   cases e:(x==n)with
   | true=>
     rw[e]at h
     cases h
     by_cases hc:(NameKind.free==NameKind.free&&env.scope.kind==ScopeKind.function&&env.kindOf n==some NameKind.cell)=true
     ·left;simp only[hc,if_true];rw[Qb,e]
     ·right;simp only[hc];rw[if_neg qi,Qb,e]
   | false=>
     rw[e]at h
     have q:=ih h
     by_cases hc:(k==NameKind.free&&env.scope.kind==ScopeKind.function&&env.kindOf n==some NameKind.cell)=true
     ·simp only[hc,if_true];rw[Qb,e];exact q
     ·simp only[hc];rw[if_neg qi,Qb,e];exact q
theorem Yfj{scope:Scope}{env:Env}{x:Str}(h:(relabel scope env).names.lookup x=some NameKind.cell\/(relabel scope env).names.lookup x=some NameKind.free) :
 (x,NameKind.free)∈scope.names\/(x,NameKind.cell)∈scope.names:=by
 unfold relabel at h
 change List.lookup x (scope.names.map _)=_\/List.lookup x (scope.names.map _)=_ at h
 revert h
 generalize scope.names=l
 intro h
 induction l with
 | nil=>rcases h with h | h<;>cases h
 | cons p r ih=>
   obtain⟨n,k⟩:=p
   rw[qy]at h
   have hr:=fun z=>ih z
   cases e:(x==n)with
   | true=>
     have en:x=n:=by simpa using e
     subst en
     by_cases hk:k=NameKind.free
     ·subst hk;exact .inl qh
     ·have hb:(k==NameKind.free)=false:=by simpa using hk
      simp only[hb,Bool.false_and,Bool.false_eq_true,if_false]at h
      rw[Qb,e]at h
      rcases h with h | h
      ·cases h;exact .inr qh
      ·cases h;exact absurd rfl hk
   | false=>
     refine(hr ?_).imp (qg _) (qg _)
     by_cases hk:(k==NameKind.free&&env.scope.kind==ScopeKind.function&&env.kindOf n==some NameKind.cell)=true
     ·simp only[hk,if_true]at h;rw[Qb,e]at h;exact h
     ·simp only[hk]at h;rw[if_neg qi,Qb,e]at h;exact h
theorem Ya9:∀(names:List (Str × NameKind)) (n:Nat) (acc:List (Str × Addr)),cellsFrom n names acc=cellsFrom n names []++acc
 | [],_,_=>rfl
 | (x,k)::r,n,acc=>by
   unfold cellsFrom
   split
   ·rw[Ya9 r (n+1) ((x,n)::acc),Ya9 r (n+1) [(x,n)],Qd];rfl
   ·exact Ya9 r n acc
theorem Ycj:∀(names:List (Str × NameKind)) (n:Nat) (x:Str) (c:Addr),(x,c)∈cellsFrom n names []->(x,NameKind.cell)∈names
 | [],_,_,_,h=>(nomatch h)
 | (y,k)::r,n,x,c,h=>by
   unfold cellsFrom at h
   split at h
   ·rename_i hk
    rw[Ya9]at h
    rcases qu h with h | h
    ·exact qg _ (Ycj r _ x c h)
    ·rw[List.mem_singleton]at h
     cases h
     have:k=NameKind.cell:=by simpa using hk
     rw[this];exact qh
   ·exact qg _ (Ycj r n x c h)
theorem Yef{own cl:List (Str × Addr)}{x:Str}:(own++cl).lookup x=(own.lookup x).or (cl.lookup x):=by
 induction own with
 | nil=>rfl
 | cons p r ih=>
   obtain⟨y,b⟩:=p
   rw[List.cons_append,Qb,Qb]
   cases (x==y)with
   | true=>rfl
   | false=>exact ih
theorem Yam{own cl:List (Str × Addr)}{x:Str}{c:Addr}(h:(own++cl).lookup x=some c):own.lookup x=some c\/(own.lookup x=none/\cl.lookup x=some c):=by
 rw[Yef]at h
 cases e:own.lookup x with
 | none=>rw[e]at h;exact .inr ⟨rfl,h⟩
 | some d=>rw[e]at h;exact .inl h
theorem Yh4{M:Model}{A:Around}{E:Value->Shared->Prop}{scope:Scope}{globals:Addr}{cl:List (Str × Addr)}{qual:Str}{outer:Env}{Q:Env->Shared->Prop}{s:Shared}{bt:Addr}
 (h:Q (newEnv scope s.heap.objs.size globals (cellsFrom (s.heap.objs.size+1) scope.names []++cl) qual none .none (some outer) bt) { s with heap:=pushCells (s.heap.push { cls:=.type "dict",data:=.dict #[] }) scope.names }) :
 wpAny M A (newFunctionEnv scope globals cl [] qual none .none (some outer) bt) Q E s:=by
 simp only[newFunctionEnv,Option.isSome_some,if_true]
 refine wpAny_bind (wpAny_alloc ?_)
 refine wpAny_bind (wpAny_layCells _ (fun name kind cells=>by cases hkc:kind==NameKind.cell<;>simp[hkc]) _ _ _ _ ?_)
 rw[show({ s with heap:=s.heap.push { cls:=.type "dict",data:=.dict #[] } }:Shared).heap.objs.size=s.heap.objs.size+1 from Heap.size_push ..,Ya9]
 rw[List.forIn_nil]
 exact wpAny_bind (wpAny_pure (wpAny_pure h))
theorem Yjh{pins:List (Addr × Obj)}{σ:St}{H:Hp}{s:Shared}{fp:List Addr}{h₁:Heap}{tk:Nat}{own:List (Str × Addr)}(S:CompSc X.N X.env.scope N src scope)(I:Inv X pins σ H s)(hf:∀b∈fp,FpOk X pins H b)(ho:∀b∈fp,∃o,s.heap.get? b=some o)
 (hn:h₁.Ns s.heap.objs.size fun _=>none) (hk:∀b o,s.heap.get? b=some o->h₁.get? b=some o) (hc:CellsOk h₁ (s.heap.objs.size+1) own) (ow:∀x c,(x,c)∈own->(x,NameKind.cell)∈scope.names) (has:∀x,scope.names.lookup x=some NameKind.cell->∃c,own.lookup x=some c) :
 Inv (Yat X scope N (own++clOf X.env scope.names []) s.heap.objs.size fp s H) [] (capσ src σ) H { s with heap:=h₁,toks:=tk }:=by
 have sub:∀x c,(clOf X.env scope.names []).lookup x=some c->X.env.cells.lookup x=some c:=fun x c e=>Ye6 scope.names [] (fun _ _ z=>nomatch z) x c (PySem.mem_of_lookup e)
 have clt:∀x c,(clOf X.env scope.names []).lookup x=some c->c < s.heap.objs.size:=fun x c e=>by
  obtain⟨v,q⟩:=I.cell x c (sub x c e)
  exact q.lt
 have owl:∀x c,own.lookup x=some c->s.heap.objs.size < c:=fun x c e=>(hc.empty x c (PySem.mem_of_lookup e)).2
 have nofree:∀x,scope.names.lookup x=some NameKind.free->own.lookup x=none:=fun x hx=>by
  cases e:own.lookup x with
  | none=>rfl
  | some c=>
    have:=S.cellU _ (ow x c (PySem.mem_of_lookup e)) rfl
    rw[hx]at this
    cases this
 have fpl:∀b∈fp,b < s.heap.objs.size:=fun b hb=>by
  obtain⟨o,e⟩:=ho b hb
  exact qk e
 have nfs:∀b∈fp,b∉frs X.stack:=fun b hb z=>by
  rcases qs (I.stkSub b z)with e | e
  ·exact(hf b hb).2.1 e
  ·exact(hf b hb).2.2.1 e
 refine⟨⟨I.ok.mod,S.kind,I.ok.glob,I.ok.blt,qt _,fun x y c h1 h2=>?_,fun x hx=>?_,fun x c z e=>?_,I.ok.hd,I.ok.frames,.inl rfl,fun b hb=>⟨ql (fpl b hb),fun x c e=>?_⟩,
  I.bs,qw I.ok.bsz I.sz,fun b o e hb=>?_,nfs,I.stack,I.stkFree⟩,rfl,I.bare,Un.kept hk,⟨_,hn,fun i x v h1 h2 h3=>?_⟩,fun x c e=>?_,I.fresh,fun x c e=>?_,fun p hp=>(nomatch hp),I.hok.kept hk,?_⟩
 ·rcases Yam h1 with h1 | ⟨_,h1⟩
  ·rcases Yam h2 with h2 | ⟨_,h2⟩
   ·exact name_of_addr hc.apart (PySem.mem_of_lookup h1) (PySem.mem_of_lookup h2)
   ·exact absurd (Nat.lt_trans (owl x c h1) (clt y c h2)) (Nat.lt_irrefl _)
  ·rcases Yam h2 with h2 | ⟨_,h2⟩
   ·exact absurd (Nat.lt_trans (owl y c h2) (clt x c h1)) (Nat.lt_irrefl _)
   ·exact I.ok.inj x y c (sub x c h1) (sub y c h2)
 ·show ∃c,(own++clOf X.env scope.names []).lookup x=some c
  rw[Yef]
  cases e:own.lookup x with
  | some c=>exact⟨c,rfl⟩
  | none=>
    rcases Yfj hx with hm | hm
    ·obtain⟨c,hc⟩:=I.ok.has x (S.fr _ hm rfl)
     exact Yd1 (Yd0 scope.names [] x c hm hc)
    ·obtain⟨c,hc⟩:=has x (S.cellU _ hm rfl)
     rw[e]at hc
     cases hc
 ·have z':scope.names.lookup x=some NameKind.cell:=by simpa using z
  obtain⟨d,hd⟩:=has x z'
  rcases Yam e with e | ⟨e,_⟩
  ·exact Nat.le_of_lt (owl x c e)
  ·rw[hd]at e;cases e
 ·rcases Yam e with e | ⟨_,e⟩
  ·exact Nat.ne_of_gt (Nat.lt_trans (fpl b hb) (owl x c e))
  ·exact(hf b hb).2.2.2.2.1 x c (sub x c e)
 ·rcases(hf b hb).2.2.2.1 with z | z
  ·exact I.ok.noex b o e z
  ·exact absurd (qz (qk e) (qw I.ok.bsz z)) (Nat.lt_irrefl _)
 ·have hi:i < src.length:=by
   have:=(qm h2).1
   unfold capσ at this
   simpa using this
  have hs:src[i]?=some src[i]:=qp hi
  unfold capσ at h2
  rw[Qa,hs]at h2
  have h2':(src[i].bind fun j=>(σ[j]?).join)=some v:=Option.some.inj h2
  cases q:src[i]with
  | none=>rw[q]at h2';cases h2'
  | some j=>
    rw[q]at h2' hs
    have h2'':(σ[j]?).join=some v:=h2'
    obtain⟨hx,hfr⟩:=S.cap i j x h1 hs
    obtain⟨m,_,hl⟩:=I.loc
    have hk2:X.env.kindOf x=some NameKind.cell\/X.env.kindOf x=some NameKind.free:=S.fr (x,NameKind.free) (PySem.mem_of_lookup hfr) rfl
    have hσ:σ[j]?=some (some v):=by
     cases z:σ[j]? with
     | none=>rw[z]at h2'';cases h2''
     | some o=>
       rw[z]at h2''
       have:o=some v:=h2''
       rw[this]
    obtain⟨u,r,l⟩:=hl j x v hx hσ (.inr hk2)
    refine⟨u,r,.inr ⟨Yde hfr hk2,?_⟩⟩
    rcases l with⟨z,_⟩ | ⟨_,c,hc,hcell⟩
    ·rcases hk2 with q2 | q2
     ·rw[q2]at z;cases z
     ·rw[q2]at z;cases z
    ·obtain⟨d,hd⟩:=Yd1 (Yd0 (env:=X.env) scope.names [] x c (PySem.mem_of_lookup hfr) hc)
     have e2:=sub x d hd
     rw[hc]at e2
     cases e2
     refine⟨c,?_,hcell.keeps hk⟩
     show(own++clOf X.env scope.names []).lookup x=some c
     rw[Yef,nofree x hfr]
     exact hd
 ·rcases Yam e with e | ⟨_,e⟩
  ·exact⟨_,(hc.empty x c (PySem.mem_of_lookup e)).1⟩
  ·obtain⟨v,q⟩:=I.cell x c (sub x c e)
   exact⟨v,q.keeps hk⟩
 ·rcases Yam e with e | ⟨_,e⟩
  ·exact I.hok.fresh (Nat.le_of_lt (owl x c e))
  ·exact I.freeC x c (sub x c e)
 ·unfold capσ
  rw[qf]
  exact S.len
theorem Ymf{pins:List (Addr × Obj)}{σ σ1:St}{H H':Hp}{s s':Shared}{fp:List Addr}{cl:List (Str × Addr)}{C:Addr}{pn:List (Addr × Obj)}(I:Inv X pins σ H s)(hf:∀b∈fp,FpOk X pins H b)(J:Inv (Yat X scope N cl C fp s H) pn σ1 H' s'):Inv X pins σ H' s':=
 I.call' J.os J.base J.hok J.bare fun b hb=>⟨(hf b hb).2.2.2.1,(hf b hb).2.1,(hf b hb).2.2.2.2.1,(hf b hb).2.2.2.2.2⟩
theorem Ykc{pins:List (Addr × Obj)}{σ:St}{H:Hp}{s:Shared}{Q:VK}{it:Addr}{fp:List Addr}{tn:Nat->Heap->Prop}{J:It}{R:Value->Addr->Result->Shared->Prop}{E:Value->Shared->Prop}
 (S:CompSc X.N X.env.scope N src scope) (hc:X.calm=true) (hg:∀cl C fp s H,PG (Yat X scope N cl C fp s H) tg g) (hi:∀cl C fp s H,PIfs (Yat X scope N cl C fp s H) ifs ti) (he:∀cl C fp s H,PE (Yat X scope N cl C fp s H) elt te)
 (I:Inv X pins σ H s) (T:Turn X.prog X.w X.K tg J fp it tn) (st:tn 0 s.heap) (hf:∀b∈fp,FpOk X pins H b)
 (h:∀p,H p=none->∃W:Nat->Nat->St->Hp->Prop,(∃m,W 0 m (capσ src σ) (upd H p (.lst [])))/\∀i m σ1 H2,W i m σ1 H2->
  (J.stop i H2/\Q (.ref p) H2)\/
  (J.go i H2/\∀x H3,J.yld i H2 x H3->g x σ1 H3 fun σ4 H4=>ti σ4 H4 fun b H5=>if b=true then te σ4 H5 fun v H6=>∃xs,H6 p=some (.lst xs)/\xs.length < sizeLine/\∃m',m' < m/\W (i+1) m' σ4 (upd H6 p (.lst (xs++[v])))else ∃m',m' < m/\W (i+1) m' σ4 H5))
 (hR:∀(D C:Addr) (s':Shared) (H':Hp) (m:Str->Option Value),Inv X pins σ H' s'->s'.heap.Ns C m->H' C=none->C≠X.env.locals->X.s₀.heap.objs.size<=C->(∀x c,X.env.cells.lookup x=some c->c≠C)->(∀p∈X.pn++pins,p.1≠C)->Q (.ref D) H'->R (.ref D) C (.ok .next) s') :
 wpAny (model X.prog X.w) X.A (newList []) (fun acc s₃=>wpAny (model X.prog X.w) X.A (newFunctionEnv scope X.env.globals (clOf X.env scope.names []) [] X.env.qual none .none (some X.env)) (fun cenv s₄=>
  codeAny (model X.prog X.w) X.A (.compStart (.ListComp elt [⟨tg,iter,ifs,0⟩] scope pos) 0 (.ref it) acc { cenv with scope:=relabel scope X.env }) (R acc cenv.locals) s₄) E s₃) E s:=by
 refine wpAny_newObj_type (Yh4 ?_)
 have hfree:H s.heap.objs.size=none:=I.fresh
 obtain⟨W,⟨m0,w0⟩,turn⟩:=h s.heap.objs.size hfree
 have I3:Inv X pins σ (upd H s.heap.objs.size (.lst [])) { s with heap:=s.heap.push { cls:=.type "list",dict:=none,data:=.seq ([]:List Value).toArray },toks:=s.toks }:=I.lnew (ys:=[]) (its:=[]) .nil (Nat.zero_le _)
 generalize hD:s.heap.objs.size=Dd at *
 generalize hH3:upd H Dd (.lst [])=H3 at *
 have kp0:∀b o,s.heap.get? b=some o->(s.heap.push { cls:=.type "list",dict:=none,data:=.seq ([]:List Value).toArray }).get? b=some o:=fun b o e=>qe _ e
 have lt0:∀b o,s.heap.get? b=some o->b≠Dd:=fun b o e=>by rw[<-hD];exact ql (qk e)
 generalize hs3:s.heap.push { cls:=.type "list",dict:=none,data:=.seq ([]:List Value).toArray }=hp3 at *
 have f3:∀b∈fp,FpOk X pins H3 b:=fun b hb=>by
  obtain⟨o,e,_⟩:=T.obj _ _ st b hb
  refine⟨?_,(hf b hb).2⟩
  rw[<-hH3,Yj (lt0 b o e)]
  exact(hf b hb).1
 have ob3:∀b∈fp,∃o,hp3.get? b=some o:=fun b hb=>by
  obtain⟨o,e,_⟩:=T.obj _ _ st b hb
  exact⟨o,kp0 b o e⟩
 dsimp only
 have hns₁:(pushCells (hp3.push { cls:=.type "dict",data:=.dict #[] }) scope.names).Ns hp3.objs.size (fun _=>none):=(Heap.Ns.new hp3 (.type "dict")).keeps (pushCells_keeps _ _)
 have old:∀b o,hp3.get? b=some o->(pushCells (hp3.push { cls:=.type "dict",data:=.dict #[] }) scope.names).get? b=some o:=fun b o e=>pushCells_keeps _ _ b o (qe _ e)
 have cok:=cellsFrom_ok scope.names (hp3.push { cls:=.type "dict",data:=.dict #[] }) (hp3.objs.size+1) [] ⟨fun _ _ hm=>(nomatch hm),List.Pairwise.nil⟩ (by rw[Heap.size_push];exact qt _)
 rw[Heap.size_push]at cok
 have chas:∀x,scope.names.lookup x=some NameKind.cell->∃c,(cellsFrom (hp3.objs.size+1) scope.names []).lookup x=some c:=fun x hx=>Option.isSome_iff_exists.mp (PySem.W.cellsFrom_some _ _ _ (.inl hx))
 have cmem:∀x c,(x,c)∈cellsFrom (hp3.objs.size+1) scope.names []->(x,NameKind.cell)∈scope.names:=fun x c h=>Ycj _ _ x c h
 generalize cellsFrom (hp3.objs.size+1) scope.names []=own at *
 generalize pushCells (hp3.push { cls:=.type "dict",data:=.dict #[] }) scope.names=h₁ at *
 have I4:Inv (Yat X scope N (own++clOf X.env scope.names []) hp3.objs.size fp { s with heap:=hp3,toks:=s.toks } H3) [] (capσ src σ) H3 { s with heap:=h₁,toks:=s.toks }:=
  Yjh (s:={ s with heap:=hp3,toks:=s.toks }) (tk:=s.toks) S I3 f3 ob3 hns₁ old cok cmem chas
 have st4:tn 0 h₁:=T.keep _ _ _ st fun b _ o e=>old b o (kp0 b o e)
 have hCl:hp3.objs.size≠X.env.locals:=Nat.ne_of_gt I3.lt
 have hCc:∀x c,X.env.cells.lookup x=some c->c≠hp3.objs.size:=fun x c e=>by
  obtain⟨v,q⟩:=I3.cell x c e
  exact ql q.lt
 have hCp:∀p∈X.pn++pins,p.1≠hp3.objs.size:=fun p hp=>ql (qk (I3.pin p hp).1)
 have stat:∀{H':Hp},(∀b∈fp,H' b=none)->∀b∈fp,FpOk (Yat X scope N (own++clOf X.env scope.names []) hp3.objs.size fp { s with heap:=hp3,toks:=s.toks } H3) [] H' b:=fun {H'} hn b hb=>by
  obtain⟨e1,e2⟩:=I4.ok.exf b hb
  exact⟨hn b hb,e1,I4.ok.exfs b hb,.inl hb,e2,fun p hp=>nomatch hp⟩
 have loop:codeAny (model X.prog X.w) X.A (.compLoop (.ListComp elt [⟨tg,iter,ifs,0⟩] scope pos) 0 (.ref it) (.ref Dd) (compEnvC scope (own++clOf X.env scope.names []) hp3.objs.size X.env)) (R (.ref Dd) hp3.objs.size) { s with heap:=h₁,toks:=s.toks }:=by
  refine Ydb (fun n s'=>∃i σ' H',Inv (Yat X scope N (own++clOf X.env scope.names []) hp3.objs.size fp { s with heap:=hp3,toks:=s.toks } H3) [] σ' H' s'/\tn i s'.heap/\(∀b∈fp,H' b=none)/\W i n σ' H') ?_ m0 ⟨0,_,H3,I4,st4,fun b hb=>(f3 b hb).1,w0⟩
  rintro n s3 ⟨i,σ3,H3',I3',st3,fr3,w3⟩
  rcases turn i n σ3 H3' w3 with⟨stop,qn⟩ | ⟨go,step⟩
  ·refine thn (T.done (Yat X scope N (own++clOf X.env scope.names []) hp3.objs.size fp { s with heap:=hp3,toks:=s.toks } H3) rfl rfl rfl hc i [] s3 σ3 H3' _ I3' (stat fr3) st3 stop) fun r s4 hx_=>?_
   obtain⟨hr,I5⟩:=hx_
   subst hr
   obtain⟨m,hm,_⟩:=I5.loc
   exact hR Dd hp3.objs.size s4 H3' m (Ymf I3 f3 I5) hm I5.free hCl (qw I3.sz (qt _)) hCc hCp qn
  ·refine thn (T.item (Yat X scope N (own++clOf X.env scope.names []) hp3.objs.size fp { s with heap:=hp3,toks:=s.toks } H3) rfl rfl rfl hc i [] s3 σ3 H3' _ I3' (stat fr3) st3 go) fun r s4 hx_=>?_
   obtain⟨u,hr,h4⟩:=hx_
   subst hr
   refine thn h4 fun _ s5 hx_=>?_
   obtain⟨x,H5,I5,r5,y5,st5,fr5⟩:=hx_
   have I5':=I5.pinned (stat fr5) (T.obj _ _ st5)
   have un:∀{α:Type} {t:Sem α} {Q':α->Shared->Prop} {E':Value->Shared->Prop} {s':Shared},wpAny (model X.prog X.w) X.A t Q' (fun _ _=>False) s'->wpAny (model X.prog X.w) X.A t Q' E' s':=fun h=>wpAny_mono h (fun _ _ q=>q) fun _ _ f=>f.elim
   refine un (thn (hg _ _ _ _ _ _ s5 σ3 H5 x u _ I5' r5 (step x H5 y5)) fun _ s6 hx_=>?_)
   obtain⟨σ6,H6,I6,q6⟩:=hx_
   refine un (thn (hi _ _ _ _ _ _ s6 σ6 H6 _ I6 q6) fun ok s7 hx_=>?_)
   obtain⟨H7,I7,q7⟩:=hx_
   have again:∀{H8:Hp} {s8:Shared} {m':Nat},m' < n->Inv (Yat X scope N (own++clOf X.env scope.names []) hp3.objs.size fp { s with heap:=hp3,toks:=s.toks } H3) ([]++Yg3 fp s5.heap) σ6 H8 s8->W (i+1) m' σ6 H8->
    ∃m,m < n/\∃i σ' H',Inv (Yat X scope N (own++clOf X.env scope.names []) hp3.objs.size fp { s with heap:=hp3,toks:=s.toks } H3) [] σ' H' s8/\tn i s8.heap/\(∀b∈fp,H' b=none)/\W i m σ' H':=fun {H8 s8 m'} hm I8 w8=>by
    refine⟨m',hm,i+1,σ6,H8,I8.unpinned,T.keep _ _ _ st5 fun b hb o e=>(I8.pin (b,o) (Qe _ (Qe _ (Yc8 hb e)))).1,fun b hb=>?_,w8⟩
    obtain⟨o,e,d⟩:=T.obj _ _ st5 b hb
    exact(I8.pin (b,o) (Qe _ (Qe _ (Yc8 hb e)))).2.1
   cases ok with
   | false=>
     rw[if_neg qi]at q7 ⊢
     obtain⟨m',hm,w7⟩:=q7
     exact again hm I7 w7
   | true=>
     rw[if_pos rfl]at q7 ⊢
     refine un (thn (he _ _ _ _ _ _ s7 σ6 H7 _ I7 q7) fun y s8 hx_=>?_)
     obtain⟨v,H8,I8,r8,q8⟩:=hx_
     obtain⟨xs,e8,z8,m',hm,w8⟩:=q8
     refine un (thn (Yfg _ s8 σ6 H8 (.ref Dd) [v] (.ref Dd) [y] (fun _ H9=>H9=upd H8 Dd (.lst (xs++[v]))) I8 rfl (.cons r8 .nil) ⟨Dd,xs,v,rfl,rfl,e8,z8,rfl⟩) fun _ s9 hx_=>?_)
     obtain⟨_,H9,I9,_,q9⟩:=hx_
     subst q9
     exact again hm I9 w8
 exact codeAny_compStart_list loop (T.self _ _ _ _ _ st4 loop)
theorem Ykd(S:CompSc X.N X.env.scope N src scope)(hc:X.calm=true)(hit:PI X tg iter wi)(hg:∀cl C fp s H,PG (Yat X scope N cl C fp s H) tg g)(hi:∀cl C fp s H,PIfs (Yat X scope N cl C fp s H) ifs ti)(he:∀cl C fp s H,PE (Yat X scope N cl C fp s H) elt te)
 (hs:∀x,foldedSetIterable iter X.env x=pure x:=by intro _;rfl):PE X (.ListComp elt [⟨tg,iter,ifs,0⟩] scope pos) (tLC wi src g ti te):=by
 intro pins s σ H Q I h
 rw[eval_ListComp]
 have hcl:closureFor scope X.env=pure (clOf X.env scope.names []):=Yfi fun y hy hf=>I.ok.has y.1 (S.fr y hy hf)
 refine wpAny_comprehension_free (use:=none) rfl hs hcl S.kind S.names ?_
 refine thn (hit pins s σ H _ I h) fun v s1 h1=>thn h1 fun itv s2 hx_=>?_
 obtain⟨it,fp,tn,J,H2,e,I2,T,st2,f2,q⟩:=hx_
 subst e
 refine Ykc (Q:=Q) (R:=fun acc C=>compPost (model X.prog X.w) X.A X.xe none (EP X pins σ Q) acc C) S hc hg hi he I2 T st2 f2 q fun D C s' H' m I' hm hC hCl hCs hCc hCp hq=>?_
 refine⟨m,hm,fun h' sb=>?_⟩
 exact⟨.ref D,H',I'.turned (t':=s'.toks) (fun b o hb e=>(sb.2 b hb).trans e) hC hCl (.inr hCs) hCc hCp,rfl,hq⟩
end
end L2
namespace M
open PySem PySem.Spec PyProof.Rows L2
section
inductive D where
 | non | bl (b:Bool) | int (i:Int) | str (x:Str) | tup (l:List D) | lst (l:List D)
 | scr (ns:List Int)
 | dct (t:Bool) (ks vs:List D)
 | obj (c:Str) (ks:List Str) (vs:List D)
 | adr (a:Addr)
mutual
def toPy:D->PyData
 | .non=>.none
 | .bl b=>.bool b
 | .int i=>.int i
 | .str x=>.str x
 | .tup l=>.tuple (Yex l)
 | .lst l=>.list (Yex l)
 | .scr ns=>.list (ns.map PyData.int)
 | .dct _ _ _=>.none
 | .obj _ _ _=>.none
 | .adr _=>.none
def Yex:List D->List PyData
 | []=>[]
 | d::l=>toPy d::Yex l
end
def eqD(d e:D):Bool:=PyData.eqv (toPy d) (toPy e)
def numV:V->Option Int
 | .int i=>some i
 | .bl b=>some (if b then 1 else 0)
 | _=>none
def Yok:List V->Option (List Int)
 | []=>some []
 | x::r=>(numV x).bind fun i=>(Yok r).map (i::·)
def Ysp(ks:List Int):Int:=reduceHash (Builtin.Tuple.tupleHashOf (ks.map hashInt))
def DtOk(a:Addr)(nks:List (List Int × Addr))(vxs:List V)(ep:Nat)(h:Heap):Prop:=
 (a==sysModules)=false/\∃us o es,Vals vxs us/\h.get? a=some o/\o.ExactDict/\o.data=.dict es ep/\es.toList=(nks.zip us).map fun p=>(⟨Ysp p.1.1,.ref p.1.2,p.2⟩:DictEntry)
def dTo(a:Addr)(nks:List (List Int × Addr))(vxs:List V)(ep:Nat):HO:=.ext (DtOk a nks vxs ep)
def Dc(t:Bool)(G H:Hp)(a:Addr)(kxs vxs:List V):Prop:=
 (t=false/\∃kvs:List (Key × V),H a=some (.dK kvs)/\(kvs.map (·.1)).Nodup/\kxs=kvs.map (fun p=>kV p.1)/\vxs=kvs.map (·.2))\/
 (t=true/\∃(nks:List (List Int × Addr)) (ep:Nat),H a=some (dTo a nks vxs ep)/\nks.length=vxs.length/\(nks.map (·.1)).Nodup/\kxs=nks.map (fun p=>V.ref p.2)/\∀p∈nks,∃ys,G p.2=some (.tup ys)/\Yok ys=some p.1)
mutual
def Rp(K:W.Frag)(G:Hp):D->V->Prop
 | .non,v=>v=V.non
 | .bl b,v=>v=V.bl b
 | .int i,v=>v=V.int i
 | .str x,v=>v=V.str x/\PyData.strOk x=true
 | .tup l,v=>∃a xs,v=V.ref a/\G a=some (HO.tup xs)/\RpL K G l xs
 | .lst l,v=>∃a xs,v=V.ref a/\Rd G a (HO.lst xs)/\RpL K G l xs
 | .scr ns,v=>∃a,v=V.ref a/\SqL K G a (ns.map V.int)
 | .dct t ks vs,v=>∃a kxs vxs,v=V.ref a/\Dc t G G a kxs vxs/\RpL K G ks kxs/\RpL K G vs vxs
 | .obj c ks vs,v=>∃a C dx xs,v=V.ref a/\W.nsIn K mainGlobals c=some (some (.ref C))/\G a=some (HO.ins C dx (ks.zip xs))/\xs.length=ks.length/\RpL K G vs xs
 | .adr a,v=>v=V.ref a
def RpL(K:W.Frag)(G:Hp):List D->List V->Prop
 | [],xs=>xs=[]
 | d::l,xs=>∃x r,xs=x::r/\Rp K G d x/\RpL K G l r
end
variable {K:W.Frag}
theorem Ybv{G G':Hp}(h:Same G G'){a:Addr}{u:HO}(r:Rd G a u):Rd G' a u:=by
 rcases r with r | ⟨o,r⟩
 ·exact .inl (h _ _ r)
 ·exact .inr ⟨o,h _ _ r⟩
theorem Dc.mono{t:Bool}{G G' H H':Hp}(g:Same G G'){a:Addr}{kxs vxs:List V}(h:∀o,H a=some o->H' a=some o)(d:Dc t G H a kxs vxs):Dc t G' H' a kxs vxs:=by
 rcases d with⟨e,kvs,h1,h2⟩ | ⟨e,nks,ep,h1,h2,h3,h4,h5⟩
 ·exact .inl ⟨e,kvs,h _ h1,h2⟩
 ·refine .inr ⟨e,nks,ep,h _ h1,h2,h3,h4,fun p hp=>?_⟩
  obtain⟨ys,q1,q2⟩:=h5 p hp
  exact⟨ys,g _ _ q1,q2⟩
theorem Dc.someT{t:Bool}{G H:Hp}{a:Addr}{kxs vxs:List V}(d:Dc t G H a kxs vxs):∃o,H a=some o/\∀xs,o≠.tup xs:=by
 rcases d with⟨_,kvs,h1,_⟩ | ⟨_,nks,ep,h1,_⟩
 ·exact⟨_,h1,fun xs z=>by cases z⟩
 ·exact⟨_,h1,fun xs z=>by cases z⟩
theorem Dc.some{t:Bool}{G H:Hp}{a:Addr}{kxs vxs:List V}(d:Dc t G H a kxs vxs):∃o,H a=some o/\∀xs,o≠.lst xs:=by
 rcases d with⟨_,kvs,h1,_⟩ | ⟨_,nks,ep,h1,_⟩
 ·exact⟨_,h1,fun xs z=>by cases z⟩
 ·exact⟨_,h1,fun xs z=>by cases z⟩
mutual
theorem Rp.mono{G G':Hp}(h:Same G G'):∀{d:D} {v:V},Rp K G d v->Rp K G' d v
 | .non,_,r=>by rw[Rp]at r ⊢;exact r
 | .bl _,_,r=>by rw[Rp]at r ⊢;exact r
 | .int _,_,r=>by rw[Rp]at r ⊢;exact r
 | .str _,_,r=>by rw[Rp]at r ⊢;exact r
 | .tup l,_,r=>by
   rw[Rp]at r ⊢
   obtain⟨a,xs,e,g,q⟩:=r
   exact⟨a,xs,e,h _ _ g,RpL.mono h q⟩
 | .lst l,_,r=>by
   rw[Rp]at r ⊢
   obtain⟨a,xs,e,g,q⟩:=r
   exact⟨a,xs,e,Ybv h g,RpL.mono h q⟩
 | .scr ns,_,r=>by
   rw[Rp]at r ⊢
   obtain⟨a,e,g⟩:=r
   exact⟨a,e,h.seq g⟩
 | .dct t ks vs,_,r=>by
   rw[Rp]at r ⊢
   obtain⟨a,kxs,vxs,e,g,q1,q2⟩:=r
   exact⟨a,kxs,vxs,e,g.mono h fun o=>h _ o,RpL.mono h q1,RpL.mono h q2⟩
 | .obj c ks vs,_,r=>by
   rw[Rp]at r ⊢
   obtain⟨a,C,dx,xs,e,n,g,l,q⟩:=r
   exact⟨a,C,dx,xs,e,n,h _ _ g,l,RpL.mono h q⟩
 | .adr _,_,r=>by rw[Rp]at r ⊢;exact r
theorem RpL.mono{G G':Hp}(h:Same G G'):∀{l:List D} {xs:List V},RpL K G l xs->RpL K G' l xs
 | [],_,r=>by rw[RpL]at r ⊢;exact r
 | d::l,_,r=>by
   rw[RpL]at r ⊢
   obtain⟨x,xs,e,g,q⟩:=r
   exact⟨x,xs,e,Rp.mono h g,RpL.mono h q⟩
end
section
variable {G:Hp}
theorem RpL.length:∀{l:List D} {xs:List V},RpL K G l xs->xs.length=l.length
 | [],_,r=>by rw[RpL]at r;subst r;rfl
 | d::l,_,r=>by
   rw[RpL]at r
   obtain⟨x,xs,rfl,_,q⟩:=r
   simp[RpL.length q]
theorem RpL.get:∀{l:List D} {xs:List V} {i:Nat} {d:D},RpL K G l xs->l[i]?=some d->∃x,xs[i]?=some x/\Rp K G d x
 | [],_,_,_,_,e=>by simp at e
 | d::l,_,0,_,r,e=>by
   rw[RpL]at r
   obtain⟨x,xs,rfl,g,q⟩:=r
   simp at e
   subst e
   exact⟨x,rfl,g⟩
 | d::l,_,i+1,_,r,e=>by
   rw[RpL]at r
   obtain⟨x,xs,rfl,g,q⟩:=r
   obtain⟨y,h1,h2⟩:=RpL.get (i:=i) q (by simpa using e)
   exact⟨y,by simpa using h1,h2⟩
theorem RpL.nil:RpL K G [] []:=by rw[RpL]
theorem RpL.cons{d:D}{l:List D}{x:V}{xs:List V}(h:Rp K G d x)(q:RpL K G l xs):RpL K G (d::l) (x::xs):=by rw[RpL];exact⟨x,xs,rfl,h,q⟩
theorem RpL.append:∀{l m:List D} {xs ys:List V},RpL K G l xs->RpL K G m ys->RpL K G (l++m) (xs++ys)
 | [],_,_,_,r,q=>by rw[RpL]at r;subst r;exact q
 | d::l,m,_,ys,r,q=>by
   rw[RpL]at r
   obtain⟨x,xs,rfl,g,r⟩:=r
   exact .cons g (RpL.append r q)
theorem RpL.one{d:D}{x:V}(h:Rp K G d x):RpL K G [d] [x]:=.cons h .nil
theorem RpL.take:∀{l:List D} {xs:List V} (n:Nat),RpL K G l xs->RpL K G (l.take n) (xs.take n)
 | _,_,0,_=>by rw[List.take_zero,List.take_zero];exact .nil
 | [],_,_+1,r=>by rw[RpL]at r;subst r;exact .nil
 | d::l,_,n+1,r=>by
   rw[RpL]at r
   obtain⟨x,xs,rfl,g,r⟩:=r
   exact .cons g (RpL.take n r)
theorem RpL.drop:∀{l:List D} {xs:List V} (n:Nat),RpL K G l xs->RpL K G (l.drop n) (xs.drop n)
 | _,_,0,r=>r
 | [],_,_+1,r=>by rw[RpL]at r;subst r;exact .nil
 | d::l,_,n+1,r=>by
   rw[RpL]at r
   obtain⟨x,xs,rfl,g,r⟩:=r
   exact RpL.drop n r
theorem RpL.reverse:∀{l:List D} {xs:List V},RpL K G l xs->RpL K G l.reverse xs.reverse
 | [],_,r=>by rw[RpL]at r;subst r;exact .nil
 | d::l,_,r=>by
   rw[RpL]at r
   obtain⟨x,xs,rfl,g,r⟩:=r
   rw[List.reverse_cons,List.reverse_cons]
   exact r.reverse.append (.one g)
theorem RpL.ints:∀(ns:List Int),RpL K G (ns.map D.int) (ns.map V.int)
 | []=>.nil
 | n::ns=>.cons (by rw[Rp]) (RpL.ints ns)
end
structure Gr(H G H' G':Hp):Prop where
 h:Same H H'
 g:Same G G'
 s:Same G' H'
 n:∀a,G a=none->G' a≠none->H a=none
theorem Gr.refl{H G:Hp}(s:Same G H):Gr H G H G:=⟨Same.refl _,Same.refl _,s,fun _ h h'=>absurd h h'⟩
theorem Gr.trans{H G H1 G1 H2 G2:Hp}(a:Gr H G H1 G1)(b:Gr H1 G1 H2 G2):Gr H G H2 G2:=
 ⟨a.h.trans b.h,a.g.trans b.g,b.s,fun x h h'=>by
  by_cases e:G1 x=none
  ·exact a.h.free (b.n x e h')
  ·exact a.n x h e⟩
theorem Gr.new{H G:Hp}(s:Same G H){p:Addr}(hp:H p=none)(o:HO):Gr H G (upd H p o) (upd G p o):=by
 have gp:G p=none:=s.free hp
 refine⟨fun b u e=>?_,fun b u e=>?_,fun b u e=>?_,fun b h h'=>?_⟩
 ·rw[Yj (Yn e hp)];exact e
 ·rw[Yj (Yn e gp)];exact e
 ·by_cases q:b=p
  ·subst q;rw[Ym]at e ⊢;exact e
  ·rw[Yj q]at e ⊢;exact s _ _ e
 ·by_cases q:b=p
  ·subst q;exact hp
  ·rw[Yj q]at h';exact absurd h h'
theorem Gr.hid{H G:Hp}(s:Same G H){p:Addr}(hp:H p=none)(o:HO):Gr H G (upd H p o) G:=by
 have gp:G p=none:=s.free hp
 refine⟨fun b u e=>?_,Same.refl _,fun b u e=>?_,fun b h h'=>absurd h h'⟩
 ·rw[Yj (Yn e hp)];exact e
 ·rw[Yj (Yn e gp)];exact s _ _ e
theorem Gr.show{H G H' G':Hp}(g:Gr H G H' G'){p:Addr}{o:HO}(hp:H p=none)(gp:G' p=none)(e:H' p=some o):Gr H G H' (upd G' p o):=by
 refine⟨g.h,fun b u q=>?_,fun b u q=>?_,fun b h h'=>?_⟩
 ·have:=g.g b u q
  rw[Yj (Yn this gp)];exact this
 ·by_cases z:b=p
  ·subst z;rw[Ym]at q;rw[e];exact q
  ·rw[Yj z]at q;exact g.s b u q
 ·by_cases z:b=p
  ·subst z;exact hp
  ·rw[Yj z]at h';exact g.n b h h'
def Ct(K:W.Frag)(G H:Hp):D->V->Prop
 | .non,v=>v=V.non
 | .bl b,v=>v=V.bl b
 | .int i,v=>v=V.int i
 | .str x,v=>v=V.str x/\PyData.strOk x=true
 | .tup l,v=>∃a xs,v=V.ref a/\(H a=some (HO.tup xs)/\G a=some (HO.tup xs))/\RpL K G l xs
 | .lst l,v=>∃a xs,v=V.ref a/\Rd H a (HO.lst xs)/\RpL K G l xs
 | .scr ns,v=>∃a,v=V.ref a/\SqL K H a (ns.map V.int)
 | .dct t ks vs,v=>∃a kxs vxs,v=V.ref a/\Dc t G H a kxs vxs/\RpL K G ks kxs/\RpL K G vs vxs
 | .obj c ks vs,v=>∃a C dx xs,v=V.ref a/\W.nsIn K mainGlobals c=some (some (.ref C))/\G a=some (HO.ins C dx (ks.zip xs))/\xs.length=ks.length/\RpL K G vs xs
 | .adr a,v=>v=V.ref a
theorem Ct.of{G H:Hp}(s:Same G H){d:D}{v:V}(r:Rp K G d v):Ct K G H d v:=by
 cases d<;>rw[Rp]at r<;>rw[Ct]
 ·exact r
 ·exact r
 ·exact r
 ·exact r
 ·obtain⟨a,xs,e,g,q⟩:=r
  exact⟨a,xs,e,⟨s _ _ g,g⟩,q⟩
 ·obtain⟨a,xs,e,g,q⟩:=r
  exact⟨a,xs,e,Ybv s g,q⟩
 ·obtain⟨a,e,g⟩:=r
  exact⟨a,e,s.seq g⟩
 ·obtain⟨a,kxs,vxs,e,g,q1,q2⟩:=r
  exact⟨a,kxs,vxs,e,g.mono (Same.refl _) fun o=>s _ o,q1,q2⟩
 ·exact r
 ·exact r
theorem Ct.rp{G H:Hp}(s:Same G H){d:D}{v:V}(r:Ct K G H d v):Rp K H d v:=by
 cases d<;>rw[Ct]at r<;>rw[Rp]
 ·exact r
 ·exact r
 ·exact r
 ·exact r
 ·obtain⟨a,xs,e,g,q⟩:=r
  exact⟨a,xs,e,g.1,q.mono s⟩
 ·obtain⟨a,xs,e,g,q⟩:=r
  exact⟨a,xs,e,g,q.mono s⟩
 ·exact r
 ·obtain⟨a,kxs,vxs,e,g,q1,q2⟩:=r
  exact⟨a,kxs,vxs,e,g.mono s fun _ z=>z,q1.mono s,q2.mono s⟩
 ·obtain⟨a,C,dx,xs,e,n,g,l,q⟩:=r
  exact⟨a,C,dx,xs,e,n,s _ _ g,l,q.mono s⟩
 ·exact r
theorem Ct.grow{G H G' H':Hp}(g:Gr H G H' G'){d:D}{v:V}(r:Ct K G H d v):Ct K G' H' d v:=by
 cases d<;>rw[Ct]at r<;>rw[Ct]
 ·exact r
 ·exact r
 ·exact r
 ·exact r
 ·obtain⟨a,xs,e,h,q⟩:=r
  exact⟨a,xs,e,⟨g.h _ _ h.1,g.g _ _ h.2⟩,q.mono g.g⟩
 ·obtain⟨a,xs,e,h,q⟩:=r
  exact⟨a,xs,e,Ybv g.h h,q.mono g.g⟩
 ·obtain⟨a,e,h⟩:=r
  exact⟨a,e,g.h.seq h⟩
 ·obtain⟨a,kxs,vxs,e,h,q1,q2⟩:=r
  exact⟨a,kxs,vxs,e,h.mono g.g fun o=>g.h _ o,q1.mono g.g,q2.mono g.g⟩
 ·obtain⟨a,C,dx,xs,e,n,h,l,q⟩:=r
  exact⟨a,C,dx,xs,e,n,g.g _ _ h,l,q.mono g.g⟩
 ·exact r
def CtL(K:W.Frag)(G H:Hp):List D->List V->Prop
 | [],xs=>xs=[]
 | d::l,xs=>∃x r,xs=x::r/\Ct K G H d x/\CtL K G H l r
inductive B where
 | sh (d:D) | ow (l:List D) | od (t:Bool) (ks vs:List D)
abbrev Ro:=List (Option B)
structure SR(K:W.Frag)(H0 G0:Hp)(σ:L2.St)(H G:Hp)(ρ:Ro):Prop where
 gr:Gr H0 G0 H G
 len:σ.length=ρ.length
 sh:∀(i:Nat) d,ρ[i]?=some (some (B.sh d))->∃v,σ[i]?=some (some v)/\Rp K G d v
 ow:∀(i:Nat) l,ρ[i]?=some (some (B.ow l))->∃a xs,σ[i]?=some (some (V.ref a))/\G a=none/\H0 a=none/\H a=some (.lst xs)/\RpL K G l xs
 ap:∀(i j:Nat) l l' a b,ρ[i]?=some (some (B.ow l))->ρ[j]?=some (some (B.ow l'))->i≠j->σ[i]?=some (some (V.ref a))->σ[j]?=some (some (V.ref b))->a≠b
 od:∀(i:Nat) t ks vs,ρ[i]?=some (some (B.od t ks vs))->∃a kxs vxs,σ[i]?=some (some (V.ref a))/\G a=none/\H0 a=none/\Dc t G H a kxs vxs/\RpL K G ks kxs/\RpL K G vs vxs
 apd:∀(i j:Nat) t ks vs t' ks' vs' a b,ρ[i]?=some (some (B.od t ks vs))->ρ[j]?=some (some (B.od t' ks' vs'))->i≠j->σ[i]?=some (some (V.ref a))->σ[j]?=some (some (V.ref b))->a≠b
section
variable {H0 G0 H G H' G':Hp} {σ:L2.St} {ρ:Ro}
theorem SR.mkSh(g:Gr H0 G0 H G)(len:σ.length=ρ.length)(sh:∀(i:Nat) d,ρ[i]?=some (some (B.sh d))->∃v,σ[i]?=some (some v)/\Rp K G d v)(no:∀(i:Nat) l,ρ[i]?≠some (some (B.ow l)))(no':∀(i:Nat) t ks vs,ρ[i]?≠some (some (B.od t ks vs))):SR K H0 G0 σ H G ρ:=
 ⟨g,len,sh,fun i l h=>absurd h (no i l),fun i j l l' a b h=>absurd h (no i l),fun i t ks vs h=>absurd h (no' i t ks vs),fun i j t ks vs t' ks' vs' a b h=>absurd h (no' i t ks vs)⟩
theorem Yd3(g:Gr H G H' G'){a:Addr}{o:HO}(h:H a=some o)(n:G a=none):G' a=none:=by
 cases q:G' a with
 | none=>rfl
 | some o=>
   have:=g.n a n (by rw[q];exact fun z=>nomatch z)
   rw[h]at this
   cases this
theorem SR.grow(s:SR K H0 G0 σ H G ρ)(g:Gr H G H' G'):SR K H0 G0 σ H' G' ρ:=by
 refine⟨s.gr.trans g,s.len,fun i d e=>?_,fun i l e=>?_,s.ap,fun i t ks vs e=>?_,s.apd⟩
 ·obtain⟨v,h1,h2⟩:=s.sh i d e
  exact⟨v,h1,h2.mono g.g⟩
 ·obtain⟨a,xs,h1,h2,h3,h4,h5⟩:=s.ow i l e
  exact⟨a,xs,h1,Yd3 g h4 h2,h3,g.h _ _ h4,h5.mono g.g⟩
 ·obtain⟨a,kxs,vxs,h1,h2,h3,h4,h5,h6⟩:=s.od i t ks vs e
  obtain⟨o,h7,_⟩:=h4.some
  exact⟨a,kxs,vxs,h1,Yd3 g h7 h2,h3,h4.mono g.g fun o=>g.h _ o,h5.mono g.g,h6.mono g.g⟩
theorem SR.seen(s:SR K H0 G0 σ H G ρ):Same G H:=s.gr.s
theorem Yg{α:Type}{l:List α}{i j:Nat}{x y:α}(h:(l.set i x)[j]?=some y):(j=i/\y=x/\i < l.length)\/(j≠i/\l[j]?=some y):=by
 by_cases e:j=i
 ·subst e
  have hl:j < l.length:=by
   have:=(qm h).1
   simpa using this
  rw[List.getElem?_set_self hl]at h
  exact .inl ⟨rfl,(Option.some.inj h).symm,hl⟩
 ·rw[qx (Ne.symm e)]at h
  exact .inr ⟨e,h⟩
theorem SR.set_sh(s:SR K H0 G0 σ H G ρ)(i:Nat){d:D}{v:V}(r:Rp K G d v):SR K H0 G0 (σ.set i (some v)) H G (ρ.set i (some (.sh d))):=by
 refine⟨s.gr,by simp[s.len],fun j e h=>?_,fun j l h=>?_,fun j k l l' a b h1 h2 h3 h4 h5=>?_,fun j t ks vs h=>?_,fun j k t ks vs t' ks' vs' a b h1 h2 h3 h4 h5=>?_⟩
 ·rcases Yg h with⟨rfl,e1,hl⟩ | ⟨hj,h⟩
  ·cases e1
   exact⟨v,by rw[List.getElem?_set_self (by rw[s.len];exact hl)],r⟩
  ·obtain⟨w,q1,q2⟩:=s.sh j e h
   exact⟨w,by rw[qx (Ne.symm hj)];exact q1,q2⟩
 ·rcases Yg h with⟨rfl,e1,hl⟩ | ⟨hj,h⟩
  ·cases e1
  ·obtain⟨a,xs,q1,q2⟩:=s.ow j l h
   exact⟨a,xs,by rw[qx (Ne.symm hj)];exact q1,q2⟩
 ·rcases Yg h1 with⟨rfl,e1,_⟩ | ⟨hj,h1⟩
  ·cases e1
  ·rcases Yg h2 with⟨rfl,e1,_⟩ | ⟨hk,h2⟩
   ·cases e1
   ·rw[qx (Ne.symm hj)]at h4
    rw[qx (Ne.symm hk)]at h5
    exact s.ap j k l l' a b h1 h2 h3 h4 h5
 ·rcases Yg h with⟨rfl,e1,hl⟩ | ⟨hj,h⟩
  ·cases e1
  ·obtain⟨a,kxs,vxs,q1,q2⟩:=s.od j t ks vs h
   exact⟨a,kxs,vxs,by rw[qx (Ne.symm hj)];exact q1,q2⟩
 ·rcases Yg h1 with⟨rfl,e1,_⟩ | ⟨hj,h1⟩
  ·cases e1
  ·rcases Yg h2 with⟨rfl,e1,_⟩ | ⟨hk,h2⟩
   ·cases e1
   ·rw[qx (Ne.symm hj)]at h4
    rw[qx (Ne.symm hk)]at h5
    exact s.apd j k t ks vs t' ks' vs' a b h1 h2 h3 h4 h5
theorem SR.set_ow(s:SR K H0 G0 σ H G ρ)(i:Nat){l:List D}{p:Addr}{xs:List V}(g:Gr H G H' G')(hp:H p=none)(gp:G' p=none)(e:H' p=some (.lst xs))(r:RpL K G' l xs):SR K H0 G0 (σ.set i (some (.ref p))) H' G' (ρ.set i (some (.ow l))):=by
 have s':=s.grow g
 have np:∀(j:Nat) l a,ρ[j]?=some (some (B.ow l))->σ[j]?=some (some (V.ref a))->a≠p:=fun j l a h1 h2 z=>by
  obtain⟨b,ys,q1,_,_,q4,_⟩:=s.ow j l h1
  rw[h2]at q1
  cases q1
  rw[z,hp]at q4
  cases q4
 refine⟨s'.gr,by simp[s.len],fun j e h=>?_,fun j l h=>?_,fun j k l l' a b h1 h2 h3 h4 h5=>?_,fun j t ks vs h=>?_,fun j k t ks vs t' ks' vs' a b h1 h2 h3 h4 h5=>?_⟩
 ·rcases Yg h with⟨rfl,e1,hl⟩ | ⟨hj,h⟩
  ·cases e1
  ·obtain⟨w,q1,q2⟩:=s'.sh j e h
   exact⟨w,by rw[qx (Ne.symm hj)];exact q1,q2⟩
 ·rcases Yg h with⟨rfl,e1,hl⟩ | ⟨hj,h⟩
  ·cases e1
   exact⟨p,xs,by rw[List.getElem?_set_self (by rw[s.len];exact hl)],gp,s.gr.h.free hp,e,r⟩
  ·obtain⟨a,xs,q1,q2⟩:=s'.ow j l h
   exact⟨a,xs,by rw[qx (Ne.symm hj)];exact q1,q2⟩
 ·rcases Yg h1 with⟨rfl,e1,hl⟩ | ⟨hj,h1n⟩
  ·rcases Yg h2 with⟨rfl,e2,_⟩ | ⟨hk,h2⟩
   ·exact absurd rfl h3
   ·rw[List.getElem?_set_self (by rw[s.len];exact hl)]at h4
    cases h4
    rw[qx (Ne.symm hk)]at h5
    exact Ne.symm (np k l' b h2 h5)
  ·rcases Yg h2 with⟨rfl,e2,hl⟩ | ⟨hk,h2⟩
   ·rw[List.getElem?_set_self (by rw[s.len];exact hl)]at h5
    cases h5
    rw[qx (Ne.symm hj)]at h4
    exact np j l a h1n h4
   ·rw[qx (Ne.symm hj)]at h4
    rw[qx (Ne.symm hk)]at h5
    exact s.ap j k l l' a b h1n h2 h3 h4 h5
 ·rcases Yg h with⟨rfl,e1,hl⟩ | ⟨hj,h⟩
  ·cases e1
  ·obtain⟨a,kxs,vxs,q1,q2⟩:=s'.od j t ks vs h
   exact⟨a,kxs,vxs,by rw[qx (Ne.symm hj)];exact q1,q2⟩
 ·rcases Yg h1 with⟨rfl,e1,_⟩ | ⟨hj,h1⟩
  ·cases e1
  ·rcases Yg h2 with⟨rfl,e1,_⟩ | ⟨hk,h2⟩
   ·cases e1
   ·rw[qx (Ne.symm hj)]at h4
    rw[qx (Ne.symm hk)]at h5
    exact s.apd j k t ks vs t' ks' vs' a b h1 h2 h3 h4 h5
theorem SR.mut(s:SR K H0 G0 σ H G ρ){i:Nat}{l l':List D}{a:Addr}{ys:List V}(hi:ρ[i]?=some (some (B.ow l)))(ha:σ[i]?=some (some (V.ref a)))(r:RpL K G l' ys):SR K H0 G0 σ (upd H a (.lst ys)) G (ρ.set i (some (.ow l'))):=by
 obtain⟨a',xs,q1,q2,q3,q4,q5⟩:=s.ow i l hi
 rw[ha]at q1
 cases q1
 have hl:i < ρ.length:=(qm hi).1
 refine⟨⟨fun b o e=>?_,s.gr.g,fun b o e=>?_,s.gr.n⟩,by simp[s.len],fun j e h=>?_,fun j m h=>?_,fun j k m m' b c h1 h2 h3 h4 h5=>?_,fun j t ks vs h=>?_,fun j k t ks vs t' ks' vs' b c h1 h2 h3 h4 h5=>?_⟩
 ·rw[Yj (Yn e q3)];exact s.gr.h b o e
 ·rw[Yj (Yn e q2)];exact s.gr.s b o e
 ·rcases Yg h with⟨rfl,e1,_⟩ | ⟨hj,h⟩
  ·cases e1
  ·exact s.sh j e h
 ·rcases Yg h with⟨rfl,e1,_⟩ | ⟨hj,h⟩
  ·cases e1
   exact⟨a,ys,ha,q2,q3,Ym,r⟩
  ·obtain⟨b,zs,p1,p2,p3,p4,p5⟩:=s.ow j m h
   exact⟨b,zs,p1,p2,p3,by rw[Yj (s.ap j i m l b a h hi hj p1 ha)];exact p4,p5⟩
 ·have old:∀(j:Nat) m,(ρ.set i (some (.ow l')))[j]?=some (some (B.ow m))->∃m',ρ[j]?=some (some (B.ow m')):=fun j m h=>by
   rcases Yg h with⟨rfl,_,_⟩ | ⟨_,h⟩
   ·exact⟨l,hi⟩
   ·exact⟨m,h⟩
  obtain⟨n1,e1⟩:=old j m h1
  obtain⟨n2,e2⟩:=old k m' h2
  exact s.ap j k n1 n2 b c e1 e2 h3 h4 h5
 ·rcases Yg h with⟨rfl,e1,_⟩ | ⟨hj,h⟩
  ·cases e1
  ·obtain⟨b,kxs,vxs,p1,p2,p3,p4,p5⟩:=s.od j t ks vs h
   refine⟨b,kxs,vxs,p1,p2,p3,p4.mono (Same.refl _) fun o q=>?_,p5⟩
   obtain⟨o',q',nl⟩:=p4.some
   rw[q]at q'
   cases q'
   rw[Yj (fun z=>by rw[z,q4]at q;cases q;exact nl _ rfl)];exact q
 ·rcases Yg h1 with⟨rfl,e1,_⟩ | ⟨hj,h1⟩
  ·cases e1
  ·rcases Yg h2 with⟨rfl,e1,_⟩ | ⟨hk,h2⟩
   ·cases e1
   ·exact s.apd j k t ks vs t' ks' vs' b c h1 h2 h3 h4 h5
theorem SR.freezeT(s:SR K H0 G0 σ H G ρ){i:Nat}{l:List D}(hi:ρ[i]?=some (some (B.ow l))):∃G',SR K H0 G0 σ H G' (ρ.set i (some (.sh (.lst l))))/\∀b ys,G' b=some (.tup ys)->G b=some (.tup ys):=by
 obtain⟨a,xs,q1,q2,q3,q4,q5⟩:=s.ow i l hi
 have hl:i < ρ.length:=(qm hi).1
 have sm:Same G (upd G a (.lst xs)):=fun b o e=>by rw[Yj (Yn e q2)];exact e
 refine⟨upd G a (.lst xs),?_,fun b ys e=>by
  by_cases z:b=a
  ·subst z;rw[Ym]at e;cases e
  ·rw[Yj z]at e;exact e⟩
 refine⟨⟨s.gr.h,s.gr.g.trans sm,fun b o e=>?_,fun b h h'=>?_⟩,by simp[s.len],fun j e h=>?_,fun j m h=>?_,fun j k m m' b c h1 h2 h3 h4 h5=>?_,fun j t ks vs h=>?_,fun j k t ks vs t' ks' vs' b c h1 h2 h3 h4 h5=>?_⟩
 ·by_cases z:b=a
  ·subst z;rw[Ym]at e;rw[q4];exact e
  ·rw[Yj z]at e;exact s.gr.s b o e
 ·by_cases z:b=a
  ·subst z;exact q3
  ·rw[Yj z]at h';exact s.gr.n b h h'
 ·rcases Yg h with⟨rfl,e1,_⟩ | ⟨hj,h⟩
  ·cases e1
   exact⟨_,q1,by rw[Rp];exact⟨a,xs,rfl,.inl Ym,q5.mono sm⟩⟩
  ·obtain⟨v,p1,p2⟩:=s.sh j e h
   exact⟨v,p1,p2.mono sm⟩
 ·rcases Yg h with⟨rfl,e1,_⟩ | ⟨hj,h⟩
  ·cases e1
  ·obtain⟨b,zs,p1,p2,p3,p4,p5⟩:=s.ow j m h
   exact⟨b,zs,p1,by rw[Yj (s.ap j i m l b a h hi hj p1 q1)];exact p2,p3,p4,p5.mono sm⟩
 ·rcases Yg h1 with⟨rfl,e1,_⟩ | ⟨hj,h1⟩
  ·cases e1
  ·rcases Yg h2 with⟨rfl,e1,_⟩ | ⟨hk,h2⟩
   ·cases e1
   ·exact s.ap j k m m' b c h1 h2 h3 h4 h5
 ·rcases Yg h with⟨rfl,e1,_⟩ | ⟨hj,h⟩
  ·cases e1
  ·obtain⟨b,kxs,vxs,p1,p2,p3,p4,p5,p6⟩:=s.od j t ks vs h
   obtain⟨o',q',nl⟩:=p4.some
   exact⟨b,kxs,vxs,p1,by rw[Yj (fun z=>by rw[z,q4]at q';cases q';exact nl _ rfl)];exact p2,p3,p4.mono sm fun _ z=>z,p5.mono sm,p6.mono sm⟩
 ·rcases Yg h1 with⟨rfl,e1,_⟩ | ⟨hj,h1⟩
  ·cases e1
  ·rcases Yg h2 with⟨rfl,e1,_⟩ | ⟨hk,h2⟩
   ·cases e1
   ·exact s.apd j k t ks vs t' ks' vs' b c h1 h2 h3 h4 h5
theorem SR.freeze(s:SR K H0 G0 σ H G ρ){i:Nat}{l:List D}(hi:ρ[i]?=some (some (B.ow l))):∃G',SR K H0 G0 σ H G' (ρ.set i (some (.sh (.lst l)))):=by
 obtain⟨G',h,_⟩:=s.freezeT hi
 exact⟨G',h⟩
theorem SR.freezedT(s:SR K H0 G0 σ H G ρ){i:Nat}{t:Bool}{ks vs:List D}(hi:ρ[i]?=some (some (B.od t ks vs))):∃G',SR K H0 G0 σ H G' (ρ.set i (some (.sh (.dct t ks vs))))/\∀b ys,G' b=some (.tup ys)->G b=some (.tup ys):=by
 obtain⟨a,kxs,vxs,q1,q2,q3,q4,q5,q6⟩:=s.od i t ks vs hi
 obtain⟨o,q7,nl⟩:=q4.some
 have hl:i < ρ.length:=(qm hi).1
 have sm:Same G (upd G a o):=fun b o e=>by rw[Yj (Yn e q2)];exact e
 obtain⟨oT,q8,nt⟩:=q4.someT
 rw[q7]at q8
 cases q8
 refine⟨upd G a o,?_,fun b ys e=>by
  by_cases z:b=a
  ·subst z;rw[Ym]at e;cases e;exact absurd rfl (nt _)
  ·rw[Yj z]at e;exact e⟩
 refine⟨⟨s.gr.h,s.gr.g.trans sm,fun b o' e=>?_,fun b h h'=>?_⟩,by simp[s.len],fun j e h=>?_,fun j m h=>?_,fun j k m m' b c h1 h2 h3 h4 h5=>?_,fun j t ks vs h=>?_,fun j k t ks vs t' ks' vs' b c h1 h2 h3 h4 h5=>?_⟩
 ·by_cases z:b=a
  ·subst z;rw[Ym]at e;rw[q7];exact e
  ·rw[Yj z]at e;exact s.gr.s b o' e
 ·by_cases z:b=a
  ·subst z;exact q3
  ·rw[Yj z]at h';exact s.gr.n b h h'
 ·rcases Yg h with⟨rfl,e1,_⟩ | ⟨hj,h⟩
  ·cases e1
   refine⟨_,q1,?_⟩
   rw[Rp]
   refine⟨a,kxs,vxs,rfl,q4.mono sm fun o' z=>?_,q5.mono sm,q6.mono sm⟩
   rw[q7]at z
   rw[Ym];exact z
  ·obtain⟨v,p1,p2⟩:=s.sh j e h
   exact⟨v,p1,p2.mono sm⟩
 ·rcases Yg h with⟨rfl,e1,_⟩ | ⟨hj,h⟩
  ·cases e1
  ·obtain⟨b,zs,p1,p2,p3,p4,p5⟩:=s.ow j m h
   exact⟨b,zs,p1,by rw[Yj (fun z=>by rw[z,q7]at p4;cases p4;exact nl _ rfl)];exact p2,p3,p4,p5.mono sm⟩
 ·rcases Yg h1 with⟨rfl,e1,_⟩ | ⟨hj,h1⟩
  ·cases e1
  ·rcases Yg h2 with⟨rfl,e1,_⟩ | ⟨hk,h2⟩
   ·cases e1
   ·exact s.ap j k m m' b c h1 h2 h3 h4 h5
 ·rcases Yg h with⟨rfl,e1,_⟩ | ⟨hj,h⟩
  ·cases e1
  ·obtain⟨b,kx,vx,p1,p2,p3,p4,p5,p6⟩:=s.od j t ks vs h
   exact⟨b,kx,vx,p1,by rw[Yj (s.apd j i _ _ _ _ _ _ b a h hi hj p1 q1)];exact p2,p3,p4.mono sm fun _ z=>z,p5.mono sm,p6.mono sm⟩
 ·rcases Yg h1 with⟨rfl,e1,_⟩ | ⟨hj,h1⟩
  ·cases e1
  ·rcases Yg h2 with⟨rfl,e1,_⟩ | ⟨hk,h2⟩
   ·cases e1
   ·exact s.apd j k t ks vs t' ks' vs' b c h1 h2 h3 h4 h5
theorem SR.freezed(s:SR K H0 G0 σ H G ρ){i:Nat}{t:Bool}{ks vs:List D}(hi:ρ[i]?=some (some (B.od t ks vs))):∃G',SR K H0 G0 σ H G' (ρ.set i (some (.sh (.dct t ks vs)))):=by
 obtain⟨G',h,_⟩:=s.freezedT hi
 exact⟨G',h⟩
def Le(ρ ρ':Ro):Prop:=ρ.length=ρ'.length/\∀(i:Nat) b,ρ[i]?=some (some b)->ρ'[i]?=some (some b)
theorem SR.le{ρ':Ro}(s:SR K H0 G0 σ H G ρ')(h:Le ρ ρ'):SR K H0 G0 σ H G ρ:=
 ⟨s.gr,s.len.trans h.1.symm,fun i d e=>s.sh i d (h.2 i _ e),fun i l e=>s.ow i l (h.2 i _ e),fun i j l l' a b e1 e2=>s.ap i j l l' a b (h.2 i _ e1) (h.2 j _ e2),
  fun i t ks vs e=>s.od i t ks vs (h.2 i _ e),fun i j t ks vs t' ks' vs' a b e1 e2=>s.apd i j t ks vs t' ks' vs' a b (h.2 i _ e1) (h.2 j _ e2)⟩
theorem SR.rebase(s:SR K H0 G0 σ H G ρ):∃H1,SR K H1 G σ H G ρ/\∀σ' H' G' ρ',SR K H1 G σ' H' G' ρ'->SR K H0 G0 σ' H' G' ρ':=by
 classical
 let own:Addr->Prop:=fun a=>∃(i:Nat),((∃l:List D,ρ[i]?=some (some (B.ow l)))\/(∃t ks vs,ρ[i]?=some (some (B.od t ks vs))))/\σ[i]?=some (some (V.ref a))
 have h0:∀a,own a->H0 a=none:=fun a hx_=>by
  obtain⟨i,e1,e2⟩:=hx_
  rcases e1 with⟨l,e1⟩ | ⟨t,ks,vs,e1⟩
  ·obtain⟨b,xs,q1,_,q3,_⟩:=s.ow i l e1
   rw[e2]at q1;cases q1;exact q3
  ·obtain⟨b,kxs,vxs,q1,_,q3,_⟩:=s.od i t ks vs e1
   rw[e2]at q1;cases q1;exact q3
 have back:∀a,(if own a then (none:Option HO)else H a)=none->H0 a=none:=fun a h=>by
  by_cases o:own a
  ·exact h0 a o
  ·rw[if_neg o]at h;exact s.gr.h.free h
 refine⟨fun a=>if own a then none else H a,⟨⟨fun b o e=>?_,Same.refl _,s.gr.s,fun _ h h'=>absurd h h'⟩,s.len,s.sh,fun i l e=>?_,s.ap,fun i t ks vs e=>?_,s.apd⟩,fun σ' H' G' ρ' t=>⟨⟨fun b o e=>?_,s.gr.g.trans t.gr.g,t.gr.s,fun b h h'=>?_⟩,t.len,t.sh,fun i l e=>?_,t.ap,fun i t1 ks vs e=>?_,t.apd⟩⟩
 ·by_cases z:own b
  ·simp only[if_pos z]at e;cases e
  ·simp only[if_neg z]at e;exact e
 ·obtain⟨a,xs,q1,q2,q3,q4,q5⟩:=s.ow i l e
  exact⟨a,xs,q1,q2,if_pos ⟨i,.inl ⟨l,e⟩,q1⟩,q4,q5⟩
 ·obtain⟨a,kxs,vxs,q1,q2,q3,q4⟩:=s.od i t ks vs e
  exact⟨a,kxs,vxs,q1,q2,if_pos ⟨i,.inr ⟨t,ks,vs,e⟩,q1⟩,q4⟩
 ·refine t.gr.h b o ?_
  have z:¬own b:=fun z=>by rw[h0 b z]at e;cases e
  show(if own b then none else H b)=some o
  rw[if_neg z];exact s.gr.h b o e
 ·by_cases z:G b=none
  ·exact back b (t.gr.n b z h')
  ·exact s.gr.n b h z
 ·obtain⟨a,xs,q1,q2,q3,q4,q5⟩:=t.ow i l e
  exact⟨a,xs,q1,q2,back a q3,q4,q5⟩
 ·obtain⟨a,kxs,vxs,q1,q2,q3,q4⟩:=t.od i t1 ks vs e
  exact⟨a,kxs,vxs,q1,q2,back a q3,q4⟩
end
def tOf(K:W.Frag)(f:Ro->Option D):TE:=fun σ H Q=>∃ρ d H0 G0 G,f ρ=some d/\SR K H0 G0 σ H G ρ/\∀v H' G',Gr H G H' G'->Rp K G' d v->Q v H'
def tCof(K:W.Frag)(f:Ro->Option D):TE:=fun σ H Q=>∃ρ d H0 G0 G,f ρ=some d/\SR K H0 G0 σ H G ρ/\∀v H' G',Gr H G H' G'->Ct K G' H' d v->Q v H'
def tCAof(K:W.Frag)(f:Ro->Option (List D)):TA:=fun σ H Q=>∃ρ l H0 G0 G,f ρ=some l/\SR K H0 G0 σ H G ρ/\∀vs H' G',Gr H G H' G'->CtL K G' H' l vs->Q vs H'
def tFof(K:W.Frag)(f:Ro->Option (List D)):TE:=fun σ H Q=>∃ρ l H0 G0 G,f ρ=some l/\SR K H0 G0 σ H G ρ/\∀p xs H' G',Gr H G H' G'->H p=none->G' p=none->H' p=some (.lst xs)->RpL K G' l xs->Q (.ref p) H'
def tTof(K:W.Frag)(f:Ro->Option Bool):TT:=fun σ H Q=>∃ρ b H0 G0 G,f ρ=some b/\SR K H0 G0 σ H G ρ/\∀H' G',Gr H G H' G'->Q b H'
def tAof(K:W.Frag)(f:Ro->Option (List D)):TA:=fun σ H Q=>∃ρ l H0 G0 G,f ρ=some l/\SR K H0 G0 σ H G ρ/\∀vs H' G',Gr H G H' G'->RpL K G' l vs->Q vs H'
def Wk(K:W.Frag)(J:It)(G':Hp)(ds:List D):Prop:=ds.length<=sizeLine/\∀(i:Nat) H2 G2,Same G' G2->Same G2 H2->
 (∀d,ds[i]?=some d->J.go i H2/\∀y H3,J.yld i H2 y H3->∃G3,Gr H2 G2 H3 G3/\Rp K G3 d y)/\(ds.length<=i->J.stop i H2)
def tIof(K:W.Frag)(f:Ro->Option (List D)):TI:=fun σ H R=>∃ρ ds H0 G0 G,f ρ=some ds/\SR K H0 G0 σ H G ρ/\∀J H' G',Gr H G H' G'->Wk K J G' ds->R J H'
inductive Out where
 | nx (ρ:Ro) | rt (d:D) | bk (ρ:Ro) | ct (ρ:Ro)
def Cont(K:W.Frag)(H0 G0:Hp)(F:Ends):Out->Prop
 | .nx ρ'=>∀σ' H' G',SR K H0 G0 σ' H' G' ρ'->F.nx σ' H'
 | .rt d=>∀v H' G',Gr H0 G0 H' G'->Rp K G' d v->F.rt v H'
 | .bk ρ'=>∀σ' H' G',SR K H0 G0 σ' H' G' ρ'->F.bk σ' H'
 | .ct ρ'=>∀σ' H' G',SR K H0 G0 σ' H' G' ρ'->F.ct σ' H'
def sOf(K:W.Frag)(f:Ro->Option Out):TS:=fun F σ H=>∃ρ out H0 G0 G,f ρ=some out/\SR K H0 G0 σ H G ρ/\Cont K H0 G0 F out
def gOf(K:W.Frag)(gt:D->Ro->Option Ro):TG:=fun v σ H Q=>∃d ρ ρ' H0 G0 G,gt d ρ=some ρ'/\SR K H0 G0 σ H G ρ/\Rp K G d v/\∀σ',SR K H0 G0 σ' H G ρ'->Q σ' H
abbrev ME(X:Cx)(e:Expr)(f:Ro->Option D):Prop:=PE X e (tOf X.K f)
abbrev MC(X:Cx)(e:Expr)(f:Ro->Option D):Prop:=PE X e (tCof X.K f)
abbrev MCA(X:Cx)(es:List Expr)(f:Ro->Option (List D)):Prop:=PA X es (tCAof X.K f)
abbrev MF(X:Cx)(e:Expr)(f:Ro->Option (List D)):Prop:=PE X e (tFof X.K f)
abbrev MT(X:Cx)(e:Expr)(f:Ro->Option Bool):Prop:=PT X e (tTof X.K f)
abbrev MA(X:Cx)(es:List Expr)(f:Ro->Option (List D)):Prop:=PA X es (tAof X.K f)
abbrev MI(X:Cx)(tg iter:Expr)(f:Ro->Option (List D)):Prop:=PI X tg iter (tIof X.K f)
abbrev MS(X:Cx)(st:Stmt)(f:Ro->Option Out):Prop:=PS X st (sOf X.K f)
abbrev MB(X:Cx)(sts:List Stmt)(f:Ro->Option Out):Prop:=PSs X sts (sOf X.K f)
abbrev MG(X:Cx)(tg:Expr)(gt:D->Ro->Option Ro):Prop:=PG X tg (gOf X.K gt)
section
variable {X:Cx}
theorem PE.imp{e:Expr}{t t':TE}(h:PE X e t)(i:∀σ H Q,t' σ H Q->t σ H Q):PE X e t':=fun pins s σ H Q I hw=>h pins s σ H Q I (i σ H Q hw)
theorem PT.imp{e:Expr}{t t':TT}(h:PT X e t)(i:∀σ H Q,t' σ H Q->t σ H Q):PT X e t':=fun pins s σ H Q I hw=>h pins s σ H Q I (i σ H Q hw)
theorem PA.imp{es:List Expr}{t t':TA}(h:PA X es t)(i:∀σ H Q,t' σ H Q->t σ H Q):PA X es t':=fun pos pins s σ H Q I hw=>h pos pins s σ H Q I (i σ H Q hw)
theorem PS.imp{st:Stmt}{t t':TS}(h:PS X st t)(i:∀F σ H,t' F σ H->t F σ H):PS X st t':=fun pins s σ H F I hw=>h pins s σ H F I (i F σ H hw)
theorem PSs.imp{st:List Stmt}{t t':TS}(h:PSs X st t)(i:∀F σ H,t' F σ H->t F σ H):PSs X st t':=fun pins s σ H F I hw=>h pins s σ H F I (i F σ H hw)
theorem PI.imp{tg e:Expr}{t t':TI}(h:PI X tg e t)(i:∀σ H R,t' σ H R->t σ H R):PI X tg e t':=fun pins s σ H R I hw=>h pins s σ H R I (i σ H R hw)
theorem PG.imp{e:Expr}{t t':TG}(h:PG X e t)(i:∀v σ H Q,t' v σ H Q->t v σ H Q):PG X e t':=fun pins s σ H v u Q I r hw=>h pins s σ H v u Q I r (i v σ H Q hw)
variable {H0 G0 H G:Hp} {σ:L2.St} {ρ:Ro}
theorem tOf.at{f:Ro->Option D}{d:D}{Q:VK}(e:f ρ=some d)(s:SR K H0 G0 σ H G ρ)(h:∀v H' G',Gr H G H' G'->Rp K G' d v->SR K H0 G0 σ H' G' ρ->Q v H'):tOf K f σ H Q:=
 ⟨ρ,d,H0,G0,G,e,s,fun v H' G' g r=>h v H' G' g r (s.grow g)⟩
theorem tCof.at{f:Ro->Option D}{d:D}{Q:VK}(e:f ρ=some d)(s:SR K H0 G0 σ H G ρ)(h:∀v H' G',Gr H G H' G'->Ct K G' H' d v->SR K H0 G0 σ H' G' ρ->Q v H'):tCof K f σ H Q:=
 ⟨ρ,d,H0,G0,G,e,s,fun v H' G' g r=>h v H' G' g r (s.grow g)⟩
theorem tCAof.at{f:Ro->Option (List D)}{l:List D}{Q:List V->Hp->Prop}(e:f ρ=some l)(s:SR K H0 G0 σ H G ρ)(h:∀vs H' G',Gr H G H' G'->CtL K G' H' l vs->SR K H0 G0 σ H' G' ρ->Q vs H'):tCAof K f σ H Q:=
 ⟨ρ,l,H0,G0,G,e,s,fun v H' G' g r=>h v H' G' g r (s.grow g)⟩
theorem ME.mc{e:Expr}{f:Ro->Option D}(h:ME X e f):MC X e f:=PE.imp h fun σ H Q ⟨ρ,d,H0,G0,G,e,s,h⟩=>⟨ρ,d,H0,G0,G,e,s,fun v H' G' g r=>h v H' G' g (.of g.s r)⟩
theorem tTof.at{f:Ro->Option Bool}{b:Bool}{Q:Bool->Hp->Prop}(e:f ρ=some b)(s:SR K H0 G0 σ H G ρ)(h:∀H' G',Gr H G H' G'->SR K H0 G0 σ H' G' ρ->Q b H'):tTof K f σ H Q:=
 ⟨ρ,b,H0,G0,G,e,s,fun H' G' g=>h H' G' g (s.grow g)⟩
theorem tAof.at{f:Ro->Option (List D)}{l:List D}{Q:List V->Hp->Prop}(e:f ρ=some l)(s:SR K H0 G0 σ H G ρ)(h:∀vs H' G',Gr H G H' G'->RpL K G' l vs->SR K H0 G0 σ H' G' ρ->Q vs H'):tAof K f σ H Q:=
 ⟨ρ,l,H0,G0,G,e,s,fun v H' G' g r=>h v H' G' g r (s.grow g)⟩
end
end
section
variable {K:W.Frag}
def b2{α:Type}(fa fb:Ro->Option D)(g:D->D->Option α):Ro->Option α:=fun ρ=>(fa ρ).bind fun x=>(fb ρ).bind fun y=>g x y
def b1{α:Type}(fa:Ro->Option D)(g:D->Option α):Ro->Option α:=fun ρ=>(fa ρ).bind g
theorem Ygm{α:Type}{fa fb:Ro->Option D}{g:D->D->Option α}{ρ:Ro}{r:α}(h:b2 fa fb g ρ=some r):∃x y,fa ρ=some x/\fb ρ=some y/\g x y=some r:=by
 unfold b2 at h
 obtain⟨x,h1,h⟩:=qa h
 obtain⟨y,h2,h⟩:=qa h
 exact⟨x,y,h1,h2,h⟩
theorem Yb8{α:Type}{fa:Ro->Option D}{g:D->Option α}{ρ:Ro}{r:α}(h:b1 fa g ρ=some r):∃x,fa ρ=some x/\g x=some r:=by
 unfold b1 at h
 obtain⟨x,h1,h⟩:=qa h
 exact⟨x,h1,h⟩
def Sem2(K:W.Frag)(r:R2)(g:D->D->Option D):Prop:=∀(x y:V) (dx dy d:D) (H G:Hp) (Q:VK),g dx dy=some d->Same G H->Ct K G H dx x->Ct K G H dy y->(∀v H' G',Gr H G H' G'->Rp K G' d v->Q v H')->r x y H Q
def Yh5(K:W.Frag)(r:R2)(g:D->D->Option Bool):Prop:=∀(x y:V) (dx dy:D) (b:Bool) (H G:Hp) (Q:VK),g dx dy=some b->Same G H->Ct K G H dx x->Ct K G H dy y->Q (.bl b) H->r x y H Q
def SemC(K:W.Frag)(r:List V->Hp->VK->Prop)(g:List D->Option D):Prop:=∀(vs:List V) (ds:List D) (d:D) (H G:Hp) (Q:VK),g ds=some d->Same G H->CtL K G H ds vs->(∀v H' G',Gr H G H' G'->Rp K G' d v->Q v H')->r vs H Q
section
variable {X:Cx} {a b c e:Expr} {es:List Expr} {fa fb fc f:Ro->Option D} {ga:Ro->Option (List D)} {pos:Pos}
def getV(i:Nat):Ro->Option D:=fun ρ=>match ρ[i]? with
 | some (some (B.sh d))=>some d
 | _=>none
def getO(i:Nat):Ro->Option (List D):=fun ρ=>match ρ[i]? with
 | some (some (B.ow l))=>some l
 | _=>none
theorem Yke{i:Nat}{ρ:Ro}{d:D}(h:getV i ρ=some d):ρ[i]?=some (some (B.sh d)):=by
 unfold getV at h
 split at h
 ·cases h;assumption
 ·cases h
theorem Yd4{i:Nat}{ρ:Ro}{l:List D}(h:getO i ρ=some l):ρ[i]?=some (some (B.ow l)):=by
 unfold getO at h
 split at h
 ·cases h;assumption
 ·cases h
theorem Yqp(i:Nat){x:Str}(hN:X.N[i]?=some x:=by rfl)(hv:Vis X.env.scope x:=by first | exact Or.inl rfl | exact Or.inr (Or.inl rfl) | exact Or.inr (Or.inr rfl))(hd:(x==("__debug__":Str))=false:=by decide)
 (hcd:(x==("__classdict__":Str))=false:=by decide):ME X (.Name x pos) (getV i):=
 PE.imp (Yfa hN hv hd hcd) fun σ H Q hx_=>by
  obtain⟨ρ,d,H0,G0,G,e,s,h⟩:=hx_
  obtain⟨v,h1,h2⟩:=s.sh i d (Yke e)
  exact⟨v,h1,h v H G (.refl s.seen) h2⟩
def getC(i:Nat):Ro->Option D:=fun ρ=>match ρ[i]? with
 | some (some (B.sh d))=>some d
 | some (some (B.ow l))=>some (.lst l)
 | some (some (B.od t ks vs))=>some (.dct t ks vs)
 | _=>none
theorem Yqq(i:Nat){x:Str}(hN:X.N[i]?=some x:=by rfl)(hv:Vis X.env.scope x:=by first | exact Or.inl rfl | exact Or.inr (Or.inl rfl) | exact Or.inr (Or.inr rfl))(hd:(x==("__debug__":Str))=false:=by decide)
 (hcd:(x==("__classdict__":Str))=false:=by decide):MC X (.Name x pos) (getC i):=
 PE.imp (Yfa hN hv hd hcd) fun σ H Q hx_=>by
  obtain⟨ρ,d,H0,G0,G,e,s,h⟩:=hx_
  unfold getC at e
  split at e
  ·rename_i d' hd'
   cases e
   obtain⟨v,h1,h2⟩:=s.sh i _ hd'
   exact⟨v,h1,h v H G (.refl s.seen) (.of s.seen h2)⟩
  ·rename_i l hl
   cases e
   obtain⟨a,xs,h1,h2,h3,h4,h5⟩:=s.ow i l hl
   exact⟨_,h1,h _ H G (.refl s.seen) (by rw[Ct];exact⟨a,xs,rfl,.inl h4,h5⟩)⟩
  ·rename_i t ks vs hl
   cases e
   obtain⟨a,kxs,vxs,h1,h2,h3,h4,h5⟩:=s.od i t ks vs hl
   exact⟨_,h1,h _ H G (.refl s.seen) (by rw[Ct];exact⟨a,kxs,vxs,rfl,h4,h5⟩)⟩
  ·cases e
def kD(d:D):Ro->Option D:=fun _=>some d
theorem Ye7{v:V}{d:D}{t:TE}(h:PE X e t)(ht:∀σ H Q,Q v H->t σ H Q)(hr:∀G,Rp X.K G d v):ME X e (kD d):=
 PE.imp h fun σ H Q hx_=>by
  obtain⟨ρ,d',H0,G0,G,e,s,h⟩:=hx_
  cases e
  exact ht σ H Q (h v H G (.refl s.seen) (hr G))
theorem Yqr{i:Int}{j}:ME X (.Constant (.int i) j pos) (kD (.int i)):=Ye7 (v:=.int i) Yp1 (fun _ _ _ q=>q) fun _=>by rw[Rp]
theorem Ysq{k:Bool}{j}:ME X (.Constant (.bool k) j pos) (kD (.bl k)):=Ye7 (v:=.bl k) Ysf (fun _ _ _ q=>q) fun _=>by rw[Rp]
theorem Yqs{j}:ME X (.Constant .none j pos) (kD .non):=Ye7 (v:=.non) Yp2 (fun _ _ _ q=>q) fun _=>by rw[Rp]
theorem Yqt{x:Str}{j}(hx:PyData.strOk x=true:=by decide +kernel):ME X (.Constant (.str x) j pos) (kD (.str x)):=Ye7 (v:=.str x) Ynf (fun _ _ _ q=>q) fun _=>by rw[Rp];exact⟨rfl,hx⟩
theorem Ynn{r:R2}{g:D->D->Option D}(hr:Sem2 K r g){σ:L2.St}{H:Hp}{Q:VK}(h:tOf K (b2 fa fb g) σ H Q):tOp r (tCof K fa) (tCof K fb) σ H Q:=by
 obtain⟨ρ,d,H0,G0,G,e,s,h⟩:=h
 obtain⟨dx,dy,h1,h2,h3⟩:=Ygm e
 exact tCof.at h1 s fun v H1 G1 g1 r1 s1=>tCof.at h2 s1 fun u H2 G2 g2 r2 s2=>hr v u dx dy d H2 G2 Q h3 s2.seen (r1.grow g2) r2 fun w H' G' g3 r3=>h w H' G' ((g1.trans g2).trans g3) r3
theorem Yol{r:R2}{g:D->D->Option Bool}(hr:Yh5 K r g){σ:L2.St}{H:Hp}{Q:Bool->Hp->Prop}(h:tTof K (b2 fa fb g) σ H Q):Yqc (tOp r (tCof K fa) (tCof K fb)) σ H Q:=by
 obtain⟨ρ,d,H0,G0,G,e,s,h⟩:=h
 obtain⟨dx,dy,h1,h2,h3⟩:=Ygm e
 exact tCof.at h1 s fun v H1 G1 g1 r1 s1=>tCof.at h2 s1 fun u H2 G2 g2 r2 s2=>hr v u dx dy d H2 G2 _ h3 s2.seen (r1.grow g2) r2 ⟨d,rfl,h H2 G2 (g1.trans g2)⟩
def mB(f:Ro->Option Bool):Ro->Option D:=fun ρ=>(f ρ).map D.bl
theorem Ykf{f:Ro->Option Bool}{ρ:Ro}{d:D}(h:mB f ρ=some d):∃b,f ρ=some b/\d=.bl b:=by
 unfold mB at h
 obtain⟨b,h1,h2⟩:=qc h
 exact⟨b,h1,h2.symm⟩
theorem Ymg{r:R2}{g:D->D->Option Bool}(hr:Yh5 K r g){σ:L2.St}{H:Hp}{Q:VK}(h:tOf K (mB (b2 fa fb g)) σ H Q):tOp r (tCof K fa) (tCof K fb) σ H Q:=by
 obtain⟨ρ,d,H0,G0,G,e,s,h⟩:=h
 obtain⟨b,eb,rfl⟩:=Ykf e
 obtain⟨dx,dy,h1,h2,h3⟩:=Ygm eb
 exact tCof.at h1 s fun v H1 G1 g1 r1 s1=>tCof.at h2 s1 fun u H2 G2 g2 r2 s2=>hr v u dx dy b H2 G2 _ h3 s2.seen (r1.grow g2) r2 (h _ H2 G2 (g1.trans g2) (by rw[Rp]))
theorem Yf9{op:Operator}{r:R2}{g:D->D->Option D}(ho:OpR X (binaryOp op) r)(hr:Sem2 X.K r g)(ha:MC X a fa)(hb:MC X b fb):ME X (.BinOp a op b pos) (b2 fa fb g):=PE.imp (Yn9 ho ha hb) fun _ _ _ h=>Ynn hr h
theorem Yqu{op:CmpOp}{r:R2}{g:D->D->Option Bool}(ho:OpR X (compareOp op) r)(hr:Yh5 X.K r g)(ha:MC X a fa)(hb:MC X b fb)(hm:behindInMarks op b=false):ME X (.Compare a [op] [b] pos) (mB (b2 fa fb g)):=PE.imp (Yob ho ha hb hm) fun _ _ _ h=>Ymg hr h
theorem Yiw{op:CmpOp}{r:R2}{g:D->D->Option Bool}(ho:OpR X (compareOp op) r)(hr:Yh5 X.K r g)(ha:MC X a fa)(hb:MC X b fb)(hm:behindInMarks op b=false):MT X (.Compare a [op] [b] pos) (b2 fa fb g):=PT.imp (Yh0 ho ha hb hm) fun _ _ _ h=>Yol hr h
theorem Ysr{r:R2}{g:D->D->Option D}(hi:IxR X r)(hr:Sem2 X.K r g)(ha:MC X a fa)(hb:MC X b fb)(hs:Ygi b):ME X (.Subscript a b pos) (b2 fa fb g):=PE.imp (Yso hi ha hb hs) fun _ _ _ h=>Ynn hr h
def i2(C:Int->Int->Bool)(g:Int->Int->Int):D->D->Option D
 | .int i,.int j=>if C i j=true then some (.int (g i j))else none
 | _,_=>none
def i2b(g:Int->Int->Bool):D->D->Option Bool
 | .int i,.int j=>some (g i j)
 | _,_=>none
theorem Yix{C:Int->Int->Prop}{Cb:Int->Int->Bool}(hC:∀i j,Cb i j=true->C i j){g:Int->Int->Int}:Sem2 K (rI C fun i j=>.int (g i j)) (i2 Cb g):=by
 intro x y dx dy d H G Q h s rx ry q
 unfold i2 at h
 split at h
 ·split at h
  ·rename_i i j hc
   cases h
   rw[Ct]at rx ry
   subst rx;subst ry
   exact⟨i,j,rfl,rfl,hC i j hc,q _ H G (.refl s) (by rw[Rp])⟩
  ·cases h
 ·cases h
theorem Yh6{g:Int->Int->Int}:Sem2 K (rI0 fun i j=>.int (g i j)) (i2 (fun _ _=>true) g):=by
 intro x y dx dy d H G Q h s rx ry q
 unfold i2 at h
 split at h
 ·split at h
  ·rename_i i j hc
   cases h
   rw[Ct]at rx ry
   subst rx;subst ry
   exact⟨i,j,rfl,rfl,q _ H G (.refl s) (by rw[Rp])⟩
  ·cases h
 ·cases h
theorem Yom{g:Int->Int->Bool}:Yh5 K (rI0 fun i j=>.bl (g i j)) (i2b g):=by
 intro x y dx dy d H G Q h s rx ry q
 unfold i2b at h
 split at h
 ·rename_i i j
  cases h
  rw[Ct]at rx ry
  subst rx;subst ry
  exact⟨i,j,rfl,rfl,q⟩
 ·cases h
def addI:D->D->Option D:=i2 (fun _ _=>true) fun i j=>i+j
def subI:D->D->Option D:=i2 (fun _ _=>true) fun i j=>i - j
def mulI:D->D->Option D:=i2 (fun i j=>(decide (-(2 ^ 64) < i)&&decide (i < 2 ^ 64))||(decide (-(2 ^ 64) < j)&&decide (j < 2 ^ 64))) fun i j=>i * j
def divI:D->D->Option D:=i2 (fun _ j=>decide (0 < j)&&decide (j < 1073741824)) fun i j=>i / j
def modI:D->D->Option D:=i2 (fun _ j=>decide (0 < j)) fun i j=>i % j
theorem Yqv(ha:MC X a fa)(hb:MC X b fb):ME X (.BinOp a .Sub b pos) (b2 fa fb subI):=Yf9 Yp8 Yh6 ha hb
theorem Yqw(ha:MC X a fa)(hb:MC X b fb):ME X (.BinOp a .Mult b pos) (b2 fa fb mulI):=Yf9 Yp9 (Yix fun i j h=>by
 simp only[Bool.or_eq_true,Bool.and_eq_true,decide_eq_true_eq]at h
 exact h) ha hb
theorem Yqx(ha:MC X a fa)(hb:MC X b fb):ME X (.BinOp a .FloorDiv b pos) (b2 fa fb divI):=Yf9 Yoa (Yix fun i j h=>by
 simp only[Bool.and_eq_true,decide_eq_true_eq]at h
 exact h) ha hb
theorem Yqy(ha:MC X a fa)(hb:MC X b fb):ME X (.BinOp a .Mod b pos) (b2 fa fb modI):=Yf9 Yni (Yix fun i j h=>of_decide_eq_true h) ha hb
def gtI:=i2b fun i j=>decide (j < i)
theorem Yss(ha:MC X a fa)(hb:MC X b fb):MT X (.Compare a [.Gt] [b] pos) (b2 fa fb gtI):=Yiw Ysk Yom ha hb (Yg4 _)
mutual
def dep:D->Nat
 | .tup l=>depL l+1
 | .lst l=>depL l+1
 | .scr _=>1
 | .dct _ _ _=>1000
 | .obj _ _ _=>1000
 | .adr _=>1000
 | _=>0
def depL:List D->Nat
 | []=>0
 | d::l=>max (dep d) (depL l)
end
mutual
theorem Ycb:∀d:D,(toPy d).depth<=dep d
 | .non=>by simp[toPy,PyData.depth,dep]
 | .bl b=>by simp[toPy,PyData.depth,dep]
 | .int b=>by simp[toPy,PyData.depth,dep]
 | .str b=>by simp[toPy,PyData.depth,dep]
 | .tup l=>by have:=Ydf l;simp[toPy,PyData.depth,dep];lia
 | .lst l=>by have:=Ydf l;simp[toPy,PyData.depth,dep];lia
 | .scr ns=>by rw[toPy,PyData.depth,dep,W.ke_depthAll];exact qt _
 | .dct _ _ _=>by simp[toPy,PyData.depth,dep]
 | .obj _ _ _=>by simp[toPy,PyData.depth,dep]
 | .adr _=>by simp[toPy,PyData.depth,dep]
theorem Ydf:∀l:List D,PyData.depthAll (Yex l)<=depL l
 | []=>by simp[Yex,PyData.depthAll,depL]
 | d::l=>by have h1:=Ycb d;have h2:=Ydf l;simp[Yex,PyData.depthAll,depL];lia
end
section
variable {pins:List (Addr × Obj)} {σ:L2.St} {H:Hp} {s:Shared}
mutual
theorem Yd5(I:Inv X pins σ H s):∀{d:D} {v:V} {u:Value},dep d<=100->Rp X.K H d v->RelV v u->∃as,Reads s.heap u (toPy d) as/\(toPy d).canLay0=true
 | .non,v,u,_,r,q=>by
   rw[Rp]at r;subst r
   cases q
   exact⟨_,by rw[toPy];exact .none,by simp[toPy,PyData.canLay0]⟩
 | .bl b,v,u,_,r,q=>by
   rw[Rp]at r;subst r
   cases q
   exact⟨_,by rw[toPy];exact .bool b,by simp[toPy,PyData.canLay0]⟩
 | .int i,v,u,_,r,q=>by
   rw[Rp]at r;subst r
   obtain⟨t,rfl⟩:=q
   exact⟨_,by rw[toPy];exact .int i t,by simp[toPy,PyData.canLay0]⟩
 | .str x,v,u,_,r,q=>by
   rw[Rp]at r;obtain⟨rfl,hx⟩:=r
   obtain⟨t,rfl⟩:=q
   exact⟨_,by rw[toPy];exact .str x t,by simp[toPy,PyData.canLay0,hx]⟩
 | .tup l,v,u,hd,r,q=>by
   rw[Rp]at r
   obtain⟨a,xs,rfl,g,rl⟩:=r
   cases q
   obtain⟨_,its,rv,ht⟩:=(show ObjOk X.prog X.w H s.heap a (.tup xs) from I.hok a _ g)
   obtain⟨o,h1,h2,n,h3⟩:=ht
   obtain⟨as,q,hc⟩:=Yfk I (by simp only[dep]at hd;lia) rl rv
   exact⟨_,by rw[toPy];exact .tuple h1 h2 h3 (by simpa using q),by simpa [toPy,PyData.canLay0]using hc⟩
 | .lst l,v,u,hd,r,q=>by
   rw[Rp]at r
   obtain⟨a,xs,rfl,g,rl⟩:=r
   cases q
   obtain⟨its,rv,pl,_⟩:=I.list (.inl g)
   obtain⟨o,h1,h2,n,h3⟩:=pl.isList
   obtain⟨as,q,hc⟩:=Yfk I (by simp only[dep]at hd;lia) rl rv
   exact⟨_,by rw[toPy];exact .list h1 h2 h3 (by simpa using q),by simpa [toPy,PyData.canLay0]using hc⟩
 | .dct _ _ _,v,u,hd,r,q=>by simp[dep]at hd
 | .obj _ _ _,v,u,hd,r,q=>by simp[dep]at hd
 | .adr _,v,u,hd,r,q=>by simp[dep]at hd
 | .scr ns,v,u,_,r,q=>by
   rw[Rp]at r
   obtain⟨a,rfl,g⟩:=r
   cases q
   obtain⟨its,rv,pl,_⟩:=I.list g
   exact⟨_,by rw[toPy];exact W.reads_of_ints pl.isList (Yjf rv),by rw[toPy];simp[PyData.canLay0,W.ke_canLayAll0]⟩
theorem Yfk(I:Inv X pins σ H s):∀{l:List D} {xs:List V} {us:List Value},depL l<=100->RpL X.K H l xs->Vals xs us->∃as,ReadsAll s.heap us (Yex l) as/\PyData.canLayAll0 (Yex l)=true
 | [],xs,us,_,r,q=>by
   rw[RpL]at r;subst r
   cases q
   exact⟨_,by rw[Yex];exact .nil,by simp[Yex,PyData.canLayAll0]⟩
 | d::l,xs,us,hd,r,q=>by
   rw[RpL]at r
   obtain⟨x,xs,rfl,r1,r2⟩:=r
   rw[depL]at hd
   cases q with
   | cons q1 q2=>
     obtain⟨as,h1,h2⟩:=Yd5 I (by lia) r1 q1
     obtain⟨bs,h3,h4⟩:=Yfk I (by lia) r2 q2
     exact⟨_,by rw[Yex];exact .cons h1 h3,by simp[Yex,PyData.canLayAll0,h2,h4]⟩
end
end
def eqM(neg:Bool):D->D->Option Bool:=fun d e=>if dep d<=60/\dep e<=60 then some (if neg then !eqD d e else eqD d e)else none
def rEqD(K:W.Frag)(neg:Bool):R2:=fun x y H Q=>∃d e,Rp K H d x/\Rp K H e y/\(dep d<=60/\dep e<=60)/\Q (.bl (if neg then !eqD d e else eqD d e)) H
theorem Yno(hu:X.A.units+64 < cLine):OpR X (compareOp .Eq) (rEqD X.K false):=by
 intro pins s σ H x y v u Q I rx ry h
 obtain⟨d,e,r1,r2,hd,q⟩:=h
 obtain⟨as,h1,h2⟩:=Yd5 I (by lia) r1 rx
 obtain⟨bs,h3,h4⟩:=Yd5 I (by lia) r2 ry
 exact SeqAt.eqOverData X.prog X.w X.A X.xe s v u _ _ as bs _ h1 h3 h2 h4 (by have:=Ycb d;have:=Ycb e;lia) ⟨.bl _,H,I,rfl,by exact q⟩
theorem Yqz(hu:X.A.units+64 < cLine):OpR X (compareOp .NotEq) (rEqD X.K true):=by
 intro pins s σ H x y v u Q I rx ry h
 obtain⟨d,e,r1,r2,hd,q⟩:=h
 obtain⟨as,h1,h2⟩:=Yd5 I (by lia) r1 rx
 obtain⟨bs,h3,h4⟩:=Yd5 I (by lia) r2 ry
 exact SeqAt.neOverData X.prog X.w X.A X.xe s v u _ _ as bs _ h1 h3 h2 h4 (by have:=Ycb d;have:=Ycb e;lia) ⟨.bl _,H,I,rfl,by exact q⟩
theorem Yh7{neg:Bool}:Yh5 K (rEqD K neg) (eqM neg):=by
 intro x y dx dy b H G Q h s rx ry q
 unfold eqM at h
 split at h
 ·cases h
  exact⟨dx,dy,rx.rp s,ry.rp s,by assumption,q⟩
 ·cases h
theorem Yst(hu:X.A.units+64 < cLine)(ha:MC X a fa)(hb:MC X b fb):ME X (.Compare a [.Eq] [b] pos) (mB (b2 fa fb (eqM false))):=Yqu (Yno hu) Yh7 ha hb (Yg4 _)
theorem Ysu(hu:X.A.units+64 < cLine)(ha:MC X a fa)(hb:MC X b fb):MT X (.Compare a [.Eq] [b] pos) (b2 fa fb (eqM false)):=Yiw (Yno hu) Yh7 ha hb (Yg4 _)
theorem Ysv(hu:X.A.units+64 < cLine)(ha:MC X a fa)(hb:MC X b fb):MT X (.Compare a [.NotEq] [b] pos) (b2 fa fb (eqM true)):=Yiw (Yqz hu) Yh7 ha hb (Yg4 _)
def Yau:D->Option (List D)
 | .tup l=>some l
 | .lst l=>some l
 | .scr ns=>some (ns.map D.int)
 | _=>none
theorem Ybs{c:D}{l:List D}(h:Yau c=some l):c=.tup l\/c=.lst l\/∃ns,c=.scr ns/\l=ns.map D.int:=by
 cases c with
 | tup m=>cases h;exact .inl rfl
 | lst m=>cases h;exact .inr (.inl rfl)
 | scr ns=>cases h;exact .inr (.inr ⟨ns,rfl,rfl⟩)
 | non=>cases h
 | bl _=>cases h
 | int _=>cases h
 | str _=>cases h
 | dct _ _ _=>cases h
 | obj _ _ _=>cases h
 | adr _=>cases h
end
end
section
variable {K:W.Frag}
section
variable {X:Cx} {a b c e:Expr} {es:List Expr} {fa fb f:Ro->Option D} {fc fd:Ro->Option Bool} {ga:Ro->Option (List D)} {pos:Pos} {rest:List Expr}
def truD:D->Option Bool
 | .non=>some false
 | .bl b=>some b
 | .int i=>some (i != 0)
 | .tup l=>some (!l.isEmpty)
 | .lst l=>some (!l.isEmpty)
 | .scr ns=>some (!ns.isEmpty)
 | .str _=>none
 | .dct _ _ _=>none
 | .obj _ _ _=>none
 | .adr _=>none
theorem Yon{d:D}{v:V}{k:Bool}{H G:Hp}(h:truD d=some k)(r:Ct X.K G H d v):TruV X.K v H k:=by
 cases d with
 | non=>rw[Ct]at r;subst r;cases h;rfl
 | bl b=>rw[Ct]at r;subst r;cases h;rfl
 | int i=>rw[Ct]at r;subst r;cases h;rfl
 | str x=>cases h
 | dct _ _ _=>cases h
 | obj _ _ _=>cases h
 | adr _=>cases h
 | tup l=>
   rw[Ct]at r
   obtain⟨a,xs,rfl,g,rl⟩:=r
   cases h
   refine .inr (.inl ⟨xs,.inl (.inl g.1),?_⟩)
   have:=rl.length
   cases l<;>cases xs<;>simp_all
 | lst l=>
   rw[Ct]at r
   obtain⟨a,xs,rfl,g,rl⟩:=r
   cases h
   refine .inl ⟨xs,.inl g,?_⟩
   have:=rl.length
   cases l<;>cases xs<;>simp_all
 | scr ns=>
   rw[Ct]at r
   obtain⟨a,rfl,g⟩:=r
   cases h
   refine .inl ⟨_,g,?_⟩
   cases ns<;>simp
theorem Yq0(ha:MC X a fa)(he:∀whole,isTrue a X.env whole=(do let v <-whole;standAt a.pos;holding [v] (truthy v)):=by intro _;rfl):MT X a (b1 fa truD):=
 PT.imp (Yl9 ha he) fun σ H Q hx_=>by
  obtain⟨ρ,k,H0,G0,G,e,s,h⟩:=hx_
  obtain⟨d,h1,h2⟩:=Yb8 e
  exact tCof.at h1 s fun v H1 G1 g1 r1 s1=>⟨k,Yon h2 r1,h H1 G1 g1⟩
def orT(fc fd:Ro->Option Bool):Ro->Option Bool:=fun ρ=>(fc ρ).bind fun k=>if k=true then some true else fd ρ
def notT(fc:Ro->Option Bool):Ro->Option Bool:=fun ρ=>(fc ρ).map (!·)
abbrev MW(X:Cx)(e:Expr)(f:Ro->Option Bool):Prop:=PW X e (tTof X.K f)
theorem PW.imp{t t':TT}(h:PW X e t)(i:∀σ H Q,t' σ H Q->t σ H Q):PW X e t':=fun whole pins s σ H Q I hw=>h whole pins s σ H Q I (i σ H Q hw)
theorem Yq1(ha:MT X a fc):MW X (.BoolOp .Or [a] pos) fc:=Yp3 ha
theorem Yq2{σ:L2.St}{H:Hp}{Q:Bool->Hp->Prop}(h:tTof K (orT fc fd) σ H Q):tOr (tTof K fc) (tTof K fd) σ H Q:=by
 obtain⟨ρ,k,H0,G0,G,e,s,h⟩:=h
 unfold orT at e
 obtain⟨k1,h1,e⟩:=qa e
 refine tTof.at h1 s fun H1 G1 g1 s1=>?_
 cases k1 with
 | false=>
   rw[if_neg qi]at e ⊢
   exact tTof.at e s1 fun H2 G2 g2 _=>h H2 G2 (g1.trans g2)
 | true=>
   rw[if_pos rfl]at e ⊢
   cases e
   exact h H1 G1 g1
theorem Ysw(ha:MT X a fc)(hb:MW X (.BoolOp .Or (b::rest) pos) fd):MW X (.BoolOp .Or (a::b::rest) pos) (orT fc fd):=PW.imp (Ysg ha hb) fun _ _ _ h=>Yq2 h
theorem Yq3(ha:MT X a fc):MT X (.UnaryOp .Not a pos) (notT fc):=PT.imp (Yp4 ha) fun σ H Q hx_=>by
 obtain⟨ρ,k,H0,G0,G,e,s,h⟩:=hx_
 obtain⟨k1,h1,rfl⟩:=qc e
 exact tTof.at h1 s fun H1 G1 g1 _=>h H1 G1 g1
def ifV(fc:Ro->Option Bool)(fa fb:Ro->Option D):Ro->Option D:=fun ρ=>(fc ρ).bind fun k=>if k=true then fa ρ else fb ρ
theorem Ysx(hc:MT X c fc)(ha:ME X a fa)(hb:ME X b fb):ME X (.IfExp c a b pos) (ifV fc fa fb):=PE.imp (Yl6 hc ha hb) fun σ H Q hx_=>by
 obtain⟨ρ,d,H0,G0,G,e,s,h⟩:=hx_
 unfold ifV at e
 obtain⟨k,h1,e⟩:=qa e
 refine tTof.at h1 s fun H1 G1 g1 s1=>?_
 cases k with
 | true=>
   rw[if_pos rfl]at e ⊢
   exact tOf.at e s1 fun w H2 G2 g2 r2 _=>h w H2 G2 (g1.trans g2) r2
 | false=>
   rw[if_neg qi]at e ⊢
   exact tOf.at e s1 fun w H2 G2 g2 r2 _=>h w H2 G2 (g1.trans g2) r2
def Ykg:D->Bool
 | .non=>true
 | _=>false
theorem Ymh{d:D}{v:V}{G H:Hp}(r:Ct K G H d v):decide (v=V.non)=Ykg d:=by
 cases d with
 | non=>rw[Ct]at r;subst r;rfl
 | bl _=>rw[Ct]at r;subst r;rfl
 | int _=>rw[Ct]at r;subst r;rfl
 | str _=>rw[Ct]at r;obtain⟨rfl,_⟩:=r;rfl
 | tup _=>rw[Ct]at r;obtain⟨_,_,rfl,_⟩:=r;rfl
 | lst _=>rw[Ct]at r;obtain⟨_,_,rfl,_⟩:=r;rfl
 | scr _=>rw[Ct]at r;obtain⟨_,rfl,_⟩:=r;rfl
 | dct _ _ _=>rw[Ct]at r;obtain⟨_,_,_,rfl,_⟩:=r;rfl
 | obj _ _ _=>rw[Ct]at r;obtain⟨_,_,_,_,rfl,_⟩:=r;rfl
 | adr _=>rw[Ct]at r;subst r;rfl
def isN(neg:Bool):D->D->Option Bool:=fun d e=>if Ykg e then some (if neg then !Ykg d else Ykg d)else none
theorem Yoo:Yh5 K (fun x y H Q=>y=.non/\Q (.bl (decide (x=.non))) H) (isN false):=by
 intro x y dx dy b H G Q h s rx ry q
 unfold isN at h
 split at h
 ·rename_i hn
  cases h
  cases dy<;>simp[Ykg]at hn
  rw[Ct]at ry
  exact⟨ry,by rw[Ymh rx];exact q⟩
 ·cases h
theorem Yq4(ha:MC X a fa)(hb:MC X b fb):MT X (.Compare a [.Is] [b] pos) (b2 fa fb (isN false)):=Yiw Yqb Yoo ha hb (Yg4 _)
def ixD:D->D->Option D
 | c,.int i=>(Yau c).bind fun l=>atI l i
 | _,_=>none
theorem Ykh{G:Hp}{l:List D}{xs:List V}{i:Int}{d:D}(r:RpL K G l xs)(h:atI l i=some d):∃x,atI xs i=some x/\Rp K G d x:=by
 unfold atI at h ⊢
 rw[r.length]
 obtain⟨j,h1,h2⟩:=qa h
 obtain⟨x,h3,h4⟩:=r.get h2
 exact⟨x,by rw[h1];exact h3,h4⟩
theorem Yq5:Sem2 X.K (rIx X.K) ixD:=by
 intro x y dx dy d H G Q h s rx ry q
 unfold ixD at h
 split at h
 ·rename_i c i
  obtain⟨l,h1,h2⟩:=qa h
  rw[Ct]at ry
  subst ry
  rcases Ybs h1 with rfl | rfl | ⟨ns,rfl,rfl⟩
  ·rw[Ct]at rx
   obtain⟨p,xs,rfl,g,rl⟩:=rx
   obtain⟨v,h3,h4⟩:=Ykh rl h2
   exact .inr (.inl ⟨p,xs,i,v,rfl,rfl,.inl (.inl g.1),h3,q v H G (.refl s) h4⟩)
  ·rw[Ct]at rx
   obtain⟨p,xs,rfl,g,rl⟩:=rx
   obtain⟨v,h3,h4⟩:=Ykh rl h2
   exact .inl ⟨p,xs,i,v,rfl,rfl,.inl g,h3,q v H G (.refl s) h4⟩
  ·rw[Ct]at rx
   obtain⟨p,rfl,g⟩:=rx
   obtain⟨v,h3,h4⟩:=Ykh (G:=G) (K:=X.K) (.ints ns) h2
   exact .inl ⟨p,_,i,v,rfl,rfl,g,h3,q v H G (.refl s) h4⟩
 ·cases h
theorem Yop(ha:MC X a fa)(hb:MC X b fb)(hs:Ygi b:=by intro _ _;rfl):ME X (.Subscript a b pos) (b2 fa fb ixD):=Ysr Yql Yq5 ha hb hs
def intD:D->Option Int
 | .int i=>some i
 | _=>none
def optI(f:Option (Ro->Option D)):Ro->Option (Option Int):=fun ρ=>match f with
 | none=>some none
 | some f=>(b1 f intD ρ).map some
def cutD(l:List D)(lo hi:Option Int):List D:=(l.drop (HT.sIx l.length 0 lo)).take (HT.sIx l.length l.length hi - HT.sIx l.length 0 lo)
def lstD:D->Option (List D)
 | .lst l=>some l
 | .scr ns=>some (ns.map D.int)
 | _=>none
theorem Yki{d:D}{l:List D}{v:V}{G H:Hp}(h:lstD d=some l)(r:Ct K G H d v):∃p xs,v=.ref p/\SqL K H p xs/\RpL K G l xs:=by
 cases d with
 | lst m=>
   cases h
   rw[Ct]at r
   obtain⟨p,xs,e,g,q⟩:=r
   exact⟨p,xs,e,.inl g,q⟩
 | scr ns=>
   cases h
   rw[Ct]at r
   obtain⟨p,e,g⟩:=r
   exact⟨p,_,e,g,.ints ns⟩
 | non=>cases h
 | bl _=>cases h
 | int _=>cases h
 | str _=>cases h
 | tup _=>cases h
 | dct _ _ _=>cases h
 | obj _ _ _=>cases h
 | adr _=>cases h
abbrev tO(K:W.Frag)(f:Option (Ro->Option D)):TO:=match f with
 | none=>Yj8
 | some f=>Yqi (tCof K f)
theorem Yq6{H0 G0 H G:Hp}{σ:L2.St}{ρ:Ro}{f:Option (Ro->Option D)}{i:Option Int}{Q:Option Int->Hp->Prop}(e:optI f ρ=some i)(s:SR K H0 G0 σ H G ρ)(h:∀H' G',Gr H G H' G'->SR K H0 G0 σ H' G' ρ->Q i H'):tO K f σ H Q:=by
 cases f with
 | none=>
   cases e
   exact h H G (.refl s.seen) s
 | some f=>
   obtain⟨k,h1,rfl⟩:=qc e
   obtain⟨d,h2,h3⟩:=Yb8 h1
   refine tCof.at h2 s fun v H1 G1 g1 r1 s1=>⟨k,?_,h H1 G1 g1 s1⟩
   cases d<;>simp[intD]at h3
   subst h3
   rw[Ct]at r1
   exact r1
theorem Ysy:PO X none (tO X.K none):=Yod
theorem Ysz(h:MC X e f):PO X (some e) (tO X.K (some f)):=Yoe h
def lF(f:Ro->Option (List D)):Ro->Option D:=fun ρ=>(f ρ).map D.lst
theorem MF.me{g:Ro->Option (List D)}(h:MF X e g):ME X e (lF g):=PE.imp h fun σ H Q hx_=>by
 obtain⟨ρ,d,H0,G0,G,e,s,h⟩:=hx_
 obtain⟨l,h1,rfl⟩:=qc e
 exact⟨ρ,l,H0,G0,G,h1,s,fun p xs H' G' g hp gp e' r=>h _ H' _ (g.show hp gp e') (by
  rw[Rp]
  refine⟨p,xs,rfl,.inl Ym,r.mono fun b o q=>?_⟩
  rw[Yj (Yn q gp)];exact q)⟩
def aNil:Ro->Option (List D):=fun _=>some []
def Yl(f:Ro->Option D)(g:Ro->Option (List D)):Ro->Option (List D):=fun ρ=>(f ρ).bind fun d=>(g ρ).map (d::·)
theorem Ynp:MA X [] aNil:=PA.imp Yer fun σ H Q hx_=>by
 obtain⟨ρ,l,H0,G0,G,e,s,h⟩:=hx_
 cases e
 exact h [] H G (.refl s.seen) .nil
theorem Yh8(ha:ME X e f)(hr:MA X es ga)(hs:starEach (e::es) X.env=(false,eval e X.env)::starEach es X.env:=by rfl):MA X (e::es) (Yl f ga):=PA.imp (Yb7 ha hr hs) fun σ H Q hx_=>by
 obtain⟨ρ,l,H0,G0,G,e,s,h⟩:=hx_
 unfold Yl at e
 obtain⟨d,h1,e⟩:=qa e
 obtain⟨l',h2,rfl⟩:=qc e
 exact tOf.at h1 s fun v H1 G1 g1 r1 s1=>tAof.at h2 s1 fun vs H2 G2 g2 r2 _=>h (v::vs) H2 G2 (g1.trans g2) (.cons (r1.mono g2.g) r2)
theorem Ykj:MCA X [] aNil:=PA.imp Yer fun σ H Q hx_=>by
 obtain⟨ρ,l,H0,G0,G,e,s,h⟩:=hx_
 cases e
 exact h [] H G (.refl s.seen) rfl
theorem Yiy(ha:MC X e f)(hr:MCA X es ga)(hs:starEach (e::es) X.env=(false,eval e X.env)::starEach es X.env:=by rfl):MCA X (e::es) (Yl f ga):=PA.imp (Yb7 ha hr hs) fun σ H Q hx_=>by
 obtain⟨ρ,l,H0,G0,G,e,s,h⟩:=hx_
 unfold Yl at e
 obtain⟨d,h1,e⟩:=qa e
 obtain⟨l',h2,rfl⟩:=qc e
 exact tCof.at h1 s fun v H1 G1 g1 r1 s1=>tCAof.at h2 s1 fun vs H2 G2 g2 r2 _=>h (v::vs) H2 G2 (g1.trans g2) ⟨v,vs,rfl,r1.grow g2,r2⟩
def cap6:Nat:=1000000
theorem Yb9{n:Nat}(h:n<=cap6):n<=sizeLine:=qw h (by rw[sizeLine_eq];decide)
def dTup(ga:Ro->Option (List D)):Ro->Option D:=fun ρ=>(ga ρ).bind fun l=>if l.length<=cap6 then some (.tup l)else none
theorem Yq7{x1}(h:MA X es ga):ME X (.Tuple es x1 pos) (dTup ga):=PE.imp (Ynj h) fun σ H Q hx_=>by
 obtain⟨ρ,d,H0,G0,G,e,s,h⟩:=hx_
 unfold dTup at e
 obtain⟨l,h1,e⟩:=qa e
 split at e
 ·cases e
  refine tAof.at h1 s fun vs H1 G1 g1 r1 s1=>⟨by rw[r1.length];exact Yb9 (by assumption),fun p hp=>?_⟩
  refine h _ _ _ (g1.trans (.new s1.seen hp (.tup vs))) ?_
  rw[Rp]
  exact⟨p,vs,rfl,Ym,r1.mono (Gr.new s1.seen hp (.tup vs)).g⟩
 ·cases e
def dLst(ga:Ro->Option (List D)):Ro->Option (List D):=fun ρ=>(ga ρ).bind fun l=>if l.length<=cap6 then some l else none
theorem Yq8(h:MA X es ga):MF X (.List es pos) (dLst ga):=PE.imp (Yqf h) fun σ H Q hx_=>by
 obtain⟨ρ,d,H0,G0,G,e,s,h⟩:=hx_
 unfold dLst at e
 obtain⟨l,h1,e⟩:=qa e
 split at e
 ·cases e
  refine tAof.at h1 s fun vs H1 G1 g1 r1 s1=>⟨by rw[r1.length];exact Yb9 (by assumption),fun p hp=>?_⟩
  exact h p vs _ G1 (g1.trans (.hid s1.seen hp (.lst vs))) (g1.h.free hp) (s1.seen.free hp) Ym r1
 ·cases e
def cC(ga:Ro->Option (List D))(g:List D->Option D):Ro->Option D:=fun ρ=>(ga ρ).bind g
def cF(ga:Ro->Option (List D))(g:List D->Option (List D)):Ro->Option (List D):=fun ρ=>(ga ρ).bind g
theorem Ynq{r:List V->Hp->VK->Prop}{g:List D->Option D}(hr:SemC K r g){σ:L2.St}{H:Hp}{Q:VK}(h:tOf K (cC ga g) σ H Q):tCB r (tCAof K ga) σ H Q:=by
 obtain⟨ρ,d,H0,G0,G,e,s,h⟩:=h
 unfold cC at e
 obtain⟨l,h1,h2⟩:=qa e
 exact tCAof.at h1 s fun vs H1 G1 g1 r1 s1=>hr vs l d H1 G1 Q h2 s1.seen r1 fun v H' G' g2 r2=>h v H' G' (g1.trans g2) r2
section
variable {x:Str} {p:Pos} {id T:String} {r:List V->Hp->VK->Prop} {g:List D->Option D} {gf:List D->Option (List D)}
theorem Ymi(hc:Yfd X (.builtin id) r)(hr:SemC X.K r g)(hg:Gl X x)(hm:X.mg x=none)(hv:bootBuiltins x=some (.builtin id))(ha:MCA X (e::es) ga)(hn:x≠"__name__":=by decide)(hdb:(x==("__debug__":Str))=false:=by decide)
 (he:starEach (e::es) X.env=(false,eval e X.env)::starEach es X.env:=by rfl) (hpl:(backTo pos (starEach es X.env)).any (·.1)=false:=by rfl):ME X (.Call (.Name x p) (e::es) [] pos) (cC ga g):=
 PE.imp (Yiv hc hg hm hv ha hn hdb he hpl) fun _ _ _ h=>Ynq hr h
theorem Ykk(hc:Yfd X (.type T) r)(hr:SemC X.K r g)(hg:Gl X x)(hm:X.mg x=none)(hv:bootBuiltins x=some (.type T))(ha:MCA X (e::es) ga)(hn:x≠"__name__":=by decide)(hdb:(x==("__debug__":Str))=false:=by decide)
 (he:starEach (e::es) X.env=(false,eval e X.env)::starEach es X.env:=by rfl) (hpl:(backTo pos (starEach es X.env)).any (·.1)=false:=by rfl):ME X (.Call (.Name x p) (e::es) [] pos) (cC ga g):=
 PE.imp (Yha hc hg hm hv ha hn hdb he hpl) fun _ _ _ h=>Ynq hr h
end
def spOf(K:W.Frag)(n:Nat)(fn:List D->Option D):Sp:=fun vs H Q _=>vs.length=n/\∃ds d G,Same G H/\RpL K G ds vs/\fn ds=some d/\∀v H' G',Gr H G H' G'->Rp K G' d v->Q v H'
theorem Yoq{k n:Nat}{fa':Addr}{fd':FuncData}{ps:List Str}{x:Str}{p:Pos}{fn:List D->Option D}(F:FnOk X.prog X.w X.K X.mg X.base CX0 k fa' fd' ps (spOf X.K n fn))(hr:Room k X.A)(hg:Gl X x)(hm:X.mg x=some (.ref fa'))(hk:W.keepIn X.K (.ref fa')=true)(hb:Binds X.K fd' ps [])
 (ha:MA X (e::es) ga) (hdb:(x==("__debug__":Str))=false:=by decide) (he:starEach (e::es) X.env=(false,eval e X.env)::starEach es X.env:=by rfl) (hpl:(backTo pos (starEach es X.env)).any (·.1)=false:=by rfl)
 (hl:∀ρ l,ga ρ=some l->l.length=n):ME X (.Call (.Name x p) (e::es) [] pos) (cC ga fn):=
 PE.imp (Yh2 (E:=E0) F hr hg hm hk hb .nil Yoi ha hdb he hpl) fun σ H Q hx_=>by
  obtain⟨ρ,d,H0,G0,G,e,s,h⟩:=hx_
  unfold cC at e
  obtain⟨l,h1,h2⟩:=qa e
  refine tAof.at h1 s fun vs H1 G1 g1 r1 s1=>?_
  rw[List.append_nil]
  exact⟨by rw[r1.length];exact hl ρ l h1,l,d,G1,s1.seen,r1,h2,fun v H' G' g2 r2=>h v H' G' (g1.trans g2) r2⟩
theorem Ymj{ρ:Ro}{l:List D}(h:aNil ρ=some l):l.length=0:=by cases h;rfl
theorem Yhd{f:Ro->Option D}{g:Ro->Option (List D)}{n:Nat}(hg:∀ρ l,g ρ=some l->l.length=n):∀ρ l,Yl f g ρ=some l->l.length=n+1:=fun ρ l h=>by
 unfold Yl at h
 obtain⟨d,h1,e⟩:=qa h
 obtain⟨l',h2,rfl⟩:=qc e
 rw[qr,hg ρ l' h2]
def lenC:List D->Option D
 | [c]=>(Yau c).map fun l=>.int l.length
 | _=>none
theorem Yq9{G H:Hp}{c:D}{l:List D}{v:V}(h:Yau c=some l)(r:Ct K G H c v):∃p xs,v=.ref p/\(SqL K H p xs\/SqT K H p xs)/\RpL K G l xs:=by
 rcases Ybs h with rfl | rfl | ⟨ns,rfl,rfl⟩
 ·rw[Ct]at r
  obtain⟨p,xs,rfl,g,rl⟩:=r
  exact⟨p,xs,rfl,.inr (.inl (.inl g.1)),rl⟩
 ·rw[Ct]at r
  obtain⟨p,xs,rfl,g,rl⟩:=r
  exact⟨p,xs,rfl,.inl (.inl g),rl⟩
 ·rw[Ct]at r
  obtain⟨p,rfl,g⟩:=r
  exact⟨p,_,rfl,.inl g,.ints ns⟩
theorem Yfl{G:Hp}{d:D}{vs:List V}(h:RpL K G [d] vs):∃v,vs=[v]/\Rp K G d v:=by
 rw[RpL]at h
 obtain⟨x,r,rfl,h1,h2⟩:=h
 rw[RpL]at h2
 subst h2
 exact⟨x,rfl,h1⟩
theorem Ydg{G H:Hp}{d:D}{vs:List V}(h:CtL K G H [d] vs):∃v,vs=[v]/\Ct K G H d v:=by
 obtain⟨x,r,rfl,h1,h2⟩:=h
 cases (show r=[] from h2)
 exact⟨x,rfl,h1⟩
theorem Yeg:SemC X.K (fun xs H Q=>∃p ys,xs=[.ref p]/\(SqL X.K H p ys\/SqT X.K H p ys)/\Q (.int ys.length) H) lenC:=by
 intro vs ds d H G Q h s r q
 match ds,h,r with
 | [c],h,r=>
   obtain⟨l,h1,rfl⟩:=qc h
   obtain⟨v,rfl,rv⟩:=Ydg r
   obtain⟨p,xs,rfl,h2,rl⟩:=Yq9 (K:=X.K) h1 rv
   exact⟨p,xs,rfl,h2,q _ H G (.refl s) (by rw[Rp,rl.length])⟩
def tupC:List D->Option D
 | [c]=>(Yau c).map D.tup
 | _=>none
theorem Ykl:SemC X.K (fun xs H Q=>∃p ys,xs=[.ref p]/\((SqL X.K H p ys/\∀l,H l=none->Q (.ref l) (upd H l (.tup ys)))\/(SqT X.K H p ys/\Q (.ref p) H))) tupC:=by
 intro vs ds d H G Q h s r q
 match ds,h,r with
 | [c],h,r=>
   obtain⟨l,h1,rfl⟩:=qc h
   obtain⟨v,rfl,rv⟩:=Ydg r
   rcases Ybs h1 with rfl | rfl | ⟨ns,rfl,rfl⟩
   ·rw[Ct]at rv
    obtain⟨p,xs,rfl,g,rl⟩:=rv
    exact⟨p,xs,rfl,.inr ⟨.inl (.inl g.1),q _ H G (.refl s) (by rw[Rp];exact⟨p,xs,rfl,g.2,rl⟩)⟩⟩
   ·rw[Ct]at rv
    obtain⟨p,xs,rfl,g,rl⟩:=rv
    refine⟨p,xs,rfl,.inl ⟨.inl g,fun m hm=>q _ _ _ (.new s hm (.tup xs)) ?_⟩⟩
    rw[Rp]
    exact⟨m,xs,rfl,Ym,rl.mono (Gr.new s hm (.tup xs)).g⟩
   ·rw[Ct]at rv
    obtain⟨p,rfl,g⟩:=rv
    refine⟨p,_,rfl,.inl ⟨g,fun m hm=>q _ _ _ (.new s hm (.tup _)) ?_⟩⟩
    rw[Rp]
    exact⟨m,_,rfl,Ym,.ints ns⟩
def intC:List D->Option D
 | [.int i]=>some (.int i)
 | [.bl k]=>some (.int (if k then 1 else 0))
 | _=>none
theorem Yh9:SemC X.K (fun xs H Q=>(∃i,xs=[.int i]/\Q (.int i) H)\/∃k,xs=[.bl k]/\Q (.int (if k then 1 else 0)) H) intC:=by
 intro vs ds d H G Q h s r q
 match ds,h,r with
 | [.int i],h,r=>
   cases h
   obtain⟨v,rfl,rv⟩:=Ydg r
   rw[Ct]at rv
   subst rv
   exact .inl ⟨i,rfl,q _ H G (.refl s) (by rw[Rp])⟩
 | [.bl k],h,r=>
   cases h
   obtain⟨v,rfl,rv⟩:=Ydg r
   rw[Ct]at rv
   subst rv
   exact .inr ⟨k,rfl,q _ H G (.refl s) (by rw[Rp])⟩
end
end
section
variable {K:W.Frag}
section
variable {X:Cx} {e:Expr} {f:Ro->Option D} {gl:Ro->Option (List D)} {pos pos':Pos} {st:Stmt} {sts:List Stmt} {fs gs:Ro->Option Out}
def sNil:Ro->Option Out:=fun ρ=>some (.nx ρ)
def sSeq(f g:Ro->Option Out):Ro->Option Out:=fun ρ=>(f ρ).bind fun
 | .nx ρ'=>g ρ'
 | o=>some o
theorem Yra:MB X [] sNil:=PSs.imp Yjx fun F σ H hx_=>by
 obtain⟨ρ,out,H0,G0,G,e,s,h⟩:=hx_
 cases e
 exact h σ H G s
theorem Yor(h1:MS X st fs)(h2:MB X sts gs):MB X (st::sts) (sSeq fs gs):=PSs.imp (Ygh h1 h2) fun F σ H hx_=>by
 obtain⟨ρ,out,H0,G0,G,e,s,h⟩:=hx_
 unfold sSeq at e
 obtain⟨o,h3,e⟩:=qa e
 cases o with
 | nx ρ'=>exact⟨ρ,.nx ρ',H0,G0,G,h3,s,fun σ' H' G' s'=>⟨ρ',out,H0,G0,G',e,s',h⟩⟩
 | rt d=>cases e;exact⟨ρ,.rt d,H0,G0,G,h3,s,h⟩
 | bk ρ'=>cases e;exact⟨ρ,.bk ρ',H0,G0,G,h3,s,h⟩
 | ct ρ'=>cases e;exact⟨ρ,.ct ρ',H0,G0,G,h3,s,h⟩
theorem Yrb(h1:MS X st fs):MB X [st] fs:=Yjy h1
def frz1(i:Nat)(ρ:Ro):Ro:=match ρ[i]? with
 | some (some (B.ow l))=>ρ.set i (some (.sh (.lst l)))
 | some (some (B.od t ks vs))=>ρ.set i (some (.sh (.dct t ks vs)))
 | _=>ρ
theorem SR.frz1{H0 G0 H G:Hp}{σ:L2.St}{ρ:Ro}(s:SR K H0 G0 σ H G ρ)(i:Nat):∃G',SR K H0 G0 σ H G' (M.frz1 i ρ):=by
 unfold M.frz1
 split
 ·rename_i l hl
  exact s.freeze hl
 ·rename_i t ks vs hl
  exact s.freezed hl
 ·exact⟨G,s⟩
def frz(is:List Nat)(ρ:Ro):Ro:=is.foldl (fun r i=>frz1 i r) ρ
theorem SR.frz{H0 G0 H:Hp}{σ:L2.St}:∀(is:List Nat) {G:Hp} {ρ:Ro},SR K H0 G0 σ H G ρ->∃G',SR K H0 G0 σ H G' (M.frz is ρ)
 | [],G,_,s=>⟨G,s⟩
 | i::is,_,ρ,s=>by
   obtain⟨G',s'⟩:=s.frz1 i
   exact SR.frz is s'
def wF(is:List Nat)(f:Ro->Option Out):Ro->Option Out:=fun ρ=>f (frz is ρ)
theorem Yrc(is:List Nat)(h:MS X st fs):MS X st (wF is fs):=PS.imp h fun F σ H hx_=>by
 obtain⟨ρ,out,H0,G0,G,e,s,h⟩:=hx_
 obtain⟨G',s'⟩:=SR.frz is s
 exact⟨frz is ρ,out,H0,G0,G',e,s',h⟩
def sSet(i:Nat)(f:Ro->Option D):Ro->Option Out:=fun ρ=>(f ρ).map fun d=>.nx (ρ.set i (some (.sh d)))
def sOwn(i:Nat)(f:Ro->Option (List D)):Ro->Option Out:=fun ρ=>(f ρ).map fun l=>.nx (ρ.set i (some (.ow l)))
theorem Yrd{i:Nat}{F:Ends}{σ:L2.St}{H:Hp}(h:sOf K (sSet i f) F σ H):tAsg (tOf K f) (Yl7 i) F σ H:=by
 obtain⟨ρ,out,H0,G0,G,e,s,h⟩:=h
 obtain⟨d,h1,rfl⟩:=qc e
 exact tOf.at h1 s fun v H1 G1 g1 r1 s1=>h _ H1 G1 (s1.set_sh i r1)
theorem Yre{i:Nat}{F:Ends}{σ:L2.St}{H:Hp}(h:sOf K (sOwn i gl) F σ H):tAsg (tFof K gl) (Yl7 i) F σ H:=by
 obtain⟨ρ,out,H0,G0,G,e,s,h⟩:=h
 obtain⟨l,h1,rfl⟩:=qc e
 exact⟨ρ,l,H0,G0,G,h1,s,fun p xs H' G' g hp gp e' r=>h _ H' G' (s.set_ow i g hp gp e' r)⟩
theorem Yrf(i:Nat){x:Str}(hN:X.N.Nodup)(he:ME X e f)(hi:X.N[i]?=some x:=by rfl)(hx:Loc X.env.scope x:=by first | exact Or.inl rfl | exact Or.inr rfl)(hs:swapsWith e (some (.Name x pos')) pos.line X.env=pure false:=by rfl)
 (hf:X.fn x=true\/X.env.scope.names.lookup x=some .local:=by first | exact .inl rfl | exact .inr rfl):MS X (.Assign [.Name x pos'] e pos) (sSet i f):=PS.imp (Yit hN hi hx he hs hf) fun _ _ _ h=>Yrd h
theorem Yrg(i:Nat){x:Str}(hN:X.N.Nodup)(he:MF X e gl)(hi:X.N[i]?=some x:=by rfl)(hx:Loc X.env.scope x:=by first | exact Or.inl rfl | exact Or.inr rfl)(hs:swapsWith e (some (.Name x pos')) pos.line X.env=pure false:=by rfl)
 (hf:X.fn x=true\/X.env.scope.names.lookup x=some .local:=by first | exact .inl rfl | exact .inr rfl):MS X (.Assign [.Name x pos'] e pos) (sOwn i gl):=PS.imp (Yit hN hi hx he hs hf) fun _ _ _ h=>Yre h
def sRet(f:Ro->Option D):Ro->Option Out:=fun ρ=>(f ρ).map .rt
theorem Yrh(he:ME X e f):MS X (.Return (some e) pos) (sRet f):=PS.imp (Yng he) fun F σ H hx_=>by
 obtain⟨ρ,out,H0,G0,G,e,s,h⟩:=hx_
 obtain⟨d,h1,rfl⟩:=qc e
 exact tOf.at h1 s fun v H1 G1 g1 r1 s1=>h v H1 G1 s1.gr r1
def sIf(c:Ro->Option Bool)(f g:Ro->Option Out):Ro->Option Out:=fun ρ=>(c ρ).bind fun k=>if k=true then f ρ else g ρ
theorem Ys0{c:Expr}{a b:List Stmt}{fc:Ro->Option Bool}(hc:MT X c fc)(ha:MB X a fs)(hb:MB X b gs):MS X (.If c a b pos) (sIf fc fs gs):=PS.imp (Yp5 hc ha hb) fun F σ H hx_=>by
 obtain⟨ρ,out,H0,G0,G,e,s,h⟩:=hx_
 unfold sIf at e
 obtain⟨k,h1,e⟩:=qa e
 refine tTof.at h1 s fun H1 G1 g1 s1=>?_
 cases k with
 | true=>
   rw[if_pos rfl]at e ⊢
   exact⟨ρ,out,H0,G0,G1,e,s1,h⟩
 | false=>
   rw[if_neg qi]at e ⊢
   exact⟨ρ,out,H0,G0,G1,e,s1,h⟩
def sMut(i:Nat)(f:Ro->Option D)(g:List D->D->Option (List D)):Ro->Option Out:=fun ρ=>(getO i ρ).bind fun l=>(f ρ).bind fun d=>(g l d).map fun l'=>.nx (ρ.set i (some (.ow l')))
theorem Yiz{H0 G0 H G:Hp}{σ:L2.St}{ρ:Ro}{i:Nat}{l:List D}(s:SR K H0 G0 σ H G ρ)(h:getO i ρ=some l):∃a xs,σ[i]?=some (some (V.ref a))/\H a=some (.lst xs)/\RpL K G l xs/\G a=none:=by
 obtain⟨a,xs,h1,h2,h3,h4,h5⟩:=s.ow i l (Yd4 h)
 exact⟨a,xs,h1,h4,h5,h2⟩
def appD(l:List D)(d:D):Option (List D):=if l.length < cap6 then some (l++[d])else none
theorem Ykm(i:Nat){x:Str}{p2 apos cpos:Pos}(he:ME X e f)(hN:X.N[i]?=some x:=by rfl)(hv:Vis X.env.scope x:=by first | exact Or.inl rfl | exact Or.inr (Or.inl rfl) | exact Or.inr (Or.inr rfl))
 (hd:(x==("__debug__":Str))=false:=by decide) (hcd:(x==("__classdict__":Str))=false:=by decide) (hse:swapsWith (.Call (.Attribute (.Name x p2) "append" apos) [e] [] cpos) none pos.line X.env=pure false:=by rfl)
 (hs:starEach [e] X.env=[(false,eval e X.env)]:=by rfl)
 (hfew:((backTo cpos (starEach [e] X.env)).all (fun x=>!x.1)&&(backToKw cpos (keywordEach [] X.env)).all (fun x=>x.1.isSome)&&decide ([e].length+([]:List Keyword).length+(if ([]:List Keyword).isEmpty then 0 else 1) < 30))=true:=by rfl)
 (hline:(apos.endLine==cpos.line)=true:=by rfl) (hbase:attributeBase (.Name x p2) "append" X.env (eval (.Name x p2) X.env)=eval (.Name x p2) X.env:=by rfl) :
 MS X (.Expr (.Call (.Attribute (.Name x p2) "append" apos) [e] [] cpos) pos) (sMut i f appD):=
 PS.imp (Yhy (Ymc PySem.F.plainAttrs_list PySem.F.slot_list_append PySem.F.type_list_append Yfg (Yfa hN hv hd hcd) (Yb7 he Yer hs) hbase hfew hline hs rfl) hse) fun F σ H hx_=>by
  obtain⟨ρ,out,H0,G0,G,e,s,h⟩:=hx_
  unfold sMut at e
  obtain⟨l,h1,e⟩:=qa e
  obtain⟨d,h2,e⟩:=qa e
  obtain⟨l',h3,rfl⟩:=qc e
  unfold appD at h3
  split at h3
  ·rename_i hl
   cases h3
   obtain⟨a,xs,ha,hH,hr,hG⟩:=Yiz s h1
   refine⟨_,ha,.inl ⟨rfl,xs,SqL.of hH⟩,tOf.at h2 s fun v H1 G1 g1 r1 s1=>?_⟩
   refine⟨a,xs,v,rfl,rfl,g1.h _ _ hH,?_,h σ _ G1 (s1.mut (Yd4 h1) ha ((hr.mono g1.g).append (.one r1)))⟩
   rw[hr.length]
   exact qz hl (Yb9 (qt _))
  ·cases h3
theorem Ymk{J:It}{G':Hp}{ds:List D}(hz:ds.length<=sizeLine)(h:∀(i:Nat) H2 G2,Same G' G2->Same G2 H2->(∀d,ds[i]?=some d->J.go i H2/\∀y H3,J.yld i H2 y H3->H3=H2/\Rp K G2 d y)/\(ds.length<=i->J.stop i H2)):Wk K J G' ds:=
 ⟨hz,fun i H2 G2 s1 s2=>⟨fun d hd=>⟨((h i H2 G2 s1 s2).1 d hd).1,fun y H3 q=>by
  obtain⟨rfl,r⟩:=((h i H2 G2 s1 s2).1 d hd).2 y H3 q
  exact⟨G2,.refl s2,r⟩⟩,(h i H2 G2 s1 s2).2⟩⟩
variable {tg:Expr}
def iSeq(K:W.Frag)(tl:TE):TI:=fun σ H R=>tl σ H fun x H1=>∃a xs,x=.ref a/\((SqL K H1 a xs/\(xs.length<=sizeLine->R (Itl K a) H1))\/(SqT K H1 a xs/\(xs.length<=sizeLine->R (Itt K a) H1)))
theorem Yri{l:Expr}{tl:TE}(hl:PE X l tl):PI X tg l (iSeq X.K tl):=by
 intro pins s σ H R I h
 refine thn (hl pins s σ H _ I h) fun v s1 hx_=>?_
 obtain⟨x,H1,I1,r1,q1⟩:=hx_
 obtain⟨a,xs,e,q1⟩:=q1
 subst e
 cases r1
 rcases q1 with⟨hq,q⟩ | ⟨hq,q⟩
 ·obtain⟨its,rv,p,hz⟩:=I1.list hq
  refine wpAny_pyIter_list p.isList ?_
  refine⟨s1.heap.objs.size,[s1.heap.objs.size],_,_,H1,rfl,I1.kept (t':=s1.toks) fun b o e=>qe _ e,Yjz a _,⟨_,qo _ rfl,rfl,rfl⟩,fun b hb=>?_,q hz⟩
  have e:b=s1.heap.objs.size:=by simpa using hb
  subst e
  exact I1.fpOk (qt _) (I1.hok.fresh (qt _))
 ·obtain⟨its,rv,p,hz⟩:=I1.tuple hq
  refine wpAny_pyIter_tuple (show s1.heap.IsTuple a its.toArray from p) ?_
  refine⟨s1.heap.objs.size,[s1.heap.objs.size],_,_,H1,rfl,I1.kept (t':=s1.toks) fun b o e=>qe _ e,Yi9 a _,⟨_,qo _ rfl,rfl,rfl⟩,fun b hb=>?_,q hz⟩
  have e:b=s1.heap.objs.size:=by simpa using hb
  subst e
  exact I1.fpOk (qt _) (I1.hok.fresh (qt _))
theorem Yrj{l:Expr}(hl:ME X l f):MI X tg l (b1 f Yau):=PI.imp (Yri hl) fun σ H R hx_=>by
 obtain⟨ρ,ds,H0,G0,G,e,s,h⟩:=hx_
 obtain⟨c,h1,h2⟩:=Yb8 e
 refine tOf.at h1 s fun v H1 G1 g1 r1 s1=>?_
 rcases Ybs h2 with rfl | rfl | ⟨ns,rfl,rfl⟩
 ·rw[Rp]at r1
  obtain⟨p,xs,rfl,g,rl⟩:=r1
  refine⟨p,xs,rfl,.inr ⟨.inl (.inl (s1.seen _ _ g)),fun hz=>h _ H1 G1 g1 (Ymk (by rw[<-rl.length];exact hz) fun i H2 G2 e1 e2=>⟨fun d hd=>?_,fun hi=>⟨xs,.inl (.inl (e2 _ _ (e1 _ _ g))),by rw[rl.length];exact hi⟩⟩)⟩⟩
  obtain⟨x,hx,rx⟩:=rl.get hd
  refine⟨⟨xs,x,.inl (.inl (e2 _ _ (e1 _ _ g))),hx⟩,fun y H3 q=>⟨q.1,?_⟩⟩
  have:=q.2 xs (.inl (.inl (e2 _ _ (e1 _ _ g))))
  rw[hx]at this
  cases this
  exact rx.mono e1
 ·rw[Rp]at r1
  obtain⟨p,xs,rfl,g,rl⟩:=r1
  refine⟨p,xs,rfl,.inl ⟨.inl (Ybv s1.seen g),fun hz=>h _ H1 G1 g1 (Ymk (by rw[<-rl.length];exact hz) fun i H2 G2 e1 e2=>⟨fun d hd=>?_,fun hi=>⟨xs,.inl (Ybv e2 (Ybv e1 g)),by rw[rl.length];exact hi⟩⟩)⟩⟩
  obtain⟨x,hx,rx⟩:=rl.get hd
  refine⟨⟨xs,x,.inl (Ybv e2 (Ybv e1 g)),hx⟩,fun y H3 q=>⟨q.1,?_⟩⟩
  have:=q.2 xs (.inl (Ybv e2 (Ybv e1 g)))
  rw[hx]at this
  cases this
  exact rx.mono e1
 ·rw[Rp]at r1
  obtain⟨p,rfl,g⟩:=r1
  have rl:RpL X.K G1 (ns.map D.int) (ns.map V.int):=.ints ns
  refine⟨p,_,rfl,.inl ⟨s1.seen.seq g,fun hz=>h _ H1 G1 g1 (Ymk (by rw[<-rl.length];exact hz) fun i H2 G2 e1 e2=>⟨fun d hd=>?_,fun hi=>⟨_,e2.seq (e1.seq g),by rw[rl.length];exact hi⟩⟩)⟩⟩
  obtain⟨x,hx,rx⟩:=rl.get hd
  refine⟨⟨_,x,e2.seq (e1.seq g),hx⟩,fun y H3 q=>⟨q.1,?_⟩⟩
  have:=q.2 _ (e2.seq (e1.seq g))
  rw[hx]at this
  cases this
  exact rx.mono e1
def rngD(a n:Int):List D:=(List.range (n - a).toNat).map fun i=>.int (a+(i:Nat))
theorem Yfm(a n:Int):(rngD a n).length=(n - a).toNat:=by simp[rngD]
theorem Ykn{a n:Int}{G':Hp}(hz:(n - a).toNat<=sizeLine):Wk K (Itr a (n - a).toNat) G' (rngD a n):=
 Ymk (by rw[Yfm];exact hz) fun i H2 G2 _ _=>⟨fun d hd=>by
  unfold rngD at hd
  rw[Qa]at hd
  obtain⟨j,h1,rfl⟩:=qc hd
  have hj:i < (n - a).toNat:=by
   have:=(qm h1).1
   simpa using this
  rw[List.getElem?_range hj]at h1
  cases h1
  exact⟨hj,fun y H3 q=>⟨q.1,by rw[Rp];exact q.2⟩⟩,fun hi=>by rw[Yfm]at hi;exact hi⟩
def rng1:List D->Option (List D)
 | [.int n]=>if decide (-(cap6:Int)<=n)&&decide (n<=cap6)then some (rngD 0 n)else none
 | _=>none
theorem Yfn{l ds:List D}(h:rng1 l=some ds):∃n:Int,l=[.int n]/\-1000000<=n/\n<=1000000/\ds=rngD 0 n:=by
 unfold rng1 at h
 split at h
 ·rename_i n
  split at h
  ·rename_i hc
   cases h
   simp only[Bool.and_eq_true,decide_eq_true_eq]at hc
   have hcap:(cap6:Int)=1000000:=by decide
   exact⟨n,rfl,by lia,by lia,rfl⟩
  ·cases h
 ·cases h
theorem Yko{a:Expr}{ga:Ro->Option (List D)}{p:Pos}(hg:Gl X "range")(hm:X.mg "range"=none)(ha:MA X [a] ga)(hs:starEach [a] X.env=[(false,eval a X.env)]:=by rfl):MI X tg (.Call (.Name "range" p) [a] [] pos) (cF ga rng1):=
 PI.imp (Yfc hg hm ha hs) fun σ H R hx_=>by
  obtain⟨ρ,ds,H0,G0,G,e,s,h⟩:=hx_
  unfold cF at e
  obtain⟨l,h1,h2⟩:=qa e
  refine tAof.at h1 s fun vs H1 G1 g1 r1 s1=>?_
  obtain⟨n,rfl,c1,c2,rfl⟩:=Yfn h2
  obtain⟨v,rfl,rv⟩:=Yfl r1
  rw[Rp]at rv
  subst rv
  refine⟨n,rfl,by lia,by lia,?_⟩
  have:=h (Itr 0 (n - 0).toNat) H1 G1 g1 (Ykn (Yb9 (by unfold cap6;lia)))
  simpa using this
def gSet(i:Nat):D->Ro->Option Ro:=fun d ρ=>some (ρ.set i (some (.sh d)))
theorem Yos(i:Nat){x:Str}(hN:X.N.Nodup)(hi:X.N[i]?=some x:=by rfl)(hx:Loc X.env.scope x:=by first | exact Or.inl rfl | exact Or.inr rfl)(hf:X.fn x=true\/X.env.scope.names.lookup x=some .local:=by first | exact .inl rfl | exact .inr rfl):MG X (.Name x pos) (gSet i):=
 PG.imp (Yhz hN hi hx hf) fun v σ H Q hx_=>by
  obtain⟨d,ρ,ρ',H0,G0,G,e,s,r,h⟩:=hx_
  cases e
  exact h _ (s.set_sh i r)
def Yml(i j:Nat):D->Ro->Option Ro:=fun d ρ=>match d with
 | .tup [a,b]=>some ((ρ.set i (some (.sh a))).set j (some (.sh b)))
 | _=>none
theorem Yot(i j:Nat){x y:Str}{px py:Pos}{k:Nat}(hc:X.calm=true)(hN:X.N.Nodup)(hi:X.N[i]?=some x:=by rfl)(hj:X.N[j]?=some y:=by rfl)(hx:Loc X.env.scope x:=by first | exact Or.inl rfl | exact Or.inr rfl)(hy:Loc X.env.scope y:=by first | exact Or.inl rfl | exact Or.inr rfl)
 (hf:X.fn x=true\/X.env.scope.names.lookup x=some .local:=by first | exact .inl rfl | exact .inr rfl) (hf2:X.fn y=true\/X.env.scope.names.lookup y=some .local:=by first | exact .inl rfl | exact .inr rfl):MG X (.Tuple [.Name x px,.Name y py] k pos) (Yml i j):=
 PG.imp (Yp6 (n:=2) hc (Yis (Yhz hN hi hx hf) (Yis (Yhz hN hj hy hf2) Yn7))) fun v σ H Q hx_=>by
  obtain⟨d,ρ,ρ',H0,G0,G,e,s,r,h⟩:=hx_
  match d,e,r with
  | .tup [a,b],e,r=>
    cases e
    rw[Rp]at r
    obtain⟨p,xs,rfl,g,rl⟩:=r
    rw[RpL]at rl
    obtain⟨u,us,rfl,ru,rl⟩:=rl
    obtain⟨w,rfl,rw'⟩:=Yfl rl
    exact⟨p,[u,w],rfl,.inl (.inl (s.seen _ _ g)),rfl,u,[w],rfl,w,[],rfl,rfl,h _ ((s.set_sh i ru).set_sh j rw')⟩
def forM(gt:D->Ro->Option Ro)(fb:Ro->Option Out):List D->Ro->Option Out
 | [],ρ=>some (.nx ρ)
 | d::ds,ρ=>(gt d ρ).bind fun ρ1=>(fb ρ1).bind fun
   | .nx ρ2=>forM gt fb ds ρ2
   | .ct ρ2=>forM gt fb ds ρ2
   | .bk ρ2=>some (.nx ρ2)
   | .rt d=>some (.rt d)
def sFor(gl:Ro->Option (List D))(gt:D->Ro->Option Ro)(fb:Ro->Option Out):Ro->Option Out:=fun ρ=>(gl ρ).bind fun ds=>forM gt fb ds ρ
theorem Ydh{gt:D->Ro->Option Ro}{fb:Ro->Option Out}:∀(ds:List D) (ρ:Ro) (out:Out),forM gt fb ds ρ=some out->(∃ρ',out=.nx ρ')\/∃d,out=.rt d
 | [],ρ,out,h=>by cases h;exact .inl ⟨_,rfl⟩
 | d::ds,ρ,out,h=>by
   rw[forM]at h
   obtain⟨ρ1,h1,h⟩:=qa h
   obtain⟨o,h2,h⟩:=qa h
   cases o with
   | nx ρ2=>exact Ydh ds ρ2 out h
   | ct ρ2=>exact Ydh ds ρ2 out h
   | bk ρ2=>cases h;exact .inl ⟨_,rfl⟩
   | rt d=>cases h;exact .inr ⟨_,rfl⟩
theorem Yrk{iter:Expr}{body:List Stmt}{gt:D->Ro->Option Ro}(hp:PassesOwn (model X.prog X.w) X.A X.env X.xe)(hc:X.calm=true)(hi:MI X tg iter gl)(hg:MG X tg gt)(hb:MB X body fs)
 (hs:∀x,foldedSetIterable iter X.env x=pure x:=by intro _;rfl):MS X (.For tg iter body [] pos) (sFor gl gt fs):=
 PS.imp (Yj1 hp hc hi hg hb hs) fun F σ H hx_=>by
  obtain⟨ρ,out,H0,G0,G,e,s,h⟩:=hx_
  unfold sFor at e
  obtain⟨ds,h1,h2⟩:=qa e
  refine⟨ρ,ds,H0,G0,G,h1,s,fun J H1 G1 g1 wk=>?_⟩
  obtain⟨Hb,sb,back⟩:=(s.grow g1).rebase
  have hout:=Ydh ds ρ out h2
  refine⟨fun i m σ' H'=>m=ds.length - i/\i<=ds.length/\∃ρ' G',SR X.K Hb G1 σ' H' G' ρ'/\forM gt fs (ds.drop i) ρ'=some out,⟨_,rfl,Nat.zero_le _,ρ,G1,sb,h2⟩,?_⟩
  rintro i m σ' H' ⟨rfl,hi,ρ',G',s',e'⟩
  have W:=wk.2 i H' G' s'.gr.g s'.seen
  by_cases hlt:i < ds.length
  ·have hd:ds[i]?=some ds[i]:=qp hlt
   obtain⟨go,yl⟩:=W.1 _ hd
   rw[List.drop_eq_getElem_cons hlt,forM]at e'
   obtain⟨ρ1,e1,e'⟩:=qa e'
   obtain⟨o,e2,e'⟩:=qa e'
   refine .inr ⟨go,fun σ' H'=>i+1<=ds.length/\∃ρ' G',SR X.K Hb G1 σ' H' G' ρ'/\forM gt fs (ds.drop (i+1)) ρ'=some out,fun σ2 H2 q=>⟨ds.length - (i+1),by lia,rfl,q.1,q.2⟩,fun x H2 y=>?_⟩
   obtain⟨G2,g2,r2⟩:=yl x H2 y
   refine⟨_,ρ',ρ1,Hb,G1,G2,e1,s'.grow g2,r2,fun σ3 s3=>?_⟩
   refine⟨ρ1,o,Hb,G1,G2,e2,s3,?_⟩
   cases o with
   | nx ρ2=>exact fun σ4 H4 G4 s4=>⟨hlt,ρ2,G4,s4,e'⟩
   | ct ρ2=>exact fun σ4 H4 G4 s4=>⟨hlt,ρ2,G4,s4,e'⟩
   | bk ρ2=>
     cases e'
     exact fun σ4 H4 G4 s4=>h σ4 H4 G4 (back _ _ _ _ s4)
   | rt d=>
     cases e'
     refine fun v H4 G4 g4 r4=>h v H4 G4 ?_ r4
     have:=(back [] H4 G4 [] (SR.mkSh g4 rfl (fun i d e=>(by simp at e)) (fun i l e=>(by simp at e)) (fun i t ks vs e=>(by simp at e)))).gr
     exact this
  ·have ei:i=ds.length:=by lia
   subst ei
   rw[List.drop_length,forM]at e'
   cases e'
   exact .inl ⟨W.2 (qt _),h σ' H' G' (back _ _ _ _ s')⟩
def capR(src:List (Option Nat))(ρ:Ro):Ro:=src.map fun o=>o.bind fun j=>match ρ[j]? with
 | some (some (B.sh d))=>some (.sh d)
 | _=>none
theorem SR.cap{H0 G0 H G:Hp}{σ:L2.St}{ρ:Ro}(s:SR K H0 G0 σ H G ρ)(src:List (Option Nat)):SR K H G (capσ src σ) H G (capR src ρ):=by
 have noow:∀(i:Nat) l,(capR src ρ)[i]?≠some (some (B.ow l)):=fun i l h=>by
  unfold capR at h
  rw[Qa]at h
  obtain⟨o,h1,h2⟩:=qc h
  obtain⟨j,rfl,h3⟩:=qa h2
  split at h3<;>cases h3
 have nood:∀(i:Nat) t ks vs,(capR src ρ)[i]?≠some (some (B.od t ks vs)):=fun i t ks vs h=>by
  unfold capR at h
  rw[Qa]at h
  obtain⟨o,h1,h2⟩:=qc h
  obtain⟨j,rfl,h3⟩:=qa h2
  split at h3<;>cases h3
 refine SR.mkSh (.refl s.seen) (by simp[capσ,capR]) (fun i d h=>?_) noow nood
 unfold capR at h
 rw[Qa]at h
 obtain⟨o,h1,h2⟩:=qc h
 obtain⟨j,rfl,h3⟩:=qa h2
 split at h3
 ·rename_i d' hd
  cases h3
  obtain⟨v,q1,q2⟩:=s.sh j _ hd
  refine⟨v,?_,q2⟩
  unfold capσ
  rw[Qa,h1]
  show some ((σ[j]?).join)=some (some v)
  rw[q1]
  rfl
 ·cases h3
def Yf3(gt:D->Ro->Option Ro)(fc:Ro->Option Bool)(fe:Ro->Option D)(ρ:Ro):List D->Option (List D)
 | []=>some []
 | d::ds=>(gt d ρ).bind fun ρ1=>(fc ρ1).bind fun k=>if k=true then (fe ρ1).bind fun v=>(Yf3 gt fc fe ρ ds).map (v::·)else Yf3 gt fc fe ρ ds
def Yhe(gl:Ro->Option (List D))(src:List (Option Nat))(gt:D->Ro->Option Ro)(fc:Ro->Option Bool)(fe:Ro->Option D):Ro->Option (List D):=fun ρ=>(gl ρ).bind fun ds=>Yf3 gt fc fe (capR src ρ) ds
def tY:Ro->Option Bool:=fun _=>some true
theorem You{σ:L2.St}{H:Hp}{Q:Bool->Hp->Prop}(h:tTof K tY σ H Q):tYes σ H Q:=by
 obtain⟨ρ,k,H0,G0,G,e,s,h⟩:=h
 cases e
 exact h H G (.refl s.seen)
theorem Ynr:PIfs X [] (tTof X.K tY):=fun pins s σ H Q I h=>Yoj pins s σ H Q I (You h)
theorem Ygn{src:List (Option Nat)}{i:Nat}(h:src[i]?=some none):∀ρ d ρ1,gSet i d (capR src ρ)=some ρ1->Le (capR src ρ) ρ1:=fun ρ d ρ1 e=>by
 cases e
 refine⟨by simp,fun j b hb=>?_⟩
 by_cases hj:j=i
 ·subst hj
  unfold capR at hb
  rw[Qa,h]at hb
  cases hb
 ·rw[qx (Ne.symm hj)];exact hb
theorem Yov{src:List (Option Nat)}{gt:D->Ro->Option Ro}{fc:Ro->Option Bool}{fe:Ro->Option D}(hle:∀ρ d ρ1,gt d (capR src ρ)=some ρ1->Le (capR src ρ) ρ1){σ:L2.St}{H:Hp}{Q:VK}
 (h:tFof K (Yhe gl src gt fc fe) σ H Q):tLC (tIof K gl) src (gOf K gt) (tTof K fc) (tOf K fe) σ H Q:=by
 obtain⟨ρ,l,H0,G0,G,e,s,h⟩:=h
 unfold Yhe at e
 obtain⟨ds,h1,h2⟩:=qa e
 refine⟨ρ,ds,H0,G0,G,h1,s,fun J H1 G1 g1 wk p hp=>?_⟩
 have s1:=s.grow g1
 have sc:=s1.cap src
 have gp:G1 p=none:=s1.seen.free hp
 refine⟨fun i m σ' H'=>m=ds.length - i/\i<=ds.length/\∃G' done xs rest,SR K H1 G1 σ' H' G' (capR src ρ)/\H' p=some (.lst xs)/\G' p=none/\RpL K G' done xs/\xs.length<=i/\Yf3 gt fc fe (capR src ρ) (ds.drop i)=some rest/\done++rest=l,
  ⟨_,rfl,Nat.zero_le _,G1,[],[],l,sc.grow (Gr.hid s1.seen hp _),Ym,gp,.nil,Nat.zero_le _,h2,rfl⟩,?_⟩
 rintro i m σ' H' ⟨rfl,hi,G',done,xs,rest,s',hx,gx,rx,hl,e',hd⟩
 have W:=wk.2 i H' G' s'.gr.g s'.seen
 by_cases hlt:i < ds.length
 ·have hdi:ds[i]?=some ds[i]:=qp hlt
  obtain⟨go,yl⟩:=W.1 _ hdi
  rw[List.drop_eq_getElem_cons hlt,Yf3]at e'
  obtain⟨ρ1,e1,e'⟩:=qa e'
  obtain⟨k,e2,e'⟩:=qa e'
  refine .inr ⟨go,fun x H2 y=>?_⟩
  obtain⟨G2,g2,r2⟩:=yl x H2 y
  have keep:∀{Ha Ga Hb Gb:Hp},Gr Ha Ga Hb Gb->Ha p=some (.lst xs)->Ga p=none->Hb p=some (.lst xs)/\Gb p=none:=fun {Ha Ga Hb Gb} g e1 e2=>by
   refine⟨g.h _ _ e1,?_⟩
   cases q:Gb p with
   | none=>rfl
   | some o=>
     have:=g.n p e2 (by rw[q];exact fun z=>nomatch z)
     rw[e1]at this
     cases this
  obtain⟨hx2,gx2⟩:=keep g2 hx gx
  refine⟨_,capR src ρ,ρ1,H1,G1,G2,e1,s'.grow g2,r2,fun σ3 s3=>?_⟩
  refine tTof.at e2 s3 fun H4 G4 g4 s4=>?_
  obtain⟨hx4,gx4⟩:=keep g4 hx2 gx2
  have le:=hle ρ _ ρ1 e1
  cases k with
  | false=>
    rw[if_neg qi]at e' ⊢
    exact⟨ds.length - (i+1),by lia,rfl,hlt,G4,done,xs,rest,s4.le le,hx4,gx4,(rx.mono g2.g).mono g4.g,by lia,e',hd⟩
  | true=>
    rw[if_pos rfl]at e' ⊢
    obtain⟨v,e3,e'⟩:=qa e'
    obtain⟨rest',e4,rfl⟩:=qc e'
    refine tOf.at e3 s4 fun w H5 G5 g5 r5 s5=>?_
    obtain⟨hx5,gx5⟩:=keep g5 hx4 gx4
    have hz:=wk.1
    refine⟨xs,hx5,by lia,ds.length - (i+1),by lia,rfl,hlt,G5,done++[v],xs++[w],rest',?_,Ym,gx5,(((rx.mono g2.g).mono g4.g).mono g5.g).append (.one r5),by simp;lia,e4,by simpa using hd⟩
    have s6:=s5.le le
    have noow:∀(i:Nat) l,(capR src ρ)[i]?≠some (some (B.ow l)):=fun i l h=>by
     unfold capR at h
     rw[Qa]at h
     obtain⟨o,h1,h2⟩:=qc h
     obtain⟨j,rfl,h3⟩:=qa h2
     split at h3<;>cases h3
    have nood:∀(i:Nat) t ks vs,(capR src ρ)[i]?≠some (some (B.od t ks vs)):=fun i t ks vs h=>by
     unfold capR at h
     rw[Qa]at h
     obtain⟨o,h1,h2⟩:=qc h
     obtain⟨j,rfl,h3⟩:=qa h2
     split at h3<;>cases h3
    refine SR.mkSh ⟨fun b o q=>?_,s6.gr.g,fun b o q=>?_,s6.gr.n⟩ s6.len s6.sh noow nood
    ·rw[Yj (Yn q hp)];exact s6.gr.h b o q
    ·rw[Yj (Yn q gx5)];exact s6.gr.s b o q
 ·have ei:i=ds.length:=by lia
  subst ei
  rw[List.drop_length,Yf3]at e'
  cases e'
  rw[List.append_nil]at hd
  subst hd
  exact .inl ⟨W.2 (qt _),h p xs H' G' (g1.trans s'.gr) (g1.h.free hp) gx hx rx⟩
section
variable {elt iter:Expr} {ifs:List Expr} {scope:Scope} {N:List Str} {src:List (Option Nat)} {gt:D->Ro->Option Ro} {fc:Ro->Option Bool} {fe:Ro->Option D}
theorem Yow(S:CompSc X.N X.env.scope N src scope)(hc:X.calm=true)(hit:MI X tg iter gl)(hg:∀cl C fp s H,MG (Yat X scope N cl C fp s H) tg gt)(hi:∀cl C fp s H,PIfs (Yat X scope N cl C fp s H) ifs (tTof X.K fc))(he:∀cl C fp s H,ME (Yat X scope N cl C fp s H) elt fe)
 (hle:∀ρ d ρ1,gt d (capR src ρ)=some ρ1->Le (capR src ρ) ρ1) (hs:∀x,foldedSetIterable iter X.env x=pure x:=by intro _;rfl):MF X (.ListComp elt [⟨tg,iter,ifs,0⟩] scope pos) (Yhe gl src gt fc fe):=
 PE.imp (Ykd S hc hit hg hi he hs) fun _ _ _ h=>Yov hle h
end
def Yr(n:Nat)(ds:List D):Ro:=ds.map (fun d=>some (.sh d))++List.replicate (n - ds.length) none
def runB(k n:Nat)(fb:Ro->Option Out)(ds:List D):Option D:=if ds.length=k then (fb (Yr n ds)).bind fun
 | .rt d=>some d
 | .nx _=>some .non
 | _=>none
 else none
theorem SR.start{H G:Hp}{ds:List D}{vs:List V}{N:List Str}(s:Same G H)(r:RpL K G ds vs):SR K H G (start N vs) H G (Yr N.length ds):=by
 have hl:=r.length
 have noow:∀(i:Nat) l,(Yr N.length ds)[i]?≠some (some (B.ow l)):=fun i l h=>by
  unfold Yr at h
  rw[List.getElem?_append]at h
  split at h
  ·rw[Qa]at h
   obtain⟨d,_,h2⟩:=qc h
   cases h2
  ·rw[List.getElem?_replicate]at h
   split at h<;>cases h
 have nood:∀(i:Nat) t ks vs,(Yr N.length ds)[i]?≠some (some (B.od t ks vs)):=fun i t ks vs h=>by
  unfold Yr at h
  rw[List.getElem?_append]at h
  split at h
  ·rw[Qa]at h
   obtain⟨d,_,h2⟩:=qc h
   cases h2
  ·rw[List.getElem?_replicate]at h
   split at h<;>cases h
 refine SR.mkSh (.refl s) (by simp[L2.start,Yr,hl]) (fun i d h=>?_) noow nood
 unfold Yr at h
 rw[List.getElem?_append]at h
 split at h
 ·rename_i hi
  rw[Qa]at h
  obtain⟨d',h1,h2⟩:=qc h
  cases h2
  obtain⟨v,h3,h4⟩:=r.get h1
  refine⟨v,?_,h4⟩
  unfold L2.start
  rw[List.getElem?_append_left (by rw[qf,hl];simpa using hi),Qa,h3]
  rfl
 ·rw[List.getElem?_replicate]at h
  split at h<;>cases h
section
variable {P:Program} {w:World} {mg:Str->Option Value} {base:Heap}
theorem Ykp{x qual:Str}{st:Stmt}{f:Addr}{fd:FuncData}{N ps:List Str}{k n m:Nat}{fb:Ro->Option Out}(F:Fun K x qual st f fd)(S:FnScope N ps (defScope st))(hn:N.length=n)(hm:ps.length=m)
 (hb:∀(cdv:Value) (A:Around) (outer:List Env) (s:Shared) (H:Hp) (E:XK),Room k (A.deeper (envOfC qual (defScope st) s.heap.objs.size f cdv))->MB (cxOf CX0 P w K mg base N qual (defScope st) f cdv A outer s H E).nox (defBody st) fb) :
 FnOk P w K mg base CX0 (k+1) f fd ps (spOf K m (runB m n fb)):=by
 refine F.ok S (fun vs H Q E h=>by rw[h.1,hm]) fun cdv A outer s H vs Q E hr h=>?_
 obtain⟨hl,ds,d,G,sm,r,e,q⟩:=h
 refine⟨_,hb cdv A outer s H E hr,?_⟩
 unfold runB at e
 split at e
 ·rename_i hds
  obtain⟨o,h1,h2⟩:=qa e
  refine⟨Yr n ds,o,H,G,G,h1,by rw[<-hn];exact SR.start sm r,?_⟩
  cases o with
  | rt d'=>cases h2;exact fun v H' G' g r'=>q v H' G' g r'
  | nx ρ=>cases h2;exact fun σ' H' G' s'=>q .non H' G' s'.gr (by rw[Rp])
  | bk ρ=>cases h2
  | ct ρ=>cases h2
 ·cases e
end
end
end
section
variable {K:W.Frag}
def Okf(P:Program)(w:World)(K:W.Frag)(mg:Str->Option Value)(base:Heap)(k n:Nat)(x:Str)(ps:List Str)(fn:List D->Option D):Prop:=
 ∃a fd,FnOk P w K mg base CX0 k a fd ps (spOf K n fn)/\Binds K fd ps []/\W.keepIn K (.ref a)=true/\mg x=some (.ref a)
theorem Yrl{P:Program}{w:World}{K:W.Frag}{mg:Str->Option Value}{base:Heap}{k n:Nat}{x q:Str}{ps:List Str}{fn:List D->Option D}{st:Stmt}{a:Addr}{fd:FuncData}(F:Fun K x q st a fd)(b:Binds K fd ps [])
 (hm:mg x=some (.ref a)) (h:FnOk P w K mg base CX0 k a fd ps (spOf K n fn)):Okf P w K mg base k n x ps fn:=⟨a,fd,h,b,F.kp,hm⟩
section
variable {X:Cx} {a b e:Expr} {es:List Expr} {fa fb:Ro->Option D} {ga:Ro->Option (List D)} {pos:Pos}
theorem Ymm{j k n:Nat}{x:Str}{p:Pos}{ps:List Str}{fn:List D->Option D}(c:Okf X.prog X.w X.K X.mg X.base j n x ps fn)(hr:Room k X.A)(hg:Gl X x)(ha:MA X (e::es) ga)(hl:∀ρ l,ga ρ=some l->l.length=n)
 (hj:j<=k:=by first | exact qt _ | lia) (hdb:(x==("__debug__":Str))=false:=by decide) (he:starEach (e::es) X.env=(false,eval e X.env)::starEach es X.env:=by rfl) (hpl:(backTo pos (starEach es X.env)).any (·.1)=false:=by rfl) :
 ME X (.Call (.Name x p) (e::es) [] pos) (cC ga fn):=by
 obtain⟨a,fd,F,hb,hk,hm⟩:=c
 exact Yoq F (hr.mono hj) hg hm hk hb ha hdb he hpl hl
theorem Yrm(ha:MC X a fa)(hb:MC X b fb):ME X (.BinOp a .Add b pos) (b2 fa fb addI):=Yf9 Ynh Yh6 ha hb
def catD:D->D->Option (List D)
 | .lst a,.lst b=>if a.length+b.length<=cap6 then some (a++b)else none
 | _,_=>none
def Ys1:R2:=fun x y H Q=>∃l b xs zs,x=.ref l/\y=.ref b/\Rd H l (.lst xs)/\Rd H b (.lst zs)/\xs.length+zs.length<=sizeLine/\∀p,H p=none->Q (.ref p) (upd H p (.lst (xs++zs)))
theorem Yox:OpR X (binaryOp .Add) Ys1:=by
 intro pins s σ H x y v u Q I rx ry h
 obtain⟨l,b,xs,zs,rfl,rfl,hH,hB,hz,q⟩:=h
 cases rx
 cases ry
 obtain⟨z,its,n,r,e⟩:=hH.ok I.hok
 obtain⟨z2,its2,n2,r2,e2⟩:=hB.ok I.hok
 have hl:=r.length
 have hl2:=r2.length
 refine PySem.P.add_list e e2 ?_ (by rw[qj,qj];lia)
 have ea:its.toArray++its2.toArray=(its++its2).toArray:=by simp
 rw[ea]
 exact⟨.ref _,_,I.lnew (t':=s.toks) (r.append r2) (by rw[qv];lia),rfl,q _ I.fresh⟩
theorem Yrn(ha:MC X a fa)(hb:MC X b fb):MF X (.BinOp a .Add b pos) (b2 fa fb catD):=PE.imp (Yn9 Yox ha hb) fun σ H Q hx_=>by
 obtain⟨ρ,l,H0,G0,G,e,s,h⟩:=hx_
 obtain⟨dx,dy,h1,h2,h3⟩:=Ygm e
 refine tCof.at h1 s fun v H1 G1 g1 r1 s1=>tCof.at h2 s1 fun u H2 G2 g2 r2 s2=>?_
 unfold catD at h3
 split at h3
 ·rename_i l1 l2
  split at h3
  ·rename_i hz
   cases h3
   have r1':=r1.grow g2
   rw[Ct]at r1' r2
   obtain⟨p,xs,rfl,gp,rl⟩:=r1'
   obtain⟨q,zs,rfl,gq,rm⟩:=r2
   refine⟨p,q,xs,zs,rfl,rfl,gp,gq,by rw[rl.length,rm.length];exact Yb9 hz,fun m hm=>?_⟩
   exact h m _ _ G2 ((g1.trans g2).trans (.hid s2.seen hm _)) (g1.h.free (g2.h.free hm)) (s2.seen.free hm) Ym (rl.append rm)
  ·cases h3
 ·cases h3
def Yes:D->String
 | .non=>"NoneType"
 | .bl _=>"bool"
 | .int _=>"int"
 | .str _=>"str"
 | .tup _=>"tuple"
 | .lst _=>"list"
 | .scr _=>"list"
 | .dct _ _ _=>"dict"
 | .obj _ _ _=>"dict"
 | .adr _=>"dict"
def Yoy:D->Bool
 | .scr _=>false
 | .dct t _ _=>!t
 | .obj _ _ _=>false
 | .adr _=>false
 | _=>true
def isiD(T:String)(d:D):Option Bool:=if Yoy d=true then some (Yes d==T||(T=="int"&&Yes d=="bool"))else none
theorem Yoz{G H:Hp}{d:D}{v:V}(hn:Yoy d=true)(r:Ct K G H d v):TyOf K H v (.type (Yes d)):=by
 cases d<;>rw[Ct]at r
 ·subst r;exact .non
 ·subst r;exact .bl _
 ·subst r;exact .int _
 ·obtain⟨rfl,_⟩:=r;exact .str _
 ·obtain⟨a,xs,rfl,g,_⟩:=r;exact .tup g.1
 ·obtain⟨a,xs,rfl,g,_⟩:=r
  rcases g with g | ⟨o,g⟩
  ·exact .lst g
  ·exact .frz g
 ·cases hn
 ·rename_i t _ _
  cases t with
  | true=>cases hn
  | false=>
    obtain⟨a,_,_,rfl,g,_⟩:=r
    rcases g with⟨_,_,g,_⟩ | ⟨g,_⟩
    ·exact .dK g
    ·cases g
 ·cases hn
 ·cases hn
def Kit(T:String):Prop:=∀(K:W.Frag) (d:D),W.kitOne K (.type (Yes d)) (.type T)=some (Yes d==T||(T=="int"&&Yes d=="bool"))
theorem Yo0:Kit "str":=fun K d=>by cases d<;>rfl
theorem Ymn{T:String}(hk:Kit T):Yfd X (.builtin "isinstance") (fun xs H Q=>∃x d G,xs=[x,.ty T]/\Yoy d=true/\Ct X.K G H d x/\Q (.bl (Yes d==T||(T=="int"&&Yes d=="bool"))) H):=by
 intro pins s σ H xs us Q I r h
 obtain⟨x,d,G,rfl,hn,rx,q⟩:=h
 obtain⟨u,w',rfl,r1,r2⟩:=Yqe r
 cases (show w'=Value.type T from r2)
 exact Yj3 I r1 (Yoz hn rx) (hk X.K d) fun tk=>⟨.bl _,H,I.tok tk,rfl,q⟩
theorem Yro{T:String}{tn:Str}{p p2:Pos}(ha:MC X a fa)(hg:Gl X "isinstance")(hg2:Gl X tn)(hm:X.mg "isinstance"=none)(hm2:X.mg tn=none)(hv2:bootBuiltins tn=some (.type T))(hk:Kit T)(hv:bootBuiltins "isinstance"=some (.builtin "isinstance"):=by decide +kernel)
 (hn2:tn≠"__name__":=by decide) (hd2:(tn==("__debug__":Str))=false:=by decide)
 (hs:starEach [a,.Name tn p2] X.env=(false,eval a X.env)::starEach [.Name tn p2] X.env:=by rfl) (hs2:starEach [.Name tn p2] X.env=(false,eval (.Name tn p2) X.env)::starEach [] X.env:=by rfl) (hpl:(backTo pos (starEach [.Name tn p2] X.env)).any (·.1)=false:=by rfl) :
 ME X (.Call (.Name "isinstance" p) [a,.Name tn p2] [] pos) (mB (b1 fa (isiD T))):=
 PE.imp (Yiv (Ymn hk) hg hm hv (Yb7 ha (Yb7 (Yn6 hg2 hm2 hv2 (v:=.ty T) rfl hn2 hd2) Yer hs2) hs) (by decide) (by decide) hs hpl) fun σ H Q hx_=>by
  obtain⟨ρ,d,H0,G0,G,e,s,h⟩:=hx_
  obtain⟨k,ek,rfl⟩:=Ykf e
  obtain⟨x,h1,h2⟩:=Yb8 ek
  unfold isiD at h2
  split at h2
  ·cases h2
   exact tCof.at h1 s fun v H1 G1 g1 r1 s1=>⟨v,x,G1,rfl,by assumption,r1,h _ H1 G1 g1 (by rw[Rp])⟩
  ·cases h2
end
end
section
variable {K:W.Frag}
def Ydi:List D->Option (List Int)
 | []=>some []
 | .int i::l=>(Ydi l).map (i::·)
 | _=>none
theorem Yga:∀{l:List D} {ns:List Int},Ydi l=some ns->l=ns.map D.int
 | [],ns,h=>by cases h;rfl
 | .int i::l,ns,h=>by
   rw[Ydi]at h
   obtain⟨m,h1,rfl⟩:=qc h
   rw[Yga h1]
   rfl
 | .non::l,ns,h=>by simp[Ydi]at h
 | .bl _::l,ns,h=>by simp[Ydi]at h
 | .str _::l,ns,h=>by simp[Ydi]at h
 | .tup _::l,ns,h=>by simp[Ydi]at h
 | .lst _::l,ns,h=>by simp[Ydi]at h
 | .scr _::l,ns,h=>by simp[Ydi]at h
 | .dct _ _ _::l,ns,h=>by simp[Ydi]at h
 | .obj _ _ _::l,ns,h=>by simp[Ydi]at h
 | .adr _::l,ns,h=>by simp[Ydi]at h
theorem Yi0{G:Hp}:∀{ns:List Int} {xs:List V},RpL K G (ns.map D.int) xs->xs=ns.map V.int
 | [],xs,h=>by rw[List.map_nil,RpL]at h;exact h
 | n::ns,xs,h=>by
   rw[qy,RpL]at h
   obtain⟨x,r,rfl,h1,h2⟩:=h
   rw[Rp]at h1
   rw[h1,Yi0 h2]
   rfl
end
section
variable {K:W.Frag}
theorem Ymo{P:Program}{w:World}{mg:Str->Option Value}{base:Heap}{k n:Nat}{x q:Str}{ps:List Str}{st:Stmt}{a:Addr}{fd:FuncData}(F:Fun K x q st a fd)(b:Binds K fd ps [])(hm:mg x=some (.ref a))(hn:ps.length=n) :
 Okf P w K mg base k n x ps (fun _=>none):=by
 have no:∀vs H Q E,¬spOf K n (fun _=>none) vs H Q E:=fun vs H Q E h=>by
  obtain⟨_,ds,d,G,_,_,e,_⟩:=h
  cases e
 exact⟨a,fd,⟨fun vs H Q E h=>absurd h (no vs H Q E),fun A outer s H args us vs Q E _ _ _ _ h=>absurd h (no vs H Q E)⟩,b,F.kp,hm⟩
end
section
variable {K:W.Frag}
section
variable {prog:Program} {w:World} {A:Around} {E:Value->Shared->Prop} {s:Shared}
theorem Ybg{it t:Addr}{i:Nat}{items:Array Value}{x:Value}{Q:Value->Shared->Prop}(hit:s.heap.IsTupleIter it t i)
 (ht:s.heap.IsTuple t items) (hx:items[i]?=some x)
 (hQ:∀h',h'.IsTupleIter it t (i+1)->Heap.SameBut it s.heap h'->Q x { s with heap:=h' }) :
 wpAny (model prog w) A (Builtin.SmallTypes.nextOf (.ref it)) Q E s:=by
 obtain⟨o,ho,hc,hd⟩:=id hit
 obtain⟨ol,hol,_,nl,hdl⟩:=ht
 unfold Builtin.SmallTypes.nextOf
 refine wpAny_bind (wpAny_callSpecial?_slot (name:=Str.ofString "__next__") hit.typeIs F.slot_tuple_iterator_next
  (wpAny_call_entry F.slot_tuple_iterator_next hit.typeIs F.entry_tuple_iterator_next ?_ (F.args_tuple_iterator_next_1 _)))
 show wpAny _ _ (field (.ref it) 0 >>= _) _ _ s
 refine wpAny_bind (wpAny_field ho hd (x:=.ref t) rfl ?_)
 show wpAny _ _ (if (Value.ref t==Value.none)=true then _ else _) _ _ s
 rw[if_neg (show ¬((Value.ref t==Value.none)=true) from qi)]
 show wpAny _ _ (field (.ref it) 1 >>= _) _ _ s
 refine wpAny_bind (wpAny_field ho hd (x:=.int i 0) rfl ?_)
 show wpAny _ _ (seqItems? (.ref t) >>= _) _ _ s
 refine wpAny_bind (wpAny_seqItems hol hdl ?_)
 simp only[Int.toNat_natCast,hx]
 refine wpAny_bind (wpAny_setField ho hd (by simp) (wpAny_pure ⟨x,rfl,wpAny_pure (hQ _ ?_ (Heap.SameBut.update ..))⟩))
 exact⟨_,Heap.get?_update_self _ ho (Obj.isFreed_of_fields (Obj.data_mapFields hd _)),(Obj.cls_mapFields ..).trans hc,by
  rw[Obj.data_mapFields hd];simp[rawInt]⟩
theorem Ycp{it l:Addr}{i:Nat}{items:Array Value}{Q:Value->Shared->Prop}(hh:A.handled=none)
 (hit:s.heap.IsTupleIter it l i) (hl:s.heap.IsTuple l items) (hx:items[i]?=none)
 (hE:∀h' e,Heap.ExtBut it s.heap h'->(∃o,h'.get? e=some o/\o.cls=.type "StopIteration")->E (.ref e) { s with heap:=h' }) :
 wpAny (model prog w) A (Builtin.SmallTypes.nextOf (.ref it)) Q E s:=by
 obtain⟨o,ho,hc,hd⟩:=id hit
 obtain⟨ol,hol,_,nl,hdl⟩:=hl
 unfold Builtin.SmallTypes.nextOf
 refine wpAny_bind (wpAny_callSpecial?_slot (name:=Str.ofString "__next__") hit.typeIs F.slot_tuple_iterator_next
  (wpAny_call_entry F.slot_tuple_iterator_next hit.typeIs F.entry_tuple_iterator_next ?_ (F.args_tuple_iterator_next_1 _)))
 show wpAny _ _ (field (.ref it) 0 >>= _) _ _ s
 refine wpAny_bind (wpAny_field ho hd (x:=.ref l) rfl ?_)
 show wpAny _ _ (if (Value.ref l==Value.none)=true then _ else _) _ _ s
 rw[if_neg (show ¬((Value.ref l==Value.none)=true) from qi)]
 show wpAny _ _ (field (.ref it) 1 >>= _) _ _ s
 refine wpAny_bind (wpAny_field ho hd (x:=.int i 0) rfl ?_)
 show wpAny _ _ (seqItems? (.ref l) >>= _) _ _ s
 refine wpAny_bind (wpAny_seqItems hol hdl ?_)
 simp only[Int.toNat_natCast,hx]
 refine wpAny_bind (wpAny_rule (wpAny_bind (wpAny_setField ho hd (by simp) ?_)))
 show wpAny _ _ (newExc (.type "StopIteration") [] >>= _) _ _ _
 refine wpAny_bind ?_
 simp only[newExc,newTuple]
 refine wpAny_bind (wpAny_newObj_type ?_ (by size_fits))
 refine wpAny_bind (m:=firstArgMember _ _) (wpAny_of_eq (a:=Value.none) (by first | rfl | (simp only[firstArgMember];rfl)) ?_)
 refine wpAny_newObj_type ?_ (by size_fits)
 simp only[raiseNew]
 refine wpAny_bind (wpAny_handled ?_)
 first | rw[show A.in1.handled=none from hh] | rw[hh]
 refine wpAny_bind (wpAny_pure (wpAny_throw ?_))
 exact hE _ _ (((Heap.SameBut.update ..).extBut.push _).push _) ⟨_,qo _ rfl,rfl⟩
end
theorem Ygo{X:Cx}{pins:List (Addr × Obj)}{σ:L2.St}{H:Hp}{s:Shared}{h':Heap}{t':Nat}{ch:List Addr}{T:Addr}{o:HO}(I:Inv X pins σ H s)(hf:∀b∈ch,FpOk X pins H b)
 (k:∀b u,b∉ch->s.heap.get? b=some u->h'.get? b=some u) (hT:s.heap.objs.size<=T) (new:ObjOk X.prog X.w (upd H T o) h' T o):Inv X pins σ (upd H T o) { s with heap:=h',toks:=t' }:=by
 have fr:H T=none:=I.hok.fresh hT
 have nch:∀b u,H b=some u->b∉ch:=fun b u e z=>by rw[(hf b z).1]at e;cases e
 refine I.step (g':=s.gens) (d':=s.drawn) (ch:=ch) (fun b hb=>?_) (fun b u _ _ hc e _=>k b u hc e) (fun b u _ _ hc e _=>⟨u.slots,k b u hc e⟩) (fun b u _ e n=>?_)
  (fun b u hc e=>⟨u,k b u hc e⟩) (fun b xs e=>?_) (fun b u xs e=>?_) (fun b ps e=>⟨#[],?_⟩) (fun m hm=>?_) (fun b u e=>?_) I.bare
 ·obtain⟨_,f1,_,f3,f4,f5⟩:=hf b hb
  exact⟨f3,f1,f4,f5⟩
 ·rw[Yj (ql (qz (qk e) hT))];exact n
 ·rw[Yj (Yn e fr)];exact e
 ·rw[Yj (Yn e fr)];exact e
 ·rw[Yj (Yn e fr),e];simp
 ·obtain⟨ob,es,ep,ho,r⟩:=hm
  exact⟨ob,es,ep,k _ ob (fun z=>(hf _ z).2.1 rfl) ho,r⟩
 ·by_cases hb:b=T
  ·subst hb;rw[Ym]at e;cases e;exact new
  ·rw[Yj hb]at e
   refine(I.hok b u e).stay (fun c v hc q=>k c v ?_ q) (fun c q=>by rw[Yj (Yn q fr)];exact q) fun c xs q=>by rw[Yj (Yn q fr)];exact q
   rcases hc with z | z
   ·rw[z];exact nch b u e
   ·exact nch c _ z
end
section
variable {K:W.Frag}
end
section
open Sem (wp)
variable {K:W.Frag}
theorem Ykq:typeLookup (.type "list_reverseiterator") "__len__"=pure none:=by rw[typeLookup_type,builtinLookup_eq_fast];kernel_rfl
theorem Ymp:typeLookup (.type "list_reverseiterator") "__length_hint__"=pure (some (.builtin "list_reverseiterator.__length_hint__")):=by rw[typeLookup_type,builtinLookup_eq_fast];kernel_rfl
set_option maxRecDepth 100000 in
theorem Yji{prog:Program}{w:World}{A:Around}{s:Shared}{R:Result->Shared->Prop}{I:Addr}{fp wr:List Addr}{G:Array GenState->Array GenState->Prop}{n:Nat}{P:Nat->Value->Prop}{St:Nat->Shared->Prop}
 (W:WalksS prog w A.in1 I fp wr G n P St) (hT:∀i s,St i s->s.TypeIs (.ref I) "list_reverseiterator") (S:Addr) (res:Value) (c₀:Nat) (hst:St 0 s) (hSf:S∉fp) (hI:I∈fp)
 (hS:s.heap.get? S=some { cls:=.type "list",data:=.seq #[] c₀ })
 (hR:∀s' acc' c',Moved (S::wr) G s s'->s'.heap.get? S=some { cls:=.type "list",dict:=none,data:=.seq acc' c',slots:=#[] }->ItemsOf P acc' n->R (.ok (.ret res)) s') (hn:n<=sizeLine) :
 wpAny (model prog w) A.in1 (Builtin.List.listExtendWith (.ref S) (.ref I) res)
  (fun fin s'=>match fin with | .done f=>R (.ok f) s' | .again c'=>c'.quiet=true/\codeAny (model prog w) A c' R s') (fun e s'=>R (.error e) s') s:=by
 have hSI:S≠I:=fun e=>hSf (e ▸ hI)
 have h1:Builtin.List.listSameRef (.ref S) (.ref I)=false:=by simp[Builtin.List.listSameRef,hSI]
 unfold Builtin.List.listExtendWith
 refine wpAny_bind (wpAny_typeOf (hT 0 _ hst) ?_)
 rw[if_neg (by rw[h1];decide)]
 refine wpAny_bind (W.self 0 _ _ _ hst ?_)
 refine wpAny_bind (wpAny_holding ?_)
 unfold Builtin.List.listLengthHint
 refine wpAny_bind (wpAny_specialOf (hT 0 _ hst) Ykq ?_)
 show wpAny _ A.in1 (specialOf (Value.ref I) (Str.ofString "__length_hint__") >>= _) _ _ _
 refine wpAny_bind (wpAny_specialOf (hT 0 _ hst) Ymp ?_)
 (generalize hid:("list_reverseiterator.__length_hint__":String)=id0;(fail_if_success (clear hid id0));wp_delta;rw[show splitId id0=some ("list_reverseiterator","__length_hint__") from by subst hid;decide +kernel];subst hid)
 refine wpAny_bind (wpAny_isInstance (b:=true) (hT 0 _ hst) (by rw[isSubtype_type];kernel_rfl) ?_)
 refine wpAny_pure ?_
 rw[if_neg (by decide)]
 exact wpAny_pure ⟨plainId_quiet F.plain_extend_loop _,codeAny_extend_loopS W hn _ hSf _ n 0 _ _ _ rfl (Nat.zero_le _) hst hS (ItemsOf.nil P) hR⟩
theorem Ygp{prog:Program}{w:World}{A:Around}{s:Shared}{R:Result->Shared->Prop}{I:Addr}{fp wr:List Addr}{G:Array GenState->Array GenState->Prop}{n:Nat}{P:Nat->Value->Prop}{St:Nat->Shared->Prop}
 (W:WalksS prog w A.in1 I fp wr G n P St) (hT:∀i s,St i s->s.TypeIs (.ref I) "list_reverseiterator") (S:Addr) (hst:St 0 s) (hSf:S∉fp) (hI:I∈fp)
 (hS:s.heap.get? S=some { cls:=.type "list",data:=.seq #[] })
 (hR:∀s' acc' c',Moved (S::wr) G s s'->s'.heap.get? S=some { cls:=.type "list",dict:=none,data:=.seq acc' c',slots:=#[] }->ItemsOf P acc' n->R (.ok (.ret .none)) s') (hn:n<=sizeLine) :
 wpAny (model prog w) A.in1 (Builtin.«list.__init__» ⟨[.ref S,.ref I],[]⟩)
  (fun fin s'=>match fin with | .done f=>R (.ok f) s' | .again c'=>c'.quiet=true/\codeAny (model prog w) A c' R s') (fun e s'=>R (.error e) s') s:=by
 show wpAny _ A.in1 (do let old <-Builtin.List.listItems (.ref S);Builtin.List.listUpdate (.ref S) (fun _=>#[]);letGo old.toList.reverse;Builtin.List.listExtendWith (.ref S) (.ref I) .none) _ _ s
 refine wpAny_bind ?_
 unfold Builtin.List.listItems
 refine wpAny_bind (wpAny_seqItems hS rfl (wpAny_pure ?_))
 show wpAny _ A.in1 (updateSeq S (fun _=>#[]) >>= fun _=>letGo (#[]:Array Value).toList.reverse >>= fun _=>Builtin.List.listExtendWith (.ref S) (.ref I) .none) _ _ s
 refine wpAny_bind (wpAny_updateSeq hS rfl ?_)
 have hS₂:=Heap.get?_update_self (Obj.mapSeq (fun _=>(#[]:Array Value))) hS rfl
 have oth:∀b o,b≠S->s.heap.get? b=some o->(s.heap.update S (Obj.mapSeq (fun _=>(#[]:Array Value)))).get? b=some o:=
  fun b o hb e=>(Heap.get?_update_other _ _ (Ne.symm hb)).trans e
 refine wpAny_bind (wpAny_letGo ?_)
 refine Yji (hn:=hn) W hT S .none _ (W.frame 0 s _ s.toks hst (qt _) fun b hb o e=>oth b o (fun h=>hSf (h ▸ hb)) e) hSf hI hS₂ fun s' acc' c' hm hS' hacc=>?_
 exact hR s' acc' c' (Moved.trans W.gtrans ((Moved.refl W.grefl).then_heap (qt _) fun b o hb e=>oth b o (fun h=>hb (h ▸ qh)) e) hm) hS' hacc
section
variable {prog:Program} {w:World} {A:Around} {E:Value->Shared->Prop} {s:Shared} {I:Addr} {fp wr:List Addr} {G:Array GenState->Array GenState->Prop} {n:Nat} {P:Nat->Value->Prop} {St:Nat->Shared->Prop}
theorem Yfo{Q:Value->Shared->Prop}(W:WalksS prog w A.in1.in1 I fp wr G n P St)(hT:∀i s,St i s->s.TypeIs (.ref I) "list_reverseiterator")(hst:St 0 s)(hfp:∀b∈fp,b < s.heap.objs.size)(hI:I∈fp)
 (hQ:∀s' acc' c',Moved (s.heap.objs.size::wr) G { s with heap:=s.heap.push { cls:=.type "list",data:=.seq #[] } } s'->
  s'.heap.get? s.heap.objs.size=some { cls:=.type "list",dict:=none,data:=.seq acc' c',slots:=#[] }->ItemsOf P acc' n->Q (.ref s.heap.objs.size) s') (hn:n<=sizeLine) :
 wpAny (model prog w) A (call (.type "list") [.ref I]) Q E s:=by
 have hSf:s.heap.objs.size∉fp:=fun hm=>Nat.lt_irrefl _ (hfp _ hm)
 refine callType_codes (Q₁:=fun obj s₁=>obj=.ref s.heap.objs.size/\s₁={ s with heap:=s.heap.push { cls:=.type "list",data:=.seq #[] } }) F.called_list (F.typeCall_list_1 _) F.entry_list_init
  (code_list_new _ ⟨rfl,rfl⟩) fun obj s₁ h₁=>?_
 obtain⟨rfl,rfl⟩:=h₁
 have hS:(s.heap.push { cls:=.type "list",data:=.seq #[] }).get? s.heap.objs.size=some { cls:=.type "list",data:=.seq #[] }:=qo _ rfl
 refine⟨⟨_,hS,rfl⟩,F.args_list_init_2 _ _,Ygp (hn:=hn) W hT _ (W.frame 0 s _ s.toks hst (qt _) fun b _ o e=>qe _ e) hSf hI hS fun s' acc' c' hm hS' hacc=>?_⟩
 exact⟨rfl,hQ s' acc' c' hm hS' hacc⟩
end
theorem Ykr{items acc:Array Value}(h:ItemsOf (fun i v=>items[items.size - 1 - i]?=some v) acc items.size):acc.toList=items.toList.reverse:=by
 obtain⟨h1,h2⟩:=h
 apply List.ext_getElem?
 intro i
 by_cases hi:i < items.size
 ·have hi2:i < acc.size:=by rw[h1];exact hi
  have e:=h2 i acc[i] (Array.getElem?_eq_getElem hi2)
  rw[List.getElem?_reverse (by simpa using hi)]
  rw[Array.getElem?_toList,Array.getElem?_toList,Array.getElem?_eq_getElem hi2,<-e]
  simp
 ·rw[List.getElem?_eq_none (by simp;lia),List.getElem?_eq_none (by simp;lia)]
theorem Yet:∀{xs:List V} {us:List Value},Vals xs us->Vals xs.reverse us.reverse
 | _,_,.nil=>.nil
 | _,_,.cons r t=>by
   rw[List.reverse_cons,List.reverse_cons]
   exact(Yet t).append (.cons r .nil)
section
variable {X:Cx} {e:Expr} {ta:TA} {p p2 pos pos2:Pos}
theorem Ymq{pins:List (Addr × Obj)}{σ:L2.St}{H:Hp}{s:Shared}{Q:Value->Shared->Prop}{q:List V->Hp->Prop}(I:Inv X pins σ H s)(hg2:Gl X "reversed")(hm2:X.mg "reversed"=none)(ha:PA X [e] ta)(h:ta σ H q)
 (hs:starEach [e] X.env=[(false,eval e X.env)])
 (k:∀vs H1 s1,Inv X pins σ H1 s1->q vs H1->∃a xs its,vs=[.ref a]/\SqL X.K H1 a xs/\Vals xs its/\s1.heap.IsList a its.toArray/\Q (.ref s1.heap.objs.size) { s1 with heap:=s1.heap.push (revObj a ((its.toArray.size:Int) - 1)) }) :
 wpAny (model X.prog X.w) X.A (eval (.Call (.Name "reversed" p2) [e] [] pos2) X.env) Q X.xe s:=by
 refine Call_ (Yfb I hg2 hm2 boot_reversed (PyProof.Rows.callWith_type1 (thn (ha pos2 pins s σ H _ I h) fun us s1 hx_=>?_) hs rfl))
 obtain⟨vs,H1,I1,r1,q1⟩:=hx_
 obtain⟨a,xs,its,rfl,hq,rv,pl,z⟩:=k vs H1 s1 I1 q1
 obtain⟨u,rfl,ru⟩:=Yh1 r1
 cases ru
 exact call_reversed_list pl z
def Ys2(K:W.Frag)(ta:TA):TE:=fun σ H Q=>ta σ H fun vs H1=>∃a xs,vs=[.ref a]/\SqL K H1 a xs/\∀l,H1 l=none->Q (.ref l) (upd H1 l (.lst xs.reverse))
theorem Yjj(hc:X.calm=true)(hg:Gl X "list")(hm:X.mg "list"=none)(hg2:Gl X "reversed")(hm2:X.mg "reversed"=none)(ha:PA X [e] ta)(hs:starEach [e] X.env=[(false,eval e X.env)]:=by rfl)
 (he:starEach [.Call (.Name "reversed" p2) [e] [] pos2] X.env=[(false,eval (.Call (.Name "reversed" p2) [e] [] pos2) X.env)]:=by rfl) :
 PE X (.Call (.Name "list" p) [.Call (.Name "reversed" p2) [e] [] pos2] [] pos) (Ys2 X.K ta):=by
 intro pins s σ H Q I h
 refine wpAny_Call_Name_kw (Yfb I hg hm boot_list ?_ (by decide) (by decide))
 refine PyProof.Rows.callWith_type1 ?_ he rfl
 rw[he]
 refine Calls.spliced_cons (Ymq I hg2 hm2 ha h hs fun vs H1 s1 I1 q1=>?_)
 obtain⟨a,xs,rfl,hq,q⟩:=q1
 obtain⟨its,rv,pl,hz⟩:=I1.list hq
 refine⟨a,xs,its,rfl,hq,rv,pl.isList,Calls.spliced_nil ?_⟩
 have hne:a≠s1.heap.objs.size:=by
  obtain⟨o,ho,_⟩:=pl.isList
  exact ql (qk ho)
 have hlt:a < s1.heap.objs.size:=by
  obtain⟨o,ho,_⟩:=pl.isList
  exact qk ho
 have hl:=rv.length
 refine Yfo (Walks.listRev (show X.A.in1.in1.handled=none from I1.ok.hd hc) s1.heap.objs.size a hne its.toArray).toS (fun i s st=>st.2.1.typeIs) ⟨Nat.zero_le _,⟨_,qo _ rfl,rfl,by simp[revObj]⟩,pl.isList.push _⟩ (fun b hb=>?_) (by simp) (fun s' acc' c' hm' hS' hacc=>?_) (by rw[qj];lia)
 ·show b < (s1.heap.push _).objs.size
  rw[Heap.size_push]
  rcases qs hb with rfl | hb
  ·exact Nat.lt_succ_self _
  ·rw[List.mem_singleton.mp hb];exact Nat.lt_succ_of_lt hlt
 ·have hsz:(s1.heap.push (revObj a ((its.toArray.size:Int) - 1))).objs.size=s1.heap.objs.size+1:=Heap.size_push ..
  rw[Moved.eq_with hm']at hS' ⊢
  rw[hsz]at hS' ⊢
  have kp:∀b u,s1.heap.get? b=some u->s'.heap.get? b=some u:=fun b u qb=>by
   have hb:b < s1.heap.objs.size:=qk qb
   refine hm'.heap b u (fun z=>?_) (qe _ (qe _ qb))
   rw[hsz]at z
   rcases qs z with z | z
   ·exact absurd hb (by rw[z];exact Nat.not_lt.mpr (Nat.le_succ _))
   ·rw[List.mem_singleton.mp z]at hb;exact absurd hb (Nat.lt_irrefl _)
  have ev:acc'.toList=its.reverse:=by simpa using Ykr hacc
  refine⟨.ref (s1.heap.objs.size+1),upd H1 (s1.heap.objs.size+1) (.lst xs.reverse),?_,rfl,q _ (I1.hok.fresh (Nat.le_succ _))⟩
  exact I1.laid (t':=s'.toks) kp (Nat.le_succ _) (show ObjOk X.prog X.w _ _ _ (.lst xs.reverse) from⟨by rw[List.length_reverse];exact hz,acc'.toList,c',by rw[ev];exact Yet rv,by rw[Array.toArray_toList];exact hS'⟩)
def revF(f:Ro->Option D):Ro->Option (List D):=fun ρ=>(b1 f lstD ρ).map List.reverse
variable {f:Ro->Option D}
theorem Yjk(hc:X.calm=true)(hg:Gl X "list")(hm:X.mg "list"=none)(hg2:Gl X "reversed")(hm2:X.mg "reversed"=none)(ha:MC X e f)(hs:starEach [e] X.env=[(false,eval e X.env)]:=by rfl)
 (he:starEach [.Call (.Name "reversed" p2) [e] [] pos2] X.env=[(false,eval (.Call (.Name "reversed" p2) [e] [] pos2) X.env)]:=by rfl) :
 MF X (.Call (.Name "list" p) [.Call (.Name "reversed" p2) [e] [] pos2] [] pos) (revF f):=
 PE.imp (Yjj hc hg hm hg2 hm2 (Yiy ha Ykj hs) hs he) fun σ H Q hx_=>by
  obtain⟨ρ,l,H0,G0,G,e,s,h⟩:=hx_
  obtain⟨l0,h1,rfl⟩:=qc e
  obtain⟨d,h2,h3⟩:=Yb8 h1
  refine tCAof.at (show Yl f aNil ρ=some [d] by simp[Yl,aNil,h2]) s fun vs H1 G1 g1 r1 s1=>?_
  obtain⟨v,rfl,rv⟩:=Ydg r1
  obtain⟨q,xs,rfl,g,rl⟩:=Yki h3 rv
  exact⟨q,xs,rfl,g,fun m hm'=>h m _ _ G1 (g1.trans (.hid s1.seen hm' _)) (g1.h.free hm') (s1.seen.free hm') Ym rl.reverse⟩
end
end
section
variable {K:W.Frag}
section
variable {X:Cx} {e ie:Expr} {f fb:Ro->Option D} {pos:Pos}
def rExt:V->List V->Hp->VK->Prop:=fun x vs H Q=>∃l b xs zs,x=.ref l/\vs=[.ref b]/\H l=some (.lst xs)/\Rd H b (.lst zs)/\xs.length+zs.length<=sizeLine/\Q .non (upd H l (.lst (xs++zs)))
theorem Yrp:MtM X "list.extend" rExt:=by
 intro pins s σ H x vs v us Q I rx rv h
 obtain⟨l,b,xs,zs,rfl,rfl,hH,hB,hz,q⟩:=h
 cases rx
 obtain⟨u,rfl,ru⟩:=rv.one
 cases ru
 obtain⟨z,its,n,r,hl,e⟩:=I.lstM hH
 obtain⟨z2,its2,n2,r2,e2⟩:=hB.ok I.hok
 have hl2:=r2.length
 have hsz:its.toArray.size+its2.toArray.size<=sizeLine:=by rw[qj,qj];lia
 have hlong:¬(!its.toArray.isEmpty&&Builtin.List.listTooLong (its.toArray.size+its2.toArray.size))=true:=by
  rw[Ymd hsz,Bool.and_false]
  exact qi
 refine call_meets F.slot_list_extend ⟨_,e,rfl⟩ F.entry_list_extend (F.args_list_extend_2 _ _)
  (AutoSeq1.list_extend_list_list_0 l its.toArray n b its2.toArray n2 hlong (by rw[qj];lia) (by lia)) ⟨e,e2,?_⟩
 refine⟨.non,_,I.lset (its':=its++its2) hH e (by simp) (r.append r2) ?_,rfl,q⟩
 rw[qv]
 lia
def extD(l:List D)(d:D):Option (List D):=match d with
 | .lst m=>if l.length+m.length<=cap6 then some (l++m)else none
 | _=>none
theorem Yks(i:Nat){x:Str}{p2 apos cpos:Pos}(he:ME X e f)(hN:X.N[i]?=some x:=by rfl)(hv:Vis X.env.scope x:=by first | exact Or.inl rfl | exact Or.inr (Or.inl rfl) | exact Or.inr (Or.inr rfl))
 (hd:(x==("__debug__":Str))=false:=by decide) (hcd:(x==("__classdict__":Str))=false:=by decide) (hse:swapsWith (.Call (.Attribute (.Name x p2) "extend" apos) [e] [] cpos) none pos.line X.env=pure false:=by rfl)
 (hs:starEach [e] X.env=[(false,eval e X.env)]:=by rfl)
 (hfew:((backTo cpos (starEach [e] X.env)).all (fun x=>!x.1)&&(backToKw cpos (keywordEach [] X.env)).all (fun x=>x.1.isSome)&&decide ([e].length+([]:List Keyword).length+(if ([]:List Keyword).isEmpty then 0 else 1) < 30))=true:=by rfl)
 (hline:(apos.endLine==cpos.line)=true:=by rfl) (hbase:attributeBase (.Name x p2) "extend" X.env (eval (.Name x p2) X.env)=eval (.Name x p2) X.env:=by rfl) :
 MS X (.Expr (.Call (.Attribute (.Name x p2) "extend" apos) [e] [] cpos) pos) (sMut i f extD):=
 PS.imp (Yhy (Ymc PySem.F.plainAttrs_list PySem.F.slot_list_extend PySem.F.type_list_extend Yrp (Yfa hN hv hd hcd) (Yb7 he Yer hs) hbase hfew hline hs rfl) hse) fun F σ H hx_=>by
  obtain⟨ρ,out,H0,G0,G,e,s,h⟩:=hx_
  unfold sMut at e
  obtain⟨l,h1,e⟩:=qa e
  obtain⟨d,h2,e⟩:=qa e
  obtain⟨l',h3,rfl⟩:=qc e
  unfold extD at h3
  split at h3
  ·rename_i m
   split at h3
   ·rename_i hl
    cases h3
    obtain⟨a,xs,ha,hH,hr,hG⟩:=Yiz s h1
    refine⟨_,ha,.inl ⟨rfl,xs,SqL.of hH⟩,tOf.at h2 s fun v H1 G1 g1 r1 s1=>?_⟩
    rw[Rp]at r1
    obtain⟨b,zs,rfl,gb,rz⟩:=r1
    refine⟨a,b,xs,zs,rfl,rfl,g1.h _ _ hH,Ybv s1.seen gb,?_,h σ _ G1 (s1.mut (Yd4 h1) ha ((hr.mono g1.g).append rz))⟩
    rw[hr.length,rz.length]
    exact Yb9 hl
   ·cases h3
  ·cases h3
end
end
section
variable {K:W.Frag}
def SE(w:World):List DictEntry->List (Str × Str)->Prop:=Paired fun e p=>e.hash=PyData.keyHash w.params p.1/\(∃t,e.key=.str p.1 t)/\(∃t,e.val=.str p.2 t)/\PyData.strOk p.2=true
def GD(K:W.Frag)(w:World)(mg:Str->Option Value)(x:Str)(kvs:List (Str × Str)):Prop:=∃p o es ep,mg x=some (.ref p)/\K.lookup p=some o/\o.ExactDict/\o.data=.dict es ep/\SE w es.toList kvs
theorem Ykt{P:Program}{w:World}{k v:Str}:∀{l:List DictEntry} {kvs:List (Str × Str)},SE w l kvs->kvs.lookup k=some v->∃e t,l.find? (fun e=>(PySem.strKind P w).is k e.key)=some e/\e.val=.str v t
 | _,_,.nil,h=>by simp at h
 | _,_,.cons (a:=e) (b:=p) r t,h=>by
   obtain⟨_,⟨t1,h1⟩,⟨t2,h2⟩,_⟩:=r
   obtain⟨a,b⟩:=p
   by_cases q:a=k
   ·subst q
    simp at h
    subst h
    exact⟨e,t2,by simp[List.find?_cons,h1,PySem.strKind,Value.isStrOf],h2⟩
   ·have q':¬k=a:=fun z=>q z.symm
    simp[Qb,q']at h
    have hn:(k==a)=false:=by simpa using q'
    obtain⟨e',t',h3,h4⟩:=Ykt (P:=P) t (by simpa [Qb,hn]using h)
    refine⟨e',t',?_,h4⟩
    rw[List.find?_cons]
    have:(PySem.strKind P w).is k e.key=false:=by
     rw[h1]
     show(a==k)=false
     simpa using q
    rw[this]
    exact h3
theorem Yku{P:Program}{w:World}:∀{l:List DictEntry} {kvs:List (Str × Str)},SE w l kvs->∀e∈l,∃k,(PySem.strKind P w).is k e.key=true/\e.hash=(PySem.strKind P w).hash k
 | _,_,.nil,e,h=>by cases h
 | _,_,.cons (b:=p) r t,e,h=>by
   rcases qs h with rfl | h
   ·obtain⟨h0,⟨t1,h1⟩,_⟩:=r
    exact⟨p.1,by rw[h1];simp[PySem.strKind,Value.isStrOf],h0⟩
   ·exact Yku t e h
theorem Yrq{w:World}{k v:Str}:∀{l:List DictEntry} {kvs:List (Str × Str)},SE w l kvs->kvs.lookup k=some v->PyData.strOk v=true
 | _,_,.nil,h=>by simp at h
 | _,_,.cons (b:=p) r t,h=>by
   obtain⟨_,_,_,h1⟩:=r
   obtain⟨a,b⟩:=p
   by_cases q:k=a
   ·subst q
    simp at h
    subst h
    exact h1
   ·have hn:(k==a)=false:=by simpa using q
    exact Yrq t (by simpa [Qb,hn]using h)
section
variable {X:Cx} {ke:Expr} {fk:Ro->Option D} {pos px:Pos} {x:Str}
def Yjl(kvs:List (Str × Str)):D->Option D
 | .str k=>(kvs.lookup k).map D.str
 | _=>none
theorem Ymr{kvs:List (Str × Str)}(g:GD X.K X.w X.mg x kvs)(hg:Gl X x)(hk:MC X ke fk)(hs:NoSl ke:=by intro _ _;rfl)(hd:(x==("__debug__":Str))=false:=by decide):ME X (.Subscript (.Name x px) ke pos) (b1 fk (Yjl kvs)):=by
 obtain⟨p,o,es,ep,hm,hl,hx,hdt,hse⟩:=g
 intro pins s σ H Q I ⟨ρ,d,H0,G0,G,e,sr,h⟩
 obtain⟨dk,h1,h2⟩:=Yb8 e
 refine Yj6 PySem.F.slot_dict_getitem.lookup hs (Ygg I hg hm ?_ hd)
 refine thn (hk pins s σ H (fun(v':V) (H':Hp)=>∃k r,v'=.str k/\kvs.lookup k=some r/\Q (.str r) H') I (tCof.at h1 sr fun v H1 G1 g1 r1 s1=>?_)) fun iv s2 q0=>?_
 ·unfold Yjl at h2
  split at h2
  ·rename_i k
   obtain⟨r,h3,rfl⟩:=qc h2
   rw[Ct]at r1
   exact⟨k,r,r1.1,h3,h _ H1 G1 g1 (by rw[Rp];exact⟨rfl,Yrq hse h3⟩)⟩
  ·cases h2
 ·obtain⟨y,H2,I2,ry,k,r,rfl,h3,q⟩:=q0
  obtain⟨t,rfl⟩:=ry
  have ho:s2.heap.get? p=some o:=I2.kIn p o hl
  obtain⟨e',t',f1,f2⟩:=Ykt (P:=X.prog) hse h3
  refine⟨⟨o,ho,hx.1⟩,wpAny_getItem_of (knd:=PySem.strKind X.prog X.w) (k:=k) (f:=fun k=>findBy (PySem.strKind X.prog X.w).is es k) (v:=.str r t') (by simp[PySem.strKind,Value.isStrOf]) ⟨o,es,ep,ho,hx,hdt,?_,fun _=>rfl⟩ ?_ ⟨.str r,H2,I2.tok _,⟨t',rfl⟩,q⟩⟩
  ·intro e'' he
   exact Yku hse e'' (by simpa using he)
  ·show(es.find? fun e=>(PySem.strKind X.prog X.w).is k e.key).map (·.val)=_
   rw[<-Array.find?_toList,f1,Option.map_some,f2]
end
def tK(x:Str):TE:=fun _ H Q=>Q (.str x) H
structure MP(X:Cx)(pos:Pos)(keys:List (Option Expr))(values:List Expr)(ks:List Str)(fs:List (Ro->Option D)):Prop where
 len:ks.length=fs.length
 pps:PPs X pos keys values ((ks.zip fs).map fun p=>(tK p.1,tOf X.K p.2))
 all:keys.all (·.isSome)=true
 kv:keys.length=values.length
 kk:keys.length=ks.length
end
section
variable {K:W.Frag}
def numD:D->Option Int
 | .int i=>some i
 | .bl b=>some (if b then 1 else 0)
 | _=>none
def numsD:List D->Option (List Int)
 | []=>some []
 | d::l=>(numD d).bind fun i=>(numsD l).map (i::·)
structure DtH(H:Hp)(a:Addr)(nks:List (List Int × Addr))(vxs:List V):Prop where
 at':∃ep,H a=some (dTo a nks vxs ep)
 len:nks.length=vxs.length
 nd:(nks.map (·.1)).Nodup
 keys:∀p∈nks,∃ys,H p.2=some (.tup ys)/\Yok ys=some p.1
end
section
end
section
end
section
section
variable {X:Cx} {e:Expr} {f:Ro->Option D} {fc:Ro->Option Bool} {gl:Ro->Option (List D)} {K:W.Frag}
theorem Gr.back{H G H' G' G1:Hp}(s:Same G H)(g:Gr H G1 H' G'):Gr H G H' G:=⟨g.h,Same.refl _,s.trans g.h,fun _ h h'=>absurd h h'⟩
end
end
section
variable {K:W.Frag}
set_option maxRecDepth 100000
section
variable {X:Cx} {e:Expr} {f:Ro->Option D} {p pos:Pos}
theorem nr1{α:Sort _}{a b:α}(h:a=b):a=b:=h
end
end
section
end
section
set_option maxRecDepth 100000
variable {K:W.Frag}
end
section
def Yrr:List Value->List Str->Prop:=Paired fun v k=>(∃t,v=.str k t)/\PyData.strOk k=true
def inG(neg:Bool)(ks:List Str):D->Option Bool
 | .str k=>some (decide (k∈ks) != neg)
 | _=>none
def rInG(p:Addr)(ks:List Str)(neg:Bool):R2:=fun x y H Q=>∃k,x=.str k/\PyData.strOk k=true/\y=.ref p/\Q (.bl (decide (k∈ks) != neg)) H
end
section
section
variable {prog:Program} {w:World} {A:Around} {E:Value->Shared->Prop} {s:Shared}
theorem Yia{t sl:Addr}{items:Array Value}{vl vu:Value}{lo hi:Option Int}{Q:Value->Shared->Prop}(ht:IsTup s.heap t items)(hs:s.heap.IsSliceOf sl vl vu .none)(pl:IsPart vl lo)(pu:IsPart vu hi)
 (h0:HT.sIx items.size 0 lo=0) (h1:HT.sIx items.size items.size hi=items.size) (h:Q (.ref t) s):wpAny (model prog w) A (getItem (.ref t) (.ref sl)) Q E s:=by
 obtain⟨os,hos,hcs,hds⟩:=id hs
 have hTs:s.TypeIs (.ref sl) "slice":=⟨os,hos,hcs⟩
 unfold getItem
 try with_reducible refine wpAny_holding ?_
 first | refine wpAny_bind (wpAny_pure ?_) | skip
 refine wpAny_bind (wpAny_sequenceKey ht.typeIs (by decide) ?_)
 refine wpAny_bind (wpAny_callSpecial?_slot (name:=Str.ofString "__getitem__") ht.typeIs PyProof.Rows.slot_tuple_getitem (wpAny_call_entry PyProof.Rows.slot_tuple_getitem ht.typeIs entry_tuple_getitem ?_ (args_tuple_getitem _ _)))
 show wpAny _ _ (Builtin.Tuple.tupleItemsOf (.ref t) >>= _) _ _ s
 refine wpAny_bind (tupleItemsOf_ ht ?_)
 refine wpAny_bind (wpAny_typeOf hTs ?_)
 rw[if_pos (by decide)]
 refine wpAny_bind (HT.sliceApplied_gen hs pl pu ?_)
 show wpAny _ _ (if (((HT.sIx items.size 0 lo:Nat):Int)==0&&(1:Int)==1&&(HT.sIx items.size items.size hi - HT.sIx items.size 0 lo)==items.size)=true then _ else _) _ _ s
 rw[if_pos (by rw[h0,h1];simp)]
 refine wpAny_bind ?_
 unfold Builtin.Tuple.tupleIsExact
 refine wpAny_bind (wpAny_typeOf ht.typeIs (wpAny_pure ?_))
 rw[if_pos (by decide)]
 exact wpAny_bind (wpAny_rule (wpAny_pure ⟨_,rfl,wpAny_pure h⟩))
end
section
variable {X:Cx}
def rSlW(K:W.Frag):V->Option Int->Option Int->Hp->VK->Prop:=fun x lo hi H Q=>∃a xs,x=.ref a/\SqT K H a xs/\HT.sIx xs.length 0 lo=0/\HT.sIx xs.length xs.length hi=xs.length/\Q (.ref a) H
theorem Yms:SlR X (rSlW X.K):=by
 intro pins s σ H x v vl vu lo hi sl Q I rx hs pl pu h
 obtain⟨a,xs,rfl,hx,h0,h1,q⟩:=h
 cases rx
 obtain⟨its,r,ht,hz⟩:=I.tuple hx
 have hlen:its.toArray.size=xs.length:=by rw[qj];exact r.length.symm
 refine⟨"tuple",_,PyProof.Rows.slot_tuple_getitem.lookup,ht.typeIs,Yia ht hs pl pu (by rw[hlen];exact h0) (by rw[hlen];exact h1) ?_⟩
 exact⟨.ref a,H,I,rfl,q⟩
def cutC(i j:Option Int):D->Option D
 | .lst l=>some (.lst (cutD l i j))
 | .tup l=>some (.tup (cutD l i j))
 | _=>none
def slD(fa:Ro->Option D)(lo hi:Option (Ro->Option D)):Ro->Option D:=fun ρ=>(fa ρ).bind fun d=>(optI lo ρ).bind fun i=>(optI hi ρ).bind fun j=>cutC i j d
variable {a e:Expr} {fa f:Ro->Option D} {pos:Pos}
theorem Ymt{lo hi:Option Expr}{fl fh:Option (Ro->Option D)}{p2:Pos}(ha:MC X a fa)(hl:PO X lo (tO X.K fl))(hh:PO X hi (tO X.K fh)):ME X (.Subscript a (.Slice lo hi none p2) pos) (slD fa fl fh):=
 PE.imp (Ymb (SlR.or Yog (SlR.or Yqj Yms)) ha hl hh) fun σ H Q hx_=>by
  obtain⟨ρ,d,H0,G0,G,e,s,h⟩:=hx_
  unfold slD at e
  obtain⟨d0,h1,e⟩:=qa e
  obtain⟨i,h2,e⟩:=qa e
  obtain⟨j,h3,e⟩:=qa e
  refine tCof.at h1 s fun v H1 G1 g1 r1 s1=>Yq6 h2 s1 fun H2 G2 g2 s2=>Yq6 h3 s2 fun H3 G3 g3 s3=>?_
  have r3:=(r1.grow g2).grow g3
  have gg:=(g1.trans g2).trans g3
  unfold cutC at e
  split at e
  ·rename_i l
   cases e
   rw[Ct]at r3
   obtain⟨p,xs,rfl,g,rl⟩:=r3
   refine .inl ⟨p,xs,rfl,.inl g,fun q hq=>?_⟩
   refine h _ _ _ (gg.trans (Gr.new (p:=q) s3.seen hq (.lst (cutV xs i j)))) ?_
   rw[Rp]
   refine⟨q,_,rfl,.inl Ym,?_⟩
   unfold cutD cutV
   rw[rl.length]
   exact((rl.drop _).take _).mono (Gr.new (p:=q) s3.seen hq _).g
  ·cases e
   rw[Ct]at r3
   obtain⟨p,xs,rfl,⟨g,gG⟩,rl⟩:=r3
   by_cases hw:HT.sIx xs.length 0 i=0/\HT.sIx xs.length xs.length j=xs.length
   ·refine .inr (.inr ⟨p,xs,rfl,.of g,hw.1,hw.2,h _ H3 G3 gg ?_⟩)
    rw[Rp]
    refine⟨p,xs,rfl,gG,?_⟩
    unfold cutD
    rw[<-rl.length,hw.1,hw.2,List.drop_zero,Nat.sub_zero,rl.length,List.take_length]
    exact rl
   ·refine .inr (.inl ⟨p,xs,rfl,.of g,hw,fun q hq=>?_⟩)
    refine h _ _ _ (gg.trans (Gr.new (p:=q) s3.seen hq (.tup (cutV xs i j)))) ?_
    rw[Rp]
    refine⟨q,_,rfl,Ym,?_⟩
    unfold cutD cutV
    rw[rl.length]
    exact((rl.drop _).take _).mono (Gr.new (p:=q) s3.seen hq _).g
  ·cases e
@[simp] theorem ap_slD{ρ:Ro}(lo hi:Option (Ro->Option D)):slD fa lo hi ρ=(fa ρ).bind fun d=>(optI lo ρ).bind fun i=>(optI hi ρ).bind fun j=>cutC i j d:=nr1 rfl
end
end
section
structure ZE(X:Cx)(e:Expr)(f:Ro->Option D):Prop where
 un:ME X e f
structure ZC(X:Cx)(e:Expr)(f:Ro->Option D):Prop where
 un:MC X e f
structure ZCA(X:Cx)(es:List Expr)(f:Ro->Option (List D)):Prop where
 un:MCA X es f
structure ZF(X:Cx)(e:Expr)(f:Ro->Option (List D)):Prop where
 un:MF X e f
structure ZT(X:Cx)(e:Expr)(f:Ro->Option Bool):Prop where
 un:MT X e f
structure ZW(X:Cx)(e:Expr)(f:Ro->Option Bool):Prop where
 un:MW X e f
structure ZA(X:Cx)(es:List Expr)(f:Ro->Option (List D)):Prop where
 un:MA X es f
structure ZI(X:Cx)(tg iter:Expr)(f:Ro->Option (List D)):Prop where
 un:MI X tg iter f
structure ZS(X:Cx)(st:Stmt)(f:Ro->Option Out):Prop where
 un:MS X st f
structure ZB(X:Cx)(sts:List Stmt)(f:Ro->Option Out):Prop where
 un:MB X sts f
structure ZG(X:Cx)(tg:Expr)(gt:D->Ro->Option Ro):Prop where
 un:MG X tg gt
structure ZIfs(X:Cx)(K:W.Frag)(ifs:List Expr)(f:Ro->Option Bool):Prop where
 un:PIfs X ifs (tTof K f)
structure ZO(X:Cx)(e:Option Expr)(f:Option (Ro->Option D)):Prop where
 un:PO X e (tO X.K f)
structure ZP(X:Cx)(pos:Pos)(keys:List (Option Expr))(values:List Expr)(ks:List Str)(fs:List (Ro->Option D)):Prop where
 un:MP X pos keys values ks fs
section
variable {K:W.Frag} {X:Cx} {H0 G0 H G:Hp} {σ:L2.St} {ρ:Ro} {a b c e:Expr} {es:List Expr} {fa fb fc f:Ro->Option D} {ga:Ro->Option (List D)} {pos:Pos}
theorem Yb{e:Expr}{f:Ro->Option D}(h:ZE X e f):ZC X e f:=⟨ME.mc h.un⟩
theorem Ys(i:Nat){x:Str}(hN:X.N[i]?=some x:=by rfl)(hv:Vis X.env.scope x:=by first | exact Or.inl rfl | exact Or.inr (Or.inl rfl) | exact Or.inr (Or.inr rfl))(hd:(x==("__debug__":Str))=false:=by decide)(hcd:(x==("__classdict__":Str))=false:=by decide):ZE X (.Name x pos) (getV i):=⟨Yqp i hN hv hd hcd⟩
theorem Yc(i:Nat){x:Str}(hN:X.N[i]?=some x:=by rfl)(hv:Vis X.env.scope x:=by first | exact Or.inl rfl | exact Or.inr (Or.inl rfl) | exact Or.inr (Or.inr rfl))(hd:(x==("__debug__":Str))=false:=by decide)(hcd:(x==("__classdict__":Str))=false:=by decide):ZC X (.Name x pos) (getC i):=⟨Yqq i hN hv hd hcd⟩
theorem Yh{i:Int}{j}:ZE X (.Constant (.int i) j pos) (kD (.int i)):=⟨Yqr ⟩
theorem Yns{k:Bool}{j}:ZE X (.Constant (.bool k) j pos) (kD (.bl k)):=⟨Ysq ⟩
theorem Ygq{j}:ZE X (.Constant .none j pos) (kD .non):=⟨Yqs ⟩
theorem Yp{x:Str}{j}(hx:PyData.strOk x=true:=by decide +kernel):ZE X (.Constant (.str x) j pos) (kD (.str x)):=⟨Yqt hx⟩
theorem Yo1(ha:ZC X a fa)(hb:ZC X b fb):ZE X (.BinOp a .Sub b pos) (b2 fa fb subI):=⟨Yqv ha.un hb.un⟩
theorem Ydj(ha:ZC X a fa)(hb:ZC X b fb):ZE X (.BinOp a .Mult b pos) (b2 fa fb mulI):=⟨Yqw ha.un hb.un⟩
theorem Yck(ha:ZC X a fa)(hb:ZC X b fb):ZE X (.BinOp a .FloorDiv b pos) (b2 fa fb divI):=⟨Yqx ha.un hb.un⟩
theorem Yav(ha:ZC X a fa)(hb:ZC X b fb):ZE X (.BinOp a .Mod b pos) (b2 fa fb modI):=⟨Yqy ha.un hb.un⟩
theorem Yrs(ha:ZC X a fa)(hb:ZC X b fb):ZT X (.Compare a [.Gt] [b] pos) (b2 fa fb gtI):=⟨Yss ha.un hb.un⟩
theorem Ykv(hu:X.A.units+64 < cLine)(ha:ZC X a fa)(hb:ZC X b fb):ZE X (.Compare a [.Eq] [b] pos) (mB (b2 fa fb (eqM false))):=⟨Yst hu ha.un hb.un⟩
theorem Yaw(hu:X.A.units+64 < cLine)(ha:ZC X a fa)(hb:ZC X b fb):ZT X (.Compare a [.Eq] [b] pos) (b2 fa fb (eqM false)):=⟨Ysu hu ha.un hb.un⟩
theorem Yrt(hu:X.A.units+64 < cLine)(ha:ZC X a fa)(hb:ZC X b fb):ZT X (.Compare a [.NotEq] [b] pos) (b2 fa fb (eqM true)):=⟨Ysv hu ha.un hb.un⟩
end
section
variable {K:W.Frag} {X:Cx} {a b c e tg elt iter ie ke:Expr} {es rest ifs:List Expr} {fa fb f fe fk:Ro->Option D} {fc fd:Ro->Option Bool} {ga gl:Ro->Option (List D)} {pos p pos' p2 pos2 px:Pos} {x:Str} {id T:String} {r:List V->Hp->VK->Prop} {g:List D->Option D} {gf:List D->Option (List D)} {st:Stmt} {sts:List Stmt} {fs gs:Ro->Option Out} {scope:Scope} {N:List Str} {src:List (Option Nat)} {gt:D->Ro->Option Ro} {P:Program} {w:World} {mg:Str->Option Value} {base:Heap} {ta:TA}
theorem Yib(ha:ZC X a fa)(he:∀whole,isTrue a X.env whole=(do let v <-whole;standAt a.pos;holding [v] (truthy v)):=by intro _;rfl):ZT X a (b1 fa truD):=⟨Yq0 ha.un he⟩
theorem Yfp(ha:ZT X a fc):ZW X (.BoolOp .Or [a] pos) fc:=⟨Yq1 ha.un⟩
theorem Yhf(ha:ZT X a fc)(hb:ZW X (.BoolOp .Or (b::rest) pos) fd):ZW X (.BoolOp .Or (a::b::rest) pos) (orT fc fd):=⟨Ysw ha.un hb.un⟩
theorem Yo2(ha:ZT X a fc):ZT X (.UnaryOp .Not a pos) (notT fc):=⟨Yq3 ha.un⟩
theorem Ykw(hc:ZT X c fc)(ha:ZE X a fa)(hb:ZE X b fb):ZE X (.IfExp c a b pos) (ifV fc fa fb):=⟨Ysx hc.un ha.un hb.un⟩
theorem Ykx(ha:ZC X a fa)(hb:ZC X b fb):ZT X (.Compare a [.Is] [b] pos) (b2 fa fb (isN false)):=⟨Yq4 ha.un hb.un⟩
theorem Yt(ha:ZC X a fa)(hb:ZC X b fb)(hs:Ygi b:=by intro _ _;rfl):ZE X (.Subscript a b pos) (b2 fa fb ixD):=⟨Yop ha.un hb.un hs⟩
theorem Yru :ZO X none none:=⟨Ysy ⟩
theorem Yrv(h:ZC X e f):ZO X (some e) (some f):=⟨Ysz h.un⟩
theorem Ya1{g:Ro->Option (List D)}(h:ZF X e g):ZE X e (lF g):=⟨MF.me h.un⟩
theorem Yi :ZA X [] aNil:=⟨Ynp ⟩
theorem Yd(ha:ZE X e f)(hr:ZA X es ga)(hs:starEach (e::es) X.env=(false,eval e X.env)::starEach es X.env:=by rfl):ZA X (e::es) (Yl f ga):=⟨Yh8 ha.un hr.un hs⟩
theorem y1 :ZCA X [] aNil:=⟨Ykj ⟩
theorem Yu(ha:ZC X e f)(hr:ZCA X es ga)(hs:starEach (e::es) X.env=(false,eval e X.env)::starEach es X.env:=by rfl):ZCA X (e::es) (Yl f ga):=⟨Yiy ha.un hr.un hs⟩
theorem Yic{x1}(h:ZA X es ga):ZE X (.Tuple es x1 pos) (dTup ga):=⟨Yq7 h.un⟩
theorem Yar(h:ZA X es ga):ZF X (.List es pos) (dLst ga):=⟨Yq8 h.un⟩
theorem Ycc(hc:Yfd X (.builtin id) r)(hr:SemC X.K r g)(hg:Gl X x)(hm:X.mg x=none)(hv:bootBuiltins x=some (.builtin id))(ha:ZCA X (e::es) ga)(hn:x≠"__name__":=by decide)(hdb:(x==("__debug__":Str))=false:=by decide)(he:starEach (e::es) X.env=(false,eval e X.env)::starEach es X.env:=by rfl)(hpl:(backTo pos (starEach es X.env)).any (·.1)=false:=by rfl):ZE X (.Call (.Name x p) (e::es) [] pos) (cC ga g):=⟨Ymi hc hr hg hm hv ha.un hn hdb he hpl⟩
theorem y6(hc:Yfd X (.type T) r)(hr:SemC X.K r g)(hg:Gl X x)(hm:X.mg x=none)(hv:bootBuiltins x=some (.type T))(ha:ZCA X (e::es) ga)(hn:x≠"__name__":=by decide)(hdb:(x==("__debug__":Str))=false:=by decide)(he:starEach (e::es) X.env=(false,eval e X.env)::starEach es X.env:=by rfl)(hpl:(backTo pos (starEach es X.env)).any (·.1)=false:=by rfl):ZE X (.Call (.Name x p) (e::es) [] pos) (cC ga g):=⟨Ykk hc hr hg hm hv ha.un hn hdb he hpl⟩
theorem Yba :ZB X [] sNil:=⟨Yra ⟩
theorem y2(h1:ZS X st fs)(h2:ZB X sts gs):ZB X (st::sts) (sSeq fs gs):=⟨Yor h1.un h2.un⟩
theorem Yz(h1:ZS X st fs):ZB X [st] fs:=⟨Yrb h1.un⟩
theorem Ygr(is:List Nat)(h:ZS X st fs):ZS X st (wF is fs):=⟨Yrc is h.un⟩
theorem Ygs(i:Nat){x:Str}(hN:X.N.Nodup)(he:ZE X e f)(hi:X.N[i]?=some x:=by rfl)(hx:Loc X.env.scope x:=by first | exact Or.inl rfl | exact Or.inr rfl)(hs:swapsWith e (some (.Name x pos')) pos.line X.env=pure false:=by rfl)(hf:X.fn x=true\/X.env.scope.names.lookup x=some .local:=by first | exact .inl rfl | exact .inr rfl):ZS X (.Assign [.Name x pos'] e pos) (sSet i f):=⟨Yrf i hN he.un hi hx hs hf⟩
theorem Ybb(i:Nat){x:Str}(hN:X.N.Nodup)(he:ZF X e gl)(hi:X.N[i]?=some x:=by rfl)(hx:Loc X.env.scope x:=by first | exact Or.inl rfl | exact Or.inr rfl)(hs:swapsWith e (some (.Name x pos')) pos.line X.env=pure false:=by rfl)(hf:X.fn x=true\/X.env.scope.names.lookup x=some .local:=by first | exact .inl rfl | exact .inr rfl):ZS X (.Assign [.Name x pos'] e pos) (sOwn i gl):=⟨Yrg i hN he.un hi hx hs hf⟩
theorem y9(he:ZE X e f):ZS X (.Return (some e) pos) (sRet f):=⟨Yrh he.un⟩
theorem Ybw{c:Expr}{a b:List Stmt}{fc:Ro->Option Bool}(hc:ZT X c fc)(ha:ZB X a fs)(hb:ZB X b gs):ZS X (.If c a b pos) (sIf fc fs gs):=⟨Ys0 hc.un ha.un hb.un⟩
theorem Ycd(i:Nat){x:Str}{p2 apos cpos:Pos}(he:ZE X e f)(hN:X.N[i]?=some x:=by rfl)(hv:Vis X.env.scope x:=by first | exact Or.inl rfl | exact Or.inr (Or.inl rfl) | exact Or.inr (Or.inr rfl))(hd:(x==("__debug__":Str))=false:=by decide)(hcd:(x==("__classdict__":Str))=false:=by decide)(hse:swapsWith (.Call (.Attribute (.Name x p2) "append" apos) [e] [] cpos) none pos.line X.env=pure false:=by rfl)(hs:starEach [e] X.env=[(false,eval e X.env)]:=by rfl)(hfew:((backTo cpos (starEach [e] X.env)).all (fun x=>!x.1)&&(backToKw cpos (keywordEach [] X.env)).all (fun x=>x.1.isSome)&&decide ([e].length+([]:List Keyword).length+(if ([]:List Keyword).isEmpty then 0 else 1) < 30))=true:=by rfl)(hline:(apos.endLine==cpos.line)=true:=by rfl)(hbase:attributeBase (.Name x p2) "append" X.env (eval (.Name x p2) X.env)=eval (.Name x p2) X.env:=by rfl):ZS X (.Expr (.Call (.Attribute (.Name x p2) "append" apos) [e] [] cpos) pos) (sMut i f appD):=⟨Ykm i he.un hN hv hd hcd hse hs hfew hline hbase⟩
theorem Yfq{l:Expr}(hl:ZE X l f):ZI X tg l (b1 f Yau):=⟨Yrj hl.un⟩
theorem Yjm{a:Expr}{ga:Ro->Option (List D)}{p:Pos}(hg:Gl X "range")(hm:X.mg "range"=none)(ha:ZA X [a] ga)(hs:starEach [a] X.env=[(false,eval a X.env)]:=by rfl):ZI X tg (.Call (.Name "range" p) [a] [] pos) (cF ga rng1):=⟨Yko hg hm ha.un hs⟩
theorem Ybt(i:Nat){x:Str}(hN:X.N.Nodup)(hi:X.N[i]?=some x:=by rfl)(hx:Loc X.env.scope x:=by first | exact Or.inl rfl | exact Or.inr rfl)(hf:X.fn x=true\/X.env.scope.names.lookup x=some .local:=by first | exact .inl rfl | exact .inr rfl):ZG X (.Name x pos) (gSet i):=⟨Yos i hN hi hx hf⟩
theorem Ymu(i j:Nat){x y:Str}{px py:Pos}{k:Nat}(hc:X.calm=true)(hN:X.N.Nodup)(hi:X.N[i]?=some x:=by rfl)(hj:X.N[j]?=some y:=by rfl)(hx:Loc X.env.scope x:=by first | exact Or.inl rfl | exact Or.inr rfl)(hy:Loc X.env.scope y:=by first | exact Or.inl rfl | exact Or.inr rfl)(hf:X.fn x=true\/X.env.scope.names.lookup x=some .local:=by first | exact .inl rfl | exact .inr rfl)(hf2:X.fn y=true\/X.env.scope.names.lookup y=some .local:=by first | exact .inl rfl | exact .inr rfl):ZG X (.Tuple [.Name x px,.Name y py] k pos) (Yml i j):=⟨Yot i j hc hN hi hj hx hy hf hf2⟩
theorem Yid{iter:Expr}{body:List Stmt}{gt:D->Ro->Option Ro}(hp:PassesOwn (model X.prog X.w) X.A X.env X.xe)(hc:X.calm=true)(hi:ZI X tg iter gl)(hg:ZG X tg gt)(hb:ZB X body fs)(hs:∀x,foldedSetIterable iter X.env x=pure x:=by intro _;rfl):ZS X (.For tg iter body [] pos) (sFor gl gt fs):=⟨Yrk hp hc hi.un hg.un hb.un hs⟩
theorem Yie :ZIfs X X.K [] tY:=⟨Ynr ⟩
theorem Ygt(S:CompSc X.N X.env.scope N src scope)(hc:X.calm=true)(hit:ZI X tg iter gl)(hg:∀cl C fp s H,ZG (Yat X scope N cl C fp s H) tg gt)(hi:∀cl C fp s H,ZIfs (Yat X scope N cl C fp s H) X.K ifs fc)(he:∀cl C fp s H,ZE (Yat X scope N cl C fp s H) elt fe)(hle:∀ρ d ρ1,gt d (capR src ρ)=some ρ1->Le (capR src ρ) ρ1)(hs:∀x,foldedSetIterable iter X.env x=pure x:=by intro _;rfl):ZF X (.ListComp elt [⟨tg,iter,ifs,0⟩] scope pos) (Yhe gl src gt fc fe):=⟨Yow S hc hit.un (fun cl C fp s H=>(hg cl C fp s H).un) (fun cl C fp s H=>(hi cl C fp s H).un) (fun cl C fp s H=>(he cl C fp s H).un) hle hs⟩
theorem Ygb{x qual:Str}{st:Stmt}{f:Addr}{fd:FuncData}{N ps:List Str}{k n m:Nat}{fb:Ro->Option Out}(F:Fun K x qual st f fd)(S:FnScope N ps (defScope st))(hn:N.length=n)(hm:ps.length=m)(hb:∀(cdv:Value) (A:Around) (outer:List Env) (s:Shared) (H:Hp) (E:XK),Room k (A.deeper (envOfC qual (defScope st) s.heap.objs.size f cdv))->ZB (cxOf CX0 P w K mg base N qual (defScope st) f cdv A outer s H E).nox (defBody st) fb):FnOk P w K mg base CX0 (k+1) f fd ps (spOf K m (runB m n fb)):=Ykp F S hn hm (fun cdv A outer s H E hr=>(hb cdv A outer s H E hr).un)
theorem Yx{j k n:Nat}{x:Str}{p:Pos}{ps:List Str}{fn:List D->Option D}(c:Okf X.prog X.w X.K X.mg X.base j n x ps fn)(hr:Room k X.A)(hg:Gl X x)(ha:ZA X (e::es) ga)(hl:∀ρ l,ga ρ=some l->l.length=n)(hj:j<=k:=by first | exact qt _ | lia)(hdb:(x==("__debug__":Str))=false:=by decide)(he:starEach (e::es) X.env=(false,eval e X.env)::starEach es X.env:=by rfl)(hpl:(backTo pos (starEach es X.env)).any (·.1)=false:=by rfl):ZE X (.Call (.Name x p) (e::es) [] pos) (cC ga fn):=⟨Ymm c hr hg ha.un hl hj hdb he hpl⟩
theorem Yo3(ha:ZC X a fa)(hb:ZC X b fb):ZE X (.BinOp a .Add b pos) (b2 fa fb addI):=⟨Yrm ha.un hb.un⟩
theorem Ya4(ha:ZC X a fa)(hb:ZC X b fb):ZF X (.BinOp a .Add b pos) (b2 fa fb catD):=⟨Yrn ha.un hb.un⟩
theorem Yo4{T:String}{tn:Str}{p p2:Pos}(ha:ZC X a fa)(hg:Gl X "isinstance")(hg2:Gl X tn)(hm:X.mg "isinstance"=none)(hm2:X.mg tn=none)(hv2:bootBuiltins tn=some (.type T))(hk:Kit T)(hv:bootBuiltins "isinstance"=some (.builtin "isinstance"):=by decide +kernel)(hn2:tn≠"__name__":=by decide)(hd2:(tn==("__debug__":Str))=false:=by decide)(hs:starEach [a,.Name tn p2] X.env=(false,eval a X.env)::starEach [.Name tn p2] X.env:=by rfl)(hs2:starEach [.Name tn p2] X.env=(false,eval (.Name tn p2) X.env)::starEach [] X.env:=by rfl)(hpl:(backTo pos (starEach [.Name tn p2] X.env)).any (·.1)=false:=by rfl):ZE X (.Call (.Name "isinstance" p) [a,.Name tn p2] [] pos) (mB (b1 fa (isiD T))):=⟨Yro ha.un hg hg2 hm hm2 hv2 hk hv hn2 hd2 hs hs2 hpl⟩
theorem Yif(hc:X.calm=true)(hg:Gl X "list")(hm:X.mg "list"=none)(hg2:Gl X "reversed")(hm2:X.mg "reversed"=none)(ha:ZC X e f)(hs:starEach [e] X.env=[(false,eval e X.env)]:=by rfl)(he:starEach [.Call (.Name "reversed" p2) [e] [] pos2] X.env=[(false,eval (.Call (.Name "reversed" p2) [e] [] pos2) X.env)]:=by rfl):ZF X (.Call (.Name "list" p) [.Call (.Name "reversed" p2) [e] [] pos2] [] pos) (revF f):=⟨Yjk hc hg hm hg2 hm2 ha.un hs he⟩
theorem Ygc(i:Nat){x:Str}{p2 apos cpos:Pos}(he:ZE X e f)(hN:X.N[i]?=some x:=by rfl)(hv:Vis X.env.scope x:=by first | exact Or.inl rfl | exact Or.inr (Or.inl rfl) | exact Or.inr (Or.inr rfl))(hd:(x==("__debug__":Str))=false:=by decide)(hcd:(x==("__classdict__":Str))=false:=by decide)(hse:swapsWith (.Call (.Attribute (.Name x p2) "extend" apos) [e] [] cpos) none pos.line X.env=pure false:=by rfl)(hs:starEach [e] X.env=[(false,eval e X.env)]:=by rfl)(hfew:((backTo cpos (starEach [e] X.env)).all (fun x=>!x.1)&&(backToKw cpos (keywordEach [] X.env)).all (fun x=>x.1.isSome)&&decide ([e].length+([]:List Keyword).length+(if ([]:List Keyword).isEmpty then 0 else 1) < 30))=true:=by rfl)(hline:(apos.endLine==cpos.line)=true:=by rfl)(hbase:attributeBase (.Name x p2) "extend" X.env (eval (.Name x p2) X.env)=eval (.Name x p2) X.env:=by rfl):ZS X (.Expr (.Call (.Attribute (.Name x p2) "extend" apos) [e] [] cpos) pos) (sMut i f extD):=⟨Yks i he.un hN hv hd hcd hse hs hfew hline hbase⟩
theorem Yky{kvs:List (Str × Str)}(g:GD X.K X.w X.mg x kvs)(hg:Gl X x)(hk:ZC X ke fk)(hs:NoSl ke:=by intro _ _;rfl)(hd:(x==("__debug__":Str))=false:=by decide):ZE X (.Subscript (.Name x px) ke pos) (b1 fk (Yjl kvs)):=⟨Ymr g hg hk.un hs hd⟩
theorem Ykz{lo hi:Option Expr}{fl fh:Option (Ro->Option D)}{p2:Pos}(ha:ZC X a fa)(hl:ZO X lo fl)(hh:ZO X hi fh):ZE X (.Subscript a (.Slice lo hi none p2) pos) (slD fa fl fh):=⟨Ymt ha.un hl.un hh.un⟩
end
theorem Yhg{X:Cx}{e:Expr}{f:Ro->Option Bool}(h:ZW X e f):ZT X e f:=⟨PW.pt h.un⟩
end
section
variable {K:W.Frag}
def Ys3(K:W.Frag)(j:Nat)(x:Option (Option V))(H0 G0:Hp)(F:Ends):Out->Prop
 | .nx ρ'=>∀σ' H' G',SR K H0 G0 σ' H' G' ρ'->σ'[j]?=x->F.nx σ' H'
 | .rt _=>False
 | .bk ρ'=>∀σ' H' G',SR K H0 G0 σ' H' G' ρ'->σ'[j]?=x->F.bk σ' H'
 | .ct ρ'=>∀σ' H' G',SR K H0 G0 σ' H' G' ρ'->σ'[j]?=x->F.ct σ' H'
def sOfK(K:W.Frag)(j:Nat)(f:Ro->Option Out):TS:=fun F σ H=>∃ρ out H0 G0 G,f ρ=some out/\SR K H0 G0 σ H G ρ/\Ys3 K j σ[j]? H0 G0 F out
structure KS(j:Nat)(X:Cx)(st:Stmt)(f:Ro->Option Out):Prop where
 un:PS X st (sOfK X.K j f)
structure KB(j:Nat)(X:Cx)(sts:List Stmt)(f:Ro->Option Out):Prop where
 un:PSs X sts (sOfK X.K j f)
def sOfR(K:W.Frag)(j r:Nat)(fb:Ro->Option Out):TS:=fun F σ H=>∃ρ ρ' l d H0 G0 G,fb ρ=some (.nx ρ')/\getO j ρ'=some l/\getV r (frz [r] ρ')=some d/\SR K H0 G0 σ H G ρ/\
 ∀v σ' H' G',SR K H0 G0 σ' H' G' (frz [r] ρ')->σ'[j]?=σ[j]?->Rp K G' d v->F.rt v H'
structure KR(j r:Nat)(X:Cx)(sts:List Stmt)(f:Ro->Option Out):Prop where
 un:PSs X sts (sOfR X.K j r f)
def sOfL(K:W.Frag)(gl:Ro->Option (List D))(fb:Ro->Option Out):TS:=fun F σ H=>∃ρ ρ' l H0 G0 G,fb ρ=some (.nx ρ')/\gl ρ'=some l/\SR K H0 G0 σ H G ρ/\
 ∀p xs H' G',Gr H0 G0 H' G'->H0 p=none->G' p=none->H' p=some (.lst xs)->RpL K G' l xs->F.rt (.ref p) H'
structure KL(gl:Ro->Option (List D))(X:Cx)(sts:List Stmt)(f:Ro->Option Out):Prop where
 un:PSs X sts (sOfL X.K gl f)
theorem len1{us:List Value}(h:us.length=1):∃a0,us=[a0]:=List.length_eq_one_iff.mp h
theorem len2{us:List Value}(h:us.length=2):∃a0 a1,us=[a0,a1]:=by
 cases us with
 | nil=>cases h
 | cons a us=>
   obtain⟨b0,rfl⟩:=len1 (Nat.succ.inj h)
   exact⟨a,b0,rfl⟩
theorem len3{us:List Value}(h:us.length=3):∃a0 a1 a2,us=[a0,a1,a2]:=by
 cases us with
 | nil=>cases h
 | cons a us=>
   obtain⟨b0,b1,rfl⟩:=len2 (Nat.succ.inj h)
   exact⟨a,b0,b1,rfl⟩
theorem len4{us:List Value}(h:us.length=4):∃a0 a1 a2 a3,us=[a0,a1,a2,a3]:=by
 cases us with
 | nil=>cases h
 | cons a us=>
   obtain⟨b0,b1,b2,rfl⟩:=len3 (Nat.succ.inj h)
   exact⟨a,b0,b1,b2,rfl⟩
theorem len5{us:List Value}(h:us.length=5):∃a0 a1 a2 a3 a4,us=[a0,a1,a2,a3,a4]:=by
 cases us with
 | nil=>cases h
 | cons a us=>
   obtain⟨b0,b1,b2,b3,rfl⟩:=len4 (Nat.succ.inj h)
   exact⟨a,b0,b1,b2,b3,rfl⟩
theorem len6{us:List Value}(h:us.length=6):∃a0 a1 a2 a3 a4 a5,us=[a0,a1,a2,a3,a4,a5]:=by
 cases us with
 | nil=>cases h
 | cons a us=>
   obtain⟨b0,b1,b2,b3,b4,rfl⟩:=len5 (Nat.succ.inj h)
   exact⟨a,b0,b1,b2,b3,b4,rfl⟩
theorem len7{us:List Value}(h:us.length=7):∃a0 a1 a2 a3 a4 a5 a6,us=[a0,a1,a2,a3,a4,a5,a6]:=by
 cases us with
 | nil=>cases h
 | cons a us=>
   obtain⟨b0,b1,b2,b3,b4,b5,rfl⟩:=len6 (Nat.succ.inj h)
   exact⟨a,b0,b1,b2,b3,b4,b5,rfl⟩
end
end M
namespace M
open PySem L2
theorem nr{α:Sort _}{a b:α}(h:a=b):a=b:=h
section
variable {ρ:Ro}
@[simp] theorem ap_b2{α:Type}(fa fb:Ro->Option D)(g:D->D->Option α):b2 fa fb g ρ=(fa ρ).bind fun x=>(fb ρ).bind fun y=>g x y:=nr rfl
@[simp] theorem ap_b1{α:Type}(fa:Ro->Option D)(g:D->Option α):b1 fa g ρ=(fa ρ).bind g:=nr rfl
@[simp] theorem ap_kD(d:D):kD d ρ=some d:=nr rfl
@[simp] theorem ap_mB(f:Ro->Option Bool):mB f ρ=(f ρ).map D.bl:=nr rfl
@[simp] theorem ap_orT(f g:Ro->Option Bool):orT f g ρ=(f ρ).bind fun k=>if k=true then some true else g ρ:=nr rfl
@[simp] theorem ap_notT(f:Ro->Option Bool):notT f ρ=(f ρ).map (!·):=nr rfl
@[simp] theorem ap_ifV(c:Ro->Option Bool)(f g:Ro->Option D):ifV c f g ρ=(c ρ).bind fun k=>if k=true then f ρ else g ρ:=nr rfl
@[simp] theorem ap_lF(f:Ro->Option (List D)):lF f ρ=(f ρ).map D.lst:=nr rfl
@[simp] theorem ap_aNil:aNil ρ=some []:=nr rfl
@[simp] theorem ap_aCons(f:Ro->Option D)(g:Ro->Option (List D)):Yl f g ρ=(f ρ).bind fun d=>(g ρ).map (d::·):=nr rfl
@[simp] theorem ap_dTup(f:Ro->Option (List D)):dTup f ρ=(f ρ).bind fun l=>if l.length<=cap6 then some (.tup l)else none:=nr rfl
@[simp] theorem ap_dLst(f:Ro->Option (List D)):dLst f ρ=(f ρ).bind fun l=>if l.length<=cap6 then some l else none:=nr rfl
@[simp] theorem ap_cC(f:Ro->Option (List D))(g:List D->Option D):cC f g ρ=(f ρ).bind g:=nr rfl
@[simp] theorem ap_optN:optI none ρ=some none:=nr rfl
@[simp] theorem ap_optS(f:Ro->Option D):optI (some f) ρ=((f ρ).bind intD).map some:=nr rfl
@[simp] theorem ap_sNil:sNil ρ=some (.nx ρ):=nr rfl
@[simp] theorem ap_sSet(i:Nat)(f:Ro->Option D):sSet i f ρ=(f ρ).map fun d=>.nx (ρ.set i (some (.sh d))):=nr rfl
@[simp] theorem ap_sOwn(i:Nat)(f:Ro->Option (List D)):sOwn i f ρ=(f ρ).map fun l=>.nx (ρ.set i (some (.ow l))):=nr rfl
@[simp] theorem ap_sRet(f:Ro->Option D):sRet f ρ=(f ρ).map .rt:=nr rfl
@[simp] theorem ap_sIf(c:Ro->Option Bool)(f g:Ro->Option Out):sIf c f g ρ=(c ρ).bind fun k=>if k=true then f ρ else g ρ:=nr rfl
@[simp] theorem ap_sMut(i:Nat)(f:Ro->Option D)(g:List D->D->Option (List D)):sMut i f g ρ=(getO i ρ).bind fun l=>(f ρ).bind fun d=>(g l d).map fun l'=>.nx (ρ.set i (some (.ow l'))):=nr rfl
@[simp] theorem ap_sFor(gl:Ro->Option (List D))(gt:D->Ro->Option Ro)(fb:Ro->Option Out):sFor gl gt fb ρ=(gl ρ).bind fun ds=>forM gt fb ds ρ:=nr rfl
@[simp] theorem ap_fComp(gl:Ro->Option (List D))(src:List (Option Nat))(gt:D->Ro->Option Ro)(fc:Ro->Option Bool)(fe:Ro->Option D):Yhe gl src gt fc fe ρ=(gl ρ).bind fun ds=>Yf3 gt fc fe (capR src ρ) ds:=nr rfl
@[simp] theorem ap_wF(is:List Nat)(f:Ro->Option Out):wF is f ρ=f (frz is ρ):=nr rfl
def Yo5(g:Ro->Option Out):Out->Option Out
 | .nx ρ'=>g ρ'
 | o=>some o
@[simp] theorem thenS_nx(g:Ro->Option Out)(ρ':Ro):Yo5 g (.nx ρ')=g ρ':=nr rfl
@[simp] theorem thenS_rt(g:Ro->Option Out)(d:D):Yo5 g (.rt d)=some (.rt d):=nr rfl
@[simp] theorem ap_sSeq(f g:Ro->Option Out):sSeq f g ρ=(f ρ).bind (Yo5 g):=nr rfl
def endB:Out->Option D
 | .rt d=>some d
 | .nx _=>some .non
 | _=>none
@[simp] theorem endB_rt(d:D):endB (.rt d)=some d:=nr rfl
theorem Ybo{k n:Nat}{fb:Ro->Option Out}{ds:List D}(h:ds.length=k):runB k n fb ds=(fb (Yr n ds)).bind endB:=by
 unfold runB
 rw[if_pos h]
 rfl
end
@[simp] theorem add_int'(i j:Int):addI (.int i) (.int j)=some (.int (i+j)):=nr rfl
@[simp] theorem sub_int'(i j:Int):subI (.int i) (.int j)=some (.int (i - j)):=nr rfl
theorem Ygu{i j:Int}(h:-(2 ^ 64) < i/\i < 2 ^ 64):mulI (.int i) (.int j)=some (.int (i * j)):=by
 simp only[mulI,i2]
 rw[if_pos]
 simp only[Bool.or_eq_true,Bool.and_eq_true,decide_eq_true_eq]
 exact .inl h
@[simp] theorem div_int'{i j:Int}(h:0 < j)(h':j < 1073741824):divI (.int i) (.int j)=some (.int (i / j)):=by
 simp only[divI,i2]
 rw[if_pos]
 simp only[Bool.and_eq_true,decide_eq_true_eq]
 exact⟨h,h'⟩
@[simp] theorem Yhh{i j:Int}(h:0 < j):modI (.int i) (.int j)=some (.int (i % j)):=by
 simp only[modI,i2]
 rw[if_pos]
 simp only[decide_eq_true_eq]
 exact h
@[simp] theorem gt_int'(i j:Int):gtI (.int i) (.int j)=some (decide (j < i)):=nr rfl
@[simp] theorem truD_bl(b:Bool):truD (.bl b)=some b:=nr rfl
@[simp] theorem itemsOf_tup(l:List D):Yau (.tup l)=some l:=nr rfl
@[simp] theorem itemsOf_lst(l:List D):Yau (.lst l)=some l:=nr rfl
@[simp] theorem lenC_one(c:D):lenC [c]=(Yau c).map fun l=>.int l.length:=nr rfl
@[simp] theorem tupC_one(c:D):tupC [c]=(Yau c).map D.tup:=nr rfl
@[simp] theorem intC_bl(b:Bool):intC [.bl b]=some (.int (if b then 1 else 0)):=nr rfl
@[simp] theorem Yo6(c:D)(i:Int):ixD c (.int i)=(Yau c).bind fun l=>atI l i:=nr rfl
@[simp] theorem intD_int(i:Int):intD (.int i)=some i:=nr rfl
@[simp] theorem Yo7(i j:Int):eqD (.int i) (.int j)=(i==j):=by simp[eqD,toPy,PyData.eqv]
@[simp] theorem Yo8(i j:Str):eqD (.str i) (.str j)=(i==j):=by simp[eqD,toPy,PyData.eqv]
@[simp] theorem dep_int(i:Int):dep (.int i)=0:=by simp[dep]
@[simp] theorem dep_str(i:Str):dep (.str i)=0:=by simp[dep]
theorem Ynt{neg:Bool}{d e:D}(h:dep d<=60)(h':dep e<=60):eqM neg d e=some (if neg then !eqD d e else eqD d e):=by
 unfold eqM
 rw[if_pos ⟨h,h'⟩]
theorem Yhi{gt:D->Ro->Option Ro}{fc:Ro->Option Bool}{fe:Ro->Option D}{ρ:Ro}{α:Type}(enc:α->D)(p:α->Bool)(f:α->D):∀(l:List α),(∀a∈l,∃ρ1,gt (enc a) ρ=some ρ1/\fc ρ1=some (p a)/\(p a=true->fe ρ1=some (f a)))->
 Yf3 gt fc fe ρ (l.map enc)=some ((l.filter p).map f)
 | [],_=>rfl
 | a::l,h=>by
   obtain⟨ρ1,h1,h2,h3⟩:=h a qh
   have ih:=Yhi enc p f l fun b hb=>h b (qg _ hb)
   rw[qy,Yf3,h1,qd,h2,qd]
   cases hp:p a with
   | true=>
     rw[if_pos rfl,h3 hp,qd,ih,List.filter_cons_of_pos hp]
     rfl
   | false=>rw[if_neg qi,ih,List.filter_cons_of_neg (by rw[hp];exact qi)]
@[simp] theorem atI_zero{α:Type}(a:α)(l:List α):atI (a::l) 0=some a:=by
 have:=Yj9 (xs:=a::l) (j:=0) (v:=a) rfl
 simpa using this
@[simp] theorem atI_one{α:Type}(a b:α)(l:List α):atI (a::b::l) 1=some b:=by
 have:=Yj9 (xs:=a::b::l) (j:=1) (v:=b) rfl
 simpa using this
theorem Ye8{gt:D->Ro->Option Ro}{fb:Ro->Option Out}{α:Type}(enc:α->D)(I:List α->Ro->Prop):∀(l pre:List α) (ρ:Ro),I pre ρ->
 (∀q a r ρ,pre++l=q++a::r->I q ρ->∃ρ1 ρ2,gt (enc a) ρ=some ρ1/\fb ρ1=some (.nx ρ2)/\I (q++[a]) ρ2)->∃ρ',M.forM gt fb (l.map enc) ρ=some (.nx ρ')/\I (pre++l) ρ'
 | [],pre,ρ,h0,_=>⟨ρ,rfl,by rw[List.append_nil];exact h0⟩
 | a::l,pre,ρ,h0,hs=>by
   obtain⟨ρ1,ρ2,e1,e2,h2⟩:=hs pre a l ρ rfl h0
   obtain⟨ρ',e3,h3⟩:=Ye8 enc I l (pre++[a]) ρ2 h2 fun q b r ρ e hI=>hs q b r ρ (by rw[<-e,Qd];rfl) hI
   refine⟨ρ',?_,by rw[Qd]at h3;exact h3⟩
   rw[qy,M.forM,e1,qd,e2,qd]
   exact e3
theorem Yk0(a n:Int):rngD a n=(List.range (n - a).toNat).map fun i=>D.int (a+(i:Nat)):=rfl
theorem Yig{n:Int}(h:-1000000<=n)(h':n<=1000000):rng1 [.int n]=some (rngD 0 n):=by
 have hcap:(cap6:Int)=1000000:=by decide
 simp only[rng1]
 rw[if_pos]
 simp only[Bool.and_eq_true,decide_eq_true_eq]
 lia
end M
namespace M
open PySem L2
@[simp] theorem eqM_int(neg:Bool)(i j:Int):eqM neg (.int i) (.int j)=some (if neg then !decide (i=j)else decide (i=j)):=by
 rw[Ynt (by simp) (by simp),Yo7];rfl
@[simp] theorem isN_non(neg:Bool):isN neg .non .non=some (if neg then false else true):=by cases neg<;>rfl
@[simp] theorem isN_int(neg:Bool)(i:Int):isN neg (.int i) .non=some (if neg then true else false):=by cases neg<;>rfl
@[simp] theorem Yhj{α:Type}(f:α->Int):∀l:List α,Ydi (l.map fun a=>.int (f a))=some (l.map f)
 | []=>rfl
 | a::l=>by rw[qy,Ydi,Yhj f l];rfl
@[simp] theorem cap6_eq:cap6=1000000:=nr rfl
@[simp] theorem gV0(d:D)(r:Ro):getV 0 (some (.sh d)::r)=some d:=nr rfl
@[simp] theorem gC0(d:D)(r:Ro):getC 0 (some (.sh d)::r)=some d:=nr rfl
@[simp] theorem gC0o(l:List D)(r:Ro):getC 0 (some (.ow l)::r)=some (.lst l):=nr rfl
@[simp] theorem gO0(l:List D)(r:Ro):getO 0 (some (.ow l)::r)=some l:=nr rfl
@[simp] theorem gVs(n:Nat)(b:Option B)(r:Ro):getV (n+1) (b::r)=getV n r:=by simp[getV]
@[simp] theorem gCs(n:Nat)(b:Option B)(r:Ro):getC (n+1) (b::r)=getC n r:=by simp[getC]
@[simp] theorem gOs(n:Nat)(b:Option B)(r:Ro):getO (n+1) (b::r)=getO n r:=by simp[getO]
theorem Yo9{fe:Ro->Option D}{r:Ro}{α:Type}{enc:α->D}(f:α->D){l:List α}(h:∀a∈l,fe (some (.sh (enc a))::r)=some (f a)):Yf3 (gSet 0) tY fe (none::r) (l.map enc)=some (l.map f):=by
 have:=Yhi (gt:=gSet 0) (fc:=tY) (fe:=fe) (ρ:=none::r) enc (fun _=>true) f l fun a ha=>⟨_,rfl,rfl,fun _=>h a ha⟩
 rw[List.filter_eq_self.mpr (fun _ _=>rfl)]at this
 exact this
end M
namespace Bk
open PySem L2 M
abbrev Say:=Nat × Bool
inductive Kd where
 | e | s | i | n
 deriving DecidableEq
inductive Rl where
 | ei (l:List Say)
 | su (b:List Nat) (o:Bool)
 | im (b:List Nat) (h:Option Nat)
 deriving DecidableEq
abbrev nD(n:Nat):D:=.int n
def sayD(s:Say):D:=.tup [.int s.1,.bl s.2]
def optD:Option Nat->D
 | none=>.non
 | some n=>.int n
def at'(ev:List Bool)(n:Nat):Bool:=ev.getD n false
def In(k:Kd)(n:Nat):Rl->Prop
 | .ei l=>k=.e/\∀s∈l,s.1 < n
 | .su b _=>k=.s/\∀x∈b,x < n
 | .im b h=>(k=.i\/k=.n)/\(∀x∈b,x < n)/\∀x,h=some x->x < n
def hd(ev:List Bool)(w:Bool):Option Nat->Bool
 | none=>false
 | some x=>at' ev x==w
def nth(R:List Rl)(i:Nat):Rl:=R.getD i (.ei [])
def so(k:Kd)(ev:List Bool):Rl->Bool
 | .ei l=>l.any fun s=>at' ev s.1==s.2
 | .su b o=>decide ((b.filter (at' ev)).length % 2=1)==o
 | .im b h=>(b.any fun x=>at' ev x != decide (k=.i))||hd ev (decide (k=.i)) h
end Bk
namespace Bk
def brk(k:Kd)(ev:List Bool)(R:List Rl):List Nat:=(List.range R.length).filter fun i=>!so k ev (nth R i)
end Bk
namespace Bk
open PySem L2 M
def sz:Rl->Nat
 | .ei l=>l.length
 | .su b _=>b.length
 | .im b _=>b.length
end Bk
namespace Bk
end Bk
namespace Bk
open PySem L2 M
end Bk
namespace M
open PySem PySem.Spec PyProof.Rows L2
section
variable {K:W.Frag}
end
section
variable {K:W.Frag}
inductive OutW (τ:Type) where
 | nx (ρ:Ro) (t:τ) | rt (d:D) (t:τ) | bk (ρ:Ro) (t:τ) | ct (ρ:Ro) (t:τ)
def Off(l:Addr)(H H':Hp):Prop:=∀a,a≠l->H' a=H a
theorem Off.trans{l:Addr}{H H' H'':Hp}(a:Off l H H')(b:Off l H' H''):Off l H H'':=fun x hx=>(b x hx).trans (a x hx)
structure WR(K:W.Frag)(l:Addr)(o:HO)(H0 G0:Hp)(σ:L2.St)(H G:Hp)(ρ:Ro):Prop where
 sr:SR K H0 G0 σ H G ρ
 g0:G0 l=none
 h0:H0 l=some o
def ContW{τ:Type}(rep:τ->HO)(K:W.Frag)(l:Addr)(H0 G0:Hp)(F:Ends):OutW τ->Prop
 | .nx ρ' t=>∀σ' H' G' H1,Off l H0 H1->WR K l (rep t) H1 G0 σ' H' G' ρ'->F.nx σ' H'
 | .rt d t=>∀v H' G' H1,Off l H0 H1->H1 l=some (rep t)->Gr H1 G0 H' G'->Rp K G' d v->F.rt v H'
 | .bk ρ' t=>∀σ' H' G' H1,Off l H0 H1->WR K l (rep t) H1 G0 σ' H' G' ρ'->F.bk σ' H'
 | .ct ρ' t=>∀σ' H' G' H1,Off l H0 H1->WR K l (rep t) H1 G0 σ' H' G' ρ'->F.ct σ' H'
section
variable {τ:Type} {rep:τ->HO} {l:Addr} {H0 G0 H G H1:Hp} {σ:L2.St} {ρ:Ro} {o:HO} {F:Ends}
theorem ContW.off{out:OutW τ}(f:Off l H0 H1)(c:ContW rep K l H0 G0 F out):ContW rep K l H1 G0 F out:=by
 cases out with
 | nx ρ t=>exact fun σ' H' G' H2 g w=>c σ' H' G' H2 (f.trans g) w
 | rt d t=>exact fun v H' G' H2 g w=>c v H' G' H2 (f.trans g) w
 | bk ρ t=>exact fun σ' H' G' H2 g w=>c σ' H' G' H2 (f.trans g) w
 | ct ρ t=>exact fun σ' H' G' H2 g w=>c σ' H' G' H2 (f.trans g) w
theorem WR.no(w:WR K l o H0 G0 σ H G ρ):G l=none:=by
 cases h:G l with
 | none=>rfl
 | some u=>
   have:=w.sr.gr.n l w.g0 (by rw[h];exact fun z=>nomatch z)
   rw[w.h0]at this
   cases this
theorem WR.at(w:WR K l o H0 G0 σ H G ρ):H l=some o:=w.sr.gr.h _ _ w.h0
theorem WR.put(w:WR K l o H0 G0 σ H G ρ)(o':HO):WR K l o' (upd H0 l o') G0 σ (upd H l o') G ρ:=by
 have gl:=w.no
 have ne:∀{a:Addr},H0 a=none->a≠l:=fun h z=>by rw[z,w.h0]at h;cases h
 have s:=w.sr
 refine⟨⟨⟨fun b u e=>?_,s.gr.g,fun b u e=>?_,fun a h h'=>?_⟩,s.len,s.sh,fun i m e=>?_,s.ap,fun i t ks vs e=>?_,s.apd⟩,w.g0,Ym⟩
 ·by_cases z:b=l
  ·subst z;rw[Ym]at e ⊢;exact e
  ·rw[Yj z]at e ⊢;exact s.gr.h b u e
 ·rw[Yj (Yn e gl)];exact s.gr.s b u e
 ·have q:=s.gr.n a h h'
  rw[Yj (ne q)];exact q
 ·obtain⟨a,xs,q1,q2,q3,q4,q5⟩:=s.ow i m e
  exact⟨a,xs,q1,q2,by rw[Yj (ne q3)];exact q3,by rw[Yj (ne q3)];exact q4,q5⟩
 ·obtain⟨a,kxs,vxs,q1,q2,q3,q4,q5⟩:=s.od i t ks vs e
  exact⟨a,kxs,vxs,q1,q2,by rw[Yj (ne q3)];exact q3,q4.mono (Same.refl _) fun o z=>by rw[Yj (ne q3)];exact z,q5⟩
theorem Off.put(l:Addr)(H:Hp)(o:HO):Off l H (upd H l o):=fun _ h=>Yj h
theorem SR.rebaseW(s:SR K H0 G0 σ H G ρ)(hg:G l=none){o:HO}(h0:H0 l=some o):∃H1,SR K H1 G σ H G ρ/\H1 l=some o/\∀H2 σ' H' G' ρ',Off l H1 H2->SR K H2 G σ' H' G' ρ'->SR K (fun a=>if a=l then H2 l else H0 a) G0 σ' H' G' ρ':=by
 classical
 let own:Addr->Prop:=fun a=>∃(i:Nat),((∃l:List D,ρ[i]?=some (some (B.ow l)))\/(∃t ks vs,ρ[i]?=some (some (B.od t ks vs))))/\σ[i]?=some (some (V.ref a))
 have hh:∀a,own a->H0 a=none:=fun a ha=>by
  obtain⟨i,e1,e2⟩:=ha
  rcases e1 with⟨l,e1⟩ | ⟨t,ks,vs,e1⟩
  ·obtain⟨b,xs,q1,_,q3,_⟩:=s.ow i l e1
   rw[e2]at q1;cases q1;exact q3
  ·obtain⟨b,kxs,vxs,q1,_,q3,_⟩:=s.od i t ks vs e1
   rw[e2]at q1;cases q1;exact q3
 have hl:¬own l:=fun z=>by
  have:=hh l z
  rw[h0]at this;cases this
 have back:∀a,(if own a then (none:Option HO)else H a)=none->H0 a=none:=fun a h=>by
  by_cases o:own a
  ·exact hh a o
  ·rw[if_neg o]at h;exact s.gr.h.free h
 refine⟨fun a=>if own a then none else H a,⟨⟨fun b o e=>?_,Same.refl _,s.gr.s,fun _ h h'=>absurd h h'⟩,s.len,s.sh,fun i l e=>?_,s.ap,fun i t ks vs e=>?_,s.apd⟩,?_,fun H2 σ' H' G' ρ' f t=>?_⟩
 ·by_cases z:own b
  ·simp only[if_pos z]at e;cases e
  ·simp only[if_neg z]at e;exact e
 ·obtain⟨a,xs,q1,q2,q3,q4,q5⟩:=s.ow i l e
  exact⟨a,xs,q1,q2,if_pos ⟨i,.inl ⟨l,e⟩,q1⟩,q4,q5⟩
 ·obtain⟨a,kxs,vxs,q1,q2,q3,q4⟩:=s.od i t ks vs e
  exact⟨a,kxs,vxs,q1,q2,if_pos ⟨i,.inr ⟨t,ks,vs,e⟩,q1⟩,q4⟩
 ·show(if own l then none else H l)=some o
  rw[if_neg hl];exact s.gr.h _ _ h0
 ·have bk2:∀a,H2 a=none->(if a=l then H2 l else H0 a)=none:=fun a h=>by
   by_cases z:a=l
   ·rw[if_pos z];rw[z]at h;exact h
   ·rw[if_neg z]
    rw[f a z]at h
    exact back a h
  refine⟨⟨fun b u e=>?_,s.gr.g.trans t.gr.g,t.gr.s,fun b h h'=>?_⟩,t.len,t.sh,fun i l e=>?_,t.ap,fun i t1 ks vs e=>?_,t.apd⟩
  ·refine t.gr.h b u ?_
   by_cases z:b=l
   ·simp only[if_pos z]at e;rw[z];exact e
   ·simp only[if_neg z]at e
    rw[f b z]
    have z2:¬own b:=fun q=>by rw[hh b q]at e;cases e
    show(if own b then none else H b)=some u
    rw[if_neg z2];exact s.gr.h b u e
  ·by_cases z:G b=none
   ·exact bk2 b (t.gr.n b z h')
   ·have q:=s.gr.n b h z
    have nl:b≠l:=fun y=>z (by rw[y];exact hg)
    show(if b=l then H2 l else H0 b)=none
    rw[if_neg nl];exact q
  ·obtain⟨a,xs,q1,q2,q3,q4,q5⟩:=t.ow i l e
   exact⟨a,xs,q1,q2,bk2 a q3,q4,q5⟩
  ·obtain⟨a,kxs,vxs,q1,q2,q3,q4⟩:=t.od i t1 ks vs e
   exact⟨a,kxs,vxs,q1,q2,bk2 a q3,q4⟩
end
def sOfW{τ:Type}(rep:τ->HO)(K:W.Frag)(l:Addr)(f:Ro->τ->Option (OutW τ)):TS:=fun F σ H=>∃ρ t out H0 G0 G,f ρ t=some out/\WR K l (rep t) H0 G0 σ H G ρ/\ContW rep K l H0 G0 F out
abbrev WS{τ:Type}(rep:τ->HO)(X:Cx)(l:Addr)(st:Stmt)(f:Ro->τ->Option (OutW τ)):Prop:=PS X st (sOfW rep X.K l f)
abbrev WB{τ:Type}(rep:τ->HO)(X:Cx)(l:Addr)(sts:List Stmt)(f:Ro->τ->Option (OutW τ)):Prop:=PSs X sts (sOfW rep X.K l f)
def Yce{τ:Type}(f:Ro->Option Out):Ro->τ->Option (OutW τ):=fun ρ t=>(f ρ).map fun
 | .nx ρ'=>.nx ρ' t
 | .rt d=>.rt d t
 | .bk ρ'=>.bk ρ' t
 | .ct ρ'=>.ct ρ' t
def nilW{τ:Type}:Ro->τ->Option (OutW τ):=fun ρ t=>some (.nx ρ t)
def seqW{τ:Type}(f g:Ro->τ->Option (OutW τ)):Ro->τ->Option (OutW τ):=fun ρ t=>(f ρ t).bind fun
 | .nx ρ' t'=>g ρ' t'
 | o=>some o
def ifW{τ:Type}(c:Ro->τ->Option Bool)(f g:Ro->τ->Option (OutW τ)):Ro->τ->Option (OutW τ):=fun ρ t=>(c ρ t).bind fun k=>if k=true then f ρ t else g ρ t
def forW{τ:Type}(gt:D->Ro->Option Ro)(fb:Ro->τ->Option (OutW τ)):List D->Ro->τ->Option (OutW τ)
 | [],ρ,t=>some (.nx ρ t)
 | d::ds,ρ,t=>(gt d ρ).bind fun ρ1=>(fb ρ1 t).bind fun
   | .nx ρ2 t2=>forW gt fb ds ρ2 t2
   | .ct ρ2 t2=>forW gt fb ds ρ2 t2
   | .bk ρ2 t2=>some (.nx ρ2 t2)
   | .rt d t2=>some (.rt d t2)
def Yk1{τ:Type}(gl:Ro->Option (List D))(gt:D->Ro->Option Ro)(fb:Ro->τ->Option (OutW τ)):Ro->τ->Option (OutW τ):=fun ρ t=>(gl ρ).bind fun ds=>forW gt fb ds ρ t
section
variable {τ:Type} {rep:τ->HO} {X:Cx} {l:Addr} {st:Stmt} {sts:List Stmt} {fs gs:Ro->τ->Option (OutW τ)} {pos:Pos} {tg:Expr} {gl:Ro->Option (List D)}
theorem Ypa{f:Ro->Option Out}(h:MS X st f):WS rep X l st (Yce f):=PS.imp h fun F σ H hx_=>by
 obtain⟨ρ,t,out,H0,G0,G,e,w,c⟩:=hx_
 obtain⟨o,h1,rfl⟩:=qc e
 refine⟨ρ,o,H0,G0,G,h1,w.sr,?_⟩
 cases o with
 | nx ρ'=>exact fun σ' H' G' s'=>c σ' H' G' H0 (fun _ _=>rfl) ⟨s',w.g0,w.h0⟩
 | rt d=>exact fun v H' G' g r=>c v H' G' H0 (fun _ _=>rfl) w.h0 g r
 | bk ρ'=>exact fun σ' H' G' s'=>c σ' H' G' H0 (fun _ _=>rfl) ⟨s',w.g0,w.h0⟩
 | ct ρ'=>exact fun σ' H' G' s'=>c σ' H' G' H0 (fun _ _=>rfl) ⟨s',w.g0,w.h0⟩
theorem Yrw:WB rep X l [] (nilW (τ:=τ)):=PSs.imp Yjx fun F σ H hx_=>by
 obtain⟨ρ,t,out,H0,G0,G,e,w,c⟩:=hx_
 cases e
 exact c σ H G H0 (fun _ _=>rfl) w
theorem Yrx(h:WS rep X l st fs):WB rep X l [st] fs:=Yjy h
theorem Ypb(h1:WS rep X l st fs)(h2:WB rep X l sts gs):WB rep X l (st::sts) (seqW fs gs):=PSs.imp (Ygh h1 h2) fun F σ H hx_=>by
 obtain⟨ρ,t,out,H0,G0,G,e,w,c⟩:=hx_
 unfold seqW at e
 obtain⟨o,h3,e⟩:=qa e
 cases o with
 | nx ρ' t'=>exact⟨ρ,t,.nx ρ' t',H0,G0,G,h3,w,fun σ' H' G' H1 f w'=>⟨ρ',t',out,H1,G0,G',e,w',c.off f⟩⟩
 | rt d t'=>cases e;exact⟨ρ,t,.rt d t',H0,G0,G,h3,w,c⟩
 | bk ρ' t'=>cases e;exact⟨ρ,t,.bk ρ' t',H0,G0,G,h3,w,c⟩
 | ct ρ' t'=>cases e;exact⟨ρ,t,.ct ρ' t',H0,G0,G,h3,w,c⟩
def WT(rep:τ->HO)(X:Cx)(l:Addr)(c:Expr)(f:Ro->τ->Option Bool):Prop:=PT X c fun σ H Q=>∃ρ t k H0 G0 G,f ρ t=some k/\WR X.K l (rep t) H0 G0 σ H G ρ/\∀H' G',Gr H G H' G'->Q k H'
theorem Ypc{c:Expr}{f:Ro->Option Bool}(h:MT X c f):WT rep X l c fun ρ _=>f ρ:=PT.imp h fun σ H Q hx_=>by
 obtain⟨ρ,t,k,H0,G0,G,e,w,c⟩:=hx_
 exact⟨ρ,k,H0,G0,G,e,w.sr,c⟩
theorem Yry{c:Expr}{a b:List Stmt}{fc:Ro->τ->Option Bool}(hc:WT rep X l c fc)(ha:WB rep X l a fs)(hb:WB rep X l b gs):WS rep X l (.If c a b pos) (ifW fc fs gs):=PS.imp (Yp5 hc ha hb) fun F σ H hx_=>by
 obtain⟨ρ,t,out,H0,G0,G,e,w,c⟩:=hx_
 unfold ifW at e
 obtain⟨k,h1,e⟩:=qa e
 refine⟨ρ,t,k,H0,G0,G,h1,w,fun H1 G1 g1=>?_⟩
 have w1:WR X.K l (rep t) H0 G0 σ H1 G1 ρ:=⟨w.sr.grow g1,w.g0,w.h0⟩
 cases k with
 | true=>
   rw[if_pos rfl]at e
   exact iteT ⟨ρ,t,out,H0,G0,G1,e,w1,c⟩
 | false=>
   rw[if_neg qi]at e
   exact iteF ⟨ρ,t,out,H0,G0,G1,e,w1,c⟩
theorem Ycl{gt:D->Ro->Option Ro}{fb:Ro->τ->Option (OutW τ)}:∀(ds:List D) (ρ:Ro) (t:τ) (out:OutW τ),forW gt fb ds ρ t=some out->(∃ρ' t',out=.nx ρ' t')\/∃d t',out=.rt d t'
 | [],ρ,t,out,h=>by cases h;exact .inl ⟨_,_,rfl⟩
 | d::ds,ρ,t,out,h=>by
   rw[forW]at h
   obtain⟨ρ1,h1,h⟩:=qa h
   obtain⟨o,h2,h⟩:=qa h
   cases o with
   | nx ρ2 t2=>exact Ycl ds ρ2 t2 out h
   | ct ρ2 t2=>exact Ycl ds ρ2 t2 out h
   | bk ρ2 t2=>cases h;exact .inl ⟨_,_,rfl⟩
   | rt d t2=>cases h;exact .inr ⟨_,_,rfl⟩
theorem Yrz{iter:Expr}{body:List Stmt}{gt:D->Ro->Option Ro}(hp:PassesOwn (model X.prog X.w) X.A X.env X.xe)(hc:X.calm=true)(hi:MI X tg iter gl)(hg:MG X tg gt)(hb:WB rep X l body fs)
 (hs:∀x,foldedSetIterable iter X.env x=pure x:=by intro _;rfl):WS rep X l (.For tg iter body [] pos) (Yk1 gl gt fs):=
 PS.imp (Yj1 hp hc hi hg hb hs) fun F σ H hx_=>by
  obtain⟨ρ,t,out,H0,G0,G,e,w,h⟩:=hx_
  unfold Yk1 at e
  obtain⟨ds,h1,h2⟩:=qa e
  refine⟨ρ,ds,H0,G0,G,h1,w.sr,fun J H1 G1 g1 wk=>?_⟩
  have w1:WR X.K l (rep t) H0 G0 σ H1 G1 ρ:=⟨w.sr.grow g1,w.g0,w.h0⟩
  have hg1:=w1.no
  obtain⟨Hb,sb,hbl,back⟩:=w1.sr.rebaseW hg1 w.h0
  have hout:=Ycl ds ρ t out h2
  have bk:∀{Hc:Hp} {σ':L2.St} {H' G':Hp} {ρ':Ro} {t':τ},Off l Hb Hc->WR X.K l (rep t') Hc G1 σ' H' G' ρ'->∃Hd,Off l H0 Hd/\WR X.K l (rep t') Hd G0 σ' H' G' ρ':=fun {Hc σ' H' G' ρ' t'} f w'=>
   ⟨_,fun a ha=>if_neg ha,back Hc σ' H' G' ρ' f w'.sr,w.g0,by show(if l=l then Hc l else H0 l)=_;rw[if_pos rfl];exact w'.h0⟩
  refine⟨fun i m σ' H'=>m=ds.length - i/\i<=ds.length/\∃ρ' t' G' Hc,Off l Hb Hc/\WR X.K l (rep t') Hc G1 σ' H' G' ρ'/\forW gt fs (ds.drop i) ρ' t'=some out,⟨_,rfl,Nat.zero_le _,ρ,t,G1,Hb,fun _ _=>rfl,⟨sb,hg1,hbl⟩,h2⟩,?_⟩
  rintro i m σ' H' ⟨rfl,hi,ρ',t',G',Hc,fc,w',e'⟩
  have W:=wk.2 i H' G' w'.sr.gr.g w'.sr.seen
  by_cases hlt:i < ds.length
  ·have hd:ds[i]?=some ds[i]:=qp hlt
   obtain⟨go,yl⟩:=W.1 _ hd
   rw[List.drop_eq_getElem_cons hlt,forW]at e'
   obtain⟨ρ1,e1,e'⟩:=qa e'
   obtain⟨o,e2,e'⟩:=qa e'
   refine .inr ⟨go,fun σ' H'=>i+1<=ds.length/\∃ρ' t' G' Hc,Off l Hb Hc/\WR X.K l (rep t') Hc G1 σ' H' G' ρ'/\forW gt fs (ds.drop (i+1)) ρ' t'=some out,fun σ2 H2 q=>⟨ds.length - (i+1),by lia,rfl,q.1,q.2⟩,fun x H2 y=>?_⟩
   obtain⟨G2,g2,r2⟩:=yl x H2 y
   refine⟨_,ρ',ρ1,Hc,G1,G2,e1,w'.sr.grow g2,r2,fun σ3 s3=>?_⟩
   refine⟨ρ1,t',o,Hc,G1,G2,e2,⟨s3,hg1,w'.h0⟩,?_⟩
   cases o with
   | nx ρ2 t2=>exact fun σ4 H4 G4 Hd f4 w4=>⟨hlt,ρ2,t2,G4,Hd,fc.trans f4,w4,e'⟩
   | ct ρ2 t2=>exact fun σ4 H4 G4 Hd f4 w4=>⟨hlt,ρ2,t2,G4,Hd,fc.trans f4,w4,e'⟩
   | bk ρ2 t2=>
     cases e'
     exact fun σ4 H4 G4 Hd f4 w4=>by
      obtain⟨He,f5,w5⟩:=bk (fc.trans f4) w4
      exact h σ4 H4 G4 He f5 w5
   | rt d t2=>
     cases e'
     refine fun v H4 G4 Hd f4 h4 g4 r4=>?_
     obtain⟨He,f5,w5⟩:=bk (fc.trans f4) (σ':=[]) (ρ':=[]) (t':=t2) ⟨SR.mkSh g4 rfl (fun i d e=>(by simp at e)) (fun i l e=>(by simp at e)) (fun i t ks vs e=>(by simp at e)),hg1,h4⟩
     exact h v H4 G4 He f5 w5.h0 w5.sr.gr r4
  ·have ei:i=ds.length:=by lia
   subst ei
   rw[List.drop_length,forW]at e'
   cases e'
   obtain⟨He,f5,w5⟩:=bk fc w'
   exact .inl ⟨W.2 (qt _),h σ' H' G' He f5 w5⟩
end
end
section
variable {K:W.Frag}
end
section
variable {K:W.Frag}
end
section
variable {K:W.Frag}
def ifP(p:Prop)(a:Option Out):Option Out:=@ite _ p (Classical.propDecidable p) a none
theorem Yk2{p:Prop}{a:Option Out}(h:p):ifP p a=a:=@if_pos p (Classical.propDecidable p) h _ _ _
theorem Ymv{p:Prop}{a:Option Out}{o:Out}(e:ifP p a=some o):p/\a=some o:=by
 by_cases h:p
 ·rw[Yk2 h]at e
  exact⟨h,e⟩
 ·have:ifP p a=none:=@if_neg p (Classical.propDecidable p) h _ _ _
  rw[this]at e
  cases e
end
section
theorem Yfr(s:String):PyData.strOk (Str.ofString s)=true:=by
 rw[Str.ofString_eq_toList]
 unfold PyData.strOk
 simp only[List.all_toArray,List.all_map,List.all_eq_true,Function.comp_apply,decide_eq_true_eq]
 intro c _
 have h:=c.valid
 have e:c.toNat=c.val.toNat:=rfl
 rcases h with h | h
 ·have h:c.val.toNat < 0xd800:=h
  lia
 ·have h2:c.val.toNat < 0x110000:=h.2
  lia
theorem Yi1(a b:Str):PyData.strOk (a++b)=(PyData.strOk a&&PyData.strOk b):=by
 show(a.cps++b.cps).all _=_
 unfold PyData.strOk
 rw[Array.all_append]
theorem Yk3{sep:Str}(hs:PyData.strOk sep=true):∀(l:List Str) (acc:Array Nat),PyData.strOk ⟨acc⟩=true->(∀x∈l,PyData.strOk x=true)->PyData.strOk ⟨l.foldl (fun acc p=>acc++sep.cps++p.cps) acc⟩=true
 | [],_,h,_=>h
 | x::l,acc,h,hl=>by
   rw[List.foldl_cons]
   refine Yk3 hs l _ ?_ fun y hy=>hl y (.tail _ hy)
   have e:PyData.strOk ⟨acc++sep.cps++x.cps⟩=PyData.strOk (((⟨acc⟩:Str)++sep)++x):=rfl
   rw[e,Yi1,Yi1,h,hs,hl x (.head _)]
   rfl
theorem Ypd{sep:Str}(hs:PyData.strOk sep=true){l:List Str}(hl:∀x∈l,PyData.strOk x=true):PyData.strOk (Txt.join sep l)=true:=by
 cases l with
 | nil=>show PyData.strOk ⟨Str.empty.cps⟩=true;decide +kernel
 | cons x l=>exact Yk3 hs l x.cps (hl x (.head _)) fun y hy=>hl y (.tail _ hy)
theorem Yk4(a b:Str):(a++b).length=a.length+b.length:=by
 show(a.cps++b.cps).size=_
 rw[Array.size_append]
 rfl
theorem Yhk(sep:Str):∀(l:List Str) (n:Nat),l.foldl (fun(a:Nat) (s:Str)=>a+s.length+sep.length) n=n+(l.map fun x:Str=>sep.length+x.length).sum
 | [],n=>by simp
 | x::l,n=>by
   rw[List.foldl_cons,Yhk sep l]
   simp
   lia
theorem Yk5{sep:Str}{l:List Str}(h:(l.map fun x:Str=>sep.length+x.length).sum<=16000000):JoinOk sep l=true:=by
 unfold JoinOk
 rw[Bool.not_eq_true']
 unfold Builtin.Str.tooLong
 rw[List.foldl_toArray,Yhk]
 have:=sizeLine_eq
 simp
 lia
def strC:List D->Option D
 | [.int i]=>if i.natAbs < 2 ^ 64 then some (.str (Str.ofString (toString i)))else none
 | _=>none
def Yjn:List D->Option (List Str)
 | []=>some []
 | .str x::l=>(Yjn l).map (x::·)
 | _=>none
def Yhl(sep:Str):List D->Option D
 | [.lst l]=>(Yjn l).bind fun xs=>if JoinOk sep xs=true then some (.str (Txt.join sep xs))else none
 | _=>none
def fsD(x:Str):D->Option D
 | .int i=>if i.natAbs < 2 ^ 64/\(x++Str.ofString (toString i)).length<=1000000 then some (.str (x++Str.ofString (toString i)))else none
 | _=>none
def addS:D->D->Option D
 | .str a,.str b=>if a.length+b.length<=1000000 then some (.str (a++b))else none
 | _,_=>none
theorem Yhm{i:Int}(h:i.natAbs < 2 ^ 64):i.natAbs.log2 < 1920:=by
 by_cases h0:i.natAbs=0
 ·rw[h0];decide
 ·exact Nat.lt_trans ((Nat.log2_lt h0).mpr h) (by decide)
section
variable {K:W.Frag} {X:Cx} {e a b:Expr} {fa fb:Ro->Option D} {ga:Ro->Option (List D)} {pos cpos apos p p2:Pos}
theorem Ybm:SemC K (fun xs H Q=>∃i,xs=[.int i]/\i.natAbs.log2 < 1920/\Q (.str (Str.ofString (toString i))) H) strC:=by
 intro vs ds d H G Q h s r q
 match ds,h,r with
 | [.int i],h,r=>
   change (if i.natAbs < 2 ^ 64 then some (D.str (Str.ofString (toString i)))else none)=some d at h
   by_cases hi:i.natAbs < 2 ^ 64
   ·rw[if_pos hi]at h
    cases h
    obtain⟨v,rfl,rv⟩:=Ydg r
    rw[Ct]at rv
    subst rv
    exact⟨i,rfl,Yhm hi,q _ H G (.refl s) (by rw[Rp];exact⟨rfl,Yfr _⟩)⟩
   ·rw[if_neg hi]at h
    cases h
theorem Ymw:Sem2 K (fun x y H Q=>∃i j,x=.str i/\y=.str j/\i.length+j.length<=sizeLine/\Q (.str (i++j)) H) addS:=by
 intro x y dx dy d H G Q h s rx ry q
 match dx,dy,h,rx,ry with
 | .str a,.str b,h,rx,ry=>
   change (if a.length+b.length<=1000000 then some (D.str (a++b))else none)=some d at h
   by_cases hi:a.length+b.length<=1000000
   ·rw[if_pos hi]at h
    cases h
    rw[Ct]at rx ry
    have:=sizeLine_eq
    exact⟨a,b,rx.1,ry.1,by lia,q _ H G (.refl s) (by rw[Rp];exact⟨rfl,by rw[Yi1,rx.2,ry.2];rfl⟩)⟩
   ·rw[if_neg hi]at h
    cases h
theorem Ygd:∀{l:List D} {ts:List Str},Yjn l=some ts->l=ts.map D.str
 | [],ts,h=>by cases h;rfl
 | d::l,ts,h=>by
   cases d with
   | str x=>
     obtain⟨ts',h1,rfl⟩:=qc h
     rw[qy,<-Ygd h1]
   | _=>cases h
@[simp] theorem Yhn:∀ts:List Str,Yjn (ts.map D.str)=some ts
 | []=>rfl
 | x::ts=>by
   rw[qy,Yjn,Yhn ts]
   rfl
theorem Yi2{G:Hp}:∀{ts:List Str} {xs:List V},RpL K G (ts.map D.str) xs->xs=ts.map V.str/\∀x∈ts,PyData.strOk x=true
 | [],xs,r=>by
   rw[List.map_nil,RpL]at r
   exact⟨r,fun _ h=>nomatch h⟩
 | t::ts,xs,r=>by
   rw[qy,RpL]at r
   obtain⟨x,xr,rfl,rx,rr⟩:=r
   rw[Rp]at rx
   obtain⟨h1,h2⟩:=Yi2 rr
   exact⟨by rw[rx.1,h1];rfl,fun y hy=>by
    rcases qs hy with rfl | hy
    ·exact rx.2
    ·exact h2 y hy⟩
def Ys4(K:W.Frag):V->List V->Hp->VK->Prop:=fun x xs H Q=>∃sep a ts,x=.str sep/\xs=[.ref a]/\SqL K H a (ts.map V.str)/\JoinOk sep ts=true/\Q (.str (Txt.join sep ts)) H
theorem Yho:∀{ts:List Str} {its:List Value},Vals (ts.map V.str) its->∃l:List (Str × Tok),its=strValues l/\l.map (·.1)=ts
 | [],its,r=>by cases r;exact⟨[],rfl,rfl⟩
 | t::ts,its,r=>by
   cases r with
   | cons r1 r2=>
     obtain⟨tk,rfl⟩:=r1
     obtain⟨l,h1,h2⟩:=Yho r2
     exact⟨(t,tk)::l,by rw[h1];rfl,by rw[qy,h2]⟩
theorem Ype:MtR X "str.join" (Ys4 X.K):=by
 intro pins s σ H x xs v us Q I rx r h
 obtain⟨sep,a,ts,rfl,rfl,hq,hok,q⟩:=h
 obtain⟨tk,rfl⟩:=rx
 obtain⟨u,rfl,ru⟩:=Yh1 r
 cases ru
 obtain⟨its,rv,pl,hz⟩:=I.list hq
 obtain⟨l,rfl,hl⟩:=Yho rv
 exact SC.join pl.isList hl hok fun t' k=>⟨.str _,H,I.tok k,⟨_,rfl⟩,q⟩
theorem Ypf{sep:Str}{j}(ha:MCA X [e] ga)(hx:PyData.strOk sep=true:=by decide +kernel)
 (hbase:attributeBase (.Constant (.str sep) j p) "join" X.env (eval (.Constant (.str sep) j p) X.env)=eval (.Constant (.str sep) j p) X.env:=by rfl)
 (hfew:((backTo cpos (starEach [e] X.env)).all (fun x=>!x.1)&&(backToKw cpos (keywordEach [] X.env)).all (fun x=>x.1.isSome)
  &&decide ([e].length+([]:List Keyword).length+(if ([]:List Keyword).isEmpty then 0 else 1) < 30))=true:=by rfl)
 (hline:(apos.endLine==cpos.line)=true:=by rfl) (hs:starEach [e] X.env=(false,eval e X.env)::starEach [] X.env:=by rfl) (hplain:(backTo cpos (starEach [] X.env)).any (·.1)=false:=by rfl) :
 ME X (.Call (.Attribute (.Constant (.str sep) j p) "join" apos) [e] [] cpos) (cC ga (Yhl sep)):=
 PE.imp (Ymc F.plainAttrs_str F.slot_str_join F.type_str_join Ype Ynf ha hbase hfew hline hs hplain) fun σ H Q ⟨ρ,d,H0,G0,G,e,s,h⟩=>by
  unfold cC at e
  obtain⟨ds,h1,e⟩:=qa e
  refine⟨rfl,tCAof.at h1 s fun vs H1 G1 g1 r1 s1=>?_⟩
  unfold Yhl at e
  split at e
  case h_2=>cases e
  rename_i l
  obtain⟨ts,h2,e⟩:=qa e
  by_cases hok:JoinOk sep ts=true
  ·rw[if_pos hok]at e
   cases e
   obtain⟨v,rfl,rv⟩:=Ydg r1
   rw[Ct]at rv
   obtain⟨a,xs,rfl,hq,rl⟩:=rv
   rw[Ygd h2]at rl
   obtain⟨rfl,hoks⟩:=Yi2 rl
   exact⟨sep,a,ts,rfl,rfl,.inl hq,hok,h _ H1 G1 g1 (by rw[Rp];exact⟨rfl,Ypd hx hoks⟩)⟩
  ·rw[if_neg hok]at e
   cases e
theorem Ys5{x:Str}{j}(ha:MC X e fa)(hx:PyData.strOk x=true:=by decide +kernel)(hxl:x.length<=1000:=by decide +kernel) :
 ME X (.JoinedStr [.Constant (.str x) j p,.FormattedValue e (-1) none p2] pos) (b1 fa (fsD x)):=by
 intro pins s σ H Q I hq
 obtain⟨ρ,d,H0,G0,G,er,sr,h⟩:=hq
 obtain⟨y,h1,h2⟩:=Yb8 er
 have hsz:=sizeLine_eq
 have hem:(Str.empty++x:Str)=x:=by
  show(⟨Str.empty.cps++x.cps⟩:Str)=x
  have:Str.empty.cps=#[]:=rfl
  rw[this,Array.empty_append]
 refine wpAny_JoinedStr ?_
 show wpAny (model X.prog X.w) X.A (eval (.Constant (.str x) j p) X.env) _ X.xe s
 refine Calls.Constant_str ⟨x,_,rfl,by rw[hem];lia,?_⟩
 rw[hem]
 show wpAny (model X.prog X.w) X.A (eval (.FormattedValue e (-1) none p2) X.env) _ X.xe _
 refine wpAny_FormattedValue_plain (thn (ha pins _ σ H _ (I.tok _) (tCof.at h1 sr fun v H1 G1 g1 r1 s1=>(⟨G1,g1,r1⟩:∃G1,Gr H G H1 G1/\Ct X.K G1 H1 y v))) fun u s2 hx2=>?_)
 obtain⟨v,H2,I2,rv,G2,g2,r2⟩:=hx2
 cases y with
 | int i=>
   change (if i.natAbs < 2 ^ 64/\(x++Str.ofString (toString i)).length<=1000000 then some (D.str (x++Str.ofString (toString i)))else none)=some d at h2
   by_cases hi:i.natAbs < 2 ^ 64/\(x++Str.ofString (toString i)).length<=1000000
   ·rw[if_pos hi]at h2
    cases h2
    rw[Ct]at r2
    subst r2
    obtain⟨t,rfl⟩:=rv
    refine wpAny_formatField_int (Yhm hi.1) ⟨_,_,rfl,by lia,?_⟩
    exact⟨by lia,.str _,H2,(I2.tok _),⟨_,rfl⟩,h _ H2 G2 g2 (by rw[Rp];exact⟨rfl,by rw[Yi1,hx,Yfr];rfl⟩)⟩
   ·rw[if_neg hi]at h2
    cases h2
 | _=>cases h2
theorem Ypg(ha:MC X a fa)(hb:MC X b fb):ME X (.BinOp a .Add b pos) (b2 fa fb addS):=Yf9 Yjc Ymw ha hb
theorem Yi3{sep:Str}{j}(ha:ZCA X [e] ga)(hx:PyData.strOk sep=true:=by decide +kernel)
 (hbase:attributeBase (.Constant (.str sep) j p) "join" X.env (eval (.Constant (.str sep) j p) X.env)=eval (.Constant (.str sep) j p) X.env:=by rfl)
 (hfew:((backTo cpos (starEach [e] X.env)).all (fun x=>!x.1)&&(backToKw cpos (keywordEach [] X.env)).all (fun x=>x.1.isSome)
  &&decide ([e].length+([]:List Keyword).length+(if ([]:List Keyword).isEmpty then 0 else 1) < 30))=true:=by rfl)
 (hline:(apos.endLine==cpos.line)=true:=by rfl) (hs:starEach [e] X.env=(false,eval e X.env)::starEach [] X.env:=by rfl) (hplain:(backTo cpos (starEach [] X.env)).any (·.1)=false:=by rfl) :
 ZE X (.Call (.Attribute (.Constant (.str sep) j p) "join" apos) [e] [] cpos) (cC ga (Yhl sep)):=⟨Ypf ha.un hx hbase hfew hline hs hplain⟩
theorem Ynu{x:Str}{j}(ha:ZC X e fa)(hx:PyData.strOk x=true:=by decide +kernel)(hxl:x.length<=1000:=by decide +kernel) :
 ZE X (.JoinedStr [.Constant (.str x) j p,.FormattedValue e (-1) none p2] pos) (b1 fa (fsD x)):=⟨Ys5 ha.un hx hxl⟩
theorem Ymx(ha:ZC X a fa)(hb:ZC X b fb):ZE X (.BinOp a .Add b pos) (b2 fa fb addS):=⟨Ypg ha.un hb.un⟩
end
theorem nrT{α:Sort _}{a b:α}(h:a=b):a=b:=h
theorem Ymy(i:Int):strC [.int i]=if i.natAbs < 2 ^ 64 then some (.str (Str.ofString (toString i)))else none:=nrT rfl
theorem Yk6(sep:Str)(l:List D):Yhl sep [.lst l]=(Yjn l).bind fun xs=>if JoinOk sep xs=true then some (.str (Txt.join sep xs))else none:=nrT rfl
theorem Yph(x:Str)(i:Int):fsD x (.int i)=if i.natAbs < 2 ^ 64/\(x++Str.ofString (toString i)).length<=1000000 then some (.str (x++Str.ofString (toString i)))else none:=nrT rfl
theorem Ymz(a b:Str):addS (.str a) (.str b)=if a.length+b.length<=1000000 then some (.str (a++b))else none:=nrT rfl
end
section
abbrev tp(t:List Int):HO:=.lst (t.map V.int)
abbrev TmM:=Ro->List Int->Option (OutW (List Int))
abbrev Te:=Ro->List Int->Option (D × List Int)
abbrev Ta:=Ro->List Int->Option (List D × List Int)
def tWE(K:W.Frag)(l:Addr)(f:Te):TE:=fun σ H Q=>∃ρ t d t' H0 G0 G,f ρ t=some (d,t')/\WR K l (tp t) H0 G0 σ H G ρ/\∀v H' G' H1,Off l H0 H1->WR K l (tp t') H1 G0 σ H' G' ρ->Same G G'->Rp K G' d v->Q v H'
def tWA(K:W.Frag)(l:Addr)(f:Ta):TA:=fun σ H Q=>∃ρ t ds t' H0 G0 G,f ρ t=some (ds,t')/\WR K l (tp t) H0 G0 σ H G ρ/\∀vs H' G' H1,Off l H0 H1->WR K l (tp t') H1 G0 σ H' G' ρ->Same G G'->RpL K G' ds vs->Q vs H'
def tWF(K:W.Frag)(l:Addr)(f:Ta):TE:=fun σ H Q=>∃ρ t ds t' H0 G0 G,f ρ t=some (ds,t')/\WR K l (tp t) H0 G0 σ H G ρ/\∀p xs H' G' H1,Off l H0 H1->WR K l (tp t') H1 G0 σ H' G' ρ->Same G G'->H' p=some (.lst xs)->G' p=none->RpL K G' ds xs->Q (.ref p) H'
structure ZWE(X:Cx)(l:Addr)(e:Expr)(f:Te):Prop where
 un:PE X e (tWE X.K l f)
structure ZWA(X:Cx)(l:Addr)(es:List Expr)(f:Ta):Prop where
 un:PA X es (tWA X.K l f)
structure ZWF(X:Cx)(l:Addr)(e:Expr)(f:Ta):Prop where
 un:PE X e (tWF X.K l f)
structure ZTS(X:Cx)(l:Addr)(st:Stmt)(f:TmM):Prop where
 un:WS tp X l st f
structure ZTB(X:Cx)(l:Addr)(sts:List Stmt)(f:TmM):Prop where
 un:WB tp X l sts f
def Yb4(f:Ro->Option D):Te:=fun ρ t=>(f ρ).map fun d=>(d,t)
def binE(fa fb:Te)(g:D->D->Option D):Te:=fun ρ t=>(fa ρ t).bind fun p=>(fb ρ p.2).bind fun q=>(g p.1 q.1).map fun d=>(d,q.2)
def nilE:Ta:=fun _ t=>some ([],t)
def Ya8(fa:Te)(fb:Ta):Ta:=fun ρ t=>(fa ρ t).bind fun p=>(fb ρ p.2).map fun q=>(p.1::q.1,q.2)
def tupE(f:Ta):Te:=fun ρ t=>(f ρ t).bind fun p=>if p.1.length<=cap6 then some (.tup p.1,p.2)else none
section
variable {X:Cx} {l:Addr} {e a b:Expr} {es:List Expr} {f:Ro->Option D} {fa fb fe:Te} {ga:Ta} {pos:Pos}
theorem Off.rfl'{l:Addr}{H:Hp}:Off l H H:=fun _ _=>rfl
theorem WR.grow{K:W.Frag}{o:HO}{H0 G0 H G H' G':Hp}{σ:L2.St}{ρ:Ro}(w:WR K l o H0 G0 σ H G ρ)(g:Gr H G H' G'):WR K l o H0 G0 σ H' G' ρ:=⟨w.sr.grow g,w.g0,w.h0⟩
theorem Yae(h:ZE X e f):ZWE X l e (Yb4 f):=⟨PE.imp h.un fun σ H Q ⟨ρ,t,d,t',H0,G0,G,er,w,k⟩=>by
 obtain⟨d',h1,h2⟩:=qc er
 cases h2
 exact⟨ρ,d,H0,G0,G,h1,w.sr,fun v H' G' g r=>k v H' G' H0 Off.rfl' (w.grow g) g.g r⟩⟩
theorem Yk7{op:Operator}{r:R2}{g:D->D->Option D}(ho:OpR X (binaryOp op) r)(hr:Sem2 X.K r g)(ha:ZWE X l a fa)(hb:ZWE X l b fb):ZWE X l (.BinOp a op b pos) (binE fa fb g):=⟨PE.imp (Yn9 ho ha.un hb.un) fun σ H Q ⟨ρ,t,d,t',H0,G0,G,er,w,k⟩=>by
 obtain⟨⟨d1,t1⟩,h1,er⟩:=qa er
 obtain⟨⟨d2,t2⟩,h2,er⟩:=qa er
 obtain⟨d3,h3,h4⟩:=qc er
 cases h4
 exact⟨ρ,t,d1,t1,H0,G0,G,h1,w,fun v1 H1 G1 Ha f1 w1 s1 r1=>⟨ρ,t1,d2,t2,Ha,G0,G1,h2,w1,fun v2 H2 G2 Hb f2 w2 s2 r2=>hr v1 v2 d1 d2 d H2 G2 Q h3 w2.sr.seen (.of w2.sr.seen (r1.mono s2)) (.of w2.sr.seen r2) fun v H' G' g' rd=>k v H' G' Hb (f1.trans f2) (w2.grow g') (s1.trans (s2.trans g'.g)) rd⟩⟩⟩
theorem Yih(ha:ZWE X l a fa)(hb:ZWE X l b fb):ZWE X l (.BinOp a .Add b pos) (binE fa fb addI):=Yk7 Ynh Yh6 ha hb
theorem Ypi(ha:ZWE X l a fa)(hb:ZWE X l b fb):ZWE X l (.BinOp a .Mod b pos) (binE fa fb modI):=Yk7 Yni (Yix fun i j h=>by simpa using h) ha hb
theorem Ybx:ZWA X l [] nilE:=⟨PA.imp Yer fun σ H Q ⟨ρ,t,ds,t',H0,G0,G,er,w,k⟩=>by
 cases er
 exact k [] H G H0 Off.rfl' w (Same.refl _) .nil⟩
theorem Yw(ha:ZWE X l e fa)(hb:ZWA X l es ga)(hs:starEach (e::es) X.env=(false,eval e X.env)::starEach es X.env:=by rfl):ZWA X l (e::es) (Ya8 fa ga):=⟨PA.imp (Yb7 ha.un hb.un hs) fun σ H Q ⟨ρ,t,ds,t',H0,G0,G,er,w,k⟩=>by
 obtain⟨⟨d1,t1⟩,h1,er⟩:=qa er
 obtain⟨⟨d2,t2⟩,h2,h3⟩:=qc er
 cases h3
 exact⟨ρ,t,d1,t1,H0,G0,G,h1,w,fun v1 H1 G1 Ha f1 w1 s1 r1=>⟨ρ,t1,d2,t2,Ha,G0,G1,h2,w1,fun vs H2 G2 Hb f2 w2 s2 r2=>k (v1::vs) H2 G2 Hb (f1.trans f2) w2 (s1.trans s2) (.cons (r1.mono s2) r2)⟩⟩⟩
theorem Ycz{x1}(h:ZWA X l es ga):ZWE X l (.Tuple es x1 pos) (tupE ga):=⟨PE.imp (Ynj h.un) fun σ H Q ⟨ρ,t,d,t',H0,G0,G,er,w,k⟩=>by
 obtain⟨⟨ds,t1⟩,h1,er⟩:=qa er
 split at er
 ·rename_i hc
  cases er
  refine⟨ρ,t,ds,t1,H0,G0,G,h1,w,fun vs H1 G1 Ha f1 w1 s1 r1=>⟨by rw[r1.length];exact Yb9 hc,fun p hp=>?_⟩⟩
  have gn:=Gr.new w1.sr.seen hp (.tup vs)
  refine k _ _ _ Ha f1 (w1.grow gn) (s1.trans gn.g) ?_
  rw[Rp]
  exact⟨p,vs,rfl,Ym,r1.mono gn.g⟩
 ·cases er⟩
end
def spT(K:W.Frag)(n:Nat)(g:List D->List Int->Option (D × List Int)):Sp:=fun vs H Q _=>vs.length=n/\∃l vs' ds t d t' G,vs=.ref l::vs'/\Same G H/\G l=none/\H l=some (tp t)/\RpL K G ds vs'/\g ds t=some (d,t')/\
 ∀v H' G',(∀x o,x≠l->H x=some o->H' x=some o)->H' l=some (tp t')->Same G G'->Same G' H'->(∀a,G a=none->G' a≠none->H a=none)->Rp K G' d v->Q v H'
def OkT(P:Program)(w:World)(K:W.Frag)(mg:Str->Option Value)(base:Heap)(k n:Nat)(x:Str)(ps:List Str)(g:List D->List Int->Option (D × List Int)):Prop:=
 ∃a fd,FnOk P w K mg base CX0 k a fd ps (spT K n g)/\Binds K fd ps []/\W.keepIn K (.ref a)=true/\mg x=some (.ref a)
def runT(n:Nat)(g:Addr->TmM)(ds:List D)(t:List Int):Option (D × List Int):=@dite _ (∃p:D × List Int,∀l:Addr,g l (Yr n (.adr l::ds)) t=some (.rt p.1 p.2)) (Classical.propDecidable _) (fun h=>some h.choose) fun _=>none
theorem Yk8{n:Nat}{g:Addr->TmM}{ds:List D}{t t':List Int}{d:D}(h:runT n g ds t=some (d,t'))(l:Addr):g l (Yr n (.adr l::ds)) t=some (.rt d t'):=by
 unfold runT at h
 by_cases hp:∃p:D × List Int,∀l:Addr,g l (Yr n (.adr l::ds)) t=some (.rt p.1 p.2)
 ·rw[@dif_pos _ (Classical.propDecidable _) hp]at h
  have h1:=hp.choose_spec l
  rw[Option.some.inj h]at h1
  exact h1
 ·rw[@dif_neg _ (Classical.propDecidable _) hp]at h
  cases h
theorem Ydk{n:Nat}{g:Addr->TmM}{ds:List D}{t t':List Int}{d:D}(h:∀l:Addr,g l (Yr n (.adr l::ds)) t=some (.rt d t')):runT n g ds t=some (d,t'):=by
 have hp:∃p:D × List Int,∀l:Addr,g l (Yr n (.adr l::ds)) t=some (.rt p.1 p.2):=⟨(d,t'),h⟩
 unfold runT
 rw[@dif_pos _ (Classical.propDecidable _) hp]
 have h1:=hp.choose_spec 0
 rw[h 0]at h1
 injection h1 with h1
 injection h1 with h2 h3
 rw[h2,h3]
def Ybq(ga:Ro->Option (List D))(g:List D->List Int->Option (D × List Int)):Te:=fun ρ t=>(ga ρ).bind fun ds=>g ds t
def Yak(l i:Nat)(f:Te):Te:=fun ρ t=>match ρ[i]? with
 | some (some (.sh (.adr l')))=>if l'=l then f ρ t else none
 | _=>none
section
variable {X:Cx} {l:Addr} {e:Expr} {es:List Expr} {ga:Ro->Option (List D)} {g:List D->List Int->Option (D × List Int)} {p q cpos:Pos} {P:Program} {w:World} {K:W.Frag} {mg:Str->Option Value} {base:Heap}
theorem y7(i:Nat){j k n:Nat}{x y:Str}{ps:List Str}(c:OkT X.prog X.w X.K X.mg X.base j (n+1) x ps g)(hr:Room k X.A)(hg:Gl X x)(ha:ZA X es ga)(hl:∀ρ ds,ga ρ=some ds->ds.length=n)(hj:j<=k:=by first | exact qt _ | lia)
 (hi:X.N[i]?=some y:=by rfl) (hv:Vis X.env.scope y:=by first | exact Or.inl rfl | exact Or.inr (Or.inl rfl) | exact Or.inr (Or.inr rfl)) (hd:(y==("__debug__":Str))=false:=by decide) (hcd:(y==("__classdict__":Str))=false:=by decide)
 (hdb:(x==("__debug__":Str))=false:=by decide) (he:starEach (.Name y q::es) X.env=(false,eval (.Name y q) X.env)::starEach es X.env:=by rfl) (hpl:(backTo cpos (starEach es X.env)).any (·.1)=false:=by rfl) :
 ZWE X l (.Call (.Name x p) (.Name y q::es) [] cpos) (Yak l i (Ybq ga g)):=by
 obtain⟨a,fd,F,hb,hk,hm⟩:=c
 refine⟨PE.imp (Yh2 (E:=E0) (F.mono hj) hr hg hm hk hb .nil Yoi (Yb7 (Yfa hi hv hd hcd) ha.un he) hdb he hpl) fun σ H Q ⟨ρ,t,d,t',H0,G0,G,er,w,kk⟩=>?_⟩
 unfold Yak at er
 split at er
 ·rename_i l' hi'
  split at er
  ·rename_i hll
   subst hll
   obtain⟨ds,h1,h2⟩:=qa er
   obtain⟨v,q1,q2⟩:=w.sr.sh i _ hi'
   rw[Rp]at q2
   subst q2
   refine⟨_,q1,tAof.at h1 w.sr fun vs H1 G1 g1 r1 s1=>?_⟩
   have w1:WR X.K l' (tp t) H0 G0 σ H1 G1 ρ:=⟨s1,w.g0,w.h0⟩
   show spT X.K (n+1) g ((.ref l'::vs)++[]) H1 Q E0
   rw[List.append_nil]
   refine⟨by rw[qr,r1.length,hl ρ ds h1],l',vs,ds,t,d,t',G1,rfl,s1.seen,w1.no,w1.at,r1,h2,fun v H' G' keep hl' sm sm' nn rd=>?_⟩
   have w2:=w1.put (tp t')
   have gl':G' l'=none:=by
    cases z:G' l' with
    | none=>rfl
    | some o=>
      have:=nn l' w1.no (by rw[z];exact fun y=>nomatch y)
      rw[w1.at]at this
      cases this
   have g3:Gr (upd H1 l' (tp t')) G1 H' G':=⟨fun x o ho=>by
    by_cases z:x=l'
    ·subst z;rw[Ym]at ho;rw[<-ho];exact hl'
    ·rw[Yj z]at ho;exact keep x o z ho,sm,sm',fun x h h'=>by
    have z:x≠l':=fun z=>h' (by rw[z];exact gl')
    rw[Yj z];exact nn x h h'⟩
   exact kk v H' G' _ (Off.put l' H0 _) (w2.grow g3) (g1.g.trans sm) rd
  ·cases er
 ·cases er
theorem Ypj{x:Str}{st:Stmt}{f:Addr}{fd:FuncData}{qual:Str}{N ps:List Str}{k n m:Nat}{g:Addr->TmM}(F:Fun K x qual st f fd)(S:FnScope N ps (defScope st))(hn:N.length=n)(hm:ps.length=m)
 (hb:∀(l:Addr) (cdv:Value) (A:Around) (outer:List Env) (s:Shared) (H:Hp) (E:XK),Room k (A.deeper (envOfC qual (defScope st) s.heap.objs.size f cdv))->ZTB (cxOf CX0 P w K mg base N qual (defScope st) f cdv A outer s H E).nox l (defBody st) (g l)) :
 FnOk P w K mg base CX0 (k+1) f fd ps (spT K m (runT n g)):=by
 refine F.ok S (fun vs H Q E h=>by rw[h.1,hm]) fun cdv A outer s H vs Q E hr h=>?_
 obtain⟨hl,l,vs',ds,t,d,t',G,rfl,sm,gl,hll,rr,e,q⟩:=h
 refine⟨_,(hb l cdv A outer s H E hr).un,?_⟩
 have r:RpL K G (.adr l::ds) (V.ref l::vs'):=.cons (by rw[Rp]) rr
 have s0:SR K H G (start N (V.ref l::vs')) H G (Yr n (.adr l::ds)):=by
  rw[<-hn]
  exact SR.start (N:=N) sm r
 refine⟨_,t,.rt d t',H,G,G,Yk8 e l,⟨s0,gl,hll⟩,fun v H' G' H1 f1 h1 g1 r1=>q v H' G' (fun x o hx ho=>g1.h _ _ (by rw[f1 x hx];exact ho)) (g1.h _ _ h1) g1.g g1.s (fun a h h'=>?_) r1⟩
 have:=g1.n a h h'
 have z:a≠l:=fun z=>by rw[z,h1]at this;cases this
 rw[f1 a z]at this
 exact this
end
end
section
variable {K:W.Frag}
theorem Yi4{G:Hp}:∀t:List Int,RpL K G (t.map D.int) (t.map V.int)
 | []=>.nil
 | b::t=>.cons (by rw[Rp]) (Yi4 t)
def thT(l i:Nat)(ρ:Ro)(t:List Int):Option Ro:=match ρ[i]? with
 | some (some (.sh (.adr l')))=>if l'=l then some (ρ.set i (some (.sh (.lst (t.map D.int)))))else none
 | _=>none
section
variable {l:Addr} {H0 G0 H G:Hp} {σ:L2.St} {ρ ρ1:Ro} {t:List Int}
theorem WR.thawT{i:Nat}(w:WR K l (tp t) H0 G0 σ H G ρ)(e:thT l i ρ t=some ρ1):∃H2 G1,SR K H2 G0 σ H G1 ρ1/\∀H' G',Gr H G1 H' G'->Gr H G H' G:=by
 unfold thT at e
 split at e
 ·rename_i l' hi
  by_cases hl:l'=l
  ·rw[if_pos hl]at e
   cases e
   subst hl
   have s:=w.sr
   have gl:=w.no
   have ne:∀{a:Addr},H0 a=none->a≠l':=fun h z=>by rw[z,w.h0]at h;cases h
   have sm:Same G (upd G l' (tp t)):=fun b o e=>by rw[Yj (Yn e gl)];exact e
   refine⟨fun a=>if a=l' then none else H0 a,upd G l' (tp t),⟨⟨fun b o e=>?_,s.gr.g.trans sm,fun b o e=>?_,fun b h h'=>?_⟩,by simp[s.len],fun j d e=>?_,fun j m e=>?_,fun j k m m' a b' h1 h2 h3 h4 h5=>?_,fun j t1 ks vs e=>?_,fun j k ta ka va tb kb vb a b' h1 h2 h3 h4 h5=>?_⟩,fun H' G' g=>.back s.seen g⟩
   ·by_cases z:b=l'
    ·simp only[if_pos z]at e;cases e
    ·simp only[if_neg z]at e;exact s.gr.h b o e
   ·by_cases z:b=l'
    ·subst z;rw[Ym]at e;rw[<-e];exact w.at
    ·rw[Yj z]at e;exact s.gr.s b o e
   ·by_cases z:b=l'
    ·exact if_pos z
    ·rw[Yj z]at h'
     show(if b=l' then none else H0 b)=none
     rw[if_neg z];exact s.gr.n b h h'
   ·rcases Yg e with⟨rfl,e1,hlt⟩ | ⟨hj,e⟩
    ·cases e1
     obtain⟨v,q1,q2⟩:=s.sh j _ hi
     refine⟨v,q1,?_⟩
     rw[Rp]at q2
     rw[Rp]
     exact⟨l',t.map V.int,q2,.inl Ym,Yi4 t⟩
    ·obtain⟨v,q1,q2⟩:=s.sh j d e
     exact⟨v,q1,q2.mono sm⟩
   ·rcases Yg e with⟨rfl,e1,_⟩ | ⟨hj,e⟩
    ·cases e1
    ·obtain⟨a,xs,q1,q2,q3,q4,q5⟩:=s.ow j m e
     exact⟨a,xs,q1,by rw[Yj (ne q3)];exact q2,by show(if a=l' then none else H0 a)=none;rw[if_neg (ne q3)];exact q3,q4,q5.mono sm⟩
   ·rcases Yg h1 with⟨rfl,e1,_⟩ | ⟨hj,h1⟩
    ·cases e1
    ·rcases Yg h2 with⟨rfl,e1,_⟩ | ⟨hk,h2⟩
     ·cases e1
     ·exact s.ap j k m m' a b' h1 h2 h3 h4 h5
   ·rcases Yg e with⟨rfl,e1,_⟩ | ⟨hj,e⟩
    ·cases e1
    ·obtain⟨a,kxs,vxs,q1,q2,q3,q4,q5,q6⟩:=s.od j t1 ks vs e
     exact⟨a,kxs,vxs,q1,by rw[Yj (ne q3)];exact q2,by show(if a=l' then none else H0 a)=none;rw[if_neg (ne q3)];exact q3,q4.mono sm fun _ z=>z,q5.mono sm,q6.mono sm⟩
   ·rcases Yg h1 with⟨rfl,e1,_⟩ | ⟨hj,h1⟩
    ·cases e1
    ·rcases Yg h2 with⟨rfl,e1,_⟩ | ⟨hk,h2⟩
     ·cases e1
     ·exact s.apd j k ta ka va tb kb vb a b' h1 h2 h3 h4 h5
  ·rw[if_neg hl]at e
   cases e
 ·cases e
end
def Yk9(l i:Nat)(f:Ro->Option Bool):Ro->List Int->Option Bool:=fun ρ t=>(thT l i ρ t).bind f
def retE(f:Te):TmM:=fun ρ t=>(f ρ t).map fun p=>.rt p.1 p.2
def setE(i:Nat)(f:Te):TmM:=fun ρ t=>(f ρ t).map fun p=>.nx (ρ.set i (some (.sh p.1))) p.2
def appE(i:Nat)(f:Te):TmM:=fun ρ t=>(getO i ρ).bind fun xs=>if xs.length < 1000000 then (f ρ t).map fun p=>.nx (ρ.set i (some (.ow (xs++[p.1])))) p.2 else none
def popE(l i:Nat):Te:=fun ρ t=>match ρ[i]? with
 | some (some (.sh (.adr l')))=>if l'=l then (t.getLast?).map fun k=>(.int k,t.dropLast)else none
 | _=>none
def Ypk(ga:Ta)(m:List D->Option D):Te:=fun ρ t=>(ga ρ t).bind fun p=>(m p.1).map fun d=>(d,p.2)
def forE(f:Te)(gt:D->Ro->Option Ro)(fb:TmM):TmM:=fun ρ t=>(f ρ t).bind fun p=>(rng1 [p.1]).bind fun ds=>forW gt fb ds ρ p.2
section
variable {X:Cx} {l:Addr} {e c:Expr} {es:List Expr} {f:Ro->Option D} {fe:Te} {ga:Ta} {pos p:Pos} {st:Stmt} {sts:List Stmt} {fs gs:TmM}
theorem Yas{f:Ro->Option Out}(h:ZS X st f):ZTS X l st (Yce f):=⟨Ypa h.un⟩
theorem Ydl:ZTB X l [] nilW:=⟨Yrw⟩
theorem Yag(h:ZTS X l st fs):ZTB X l [st] fs:=⟨Yrx h.un⟩
theorem y3(h1:ZTS X l st fs)(h2:ZTB X l sts gs):ZTB X l (st::sts) (seqW fs gs):=⟨Ypb h1.un h2.un⟩
theorem Yeu{a b:List Stmt}{fc:Ro->Option Bool}(hc:ZT X c fc)(ha:ZTB X l a fs)(hb:ZTB X l b gs):ZTS X l (.If c a b pos) (ifW (fun ρ _=>fc ρ) fs gs):=⟨Yry (Ypc hc.un) ha.un hb.un⟩
theorem Ypl(i:Nat){a b:List Stmt}{fc:Ro->Option Bool}(hc:ZT X c fc)(ha:ZTB X l a fs)(hb:ZTB X l b gs):ZTS X l (.If c a b pos) (ifW (Yk9 l i fc) fs gs):=by
 have h:WT tp X l c (Yk9 l i fc):=PT.imp hc.un fun σ H Q hx_=>by
  obtain⟨ρ,t,k,H0,G0,G,er,w,q⟩:=hx_
  obtain⟨ρ1,h1,h2⟩:=qa er
  obtain⟨H2,G1,s1,bk⟩:=w.thawT h1
  exact⟨ρ1,k,H2,G0,G1,h2,s1,fun H' G' g=>q H' G (bk H' G' g)⟩
 exact⟨Yry h ha.un hb.un⟩
theorem Yc0(h:ZWE X l e fe):ZTS X l (.Return (some e) pos) (retE fe):=⟨PS.imp (Yng h.un) fun F σ H hx_=>by
 obtain⟨ρ,t,out,H0,G0,G,er,w,q⟩:=hx_
 obtain⟨⟨d,t'⟩,h1,rfl⟩:=qc er
 exact⟨ρ,t,d,t',H0,G0,G,h1,w,fun v H' G' H1 f1 w1 s1 r1=>q v H' G' H1 f1 w1.h0 w1.sr.gr r1⟩⟩
theorem Yc1(i:Nat){x:Str}{pos':Pos}(hN:X.N.Nodup)(h:ZWE X l e fe)(hi:X.N[i]?=some x:=by rfl)(hx:Loc X.env.scope x:=by first | exact Or.inl rfl | exact Or.inr rfl)(hs:swapsWith e (some (.Name x pos')) pos.line X.env=pure false:=by rfl)
 (hf:X.fn x=true\/X.env.scope.names.lookup x=some .local:=by first | exact .inl rfl | exact .inr rfl):ZTS X l (.Assign [.Name x pos'] e pos) (setE i fe):=⟨PS.imp (Yit hN hi hx h.un hs hf) fun F σ H hx_=>by
 obtain⟨ρ,t,out,H0,G0,G,er,w,q⟩:=hx_
 obtain⟨⟨d,t'⟩,h1,rfl⟩:=qc er
 exact⟨ρ,t,d,t',H0,G0,G,h1,w,fun v H' G' H1 f1 w1 s1 r1=>q _ H' G' H1 f1 ⟨w1.sr.set_sh i r1,w1.g0,w1.h0⟩⟩⟩
theorem Yla(i:Nat){x:Str}{p2 apos cpos:Pos}(he:ZWE X l e fe)(hN:X.N[i]?=some x:=by rfl)(hv:Vis X.env.scope x:=by first | exact Or.inl rfl | exact Or.inr (Or.inl rfl) | exact Or.inr (Or.inr rfl))
 (hd:(x==("__debug__":Str))=false:=by decide) (hcd:(x==("__classdict__":Str))=false:=by decide) (hse:swapsWith (.Call (.Attribute (.Name x p2) "append" apos) [e] [] cpos) none pos.line X.env=pure false:=by rfl)
 (hs:starEach [e] X.env=[(false,eval e X.env)]:=by rfl)
 (hfew:((backTo cpos (starEach [e] X.env)).all (fun x=>!x.1)&&(backToKw cpos (keywordEach [] X.env)).all (fun x=>x.1.isSome)&&decide ([e].length+([]:List Keyword).length+(if ([]:List Keyword).isEmpty then 0 else 1) < 30))=true:=by rfl)
 (hline:(apos.endLine==cpos.line)=true:=by rfl) (hbase:attributeBase (.Name x p2) "append" X.env (eval (.Name x p2) X.env)=eval (.Name x p2) X.env:=by rfl) :
 ZTS X l (.Expr (.Call (.Attribute (.Name x p2) "append" apos) [e] [] cpos) pos) (appE i fe):=
 ⟨PS.imp (Yhy (Ymc PySem.F.plainAttrs_list PySem.F.slot_list_append PySem.F.type_list_append Yfg (Yfa hN hv hd hcd) (Yb7 he.un Yer hs) hbase hfew hline hs rfl) hse) fun F σ H hx_=>by
  obtain⟨ρ,t,out,H0,G0,G,er,w,q⟩:=hx_
  obtain⟨xs,h1,er⟩:=qa er
  split at er
  ·rename_i hl
   obtain⟨⟨d,t'⟩,h2,rfl⟩:=qc er
   obtain⟨a,ys,ha,hH,hr,hG⟩:=Yiz w.sr h1
   refine⟨_,ha,.inl ⟨rfl,ys,SqL.of hH⟩,ρ,t,d,t',H0,G0,G,h2,w,fun v H' G' H1 f1 w1 s1 r1=>?_⟩
   obtain⟨a2,ys2,ha2,hH2,hr2,hG2⟩:=Yiz w1.sr h1
   rw[ha]at ha2
   cases ha2
   refine⟨a,ys2,v,rfl,rfl,hH2,?_,q σ _ G' H1 f1 ⟨w1.sr.mut (Yd4 h1) ha (hr2.append (.one r1)),w1.g0,w1.h0⟩⟩
   rw[hr2.length]
   exact qz hl (Yb9 (qt _))
  ·cases er⟩
theorem Ypm(i:Nat){x:Str}{p1 apos cpos:Pos}(hN:X.N[i]?=some x:=by rfl)(hv:Vis X.env.scope x:=by first | exact Or.inl rfl | exact Or.inr (Or.inl rfl) | exact Or.inr (Or.inr rfl))
 (hd:(x==("__debug__":Str))=false:=by decide) (hcd:(x==("__classdict__":Str))=false:=by decide) (hline:(apos.endLine==cpos.line)=true:=by rfl) (hbase:attributeBase (.Name x p1) "pop" X.env (eval (.Name x p1) X.env)=eval (.Name x p1) X.env:=by rfl) :
 ZWE X l (.Call (.Attribute (.Name x p1) "pop" apos) [] [] cpos) (popE l i):=
 ⟨PE.imp (Yqm PySem.F.plainAttrs_list PySem.F.slot_list_pop PySem.F.type_list_pop Yqn (Yfa hN hv hd hcd) hbase hline) fun σ H Q hx_=>by
  obtain⟨ρ,t,d,t',H0,G0,G,er,w,q⟩:=hx_
  unfold popE at er
  split at er
  ·rename_i l' hi
   split at er
   ·rename_i hll
    subst hll
    obtain⟨k,h1,h2⟩:=qc er
    cases h2
    obtain⟨v,q1,q2⟩:=w.sr.sh i _ hi
    rw[Rp]at q2
    subst q2
    refine⟨_,q1,.inl ⟨rfl,_,SqL.of w.at⟩,l',t.map V.int,.int k,rfl,rfl,w.at,?_,?_⟩
    ·rw[qf,Qa]
     have:t[t.length - 1]?=some k:=by rw[<-List.getLast?_eq_getElem?];exact h1
     rw[this]
     rfl
    ·have w2:=w.put (tp t.dropLast)
     have e2:(t.map V.int).dropLast=t.dropLast.map V.int:=by rw[List.map_dropLast]
     rw[e2]
     exact q _ _ G _ (Off.put l' H0 _) w2 (Same.refl _) (by rw[Rp])
   ·cases er
  ·cases er⟩
theorem Ylb{j k n:Nat}{x:Str}{ps:List Str}{m:List D->Option D}{cpos:Pos}(c:Okf X.prog X.w X.K X.mg X.base j n x ps m)(hr:Room k X.A)(hg:Gl X x)(ha:ZWA X l (e::es) ga)(hl:∀ρ t ds t',ga ρ t=some (ds,t')->ds.length=n)(hj:j<=k:=by first | exact qt _ | lia)(hdb:(x==("__debug__":Str))=false:=by decide)
 (he:starEach (e::es) X.env=(false,eval e X.env)::starEach es X.env:=by rfl) (hpl:(backTo cpos (starEach es X.env)).any (·.1)=false:=by rfl):ZWE X l (.Call (.Name x p) (e::es) [] cpos) (Ypk ga m):=by
 obtain⟨a,fd,F,hb,hk,hm⟩:=c
 refine⟨PE.imp (Yh2 (E:=E0) (F.mono hj) hr hg hm hk hb .nil Yoi ha.un hdb he hpl) fun σ H Q ⟨ρ,t,d,t',H0,G0,G,er,w,q⟩=>?_⟩
 obtain⟨⟨ds,t1⟩,h1,er⟩:=qa er
 obtain⟨d',h2,h3⟩:=qc er
 cases h3
 refine⟨ρ,t,ds,t1,H0,G0,G,h1,w,fun vs H1 G1 Ha f1 w1 s1 r1=>?_⟩
 show spOf X.K n m (vs++[]) H1 Q E0
 rw[List.append_nil]
 exact⟨by rw[r1.length];exact hl ρ t ds t1 h1,ds,d,G1,w1.sr.seen,r1,h2,fun v H' G' g' rd=>q v H' G' Ha f1 (w1.grow g') (s1.trans g'.g) rd⟩
theorem Ylc{tg:Expr}{body:List Stmt}{gt:D->Ro->Option Ro}{a:Expr}{pr ip:Pos}(hp:PassesOwn (model X.prog X.w) X.A X.env X.xe)(hc:X.calm=true)(hgr:Gl X "range")(hm:X.mg "range"=none)(ha:ZWE X l a fe)(hg:ZG X tg gt)(hb:ZTB X l body fs)
 (hsa:starEach [a] X.env=[(false,eval a X.env)]:=by rfl) (hs:∀x,foldedSetIterable (.Call (.Name "range" pr) [a] [] ip) X.env x=pure x:=by intro _;rfl):ZTS X l (.For tg (.Call (.Name "range" pr) [a] [] ip) body [] pos) (forE fe gt fs):=
 ⟨PS.imp (Yj1 hp hc (Yfc hgr hm (Yw ha Ybx hsa).un hsa) hg.un hb.un hs) fun F σ H hx_=>by
  obtain⟨ρ,t0,out,H0,G0,G,er,w,h⟩:=hx_
  obtain⟨⟨d,t⟩,h0,er⟩:=qa er
  obtain⟨ds,h1,h2⟩:=qa er
  refine⟨ρ,t0,[d],t,H0,G0,G,by unfold Ya8 nilE;rw[h0];rfl,w,fun vs H1 G1 Ha fa w1 sm1 r1=>?_⟩
  obtain⟨n,he,c1,c2,rfl⟩:=Yfn h1
  cases he
  obtain⟨v,rfl,rv⟩:=Yfl r1
  rw[Rp]at rv
  subst rv
  refine⟨n,rfl,by lia,by lia,?_⟩
  have wk:Wk X.K (Itr 0 (n - 0).toNat) G1 (rngD 0 n):=Ykn (Yb9 (by unfold cap6;lia))
  have h:=h.off fa
  generalize rngD 0 n=ds at *
  rw[Int.sub_zero]at wk
  generalize Itr 0 n.toNat=J at *
  have hg1:=w1.no
  obtain⟨Hb,sb,hbl,back⟩:=w1.sr.rebaseW hg1 w1.h0
  have hout:=Ycl ds ρ t out h2
  have bk:∀{Hc:Hp} {σ':L2.St} {H' G':Hp} {ρ':Ro} {t':List Int},Off l Hb Hc->WR X.K l (tp t') Hc G1 σ' H' G' ρ'->∃Hd,Off l Ha Hd/\WR X.K l (tp t') Hd G0 σ' H' G' ρ':=fun {Hc σ' H' G' ρ' t'} f w'=>
   ⟨_,fun a ha=>if_neg ha,back Hc σ' H' G' ρ' f w'.sr,w1.g0,by show(if l=l then Hc l else Ha l)=_;rw[if_pos rfl];exact w'.h0⟩
  refine⟨fun i m σ' H'=>m=ds.length - i/\i<=ds.length/\∃ρ' t' G' Hc,Off l Hb Hc/\WR X.K l (tp t') Hc G1 σ' H' G' ρ'/\forW gt fs (ds.drop i) ρ' t'=some out,⟨_,rfl,Nat.zero_le _,ρ,t,G1,Hb,fun _ _=>rfl,⟨sb,hg1,hbl⟩,h2⟩,?_⟩
  rintro i m σ' H' ⟨rfl,hi,ρ',t',G',Hc,fc,w',e'⟩
  have W:=wk.2 i H' G' w'.sr.gr.g w'.sr.seen
  by_cases hlt:i < ds.length
  ·have hd:ds[i]?=some ds[i]:=qp hlt
   obtain⟨go,yl⟩:=W.1 _ hd
   rw[List.drop_eq_getElem_cons hlt,forW]at e'
   obtain⟨ρ1,e1,e'⟩:=qa e'
   obtain⟨o,e2,e'⟩:=qa e'
   refine .inr ⟨go,fun σ' H'=>i+1<=ds.length/\∃ρ' t' G' Hc,Off l Hb Hc/\WR X.K l (tp t') Hc G1 σ' H' G' ρ'/\forW gt fs (ds.drop (i+1)) ρ' t'=some out,fun σ2 H2 q=>⟨ds.length - (i+1),by lia,rfl,q.1,q.2⟩,fun x H2 y=>?_⟩
   obtain⟨G2,g2,r2⟩:=yl x H2 y
   refine⟨_,ρ',ρ1,Hc,G1,G2,e1,w'.sr.grow g2,r2,fun σ3 s3=>?_⟩
   refine⟨ρ1,t',o,Hc,G1,G2,e2,⟨s3,hg1,w'.h0⟩,?_⟩
   cases o with
   | nx ρ2 t2=>exact fun σ4 H4 G4 Hd f4 w4=>⟨hlt,ρ2,t2,G4,Hd,fc.trans f4,w4,e'⟩
   | ct ρ2 t2=>exact fun σ4 H4 G4 Hd f4 w4=>⟨hlt,ρ2,t2,G4,Hd,fc.trans f4,w4,e'⟩
   | bk ρ2 t2=>
     cases e'
     exact fun σ4 H4 G4 Hd f4 w4=>by
      obtain⟨He,f5,w5⟩:=bk (fc.trans f4) w4
      exact h σ4 H4 G4 He f5 w5
   | rt d t2=>
     cases e'
     refine fun v H4 G4 Hd f4 h4 g4 r4=>?_
     obtain⟨He,f5,w5⟩:=bk (fc.trans f4) (σ':=[]) (ρ':=[]) (t':=t2) ⟨SR.mkSh g4 rfl (fun i d e=>(by simp at e)) (fun i l e=>(by simp at e)) (fun i t ks vs e=>(by simp at e)),hg1,h4⟩
     exact h v H4 G4 He f5 w5.h0 w5.sr.gr r4
  ·have ei:i=ds.length:=by lia
   subst ei
   rw[List.drop_length,forW]at e'
   cases e'
   obtain⟨He,f5,w5⟩:=bk fc w'
   exact .inl ⟨W.2 (qt _),h σ' H' G' He f5 w5⟩⟩
end
end
section
def Yhp(gt:D->Ro->Option Ro)(fe:Te)(ρ:Ro):List D->List Int->Option (List D × List Int)
 | [],t=>some ([],t)
 | d::ds,t=>(gt d ρ).bind fun ρ1=>(fe ρ1 t).bind fun p=>(Yhp gt fe ρ ds p.2).map fun q=>(p.1::q.1,q.2)
def Yhq(f:Te)(src:List (Option Nat))(gt:D->Ro->Option Ro)(fe:Te):Ta:=fun ρ t=>(f ρ t).bind fun p=>(rng1 [p.1]).bind fun ds=>Yhp gt fe (capR src ρ) ds p.2
section
variable {X:Cx} {l:Addr} {e a elt tg:Expr} {scope:Scope} {N:List Str} {src:List (Option Nat)} {gt:D->Ro->Option Ro} {fa fe:Te} {ga:Ta} {pos p pr ip:Pos}
theorem Ym0{K:W.Frag}(hle:∀ρ d ρ1,gt d (capR src ρ)=some ρ1->Le (capR src ρ) ρ1){σ:L2.St}{H:Hp}{Q:VK}
 (h:tWF K l (Yhq fa src gt fe) σ H Q):tLC (Yp7 (tWA K l (Ya8 fa nilE))) src (gOf K gt) (tTof K tY) (tWE K l fe) σ H Q:=by
 obtain⟨ρ,t0,dsR,t',H0,G0,G,er,w,k⟩:=h
 obtain⟨⟨d,t⟩,h0,er⟩:=qa er
 obtain⟨ds,h1,h2⟩:=qa er
 refine⟨ρ,t0,[d],t,H0,G0,G,by unfold Ya8 nilE;rw[h0];rfl,w,fun vs H1 G1 Ha fa1 w1 sm1 r1=>?_⟩
 obtain⟨n,he,c1,c2,rfl⟩:=Yfn h1
 cases he
 obtain⟨v,rfl,rv⟩:=Yfl r1
 rw[Rp]at rv
 subst rv
 refine⟨n,rfl,by lia,by lia,?_⟩
 have wk:Wk K (Itr 0 (n - 0).toNat) G1 (rngD 0 n):=Ykn (Yb9 (by unfold cap6;lia))
 generalize rngD 0 n=ds at *
 rw[Int.sub_zero]at wk
 generalize Itr 0 n.toNat=J at *
 intro p hp
 have hpl:p≠l:=fun z=>by rw[z,w1.at]at hp;cases hp
 have gp:G1 p=none:=w1.sr.seen.free hp
 have noow:∀(i:Nat) l,(capR src ρ)[i]?≠some (some (B.ow l)):=fun i l h=>by
  unfold capR at h
  rw[Qa]at h
  obtain⟨o,h1,h2⟩:=qc h
  obtain⟨j,rfl,h3⟩:=qa h2
  split at h3<;>cases h3
 have nood:∀(i:Nat) t ks vs,(capR src ρ)[i]?≠some (some (B.od t ks vs)):=fun i t ks vs h=>by
  unfold capR at h
  rw[Qa]at h
  obtain⟨o,h1,h2⟩:=qc h
  obtain⟨j,rfl,h3⟩:=qa h2
  split at h3<;>cases h3
 have sc:=w1.sr.cap src
 refine⟨fun i m σ' H'=>m=ds.length - i/\i<=ds.length/\∃G' done xs rest tt Hc,Off l H1 Hc/\WR K l (tp tt) Hc G1 σ' H' G' (capR src ρ)/\H' p=some (.lst xs)/\G' p=none/\RpL K G' done xs/\xs.length<=i/\Yhp gt fe (capR src ρ) (ds.drop i) tt=some (rest,t')/\done++rest=dsR,
  ⟨_,rfl,Nat.zero_le _,G1,[],[],dsR,t,H1,Off.rfl',⟨sc.grow (Gr.hid w1.sr.seen hp _),w1.no,w1.at⟩,Ym,gp,.nil,Nat.zero_le _,h2,rfl⟩,?_⟩
 rintro i m σ' H' ⟨rfl,hi,G',done,xs,rest,tt,Hc,fc,w',hx,gx,rx,hl,e',hd⟩
 have W:=wk.2 i H' G' w'.sr.gr.g w'.sr.seen
 have hcp:Hc p=none:=by rw[fc p hpl];exact hp
 by_cases hlt:i < ds.length
 ·have hdi:ds[i]?=some ds[i]:=qp hlt
  obtain⟨go,yl⟩:=W.1 _ hdi
  rw[List.drop_eq_getElem_cons hlt,Yhp]at e'
  obtain⟨ρ1,e1,e'⟩:=qa e'
  obtain⟨⟨v,t2⟩,e2,e'⟩:=qa e'
  obtain⟨⟨rest',t3⟩,e3,e4⟩:=qc e'
  cases e4
  refine .inr ⟨go,fun x H2 y=>?_⟩
  obtain⟨G2,g2,r2⟩:=yl x H2 y
  have w2:=w'.grow g2
  have hx2:H2 p=some (.lst xs):=g2.h _ _ hx
  have gx2:G2 p=none:=Yd3 g2 hx gx
  have s2b:SR K H2 G2 σ' H2 G2 (capR src ρ):=SR.mkSh (Gr.refl w2.sr.seen) w2.sr.len w2.sr.sh noow nood
  refine⟨_,capR src ρ,ρ1,H2,G2,G2,e1,s2b,r2,fun σ3 s3=>?_⟩
  refine tTof.at (b:=true) rfl s3 fun H4 G4 g4 s4=>?_
  have le:=hle ρ _ ρ1 e1
  rw[if_pos rfl]
  refine⟨ρ1,tt,v,t2,H2,G2,G4,e2,⟨s4,w2.no,w2.at⟩,fun vv H5 G5 Hd fd w5 sm5 r5=>?_⟩
  have hdp:Hd p=some (.lst xs):=by rw[fd p hpl];exact hx2
  have hx5:H5 p=some (.lst xs):=w5.sr.gr.h _ _ hdp
  have gx5:G5 p=none:=Yd3 w5.sr.gr hdp gx2
  have hz:=wk.1
  have smg:Same G' G5:=g2.g.trans w5.sr.gr.g
  have s6:=w5.sr.le le
  refine⟨xs,hx5,by lia,ds.length - (i+1),by lia,rfl,hlt,G5,done++[v],xs++[vv],rest',t2,fun x=>if x=l then Hd l else Hc x,fun x hx=>?_,⟨SR.mkSh ⟨fun b o q=>?_,w'.sr.gr.g.trans smg,fun b o q=>?_,fun b q q'=>?_⟩ s6.len s6.sh noow nood,w1.no,?_⟩,Ym,gx5,(rx.mono smg).append (.one r5),by simp;lia,e3,by simpa using hd⟩
  ·show(if x=l then Hd l else Hc x)=_
   rw[if_neg hx];exact fc x hx
  ·change (if b=l then Hd l else Hc b)=some o at q
   by_cases z:b=l
   ·rw[if_pos z]at q
    have z2:b≠p:=fun y=>hpl (by rw[<-y,z])
    rw[Yj z2,z];exact w5.sr.gr.h _ _ q
   ·rw[if_neg z]at q
    have z2:b≠p:=fun y=>by rw[y,hcp]at q;cases q
    rw[Yj z2]
    exact w5.sr.gr.h _ _ (by rw[fd b z];exact g2.h _ _ (w'.sr.gr.h _ _ q))
  ·rw[Yj (Yn q gx5)];exact w5.sr.seen b o q
  ·show(if b=l then Hd l else Hc b)=none
   by_cases z3:G' b=none
   ·by_cases z4:G2 b=none
    ·have h6:=w5.sr.gr.n b z4 q'
     have z:b≠l:=fun z=>by rw[z,w5.h0]at h6;cases h6
     rw[if_neg z]
     rw[fd b z]at h6
     exact w'.sr.gr.h.free (g2.h.free h6)
    ·have h6:=g2.n b z3 z4
     have z:b≠l:=fun z=>by rw[z,w'.at]at h6;cases h6
     rw[if_neg z]
     exact w'.sr.gr.h.free h6
   ·have h6:=w'.sr.gr.n b q z3
    have z:b≠l:=fun z=>by rw[z,w'.h0]at h6;cases h6
    rw[if_neg z];exact h6
  ·show(if l=l then Hd l else Hc l)=_
   rw[if_pos rfl];exact w5.h0
 ·have ei:i=ds.length:=by lia
  subst ei
  rw[List.drop_length,Yhp]at e'
  cases e'
  rw[List.append_nil]at hd
  subst hd
  have g9:Gr (upd H1 l (tp t')) G1 H' G':=⟨fun x o ho=>by
   by_cases z:x=l
   ·subst z;rw[Ym]at ho;rw[<-ho];exact w'.at
   ·rw[Yj z]at ho;exact w'.sr.gr.h x o (by rw[fc x z];exact ho),w'.sr.gr.g,w'.sr.seen,fun x h h'=>by
   have h6:=w'.sr.gr.n x h h'
   have z:x≠l:=fun z=>by rw[z,w'.h0]at h6;cases h6
   rw[Yj z,<-fc x z];exact h6⟩
  exact .inl ⟨W.2 (qt _),k p xs H' G' _ (fa1.trans (Off.put l Ha _)) ((w1.put (tp t')).grow g9) (sm1.trans w'.sr.gr.g) hx gx rx⟩
theorem Ym1(S:CompSc X.N X.env.scope N src scope)(hc:X.calm=true)(hgr:Gl X "range")(hm:X.mg "range"=none)(ha:ZWE X l a fa)(hg:∀cl C fp s H,ZG (Yat X scope N cl C fp s H) tg gt)(he:∀cl C fp s H,ZWE (Yat X scope N cl C fp s H) l elt fe)
 (hle:∀ρ d ρ1,gt d (capR src ρ)=some ρ1->Le (capR src ρ) ρ1) (hsa:starEach [a] X.env=[(false,eval a X.env)]:=by rfl) (hs:∀x,foldedSetIterable (.Call (.Name "range" pr) [a] [] ip) X.env x=pure x:=by intro _;rfl) :
 ZWF X l (.ListComp elt [⟨tg,.Call (.Name "range" pr) [a] [] ip,[],0⟩] scope pos) (Yhq fa src gt fe):=
 ⟨PE.imp (Ykd S hc (Yfc hgr hm (Yw ha Ybx hsa).un hsa) (fun cl C fp s H=>(hg cl C fp s H).un) (fun _ _ _ _ _=>Ynr) (fun cl C fp s H=>(he cl C fp s H).un) hs) fun _ _ _ h=>Ym0 hle h⟩
theorem Ym2(h:ZWF X l e ga)(hg:Gl X "tuple")(hm:X.mg "tuple"=none)(he:starEach [e] X.env=(false,eval e X.env)::starEach [] X.env:=by rfl)(hpl:(backTo pos (starEach [] X.env)).any (·.1)=false:=by rfl):ZWE X l (.Call (.Name "tuple" p) [e] [] pos) (tupE ga):=
 ⟨PE.imp (Yha Yci hg hm boot_tuple (Yb7 h.un Yer he) (by decide) (by decide) he hpl) fun σ H Q ⟨ρ,t,d,t',H0,G0,G,er,w,k⟩=>by
  obtain⟨⟨ds,t1⟩,h1,er⟩:=qa er
  split at er
  ·cases er
   refine⟨ρ,t,ds,t1,H0,G0,G,h1,w,fun q xs H1 G1 Ha f1 w1 s1 hq gq r1=>⟨q,xs,rfl,.inl ⟨SqL.of hq,fun z hz=>?_⟩⟩⟩
   have gn:=Gr.new w1.sr.seen hz (.tup xs)
   refine k _ _ _ Ha f1 (w1.grow gn) (s1.trans gn.g) ?_
   rw[Rp]
   exact⟨z,xs,rfl,Ym,r1.mono gn.g⟩
  ·cases er⟩
end
def Ym3(i:Nat)(gl:Ro->Option (List D))(g:Addr->TmM):Ro->Option Out:=fun ρ=>(gl ρ).bind fun L=>(Ydi L).bind fun t=>ifP (∀l,∃t',g l (ρ.set i (some (.sh (.adr l)))) t=some (.rt (.bl true) t')) (some (.rt (.bl true)))
section
variable {X:Cx} {e:Expr} {gl:Ro->Option (List D)} {sts:List Stmt} {pos p1:Pos}
theorem Ym4(i:Nat){y:Str}{g:Addr->TmM}(hN:X.N.Nodup)(h:ZF X e gl)(rest:∀l,ZTB X l sts (g l))(hy:X.N[i]?=some y:=by rfl)(hx:Loc X.env.scope y:=by first | exact Or.inl rfl | exact Or.inr rfl)(hse:swapsWith e (some (.Name y p1)) pos.line X.env=pure false:=by rfl)
 (hf:X.fn y=true\/X.env.scope.names.lookup y=some .local:=by first | exact .inl rfl | exact .inr rfl):ZB X (.Assign [.Name y p1] e pos::sts) (Ym3 i gl g):=by
 have hrest:PSs X sts fun F σ H=>∃l,sOfW tp X.K l (g l) F σ H:=fun pins s σ H D I h=>by
  obtain⟨l,h⟩:=h
  exact(rest l).un pins s σ H D I h
 refine⟨PSs.imp (Ygh (Yit hN hy hx h.un hse hf) hrest) fun F σ H hx_=>?_⟩
 obtain⟨ρ,out,H0,G0,G,er,s,c⟩:=hx_
 unfold Ym3 at er
 obtain⟨L,q1,er⟩:=qa er
 obtain⟨t,q2,er⟩:=qa er
 obtain⟨hc,er⟩:=Ymv er
 cases er
 refine⟨ρ,L,H0,G0,G,q1,s,fun l xs H' G' gr hl gl' hl' rl=>?_⟩
 cases Yga q2
 cases Yi0 rl
 obtain⟨t',ht'⟩:=hc l
 have hG0l:G0 l=none:=(s.gr.g.trans gr.g).free gl'
 have hH0l:H0 l=none:=s.gr.h.free hl
 have s2:=(s.grow gr).set_sh i (d:=.adr l) (v:=.ref l) (by rw[Rp])
 refine⟨l,_,t,.rt (.bl true) t',upd H0 l (tp t),G0,G',ht',⟨⟨⟨fun a o ho=>?_,s2.gr.g,s2.gr.s,fun a ha ha'=>?_⟩,s2.len,s2.sh,fun j m em=>?_,s2.ap,fun j t1 ks vs em=>?_,s2.apd⟩,hG0l,Ym⟩,fun v H4 G4 H5 f5 h5 g5 r5=>?_⟩
 ·by_cases z:a=l
  ·subst z;rw[Ym]at ho;rw[<-ho];exact hl'
  ·rw[Yj z]at ho;exact s2.gr.h a o ho
 ·have n1:a≠l:=fun z=>ha' (by rw[z];exact gl')
  rw[Yj n1]
  exact s2.gr.n a ha ha'
 ·obtain⟨a,ys,z1,z2,z3,z4,z5⟩:=s2.ow j m em
  have n1:a≠l:=fun z=>by
   have hj:ρ[j]?=some (some (B.ow m)):=by
    rcases Yg em with⟨rfl,e9,_⟩ | ⟨_,em⟩
    ·cases e9
    ·exact em
   obtain⟨a',xs',w1,_,_,w4,_⟩:=s.ow j m hj
   have hne:j≠i:=fun y=>by
    rcases Yg em with⟨_,e9,_⟩ | ⟨hh,_⟩
    ·cases e9
    ·exact hh y
   rw[qx (Ne.symm hne),w1]at z1
   cases z1
   rw[z,hl]at w4
   cases w4
  exact⟨a,ys,z1,z2,by rw[Yj n1];exact z3,z4,z5⟩
 ·obtain⟨a,kxs,vxs,z1,z2,z3,z4,z5⟩:=s2.od j t1 ks vs em
  have n1:a≠l:=fun z=>by
   have hj:ρ[j]?=some (some (B.od t1 ks vs)):=by
    rcases Yg em with⟨rfl,e9,_⟩ | ⟨_,em⟩
    ·cases e9
    ·exact em
   obtain⟨a',kx',vx',w1,_,_,w4,_⟩:=s.od j t1 ks vs hj
   have hne:j≠i:=fun y=>by
    rcases Yg em with⟨_,e9,_⟩ | ⟨hh,_⟩
    ·cases e9
    ·exact hh y
   rw[qx (Ne.symm hne),w1]at z1
   cases z1
   obtain⟨o',w5,_⟩:=w4.some
   rw[z,hl]at w5
   cases w5
  exact⟨a,kxs,vxs,z1,z2,by rw[Yj n1];exact z3,z4,z5⟩
 ·refine c v H4 G4 ⟨fun a o ho=>?_,g5.g,g5.s,fun a ha ha'=>?_⟩ r5
  ·have n1:a≠l:=fun z=>by rw[z,hH0l]at ho;cases ho
   exact g5.h a o (by rw[f5 a n1,Yj n1];exact ho)
  ·have h6:=g5.n a ha ha'
   by_cases z:a=l
   ·rw[z];exact hH0l
   ·rw[f5 a z,Yj z]at h6
    exact h6
end
end
section
variable {K:W.Frag}
structure ZTs(h:Heap)(z I O a b t u:Addr)(k:Nat)(f x y:Value)(xs ys:Array Value):Prop where
 zip:IsZip h z I O f
 ins:IsPair h I (.ref a) (.ref b)
 out:IsPair h O x y
 ita:h.IsTupleIter a t k
 itb:h.IsTupleIter b u k
 tua:h.IsTuple t xs
 tub:h.IsTuple u ys
section
variable {prog:Program} {w:World} {A:Around} {E:Value->Shared->Prop} {s:Shared} {z I O a b t u:Addr} {k:Nat} {xs ys:Array Value} {x y x0 y0:Value}
theorem IsTuple.but{h h':Heap}{t c:Addr}{xs:Array Value}(H:h.IsTuple t xs)(e:Heap.SameBut c h h')(n:t≠c):h'.IsTuple t xs:=H.at fun o q=>e.extBut t o n q
theorem IsTupleIter.but{h h':Heap}{t c i:Addr}{k:Nat}(H:h.IsTupleIter i t k)(e:Heap.SameBut c h h')(n:i≠c):h'.IsTupleIter i t k:=H.at fun o q=>e.extBut i o n q
theorem Ypn(D:ZipApart z I O a b t u)(Z:ZTs s.heap z I O a b t u k .none x0 y0 xs ys)(hx:xs[k]?=some x)(hy:ys[k]?=some y){Q:Option Value->Shared->Prop}
 (hQ:∀h',ZTs h' z I O a b t u (k+1) (rawInt s.heap.objs.size) x y xs ys->IsPair h' s.heap.objs.size x y->(∀c o,c∉[z,O,a,b]->s.heap.get? c=some o->h'.get? c=some o)->Q (some (.ref s.heap.objs.size)) { s with heap:=h' }) :
 wpAny (model prog w) A (pyNext (.ref z)) Q E s:=by
 have ty:s.TypeIs (.ref z) "zip":=⟨_,Z.zip,rfl⟩
 unfold pyNext
 refine wpAny_bind (wpAny_attempt (wpAny_callSpecial?_slot (name:=Str.ofString "__next__") ty F.slot_zip_next (wpAny_call_entry F.slot_zip_next ty F.entry_zip_next ?_ (F.args_zip_next_1 _))))
 show wpAny _ _ (field (.ref z) 2 >>= _) _ _ _
 refine wpAny_bind (wpAny_field Z.zip rfl (x:=.bool false) rfl ?_)
 show wpAny _ _ (field (.ref z) 3 >>= _) _ _ _
 refine wpAny_bind (wpAny_field Z.zip rfl (x:=.ref I) rfl (wpAny_bind (wpAny_seqItems Z.ins rfl ?_)))
 refine wpAny_bind (m:=Builtin.SmallTypes.ownedTupleIsFree (.ref z)) ?_
 unfold Builtin.SmallTypes.ownedTupleIsFree
 refine wpAny_bind (wpAny_field Z.zip rfl (x:=.none) rfl (wpAny_pure ?_))
 simp only[if_true]
 refine wpAny_bind (wpAny_rule (wpAny_bind (wpAny_field Z.zip rfl (x:=.ref O) rfl (wpAny_bind (wpAny_setField_rec Z.zip (by simp) fun p1 e1 s1=>?_)))))
 have z1:IsZip p1 z I O .ellipsis:=e1
 refine wpAny_bind ?_
 simp only[List.zipIdx_cons,List.zipIdx_nil,List.forIn_cons,List.forIn_nil]
 refine wpAny_bind (wpAny_bind (wpAny_onRaise ?_))
 refine wpAny_bind (m:=Builtin.SmallTypes.nextOf (.ref a)) (Ybg (IsTupleIter.but Z.ita s1 D.i1z) (IsTuple.but Z.tua s1 D.l1z) hx fun p2 i2 s2=>wpAny_pure ?_)
 have o2:IsPair p2 O x0 y0:=s2.extBut _ _ D.TOi1 (s1.extBut _ _ D.TOz Z.out)
 refine wpAny_bind (wpAny_seqItems o2 rfl (wpAny_bind (wpAny_updateSeq_pair o2 fun p3 e3 s3=>?_)))
 have o3:IsPair p3 O x y0:=e3
 refine wpAny_bind (wpAny_letGo (wpAny_pure ?_))
 refine wpAny_bind (wpAny_bind (wpAny_onRaise ?_))
 refine wpAny_bind (m:=Builtin.SmallTypes.nextOf (.ref b)) (Ybg (IsTupleIter.but (IsTupleIter.but (IsTupleIter.but Z.itb s1 D.i2z) s2 (Ne.symm D.i12)) s3 (Ne.symm D.TOi2)) (IsTuple.but (IsTuple.but (IsTuple.but Z.tub s1 D.l2z) s2 D.l2i1) s3 D.l2TO) hy fun p4 i4 s4=>wpAny_pure ?_)
 have o4:IsPair p4 O x y0:=s4.extBut _ _ D.TOi2 o3
 refine wpAny_bind (wpAny_seqItems o4 rfl (wpAny_bind (wpAny_updateSeq_pair o4 fun p5 e5 s5=>?_)))
 have o5:IsPair p5 O x y:=e5
 refine wpAny_bind (wpAny_letGo (wpAny_pure (wpAny_pure ?_)))
 refine wpAny_bind (wpAny_seqItems o5 rfl (wpAny_bind (wpAny_newTuple ?_)))
 have sz:p5.objs.size=s.heap.objs.size:=by rw[s5.1,s4.1,s3.1,s2.1,s1.1]
 have z5:IsZip p5 z I O .ellipsis:=s5.extBut _ _ (Ne.symm D.TOz) (s4.extBut _ _ (Ne.symm D.i2z) (s3.extBut _ _ (Ne.symm D.TOz) (s2.extBut _ _ (Ne.symm D.i1z) z1)))
 have a5:p5.IsTupleIter a t (k+1):=IsTupleIter.but (IsTupleIter.but (IsTupleIter.but i2 s3 (Ne.symm D.TOi1)) s4 D.i12) s5 (Ne.symm D.TOi1)
 have b5:p5.IsTupleIter b u (k+1):=IsTupleIter.but i4 s5 (Ne.symm D.TOi2)
 have old:∀c o,c∉[z,O,a,b]->s.heap.get? c=some o->p5.get? c=some o:=fun c o n q=>by
  have n1:c≠z:=fun e=>n (by simp[e])
  have n2:c≠O:=fun e=>n (by simp[e])
  have n3:c≠a:=fun e=>n (by simp[e])
  have n4:c≠b:=fun e=>n (by simp[e])
  exact s5.extBut _ _ n2 (s4.extBut _ _ n4 (s3.extBut _ _ n2 (s2.extBut _ _ n3 (s1.extBut _ _ n1 q))))
 have lz:z < p5.objs.size:=qk z5
 refine wpAny_bind (m:=Builtin.SmallTypes.ownedTupleHandOut (.ref z) (.ref p5.objs.size)) ?_
 unfold Builtin.SmallTypes.ownedTupleHandOut
 have z6:IsZip (p5.push { cls:=.type "tuple",data:=.seq #[x,y] }) z I O .ellipsis:=qe _ z5
 refine wpAny_bind (wpAny_setField_rec z6 (by simp) fun p7 e7 s7=>?_)
 have z7:IsZip p7 z I O (rawInt p5.objs.size):=e7
 refine wpAny_setField_rec z7 (by simp) fun p8 e8 s8=>?_
 have z8:IsZip p8 z I O (rawInt p5.objs.size):=e8
 have up:∀c o,c≠z->p5.get? c=some o->p8.get? c=some o:=fun c o n q=>s8.extBut _ _ n (s7.extBut _ _ n (qe _ q))
 have nw:IsPair p8 p5.objs.size x y:=s8.extBut _ _ (Nat.ne_of_gt lz) (s7.extBut _ _ (Nat.ne_of_gt lz) (qo _ rfl))
 rw[sz]at z8 nw
 refine wpAny_pure ⟨_,rfl,wpAny_pure ?_⟩
 show Q (some (.ref p5.objs.size)) _
 rw[sz]
 have keepI:p8.get? I=some _:=up _ _ D.TIz (old I _ (by simp[D.TIz,D.TITO,D.TIi1,D.TIi2]) Z.ins)
 have t8:p8.IsTuple t xs:=Z.tua.at fun o q=>up t o D.l1z (old t o (by simp[D.l1z,D.l1TO,D.l1i1,D.l1i2]) q)
 have u8:p8.IsTuple u ys:=Z.tub.at fun o q=>up u o D.l2z (old u o (by simp[D.l2z,D.l2TO,D.l2i1,D.l2i2]) q)
 exact hQ p8 ⟨z8,keepI,up _ _ D.TOz o5,a5.at fun o q=>up _ o D.i1z q,b5.at fun o q=>up _ o D.i2z q,t8,u8⟩ nw fun c o n q=>up c o (fun e=>n (by simp[e])) (old c o n q)
theorem Yr0(hh:A.handled=none)(D:ZipApart z I O a b t u)(Z:ZTs s.heap z I O a b t u k .none x0 y0 xs ys)(hend:xs[k]?=none\/ys[k]?=none){Q:Option Value->Shared->Prop}
 (hQ:∀h',(∀c o,c∉[z,O,a,b]->s.heap.get? c=some o->h'.get? c=some o)->Q none { s with heap:=h' }):wpAny (model prog w) A (pyNext (.ref z)) Q E s:=by
 have ty:s.TypeIs (.ref z) "zip":=⟨_,Z.zip,rfl⟩
 unfold pyNext
 refine wpAny_bind (wpAny_attempt (wpAny_callSpecial?_slot (name:=Str.ofString "__next__") ty F.slot_zip_next (wpAny_call_entry F.slot_zip_next ty F.entry_zip_next ?_ (F.args_zip_next_1 _))))
 show wpAny _ _ (field (.ref z) 2 >>= _) _ _ _
 refine wpAny_bind (wpAny_field Z.zip rfl (x:=.bool false) rfl ?_)
 show wpAny _ _ (field (.ref z) 3 >>= _) _ _ _
 refine wpAny_bind (wpAny_field Z.zip rfl (x:=.ref I) rfl (wpAny_bind (wpAny_seqItems Z.ins rfl ?_)))
 refine wpAny_bind (m:=Builtin.SmallTypes.ownedTupleIsFree (.ref z)) ?_
 unfold Builtin.SmallTypes.ownedTupleIsFree
 refine wpAny_bind (wpAny_field Z.zip rfl (x:=.none) rfl (wpAny_pure ?_))
 simp only[if_true]
 refine wpAny_bind (wpAny_rule (wpAny_bind (wpAny_field Z.zip rfl (x:=.ref O) rfl (wpAny_bind (wpAny_setField_rec Z.zip (by simp) fun p1 e1 s1=>?_)))))
 have z1:IsZip p1 z I O .ellipsis:=e1
 refine wpAny_bind ?_
 simp only[List.zipIdx_cons,List.zipIdx_nil,List.forIn_cons,List.forIn_nil]
 refine wpAny_bind (wpAny_bind (wpAny_onRaise ?_))
 cases hx:xs[k]? with
 | none=>
   refine wpAny_bind (m:=Builtin.SmallTypes.nextOf (.ref a)) (Ycp hh (IsTupleIter.but Z.ita s1 D.i1z) (IsTuple.but Z.tua s1 D.l1z) hx fun p2 e s2 he=>?_)
   obtain⟨oe,q1,q2⟩:=he
   have z2:IsZip p2 z I O .ellipsis:=s2 _ _ (Ne.symm D.i1z) z1
   have ne:e≠z:=fun h=>by subst h;rw[z2]at q1;cases q1;simp at q2
   refine wpAny_setField_rec z2 (by simp) fun p3 _ s3=>?_
   refine wpAny_bind (wpAny_isInstance (T:="StopIteration") (b:=true) ⟨oe,s3.extBut _ _ ne q1,q2⟩ isSubtype_stop (wpAny_pure (hQ p3 fun c o n q=>?_)))
   exact s3.extBut _ _ (fun h=>n (by simp[h])) (s2 _ _ (fun h=>n (by simp[h])) (s1.extBut _ _ (fun h=>n (by simp[h])) q))
 | some x=>
   have hy:ys[k]?=none:=by
    rcases hend with h | h
    ·rw[hx]at h;cases h
    ·exact h
   refine wpAny_bind (m:=Builtin.SmallTypes.nextOf (.ref a)) (Ybg (IsTupleIter.but Z.ita s1 D.i1z) (IsTuple.but Z.tua s1 D.l1z) hx fun p2 i2 s2=>wpAny_pure ?_)
   have o2:IsPair p2 O x0 y0:=s2.extBut _ _ D.TOi1 (s1.extBut _ _ D.TOz Z.out)
   refine wpAny_bind (wpAny_seqItems o2 rfl (wpAny_bind (wpAny_updateSeq_pair o2 fun p3 e3 s3=>?_)))
   refine wpAny_bind (wpAny_letGo (wpAny_pure ?_))
   refine wpAny_bind (wpAny_bind (wpAny_onRaise ?_))
   refine wpAny_bind (m:=Builtin.SmallTypes.nextOf (.ref b)) (Ycp hh (IsTupleIter.but (IsTupleIter.but (IsTupleIter.but Z.itb s1 D.i2z) s2 (Ne.symm D.i12)) s3 (Ne.symm D.TOi2)) (IsTuple.but (IsTuple.but (IsTuple.but Z.tub s1 D.l2z) s2 D.l2i1) s3 D.l2TO) hy fun p4 e s4 he=>?_)
   obtain⟨oe,q1,q2⟩:=he
   have z4:IsZip p4 z I O .ellipsis:=s4 _ _ (Ne.symm D.i2z) (s3.extBut _ _ (Ne.symm D.TOz) (s2.extBut _ _ (Ne.symm D.i1z) z1))
   have ne:e≠z:=fun h=>by subst h;rw[z4]at q1;cases q1;simp at q2
   refine wpAny_setField_rec z4 (by simp) fun p5 _ s5=>?_
   refine wpAny_bind (wpAny_isInstance (T:="StopIteration") (b:=true) ⟨oe,s5.extBut _ _ ne q1,q2⟩ isSubtype_stop (wpAny_pure (hQ p5 fun c o n q=>?_)))
   have n1:c≠z:=fun h=>n (by simp[h])
   have n2:c≠O:=fun h=>n (by simp[h])
   have n3:c≠a:=fun h=>n (by simp[h])
   have n4:c≠b:=fun h=>n (by simp[h])
   exact s5.extBut _ _ n1 (s4 _ _ n4 (s3.extBut _ _ n2 (s2.extBut _ _ n3 (s1.extBut _ _ n1 q))))
end
end
section
variable {K:W.Frag}
abbrev itO(t:Addr):Obj:={ cls:=.type "tuple_iterator",data:=.fields #[.ref t,.int 0 0] }
abbrev zA(h:Heap)(t:Addr):Heap:=h.push (itO t)
abbrev zB(h:Heap)(t u:Addr):Heap:=(zA h t).push (itO u)
abbrev pO(x y:Value):Obj:={ cls:=.type "tuple",data:=.seq #[x,y] }
abbrev zC(h:Heap)(t u:Addr):Heap:=(zB h t u).push (pO (.ref h.objs.size) (.ref (zA h t).objs.size))
abbrev zD(h:Heap)(t u:Addr):Heap:=(zC h t u).push (pO .none .none)
abbrev zO(i o:Addr):Obj:={ cls:=.type "zip",data:=.fields #[.none,.bool false,.bool false,.ref i,.ref o] }
abbrev zH(h:Heap)(t u:Addr):Heap:=(zD h t u).push (zO (zB h t u).objs.size (zC h t u).objs.size)
theorem Ym5(t u:Addr)(xs ys:Array Value):Meets (Builtin.«zip.__new__» ⟨[.type "zip",.ref t,.ref u],[]⟩) (fun _ R s=>s.heap.IsTuple t xs/\s.heap.IsTuple u ys/\R (.ok (.ret (.ref (zD s.heap t u).objs.size))) { s with heap:=zH s.heap t u }):=
 .of_wp fun prog w A R s h=>by
  obtain⟨hp,g,d,tk,os⟩:=s
  obtain⟨h1,h2,h⟩:=h
  have hsub:=sub_zip
  have q1:Heap.IsTuple (Shared.heap ⟨hp,g,d,tk,os⟩) t xs:=h1
  have q2:Heap.IsTuple (Shared.heap ⟨hp.push (itO t),g,d,tk,os⟩) u ys:=Heap.IsTuple.push h2 _
  wp_walk using wpAny_pyIter_tuple q1,wpAny_pyIter_tuple q2
  exact⟨_,rfl,h⟩
section
variable {prog:Program} {w:World} {A:Around} {E:Value->Shared->Prop} {s:Shared} {t u:Addr} {xs ys:Array Value}
theorem Yr1{n t u:Nat}(ht:t < n)(hu:u < n):ZipApart (n+4) (n+2) (n+3) n (n+1) t u:=by
 constructor<;>exact fun(e:@Eq Nat _ _)=>by lia
theorem Yld{Q:Value->Shared->Prop}(h1:s.heap.IsTuple t xs)(h2:s.heap.IsTuple u ys)
 (h:∀h',ZTs h' (s.heap.objs.size+4) (s.heap.objs.size+2) (s.heap.objs.size+3) s.heap.objs.size (s.heap.objs.size+1) t u 0 .none .none .none xs ys->(∀c o,s.heap.get? c=some o->h'.get? c=some o)->Q (.ref (s.heap.objs.size+4)) { s with heap:=h' }) :
 wpAny (model prog w) A (call (.type "zip") [.ref t,.ref u]) Q E s:=by
 refine callType_new F.called_zip (by decide) (F.typeCall_zip_2 _ _) (F.newCall_zip_2 _ _) (fun obj=>F.args_object_init_3 obj _ _) F.entry_zip_new (Ym5 t u xs ys) ⟨h1,h2,?_⟩
 have e1:(zA s.heap t).objs.size=s.heap.objs.size+1:=Heap.size_push ..
 have e2:(zB s.heap t u).objs.size=s.heap.objs.size+2:=by rw[Heap.size_push,e1]
 have e3:(zC s.heap t u).objs.size=s.heap.objs.size+3:=by rw[Heap.size_push,e2]
 have e4:(zD s.heap t u).objs.size=s.heap.objs.size+4:=by rw[Heap.size_push,e3]
 have up:∀c o,s.heap.get? c=some o->(zH s.heap t u).get? c=some o:=fun c o q=>qe _ (qe _ (qe _ (qe _ (qe _ q))))
 have g0:(zH s.heap t u).get? s.heap.objs.size=some (itO t):=qe _ (qe _ (qe _ (qe _ (qo _ rfl))))
 have g1:(zH s.heap t u).get? (zA s.heap t).objs.size=some (itO u):=qe _ (qe _ (qe _ (qo _ rfl)))
 have g2:(zH s.heap t u).get? (zB s.heap t u).objs.size=some (pO (.ref s.heap.objs.size) (.ref (zA s.heap t).objs.size)):=qe _ (qe _ (qo _ rfl))
 have g3:(zH s.heap t u).get? (zC s.heap t u).objs.size=some (pO .none .none):=qe _ (qo _ rfl)
 have g4:(zH s.heap t u).get? (zD s.heap t u).objs.size=some (zO (zB s.heap t u).objs.size (zC s.heap t u).objs.size):=qo _ rfl
 show _/\_
 rw[e1]at g1
 rw[e1,e2]at g2
 rw[e3]at g3
 rw[e2,e3,e4]at g4
 rw[e4]
 exact⟨⟨_,g4,rfl⟩,h _ ⟨g4,g2,g3,⟨_,g0,rfl,rfl⟩,⟨_,g1,rfl,rfl⟩,h1.at fun o q=>up _ o q,h2.at fun o q=>up _ o q⟩ up⟩
end
theorem Yf4{X:Cx}{pins:List (Addr × Obj)}{σ:L2.St}{H:Hp}{s:Shared}{h':Heap}{t':Nat}{ch:List Addr}(I:Inv X pins σ H s)(hf:∀b∈ch,FpOk X pins H b)
 (k:∀b u,b∉ch->s.heap.get? b=some u->h'.get? b=some u):Inv X pins σ H { s with heap:=h',toks:=t' }:=by
 have nch:∀b u,H b=some u->b∉ch:=fun b u e z=>by rw[(hf b z).1]at e;cases e
 refine I.step (g':=s.gens) (d':=s.drawn) (ch:=ch) (fun b hb=>?_) (fun b u _ _ hc e _=>k b u hc e) (fun b u _ _ hc e _=>⟨u.slots,k b u hc e⟩) (fun b u _ e n=>n)
  (fun b u hc e=>⟨u,k b u hc e⟩) (fun b xs e=>e) (fun b u xs e=>e) (fun b ps e=>⟨#[],by rw[e];simp⟩) (fun m hm=>?_) (fun b u e=>?_) I.bare
 ·obtain⟨_,f1,_,f3,f4,f5⟩:=hf b hb
  exact⟨f3,f1,f4,f5⟩
 ·obtain⟨ob,es,ep,ho,r⟩:=hm
  exact⟨ob,es,ep,k _ ob (fun z=>(hf _ z).2.1 rfl) ho,r⟩
 ·refine(I.hok b u e).stay (fun c v hc q=>k c v ?_ q) (fun c q=>q) fun c xs q=>q
  rcases hc with z | z
  ·rw[z];exact nch b u e
  ·exact nch c _ z
structure ZTt(h:Heap)(z I O a b t u:Addr)(k:Nat)(f x y:Value):Prop where
 zip:IsZip h z I O f
 ins:IsPair h I (.ref a) (.ref b)
 out:IsPair h O x y
 ita:h.IsTupleIter a t k
 itb:h.IsTupleIter b u k
def IteZ(K:W.Frag)(t u:Addr):It:=
 ⟨fun i H=>∃xs ys x y,SqT K H t xs/\SqT K H u ys/\xs[i]?=some x/\ys[i]?=some y,fun i H v H'=>∃x y p,(∀xs ys,SqT K H t xs->SqT K H u ys->xs[i]?=some x/\ys[i]?=some y)/\H p=none/\v=.ref p/\H'=upd H p (.tup [x,y]),fun i H=>∃xs ys,SqT K H t xs/\SqT K H u ys/\(xs.length<=i\/ys.length<=i)⟩
section
variable {elts:List Expr} {x1:Nat} {pt:Pos}
theorem Ym6{P:Program}{w:World}(t u z I O a b:Addr)(D:ZipApart z I O a b t u):Turn P w K (.Tuple elts x1 pt) (IteZ K t u) [z,I,O,a,b] z (fun i h=>∃x0 y0,ZTt h z I O a b t u i .none x0 y0) where
 mem:=by simp
 obj:=fun i h st c hc=>by
  obtain⟨x0,y0,Z⟩:=st
  simp only[List.mem_cons,List.not_mem_nil,or_false]at hc
  rcases hc with rfl | rfl | rfl | rfl | rfl
  ·exact⟨_,Z.zip,fun v q=>by cases q⟩
  ·exact⟨_,Z.ins,fun v q=>by cases q⟩
  ·exact⟨_,Z.out,fun v q=>by cases q⟩
  ·obtain⟨o,q,c,d⟩:=Z.ita
   exact⟨o,q,fun v z=>by rw[d]at z;cases z⟩
  ·obtain⟨o,q,c,d⟩:=Z.itb
   exact⟨o,q,fun v z=>by rw[d]at z;cases z⟩
 keep:=fun i h h' st k=>by
  obtain⟨x0,y0,Z⟩:=st
  exact⟨x0,y0,k z (by simp) _ Z.zip,k I (by simp) _ Z.ins,k O (by simp) _ Z.out,Z.ita.at fun o q=>k a (by simp) o q,Z.itb.at fun o q=>k b (by simp) o q⟩
 item:=by
  intro X hP hw hK hc i pins s σ H E J hf st hg
  subst hP hw hK
  obtain⟨xs,ys,x,y,hq,hq',hx,hy⟩:=hg
  obtain⟨its,rv,p,hz⟩:=J.tuple hq
  obtain⟨its',rv',p',hz'⟩:=J.tuple hq'
  obtain⟨v,hv,ru⟩:=rv.get hx
  obtain⟨v',hv',ru'⟩:=rv'.get hy
  obtain⟨x0,y0,Z⟩:=st
  refine Ypn (x:=v) (y:=v') D ⟨Z.zip,Z.ins,Z.out,Z.ita,Z.itb,p,p'⟩ (by simpa using hv) (by simpa using hv') fun h' Z' nw kk=>?_
  refine⟨_,rfl,wpAny_letOwnedTupleGo_zip Z'.zip fun h2 z2 s2=>?_⟩
  have fr:H s.heap.objs.size=none:=J.fresh
  have hne:∀c∈[z,I,O,a,b],c≠s.heap.objs.size:=fun c hc q=>by
   have:∃o,s.heap.get? c=some o:=by
    simp only[List.mem_cons,List.not_mem_nil,or_false]at hc
    rcases hc with rfl | rfl | rfl | rfl | rfl
    ·exact⟨_,Z.zip⟩
    ·exact⟨_,Z.ins⟩
    ·exact⟨_,Z.out⟩
    ·obtain⟨o,q,_⟩:=Z.ita;exact⟨o,q⟩
    ·obtain⟨o,q,_⟩:=Z.itb;exact⟨o,q⟩
   obtain⟨o,e⟩:=this
   exact absurd (qk e) (by rw[q];exact Nat.lt_irrefl _)
  have k2:∀c o,c∉[z,I,O,a,b]->s.heap.get? c=some o->h2.get? c=some o:=fun c o hc q=>by
   have h1:c≠z:=fun e=>hc (by simp[e])
   exact s2.extBut _ _ h1 (kk c o (fun e=>hc (by simp only[List.mem_cons,List.not_mem_nil,or_false]at e ⊢;rcases e with e | e | e | e<;>simp[e])) q)
  have tT:IsPair h2 s.heap.objs.size v v':=s2.extBut _ _ (Ne.symm (hne z (by simp))) nw
  refine⟨.ref s.heap.objs.size,upd H s.heap.objs.size (.tup [x,y]),(show Inv X pins σ _ { s with heap:=h2,toks:=s.toks } from Ygo (s:=s) (t':=s.toks) J hf k2 (qt _) ?_),rfl,⟨x,y,s.heap.objs.size,fun xs' ys' q q'=>by rw[J.tuple_inj q hq,J.tuple_inj q' hq'];exact⟨hx,hy⟩,fr,rfl,rfl⟩,⟨v,v',?_⟩,fun c hc=>?_⟩
  ·exact⟨by rw[sizeLine_eq];show 2<=16777216;decide,[v,v'],.cons ru (.cons ru' .nil),_,tT,rfl,0,rfl⟩
  ·exact⟨z2,s2.extBut _ _ D.TIz Z'.ins,s2.extBut _ _ D.TOz Z'.out,IsTupleIter.but Z'.ita s2 D.i1z,IsTupleIter.but Z'.itb s2 D.i2z⟩
  ·rw[Yj (hne c hc)];exact(hf c hc).1
 done:=by
  intro X hP hw hK hc i pins s σ H E J hf st hg
  subst hP hw hK
  obtain⟨xs,ys,hq,hq',hlen⟩:=hg
  obtain⟨its,rv,p,hz⟩:=J.tuple hq
  obtain⟨its',rv',p',hz'⟩:=J.tuple hq'
  have l1:=rv.length
  have l2:=rv'.length
  obtain⟨x0,y0,Z⟩:=st
  refine Yr0 (J.ok.hd hc) D (xs:=its.toArray) (ys:=its'.toArray) ⟨Z.zip,Z.ins,Z.out,Z.ita,Z.itb,p,p'⟩ ?_ fun h' kk=>⟨rfl,Yf4 (t':=s.toks) J hf fun c o hc e=>kk c o (fun q=>hc ?_) e⟩
  ·rcases hlen with q | q
   ·exact .inl (by simp;lia)
   ·exact .inr (by simp;lia)
  ·simp only[List.mem_cons,List.not_mem_nil,or_false]at q ⊢
   rcases q with q | q | q | q<;>simp[q]
 self:=fun _ _ _ _ _ st h=>let ⟨_,_,Z⟩:=st;wpAny_pyIter_zip Z.zip h
end
end
section
variable {K:W.Frag}
def SEK(w:World):List DictEntry->List Str->Prop:=Paired fun e k=>e.hash=PyData.keyHash w.params k/\∃t,e.key=.str k t
def GK(K:W.Frag)(w:World)(mg:Str->Option Value)(x:Str)(ks:List Str):Prop:=∃p o es ep,mg x=some (.ref p)/\(p==sysModules)=false/\K.lookup p=some o/\o.ExactDict/\o.data=.dict es ep/\SEK w es.toList ks
def SEA(w:World):List DictEntry->List (Str × Addr)->Prop:=Paired fun e p=>e.hash=PyData.keyHash w.params p.1/\(∃t,e.key=.str p.1 t)/\e.val=.ref p.2
def GDA(K:W.Frag)(w:World)(mg:Str->Option Value)(x:Str)(kvs:List (Str × Addr)):Prop:=∃p o es ep,mg x=some (.ref p)/\K.lookup p=some o/\o.ExactDict/\o.data=.dict es ep/\SEA w es.toList kvs
theorem SEA.keys{w:World}:∀{l:List DictEntry} {kvs:List (Str × Addr)},SEA w l kvs->SEK w l (kvs.map (·.1))
 | _,_,.nil=>.nil
 | _,_,.cons r t=>.cons ⟨r.1,r.2.1⟩ (SEA.keys t)
theorem Yle{P:Program}{w:World}{k:Str}:∀{l:List DictEntry} {ks:List Str},SEK w l ks->(l.find? (fun e=>(PySem.strKind P w).is k e.key)).isSome=decide (k∈ks)
 | _,_,.nil=>by simp
 | _,_,.cons (a:=e) (b:=a) r t=>by
   obtain⟨_,⟨t1,h1⟩⟩:=r
   have ih:=Yle (P:=P) (k:=k) t
   rw[List.find?_cons]
   have he:(PySem.strKind P w).is k e.key=(a==k):=by rw[h1];rfl
   rw[he]
   by_cases q:a=k
   ·subst q;simp
   ·have hn:(a==k)=false:=by simpa using q
    have q':¬k=a:=fun z=>q z.symm
    rw[hn]
    simp[ih,q']
theorem Ye9{P:Program}{w:World}:∀{l:List DictEntry} {ks:List Str},SEK w l ks->∀e∈l,∃k,(PySem.strKind P w).is k e.key=true/\e.hash=(PySem.strKind P w).hash k
 | _,_,.nil,e,h=>by cases h
 | _,_,.cons (b:=p) r t,e,h=>by
   rcases qs h with rfl | h
   ·obtain⟨h0,⟨t1,h1⟩⟩:=r
    exact⟨p,by rw[h1];simp[PySem.strKind,Value.isStrOf],h0⟩
   ·exact Ye9 t e h
theorem Yi5{P:Program}{w:World}{k:Str}{v:Addr}:∀{l:List DictEntry} {kvs:List (Str × Addr)},SEA w l kvs->kvs.lookup k=some v->∃e,l.find? (fun e=>(PySem.strKind P w).is k e.key)=some e/\e.val=.ref v
 | _,_,.nil,h=>by simp at h
 | _,_,.cons (a:=e) (b:=p) r t,h=>by
   obtain⟨_,⟨t1,h1⟩,h2⟩:=r
   obtain⟨a,b⟩:=p
   have he:(PySem.strKind P w).is k e.key=(a==k):=by rw[h1];rfl
   rw[List.find?_cons,he]
   by_cases q:a=k
   ·subst q
    simp at h
    subst h
    exact⟨e,by simp,h2⟩
   ·have hn:(a==k)=false:=by simpa using q
    have hn':(k==a)=false:=by simpa using fun z:k=a=>q z.symm
    rw[hn]
    exact Yi5 t (by simpa [Qb,hn']using h)
def Yfs(kvs:List (Str × Addr)):D->Option D
 | .str k=>(kvs.lookup k).map D.adr
 | _=>none
section
variable {X:Cx} {a:Expr} {fa:Ro->Option D} {pos px:Pos} {x:Str} {ks:List Str}
theorem Yge{ke:Expr}{fk:Ro->Option D}{kvs:List (Str × Addr)}(g:GDA X.K X.w X.mg x kvs)(hg:Gl X x)(hk:ZC X ke fk)(hs:NoSl ke:=by intro _ _;rfl)(hd:(x==("__debug__":Str))=false:=by decide):ZE X (.Subscript (.Name x px) ke pos) (b1 fk (Yfs kvs)):=by
 obtain⟨p,o,es,ep,hm,hl,hx,hdt,hse⟩:=g
 refine⟨fun pins s σ H Q I hx_=>?_⟩
 obtain⟨ρ,d,H0,G0,G,e,sr,h⟩:=hx_
 obtain⟨dk,h1,h2⟩:=Yb8 e
 refine Yj6 PySem.F.slot_dict_getitem.lookup hs (Ygg I hg hm ?_ hd)
 refine thn (hk.un pins s σ H (fun(v':V) (H':Hp)=>∃k r,v'=.str k/\kvs.lookup k=some r/\Q (.ref r) H') I (tCof.at h1 sr fun v H1 G1 g1 r1 s1=>?_)) fun iv s2 q0=>?_
 ·unfold Yfs at h2
  split at h2
  ·rename_i k
   obtain⟨r,h3,rfl⟩:=qc h2
   rw[Ct]at r1
   exact⟨k,r,r1.1,h3,h _ H1 G1 g1 (by rw[Rp])⟩
  ·cases h2
 ·obtain⟨y,H2,I2,ry,k,r,rfl,h3,q⟩:=q0
  obtain⟨t,rfl⟩:=ry
  have ho:s2.heap.get? p=some o:=I2.kIn p o hl
  obtain⟨e',f1,f2⟩:=Yi5 (P:=X.prog) hse h3
  refine⟨⟨o,ho,hx.1⟩,wpAny_getItem_of (knd:=PySem.strKind X.prog X.w) (k:=k) (f:=fun k=>findBy (PySem.strKind X.prog X.w).is es k) (v:=.ref r) (by simp[PySem.strKind,Value.isStrOf]) ⟨o,es,ep,ho,hx,hdt,?_,fun _=>rfl⟩ ?_ ⟨.ref r,H2,I2.tok _,rfl,q⟩⟩
  ·intro e'' he
   exact Ye9 hse.keys e'' (by simpa using he)
  ·show(es.find? fun e=>(PySem.strKind X.prog X.w).is k e.key).map (·.val)=_
   rw[<-Array.find?_toList,f1,Option.map_some,f2]
theorem Ynv{p:Addr}{o:Obj}{es:Array DictEntry}{ep:Nat}(hp:(p==sysModules)=false)(hl:X.K.lookup p=some o)(hx:o.ExactDict)(hd:o.data=.dict es ep)(hs:SEK X.w es.toList ks):OpR X (compareOp .In) (rInG p ks false)/\OpR X (compareOp .NotIn) (rInG p ks true):=by
 have hf:∀k,(findBy (PySem.strKind X.prog X.w).is es k).isSome=decide (k∈ks):=fun k=>by
  show((es.find? fun e=>(PySem.strKind X.prog X.w).is k e.key).map (·.val)).isSome=_
  rw[<-Array.find?_toList,Option.isSome_map,Yle hs]
 constructor
 ·intro pins s σ H x y v u Q I rx ry h
  obtain⟨k,rfl,hk,rfl,q⟩:=h
  cases ry
  obtain⟨t,rfl⟩:=rx
  refine wpAny_in_of (knd:=PySem.strKind X.prog X.w) (k:=k) (f:=fun k=>findBy (PySem.strKind X.prog X.w).is es k) (by simp[PySem.strKind,Value.isStrOf]) hp ⟨o,es,ep,I.kIn p o hl,hx,hd,fun e he=>Ye9 hs e (by simpa using he),fun _=>rfl⟩ ⟨.bl _,H,I.tok _,rfl,?_⟩
  rw[hf k]
  have e:decide (k∈ks)=(decide (k∈ks) != false):=by cases decide (k∈ks)<;>rfl
  rw[e]
  exact q
 ·intro pins s σ H x y v u Q I rx ry h
  obtain⟨k,rfl,hk,rfl,q⟩:=h
  cases ry
  obtain⟨t,rfl⟩:=rx
  refine wpAny_notIn_of (knd:=PySem.strKind X.prog X.w) (k:=k) (f:=fun k=>findBy (PySem.strKind X.prog X.w).is es k) (by simp[PySem.strKind,Value.isStrOf]) hp ⟨o,es,ep,I.kIn p o hl,hx,hd,fun e he=>Ye9 hs e (by simpa using he),fun _=>rfl⟩ ⟨.bl _,H,I.tok _,rfl,?_⟩
  rw[hf k]
  have e:(!decide (k∈ks))=(decide (k∈ks) != true):=by cases decide (k∈ks)<;>rfl
  rw[e]
  exact q
theorem Ypo(g:GK X.K X.w X.mg x ks)(hg:Gl X x)(ha:ZC X a fa)(hm:behindInMarks .In (.Name x px)=false:=by with_unfolding_all rfl)(hd:(x==("__debug__":Str))=false:=by decide):ZT X (.Compare a [.In] [.Name x px] pos) (b1 fa (inG false ks)):=by
 obtain⟨p,o,es,ep,hmg,hp,hl,hx,hdt,hs⟩:=g
 refine⟨PT.imp (Yh0 (Ynv hp hl hx hdt hs).1 ha.un (Yjw (v:=.ref p) hg hmg rfl hd) hm) fun σ H Q ⟨ρ,b,H0,G0,G,e,s,h⟩=>?_⟩
 obtain⟨d,h1,h2⟩:=Yb8 e
 refine tCof.at h1 s fun v H1 G1 g1 r1 s1=>?_
 unfold inG at h2
 split at h2
 ·rename_i k
  cases h2
  rw[Ct]at r1
  exact⟨k,r1.1,r1.2,rfl,_,rfl,h H1 G1 g1⟩
 ·cases h2
theorem Ym7(g:GK X.K X.w X.mg x ks)(hg:Gl X x)(ha:ZC X a fa)(hm:behindInMarks .NotIn (.Name x px)=false:=by with_unfolding_all rfl)(hd:(x==("__debug__":Str))=false:=by decide):ZT X (.Compare a [.NotIn] [.Name x px] pos) (b1 fa (inG true ks)):=by
 obtain⟨p,o,es,ep,hmg,hp,hl,hx,hdt,hs⟩:=g
 refine⟨PT.imp (Yh0 (Ynv hp hl hx hdt hs).2 ha.un (Yjw (v:=.ref p) hg hmg rfl hd) hm) fun σ H Q ⟨ρ,b,H0,G0,G,e,s,h⟩=>?_⟩
 obtain⟨d,h1,h2⟩:=Yb8 e
 refine tCof.at h1 s fun v H1 G1 g1 r1 s1=>?_
 unfold inG at h2
 split at h2
 ·rename_i k
  cases h2
  rw[Ct]at r1
  exact⟨k,r1.1,r1.2,rfl,_,rfl,h H1 G1 g1⟩
 ·cases h2
end
def KT1(K:W.Frag)(a:Addr)(ss:List Str):Prop:=∃o its n,K.lookup a=some o/\o.cls=.type "tuple"/\o.data=.seq its n/\its.size<=sizeLine/\Yrr its.toList ss
def KTs(K:W.Frag):List (Addr × List Str)->Prop
 | []=>True
 | q::l=>KT1 K q.1 q.2/\KTs K l
theorem KTs.at{a:Addr}{ss:List Str}:∀{kt:List (Addr × List Str)},KTs K kt->kt.lookup a=some ss->KT1 K a ss
 | [],_,h=>by simp at h
 | q::l,hk,h=>by
   rw[Qb]at h
   cases e:(a==q.1)with
   | true=>
     rw[e]at h
     cases h
     have:a=q.1:=by simpa using e
     rw[this]
     exact hk.1
   | false=>
     rw[e]at h
     exact KTs.at hk.2 h
theorem Yhr:∀{vs:List Value} {ks:List Str},Yrr vs ks->Vals (ks.map V.str) vs/\∀k∈ks,PyData.strOk k=true
 | _,_,.nil=>⟨.nil,fun _ h=>nomatch h⟩
 | _,_,.cons (b:=k) r t=>by
   obtain⟨h1,h2⟩:=Yhr t
   exact⟨.cons r.1 h1,fun y hy=>by
    rcases qs hy with rfl | hy
    ·exact r.2
    ·exact h2 y hy⟩
def zipS:List Str->List D->List D
 | s::ss,d::l=>.tup [.str s,d]::zipS ss l
 | _,_=>[]
theorem Ygv:∀(ss:List Str) (l:List D),(zipS ss l).length=min ss.length l.length
 | [],l=>by simp[zipS]
 | _::_,[]=>by simp[zipS]
 | s::ss,d::l=>by rw[zipS,qr,Ygv ss l,qr,qr];lia
theorem Ylf:∀{ss:List Str} {l:List D} {i:Nat} {d:D},(zipS ss l)[i]?=some d->∃s e,ss[i]?=some s/\l[i]?=some e/\d=.tup [.str s,e]
 | [],l,i,d,h=>by simp[zipS]at h
 | _::_,[],i,d,h=>by simp[zipS]at h
 | s::ss,e::l,0,d,h=>by
   rw[zipS]at h
   cases h
   exact⟨s,e,rfl,rfl,rfl⟩
 | s::ss,e::l,i+1,d,h=>by
   rw[zipS]at h
   exact Ylf (ss:=ss) (l:=l) (i:=i) h
def zipD(kt:List (Addr × List Str)):D->D->Option (List D)
 | .adr p,.tup l=>(kt.lookup p).map fun ss=>zipS ss l
 | _,_=>none
def zipF(kt:List (Addr × List Str))(fa fb:Ro->Option D):Ro->Option (List D):=fun ρ=>(fa ρ).bind fun a=>(fb ρ).bind fun b=>zipD kt a b
section
variable {X:Cx} {elts:List Expr} {x1:Nat} {pt pos p:Pos} {a b:Expr} {fa fb:Ro->Option D} {kt:List (Addr × List Str)}
def iZip(K:W.Frag)(ta:TA):TI:=fun σ H R=>ta σ H fun vs H1=>∃t u xs ys,vs=[.ref t,.ref u]/\SqT K H1 t xs/\SqT K H1 u ys/\(xs.length<=sizeLine->R (IteZ K t u) H1)
theorem Yr2{ta:TA}(hg:Gl X "zip")(hm:X.mg "zip"=none)(ha:PA X [a,b] ta)(hs:starEach [a,b] X.env=[(false,eval a X.env),(false,eval b X.env)]:=by rfl)(hs2:starEach [b] X.env=[(false,eval b X.env)]:=by rfl):PI X (.Tuple elts x1 pt) (.Call (.Name "zip" p) [a,b] [] pos) (iZip X.K ta):=by
 intro pins s σ H R I h
 refine Call_ (Yfb I hg hm boot_zip (PyProof.Rows.callWith_type1 (thn (ha pos pins s σ H _ I h) fun us s1 ⟨vs,H1,I1,r1,q1⟩=>?_) (by rw[hs,hs2]) (by rw[hs2];rfl)))
 obtain⟨t,u,xs,ys,rfl,hq,hq',q⟩:=q1
 obtain⟨v,v',rfl,e1,e2⟩:=Yqe r1
 cases (show v=Value.ref t from e1)
 cases (show v'=Value.ref u from e2)
 obtain⟨its,rv,pl,hz⟩:=I1.tuple hq
 obtain⟨its',rv',pl',hz'⟩:=I1.tuple hq'
 have lt:t < s1.heap.objs.size:=by obtain⟨o,e,_⟩:=pl;exact qk e
 have lu:u < s1.heap.objs.size:=by obtain⟨o,e,_⟩:=pl';exact qk e
 refine Yld pl pl' fun h' Z hk=>wpAny_pyIter_zip (s:={ s1 with heap:=h' }) Z.zip ?_
 refine⟨_,[s1.heap.objs.size+4,s1.heap.objs.size+2,s1.heap.objs.size+3,s1.heap.objs.size,s1.heap.objs.size+1],_,_,H1,rfl,I1.kept (t':=s1.toks) hk,Ym6 t u _ _ _ _ _ (Yr1 lt lu),⟨_,_,Z.zip,Z.ins,Z.out,Z.ita,Z.itb⟩,fun c hc=>?_,q hz⟩
 have hc':s1.heap.objs.size<=c:=by
  simp only[List.mem_cons,List.not_mem_nil,or_false]at hc
  rcases hc with rfl | rfl | rfl | rfl | rfl
  ·exact Nat.le_add_right _ _
  ·exact Nat.le_add_right _ _
  ·exact Nat.le_add_right _ _
  ·exact qt _
  ·exact Nat.le_add_right _ _
 exact I1.fpOk hc' (I1.hok.fresh hc')
theorem Ypp(hk:KTs X.K kt)(hg:Gl X "zip")(hm:X.mg "zip"=none)(ha:ZE X a fa)(hb:ZE X b fb)(hs:starEach [a,b] X.env=[(false,eval a X.env),(false,eval b X.env)]:=by rfl)(hs2:starEach [b] X.env=[(false,eval b X.env)]:=by rfl)(hs':starEach [a,b] X.env=(false,eval a X.env)::starEach [b] X.env:=by rfl) :
 ZI X (.Tuple elts x1 pt) (.Call (.Name "zip" p) [a,b] [] pos) (zipF kt fa fb):=
 ⟨PI.imp (Yr2 hg hm (Yh8 ha.un (Yh8 hb.un Ynp hs2) hs') hs hs2) fun σ H R ⟨ρ,ds,H0,G0,G,e,s,h⟩=>by
  obtain⟨da,h1,e5⟩:=qa e
  obtain⟨db,h2,e6⟩:=qa e5
  clear e e5
  obtain⟨q,l,rfl,rfl⟩:∃q l,da=.adr q/\db=.tup l:=by
   unfold zipD at e6
   split at e6
   ·exact⟨_,_,rfl,rfl⟩
   ·cases e6
  ·obtain⟨ss,h3,rfl⟩:=qc (show(kt.lookup q).map (fun ss=>zipS ss l)=some ds from e6)
   refine tAof.at (show Yl fa (Yl fb aNil) ρ=some [.adr q,.tup l] by simp[Yl,aNil,h1,h2]) s fun vs H1 G1 g1 r1 s1=>?_
   rw[RpL]at r1
   obtain⟨x,r,rfl,rx,r1⟩:=r1
   obtain⟨y,rfl,ry⟩:=Yfl r1
   rw[Rp]at rx
   subst rx
   rw[Rp]at ry
   obtain⟨u,ys,rfl,gu,rl⟩:=ry
   obtain⟨o,its,n,k1,k2,k3,k4,k5⟩:=hk.at h3
   obtain⟨sv,sok⟩:=Yhr k5
   have sq:∀H',SqT X.K H' q (ss.map V.str):=fun H'=>.inr ⟨o,its,n,k1,k2,k3,k4,sv⟩
   have sq2:∀H2 G2,Same G1 G2->Same G2 H2->SqT X.K H2 u ys:=fun H2 G2 e1 e2=>.inl (.inl (e2 _ _ (e1 _ _ gu)))
   have hlen:ss.length<=sizeLine:=by
    have h9:=sv.length
    rw[qf]at h9
    rw[h9,Array.length_toList]
    exact k4
   refine⟨q,u,_,ys,rfl,sq H1,sq2 H1 G1 (Same.refl _) s1.seen,fun hz=>h _ H1 G1 g1 ⟨?_,fun i H2 G2 e1 e2=>⟨fun d hd=>?_,fun hi=>⟨_,ys,sq H2,sq2 H2 G2 e1 e2,?_⟩⟩⟩⟩
   ·rw[Ygv];lia
   ·obtain⟨sx,dx,f1,f2,rfl⟩:=Ylf hd
    obtain⟨yv,hy,ryv⟩:=rl.get f2
    have hx:(ss.map V.str)[i]?=some (.str sx):=by rw[Qa,f1];rfl
    refine⟨⟨_,ys,.str sx,yv,sq H2,sq2 H2 G2 e1 e2,hx,hy⟩,fun w H3 qq=>?_⟩
    obtain⟨x',y',p',a1,a2,rfl,rfl⟩:=qq
    obtain⟨b1,b2⟩:=a1 _ _ (sq H2) (sq2 H2 G2 e1 e2)
    rw[hx]at b1
    rw[hy]at b2
    cases b1
    cases b2
    refine⟨_,Gr.new e2 a2 (.tup [.str sx,yv]),?_⟩
    rw[Rp]
    exact⟨p',_,rfl,Ym,.cons (by rw[Rp];exact⟨rfl,sok sx (List.mem_of_getElem? f1)⟩) (.one ((ryv.mono e1).mono (Gr.new e2 a2 _).g))⟩
   ·rw[Ygv]at hi
    have hl:=rl.length
    rw[qf]
    rcases Nat.le_total ss.length l.length with z | z
    ·exact .inl (by lia)
    ·exact .inr (by lia)⟩
end
end
section
section
variable {X:Cx} {l:Addr} {tg iter:Expr} {body:List Stmt} {gt:D->Ro->Option Ro} {gl:Ro->Option (List D)} {fs:TmM} {pos:Pos}
theorem Ym8(hp:PassesOwn (model X.prog X.w) X.A X.env X.xe)(hc:X.calm=true)(hi:ZI X tg iter gl)(hg:ZG X tg gt)(hb:ZTB X l body fs)(hs:∀x,foldedSetIterable iter X.env x=pure x:=by intro _;rfl):ZTS X l (.For tg iter body [] pos) (Yk1 gl gt fs):=⟨Yrz hp hc hi.un hg.un hb.un hs⟩
end
theorem aL0:∀ρ l,aNil ρ=some l->l.length=0:=fun _ _ h=>by cases h;rfl
theorem wL0:∀ρ t ds t',nilE ρ t=some (ds,t')->ds.length=0:=fun _ _ _ _ h=>by cases h;rfl
theorem wLc{f:Te}{g:Ta}{n:Nat}(hg:∀ρ t ds t',g ρ t=some (ds,t')->ds.length=n):∀ρ t ds t',Ya8 f g ρ t=some (ds,t')->ds.length=n+1:=fun ρ t ds t' h=>by
 obtain⟨p,h1,h⟩:=qa h
 obtain⟨q,h2,h3⟩:=qc h
 cases h3
 rw[qr,hg ρ p.2 q.1 q.2 h2]
end
end M
namespace Lw
open PySem PySem.Spec PyProof.Rows L2 M
def top(i:Nat):Stmt:=PySem.Challenge.pw_duskbook_k58_papers_written.main.body.getD i (.Pass ⟨0,0,0,0⟩)
def ktab:List (Addr × List Str):=[(23,[]),(24,[(Str.ofString "road"),(Str.ofString "road")]),(25,[(Str.ofString "road")]),(26,[(Str.ofString "road"),(Str.ofString "road")]),(27,[(Str.ofString "places")]),(28,[(Str.ofString "source"),(Str.ofString "places"),(Str.ofString "places")]),(29,[(Str.ofString "plan rows")]),(30,[(Str.ofString "sum rows")]),(31,[(Str.ofString "beacons"),(Str.ofString "if rows")]),(33,[(Str.ofString "beacon"),(Str.ofString "source"),(Str.ofString "truth")]),(34,[(Str.ofString "beacon"),(Str.ofString "beacons"),(Str.ofString "truth")]),(35,[(Str.ofString "beacon"),(Str.ofString "beacons")])]
def Yeh:List Str:=[(Str.ofString "plan rows"),(Str.ofString "sum rows"),(Str.ofString "if rows")]
def Yao:List Str:=[(Str.ofString "road"),(Str.ofString "places"),(Str.ofString "beacons")]
def gt_PAPERS:List (Str × Addr):=[((Str.ofString "broken"),23),((Str.ofString "clash"),24),((Str.ofString "cross"),25),((Str.ofString "late"),26),((Str.ofString "odd"),27),((Str.ofString "lone"),28),((Str.ofString "plan"),29),((Str.ofString "sums"),30),((Str.ofString "rows"),31)]
def gt_ROWS:List (Str × Addr):=[((Str.ofString "plan rows"),33),((Str.ofString "sum rows"),34),((Str.ofString "if rows"),35)]
def gt_SEVERAL:List (Str × Str):=[((Str.ofString "road"),(Str.ofString "saying")),((Str.ofString "places"),(Str.ofString "place")),((Str.ofString "beacons"),(Str.ofString "beacon"))]
set_option maxHeartbeats 4000000
def Fq(K:W.Frag)(mg:Str->Option Value)(x:Str)(i:Nat):Prop:=∃a fd,Fun K x x (top i) a fd/\mg x=some (.ref a)
def Fk(K:W.Frag)(x:Str)(i:Nat):Prop:=∃a fd,W.nsIn K mainGlobals x=some (some (.ref a))/\Fun K x x (top i) a fd
theorem Fk.on{K:W.Frag}{h:Heap}{mg:Str->Option Value}{x:Str}{i:Nat}(F:Fk K x i)(X:K.In h)(G:h.Ns mainGlobals mg):Fq K mg x i:=by
 obtain⟨a,fd,n,f⟩:=F
 exact⟨a,fd,f,W.mg_of X G n⟩
theorem fk_mk{K:W.Frag}{x:Str}{i:Nat}{f:Addr}{oc:Value}{od an:Option Addr}{osl:Array (Option Value)}{kV doc pm cdv ct:Value}(a:W.nsIn K mainGlobals x=some (some (.ref f)))(l:K.lookup f=some ⟨oc,od,.func (W.fnOf x x (defArgs (top i)) (defBody (top i)) (defScope (top i)) .none kV doc pm an cdv ct),osl⟩)(c:W.codeIn K cdv x=true)(k:W.keepIn K (.ref f)=true):Fk K x i:=⟨_,_,a,Ynm l c k⟩
theorem fns{N ps:List Str}{sc:Scope}(a:sc.kind=.function:=by rfl)(b:sc.isCoroutine=false:=by rfl)(c:sc.isGenerator=false:=by rfl)(d:N.Nodup:=by decide +kernel)(e:N.take ps.length=ps:=by rfl)(f:∀x∈ps,sc.names.lookup x=some .local\/sc.names.lookup x=some .cell:=by decide +kernel)(g:∀y∈sc.names,y.2≠.free:=by decide +kernel):FnScope N ps sc:=⟨a,b,c,d,e,f,g⟩
def Bnd(x:Str)(i:Nat)(ps:List Str):Prop:=∀(kV doc pm:Value) (an:Option Addr) (cdv ct:Value) (us:List Value),us.length=ps.length->bindArgs (W.fnOf x x (defArgs (top i)) (defBody (top i)) (defScope (top i)) .none kV doc pm an cdv ct) ⟨us,[]⟩=pure (ps.zip us)
theorem okfn{P:Program}{w:World}{K:W.Frag}{mg:Str->Option Value}{base:Heap}{x:Str}{i k n m:Nat}{N ps:List Str}{fb:Ro->Option Out}(F:Fq K mg x i)(S:FnScope N ps (defScope (top i)))(hb:∀{f:Addr} {cdv:Value} {A:Around} {outer:List Env} {s:Shared} {H:Hp} {E:XK},Room k (A.deeper (envOfC x (defScope (top i)) s.heap.objs.size f cdv))->ZB (cxOf CX0 P w K mg base N x (defScope (top i)) f cdv A outer s H E).nox (defBody (top i)) fb)(hn:N.length=n:=by rfl)(hm:ps.length=m:=by rfl)(B:Bnd x i ps:=by(intro _ _ _ _ _ _ us hl;first | (obtain⟨_,rfl⟩:=len1 hl;rfl) | (obtain⟨_,_,rfl⟩:=len2 hl;rfl) | (obtain⟨_,_,_,rfl⟩:=len3 hl;rfl) | (obtain⟨_,_,_,_,rfl⟩:=len4 hl;rfl) | (obtain⟨_,_,_,_,_,rfl⟩:=len5 hl;rfl) | (obtain⟨_,_,_,_,_,_,rfl⟩:=len6 hl;rfl) | (obtain⟨_,_,_,_,_,_,_,rfl⟩:=len7 hl;rfl))):Okf P w K mg base (k+1) m x ps (runB m n fb):=by
 obtain⟨a,fd,f,h⟩:=F
 exact Yrl f (f.binds B) h (Ygb (k:=k) f S hn hm fun _ _ _ _ _ _ hr=>hb hr)
theorem okft{P:Program}{w:World}{K:W.Frag}{mg:Str->Option Value}{base:Heap}{x:Str}{i k n m:Nat}{N ps:List Str}{g:Addr->TmM}(F:Fq K mg x i)(S:FnScope N ps (defScope (top i)))(hb:∀{l:Addr} {f:Addr} {cdv:Value} {A:Around} {outer:List Env} {s:Shared} {H:Hp} {E:XK},Room k (A.deeper (envOfC x (defScope (top i)) s.heap.objs.size f cdv))->ZTB (cxOf CX0 P w K mg base N x (defScope (top i)) f cdv A outer s H E).nox l (defBody (top i)) (g l))(hn:N.length=n:=by rfl)(hm:ps.length=m:=by rfl)(B:Bnd x i ps:=by(intro _ _ _ _ _ _ us hl;first | (obtain⟨_,rfl⟩:=len1 hl;rfl) | (obtain⟨_,_,rfl⟩:=len2 hl;rfl))):OkT P w K mg base (k+1) m x ps (runT n g):=by
 obtain⟨a,fd,f,h⟩:=F
 exact⟨a,fd,Ypj (k:=k) f S hn hm fun _ _ _ _ _ _ _ hr=>hb hr,f.binds B,f.kp,h⟩
theorem okf0{P:Program}{w:World}{K:W.Frag}{mg:Str->Option Value}{base:Heap}{x:Str}{i m k:Nat}{ps:List Str}{mr:List D->Option D}(F:Fq K mg x i)(h0:mr=fun _=>none)(hm:ps.length=m:=by rfl)(B:Bnd x i ps:=by(intro _ _ _ _ _ _ us hl;first | (obtain⟨_,rfl⟩:=len1 hl;rfl) | (obtain⟨_,_,rfl⟩:=len2 hl;rfl))):Okf P w K mg base k m x ps mr:=by
 obtain⟨a,fd,f,h⟩:=F
 rw[h0]
 exact Ymo f (f.binds B) h hm
theorem aL1{f0:Ro->Option D}:∀ρ l,Yl f0 aNil ρ=some l->l.length=1:=Yhd fun _ _ h=>Ymj h
theorem aL2{f0 f1:Ro->Option D}:∀ρ l,Yl f0 (Yl f1 aNil) ρ=some l->l.length=2:=Yhd aL1
structure Bl(K:W.Frag)(w:World)(mg:Str->Option Value):Prop where
 Len:mg "len"=none
 Range:mg "range"=none
 List:mg "list"=none
 Tuple:mg "tuple"=none
 Int:mg "int"=none
 Str:mg "str"=none
 Isinstance:mg "isinstance"=none
 Reversed:mg "reversed"=none
 Zip:mg "zip"=none
 g_PAPERS:GDA K w mg "PAPERS" gt_PAPERS
 g_ROWS:GDA K w mg "ROWS" gt_ROWS
 g_SEVERAL:GD K w mg "SEVERAL" gt_SEVERAL
 k_ROWS:GK K w mg "ROWS" Yeh
 k_SEVERAL:GK K w mg "SEVERAL" Yao
 kts:KTs K ktab
 f1:Fq K mg "saying_written" 1
 f6:Fq K mg "thing_written" 6
 f8:Fq K mg "parts_written" 8
 f7:Fq K mg "part_written" 7
 f9:Fq K mg "paper_written" 9
 f11:Fq K mg "_law_mixed" 11
 f12:Fq K mg "_law_next" 12
 f13:Fq K mg "_law_many" 13
 f14:Fq K mg "_law_any_road" 14
 f15:Fq K mg "_law_any_numbers" 15
 f16:Fq K mg "_law_any_rows" 16
 f17:Fq K mg "_law_any" 17
 f18:Fq K mg "_law_number_words" 18
 f19:Fq K mg "_law_road_words" 19
 f20:Fq K mg "_law_free_word" 20
 f21:Fq K mg "_law_rows_words" 21
 f22:Fq K mg "_law_paper_words" 22
section
variable {P:Program} {w:World} {K:W.Frag} {mg:Str->Option Value} {base:Heap}
theorem sc_saying_written:FnScope ["saying","beacon"] ["saying"] (defScope (top 1)):=fns
def Ycq:Ro->Option Out:=(sSeq (sSet 1 (b2 (getC 0) (kD (.int 0)) ixD)) (sRet (ifV (b1 (b2 (getC 0) (kD (.int 1)) ixD) truD) (b1 (getC 1) (fsD (Str.ofString "+"))) (b1 (getC 1) (fsD (Str.ofString "-"))))))
def Ya3:List D->Option D:=runB 1 2 Ycq
theorem Yei(bl:Bl K w mg):Okf P w K mg base 1 1 "saying_written" ["saying"] Ya3:=by
 refine okfn bl.f1 sc_saying_written fun hr=>?_
 exact(y2 (Ygs 1 sc_saying_written.nd (Yt (Yc 0) (Yb Yh))) (Yz (y9 (Ykw (Yib (Yb (Yt (Yc 0) (Yb Yh)))) (Ynu (Yc 1)) (Ynu (Yc 1))))))
theorem Yey:FnScope ["form","thing"] ["form","thing"] (defScope (top 6)):=fns
@[simp] def Yej:Ro->Option Out:=(sRet (ifV (b2 (getC 1) (kD .non) (isN false)) (kD (.str "none")) (cC (Yl (getC 1) aNil) strC)))
@[simp] def Yek:Ro->Option Out:=(sSeq (sIf (b2 (getC 0) (kD (.str "truth")) (eqM false)) (sRet (ifV (b1 (getC 1) truD) (kD (.str "yes")) (kD (.str "no")))) sNil) Yej)
def Yax:Ro->Option Out:=(sSeq (sIf (b2 (getC 0) (kD (.str "saying")) (eqM false)) (sRet (cC (Yl (getV 1) aNil) Ya3)) sNil) Yek)
def Yo:List D->Option D:=runB 2 2 Yax
theorem Ycr(bl:Bl K w mg):Okf P w K mg base 2 2 "thing_written" ["form","thing"] Yo:=by
 refine okfn bl.f6 Yey fun hr=>?_
 exact(y2 (Ybw (Yaw hr.units (Yc 0) (Yb Yp)) (Yz (y9 (Yx (Yei bl) hr rfl (Yd (Ys 1) Yi) aL1))) Yba) (y2 (Ybw (Yaw hr.units (Yc 0) (Yb Yp)) (Yz (y9 (Ykw (Yib (Yc 1)) Yp Yp))) Yba) (Yz (y9 (Ykw (Ykx (Yc 1) (Yb Ygq)) Yp (y6 Yaa Ybm rfl bl.Str boot_str (Yu (Yc 1) y1)))))))
theorem sc_parts_written:FnScope ["forms","parts","words","form","part"] ["forms","parts"] (defScope (top 8)):=fns
def Ybc(rec:List D->Option D):Ro->Option Out:=(sMut 2 (cC (Yl (getV 3) (Yl (getV 4) aNil)) rec) extD)
def Yby(rec:List D->Option D):Ro->Option Out:=(sSeq (sOwn 2 (dLst aNil)) (sSeq (sFor (zipF ktab (getV 0) (getV 1)) (Yml 3 4) (Ybc rec)) (wF [2] (sRet (getV 2)))))
theorem sc_part_written:FnScope ["form","part","words","row"] ["form","part"] (defScope (top 7)):=fns
theorem cs_part_written_0:CompSc ["form","part","words","row"] (defScope (top 7)) ["thing","form"] [none,some 0] (fsc [(".0",.local),("thing",.local),("thing_written",.globalImplicit),("SEVERAL",.globalImplicit),("form",.free)]):=Yd2 (by decide +kernel)
def Ybh(rec:List D->Option D):Ro->Option D:=(cC (Yl (b1 (getC 1) (Yjl gt_SEVERAL)) (Yl (getV 0) aNil)) Yo)
def Ybi(rec:List D->Option D):Ro->Option Out:=(sMut 2 (cC (Yl (b1 (getC 0) (Yfs gt_ROWS)) (Yl (getV 3) aNil)) rec) extD)
def Ybn(rec:List D->Option D):Ro->Option Out:=(sSeq (sIf (b1 (getC 0) (inG false Yao)) (sRet (lF (b2 (lF (dLst (Yl (cC (Yl (cC (Yl (getC 1) aNil) lenC) aNil) strC) aNil))) (lF (Yhe (b1 (getV 1) Yau) [none,some 0] (gSet 0) tY (Ybh rec))) catD))) sNil) (sSeq (sIf (b1 (getC 0) (inG true Yeh)) (sRet (lF (dLst (Yl (cC (Yl (getV 0) (Yl (getV 1) aNil)) Yo) aNil)))) sNil) (sSeq (sOwn 2 (dLst (Yl (cC (Yl (cC (Yl (getC 1) aNil) lenC) aNil) strC) aNil))) (sSeq (sFor (b1 (getV 1) Yau) (gSet 3) (Ybi rec)) (wF [2] (sRet (getV 2)))))))
mutual
def Ye:Nat->List D->Option D
 | 0=>fun _=>none
 | k+1=>runB 2 4 (Ybn (Yk k))
def Yk:Nat->List D->Option D
 | 0=>fun _=>none
 | k+1=>runB 2 5 (Yby (Ye k))
end
def Ybd:List D->Option D:=Yk 6
theorem Yez(bl:Bl K w mg){k j:Nat}(rc:Okf P w K mg base k 2 "parts_written" ["forms","parts"] (Yk j))(hk:3<=k):Okf P w K mg base (k+1) 2 "part_written" ["form","part"] (Ye (j+1)):=by
 unfold Ye
 refine okfn bl.f7 sc_part_written fun hr=>?_
 exact(y2 (Ybw (Ypo bl.k_SEVERAL rfl (Yc 0)) (Yz (y9 (Ya1 (Ya4 (Yb (Ya1 (Yar (Yd (y6 Yaa Ybm rfl bl.Str boot_str (Yu (Yb (Ycc Ya7 Yeg rfl bl.Len PySem.boot_len (Yu (Yc 1) y1))) y1)) Yi)))) (Yb (Ya1 (Ygt cs_part_written_0 rfl (Yfq (Ys 1)) (fun _ _ _ _ _=>(Ybt 0 cs_part_written_0.nd)) (fun _ _ _ _ _=>Yie) (fun _ _ _ _ _=>(Yx (Ycr bl) hr rfl (Yd (Yky bl.g_SEVERAL rfl (Yc 1)) (Yd (Ys 0) Yi)) aL2)) (Ygn (i:=0) rfl)))))))) Yba) (y2 (Ybw (Ym7 bl.k_ROWS rfl (Yc 0)) (Yz (y9 (Ya1 (Yar (Yd (Yx (Ycr bl) hr rfl (Yd (Ys 0) (Yd (Ys 1) Yi)) aL2) Yi))))) Yba) (y2 (Ybb 2 sc_part_written.nd (Yar (Yd (y6 Yaa Ybm rfl bl.Str boot_str (Yu (Yb (Ycc Ya7 Yeg rfl bl.Len PySem.boot_len (Yu (Yc 1) y1))) y1)) Yi))) (y2 (Yid PassesOwn.never rfl (Yfq (Ys 1)) (Ybt 3 sc_part_written.nd) (Yz (Ygc 2 (Yx rc hr rfl (Yd (Yge bl.g_ROWS rfl (Yc 0)) (Yd (Ys 3) Yi)) aL2)))) (Yz (Ygr [2] (y9 (Ys 2))))))))
theorem Yel(bl:Bl K w mg){k j:Nat}(rc:Okf P w K mg base k 2 "part_written" ["form","part"] (Ye j))(hk:3<=k):Okf P w K mg base (k+1) 2 "parts_written" ["forms","parts"] (Yk (j+1)):=by
 unfold Yk
 refine okfn bl.f8 sc_parts_written fun hr=>?_
 exact(y2 (Ybb 2 sc_parts_written.nd (Yar Yi)) (y2 (Yid PassesOwn.never rfl (Ypp bl.kts rfl bl.Zip (Ys 0) (Ys 1)) (Ymu 3 4 rfl sc_parts_written.nd) (Yz (Ygc 2 (Yx rc hr rfl (Yd (Ys 3) (Yd (Ys 4) Yi)) aL2)))) (Yz (Ygr [2] (y9 (Ys 2))))))
theorem Yii(bl:Bl K w mg):∀j,Okf P w K mg base (3+j) 2 "part_written" ["form","part"] (Ye j)/\Okf P w K mg base (3+j) 2 "parts_written" ["forms","parts"] (Yk j)
 | 0=>⟨okf0 bl.f7 (by unfold Ye;rfl),okf0 bl.f8 (by unfold Yk;rfl)⟩
 | j+1=>⟨Yez bl (Yii bl j).2 (Nat.le_add_right _ _),Yel bl (Yii bl j).1 (Nat.le_add_right _ _)⟩
theorem Ye0(bl:Bl K w mg):Okf P w K mg base (3+6) 2 "parts_written" ["forms","parts"] Ybd:=(Yii bl 6).2
theorem Ye1:FnScope ["paper"] ["paper"] (defScope (top 9)):=fns
def Yc2:Ro->Option Out:=(sRet (cC (Yl (lF (b2 (lF (dLst (Yl (b2 (getC 0) (kD (.int 0)) ixD) aNil))) (cC (Yl (b1 (b2 (getC 0) (kD (.int 0)) ixD) (Yfs gt_PAPERS)) (Yl (slD (getC 0) (some (kD (.int 1))) none) aNil)) Ybd) catD)) aNil) (Yhl (Str.ofString " "))))
def Ybe:List D->Option D:=runB 1 1 Yc2
theorem Ye2(bl:Bl K w mg):Okf P w K mg base 10 1 "paper_written" ["paper"] Ybe:=by
 refine okfn bl.f9 Ye1 fun hr=>?_
 exact(Yz (y9 (Yi3 (Yu (Yb (Ya1 (Ya4 (Yb (Ya1 (Yar (Yd (Yt (Yc 0) (Yb Yh)) Yi)))) (Yb (Yx (Ye0 bl) hr rfl (Yd (Yge bl.g_PAPERS rfl (Yb (Yt (Yc 0) (Yb Yh)))) (Yd (Ykz (fl:=(some (kD (.int 1)))) (fh:=none) (Yc 0) (Yrv (Yb Yh)) Yru) Yi)) aL2))))) y1))))
theorem Yhs:FnScope ["cell","by"] ["cell","by"] (defScope (top 11)):=fns
def Yft:Ro->Option Out:=(sRet (b2 (b2 (b2 (getC 0) (kD (.int 2305843009213693951)) modI) (getC 1) mulI) (kD (.int 2305843009213693951)) modI))
def Ybz:List D->Option D:=runB 2 2 Yft
theorem Yht(bl:Bl K w mg):Okf P w K mg base 1 2 "_law_mixed" ["cell","by"] Ybz:=by
 refine okfn bl.f11 Yhs fun hr=>?_
 exact(Yz (y9 (Yav (Yb (Ydj (Yb (Yav (Yc 0) (Yb Yh))) (Yc 1))) (Yb Yh))))
theorem Yij:FnScope ["tape"] ["tape"] (defScope (top 12)):=fns
def Yhu(l:Addr):TmM:=(Yce (sRet (kD (.int 0))))
def Yem(l:Addr):TmM:=(seqW (ifW (Yk9 l 0 (b2 (cC (Yl (getC 0) aNil) lenC) (kD (.int 0)) gtI)) (retE (Ypk (Ya8 (popE l 0) (Ya8 (Yb4 (kD (.int 2049848353892358983))) nilE)) Ybz)) nilW) (Yhu l))
def Yap:List D->List Int->Option (D × List Int):=runT 1 Yem
theorem Yb0(bl:Bl K w mg):OkT P w K mg base 2 1 "_law_next" ["tape"] Yap:=by
 refine okft bl.f12 Yij fun hr=>?_
 exact(y3 (Ypl 0 (Yrs (Yb (Ycc Ya7 Yeg rfl bl.Len PySem.boot_len (Yu (Yc 0) y1))) (Yb Yh)) (Yag (Yc0 (Ylb (Yht bl) hr rfl (Yw (Ypm 0) (Yw (Yae Yh) Ybx)) (wLc (wLc wL0))))) Ydl) (Yag (Yas (y9 Yh))))
theorem sc_law_many:FnScope ["tape","most","left"] ["tape","most"] (defScope (top 13)):=fns
def Yev(l:Addr):TmM:=(Yce (sRet (b2 (getC 2) (kD (.int 6)) modI)))
def Yew(l:Addr):TmM:=(seqW (Yce (sIf (b2 (b2 (b2 (getC 2) (kD (.int 6)) divI) (kD (.int 8)) modI) (kD (.int 1)) (eqM false)) (sRet (b2 (kD (.int 60)) (b2 (b2 (getC 2) (kD (.int 48)) divI) (b2 (getC 1) (kD (.int 59)) subI) modI) addI)) sNil)) (Yev l))
def Ygf(l:Addr):TmM:=(seqW (setE 2 (Yak l 0 (Ybq aNil Yap))) (Yew l))
def Ycf:List D->List Int->Option (D × List Int):=runT 3 Ygf
theorem Ydm(bl:Bl K w mg):OkT P w K mg base 3 2 "_law_many" ["tape","most"] Ycf:=by
 refine okft bl.f13 sc_law_many fun hr=>?_
 exact(y3 (Yc1 2 sc_law_many.nd (y7 0 (Yb0 bl) hr rfl Yi aL0)) (y3 (Yas (Ybw (Yaw hr.units (Yb (Yav (Yb (Yck (Yc 2) (Yb Yh))) (Yb Yh))) (Yb Yh)) (Yz (y9 (Yo3 (Yb Yh) (Yb (Yav (Yb (Yck (Yc 2) (Yb Yh))) (Yb (Yo1 (Yc 1) (Yb Yh)))))))) Yba)) (Yag (Yas (y9 (Yav (Yc 2) (Yb Yh)))))))
theorem sc_law_any_road:FnScope ["tape","road","k","left"] ["tape"] (defScope (top 14)):=fns
def Ybj(l:Addr):TmM:=(seqW (setE 3 (binE (Yak l 0 (Ybq aNil Yap)) (Yb4 (b2 (b2 (kD (.int 7919)) (getC 2) mulI) (getC 2) mulI)) addI)) (Yce (sMut 1 (dTup (Yl (b2 (getC 3) (kD (.int 60)) modI) (Yl (mB (b2 (b2 (b2 (getC 3) (kD (.int 60)) divI) (kD (.int 2)) modI) (kD (.int 1)) (eqM false))) aNil))) appD)))
def Ycs(l:Addr):TmM:=(Yce (sRet (cC (Yl (getC 1) aNil) tupC)))
def Yct(l:Addr):TmM:=(seqW (forE (Yak l 0 (Ybq (Yl (kD (.int 200)) aNil) Ycf)) (gSet 2) (Ybj l)) (Ycs l))
def Ydc(l:Addr):TmM:=(seqW (Yce (sOwn 1 (dLst aNil))) (Yct l))
def Yah:List D->List Int->Option (D × List Int):=runT 4 Ydc
theorem Yb1(bl:Bl K w mg):OkT P w K mg base 4 1 "_law_any_road" ["tape"] Yah:=by
 refine okft bl.f14 sc_law_any_road fun hr=>?_
 exact(y3 (Yas (Ybb 1 sc_law_any_road.nd (Yar Yi))) (y3 (Ylc PassesOwn.never rfl rfl bl.Range (y7 0 (Ydm bl) hr rfl (Yd Yh Yi) aL1) (Ybt 2 sc_law_any_road.nd) (y3 (Yc1 3 sc_law_any_road.nd (Yih (y7 0 (Yb0 bl) hr rfl Yi aL0) (Yae (Ydj (Yb (Ydj (Yb Yh) (Yc 2))) (Yc 2))))) (Yag (Yas (Ycd 1 (Yic (Yd (Yav (Yc 3) (Yb Yh)) (Yd (Ykv hr.units (Yb (Yav (Yb (Yck (Yc 3) (Yb Yh))) (Yb Yh))) (Yb Yh)) Yi)))))))) (Yag (Yas (y9 (y6 Yci Ykl rfl bl.Tuple boot_tuple (Yu (Yc 1) y1)))))))
theorem Yd6:FnScope ["tape","most"] ["tape","most"] (defScope (top 15)):=fns
theorem cs_law_any_numbers_0:CompSc ["tape","most"] (defScope (top 15)) ["k","tape","most"] [none,some 0,some 1] (fsc [(".0",.local),("k",.local),("_law_next",.globalImplicit),("most",.free),("tape",.free)]):=Yd2 (by decide +kernel)
def Ybr(l:Addr):Te:=(binE (binE (Yak l 1 (Ybq aNil Yap)) (Yb4 (b2 (b2 (kD (.int 7919)) (getC 0) mulI) (getC 0) mulI)) addI) (Yb4 (getV 2)) modI)
def Ycg(l:Addr):TmM:=(retE (tupE (Yhq (Yak l 0 (Ybq (Yl (kD (.int 200)) aNil) Ycf)) [none,some 0,some 1] (gSet 0) (Ybr l))))
def Yy:List D->List Int->Option (D × List Int):=runT 2 Ycg
theorem y8(bl:Bl K w mg):OkT P w K mg base 4 2 "_law_any_numbers" ["tape","most"] Yy:=by
 refine okft bl.f15 Yd6 fun hr=>?_
 exact(Yag (Yc0 (Ym2 (Ym1 cs_law_any_numbers_0 rfl rfl bl.Range (y7 0 (Ydm bl) hr rfl (Yd Yh Yi) aL1) (fun _ _ _ _ _=>(Ybt 0 cs_law_any_numbers_0.nd)) (fun _ _ _ _ _=>(Ypi (Yih (y7 1 (Yb0 bl) hr rfl Yi aL0) (Yae (Ydj (Yb (Ydj (Yb Yh) (Yc 0))) (Yc 0)))) (Yae (Ys 2)))) (Ygn (i:=0) rfl)) rfl bl.Tuple)))
theorem sc_law_any_rows:FnScope ["tape","word","rows","k","left"] ["tape","word"] (defScope (top 16)):=fns
def Yab(l:Addr):TmM:=(seqW (setE 4 (binE (Yak l 0 (Ybq aNil Yap)) (Yb4 (b2 (b2 (kD (.int 7919)) (getC 3) mulI) (getC 3) mulI)) addI)) (ifW (fun ρ _=>(b2 (getC 1) (kD (.str "plan")) (eqM false)) ρ) (Yce (sMut 2 (dTup (Yl (b2 (getC 4) (kD (.int 60)) modI) (Yl (b2 (lF (dLst (Yl (kD .non) (Yl (b2 (b2 (getC 4) (kD (.int 60)) divI) (kD (.int 60)) modI) aNil)))) (b2 (b2 (getC 4) (kD (.int 3600)) divI) (kD (.int 2)) modI) ixD) (Yl (mB (b2 (b2 (b2 (getC 4) (kD (.int 7200)) divI) (kD (.int 2)) modI) (kD (.int 1)) (eqM false))) aNil)))) appD)) (ifW (fun ρ _=>(b2 (getC 1) (kD (.str "sums")) (eqM false)) ρ) (appE 2 (tupE (Ya8 (Yb4 (b2 (getC 4) (kD (.int 60)) modI)) (Ya8 (Yak l 0 (Ybq (Yl (kD (.int 60)) aNil) Yy)) (Ya8 (Yb4 (mB (b2 (b2 (b2 (getC 4) (kD (.int 7200)) divI) (kD (.int 2)) modI) (kD (.int 1)) (eqM false)))) nilE))))) (appE 2 (tupE (Ya8 (Yb4 (b2 (getC 4) (kD (.int 60)) modI)) (Ya8 (Yak l 0 (Ybq (Yl (kD (.int 60)) aNil) Yy)) nilE)))))))
def Ycu(l:Addr):TmM:=(Yce (sRet (cC (Yl (getC 2) aNil) tupC)))
def Ycv(l:Addr):TmM:=(seqW (forE (Yak l 0 (Ybq (Yl (kD (.int 66)) aNil) Ycf)) (gSet 3) (Yab l)) (Ycu l))
def Ydd(l:Addr):TmM:=(seqW (Yce (sOwn 2 (dLst aNil))) (Ycv l))
def Ya2:List D->List Int->Option (D × List Int):=runT 5 Ydd
theorem Yc3(bl:Bl K w mg):OkT P w K mg base 5 2 "_law_any_rows" ["tape","word"] Ya2:=by
 refine okft bl.f16 sc_law_any_rows fun hr=>?_
 exact(y3 (Yas (Ybb 2 sc_law_any_rows.nd (Yar Yi))) (y3 (Ylc PassesOwn.never rfl rfl bl.Range (y7 0 (Ydm bl) hr rfl (Yd Yh Yi) aL1) (Ybt 3 sc_law_any_rows.nd) (y3 (Yc1 4 sc_law_any_rows.nd (Yih (y7 0 (Yb0 bl) hr rfl Yi aL0) (Yae (Ydj (Yb (Ydj (Yb Yh) (Yc 3))) (Yc 3))))) (Yag (Yeu (Yaw hr.units (Yc 1) (Yb Yp)) (Yag (Yas (Ycd 2 (Yic (Yd (Yav (Yc 4) (Yb Yh)) (Yd (Yt (Yb (Ya1 (Yar (Yd Ygq (Yd (Yav (Yb (Yck (Yc 4) (Yb Yh))) (Yb Yh)) Yi))))) (Yb (Yav (Yb (Yck (Yc 4) (Yb Yh))) (Yb Yh)))) (Yd (Ykv hr.units (Yb (Yav (Yb (Yck (Yc 4) (Yb Yh))) (Yb Yh))) (Yb Yh)) Yi))))))) (Yag (Yeu (Yaw hr.units (Yc 1) (Yb Yp)) (Yag (Yla 2 (Ycz (Yw (Yae (Yav (Yc 4) (Yb Yh))) (Yw (y7 0 (y8 bl) hr rfl (Yd Yh Yi) aL1) (Yw (Yae (Ykv hr.units (Yb (Yav (Yb (Yck (Yc 4) (Yb Yh))) (Yb Yh))) (Yb Yh))) Ybx)))))) (Yag (Yla 2 (Ycz (Yw (Yae (Yav (Yc 4) (Yb Yh))) (Yw (y7 0 (y8 bl) hr rfl (Yd Yh Yi) aL1) Ybx))))))))))) (Yag (Yas (y9 (y6 Yci Ykl rfl bl.Tuple boot_tuple (Yu (Yc 2) y1)))))))
theorem sc_law_any:FnScope ["tape","left","word","road","places","numbers"] ["tape"] (defScope (top 17)):=fns
def Yfu(l:Addr):TmM:=(Yce (sRet (dTup (Yl (getV 2) aNil))))
def Ydn(l:Addr):TmM:=(seqW (ifW (fun ρ _=>(b2 (getC 2) (kD (.str "rows")) (eqM false)) ρ) (seqW (setE 5 (Yak l 0 (Ybq (Yl (kD (.int 60)) aNil) Yy))) (retE (tupE (Ya8 (Yb4 (getV 2)) (Ya8 (Yb4 (getV 5)) (Ya8 (Yak l 0 (Ybq (Yl (getV 2) aNil) Ya2)) nilE)))))) nilW) (Yfu l))
def Ycm(l:Addr):TmM:=(seqW (ifW (fun ρ _=>(orT (b2 (getC 2) (kD (.str "plan")) (eqM false)) (b2 (getC 2) (kD (.str "sums")) (eqM false))) ρ) (retE (tupE (Ya8 (Yb4 (getV 2)) (Ya8 (Yak l 0 (Ybq (Yl (getV 2) aNil) Ya2)) nilE)))) nilW) (Ydn l))
def Ydo(l:Addr):TmM:=(seqW (ifW (fun ρ _=>(b2 (getC 2) (kD (.str "lone")) (eqM false)) ρ) (seqW (setE 4 (Yak l 0 (Ybq (Yl (kD (.int 201)) aNil) Yy))) (retE (tupE (Ya8 (Yb4 (getV 2)) (Ya8 (Yb4 (b2 (lF (dLst (Yl (kD .non) (Yl (b2 (b2 (getC 1) (kD (.int 9)) divI) (kD (.int 60)) modI) aNil)))) (b2 (b2 (getC 1) (kD (.int 540)) divI) (kD (.int 2)) modI) ixD)) (Ya8 (Yb4 (getV 4)) (Ya8 (Yak l 0 (Ybq (Yl (kD (.int 201)) aNil) Yy)) nilE))))))) nilW) (Ycm l))
def Ydp(l:Addr):TmM:=(seqW (ifW (fun ρ _=>(b2 (getC 2) (kD (.str "odd")) (eqM false)) ρ) (retE (tupE (Ya8 (Yb4 (getV 2)) (Ya8 (Yak l 0 (Ybq (Yl (kD (.int 201)) aNil) Yy)) nilE)))) nilW) (Ydo l))
def Ydq(l:Addr):TmM:=(seqW (ifW (fun ρ _=>(b2 (getC 2) (kD (.str "cross")) (eqM false)) ρ) (retE (tupE (Ya8 (Yb4 (getV 2)) (Ya8 (Yak l 0 (Ybq aNil Yah)) nilE)))) nilW) (Ydp l))
def Yb2(l:Addr):TmM:=(seqW (ifW (fun ρ _=>(orT (b2 (getC 2) (kD (.str "clash")) (eqM false)) (b2 (getC 2) (kD (.str "late")) (eqM false))) ρ) (seqW (setE 3 (Yak l 0 (Ybq aNil Yah))) (retE (tupE (Ya8 (Yb4 (getV 2)) (Ya8 (Yb4 (getV 3)) (Ya8 (Yak l 0 (Ybq aNil Yah)) nilE)))))) nilW) (Ydq l))
def Yfv(l:Addr):TmM:=(seqW (Yce (sSet 2 (b2 (lF (dLst (Yl (kD (.str "broken")) (Yl (kD (.str "clash")) (Yl (kD (.str "cross")) (Yl (kD (.str "late")) (Yl (kD (.str "odd")) (Yl (kD (.str "lone")) (Yl (kD (.str "plan")) (Yl (kD (.str "sums")) (Yl (kD (.str "rows")) aNil))))))))))) (b2 (getC 1) (kD (.int 9)) modI) ixD))) (Yb2 l))
def Yfw(l:Addr):TmM:=(seqW (setE 1 (Yak l 0 (Ybq aNil Yap))) (Yfv l))
def Yd7:List D->List Int->Option (D × List Int):=runT 6 Yfw
theorem Yjo(bl:Bl K w mg):OkT P w K mg base 6 1 "_law_any" ["tape"] Yd7:=by
 refine okft bl.f17 sc_law_any fun hr=>?_
 exact(y3 (Yc1 1 sc_law_any.nd (y7 0 (Yb0 bl) hr rfl Yi aL0)) (y3 (Yas (Ygs 2 sc_law_any.nd (Yt (Yb (Ya1 (Yar (Yd Yp (Yd Yp (Yd Yp (Yd Yp (Yd Yp (Yd Yp (Yd Yp (Yd Yp (Yd Yp Yi)))))))))))) (Yb (Yav (Yc 1) (Yb Yh)))))) (y3 (Yeu (Yhg (Yhf (Yaw hr.units (Yc 2) (Yb Yp)) (Yfp (Yaw hr.units (Yc 2) (Yb Yp))))) (y3 (Yc1 3 sc_law_any.nd (y7 0 (Yb1 bl) hr rfl Yi aL0)) (Yag (Yc0 (Ycz (Yw (Yae (Ys 2)) (Yw (Yae (Ys 3)) (Yw (y7 0 (Yb1 bl) hr rfl Yi aL0) Ybx))))))) Ydl) (y3 (Yeu (Yaw hr.units (Yc 2) (Yb Yp)) (Yag (Yc0 (Ycz (Yw (Yae (Ys 2)) (Yw (y7 0 (Yb1 bl) hr rfl Yi aL0) Ybx))))) Ydl) (y3 (Yeu (Yaw hr.units (Yc 2) (Yb Yp)) (Yag (Yc0 (Ycz (Yw (Yae (Ys 2)) (Yw (y7 0 (y8 bl) hr rfl (Yd Yh Yi) aL1) Ybx))))) Ydl) (y3 (Yeu (Yaw hr.units (Yc 2) (Yb Yp)) (y3 (Yc1 4 sc_law_any.nd (y7 0 (y8 bl) hr rfl (Yd Yh Yi) aL1)) (Yag (Yc0 (Ycz (Yw (Yae (Ys 2)) (Yw (Yae (Yt (Yb (Ya1 (Yar (Yd Ygq (Yd (Yav (Yb (Yck (Yc 1) (Yb Yh))) (Yb Yh)) Yi))))) (Yb (Yav (Yb (Yck (Yc 1) (Yb Yh))) (Yb Yh))))) (Yw (Yae (Ys 4)) (Yw (y7 0 (y8 bl) hr rfl (Yd Yh Yi) aL1) Ybx)))))))) Ydl) (y3 (Yeu (Yhg (Yhf (Yaw hr.units (Yc 2) (Yb Yp)) (Yfp (Yaw hr.units (Yc 2) (Yb Yp))))) (Yag (Yc0 (Ycz (Yw (Yae (Ys 2)) (Yw (y7 0 (Yc3 bl) hr rfl (Yd (Ys 2) Yi) aL1) Ybx))))) Ydl) (y3 (Yeu (Yaw hr.units (Yc 2) (Yb Yp)) (y3 (Yc1 5 sc_law_any.nd (y7 0 (y8 bl) hr rfl (Yd Yh Yi) aL1)) (Yag (Yc0 (Ycz (Yw (Yae (Ys 2)) (Yw (Yae (Ys 5)) (Yw (y7 0 (Yc3 bl) hr rfl (Yd (Ys 2) Yi) aL1) Ybx))))))) Ydl) (Yag (Yas (y9 (Yic (Yd (Ys 2) Yi)))))))))))))
theorem Ydr:FnScope ["numbers"] ["numbers"] (defScope (top 18)):=fns
theorem cs_law_number_words_0:CompSc ["numbers"] (defScope (top 18)) ["number"] [none] (fsc [(".0",.local),("number",.local),("str",.globalImplicit)]):=Yd2 (by decide +kernel)
def Yay:Ro->Option D:=(cC (Yl (getC 0) aNil) strC)
def Yb5:Ro->Option Out:=(sRet (lF (b2 (lF (dLst (Yl (cC (Yl (cC (Yl (getC 0) aNil) lenC) aNil) strC) aNil))) (lF (Yhe (b1 (getV 0) Yau) [none] (gSet 0) tY (Yay))) catD)))
def Yv:List D->Option D:=runB 1 1 Yb5
theorem Yac(bl:Bl K w mg):Okf P w K mg base 1 1 "_law_number_words" ["numbers"] Yv:=by
 refine okfn bl.f18 Ydr fun hr=>?_
 exact(Yz (y9 (Ya1 (Ya4 (Yb (Ya1 (Yar (Yd (y6 Yaa Ybm rfl bl.Str boot_str (Yu (Yb (Ycc Ya7 Yeg rfl bl.Len PySem.boot_len (Yu (Yc 0) y1))) y1)) Yi)))) (Yb (Ya1 (Ygt cs_law_number_words_0 rfl (Yfq (Ys 0)) (fun _ _ _ _ _=>(Ybt 0 cs_law_number_words_0.nd)) (fun _ _ _ _ _=>Yie) (fun _ _ _ _ _=>(y6 Yaa Ybm rfl bl.Str boot_str (Yu (Yc 0) y1))) (Ygn (i:=0) rfl))))))))
theorem Yen:FnScope ["road"] ["road"] (defScope (top 19)):=fns
theorem cs_law_road_words_0:CompSc ["road"] (defScope (top 19)) ["saying"] [none] (fsc [(".0",.local),("saying",.local),("int",.globalImplicit),("str",.globalImplicit)]):=Yd2 (by decide +kernel)
def Ya5:Ro->Option D:=(b2 (b2 (lF (dLst (Yl (kD (.str "-")) (Yl (kD (.str "+")) aNil)))) (cC (Yl (b2 (getC 0) (kD (.int 1)) ixD) aNil) intC) ixD) (cC (Yl (b2 (getC 0) (kD (.int 0)) ixD) aNil) strC) addS)
def Ycw:Ro->Option Out:=(sRet (lF (b2 (lF (dLst (Yl (cC (Yl (cC (Yl (getC 0) aNil) lenC) aNil) strC) aNil))) (lF (Yhe (b1 (getV 0) Yau) [none] (gSet 0) tY (Ya5))) catD)))
def Yaf:List D->Option D:=runB 1 1 Ycw
theorem Ybk(bl:Bl K w mg):Okf P w K mg base 1 1 "_law_road_words" ["road"] Yaf:=by
 refine okfn bl.f19 Yen fun hr=>?_
 exact(Yz (y9 (Ya1 (Ya4 (Yb (Ya1 (Yar (Yd (y6 Yaa Ybm rfl bl.Str boot_str (Yu (Yb (Ycc Ya7 Yeg rfl bl.Len PySem.boot_len (Yu (Yc 0) y1))) y1)) Yi)))) (Yb (Ya1 (Ygt cs_law_road_words_0 rfl (Yfq (Ys 0)) (fun _ _ _ _ _=>(Ybt 0 cs_law_road_words_0.nd)) (fun _ _ _ _ _=>Yie) (fun _ _ _ _ _=>(Ymx (Yb (Yt (Yb (Ya1 (Yar (Yd Yp (Yd Yp Yi))))) (Yb (y6 Yfe Yh9 rfl bl.Int boot_int (Yu (Yb (Yt (Yc 0) (Yb Yh))) y1))))) (Yb (y6 Yaa Ybm rfl bl.Str boot_str (Yu (Yb (Yt (Yc 0) (Yb Yh))) y1))))) (Ygn (i:=0) rfl))))))))
theorem Ye3:FnScope ["beacon"] ["beacon"] (defScope (top 20)):=fns
def Yb3:Ro->Option Out:=(sSeq (sIf (b2 (getC 0) (kD .non) (isN false)) (sRet (kD (.str "none"))) sNil) (sRet (cC (Yl (getC 0) aNil) strC)))
def Yaz:List D->Option D:=runB 1 1 Yb3
theorem Ycx(bl:Bl K w mg):Okf P w K mg base 1 1 "_law_free_word" ["beacon"] Yaz:=by
 refine okfn bl.f20 Ye3 fun hr=>?_
 exact(y2 (Ybw (Ykx (Yc 0) (Yb Ygq)) (Yz (y9 Yp)) Yba) (Yz (y9 (y6 Yaa Ybm rfl bl.Str boot_str (Yu (Yc 0) y1)))))
theorem sc_law_rows_words:FnScope ["word","rows","words","row"] ["word","rows"] (defScope (top 21)):=fns
def Yad:Ro->Option Out:=(sSeq (sMut 2 (cC (Yl (b2 (getC 3) (kD (.int 0)) ixD) aNil) strC) appD) (sSeq (sIf (b2 (getC 0) (kD (.str "plan")) (eqM false)) (sOwn 2 (b2 (getC 2) (lF (dLst (Yl (cC (Yl (b2 (getC 3) (kD (.int 1)) ixD) aNil) Yaz) (Yl (b2 (lF (dLst (Yl (kD (.str "no")) (Yl (kD (.str "yes")) aNil)))) (cC (Yl (b2 (getC 3) (kD (.int 2)) ixD) aNil) intC) ixD) aNil)))) catD)) (sOwn 2 (b2 (getC 2) (cC (Yl (b2 (getC 3) (kD (.int 1)) ixD) aNil) Yv) catD))) (sIf (b2 (getC 0) (kD (.str "sums")) (eqM false)) (sMut 2 (b2 (lF (dLst (Yl (kD (.str "no")) (Yl (kD (.str "yes")) aNil)))) (cC (Yl (b2 (getC 3) (kD (.int 2)) ixD) aNil) intC) ixD) appD) sNil)))
@[simp] def Yd8:Ro->Option Out:=(wF [2] (sRet (getV 2)))
@[simp] def Yd9:Ro->Option Out:=(sSeq (sFor (b1 (getV 1) Yau) (gSet 3) Yad) Yd8)
def Ycy:Ro->Option Out:=(sSeq (sOwn 2 (dLst (Yl (cC (Yl (cC (Yl (getC 1) aNil) lenC) aNil) strC) aNil))) Yd9)
def Yan:List D->Option D:=runB 2 4 Ycy
theorem Ych(bl:Bl K w mg):Okf P w K mg base 2 2 "_law_rows_words" ["word","rows"] Yan:=by
 refine okfn bl.f21 sc_law_rows_words fun hr=>?_
 exact(y2 (Ybb 2 sc_law_rows_words.nd (Yar (Yd (y6 Yaa Ybm rfl bl.Str boot_str (Yu (Yb (Ycc Ya7 Yeg rfl bl.Len PySem.boot_len (Yu (Yc 1) y1))) y1)) Yi))) (y2 (Yid PassesOwn.never rfl (Yfq (Ys 1)) (Ybt 3 sc_law_rows_words.nd) (y2 (Ycd 2 (y6 Yaa Ybm rfl bl.Str boot_str (Yu (Yb (Yt (Yc 3) (Yb Yh))) y1))) (y2 (Ybw (Yaw hr.units (Yc 0) (Yb Yp)) (Yz (Ybb 2 sc_law_rows_words.nd (Ya4 (Yc 2) (Yb (Ya1 (Yar (Yd (Yx (Ycx bl) hr rfl (Yd (Yt (Yc 3) (Yb Yh)) Yi) aL1) (Yd (Yt (Yb (Ya1 (Yar (Yd Yp (Yd Yp Yi))))) (Yb (y6 Yfe Yh9 rfl bl.Int boot_int (Yu (Yb (Yt (Yc 3) (Yb Yh))) y1)))) Yi)))))))) (Yz (Ybb 2 sc_law_rows_words.nd (Ya4 (Yc 2) (Yb (Yx (Yac bl) hr rfl (Yd (Yt (Yc 3) (Yb Yh)) Yi) aL1)))))) (Yz (Ybw (Yaw hr.units (Yc 0) (Yb Yp)) (Yz (Ycd 2 (Yt (Yb (Ya1 (Yar (Yd Yp (Yd Yp Yi))))) (Yb (y6 Yfe Yh9 rfl bl.Int boot_int (Yu (Yb (Yt (Yc 3) (Yb Yh))) y1)))))) Yba))))) (Yz (Ygr [2] (y9 (Ys 2))))))
theorem sc_law_paper_words:FnScope ["paper","word","words"] ["paper"] (defScope (top 22)):=fns
@[simp] def Yds:Ro->Option Out:=(wF [2] (sRet (getV 2)))
@[simp] def Ydt:Ro->Option Out:=(sSeq (sIf (b2 (getC 1) (kD (.str "rows")) (eqM false)) (sOwn 2 (b2 (lF (b2 (getC 2) (cC (Yl (b2 (getC 0) (kD (.int 1)) ixD) aNil) Yv) catD)) (cC (Yl (getV 1) (Yl (b2 (getC 0) (kD (.int 2)) ixD) aNil)) Yan) catD)) sNil) Yds)
@[simp] def Ydu:Ro->Option Out:=(sSeq (sIf (orT (b2 (getC 1) (kD (.str "plan")) (eqM false)) (b2 (getC 1) (kD (.str "sums")) (eqM false))) (sOwn 2 (b2 (getC 2) (cC (Yl (getV 1) (Yl (b2 (getC 0) (kD (.int 1)) ixD) aNil)) Yan) catD)) sNil) Ydt)
@[simp] def Ydv:Ro->Option Out:=(sSeq (sIf (b2 (getC 1) (kD (.str "lone")) (eqM false)) (sSeq (sMut 2 (cC (Yl (b2 (getC 0) (kD (.int 1)) ixD) aNil) Yaz) appD) (sOwn 2 (b2 (lF (b2 (getC 2) (cC (Yl (b2 (getC 0) (kD (.int 2)) ixD) aNil) Yv) catD)) (cC (Yl (b2 (getC 0) (kD (.int 3)) ixD) aNil) Yv) catD))) sNil) Ydu)
@[simp] def Ydw:Ro->Option Out:=(sSeq (sIf (b2 (getC 1) (kD (.str "odd")) (eqM false)) (sOwn 2 (b2 (getC 2) (cC (Yl (b2 (getC 0) (kD (.int 1)) ixD) aNil) Yv) catD)) sNil) Ydv)
@[simp] def Ydx:Ro->Option Out:=(sSeq (sIf (b2 (getC 1) (kD (.str "cross")) (eqM false)) (sOwn 2 (b2 (getC 2) (cC (Yl (b2 (getC 0) (kD (.int 1)) ixD) aNil) Yaf) catD)) sNil) Ydw)
@[simp] def Ydy:Ro->Option Out:=(sSeq (sIf (orT (b2 (getC 1) (kD (.str "clash")) (eqM false)) (b2 (getC 1) (kD (.str "late")) (eqM false))) (sOwn 2 (b2 (lF (b2 (getC 2) (cC (Yl (b2 (getC 0) (kD (.int 1)) ixD) aNil) Yaf) catD)) (cC (Yl (b2 (getC 0) (kD (.int 2)) ixD) aNil) Yaf) catD)) sNil) Ydx)
@[simp] def Ydz:Ro->Option Out:=(sSeq (sOwn 2 (dLst (Yl (getV 1) aNil))) Ydy)
def Yq:Ro->Option Out:=(sSeq (sSet 1 (b2 (getC 0) (kD (.int 0)) ixD)) Ydz)
def Ya0:List D->Option D:=runB 1 3 Yq
theorem Yea(bl:Bl K w mg):Okf P w K mg base 3 1 "_law_paper_words" ["paper"] Ya0:=by
 refine okfn bl.f22 sc_law_paper_words fun hr=>?_
 exact(y2 (Ygs 1 sc_law_paper_words.nd (Yt (Yc 0) (Yb Yh))) (y2 (Ybb 2 sc_law_paper_words.nd (Yar (Yd (Ys 1) Yi))) (y2 (Ybw (Yhg (Yhf (Yaw hr.units (Yc 1) (Yb Yp)) (Yfp (Yaw hr.units (Yc 1) (Yb Yp))))) (Yz (Ybb 2 sc_law_paper_words.nd (Ya4 (Yb (Ya1 (Ya4 (Yc 2) (Yb (Yx (Ybk bl) hr rfl (Yd (Yt (Yc 0) (Yb Yh)) Yi) aL1))))) (Yb (Yx (Ybk bl) hr rfl (Yd (Yt (Yc 0) (Yb Yh)) Yi) aL1))))) Yba) (y2 (Ybw (Yaw hr.units (Yc 1) (Yb Yp)) (Yz (Ybb 2 sc_law_paper_words.nd (Ya4 (Yc 2) (Yb (Yx (Ybk bl) hr rfl (Yd (Yt (Yc 0) (Yb Yh)) Yi) aL1))))) Yba) (y2 (Ybw (Yaw hr.units (Yc 1) (Yb Yp)) (Yz (Ybb 2 sc_law_paper_words.nd (Ya4 (Yc 2) (Yb (Yx (Yac bl) hr rfl (Yd (Yt (Yc 0) (Yb Yh)) Yi) aL1))))) Yba) (y2 (Ybw (Yaw hr.units (Yc 1) (Yb Yp)) (y2 (Ycd 2 (Yx (Ycx bl) hr rfl (Yd (Yt (Yc 0) (Yb Yh)) Yi) aL1)) (Yz (Ybb 2 sc_law_paper_words.nd (Ya4 (Yb (Ya1 (Ya4 (Yc 2) (Yb (Yx (Yac bl) hr rfl (Yd (Yt (Yc 0) (Yb Yh)) Yi) aL1))))) (Yb (Yx (Yac bl) hr rfl (Yd (Yt (Yc 0) (Yb Yh)) Yi) aL1)))))) Yba) (y2 (Ybw (Yhg (Yhf (Yaw hr.units (Yc 1) (Yb Yp)) (Yfp (Yaw hr.units (Yc 1) (Yb Yp))))) (Yz (Ybb 2 sc_law_paper_words.nd (Ya4 (Yc 2) (Yb (Yx (Ych bl) hr rfl (Yd (Ys 1) (Yd (Yt (Yc 0) (Yb Yh)) Yi)) aL2))))) Yba) (y2 (Ybw (Yaw hr.units (Yc 1) (Yb Yp)) (Yz (Ybb 2 sc_law_paper_words.nd (Ya4 (Yb (Ya1 (Ya4 (Yc 2) (Yb (Yx (Yac bl) hr rfl (Yd (Yt (Yc 0) (Yb Yh)) Yi) aL1))))) (Yb (Yx (Ych bl) hr rfl (Yd (Ys 1) (Yd (Yt (Yc 0) (Yb Yh)) Yi)) aL2))))) Yba) (Yz (Ygr [2] (y9 (Ys 2))))))))))))
theorem sc_law:FnScope ["script","tape","k","paper","found"] ["script"] (defScope (top 23)):=fns
def Yeb(l:Addr):TmM:=(seqW (setE 3 (Yak l 1 (Ybq aNil Yd7))) (seqW (Yce (sSet 4 (cC (Yl (getV 3) aNil) Ybe))) (Yce (sIf (orT (notT (b1 (mB (b1 (getC 4) (isiD "str"))) truD)) (b2 (getC 4) (cC (Yl (cC (Yl (getV 3) aNil) Ya0) aNil) (Yhl (Str.ofString " "))) (eqM true))) (sRet (kD (.bl false))) sNil))))
def Ypq(l:Addr):TmM:=(Yce (sRet (kD (.bl true))))
def Yik(l:Addr):TmM:=(seqW (Yk1 (cF (Yl (kD (.int 4)) aNil) rng1) (gSet 2) (Yeb l)) (Ypq l))
def Ypr:Ro->Option Out:=(Ym3 1 (revF (getC 0)) Yik)
def Yil:List D->Option D:=runB 1 5 Ypr
theorem Yr3(bl:Bl K w mg){a:Addr}{fd:FuncData}(F:Fun K "law" "law" (top 23) a fd):FnOk P w K mg base CX0 11 a fd ["script"] (spOf K 1 Yil):=by
 refine Ygb (k:=10) F sc_law rfl rfl fun cdv A outer s H E hr=>?_
 exact(Ym4 1 sc_law.nd (Yif rfl rfl bl.List rfl bl.Reversed (Yc 0)) (fun l=>(y3 (Ym8 PassesOwn.never rfl (Yjm rfl bl.Range (Yd Yh Yi)) (Ybt 2 sc_law.nd) (y3 (Yc1 3 sc_law.nd (y7 1 (Yjo bl) hr rfl Yi aL0)) (y3 (Yas (Ygs 4 sc_law.nd (Yx (Ye2 bl) hr rfl (Yd (Ys 3) Yi) aL1))) (Yag (Yas (Ybw (Yhg (Yhf (Yo2 (Yib (Yb (Yo4 (Yc 4) rfl rfl bl.Isinstance bl.Str boot_str (Yo0))))) (Yfp (Yrt hr.units (Yc 4) (Yb (Yi3 (Yu (Yb (Yx (Yea bl) hr rfl (Yd (Ys 3) Yi) aL1)) y1))))))) (Yz (y9 Yns)) Yba)))))) (Yag (Yas (y9 Yns))))))
end
abbrev Ygw:Nat:=11
theorem all_mk{l:W.OpenLaw}{w:World}{K:W.Frag}{h:Heap}{mg:Str->Option Value}{fa ux:Addr}(X:K.In h)(G:h.Ns mainGlobals mg)(hfa:mg "law"=some (.ref fa))
 {ve uz:Option Addr} {vf:Array (Option Value)} {vg u0 u1 u2 uc u3:Value}
 (F_saying_written:Fk K "saying_written" 1)
 (F_thing_written:Fk K "thing_written" 6)
 (F_parts_written:Fk K "parts_written" 8)
 (F_part_written:Fk K "part_written" 7)
 (F_paper_written:Fk K "paper_written" 9)
 (F_law_mixed:Fk K "_law_mixed" 11)
 (F_law_next:Fk K "_law_next" 12)
 (F_law_many:Fk K "_law_many" 13)
 (F_law_any_road:Fk K "_law_any_road" 14)
 (F_law_any_numbers:Fk K "_law_any_numbers" 15)
 (F_law_any_rows:Fk K "_law_any_rows" 16)
 (F_law_any:Fk K "_law_any" 17)
 (F_law_number_words:Fk K "_law_number_words" 18)
 (F_law_road_words:Fk K "_law_road_words" 19)
 (F_law_free_word:Fk K "_law_free_word" 20)
 (F_law_rows_words:Fk K "_law_rows_words" 21)
 (F_law_paper_words:Fk K "_law_paper_words" 22)
 (vh:W.nsIn K mainGlobals "law"=some (some (.ref ux))) (vi:K.lookup ux=some ⟨vg,ve,.func (W.fnOf "law" "law" (defArgs (top 23)) (defBody (top 23)) (defScope (top 23)) .none u0 u1 u2 uz uc u3),vf⟩) (vj:W.codeIn K uc "law"=true) (vk:W.keepIn K (.ref ux)=true)
 {gn_23:_} (gq_23:K.lookup 23=some ⟨.type "tuple",none,.seq #[] gn_23,#[]⟩)
 {gn_24:_} {gt_24_0 gt_24_1:_} (gq_24:K.lookup 24=some ⟨.type "tuple",none,.seq #[.str "road" gt_24_0,.str "road" gt_24_1] gn_24,#[]⟩)
 {gn_25:_} {gt_25_0:_} (gq_25:K.lookup 25=some ⟨.type "tuple",none,.seq #[.str "road" gt_25_0] gn_25,#[]⟩)
 {gn_26:_} {gt_26_0 gt_26_1:_} (gq_26:K.lookup 26=some ⟨.type "tuple",none,.seq #[.str "road" gt_26_0,.str "road" gt_26_1] gn_26,#[]⟩)
 {gn_27:_} {gt_27_0:_} (gq_27:K.lookup 27=some ⟨.type "tuple",none,.seq #[.str "places" gt_27_0] gn_27,#[]⟩)
 {gn_28:_} {gt_28_0 gt_28_1 gt_28_2:_} (gq_28:K.lookup 28=some ⟨.type "tuple",none,.seq #[.str "source" gt_28_0,.str "places" gt_28_1,.str "places" gt_28_2] gn_28,#[]⟩)
 {gn_29:_} {gt_29_0:_} (gq_29:K.lookup 29=some ⟨.type "tuple",none,.seq #[.str "plan rows" gt_29_0] gn_29,#[]⟩)
 {gn_30:_} {gt_30_0:_} (gq_30:K.lookup 30=some ⟨.type "tuple",none,.seq #[.str "sum rows" gt_30_0] gn_30,#[]⟩)
 {gn_31:_} {gt_31_0 gt_31_1:_} (gq_31:K.lookup 31=some ⟨.type "tuple",none,.seq #[.str "beacons" gt_31_0,.str "if rows" gt_31_1] gn_31,#[]⟩)
 {gn_33:_} {gt_33_0 gt_33_1 gt_33_2:_} (gq_33:K.lookup 33=some ⟨.type "tuple",none,.seq #[.str "beacon" gt_33_0,.str "source" gt_33_1,.str "truth" gt_33_2] gn_33,#[]⟩)
 {gn_34:_} {gt_34_0 gt_34_1 gt_34_2:_} (gq_34:K.lookup 34=some ⟨.type "tuple",none,.seq #[.str "beacon" gt_34_0,.str "beacons" gt_34_1,.str "truth" gt_34_2] gn_34,#[]⟩)
 {gn_35:_} {gt_35_0 gt_35_1:_} (gq_35:K.lookup 35=some ⟨.type "tuple",none,.seq #[.str "beacon" gt_35_0,.str "beacons" gt_35_1] gn_35,#[]⟩)
 {u4:_} {uj uk ul um uo uq ur ut uu:_} (u5:W.nsIn K mainGlobals "PAPERS"=some (some (.ref 22))) (u6:K.lookup 22=some ⟨.type "dict",none,.dict #[⟨PyData.keyHash w.params (Str.ofString "broken"),.str "broken" uj,.ref 23⟩,⟨PyData.keyHash w.params (Str.ofString "clash"),.str "clash" uk,.ref 24⟩,⟨PyData.keyHash w.params (Str.ofString "cross"),.str "cross" ul,.ref 25⟩,⟨PyData.keyHash w.params (Str.ofString "late"),.str "late" um,.ref 26⟩,⟨PyData.keyHash w.params (Str.ofString "odd"),.str "odd" uo,.ref 27⟩,⟨PyData.keyHash w.params (Str.ofString "lone"),.str "lone" uq,.ref 28⟩,⟨PyData.keyHash w.params (Str.ofString "plan"),.str "plan" ur,.ref 29⟩,⟨PyData.keyHash w.params (Str.ofString "sums"),.str "sums" ut,.ref 30⟩,⟨PyData.keyHash w.params (Str.ofString "rows"),.str "rows" uu,.ref 31⟩] u4,#[]⟩)
 {vd:_} {u7 u9 vc:_} (uv:W.nsIn K mainGlobals "ROWS"=some (some (.ref 32))) (uw:K.lookup 32=some ⟨.type "dict",none,.dict #[⟨PyData.keyHash w.params (Str.ofString "plan rows"),.str "plan rows" u7,.ref 33⟩,⟨PyData.keyHash w.params (Str.ofString "sum rows"),.str "sum rows" u9,.ref 34⟩,⟨PyData.keyHash w.params (Str.ofString "if rows"),.str "if rows" vc,.ref 35⟩] vd,#[]⟩)
 {uy:_} {ud ue uf ug uh ui:_} (ua:W.nsIn K mainGlobals "SEVERAL"=some (some (.ref 36))) (ub:K.lookup 36=some ⟨.type "dict",none,.dict #[⟨PyData.keyHash w.params (Str.ofString "road"),.str "road" ud,.str "saying" ue⟩,⟨PyData.keyHash w.params (Str.ofString "places"),.str "places" uf,.str "place" ug⟩,⟨PyData.keyHash w.params (Str.ofString "beacons"),.str "beacons" uh,.str "beacon" ui⟩] uy,#[]⟩)
 (z_len:W.nsIn K mainGlobals "len"=some none)
 (z_range:W.nsIn K mainGlobals "range"=some none)
 (z_list:W.nsIn K mainGlobals "list"=some none)
 (z_tuple:W.nsIn K mainGlobals "tuple"=some none)
 (z_int:W.nsIn K mainGlobals "int"=some none)
 (z_str:W.nsIn K mainGlobals "str"=some none)
 (z_isinstance:W.nsIn K mainGlobals "isinstance"=some none)
 (z_reversed:W.nsIn K mainGlobals "reversed"=some none)
 (z_zip:W.nsIn K mainGlobals "zip"=some none)
 : ∃fd:FuncData,(∀(s:Shared) (v:Value),BindsTo s fd ⟨[v],[]⟩ [("script",v)])/\∀base:Heap,K.In base->base.Ns mainGlobals mg->FnOk l.prog w K mg base CX0 Ygw fa fd ["script"] (spOf K 1 Yil):=by
 have e:=hfa.symm.trans (W.mg_of X G vh)
 cases e
 have bl:Bl K w mg:=⟨W.mg_none_of X G z_len,W.mg_none_of X G z_range,W.mg_none_of X G z_list,W.mg_none_of X G z_tuple,W.mg_none_of X G z_int,W.mg_none_of X G z_str,W.mg_none_of X G z_isinstance,W.mg_none_of X G z_reversed,W.mg_none_of X G z_zip,⟨_,_,_,_,W.mg_of X G u5,u6,⟨rfl,rfl,rfl⟩,rfl,(.cons ⟨rfl,⟨_,rfl⟩,rfl⟩ (.cons ⟨rfl,⟨_,rfl⟩,rfl⟩ (.cons ⟨rfl,⟨_,rfl⟩,rfl⟩ (.cons ⟨rfl,⟨_,rfl⟩,rfl⟩ (.cons ⟨rfl,⟨_,rfl⟩,rfl⟩ (.cons ⟨rfl,⟨_,rfl⟩,rfl⟩ (.cons ⟨rfl,⟨_,rfl⟩,rfl⟩ (.cons ⟨rfl,⟨_,rfl⟩,rfl⟩ (.cons ⟨rfl,⟨_,rfl⟩,rfl⟩ .nil)))))))))⟩,⟨_,_,_,_,W.mg_of X G uv,uw,⟨rfl,rfl,rfl⟩,rfl,(.cons ⟨rfl,⟨_,rfl⟩,rfl⟩ (.cons ⟨rfl,⟨_,rfl⟩,rfl⟩ (.cons ⟨rfl,⟨_,rfl⟩,rfl⟩ .nil)))⟩,⟨_,_,_,_,W.mg_of X G ua,ub,⟨rfl,rfl,rfl⟩,rfl,(.cons ⟨rfl,⟨_,rfl⟩,⟨_,rfl⟩,by decide +kernel⟩ (.cons ⟨rfl,⟨_,rfl⟩,⟨_,rfl⟩,by decide +kernel⟩ (.cons ⟨rfl,⟨_,rfl⟩,⟨_,rfl⟩,by decide +kernel⟩ .nil)))⟩,⟨_,_,_,_,W.mg_of X G uv,by decide,uw,⟨rfl,rfl,rfl⟩,rfl,(.cons ⟨rfl,⟨_,rfl⟩⟩ (.cons ⟨rfl,⟨_,rfl⟩⟩ (.cons ⟨rfl,⟨_,rfl⟩⟩ .nil)))⟩,⟨_,_,_,_,W.mg_of X G ua,by decide,ub,⟨rfl,rfl,rfl⟩,rfl,(.cons ⟨rfl,⟨_,rfl⟩⟩ (.cons ⟨rfl,⟨_,rfl⟩⟩ (.cons ⟨rfl,⟨_,rfl⟩⟩ .nil)))⟩,⟨⟨_,_,_,gq_23,rfl,rfl,by rw[sizeLine_eq];simp,.nil⟩,⟨⟨_,_,_,gq_24,rfl,rfl,by rw[sizeLine_eq];simp,(.cons ⟨⟨_,rfl⟩,by decide +kernel⟩ (.cons ⟨⟨_,rfl⟩,by decide +kernel⟩ .nil))⟩,⟨⟨_,_,_,gq_25,rfl,rfl,by rw[sizeLine_eq];simp,(.cons ⟨⟨_,rfl⟩,by decide +kernel⟩ .nil)⟩,⟨⟨_,_,_,gq_26,rfl,rfl,by rw[sizeLine_eq];simp,(.cons ⟨⟨_,rfl⟩,by decide +kernel⟩ (.cons ⟨⟨_,rfl⟩,by decide +kernel⟩ .nil))⟩,⟨⟨_,_,_,gq_27,rfl,rfl,by rw[sizeLine_eq];simp,(.cons ⟨⟨_,rfl⟩,by decide +kernel⟩ .nil)⟩,⟨⟨_,_,_,gq_28,rfl,rfl,by rw[sizeLine_eq];simp,(.cons ⟨⟨_,rfl⟩,by decide +kernel⟩ (.cons ⟨⟨_,rfl⟩,by decide +kernel⟩ (.cons ⟨⟨_,rfl⟩,by decide +kernel⟩ .nil)))⟩,⟨⟨_,_,_,gq_29,rfl,rfl,by rw[sizeLine_eq];simp,(.cons ⟨⟨_,rfl⟩,by decide +kernel⟩ .nil)⟩,⟨⟨_,_,_,gq_30,rfl,rfl,by rw[sizeLine_eq];simp,(.cons ⟨⟨_,rfl⟩,by decide +kernel⟩ .nil)⟩,⟨⟨_,_,_,gq_31,rfl,rfl,by rw[sizeLine_eq];simp,(.cons ⟨⟨_,rfl⟩,by decide +kernel⟩ (.cons ⟨⟨_,rfl⟩,by decide +kernel⟩ .nil))⟩,⟨⟨_,_,_,gq_33,rfl,rfl,by rw[sizeLine_eq];simp,(.cons ⟨⟨_,rfl⟩,by decide +kernel⟩ (.cons ⟨⟨_,rfl⟩,by decide +kernel⟩ (.cons ⟨⟨_,rfl⟩,by decide +kernel⟩ .nil)))⟩,⟨⟨_,_,_,gq_34,rfl,rfl,by rw[sizeLine_eq];simp,(.cons ⟨⟨_,rfl⟩,by decide +kernel⟩ (.cons ⟨⟨_,rfl⟩,by decide +kernel⟩ (.cons ⟨⟨_,rfl⟩,by decide +kernel⟩ .nil)))⟩,⟨⟨_,_,_,gq_35,rfl,rfl,by rw[sizeLine_eq];simp,(.cons ⟨⟨_,rfl⟩,by decide +kernel⟩ (.cons ⟨⟨_,rfl⟩,by decide +kernel⟩ .nil))⟩,trivial⟩⟩⟩⟩⟩⟩⟩⟩⟩⟩⟩⟩,F_saying_written.on X G,F_thing_written.on X G,F_parts_written.on X G,F_part_written.on X G,F_paper_written.on X G,F_law_mixed.on X G,F_law_next.on X G,F_law_many.on X G,F_law_any_road.on X G,F_law_any_numbers.on X G,F_law_any_rows.on X G,F_law_any.on X G,F_law_number_words.on X G,F_law_road_words.on X G,F_law_free_word.on X G,F_law_rows_words.on X G,F_law_paper_words.on X G⟩
 have vm:=Ynm (st:=(top 23)) vi vj vk
 refine⟨W.fnOf "law" "law" (defArgs (top 23)) (defBody (top 23)) (defScope (top 23)) .none u0 u1 u2 uz uc u3,fun s v=>.of_eq rfl,fun base _ _=>?_⟩
 exact Yr3 bl vm
theorem walk(hlaw:∀ns:List Int,ns.length<=63->Yil [.scr ns]=some (.bl true)){l:W.OpenLaw}{q:Program}{loose:List Str}{XP:(Str->Option Value)->Heap->Prop}{YP:World->Heap->Prop}{d:DefRec}{K:Params->W.Frag}(hn:l.most=some 63)(hdf:d.params.defaults=[])
 (hY:∀(w:World) (h:Heap),YP w h->(K w.params).In h)
 (F:∀(w:World) (mg:Str->Option Value) (fa:Addr) (h:Heap),(K w.params).In h->h.Ns mainGlobals mg->mg d.name=some (.ref fa)->
  ∃fd:FuncData,(∀(s:Shared) (u:Value),BindsTo s fd ⟨[u],[]⟩ [("script",u)])/\∀base:Heap,(K w.params).In base->base.Ns mainGlobals mg->FnOk l.prog w (K w.params) mg base CX0 Ygw fa fd ["script"] (spOf (K w.params) 1 Yil)) :
 W.WalkO q loose XP YP l.row.toRowW d [] (fun f vs=>PySem.call f vs):=
 L2.walk_of (n:=63) (k:=Ygw) (x:="script") (CX:=fun _=>CX0) (sp:=fun w=>spOf (K w.params) 1 Yil) hn (by decide) hdf ⟨rfl,by decide,by decide⟩ hY F
  (fun w H a ns hl _ hS=>⟨rfl,[.scr ns],.bl true,H,Same.refl H,.one (by rw[Rp];exact⟨a,rfl,hS⟩),hlaw ns hl,fun v H' G' g r=>by rw[Rp]at r;exact r⟩) fun _ _ _ _ _ z=>z
end Lw
namespace Lw
open PySem L2 M Bk
end Lw
namespace Lw
open PySem L2 M Bk
theorem Yps(c m:Int):∃v:Int,0<=v/\Ybz [.int c,.int m]=some (.int v):=by
 refine⟨c % 2305843009213693951 * m % 2305843009213693951,Int.emod_nonneg _ (by decide),?_⟩
 rw[Ybz,Ybo (by rfl)]
 have h1:0<=c % 2305843009213693951:=Int.emod_nonneg _ (by decide)
 have h2:c % 2305843009213693951 < 2305843009213693951:=Int.emod_lt_of_pos _ (by decide)
 have h3:mulI (.int (c % 2305843009213693951)) (.int m)=some (.int (c % 2305843009213693951 * m)):=Ygu ⟨by lia,by lia⟩
 simp[Yft,Yr,h3]
end Lw
namespace Lw
open PySem L2 M Bk
section
variable {τ:Type} {f g:Ro->τ->Option (OutW τ)} {ρ ρ':Ro} {t t':τ}
theorem Yaj(h:f ρ t=some (.nx ρ' t')):seqW f g ρ t=g ρ' t':=by
 unfold seqW
 rw[h]
 rfl
theorem Yb6{f:Ro->Option Out}(h:f ρ=some (.nx ρ')):Yce f ρ t=some (.nx ρ' t):=by
 unfold Yce
 rw[h]
 rfl
theorem Yec{f:Ro->Option Out}{d:D}(h:f ρ=some (.rt d)):Yce f ρ t=some (.rt d t):=by
 unfold Yce
 rw[h]
 rfl
theorem Ym9{c:Ro->τ->Option Bool}(h:c ρ t=some true):ifW c f g ρ t=f ρ t:=by
 unfold ifW
 rw[h]
 rfl
theorem Ylg{c:Ro->τ->Option Bool}(h:c ρ t=some false):ifW c f g ρ t=g ρ t:=by
 unfold ifW
 rw[h]
 rfl
end
theorem Ybf{l i:Nat}{f:Te}{ρ:Ro}{t:List Int}(h:ρ[i]?=some (some (.sh (.adr l)))):Yak l i f ρ t=f ρ t:=by
 unfold Yak
 rw[h]
 exact if_pos rfl
theorem Ybu{ga:Ro->Option (List D)}{g:List D->List Int->Option (D × List Int)}{ρ:Ro}{ds:List D}{t:List Int}(h:ga ρ=some ds):Ybq ga g ρ t=g ds t:=by
 unfold Ybq
 rw[h]
 rfl
theorem Yca{i:Nat}{f:Te}{ρ:Ro}{t t':List Int}{d:D}(h:f ρ t=some (d,t')):setE i f ρ t=some (.nx (ρ.set i (some (.sh d))) t'):=by
 unfold setE
 rw[h]
 rfl
theorem Yc4{f:Te}{ρ:Ro}{t t':List Int}{d:D}(h:f ρ t=some (d,t')):retE f ρ t=some (.rt d t'):=by
 unfold retE
 rw[h]
 rfl
theorem Yai{f:Ro->Option D}{ρ:Ro}{t:List Int}{d:D}(h:f ρ=some d):Yb4 f ρ t=some (d,t):=by
 unfold Yb4
 rw[h]
 rfl
theorem Ylh{fa fb:Te}{g:D->D->Option D}{ρ:Ro}{t t1 t2:List Int}{a b d:D}(h1:fa ρ t=some (a,t1))(h2:fb ρ t1=some (b,t2))(h3:g a b=some d):binE fa fb g ρ t=some (d,t2):=by
 unfold binE
 rw[h1]
 show(fb ρ t1).bind _=_
 rw[h2]
 show(g a b).map _=_
 rw[h3]
 rfl
theorem y4{fa:Te}{fb:Ta}{ρ:Ro}{t t1 t2:List Int}{a:D}{l:List D}(h1:fa ρ t=some (a,t1))(h2:fb ρ t1=some (l,t2)):Ya8 fa fb ρ t=some (a::l,t2):=by
 unfold Ya8
 rw[h1]
 show(fb ρ t1).map _=_
 rw[h2]
 rfl
theorem Ycn{f:Ta}{ρ:Ro}{t t1:List Int}{l:List D}(h:f ρ t=some (l,t1))(hl:l.length<=1000000):tupE f ρ t=some (.tup l,t1):=by
 unfold tupE
 rw[h]
 exact if_pos hl
theorem Yim{τ:Type}{f g:Ro->τ->Option (OutW τ)}{ρ:Ro}{t t':τ}{d:D}(h:f ρ t=some (.rt d t')):seqW f g ρ t=some (.rt d t'):=by
 unfold seqW
 rw[h]
 rfl
theorem Yli(t:List Int):∃(v:Int) (t':List Int),0<=v/\Yap [] t=some (.int v,t'):=by
 cases ht:t.getLast? with
 | none=>
   have h0:t=[]:=List.getLast?_eq_none_iff.mp ht
   subst h0
   refine⟨0,[],Int.le_refl _,Ydk fun l=>?_⟩
   have hst:Yr 1 [.adr l]=[some (.sh (.adr l))]:=rfl
   rw[hst]
   unfold Yem
   rw[Yaj (ρ':=[some (.sh (.adr l))]) (t':=[])]
   ·rfl
   ·rw[Ylg]
    ·rfl
    ·unfold Yk9 thT
     show(if l=l then _ else none).bind _=_
     rw[if_pos rfl]
     rfl
 | some k=>
   obtain⟨v,hv0,hv⟩:=Yps k 2049848353892358983
   refine⟨v,t.dropLast,hv0,Ydk fun l=>?_⟩
   have hne:t≠[]:=fun z=>by rw[z]at ht;cases ht
   have hpos:(0:Int) < (t.length:Int):=by
    have:=List.length_pos_iff.mpr hne
    lia
   have hst:Yr 1 [.adr l]=[some (.sh (.adr l))]:=rfl
   rw[hst]
   unfold Yem
   rw[Yim (d:=.int v) (t':=t.dropLast)]
   rw[Ym9]
   ·refine Yc4 ?_
    unfold Ypk
    rw[y4 (a:=.int k) (t1:=t.dropLast) (l:=[.int 2049848353892358983]) (t2:=t.dropLast)]
    ·show(Ybz [.int k,.int 2049848353892358983]).map _=_
     rw[hv]
     rfl
    ·unfold popE
     show(if l=l then (t.getLast?).map _ else none)=_
     rw[if_pos rfl,ht]
     rfl
    ·exact y4 (Yai rfl) rfl
   ·unfold Yk9 thT
    show(if l=l then some [some (B.sh (.lst (t.map D.int)))]else none).bind _=_
    rw[if_pos rfl,qd]
    simp[hpos,List.length_pos_iff.mpr hne]
theorem Ylj(most:Int)(hm:most=200\/most=66)(t:List Int):∃(m:Nat) (t':List Int),m<=200/\Ycf [.int most] t=some (.int (m:Int),t'):=by
 obtain⟨v,t',hv0,hv⟩:=Yli t
 have hsub:subI (.int most) (.int 59)=some (.int (most - 59)):=by simp
 have h0:(0:Int) < most - 59:=by lia
 obtain⟨m,hm200,hmm⟩:∃m:Nat,m<=200/\(if v / 6 % 8=1 then 60+v / 48 % (most - 59)else v % 6)=(m:Int):=by
  have b1:=Int.emod_nonneg (v / 48) (show most - 59≠0 by lia)
  have b2:=Int.emod_lt_of_pos (v / 48) h0
  by_cases h:v / 6 % 8=1
  ·rw[if_pos h]
   exact⟨(60+v / 48 % (most - 59)).toNat,by lia,by lia⟩
  ·rw[if_neg h]
   exact⟨(v % 6).toNat,by lia,by lia⟩
 refine⟨m,t',hm200,Ydk fun l=>?_⟩
 have hst:Yr 3 [.adr l,.int most]=[some (.sh (.adr l)),some (.sh (.int most)),none]:=rfl
 rw[hst]
 unfold Ygf
 rw[Yaj (Yca (d:=.int v) (t':=t') ((Ybf rfl).trans ((Ybu (ds:=[]) rfl).trans hv)))]
 unfold Yew
 have hmod:modI (.int (v / 48)) (.int (most - 59))=some (.int (v / 48 % (most - 59))):=Yhh h0
 by_cases h:v / 6 % 8=1
 ·rw[if_pos h]at hmm
  refine Yim (Yec ?_)
  simp[h,hmod,hmm]
 ·rw[if_neg h]at hmm
  rw[Yaj (Yb6 (ρ':=[some (.sh (.adr l)),some (.sh (.int most)),some (.sh (.int v))]) (by simp[h]))]
  unfold Yev
  refine Yec ?_
  simp[hmm]
theorem Ylk(t:List Int)(k:Nat)(hk:k < 1000):∃(v:Int) (t':List Int),0<=v/\∀(l i:Nat) (ρ:Ro) (f:Ro->Option D),ρ[i]?=some (some (.sh (.adr l)))->f ρ=some (.int (7919 * k * k))->binE (Yak l i (Ybq aNil Yap)) (Yb4 f) addI ρ t=some (.int v,t'):=by
 obtain⟨v,t',hv0,hv⟩:=Yli t
 refine⟨v+7919 * k * k,t',?_,fun l i ρ f h1 h2=>?_⟩
 ·have:(0:Int)<=7919 * k * k:=by
   have h1:(0:Int)<=7919 * (k:Int):=by lia
   exact Int.mul_nonneg h1 (by lia)
  lia
 ·exact Ylh ((Ybf h1).trans ((Ybu (ds:=[]) rfl).trans hv)) (Yai h2) (by simp)
theorem Yr4{k:Nat}(hk:k < 1000)(c:Int)(hc:0<=c/\c < 10000):(mulI (.int c) (.int (k:Int))).bind (fun a=>mulI a (.int (k:Int)))=some (.int (c * (k:Int) * (k:Int))):=by
 have b1:0<=c * (k:Int):=Int.mul_nonneg hc.1 (by lia)
 have b2:c * (k:Int)<=10000 * 1000:=Int.mul_le_mul (by lia) (by lia) (by lia) (by lia)
 rw[Ygu ⟨by lia,by lia⟩,qd]
 exact Ygu ⟨by lia,by lia⟩
theorem Ys6{k:Nat}{c:D}{d:D}{ρ:Ro}{i:Nat}(h:getC i ρ=some (.int (k:Int)))(h2:(mulI c (.int (k:Int))).bind (fun a=>mulI a (.int (k:Int)))=some d):b2 (b2 (kD c) (getC i) mulI) (getC i) mulI ρ=some d:=by
 unfold b2 kD
 rw[h]
 exact h2
theorem e_sq{k:Nat}(hk:k < 1000){ρ:Ro}{i:Nat}(h:getC i ρ=some (.int (k:Int))):b2 (b2 (kD (.int 7919)) (getC i) mulI) (getC i) mulI ρ=some (.int (7919 * (k:Int) * (k:Int))):=
 Ys6 h (Yr4 hk 7919 ⟨by decide,by decide⟩)
theorem Ygx{β:Type}{gt:D->Ro->Option Ro}{fb:Addr->TmM}{α:Type}(enc:α->D)(St:Addr->β->Ro->Prop)(I:List α->β->Prop):∀(l pre:List α) (b:β) (t:List Int),I pre b->
 (∀q a r b t,pre++l=q++a::r->I q b->∃b' t',I (q++[a]) b'/\∀x ρ,St x b ρ->∃ρ1 ρ2,gt (enc a) ρ=some ρ1/\fb x ρ1 t=some (.nx ρ2 t')/\St x b' ρ2)->
 ∃b' t',I (pre++l) b'/\∀x ρ,St x b ρ->∃ρ',forW gt (fb x) (l.map enc) ρ t=some (.nx ρ' t')/\St x b' ρ'
 | [],pre,b,t,h0,_=>⟨b,t,by rw[List.append_nil];exact h0,fun x ρ h=>⟨ρ,rfl,h⟩⟩
 | a::l,pre,b,t,h0,hs=>by
   obtain⟨b1,t1,i1,h1⟩:=hs pre a l b t rfl h0
   obtain⟨b2,t2,i2,h2⟩:=Ygx enc St I l (pre++[a]) b1 t1 i1 fun q b r c t e hI=>hs q b r c t (by rw[<-e,Qd];rfl) hI
   refine⟨b2,t2,by rw[Qd]at i2;exact i2,fun x ρ h=>?_⟩
   obtain⟨ρ1,ρ2,e1,e2,s2⟩:=h1 x ρ h
   obtain⟨ρ3,e3,s3⟩:=h2 x ρ2 s2
   refine⟨ρ3,?_,s3⟩
   rw[qy,forW,e1,qd,e2,qd]
   exact e3
theorem Yhv{β α:Type}{gt:D->Ro->Option Ro}{fe:Addr->Te}{ρ:Addr->Ro}(enc:α->D)(en2:β->D)(P:β->Prop):∀(l:List α) (t:List Int),
 (∀a∈l,∀t,∃v t',P v/\∀x,∃ρ1,gt (enc a) (ρ x)=some ρ1/\fe x ρ1 t=some (en2 v,t'))->∃(vs:List β) (t':List Int),vs.length=l.length/\(∀v∈vs,P v)/\∀x,Yhp gt (fe x) (ρ x) (l.map enc) t=some (vs.map en2,t')
 | [],t,_=>⟨[],t,rfl,fun _ h=>(nomatch h),fun _=>rfl⟩
 | a::l,t,h=>by
   obtain⟨v,t1,hv,h1⟩:=h a (.head _) t
   obtain⟨vs,t2,hl,hp,h2⟩:=Yhv (fe:=fe) (ρ:=ρ) enc en2 P l t1 fun b hb=>h b (.tail _ hb)
   refine⟨v::vs,t2,by rw[qr,qr,hl],fun y hy=>?_,fun x=>?_⟩
   ·cases hy with
    | head=>exact hv
    | tail _ hy=>exact hp y hy
   ·obtain⟨ρ1,e1,e2⟩:=h1 x
    rw[qy,Yhp,e1,qd,e2,qd,h2 x]
    rfl
theorem Yll{f:Te}{gt:D->Ro->Option Ro}{fb:TmM}{ρ:Ro}{t t':List Int}{m:Nat}(hm:m<=1000)(h:f ρ t=some (.int (m:Int),t')):forE f gt fb ρ t=forW gt fb ((List.range m).map fun i=>D.int (0+(i:Nat))) ρ t':=by
 unfold forE
 rw[h]
 show(rng1 [.int (m:Int)]).bind _=_
 rw[Yig (by lia) (by lia),Yk0]
 rfl
theorem Ylm{f:Te}{src:List (Option Nat)}{gt:D->Ro->Option Ro}{fe:Te}{ρ:Ro}{t t':List Int}{m:Nat}(hm:m<=1000)(h:f ρ t=some (.int (m:Int),t')):Yhq f src gt fe ρ t=Yhp gt fe (capR src ρ) ((List.range m).map fun i=>D.int (0+(i:Nat))) t':=by
 unfold Yhq
 rw[h]
 show(rng1 [.int (m:Int)]).bind _=_
 rw[Yig (by lia) (by lia),Yk0]
 rfl
def OkN(xs:List Nat):Prop:=xs.length<=200/\∀x∈xs,x < 1000
def OkR(r:List Say):Prop:=r.length<=200/\∀p∈r,p.1 < 1000
theorem Yfx{v:Int}(b:Int)(h:0 < b):∃n:Nat,(n:Int) < b/\v % b=(n:Int):=
 ⟨(v % b).toNat,by have:=Int.emod_nonneg v (show b≠0 by lia);have:=Int.emod_lt_of_pos v h;lia,by have:=Int.emod_nonneg v (show b≠0 by lia);lia⟩
theorem Ynw(t:List Int):∃(r:List Say) (t':List Int),OkR r/\Yah [] t=some (.tup (r.map sayD),t'):=by
 obtain⟨m,t1,hm,h1⟩:=Ylj 200 (.inl rfl) t
 obtain⟨r,t2,⟨hl,hr⟩,h2⟩:=Ygx (gt:=gSet 2) (fb:=Ybj) (fun i:Nat=>D.int (0+(i:Nat))) (fun x (r:List Say) ρ=>∃y z,ρ=[some (.sh (.adr x)),some (.ow (r.map sayD)),y,z])
  (fun pre r=>r.length=pre.length/\∀p∈r,p.1 < 1000) (List.range m) [] [] t1 ⟨rfl,fun _ h=>(nomatch h)⟩ (by
   rintro q a rest r t e ⟨hl,hr⟩
   have hlen:q.length < 200:=by
    have:=congrArg List.length e
    simp at this
    lia
   have ha:a < 1000:=by
    have:a∈List.range m:=by
     have e':List.range m=q++a::rest:=e
     rw[e']
     simp
    have:=List.mem_range.mp this
    lia
   obtain⟨v,t2,hv0,hv⟩:=Ylk t a ha
   obtain⟨n,hn,en⟩:=Yfx (v:=v) 60 (by lia)
   refine⟨r++[(n,decide (v / 60 % 2=1))],t2,⟨by simp[hl],fun p hp=>?_⟩,fun x ρ=>?_⟩
   ·rcases qu hp with hp | hp
    ·exact hr p hp
    ·simp at hp
     subst hp
     show n < 1000
     lia
   ·rintro⟨y,z,rfl⟩
    refine⟨_,_,rfl,?_,some (.sh (.int (0+(a:Int)))),some (.sh (.int v)),rfl⟩
    unfold Ybj
    rw[Yaj (Yca (hv x 0 _ _ rfl (e_sq ha (by simp[gSet]))))]
    refine Yb6 ?_
    have hcap:r.length < 1000000:=by lia
    simp[gSet,en,appD,hcap,sayD])
 rw[Qc,List.length_range]at hl
 refine⟨r,t2,⟨by lia,hr⟩,Ydk fun x=>?_⟩
 have hst:Yr 4 [.adr x]=[some (.sh (.adr x)),none,none,none]:=rfl
 rw[hst]
 unfold Ydc
 rw[Yaj (Yb6 (ρ':=[some (.sh (.adr x)),some (.ow []),none,none]) (by simp))]
 unfold Yct
 obtain⟨ρ',e,y,z,rfl⟩:=h2 x [some (.sh (.adr x)),some (.ow []),none,none] ⟨none,none,rfl⟩
 rw[Yaj (t':=t2) (ρ':=[some (.sh (.adr x)),some (.ow (r.map sayD)),y,z])]
 ·unfold Ycs
  refine Yec ?_
  simp
 ·rw[Yll (m:=m) (t':=t1) (by lia) ((Ybf rfl).trans ((Ybu (ds:=[.int 200]) rfl).trans h1))]
  exact e
theorem Yc5(most:Int)(h0:0 < most)(h1:most < 1000)(t:List Int):∃(xs:List Nat) (t':List Int),OkN xs/\Yy [.int most] t=some (.tup (xs.map nD),t'):=by
 obtain⟨m,t1,hm,e1⟩:=Ylj 200 (.inl rfl) t
 obtain⟨xs,t2,hl,hx,h2⟩:=Yhv (gt:=gSet 0) (fe:=Ybr) (ρ:=fun x=>[none,some (.sh (.adr x)),some (.sh (.int most))]) (fun i:Nat=>D.int (0+(i:Nat))) nD (fun n=>n < 1000) (List.range m) t1 (by
  intro a ha t
  have ha:=List.mem_range.mp ha
  obtain⟨v,t2,hv0,hv⟩:=Ylk t a (by lia)
  obtain⟨n,hn,en⟩:=Yfx (v:=v) most h0
  refine⟨n,t2,by lia,fun x=>⟨_,rfl,?_⟩⟩
  have hmod:modI (.int v) (.int most)=some (.int (v % most)):=Yhh h0
  rw[en]at hmod
  exact Ylh (hv x 1 _ _ rfl (e_sq (k:=a) (by lia) (by simp[gSet]))) (Yai rfl) hmod)
 rw[List.length_range]at hl
 refine⟨xs,t2,⟨by lia,hx⟩,Ydk fun x=>?_⟩
 have hst:Yr 2 [.adr x,.int most]=[some (.sh (.adr x)),some (.sh (.int most))]:=rfl
 rw[hst]
 unfold Ycg
 refine Yc4 (Ycn ?_ (by rw[qf];lia))
 rw[Ylm (m:=m) (t':=t1) (by lia) ((Ybf rfl).trans ((Ybu (ds:=[.int 200]) rfl).trans e1))]
 exact h2 x
theorem Yjp(neg:Bool)(a b:Str):eqM neg (.str a) (.str b)=some (if neg then !decide (a=b)else decide (a=b)):=by
 rw[Ynt (by simp) (by simp),Yo8]
 by_cases h:a=b<;>cases neg<;>simp[h]
def nm:Fin 9->Str
 | 0=>Str.ofString "broken" | 1=>Str.ofString "clash" | 2=>Str.ofString "cross" | 3=>Str.ofString "late" | 4=>Str.ofString "odd" | 5=>Str.ofString "lone" | 6=>Str.ofString "plan" | 7=>Str.ofString "sums" | 8=>Str.ofString "rows"
@[simp] theorem nm0:Str.ofString "broken"=nm 0:=nrT rfl
@[simp] theorem nm1:Str.ofString "clash"=nm 1:=nrT rfl
@[simp] theorem nm2:Str.ofString "cross"=nm 2:=nrT rfl
@[simp] theorem nm3:Str.ofString "late"=nm 3:=nrT rfl
@[simp] theorem nm4:Str.ofString "odd"=nm 4:=nrT rfl
@[simp] theorem nm5:Str.ofString "lone"=nm 5:=nrT rfl
@[simp] theorem nm6:Str.ofString "plan"=nm 6:=nrT rfl
@[simp] theorem nm7:Str.ofString "sums"=nm 7:=nrT rfl
@[simp] theorem nm8:Str.ofString "rows"=nm 8:=nrT rfl
theorem Yr5:∀i j,nm i=nm j->i=j:=by decide +kernel
@[simp] theorem eqM_nm(neg:Bool)(i j:Fin 9):eqM neg (.str (nm i)) (.str (nm j))=some (if neg then !decide (i=j)else decide (i=j)):=by
 rw[Yjp]
 by_cases h:i=j
 ·simp[h]
 ·have:¬nm i=nm j:=fun e=>h (Yr5 i j e)
  simp[h,this]
inductive K3 | pl | su | ro
abbrev Rw:=Nat × Option Nat × List Nat × Bool
def kW:K3->Str
 | .pl=>nm 6 | .su=>nm 7 | .ro=>nm 8
def rwD:K3->Rw->D
 | .pl,(a,s,_,b)=>.tup [nD a,optD s,.bl b]
 | .su,(a,_,xs,b)=>.tup [nD a,.tup (xs.map nD),.bl b]
 | .ro,(a,_,xs,_)=>.tup [nD a,.tup (xs.map nD)]
def OkRw(r:Rw):Prop:=r.1 < 1000/\(∀x,r.2.1=some x->x < 1000)/\OkN r.2.2.1
def OkRs(rs:List Rw):Prop:=rs.length<=200/\∀r∈rs,OkRw r
theorem Ynx(v w:Int):∃s:Option Nat,(∀x,s=some x->x < 1000)/\atI [.non,.int (v % 60)] (w % 2)=some (optD s):=by
 have h2:w % 2=0\/w % 2=1:=by lia
 rcases h2 with h | h
 ·exact⟨none,fun x hx=>(nomatch hx),by rw[h];rfl⟩
 ·obtain⟨n,hn,en⟩:=Yfx (v:=v) 60 (by lia)
  refine⟨some n,fun x hx=>?_,by rw[h,en];rfl⟩
  cases hx
  lia
theorem Yln{i:Nat}{f:Te}{ρ:Ro}{t t':List Int}{d:D}{xs:List D}(h1:getO i ρ=some xs)(hl:xs.length < 1000000)(h2:f ρ t=some (d,t')):appE i f ρ t=some (.nx (ρ.set i (some (.ow (xs++[d])))) t'):=by
 unfold appE
 rw[h1,qd,if_pos hl,h2]
 rfl
theorem Ys7(k:K3)(t:List Int)(a:Nat)(ha:a < 1000):∃(r:Rw) (t':List Int),OkRw r/\∀x (l:List D) z,l.length < 1000000->∃z',Yab x [some (.sh (.adr x)),some (.sh (.str (kW k))),some (.ow l),some (.sh (.int (0+(a:Nat)))),z] t=some (.nx [some (.sh (.adr x)),some (.sh (.str (kW k))),some (.ow (l++[rwD k r])),some (.sh (.int (0+(a:Nat)))),z'] t'):=by
 obtain⟨v,t2,hv0,hv⟩:=Ylk t a ha
 obtain⟨n,hn,en⟩:=Yfx (v:=v) 60 (by lia)
 cases k with
 | pl=>
   obtain⟨s,hs,es⟩:=Ynx (v / 60) (v / 3600)
   refine⟨(n,s,[],decide (v / 7200 % 2=1)),t2,⟨by show n < 1000;lia,hs,Nat.zero_le _,fun _ h=>(nomatch h)⟩,fun x l z hl=>⟨some (.sh (.int v)),?_⟩⟩
   unfold Yab
   rw[Yaj (Yca (hv x 0 _ _ rfl (e_sq ha (by simp))))]
   rw[Ym9 (by simp[kW])]
   refine Yb6 ?_
   simp[en,es,appD,hl,rwD]
 | su=>
   obtain⟨xs,t3,hx,h3⟩:=Yc5 60 (by lia) (by lia) t2
   refine⟨(n,none,xs,decide (v / 7200 % 2=1)),t3,⟨by show n < 1000;lia,fun _ h=>(nomatch h),hx⟩,fun x l z hl=>⟨some (.sh (.int v)),?_⟩⟩
   unfold Yab
   rw[Yaj (Yca (hv x 0 _ _ rfl (e_sq ha (by simp))))]
   rw[Ylg (by simp[kW]),Ym9 (by simp[kW])]
   exact Yln rfl hl (Ycn (l:=[.int n,.tup (xs.map nD),.bl (decide (v / 7200 % 2=1))]) (y4 (Yai (by simp[en])) (y4 ((Ybf rfl).trans ((Ybu (ds:=[.int 60]) rfl).trans h3)) (y4 (Yai (by simp)) rfl))) (by simp))
 | ro=>
   obtain⟨xs,t3,hx,h3⟩:=Yc5 60 (by lia) (by lia) t2
   refine⟨(n,none,xs,false),t3,⟨by show n < 1000;lia,fun _ h=>(nomatch h),hx⟩,fun x l z hl=>⟨some (.sh (.int v)),?_⟩⟩
   unfold Yab
   rw[Yaj (Yca (hv x 0 _ _ rfl (e_sq ha (by simp))))]
   rw[Ylg (by simp[kW]),Ylg (by simp[kW])]
   exact Yln rfl hl (Ycn (l:=[.int n,.tup (xs.map nD)]) (y4 (Yai (by simp[en])) (y4 ((Ybf rfl).trans ((Ybu (ds:=[.int 60]) rfl).trans h3)) rfl)) (by simp))
theorem Ylo(k:K3)(t:List Int):∃(rs:List Rw) (t':List Int),OkRs rs/\Ya2 [.str (kW k)] t=some (.tup (rs.map (rwD k)),t'):=by
 obtain⟨m,t1,hm,h1⟩:=Ylj 66 (.inr rfl) t
 obtain⟨r,t2,⟨hl,hr⟩,h2⟩:=Ygx (gt:=gSet 3) (fb:=Yab) (fun i:Nat=>D.int (0+(i:Nat))) (fun x (r:List Rw) ρ=>∃y z,ρ=[some (.sh (.adr x)),some (.sh (.str (kW k))),some (.ow (r.map (rwD k))),y,z])
  (fun pre r=>r.length=pre.length/\∀p∈r,OkRw p) (List.range m) [] [] t1 ⟨rfl,fun _ h=>(nomatch h)⟩ (by
   rintro q a rest r t e ⟨hl,hr⟩
   have hlen:q.length < 200:=by
    have:=congrArg List.length e
    simp at this
    lia
   have ha:a < 1000:=by
    have:a∈List.range m:=by
     have e':List.range m=q++a::rest:=e
     rw[e']
     simp
    have:=List.mem_range.mp this
    lia
   obtain⟨w,t2,hw,h⟩:=Ys7 k t a ha
   refine⟨r++[w],t2,⟨by simp[hl],fun p hp=>?_⟩,fun x ρ=>?_⟩
   ·rcases qu hp with hp | hp
    ·exact hr p hp
    ·simp at hp
     subst hp
     exact hw
   ·rintro⟨y,z,rfl⟩
    obtain⟨z',hz⟩:=h x (r.map (rwD k)) z (by rw[qf];lia)
    refine⟨_,_,rfl,hz,_,z',by rw[List.map_append];rfl⟩)
 rw[Qc,List.length_range]at hl
 refine⟨r,t2,⟨by lia,hr⟩,Ydk fun x=>?_⟩
 have hst:Yr 5 [.adr x,.str (kW k)]=[some (.sh (.adr x)),some (.sh (.str (kW k))),none,none,none]:=rfl
 rw[hst]
 unfold Ydd
 rw[Yaj (Yb6 (ρ':=[some (.sh (.adr x)),some (.sh (.str (kW k))),some (.ow []),none,none]) (by simp))]
 unfold Ycv
 obtain⟨ρ',e,y,z,rfl⟩:=h2 x [some (.sh (.adr x)),some (.sh (.str (kW k))),some (.ow []),none,none] ⟨none,none,rfl⟩
 rw[Yaj (t':=t2) (ρ':=[some (.sh (.adr x)),some (.sh (.str (kW k))),some (.ow (r.map (rwD k))),y,z])]
 ·unfold Ycu
  refine Yec ?_
  simp
 ·rw[Yll (m:=m) (t':=t1) (by lia) ((Ybf rfl).trans ((Ybu (ds:=[.int 66]) rfl).trans h1))]
  exact e
inductive Pa
 | br
 | cl (late:Bool) (a b:List Say)
 | cr (a:List Say)
 | od (a:List Nat)
 | lo (s:Option Nat) (a b:List Nat)
 | pl (k:K3) (h:k≠.ro) (rs:List Rw)
 | ro (a:List Nat) (rs:List Rw)
def paN:Pa->Str
 | .br=>nm 0
 | .cl false _ _=>nm 1
 | .cl true _ _=>nm 3
 | .cr _=>nm 2
 | .od _=>nm 4
 | .lo _ _ _=>nm 5
 | .pl k _ _=>kW k
 | .ro _ _=>nm 8
def numsD(a:List Nat):D:=.tup (a.map nD)
def Ye4(a:List Say):D:=.tup (a.map sayD)
def paL:Pa->List D
 | .br=>[]
 | .cl _ a b=>[Ye4 a,Ye4 b]
 | .cr a=>[Ye4 a]
 | .od a=>[numsD a]
 | .lo s a b=>[optD s,numsD a,numsD b]
 | .pl k _ rs=>[.tup (rs.map (rwD k))]
 | .ro a rs=>[numsD a,.tup (rs.map (rwD .ro))]
def paD(p:Pa):D:=.tup (.str (paN p)::paL p)
def OkPa:Pa->Prop
 | .br=>True
 | .cl _ a b=>OkR a/\OkR b
 | .cr a=>OkR a
 | .od a=>OkN a
 | .lo s a b=>(∀x,s=some x->x < 1000)/\OkN a/\OkN b
 | .pl _ _ rs=>OkRs rs
 | .ro a rs=>OkN a/\OkRs rs
theorem Ypt(v:Int):∃i:Fin 9,atI [D.str (nm 0),.str (nm 1),.str (nm 2),.str (nm 3),.str (nm 4),.str (nm 5),.str (nm 6),.str (nm 7),.str (nm 8)] (v % 9)=some (.str (nm i)):=by
 obtain⟨n,hn,en⟩:=Yfx (v:=v) 9 (by lia)
 rw[en]
 have h9:n < 9:=by lia
 have:∀n:Fin 9,∃i:Fin 9,atI [D.str (nm 0),.str (nm 1),.str (nm 2),.str (nm 3),.str (nm 4),.str (nm 5),.str (nm 6),.str (nm 7),.str (nm 8)] (n.1:Int)=some (.str (nm i)):=by
  intro n
  refine⟨n,?_⟩
  match n with
  | 0=>rfl
  | 1=>rfl
  | 2=>rfl
  | 3=>rfl
  | 4=>rfl
  | 5=>rfl
  | 6=>rfl
  | 7=>rfl
  | 8=>rfl
 exact this ⟨n,h9⟩
section
variable {τ:Type} {f g:Ro->τ->Option (OutW τ)} {c:Ro->τ->Option Bool} {ρ:Ro} {t t':τ} {d:D}
theorem Yjq(h:c ρ t=some false):seqW (ifW c f nilW) g ρ t=g ρ t:=Yaj (Ylg h)
theorem Yjr(h:c ρ t=some true)(h2:f ρ t=some (.rt d t')):seqW (ifW c f nilW) g ρ t=some (.rt d t'):=Yim ((Ym9 h).trans h2)
end
theorem Yf5{x:Addr}{ρ:Ro}{t t':List Int}{d:D}{ga:Ro->Option (List D)}{ds:List D}{g:List D->List Int->Option (D × List Int)}(h0:ρ[0]?=some (some (.sh (.adr x))))(h1:ga ρ=some ds)(h2:g ds t=some (d,t')):Yak x 0 (Ybq ga g) ρ t=some (d,t'):=
 (Ybf h0).trans ((Ybu h1).trans h2)
abbrev aR(x:Addr)(v:Int)(i:Fin 9):Ro:=[some (.sh (.adr x)),some (.sh (.int v)),some (.sh (.str (nm i))),none,none,none]
theorem Ypu{t t1:List Int}{v:Int}{i:Fin 9}(hv:Yap [] t=some (.int v,t1))(hi:atI [D.str (nm 0),.str (nm 1),.str (nm 2),.str (nm 3),.str (nm 4),.str (nm 5),.str (nm 6),.str (nm 7),.str (nm 8)] (v % 9)=some (.str (nm i)))(x:Addr) :
 Yfw x (Yr 6 [.adr x]) t=Yb2 x (aR x v i) t1:=by
 unfold Yfw
 rw[Yaj (Yca (Yf5 rfl rfl hv))]
 unfold Yfv
 refine Yaj (Yb6 ?_)
 simp[Yr,hi]
theorem Yr6{t t1 t':List Int}{v:Int}{i:Fin 9}{p:Pa}(hv:Yap [] t=some (.int v,t1))(hi:atI [D.str (nm 0),.str (nm 1),.str (nm 2),.str (nm 3),.str (nm 4),.str (nm 5),.str (nm 6),.str (nm 7),.str (nm 8)] (v % 9)=some (.str (nm i)))
 (h:∀x,Yb2 x (aR x v i) t1=some (.rt (paD p) t')):Yd7 [] t=some (paD p,t'):=Ydk fun x=>(Ypu hv hi x).trans (h x)
theorem Yin{x:Addr}{v:Int}{i:Fin 9}{t:List Int}(h:i≠1)(h':i≠3):Yb2 x (aR x v i) t=Ydq x (aR x v i) t:=Yjq (by simp[h,h'])
theorem Yjs{x:Addr}{v:Int}{i:Fin 9}{t:List Int}(h:i≠2):Ydq x (aR x v i) t=Ydp x (aR x v i) t:=Yjq (by simp[h])
theorem Ylp{x:Addr}{v:Int}{i:Fin 9}{t:List Int}(h:i≠4):Ydp x (aR x v i) t=Ydo x (aR x v i) t:=Yjq (by simp[h])
theorem Yna{x:Addr}{v:Int}{i:Fin 9}{t:List Int}(h:i≠5):Ydo x (aR x v i) t=Ycm x (aR x v i) t:=Yjq (by simp[h])
theorem Yr7{x:Addr}{v:Int}{i:Fin 9}{t:List Int}(h:i≠6)(h':i≠7):Ycm x (aR x v i) t=Ydn x (aR x v i) t:=Yjq (by simp[h,h'])
theorem Ys8{x:Addr}{v:Int}{i:Fin 9}{t:List Int}(h:i≠8):Ydn x (aR x v i) t=Yfu x (aR x v i) t:=Yjq (by simp[h])
theorem Yny{x:Addr}{v:Int}{i:Fin 9}{t t2 t3:List Int}{a b:List Say}(h:i=1\/i=3)(h2:Yah [] t=some (Ye4 a,t2))(h3:Yah [] t2=some (Ye4 b,t3)):Yb2 x (aR x v i) t=some (.rt (.tup [.str (nm i),Ye4 a,Ye4 b]) t3):=by
 refine Yjr (by rcases h with rfl | rfl<;>simp) ?_
 rw[Yaj (Yca (Yf5 rfl rfl h2))]
 exact Yc4 (Ycn (y4 (Yai rfl) (y4 (Yai rfl) (y4 (Yf5 rfl rfl h3) rfl))) (by simp))
theorem Ynz{x:Addr}{v:Int}{i:Fin 9}{t t2:List Int}{d:D}(h:i=6\/i=7)(h2:Ya2 [.str (nm i)] t=some (d,t2)):Ycm x (aR x v i) t=some (.rt (.tup [.str (nm i),d]) t2):=by
 refine Yjr (by rcases h with rfl | rfl<;>simp) ?_
 exact Yc4 (Ycn (y4 (Yai rfl) (y4 (Yf5 rfl rfl h2) rfl)) (by simp))
theorem Ys9(t:List Int):∃(p:Pa) (t':List Int),OkPa p/\Yd7 [] t=some (paD p,t'):=by
 obtain⟨v,t1,hv0,hv⟩:=Yli t
 obtain⟨i,hi⟩:=Ypt v
 have go:=fun {p:Pa} {t':List Int}=>Yr6 (t':=t') (p:=p) hv hi
 obtain⟨ra,ta,oa,ea⟩:=Ynw t1
 obtain⟨rb,tb,ob,eb⟩:=Ynw ta
 obtain⟨na,sa,pa,fa⟩:=Yc5 201 (by lia) (by lia) t1
 obtain⟨nb,sb,pb,fb⟩:=Yc5 201 (by lia) (by lia) sa
 obtain⟨s,hs,es⟩:=Ynx (v / 9) (v / 540)
 match i with
 | 0=>
   refine⟨.br,t1,trivial,go fun x=>?_⟩
   rw[Yin (by decide) (by decide),Yjs (by decide),Ylp (by decide),Yna (by decide),Yr7 (by decide) (by decide),Ys8 (by decide)]
   refine Yec ?_
   simp[paD,paN,paL]
 | 1=>exact⟨.cl false ra rb,tb,⟨oa,ob⟩,go fun x=>Yny (.inl rfl) ea eb⟩
 | 2=>
   refine⟨.cr ra,ta,oa,go fun x=>?_⟩
   rw[Yin (by decide) (by decide)]
   exact Yjr (by simp) (Yc4 (Ycn (y4 (Yai rfl) (y4 (Yf5 rfl rfl ea) rfl)) (by simp[paL])))
 | 3=>exact⟨.cl true ra rb,tb,⟨oa,ob⟩,go fun x=>Yny (.inr rfl) ea eb⟩
 | 4=>
   refine⟨.od na,sa,pa,go fun x=>?_⟩
   rw[Yin (by decide) (by decide),Yjs (by decide)]
   exact Yjr (by simp) (Yc4 (Ycn (y4 (Yai rfl) (y4 (Yf5 rfl rfl fa) rfl)) (by simp[paL])))
 | 5=>
   refine⟨.lo s na nb,sb,⟨hs,pa,pb⟩,go fun x=>?_⟩
   rw[Yin (by decide) (by decide),Yjs (by decide),Ylp (by decide)]
   refine Yjr (by simp) ?_
   rw[Yaj (Yca (Yf5 rfl rfl fa))]
   exact Yc4 (Ycn (y4 (Yai rfl) (y4 (Yai (d:=optD s) (by simp[es])) (y4 (Yai rfl) (y4 (Yf5 rfl rfl fb) rfl)))) (by simp[paL]))
 | 6=>
   obtain⟨rs,tr,hr,er⟩:=Ylo .pl t1
   refine⟨.pl .pl (by simp) rs,tr,hr,go fun x=>?_⟩
   rw[Yin (by decide) (by decide),Yjs (by decide),Ylp (by decide),Yna (by decide)]
   exact Ynz (.inl rfl) er
 | 7=>
   obtain⟨rs,tr,hr,er⟩:=Ylo .su t1
   refine⟨.pl .su (by simp) rs,tr,hr,go fun x=>?_⟩
   rw[Yin (by decide) (by decide),Yjs (by decide),Ylp (by decide),Yna (by decide)]
   exact Ynz (.inr rfl) er
 | 8=>
   obtain⟨nc,sc,pc,fc⟩:=Yc5 60 (by lia) (by lia) t1
   obtain⟨rs,tr,hr,er⟩:=Ylo .ro sc
   refine⟨.ro nc rs,tr,⟨pc,hr⟩,go fun x=>?_⟩
   rw[Yin (by decide) (by decide),Yjs (by decide),Ylp (by decide),Yna (by decide),Yr7 (by decide) (by decide)]
   refine Yjr (by simp) ?_
   rw[Yaj (Yca (Yf5 rfl rfl fc))]
   exact Yc4 (Ycn (y4 (Yai rfl) (y4 (Yai rfl) (y4 (Yf5 rfl rfl er) rfl))) (by simp[paL]))
def num(b:Nat):Str:=Str.ofString (toString (b:Int))
theorem Ygy:∀b,b < 1000->(num b).length<=3:=by decide +kernel
theorem Yf6{b:Nat}(h:b < 1000):strC [.int (b:Int)]=some (.str (num b)):=by
 rw[Ymy,if_pos (by lia)]
 rfl
theorem e_fs{b:Nat}(h:b < 1000){x:Str}(hx:x.length<=10):fsD x (.int (b:Int))=some (.str (x++num b)):=by
 have:=Ygy b h
 have e:Str.ofString (toString (b:Int))=num b:=rfl
 rw[Yph,e,if_pos ⟨by lia,by rw[Yk4];lia⟩]
theorem Yn0{a b:Str}(ha:a.length<=10)(hb:b.length<=10):addS (.str a) (.str b)=some (.str (a++b)):=by
 rw[Ymz,if_pos (by lia)]
theorem Yr8{sep:Str}{l:List D}{xs:List Str}(h:l=xs.map D.str)(hs:(xs.map fun x:Str=>sep.length+x.length).sum<=16000000):Yhl sep [.lst l]=some (.str (Txt.join sep xs)):=by
 rw[Yk6,h,Yhn,qd,if_pos (Yk5 hs)]
abbrev T(s:String):Str:=Str.ofString s
def sayW(s:Say):Str:=(if s.2=true then T "+" else T "-")++num s.1
def Yeo:Option Nat->Str
 | none=>T "none" | some b=>num b
def yesW(b:Bool):Str:=if b=true then T "yes" else T "no"
theorem lenPM:(T "+").length=1/\(T "-").length=1/\(T "none").length=4/\(T "yes").length=3/\(T "no").length=2/\(T " ").length=1:=by decide +kernel
theorem Ybp{a b:List D}(h:a.length+b.length<=1000000):catD (.lst a) (.lst b)=some (a++b):=if_pos h
theorem Ynb{s:Say}(h:s.1 < 1000):Ya3 [sayD s]=some (.str (sayW s)):=by
 rw[Ya3,Ybo (by rfl)]
 have h1:=e_fs h (x:=T "+") (by rw[lenPM.1];decide)
 have h2:=e_fs h (x:=T "-") (by rw[lenPM.2.1];decide)
 obtain⟨b,o⟩:=s
 cases o<;>simp[Ycq,Yr,sayD,h1,h2,sayW]
theorem Yta{s:Say}(h:s.1 < 1000):Yo [.str (T "saying"),sayD s]=some (.str (sayW s)):=by
 rw[Yo,Ybo (by rfl)]
 simp[Yax,Yr,Yjp,Ynb h]
theorem fne:¬T "truth"=T "saying"/\∀f∈[T "place",T "beacon",T "source"],¬f=T "saying"/\¬f=T "truth":=by decide +kernel
theorem Ypv(b:Bool):Yo [.str (T "truth"),.bl b]=some (.str (yesW b)):=by
 rw[Yo,Ybo (by rfl)]
 cases b<;>simp[Yax,Yr,Yjp,fne.1,yesW]
theorem Ync{f:Str}(hf:f∈[T "place",T "beacon",T "source"]){b:Nat}(h:b < 1000):Yo [.str f,nD b]=some (.str (num b)):=by
 rw[Yo,Ybo (by rfl)]
 obtain⟨h1,h2⟩:=fne.2 f hf
 simp[Yax,Yr,Yjp,h1,h2,Yf6 h]
theorem Yr9{f:Str}(hf:f∈[T "place",T "beacon",T "source"]){s:Option Nat}(h:∀x,s=some x->x < 1000):Yo [.str f,optD s]=some (.str (Yeo s)):=by
 cases s with
 | some b=>exact Ync hf (h b rfl)
 | none=>
   rw[Yo,Ybo (by rfl)]
   obtain⟨h1,h2⟩:=fne.2 f hf
   simp[Yax,Yr,Yjp,h1,h2,optD,Yeo]
def cntW{α:Type}(w:α->Str)(l:List α):List Str:=num l.length::l.map w
theorem Yfy{k:Nat}{form leaf:Str}{α:Type}{enc:α->D}{w:α->Str}{l:List α}(h1:inG false Yao (.str form)=some true)(h2:Yjl gt_SEVERAL (.str form)=some (.str leaf))(hl:l.length<=200)(hw:∀a∈l,Yo [.str leaf,enc a]=some (.str (w a))) :
 Ye (k+1) [.str form,.tup (l.map enc)]=some (.lst ((cntW w l).map D.str)):=by
 rw[Ye,Ybo (by rfl)]
 have h:=Yo9 (fe:=Ybh (Yk k)) (r:=[some (.sh (.str form))]) (enc:=enc) (fun a=>D.str (w a)) (l:=l) (fun a ha=>by
  have:=hw a ha
  simp[Ybh,h2,this])
 have hn:=Yf6 (b:=l.length) (by lia)
 have hc:=Ybp (a:=[.str (num l.length)]) (b:=l.map fun s=>D.str (w s)) (by simp;lia)
 simp[Ybn,Yr,capR,h1,h,hn,hc,cntW,Function.comp_def]
theorem Ysa{k:Nat}{form w:Str}{d:D}(h1:inG false Yao (.str form)=some false)(h2:inG true Yeh (.str form)=some true)(hw:Yo [.str form,d]=some (.str w)) :
 Ye (k+1) [.str form,d]=some (.lst [.str w]):=by
 rw[Ye,Ybo (by rfl)]
 simp[Ybn,Yr,h1,h2,hw]
theorem Yed{α:Type}{w:α->List Str}{B:Nat}:∀{l:List α},(∀a∈l,(w a).length<=B)->(l.flatMap w).length<=l.length * B
 | [],_=>by simp
 | a::l,h=>by
   have h1:=Yed (l:=l) fun b hb=>h b (.tail _ hb)
   have h2:=h a (.head _)
   rw[List.flatMap_cons,qv,qr,Nat.add_mul,Nat.one_mul]
   lia
theorem Ylq{α:Type}(w:α->List Str)(l:List α)(a:α):(l++[a]).flatMap w=l.flatMap w++w a:=by simp
theorem Yn1{a b:List D}(h:a.length+b.length<=1000000):extD a (.lst b)=some (a++b):=if_pos h
theorem Yio{k:Nat}{form:Str}{p:Addr}{α:Type}{enc:α->D}{w:α->List Str}{l:List α}(h1:inG false Yao (.str form)=some false)(h2:inG true Yeh (.str form)=some false)(h3:Yfs gt_ROWS (.str form)=some (.adr p))(hl:l.length<=200)
 (hw:∀a∈l,Yk k [.adr p,enc a]=some (.lst ((w a).map D.str))/\(w a).length<=210) :
 Ye (k+1) [.str form,.tup (l.map enc)]=some (.lst ((num l.length::l.flatMap w).map D.str)):=by
 rw[Ye,Ybo (by rfl)]
 have hn:=Yf6 (b:=l.length) (by lia)
 obtain⟨ρ',e,y,rfl⟩:=Ye8 (gt:=gSet 3) (fb:=Ybi (Yk k)) enc (fun pre ρ=>∃y,ρ=[some (.sh (.str form)),some (.sh (.tup (l.map enc))),some (.ow ((num l.length::pre.flatMap w).map D.str)),y]) l []
  [some (.sh (.str form)),some (.sh (.tup (l.map enc))),some (.ow [.str (num l.length)]),none] ⟨none,rfl⟩ (by
   rintro q a r ρ e ⟨y,rfl⟩
   have e':l=q++a::r:=e
   have hq:(q.flatMap w).length<=q.length * 210:=Yed fun b hb=>(hw b (by rw[e'];simp[hb])).2
   obtain⟨h4,h5⟩:=hw a (by rw[e'];simp)
   have hql:q.length<=200:=by
    have:=congrArg List.length e'
    rw[qv,qr]at this
    lia
   refine⟨_,_,rfl,?_,some (.sh (enc a)),rfl⟩
   have hx:=Yn1 (a:=(num l.length::q.flatMap w).map D.str) (b:=(w a).map D.str) (by rw[qf,qf,qr];lia)
   simp only[qy]at hx
   simp[Ybi,h3,h4,hx])
 rw[Qc]at e
 simp[Ybn,Yr,h1,h2,hn,e,frz,frz1]
theorem Ygz{k:Nat}{p:Addr}{ss:List Str}(h:ktab.lookup p=some ss)(ps:List (D × Str × List Str))(hs:ss=ps.map (·.2.1))(hl:ps.length<=3)(hw:∀a∈ps,Ye k [.str a.2.1,a.1]=some (.lst (a.2.2.map D.str))/\a.2.2.length<=50000) :
 Yk (k+1) [.adr p,.tup (ps.map (·.1))]=some (.lst ((ps.flatMap (·.2.2)).map D.str)):=by
 rw[Yk]
 show runB 2 5 (Yby (Ye k)) _=_
 rw[Ybo (by rfl)]
 have hz:∀ps:List (D × Str × List Str),zipS (ps.map (·.2.1)) (ps.map (·.1))=ps.map fun a=>D.tup [.str a.2.1,a.1]:=by
  intro ps
  induction ps with
  | nil=>rfl
  | cons a l ih=>rw[qy,qy,qy,zipS,ih]
 have hzz:zipF ktab (getV 0) (getV 1) [some (.sh (.adr p)),some (.sh (.tup (ps.map (·.1)))),some (.ow []),none,none]=some (ps.map fun a=>D.tup [.str a.2.1,a.1]):=by
  show zipD ktab (.adr p) (.tup (ps.map (·.1)))=_
  show(ktab.lookup p).map _=_
  rw[h,hs,<-hz ps]
  rfl
 obtain⟨ρ',e,y,z,rfl⟩:=Ye8 (gt:=Yml 3 4) (fb:=Ybc (Ye k)) (fun a:D × Str × List Str=>D.tup [.str a.2.1,a.1]) (fun pre ρ=>∃y z,ρ=[some (.sh (.adr p)),some (.sh (.tup (ps.map (·.1)))),some (.ow ((pre.flatMap (·.2.2)).map D.str)),y,z]) ps []
  [some (.sh (.adr p)),some (.sh (.tup (ps.map (·.1)))),some (.ow []),none,none] ⟨none,none,rfl⟩ (by
   rintro q a r ρ e ⟨y,z,rfl⟩
   have e':ps=q++a::r:=e
   have hq:(q.flatMap (·.2.2)).length<=q.length * 50000:=Yed fun b hb=>(hw b (by rw[e'];simp[hb])).2
   obtain⟨h4,h5⟩:=hw a (by rw[e'];simp)
   have hql:q.length<=3:=by
    have:=congrArg List.length e'
    rw[qv,qr]at this
    lia
   refine⟨_,_,rfl,?_,some (.sh (.str a.2.1)),some (.sh a.1),rfl⟩
   have hx:=Yn1 (a:=(q.flatMap (·.2.2)).map D.str) (b:=a.2.2.map D.str) (by rw[qf,qf];lia)
   simp[Ybc,h4,hx])
 rw[Qc]at e
 have hst:Yr 5 [.adr p,.tup (ps.map (·.1))]=[some (.sh (.adr p)),some (.sh (.tup (ps.map (·.1)))),none,none,none]:=rfl
 rw[hst]
 simp[Yby,hzz,e,frz,frz1]
def Ya6:K3->Rw->List Str
 | .pl,(a,s,_,b)=>[num a,Yeo s,yesW b]
 | .su,(a,_,xs,b)=>num a::(cntW num xs++[yesW b])
 | .ro,(a,_,xs,_)=>num a::cntW num xs
def Ye5(k:K3)(rs:List Rw):List Str:=num rs.length::rs.flatMap (Ya6 k)
def paW:Pa->List Str
 | .br=>[]
 | .cl _ a b=>cntW sayW a++cntW sayW b
 | .cr a=>cntW sayW a
 | .od a=>cntW num a
 | .lo s a b=>Yeo s::(cntW num a++cntW num b)
 | .pl k _ rs=>Ye5 k rs
 | .ro a rs=>cntW num a++Ye5 .ro rs
theorem Yjt{neg:Bool}{ks:List Str}{f:Str}(h:f∈ks):inG neg ks (.str f)=some (!neg):=by
 show some (decide (f∈ks) != neg)=_
 rw[decide_eq_true h]
 cases neg<;>rfl
theorem Ylr{neg:Bool}{ks:List Str}{f:Str}(h:¬f∈ks):inG neg ks (.str f)=some neg:=by
 show some (decide (f∈ks) != neg)=_
 rw[decide_eq_false h]
 cases neg<;>rfl
theorem lkG{kvs:List (Str × Str)}{f v:Str}(h:kvs.lookup f=some v):Yjl kvs (.str f)=some (.str v):=by
 show(kvs.lookup f).map _=_
 rw[h]
 rfl
theorem lkA{kvs:List (Str × Addr)}{f:Str}{v:Addr}(h:kvs.lookup f=some v):Yfs kvs (.str f)=some (.adr v):=by
 show(kvs.lookup f).map _=_
 rw[h]
 rfl
theorem fm_sev:T "road"∈Yao/\T "places"∈Yao/\T "beacons"∈Yao/\gt_SEVERAL.lookup (T "road")=some (T "saying")/\gt_SEVERAL.lookup (T "places")=some (T "place")/\gt_SEVERAL.lookup (T "beacons")=some (T "beacon"):=by decide +kernel
theorem Yls:∀f∈[T "truth",T "beacon",T "source"],¬f∈Yao/\¬f∈Yeh:=by decide +kernel
theorem Yep:∀f∈[T "plan rows",T "sum rows",T "if rows"],¬f∈Yao/\f∈Yeh:=by decide +kernel
theorem fm_look:gt_ROWS.lookup (T "plan rows")=some 33/\gt_ROWS.lookup (T "sum rows")=some 34/\gt_ROWS.lookup (T "if rows")=some 35/\ktab.lookup 33=some [T "beacon",T "source",T "truth"]/\ktab.lookup 34=some [T "beacon",T "beacons",T "truth"]/\ktab.lookup 35=some [T "beacon",T "beacons"]:=by decide +kernel
theorem Yhw{k:Nat}{a:List Say}(h:OkR a):Ye (k+1) [.str (T "road"),Ye4 a]=some (.lst ((cntW sayW a).map D.str)):=
 Yfy (Yjt fm_sev.1) (lkG fm_sev.2.2.2.1) h.1 fun p hp=>Yta (h.2 p hp)
theorem Yg0{k:Nat}{a:List Nat}(h:OkN a):Ye (k+1) [.str (T "places"),numsD a]=some (.lst ((cntW num a).map D.str)):=
 Yfy (Yjt fm_sev.2.1) (lkG fm_sev.2.2.2.2.1) h.1 fun p hp=>Ync (.head _) (h.2 p hp)
theorem Yfz{k:Nat}{a:List Nat}(h:OkN a):Ye (k+1) [.str (T "beacons"),numsD a]=some (.lst ((cntW num a).map D.str)):=
 Yfy (Yjt fm_sev.2.2.1) (lkG fm_sev.2.2.2.2.2) h.1 fun p hp=>Ync (.tail _ (.head _)) (h.2 p hp)
theorem Ylt{k:Nat}{f w:Str}{d:D}(hf:f∈[T "truth",T "beacon",T "source"])(hw:Yo [.str f,d]=some (.str w)):Ye (k+1) [.str f,d]=some (.lst ([w].map D.str)):=
 Ysa (Ylr (Yls f hf).1) (Ylr (Yls f hf).2) hw
theorem Yg1{k n:Nat}(h:n < 1000):Ye (k+1) [.str (T "beacon"),nD n]=some (.lst ([num n].map D.str)):=Ylt (.tail _ (.head _)) (Ync (.tail _ (.head _)) h)
theorem Yi6{k:Nat}{s:Option Nat}(h:∀x,s=some x->x < 1000):Ye (k+1) [.str (T "source"),optD s]=some (.lst ([Yeo s].map D.str)):=Ylt (.tail _ (.tail _ (.head _))) (Yr9 (.tail _ (.tail _ (.head _))) h)
theorem Ylu{k:Nat}(b:Bool):Ye (k+1) [.str (T "truth"),.bl b]=some (.lst ([yesW b].map D.str)):=Ylt (.head _) (Ypv b)
theorem Ybl{α:Type}{w:α->Str}{l:List α}(h:l.length<=200):(cntW w l).length<=201:=by
 rw[cntW,qr,qf]
 lia
theorem Ylv{k:K3}{r:Rw}(h:OkRw r):(Ya6 k r).length<=210:=by
 obtain⟨a,s,xs,b⟩:=r
 have:=Ybl (w:=num) h.2.2.1
 cases k with
 | pl=>exact(by decide:3<=210)
 | su=>
   rw[Ya6,qr,qv]
   show(cntW num xs).length+1+1<=210
   have h2:(cntW num xs).length<=201:=this
   lia
 | ro=>
   rw[Ya6,qr]
   have h2:(cntW num xs).length<=201:=this
   lia
theorem Yda{k:K3}{rs:List Rw}(h:OkRs rs):(Ye5 k rs).length<=42001:=by
 have:=Yed (w:=Ya6 k) (B:=210) fun r hr=>Ylv (h.2 r hr)
 have:=h.1
 rw[Ye5,qr]
 lia
theorem Ylw{k:Nat}{p:Addr}{s1 s2 s3:Str}{d1 d2 d3:D}{w1 w2 w3:List Str}(h:ktab.lookup p=some [s1,s2,s3])(h1:Ye k [.str s1,d1]=some (.lst (w1.map D.str)))(h2:Ye k [.str s2,d2]=some (.lst (w2.map D.str)))(h3:Ye k [.str s3,d3]=some (.lst (w3.map D.str)))(l1:w1.length<=50000)(l2:w2.length<=50000)(l3:w3.length<=50000) :
 Yk (k+1) [.adr p,.tup [d1,d2,d3]]=some (.lst ((w1++(w2++w3)).map D.str)):=by
 have:=Ygz h [(d1,s1,w1),(d2,s2,w2),(d3,s3,w3)] rfl (by simp) (by
  intro a ha
  simp at ha
  rcases ha with rfl | rfl | rfl
  ·exact⟨h1,l1⟩
  ·exact⟨h2,l2⟩
  ·exact⟨h3,l3⟩)
 simpa using this
theorem Yi7{k:Nat}{p:Addr}{s1 s2:Str}{d1 d2:D}{w1 w2:List Str}(h:ktab.lookup p=some [s1,s2])(h1:Ye k [.str s1,d1]=some (.lst (w1.map D.str)))(h2:Ye k [.str s2,d2]=some (.lst (w2.map D.str)))(l1:w1.length<=50000)(l2:w2.length<=50000) :
 Yk (k+1) [.adr p,.tup [d1,d2]]=some (.lst ((w1++w2).map D.str)):=by
 have:=Ygz h [(d1,s1,w1),(d2,s2,w2)] rfl (by simp) (by
  intro a ha
  simp at ha
  rcases ha with rfl | rfl
  ·exact⟨h1,l1⟩
  ·exact⟨h2,l2⟩)
 simpa using this
theorem Yi8{k:Nat}{p:Addr}{s1:Str}{d1:D}{w1:List Str}(h:ktab.lookup p=some [s1])(h1:Ye k [.str s1,d1]=some (.lst (w1.map D.str)))(l1:w1.length<=50000) :
 Yk (k+1) [.adr p,.tup [d1]]=some (.lst (w1.map D.str)):=by
 have:=Ygz h [(d1,s1,w1)] rfl (by simp) (by
  intro a ha
  simp at ha
  subst ha
  exact⟨h1,l1⟩)
 simpa using this
theorem Ylx{k:Nat}{q:K3}{r:Rw}(h:OkRw r):Yk (k+2) [.adr (match q with | .pl=>33 | .su=>34 | .ro=>35),rwD q r]=some (.lst ((Ya6 q r).map D.str)):=by
 obtain⟨a,s,xs,b⟩:=r
 obtain⟨ha,hs,hx⟩:=h
 have hc:(cntW num xs).length<=50000:=qw (Ybl hx.1) (by lia)
 cases q with
 | pl=>exact Ylw fm_look.2.2.2.1 (Yg1 ha) (Yi6 hs) (Ylu b) (by simp) (by simp) (by simp)
 | su=>exact Ylw fm_look.2.2.2.2.1 (Yg1 ha) (Yfz hx) (Ylu b) (by simp) hc (by simp)
 | ro=>exact Yi7 fm_look.2.2.2.2.2 (Yg1 ha) (Yfz hx) (by simp) hc
theorem Yly{k:Nat}{q:K3}{rs:List Rw}(h:OkRs rs):Ye (k+3) [.str (match q with | .pl=>T "plan rows" | .su=>T "sum rows" | .ro=>T "if rows"),.tup (rs.map (rwD q))]=some (.lst ((Ye5 q rs).map D.str)):=by
 have hr:∀r∈rs,Yk (k+2) [.adr (match q with | .pl=>33 | .su=>34 | .ro=>35),rwD q r]=some (.lst ((Ya6 q r).map D.str))/\(Ya6 q r).length<=210:=fun r hr=>⟨Ylx (h.2 r hr),Ylv (h.2 r hr)⟩
 cases q with
 | pl=>exact Yio (Ylr (Yep _ (.head _)).1) (Yjt (Yep _ (.head _)).2) (lkA fm_look.1) h.1 hr
 | su=>exact Yio (Ylr (Yep _ (.tail _ (.head _))).1) (Yjt (Yep _ (.tail _ (.head _))).2) (lkA fm_look.2.1) h.1 hr
 | ro=>exact Yio (Ylr (Yep _ (.tail _ (.tail _ (.head _)))).1) (Yjt (Yep _ (.tail _ (.tail _ (.head _)))).2) (lkA fm_look.2.2.1) h.1 hr
def paA:Pa->Addr
 | .br=>23
 | .cl false _ _=>24
 | .cl true _ _=>26
 | .cr _=>25
 | .od _=>27
 | .lo _ _ _=>28
 | .pl .pl _ _=>29
 | .pl _ _ _=>30
 | .ro _ _=>31
theorem Yco:∀i:Fin 9,gt_PAPERS.lookup (nm i)=some (23+i.1):=by decide +kernel
theorem Ysb:ktab.lookup 23=some []/\ktab.lookup 24=some [T "road",T "road"]/\ktab.lookup 25=some [T "road"]/\ktab.lookup 26=some [T "road",T "road"]/\ktab.lookup 27=some [T "places"]/\ktab.lookup 28=some [T "source",T "places",T "places"]/\ktab.lookup 29=some [T "plan rows"]/\ktab.lookup 30=some [T "sum rows"]/\ktab.lookup 31=some [T "beacons",T "if rows"]:=by decide +kernel
theorem Ytb(p:Pa):Yfs gt_PAPERS (.str (paN p))=some (.adr (paA p)):=by
 match p with
 | .br=>exact lkA (Yco 0)
 | .cl false _ _=>exact lkA (Yco 1)
 | .cl true _ _=>exact lkA (Yco 3)
 | .cr _=>exact lkA (Yco 2)
 | .od _=>exact lkA (Yco 4)
 | .lo _ _ _=>exact lkA (Yco 5)
 | .pl .pl _ _=>exact lkA (Yco 6)
 | .pl .su _ _=>exact lkA (Yco 7)
 | .pl .ro h _=>exact absurd rfl h
 | .ro _ _=>exact lkA (Yco 8)
theorem Ynd{p:Pa}(h:OkPa p):Ybd [.adr (paA p),.tup (paL p)]=some (.lst ((paW p).map D.str)):=by
 have cR:∀{a:List Say},OkR a->(cntW sayW a).length<=50000:=fun h=>qw (Ybl h.1) (by lia)
 have cN:∀{a:List Nat},OkN a->(cntW num a).length<=50000:=fun h=>qw (Ybl h.1) (by lia)
 have cW:∀{k:K3} {a:List Rw},OkRs a->(Ye5 k a).length<=50000:=fun h=>qw (Yda h) (by lia)
 obtain⟨t0,t1,t2,t3,t4,t5,t6,t7,t8⟩:=Ysb
 unfold Ybd
 match p with
 | .br=>exact Ygz t0 [] rfl (by simp) fun _ h=>(nomatch h)
 | .cl false a b=>exact Yi7 t1 (Yhw h.1) (Yhw h.2) (cR h.1) (cR h.2)
 | .cl true a b=>exact Yi7 t3 (Yhw h.1) (Yhw h.2) (cR h.1) (cR h.2)
 | .cr a=>exact Yi8 t2 (Yhw h) (cR h)
 | .od a=>exact Yi8 t4 (Yg0 h) (cN h)
 | .lo s a b=>exact Ylw t5 (Yi6 h.1) (Yg0 h.2.1) (Yg0 h.2.2) (by simp) (cN h.2.1) (cN h.2.2)
 | .pl .pl _ rs=>exact Yi8 t6 (Yly (q:=.pl) h) (cW h)
 | .pl .su _ rs=>exact Yi8 t7 (Yly (q:=.su) h) (cW h)
 | .pl .ro h _=>exact absurd rfl h
 | .ro a rs=>exact Yi7 t8 (Yfz h.1) (Yly (q:=.ro) h.2) (cN h.1) (cW h.2)
theorem Ylz{p:Pa}(h:OkPa p):(paW p).length<=50000:=by
 match p with
 | .br=>exact Nat.zero_le _
 | .cl _ a b=>
   have h1:=Ybl (w:=sayW) h.1.1
   have h2:=Ybl (w:=sayW) h.2.1
   rw[paW,qv]
   lia
 | .cr a=>exact qw (Ybl h.1) (by lia)
 | .od a=>exact qw (Ybl h.1) (by lia)
 | .lo s a b=>
   have h1:=Ybl (w:=num) h.2.1.1
   have h2:=Ybl (w:=num) h.2.2.1
   rw[paW,qr,qv]
   lia
 | .pl k _ rs=>exact qw (Yda (k:=k) h) (by lia)
 | .ro a rs=>
   have h1:=Ybl (w:=num) h.1.1
   have h2:=Yda (k:=.ro) h.2
   rw[paW,qv]
   lia
def Sh(l:List Str):Prop:=∀x∈l,x.length<=10
theorem Sh.app{a b:List Str}(h:Sh a)(h':Sh b):Sh (a++b):=fun x hx=>(qu hx).elim (h x) (h' x)
theorem Sh.cons{x:Str}{b:List Str}(h:x.length<=10)(h':Sh b):Sh (x::b):=fun y hy=>by
 cases hy with
 | head=>exact h
 | tail _ hy=>exact h' y hy
theorem Yf0{n:Nat}(h:n < 1000):(num n).length<=10:=qw (Ygy n h) (by decide)
theorem Yn2(b:Bool):(yesW b).length<=10:=by
 cases b
 ·exact qw (Nat.le_of_eq lenPM.2.2.2.2.1) (by decide)
 ·exact qw (Nat.le_of_eq lenPM.2.2.2.1) (by decide)
theorem Yl0{s:Option Nat}(h:∀x,s=some x->x < 1000):(Yeo s).length<=10:=by
 cases s with
 | none=>exact qw (Nat.le_of_eq lenPM.2.2.1) (by decide)
 | some b=>exact Yf0 (h b rfl)
theorem Ysc{s:Say}(h:s.1 < 1000):(sayW s).length<=10:=by
 have:=Ygy s.1 h
 have h1:=lenPM.1
 have h2:=lenPM.2.1
 rw[sayW,Yk4]
 split<;>lia
theorem Yn3{α:Type}{w:α->Str}{l:List α}(hl:l.length<=200)(h:∀a∈l,(w a).length<=10):Sh (cntW w l):=
 .cons (Yf0 (by lia)) fun x hx=>by
  obtain⟨a,ha,rfl⟩:=List.mem_map.mp hx
  exact h a ha
theorem Yl1:Sh []:=fun _ h=>(nomatch h)
theorem Yip{a:List Say}(h:OkR a):Sh (cntW sayW a):=Yn3 h.1 fun p hp=>Ysc (h.2 p hp)
theorem Yeq{a:List Nat}(h:OkN a):Sh (cntW num a):=Yn3 h.1 fun p hp=>Yf0 (h.2 p hp)
theorem Ytc{k:K3}{r:Rw}(h:OkRw r):Sh (Ya6 k r):=by
 obtain⟨a,s,xs,b⟩:=r
 cases k with
 | pl=>exact .cons (Yf0 h.1) (.cons (Yl0 h.2.1) (.cons (Yn2 b) Yl1))
 | su=>exact .cons (Yf0 h.1) ((Yeq h.2.2).app (.cons (Yn2 b) Yl1))
 | ro=>exact .cons (Yf0 h.1) (Yeq h.2.2)
theorem Yl2{k:K3}{rs:List Rw}(h:OkRs rs):Sh (Ye5 k rs):=.cons (Yf0 (by have:=h.1;lia)) fun x hx=>by
 obtain⟨r,hr,hx⟩:=List.mem_flatMap.mp hx
 exact Ytc (h.2 r hr) x hx
theorem Ytd{p:Pa}(h:OkPa p):Sh (paW p):=by
 match p with
 | .br=>exact Yl1
 | .cl _ a b=>exact(Yip h.1).app (Yip h.2)
 | .cr a=>exact Yip h
 | .od a=>exact Yeq h
 | .lo s a b=>exact .cons (Yl0 h.1) ((Yeq h.2.1).app (Yeq h.2.2))
 | .pl k _ rs=>exact Yl2 h
 | .ro a rs=>exact(Yeq h.1).app (Yl2 h.2)
theorem Yee:∀i,(nm i).length<=10:=by decide +kernel
theorem Ysd(p:Pa):(paN p).length<=10:=by
 match p with
 | .br=>exact Yee 0
 | .cl false _ _=>exact Yee 1
 | .cl true _ _=>exact Yee 3
 | .cr _=>exact Yee 2
 | .od _=>exact Yee 4
 | .lo _ _ _=>exact Yee 5
 | .pl .pl _ _=>exact Yee 6
 | .pl .su _ _=>exact Yee 7
 | .pl .ro h _=>exact absurd rfl h
 | .ro _ _=>exact Yee 8
theorem Yn4{s B:Nat}:∀{l:List Str},(∀x∈l,x.length<=B)->(l.map fun x:Str=>s+x.length).sum<=l.length * (s+B)
 | [],_=>by simp
 | x::l,h=>by
   have h1:=Yn4 (s:=s) (l:=l) fun y hy=>h y (.tail _ hy)
   have h2:=h x (.head _)
   rw[qy,List.sum_cons,qr,Nat.add_mul,Nat.one_mul]
   lia
def paS(p:Pa):Str:=Txt.join (T " ") (paN p::paW p)
theorem Yl3{p:Pa}(h:OkPa p){l:List D}(hl:l=(paN p::paW p).map D.str):Yhl (T " ") [.lst l]=some (.str (paS p)):=by
 refine Yr8 hl ?_
 have h1:=Yn4 (s:=(T " ").length) (B:=10) ((Ytd h).cons (Ysd p))
 have h2:=Ylz h
 have h3:=lenPM.2.2.2.2.2
 rw[qr,h3]at h1
 rw[h3]
 lia
theorem Yne(d:D)(l:List D):cutC (some 1) none (.tup (d::l))=some (.tup l):=by
 show some (D.tup (cutD (d::l) (some ((1:Nat):Int)) none))=_
 unfold cutD
 rw[HT.sIx_nat,HT.sIx_none,Nat.min_eq_left (by simp),List.take_of_length_le (by simp)]
 rfl
theorem Yf1{p:Pa}(h:OkPa p):Ybe [paD p]=some (.str (paS p)):=by
 rw[Ybe,Ybo (by rfl)]
 have hc:=Ybp (a:=[.str (paN p)]) (b:=(paW p).map D.str) (by have:=Ylz h;simp;lia)
 have hj:=Yl3 h (l:=[.str (paN p)]++(paW p).map D.str) rfl
 simp only[List.cons_append,Qc]at hc hj
 have hs:cutC (some 1) none (paD p)=some (.tup (paL p)):=Yne _ _
 have hi:ixD (paD p) (.int 0)=some (.str (paN p)):=by simp[paD]
 have hp:=Ynd h
 generalize paD p=pd at hs hi
 simp[Yc2,Yr,hs,Ytb,hp,hc,hj,hi,-Yo6]
theorem Yaq{a:List Nat}(h:OkN a):Yv [numsD a]=some (.lst ((cntW num a).map D.str)):=by
 rw[Yv,Ybo (by rfl)]
 have hc:=Yo9 (fe:=Yay) (r:=[]) (enc:=nD) (fun x=>D.str (num x)) (l:=a) (fun x hx=>by
  have:=Yf6 (h.2 x hx)
  simp[Yay,this])
 have hl:=h.1
 have hn:=Yf6 (b:=a.length) (by lia)
 have hk:=Ybp (a:=[.str (num a.length)]) (b:=a.map fun s=>D.str (num s)) (by simp;lia)
 simp[Yb5,Yr,numsD,capR,hc,hn,hk,cntW,Function.comp_def]
theorem Yc6{a:List Say}(h:OkR a):Yaf [Ye4 a]=some (.lst ((cntW sayW a).map D.str)):=by
 rw[Yaf,Ybo (by rfl)]
 have hc:=Yo9 (fe:=Ya5) (r:=[]) (enc:=sayD) (fun x=>D.str (sayW x)) (l:=a) (fun s hs=>by
  have h0:=Yf6 (h.2 s hs)
  have hn:=Ygy s.1 (h.2 s hs)
  have h1:=Yn0 (a:=T "+") (b:=num s.1) (by rw[lenPM.1];decide) (by lia)
  have h2:=Yn0 (a:=T "-") (b:=num s.1) (by rw[lenPM.2.1];decide) (by lia)
  obtain⟨b,o⟩:=s
  cases o<;>simp[Ya5,sayD,h0,h1,h2,sayW])
 have hl:=h.1
 have hn:=Yf6 (b:=a.length) (by lia)
 have hk:=Ybp (a:=[.str (num a.length)]) (b:=a.map fun s=>D.str (sayW s)) (by simp;lia)
 simp[Ycw,Yr,Ye4,capR,hc,hn,hk,cntW,Function.comp_def]
theorem Yf2{s:Option Nat}(h:∀x,s=some x->x < 1000):Yaz [optD s]=some (.str (Yeo s)):=by
 rw[Yaz,Ybo (by rfl)]
 cases s with
 | none=>simp[Yb3,Yr,optD,Yeo]
 | some b=>
   have:=Yf6 (h b rfl)
   simp[Yb3,Yr,optD,Yeo,this]
@[simp] theorem at2(a b c:D):atI [a,b,c] 2=some c:=nrT rfl
@[simp] theorem at2'(a b c d:D):atI [a,b,c,d] 2=some c:=nrT rfl
@[simp] theorem at3(a b c d:D):atI [a,b,c,d] 3=some d:=nrT rfl
theorem Yc7{k:K3}{rs:List Rw}(h:OkRs rs):Yan [.str (kW k),.tup (rs.map (rwD k))]=some (.lst ((Ye5 k rs).map D.str)):=by
 rw[Yan,Ybo (by rfl)]
 have hl:=h.1
 have hn:=Yf6 (b:=rs.length) (by lia)
 obtain⟨ρ',e,y,rfl⟩:=Ye8 (gt:=gSet 3) (fb:=Yad) (rwD k) (fun pre ρ=>∃y,ρ=[some (.sh (.str (kW k))),some (.sh (.tup (rs.map (rwD k)))),some (.ow ((num rs.length::pre.flatMap (Ya6 k)).map D.str)),y]) rs []
  [some (.sh (.str (kW k))),some (.sh (.tup (rs.map (rwD k)))),some (.ow [.str (num rs.length)]),none] ⟨none,rfl⟩ (by
   rintro q a r ρ e ⟨y,rfl⟩
   have e':rs=q++a::r:=e
   have hq:(q.flatMap (Ya6 k)).length<=q.length * 210:=Yed fun b hb=>Ylv (h.2 b (by rw[e'];simp[hb]))
   have ha:=h.2 a (by rw[e'];simp)
   have hql:q.length<=200:=by
    have:=congrArg List.length e'
    rw[qv,qr]at this
    lia
   refine⟨_,_,rfl,?_,some (.sh (rwD k a)),rfl⟩
   rw[Ylq,<-List.cons_append]
   generalize hL:num rs.length::q.flatMap (Ya6 k)=L
   have hLl:L.length<=50000:=by rw[<-hL,qr];lia
   have hL1:L.length < 1000000:=by lia
   obtain⟨b,s,xs,o⟩:=a
   obtain⟨h1,h2,h3⟩:=ha
   have hb:=Yf6 h1
   have hx:=Ybl (w:=num) h3.1
   have hz:(cntW num xs).length<=201:=hx
   cases k with
   | pl=>
     have hf:=Yf2 h2
     have hc:∀w,catD (.lst (L.map D.str++[D.str (num b)])) (.lst [.str (Yeo s),.str w])=some (L.map D.str++[D.str (num b)]++[.str (Yeo s),.str w]):=fun w=>Ybp (by simp;lia)
     simp only[Qd,List.cons_append,Qc]at hc
     cases o<;>simp[Yad,kW,rwD,Ya6,hb,appD,hL1,hf,hc,yesW]
   | su=>
     have hf:=Yaq h3
     unfold numsD at hf
     have hc:=Ybp (a:=L.map D.str++[D.str (num b)]) (b:=(cntW num xs).map D.str) (by simp;lia)
     have hL2:L.length+1+(cntW num xs).length < 1000000:=by lia
     have hL3:L.length+((cntW num xs).length+1) < 1000000:=by lia
     simp only[Qd,List.cons_append,Qc]at hc
     cases o<;>simp[Yad,kW,rwD,Ya6,hb,appD,hL1,hL2,hL3,hf,hc,yesW]
   | ro=>
     have hf:=Yaq h3
     unfold numsD at hf
     have hc:=Ybp (a:=L.map D.str++[D.str (num b)]) (b:=(cntW num xs).map D.str) (by simp;lia)
     simp only[Qd,List.cons_append,Qc]at hc
     simp[Yad,kW,rwD,Ya6,hb,appD,hL1,hf,hc])
 rw[Qc]at e
 simp[Ycy,Yr,hn,e,frz,frz1,Ye5]
theorem Yg2{p:Pa}(h:OkPa p):Ya0 [paD p]=some (.lst ((paN p::paW p).map D.str)):=by
 have hcap:∀{α:Type} {w:α->Str} {l:List α},l.length<=200->(cntW w l).length<=201:=Ybl
 rw[Ya0,Ybo (by rfl)]
 have hcl:∀{i:Fin 9} {a b:List Say},i=1\/i=3->OkR a->OkR b->(Yq (Yr 3 [.tup [.str (nm i),Ye4 a,Ye4 b]])).bind endB=some (.lst ((nm i::(cntW sayW a++cntW sayW b)).map D.str)):=by
  intro i a b hi ha hb
  have h1:=Yc6 ha
  have h2:=Yc6 hb
  have l1:=hcap (w:=sayW) ha.1
  have l2:=hcap (w:=sayW) hb.1
  have c1:=Ybp (a:=[.str (nm i)]) (b:=(cntW sayW a).map D.str) (by simp;lia)
  have c2:=Ybp (a:=[.str (nm i)]++(cntW sayW a).map D.str) (b:=(cntW sayW b).map D.str) (by simp;lia)
  simp only[Qd,List.cons_append,Qc]at c1 c2
  rcases hi with rfl | rfl<;>simp[Yq,Yr,h1,h2,c1,c2,frz,frz1]
 match p with
 | .br=>simp[Yq,Yr,paD,paN,paL,paW,frz,frz1]
 | .cl false a b=>exact hcl (.inl rfl) h.1 h.2
 | .cl true a b=>exact hcl (.inr rfl) h.1 h.2
 | .cr a=>
   have h1:=Yc6 h
   have l1:=hcap (w:=sayW) h.1
   have c1:=Ybp (a:=[.str (nm 2)]) (b:=(cntW sayW a).map D.str) (by simp;lia)
   simp only[Qd,List.cons_append,Qc]at c1
   simp[Yq,Yr,paD,paN,paL,paW,h1,c1,frz,frz1]
 | .od a=>
   have h1:=Yaq h
   have l1:=hcap (w:=num) h.1
   have c1:=Ybp (a:=[.str (nm 4)]) (b:=(cntW num a).map D.str) (by simp;lia)
   simp only[Qd,List.cons_append,Qc]at c1
   simp[Yq,Yr,paD,paN,paL,paW,h1,c1,frz,frz1]
 | .lo s a b=>
   have h0:=Yf2 h.1
   have h1:=Yaq h.2.1
   have h2:=Yaq h.2.2
   have l1:=hcap (w:=num) h.2.1.1
   have l2:=hcap (w:=num) h.2.2.1
   have c1:=Ybp (a:=[.str (nm 5),.str (Yeo s)]) (b:=(cntW num a).map D.str) (by simp;lia)
   have c2:=Ybp (a:=[.str (nm 5),.str (Yeo s)]++(cntW num a).map D.str) (b:=(cntW num b).map D.str) (by simp;lia)
   simp only[Qd,List.cons_append,Qc]at c1 c2
   simp[Yq,Yr,paD,paN,paL,paW,h0,h1,h2,c1,c2,frz,frz1,appD]
 | .pl .pl _ rs=>
   have h1:=Yc7 (k:=.pl) h
   have l1:=Yda (k:=.pl) h
   have c1:=Ybp (a:=[.str (nm 6)]) (b:=(Ye5 .pl rs).map D.str) (by simp;lia)
   simp only[Qd,List.cons_append,Qc]at c1
   simp only[kW]at h1
   simp[Yq,Yr,paD,paN,paL,paW,h1,c1,frz,frz1,kW]
 | .pl .su _ rs=>
   have h1:=Yc7 (k:=.su) h
   have l1:=Yda (k:=.su) h
   have c1:=Ybp (a:=[.str (nm 7)]) (b:=(Ye5 .su rs).map D.str) (by simp;lia)
   simp only[Qd,List.cons_append,Qc]at c1
   simp only[kW]at h1
   simp[Yq,Yr,paD,paN,paL,paW,h1,c1,frz,frz1,kW]
 | .pl .ro h _=>exact absurd rfl h
 | .ro a rs=>
   have h0:=Yaq h.1
   have h1:=Yc7 (k:=.ro) h.2
   have l0:=hcap (w:=num) h.1.1
   have l1:=Yda (k:=.ro) h.2
   have c1:=Ybp (a:=[.str (nm 8)]) (b:=(cntW num a).map D.str) (by simp;lia)
   have c2:=Ybp (a:=[.str (nm 8)]++(cntW num a).map D.str) (b:=(Ye5 .ro rs).map D.str) (by simp;lia)
   simp only[Qd,List.cons_append,Qc]at c1 c2
   simp only[kW]at h1
   simp[Yq,Yr,paD,paN,paL,paW,h0,h1,c1,c2,frz,frz1]
theorem Yse(t:List Int):∃(p:Pa) (t':List Int),∀(x:Addr) (a k c d:Option B),Yeb x [a,some (.sh (.adr x)),k,c,d] t=some (.nx [a,some (.sh (.adr x)),k,some (.sh (paD p)),some (.sh (.str (paS p)))] t'):=by
 obtain⟨p,t',hp,h⟩:=Ys9 t
 refine⟨p,t',fun x a k c d=>?_⟩
 have h1:=Yf1 hp
 have h2:=Yg2 hp
 have h3:=Yl3 hp rfl
 simp only[qy]at h2 h3
 unfold Yeb
 rw[Yaj (Yca ((Ybf rfl).trans ((Ybu (ds:=[]) rfl).trans h)))]
 rw[Yaj (Yb6 (ρ':=[a,some (.sh (.adr x)),k,some (.sh (paD p)),some (.sh (.str (paS p)))]) (by simp[h1]))]
 refine Yb6 ?_
 generalize paD p=pd at *
 generalize paS p=ps at *
 have hi:isiD "str" (.str ps)=some true:=rfl
 simp[h2,h3,Yjp,hi]
theorem Yl4:∀(n:Nat) (t:List Int),∃t',∀(x:Addr) (a k c d:Option B) (ds:List D),ds.length=n->∃k' c' d',forW (gSet 2) (Yeb x) ds [a,some (.sh (.adr x)),k,c,d] t=some (.nx [a,some (.sh (.adr x)),k',c',d'] t')
 | 0,t=>⟨t,fun x a k c d ds h=>by
   rw[List.length_eq_zero_iff.mp h]
   exact⟨k,c,d,rfl⟩⟩
 | n+1,t=>by
   obtain⟨p,t1,h1⟩:=Yse t
   obtain⟨t2,h2⟩:=Yl4 n t1
   refine⟨t2,fun x a k c d ds h=>?_⟩
   cases ds with
   | nil=>cases h
   | cons y ds=>
     obtain⟨k',c',d',h3⟩:=h2 x a (some (.sh y)) (some (.sh (paD p))) (some (.sh (.str (paS p)))) ds (by simpa using h)
     refine⟨k',c',d',?_⟩
     rw[forW]
     show(Yeb x [a,some (.sh (.adr x)),some (.sh y),c,d] t).bind _=_
     rw[h1,qd]
     exact h3
theorem law_true(ns:List Int)(hns:ns.length<=63):Yil [.scr ns]=some (.bl true):=by
 rw[Yil,Ybo (by rfl)]
 have hst:Yr 5 [D.scr ns]=[some (.sh (.scr ns)),none,none,none,none]:=rfl
 have hb:Ypr [some (.sh (.scr ns)),none,none,none,none]=some (.rt (.bl true)):=by
  unfold Ypr Ym3
  have hr:revF (getC 0) [some (.sh (.scr ns)),none,none,none,none]=some (ns.reverse.map D.int):=by
   show some (ns.map D.int).reverse=_
   rw[List.map_reverse]
  rw[hr,qd,Yhj,qd,show List.map (fun a:Int=>a) ns.reverse=ns.reverse from List.map_id' _]
  obtain⟨t',ht⟩:=Yl4 4 ns.reverse
  refine Yk2 fun l=>⟨t',?_⟩
  obtain⟨k,c,d,h⟩:=ht l (some (.sh (.scr ns))) none none none (rngD 0 4) rfl
  show Yik l [some (.sh (.scr ns)),some (.sh (.adr l)),none,none,none] ns.reverse=_
  unfold Yik
  rw[Yaj (ρ':=[some (.sh (.scr ns)),some (.sh (.adr l)),k,c,d]) (t':=t')]
  ·rfl
  ·unfold Yk1
   show(rng1 [.int 4]).bind _=_
   rw[Yig (by lia) (by lia),qd]
   exact h
 rw[hst,hb]
 rfl
end Lw
end
namespace Op
open PySem PySem.W PyProof.Rows PySem.Calls
set_option maxRecDepth 100000
noncomputable abbrev pg:Program:=PySem.Challenge.pw_duskbook_k58_papers_written
noncomputable abbrev en(P:Params)(x:Str)(t:Nat)(v:Value):DictEntry:=⟨PyData.keyHash P x,.str x t,v⟩
noncomputable abbrev fn(name qual:Str)(s:Stmt)(dV kV doc pm:Value)(an:Option Addr)(cdv ct:Value)(g b:Nat):Data:=.func ⟨name,qual,L2.defArgs s,.stmts (L2.defBody s),L2.defScope s,g,[],dV,kV,doc,pm,an,cdv,ct,b⟩
noncomputable abbrev tu(l:List Value):Obj:=⟨.type "tuple",none,.seq ⟨l⟩ 0,#[]⟩
noncomputable abbrev fl:Obj:=⟨.none,none,.fields #[],#[]⟩
noncomputable abbrev oZ(x:Str)(i:Nat):Obj:=⟨.none,none,fn x x (Lw.top i) .none .none .none .none none .none .none 0 0,#[]⟩
noncomputable abbrev oF(x:Str)(i:Nat)(pm:Value)(c:Nat):Obj:=⟨.type "function",none,.func (fnOf x x (L2.defArgs (Lw.top i)) (L2.defBody (Lw.top i)) (L2.defScope (Lw.top i)) .none .none .none pm none (.ref c) .none),#[]⟩
noncomputable abbrev oC(x:Str)(t l n b:Nat)(u v:Value)(c k e:Nat):Obj:=⟨.type "code",none,.fields #[.str x t,.str x (t+1),.str "/claim/cut.py" (t+2),.int (.ofNat l) 0,.int (.ofNat n) 0,.int 0 0,.int 0 0,.int 3 0,.ref b,.bool true,.int (.ofNat k) 0,.ref (b+1),.none,u,v,.ref c,.int (.ofNat e) 0,.int (.ofNat l) 0,.str "/claim/cut.py" (e+1)],#[]⟩
noncomputable abbrev p0:Value:=(.str "duskbook.pages" 187)
noncomputable abbrev p1:Value:=(.str "duskbook.papertexts" 197)
noncomputable abbrev p2:Value:=(.str "law_duskbook_k58_papers_written" 288)
noncomputable def et0(P:Params):List DictEntry:=[en P "__doc__" 166 .none,en P "__package__" 167 .none,en P "__loader__" 168 (.builtin "__main__.__loader__#opaque"),en P "__spec__" 169 .none,en P "__annotations__" 170 (.ref 6),en P "__builtins__" 171 (.ref 4),en P "__file__" 173 (.str "/claim/cut.py" 172),en P "__cached__" 174 .none,en P "saying_written" 196 (.ref 21),en P "PAPERS" 230 (.ref 22),en P "ROWS" 245 (.ref 32),en P "SEVERAL" 255 (.ref 36),en P "thing_written" 263 (.ref 43),en P "part_written" 269 (.ref 48),en P "parts_written" 280 (.ref 55),en P "paper_written" 287 (.ref 62),en P "_law_mixed" 297 (.ref 69),en P "_law_next" 304 (.ref 76),en P "_law_many" 313 (.ref 83),en P "_law_any_road" 323 (.ref 90),en P "_law_any_numbers" 329 (.ref 95),en P "_law_any_rows" 340 (.ref 102),en P "_law_any" 352 (.ref 109),en P "_law_number_words" 358 (.ref 114),en P "_law_road_words" 364 (.ref 119),en P "_law_free_word" 371 (.ref 126),en P "_law_rows_words" 381 (.ref 133),en P "_law_paper_words" 390 (.ref 140),en P "law" 401 (.ref 147)]
noncomputable def et(P:Params):List DictEntry:=et0 P
noncomputable abbrev ns(P:Params)(x:DictEntry)(n k:Nat):Obj:=⟨.type "dict",none,.dict ⟨x::(et P).take n⟩ k,#[]⟩
noncomputable def ff0:List Value:=[(.int (2) 0),(.int (0) 0),(.ref 20),(.int (9) 0),(.int (0) 0),(.ref 42),(.int (15) 0),(.int (0) 0),(.ref 47),(.int (24) 0),(.int (0) 0),(.ref 54),(.int (29) 0),(.int (0) 0),(.ref 61),(.int (32) 0),(.int (0) 0),(.ref 68),(.int (34) 0),(.int (0) 0),(.ref 75),(.int (38) 0),(.int (0) 0),(.ref 82),(.int (43) 0),(.int (0) 0),(.ref 89),(.int (49) 0),(.int (0) 0),(.ref 94),(.int (51) 0),(.int (0) 0),(.ref 101),(.int (62) 0),(.int (0) 0),(.ref 108),(.int (81) 0),(.int (0) 0),(.ref 113),(.int (83) 0)]
noncomputable def ff1:List Value:=[(.int (0) 0),(.ref 118),(.int (85) 0),(.int (0) 0),(.ref 125),(.int (89) 0),(.int (0) 0),(.ref 132),(.int (100) 0),(.int (0) 0),(.ref 139),(.int (117) 0),(.int (0) 0),(.ref 146)]
noncomputable def ff:List Value:=ff0++ff1
noncomputable abbrev ft(n:Nat):Obj:=⟨.none,none,.fields ⟨ff.take n⟩,#[]⟩
noncomputable abbrev dF(x:Str)(i l n t b:Nat)(pm:Value)(k:Nat):List Obj:=[tu [],fl,oZ x i,oC x t l n b .none .none (b+2) k (t+3),oF x i pm (b+3)]
noncomputable abbrev dG(x:Str)(i l n t b:Nat)(pm:Value)(k:Nat)(u:List Value):List Obj:=[tu [],fl,tu u,tu [],oZ x i,oC x t l n b (.ref (b+2)) (.ref (b+3)) (b+4) k (t+3+u.length),oF x i pm (b+5)]
noncomputable def al0(P:Params):List Obj:=[boot_o_0 P,boot_o_1 P,boot_o_2 P,ns P (en P "__name__" 165 (.str "law_duskbook_k58_papers_written" 288)) 29 30,boot_o_4 P,boot_o_5 P,boot_o_6 P,boot_o_7 P,boot_o_8 P,boot_o_9 P,boot_o_10 P,tu [],ft 54,⟨(.type "code"),none,(.fields #[(.str "<module>" 182),(.str "<module>" 183),(.str "/claim/cut.py" 184),(.int (1) 0),(.int (0) 0),(.int (0) 0),(.int (0) 0),(.int (0) 0),(.ref 11),(.bool false),(.int (181) 0),(.ref 12),.none,.none,.none,.none,(.int (185) 0),(.int (1) 0),(.str "/claim/cut.py" 186)]),#[]⟩,⟨(.type "frame"),none,.plain,#[(some (.ref 13)),(some (.ref 3)),(some (.ref 3)),none,(some (.str "__main__" 164)),none,(some (.ref 0))]⟩]++(dG "saying_written" 1 2 1 189 15 p0 181 [(.str "saying" 192),(.str "beacon" 193)]++([⟨(.type "dict"),none,(.dict #[en P "broken" 199 (.ref 23),en P "clash" 200 (.ref 24),en P "cross" 203 (.ref 25),en P "late" 205 (.ref 26),en P "odd" 208 (.ref 27),en P "lone" 210 (.ref 28),en P "plan" 214 (.ref 29),en P "sums" 216 (.ref 30),en P "rows" 218 (.ref 31)] 9),#[]⟩,tu [],tu [(.str "road" 201),(.str "road" 202)],tu [(.str "road" 204)],tu [(.str "road" 206),(.str "road" 207)],tu [(.str "places" 209)],tu [(.str "source" 211),(.str "places" 212),(.str "places" 213)],tu [(.str "plan rows" 215)],tu [(.str "sum rows" 217)],tu [(.str "beacons" 219),(.str "if rows" 220)],⟨(.type "dict"),none,(.dict #[en P "plan rows" 231 (.ref 33),en P "sum rows" 235 (.ref 34),en P "if rows" 239 (.ref 35)] 3),#[]⟩,tu [(.str "beacon" 232),(.str "source" 233),(.str "truth" 234)],tu [(.str "beacon" 236),(.str "beacons" 237),(.str "truth" 238)],tu [(.str "beacon" 240),(.str "beacons" 241)],⟨(.type "dict"),none,(.dict #[en P "road" 246 (.str "saying" 247),en P "places" 248 (.str "place" 249),en P "beacons" 250 (.str "beacon" 251)] 3),#[]⟩]++(dG "thing_written" 6 9 2 256 37 p1 181 [(.str "form" 259),(.str "thing" 260)]++(dF "part_written" 7 15 2 264 44 p1 181++(dG "parts_written" 8 24 2 270 49 p1 181 [(.str "forms" 273),(.str "parts" 274),(.str "words" 275),(.str "form" 276),(.str "part" 277)]++(dG "paper_written" 9 29 1 281 56 p1 181 [(.str "paper" 284)]++(dG "_law_mixed" 11 32 2 290 63 p2 181 [(.str "cell" 293),(.str "by" 294)]++(dG "_law_next" 12 34 1 298 70 p2 181 [(.str "tape" 301)]++(dG "_law_many" 13 38 2 305 77 p2 181 [(.str "tape" 308),(.str "most" 309),(.str "left" 310)]++(dG "_law_any_road" 14 43 1 314 84 p2 181 [(.str "tape" 317),(.str "road" 318),(.str "k" 319),(.str "left" 320)]++(dF "_law_any_numbers" 15 49 2 324 91 p2 181++(dG "_law_any_rows" 16 51 2 330 96 p2 181 [(.str "tape" 333),(.str "word" 334),(.str "rows" 335),(.str "k" 336),(.str "left" 337)]++(dG "_law_any" 17 62 1 341 103 p2 181 [(.str "tape" 344),(.str "left" 345),(.str "word" 346),(.str "road" 347),(.str "places" 348),(.str "numbers" 349)]++(dF "_law_number_words" 18 81 1 353 110 p2 181++(dF "_law_road_words" 19 83 1 359 115 p2 181++(dG "_law_free_word" 20 85 1 365 120 p2 181 [(.str "beacon" 368)]++(dG "_law_rows_words" 21 89 2 372 127 p2 181 [(.str "word" 375),(.str "rows" 376),(.str "words" 377),(.str "row" 378)]++(dG "_law_paper_words" 22 100 1 382 134 p2 181 [(.str "paper" 385),(.str "word" 386),(.str "words" 387)]++(dG "law" 23 117 1 391 141 p2 181 [(.str "script" 394),(.str "tape" 395),(.str "k" 396),(.str "paper" 397),(.str "found" 398)])))))))))))))))))))
noncomputable def al(P:Params):List Obj:=al0 P
noncomputable def upd(l:List (Nat × Obj))(xs:List Obj):List Obj:=l.foldl (fun xs p=>xs.set p.1 p.2) xs
noncomputable def ev:List Obj->List Obj
 | []=>[]
 | [x]=>[x]
 | x::_::r=>x::ev r
noncomputable def bt:Nat->List Obj->BT
 | 0,_=>.nil
 | _+1,[]=>.nil
 | n+1,x::xs=>.node x (bt n (ev xs)) (bt n (ev xs.tail))
noncomputable abbrev bd:List Stmt:=behindTheImports pg
noncomputable abbrev sl(i n:Nat):List Stmt:=(bd.drop i).take n
noncomputable abbrev env:Env:={ scope:=pg.main.scope,locals:=mainNs,globals:=mainNs,cells:=[],code:=(.ref 13),frame:=some 14 }
noncomputable abbrev cE:Code:=.body bd env
noncomputable abbrev B:List Frame:=[topFrame ⟨0,0,0,0⟩]
noncomputable abbrev ss(n:Nat)(l:Params->List (Nat × Obj))(t:Nat)(w:World)(os:OsState):SharedT:=⟨bt 12 (upd (l w.params) ((al w.params).take n)),n,{},.mk [],boot_drawn,t,os⟩
noncomputable def h0(P:Params):Heap:=⟨⟨upd [(3,boot_o_3 P),(12,fl)] ((al P).take 15)⟩,{}⟩
noncomputable abbrev s0(w:World)(os:OsState):Shared:=⟨h0 w.params,.mk [],boot_drawn,187,os⟩
noncomputable abbrev s1:World->OsState->SharedT:=ss 15 (fun P=>[(3,boot_o_3 P),(12,fl)]) 187
noncomputable abbrev s2:World->OsState->SharedT:=ss 49 (fun P=>[(3,ns P (en P "__name__" 165 (.str "duskbook.papertexts" 197)) 14 15),(12,ft 9)]) 270
noncomputable abbrev s3:World->OsState->SharedT:=ss 134 (fun P=>[(3,ns P (en P "__name__" 165 (.str "law_duskbook_k58_papers_written" 288)) 27 28),(12,ft 48)]) 382
noncomputable abbrev s4:World->OsState->SharedT:=ss 148 (fun P=>[]) 402
noncomputable def h5(P:Params):Heap:=⟨⟨upd [] ((al P).take 148)⟩,{}⟩
noncomputable abbrev s5(w:World)(os:OsState):Shared:=⟨h5 w.params,.mk [],boot_drawn,402,os⟩
noncomputable abbrev sz(w:World)(os:OsState):Shared:=⟨boot_heap w.params,.mk [],boot_drawn,boot_toks,os⟩
theorem e0:∀w:World,(fun os=>topGo treeTable pg w 11 (some (.ref 6)) 12 (sz w os) (topStub pg))=fun os=>some (s0 w os,⟨denote treeTable cE,cE,⟨0,0,0,0⟩,B⟩):=by
 rw[W.Fast.te15667345088766844465,W.Fast.te14364793385576792824,W.Fast.te11892475500146522536];intro w;kernel_rfl
theorem e1:∀w:World,(fun os=>segRun treeTable pg w 11 (some (.ref 6)) 1 1 (s0 w os) (blockOf bd env cE ⟨0,0,0,0⟩ B))=fun os=>some (.next,(s1 w os).abs,cE,⟨0,0,0,0⟩):=by
 rw[W.Fast.te14374325043358763698,W.Fast.te14364793385576792824];intro w;kernel_rfl
theorem e2:∀w:World,(fun os=>segRunT treeTable pg w 11 (some (.ref 6)) 1 393 (s1 w os) (piecesOf (sl 0 8) env cE ⟨0,0,0,0⟩ B))=fun os=>some (.next,s2 w os,cE,⟨15,0,23,16⟩):=by
 rw[W.Fast.te10110043849684766642,W.Fast.te14364793385576792824];refine byRow2 "special-get-raises" ?_ ?_<;>(intro w;kernel_rfl)
theorem e3:∀w:World,(fun os=>segRunT treeTable pg w 11 (some (.ref 6)) 1 400 (s2 w os) (piecesOf (sl 8 14) env cE ⟨15,0,23,16⟩ B))=fun os=>some (.next,s3 w os,cE,⟨89,0,99,16⟩):=by
 rw[W.Fast.te10110043849684766642,W.Fast.te14364793385576792824];intro w;kernel_rfl
theorem e4:∀w:World,(fun os=>segRunT treeTable pg w 11 (some (.ref 6)) 1 65 (s3 w os) (piecesOf (sl 22 2) env cE ⟨89,0,99,16⟩ B))=fun os=>some (.next,s4 w os,cE,⟨117,0,124,15⟩):=by
 rw[W.Fast.te10110043849684766642,W.Fast.te14364793385576792824];intro w;kernel_rfl
theorem e5:∀w:World,(fun os=>topRun treeTable pg w 11 (some (.ref 6)) 2 (s4 w os).abs ⟨doneF .next,cE,⟨117,0,124,15⟩,B⟩)=fun os=>some (s5 w os):=by
 rw[W.Fast.te14082659384304107361,W.Fast.te14364793385576792824];intro w;kernel_rfl
noncomputable abbrev m5:Nat:=2
noncomputable abbrev t5:List Stmt:=[]
noncomputable abbrev R(w:World)(os:OsState)(m:Nat)(s:Shared)(t:List Stmt)(p:Pos):Prop:=topRun treeTable pg w 11 (some (.ref 6)) m s (restOf t env cE p B)=some (s5 w os)
theorem r5(w:World)(os:OsState):R w os m5 (s4 w os).abs t5 ⟨117,0,124,15⟩:=congrFun (e5 w) os
noncomputable abbrev m4:Nat:=65+m5
noncomputable abbrev t4:List Stmt:=sl 22 2++t5
theorem r4(w:World)(os:OsState):R w os m4 (s3 w os).abs t4 ⟨89,0,99,16⟩:=piece_app (segRun_of (congrFun (e4 w) os)) (r5 w os)
noncomputable abbrev m3:Nat:=400+m4
noncomputable abbrev t3:List Stmt:=sl 8 14++t4
theorem r3(w:World)(os:OsState):R w os m3 (s2 w os).abs t3 ⟨15,0,23,16⟩:=piece_app (segRun_of (congrFun (e3 w) os)) (r4 w os)
noncomputable abbrev m2:Nat:=393+m3
noncomputable abbrev t2:List Stmt:=sl 0 8++t3
theorem r2(w:World)(os:OsState):R w os m2 (s1 w os).abs t2 ⟨0,0,0,0⟩:=piece_app (segRun_of (congrFun (e2 w) os)) (r3 w os)
theorem tb:bd=t2:=by kernel_rfl
theorem run(w:World)(os:OsState):topRun treeTable pg w 11 (some (.ref 6)) (12+(1+m2)) (sz w os) (topStub pg)=some (s5 w os):=by
 have r:=r2 w os
 unfold R at r
 rw[<-congrArg (fun x=>restOf x env cE ⟨0,0,0,0⟩ B) tb]at r
 exact go_top (congrFun (e0 w) os) (piece_block (congrFun (e1 w) os) r)
theorem op:∀w:World,(fencedOpening treeTable pg w 1836).map (fun s=>(s.heap,s.gens,s.drawn,s.toks))=some (boot_heap w.params,Array.mk [],boot_drawn,boot_toks):=
 boot_open (by kernel_rfl) (by decide) (fun s=>by kernel_rfl)
theorem size:∀w:World,((boot_heap w.params).isNs mainGlobals&&(Array.mk []:Array GenState).size==0,(boot_heap w.params).objs.size,(boot_heap w.params).nsMap mainGlobals "__annotations__")=(true,11,(some (.ref 6))):=by
 rw[W.Fast.te8920871248978507458];intro w;kernel_rfl
noncomputable def K(P:Params):Frag:=(nat_lit 3,ns P (en P "__name__" 165 (.str "law_duskbook_k58_papers_written" 288)) 29 30)::(nat_lit 20,oC "saying_written" 189 2 1 15 (.ref 17) (.ref 18) 19 181 194)::(nat_lit 21,oF "saying_written" 1 p0 20)::(nat_lit 22,⟨(.type "dict"),none,(.dict #[en P "broken" 199 (.ref 23),en P "clash" 200 (.ref 24),en P "cross" 203 (.ref 25),en P "late" 205 (.ref 26),en P "odd" 208 (.ref 27),en P "lone" 210 (.ref 28),en P "plan" 214 (.ref 29),en P "sums" 216 (.ref 30),en P "rows" 218 (.ref 31)] 9),#[]⟩)::(nat_lit 23,tu [])::(nat_lit 24,tu [(.str "road" 201),(.str "road" 202)])::(nat_lit 25,tu [(.str "road" 204)])::(nat_lit 26,tu [(.str "road" 206),(.str "road" 207)])::(nat_lit 27,tu [(.str "places" 209)])::(nat_lit 28,tu [(.str "source" 211),(.str "places" 212),(.str "places" 213)])::(nat_lit 29,tu [(.str "plan rows" 215)])::(nat_lit 30,tu [(.str "sum rows" 217)])::(nat_lit 31,tu [(.str "beacons" 219),(.str "if rows" 220)])::(nat_lit 32,⟨(.type "dict"),none,(.dict #[en P "plan rows" 231 (.ref 33),en P "sum rows" 235 (.ref 34),en P "if rows" 239 (.ref 35)] 3),#[]⟩)::(nat_lit 33,tu [(.str "beacon" 232),(.str "source" 233),(.str "truth" 234)])::(nat_lit 34,tu [(.str "beacon" 236),(.str "beacons" 237),(.str "truth" 238)])::(nat_lit 35,tu [(.str "beacon" 240),(.str "beacons" 241)])::(nat_lit 36,⟨(.type "dict"),none,(.dict #[en P "road" 246 (.str "saying" 247),en P "places" 248 (.str "place" 249),en P "beacons" 250 (.str "beacon" 251)] 3),#[]⟩)::(nat_lit 42,oC "thing_written" 256 9 2 37 (.ref 39) (.ref 40) 41 181 261)::(nat_lit 43,oF "thing_written" 6 p1 42)::(nat_lit 47,oC "part_written" 264 15 2 44 .none .none 46 181 267)::(nat_lit 48,oF "part_written" 7 p1 47)::(nat_lit 54,oC "parts_written" 270 24 2 49 (.ref 51) (.ref 52) 53 181 278)::(nat_lit 55,oF "parts_written" 8 p1 54)::(nat_lit 61,oC "paper_written" 281 29 1 56 (.ref 58) (.ref 59) 60 181 285)::(nat_lit 62,oF "paper_written" 9 p1 61)::(nat_lit 68,oC "_law_mixed" 290 32 2 63 (.ref 65) (.ref 66) 67 181 295)::(nat_lit 69,oF "_law_mixed" 11 p2 68)::(nat_lit 75,oC "_law_next" 298 34 1 70 (.ref 72) (.ref 73) 74 181 302)::(nat_lit 76,oF "_law_next" 12 p2 75)::(nat_lit 82,oC "_law_many" 305 38 2 77 (.ref 79) (.ref 80) 81 181 311)::(nat_lit 83,oF "_law_many" 13 p2 82)::(nat_lit 89,oC "_law_any_road" 314 43 1 84 (.ref 86) (.ref 87) 88 181 321)::(nat_lit 90,oF "_law_any_road" 14 p2 89)::(nat_lit 94,oC "_law_any_numbers" 324 49 2 91 .none .none 93 181 327)::(nat_lit 95,oF "_law_any_numbers" 15 p2 94)::(nat_lit 101,oC "_law_any_rows" 330 51 2 96 (.ref 98) (.ref 99) 100 181 338)::(nat_lit 102,oF "_law_any_rows" 16 p2 101)::(nat_lit 108,oC "_law_any" 341 62 1 103 (.ref 105) (.ref 106) 107 181 350)::(nat_lit 109,oF "_law_any" 17 p2 108)::(nat_lit 113,oC "_law_number_words" 353 81 1 110 .none .none 112 181 356)::(nat_lit 114,oF "_law_number_words" 18 p2 113)::(nat_lit 118,oC "_law_road_words" 359 83 1 115 .none .none 117 181 362)::(nat_lit 119,oF "_law_road_words" 19 p2 118)::(nat_lit 125,oC "_law_free_word" 365 85 1 120 (.ref 122) (.ref 123) 124 181 369)::(nat_lit 126,oF "_law_free_word" 20 p2 125)::(nat_lit 132,oC "_law_rows_words" 372 89 2 127 (.ref 129) (.ref 130) 131 181 379)::(nat_lit 133,oF "_law_rows_words" 21 p2 132)::(nat_lit 139,oC "_law_paper_words" 382 100 1 134 (.ref 136) (.ref 137) 138 181 388)::(nat_lit 140,oF "_law_paper_words" 22 p2 139)::(nat_lit 146,oC "law" 391 117 1 141 (.ref 143) (.ref 144) 145 181 399)::(nat_lit 147,oF "law" 23 p2 146)::[]
noncomputable def hk:Hook:=kHook K (3::20::21::22::23::24::25::26::27::28::29::30::31::32::33::34::35::36::42::43::47::48::54::55::61::62::68::69::75::76::82::83::89::90::94::95::101::102::108::109::113::114::118::119::125::126::132::133::139::140::146::147::[]) (fun _=>by kernel_rfl)
noncomputable def Q:Program:={ pg with main:={ pg.main with body:=[Lw.top 23] } }
noncomputable def ls:List Str:=(["saying_written","PAPERS","ROWS","SEVERAL","thing_written","part_written","parts_written","paper_written","_law_mixed","_law_next","_law_many","_law_any_road","_law_any_numbers","_law_any_rows","_law_any","_law_number_words","_law_road_words","_law_free_word","_law_rows_words","_law_paper_words"]).map Str.ofString
noncomputable abbrev Xt(s:Shared):Bool:=xlAt Q [] s&&recOk (RowW.records (OpenRow.toRowW PySem.Challenge.rw_duskbook_k58_papers_written.row)) s
theorem Yte:∀w:World,(fun os=>((staticsOk (importedModules pg.main.body) (boot_heap w.params) (h5 w.params)&&namesBound pg (h5 w.params)&&gensDone (s5 w os)&&laidKept (boot_heap w.params) (h5 w.params)),openSeen Q ls (importedModules pg.main.body) Xt true (s5 w os),Hook.obs hk (s5 w os)))=fun _=>(true,openGood Q ls,Hook.val hk w):=by
 rw[W.Fast.te5923862056798008813,W.Fast.te4187177175401517315];intro w;kernel_rfl
theorem left:LeftO pg Q ls Xt (Hook.obs hk) (Hook.val hk) 1836:=LeftO.of_pieces (H₁:=h5) (M:=12+(1+m2)) op size run (by decide) Yte
end Op
open PySem PySem.W PyProof.Rows
set_option maxRecDepth 100000 in
theorem PySem.Challenge.cw_duskbook_k58_papers_written_holds : PySem.Challenge.rw_duskbook_k58_papers_written.Holds := by
 w_on;o_law
 refine holds_open (q:=Op.Q) (loose:=Op.ls) (Xt:=Op.Xt) (XP:=XL Op.Q []) (Yf:=Hook.obs Op.hk) (Ya:=Hook.val Op.hk) (YP:=InK Op.K) (N:=1836) Op.left (Hook.of Op.hk) (Hook.keeps Op.hk) (fun s e=>xl_of s (Bool.and_eq_true_iff.mp e).1) XL.keeps (by rfl) (by rfl) (by rfl) (fun s e=>recFacts_of (Bool.and_eq_true_iff.mp e).2) (by rfl) (by assumption) (by decide +kernel) ⟨rfl,rfl,rfl,rfl,rfl,by decide +kernel⟩ ?hw ?hc
 (case hw=>w_witness2)
 k_fill
 refine Lw.walk Lw.law_true (l:=PySem.Challenge.rw_duskbook_k58_papers_written) rfl rfl (K:=Op.K) (fun w h Y=>Y) ?F
 case F=>
  intro w mg fa h KX G hmg
  refine' Lw.all_mk KX G hmg ?_ ?_ ?_ ?_ ?_ ?_ ?_ ?_ ?_ ?_ ?_ ?_ ?_ ?_ ?_ ?_ ?_ ?_ ?_ ?_ ?_ ?_ ?_ ?_ ?_ ?_ ?_ ?_ ?_ ?_ ?_ ?_ ?_ ?_ ?_ ?_ ?_ ?_ ?_ ?_ ?_ ?_ ?_ ?_ ?_ ?_ ?_ ?_
  all_goals (try (first | (refine' Lw.fk_mk ?a ?l ?c ?k;(case a=>k_is);(case l=>k_is);(case c=>k_is);(case k=>k_is)) | k_is))
