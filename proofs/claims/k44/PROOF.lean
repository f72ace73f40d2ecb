import PyProof.Rows.All
import Wide.All
import OpenK.AllK
import Wide.FinOn
import Lean
import PyProof.EqAt
import PyProof.EqKinds
import PyProof.TupleCall
import PySem.Challenge.RW_duskbook_k44_eithers_won
set_option Elab.async false
set_option linter.all false
set_option maxRecDepth 100000
abbrev fsc(l:List (PySem.Str × PySem.NameKind)):PySem.Scope:={ kind:=.function,names:=l,isGenerator:=false,isCoroutine:=false,more:=[] }
theorem qa{α β:Type _}{o:Option α}{f:α->Option β}{b:β}(h:o.bind f=some b):∃a,o=some a/\f a=some b:=Option.bind_eq_some_iff.mp h
theorem qc{α β:Type _}{o:Option α}{f:α->β}{b:β}(h:o.map f=some b):∃a,o=some a/\f a=b:=Option.map_eq_some_iff.mp h
def qd:=@Option.bind_some
def qe:=@PySem.Heap.get?_push_of_some
def qf:=@List.length_map
def qg:=@List.mem_cons_of_mem
def qh:=@List.mem_cons_self
def qi:=@Bool.false_ne_true
def qj:=@Array.length_toList
def qk:=@List.size_toArray
def ql:=@PySem.Heap.lt_size
def qm:=@Nat.ne_of_lt
theorem qo{α:Type _}{l:List α}{i:Nat}{a:α}(h:l[i]?=some a):∃h:i < l.length,l[i]=a:=List.getElem?_eq_some_iff.mp h
def qp:=@PySem.Heap.get?_push_size
def qq:=@List.getElem?_eq_getElem
def qr:=@List.length_cons
theorem qt{α:Type _}{a b:α}{l:List α}(h:a∈b::l):a=b\/a∈l:=List.mem_cons.mp h
def qu:=@Nat.le_refl
theorem qv{α:Type _}{a:α}{s t:List α}(h:a∈s++t):a∈s\/a∈t:=List.mem_append.mp h
def qw:=@Nat.lt_succ_of_lt
theorem qx{α β:Type _}{b:β}{f:α->β}{l:List α}(h:b∈l.map f):∃a,a∈l/\f a=b:=List.mem_map.mp h
def qy:=@List.length_append
def qz:=@Nat.lt_succ_self
theorem Qa{m n:Nat}(h:m∈List.range n):m < n:=List.mem_range.mp h
theorem Qb{α:Type _}{p:α->Bool}{l:List α}{a:α}(h:a∈l.filter p):a∈l/\p a=true:=List.mem_filter.mp h
def Qc:=@List.map_cons
def Qd:=@List.map_map
def Qe:=@List.getElem?_set_ne
def Qf:=@Bool.and_eq_true
def Qg:=@List.getElem?_map
def Qh:=@Nat.zero_le
def Qi:=@Nat.lt_of_lt_of_le
def Qj:=@Nat.le_trans
def Qk:=@List.nil_append
def Ql:=@List.mem_singleton
def Qm:=@Bool.false_eq_true
def Qn:=@List.map_append
def Qo:=@List.lookup_cons
def Qp:=@List.getElem?_set_self
def Qq:=@List.mem_append_right
def Qr:=@List.getElem?_append_left
def Qs:=@Array.getElem?_eq_getElem
set_option maxHeartbeats 4000000
noncomputable section
namespace L2
open PySem PySem.Spec PyProof.Rows
abbrev Key:=Sum Int Str
def Yuj:Key->Value->Bool
 | .inl k,v=>Value.isInt k v
 | .inr x,v=>Value.isStrOf x v
def keyH(w:World):Key->Int
 | .inl k=>hashInt k
 | .inr x=>hashStr w x
theorem Ybd:∀{k:Key} {v:Value},Yuj k v=true->(∃i t,k=Sum.inl i/\v=Value.int i t)\/(∃x t,k=Sum.inr x/\v=Value.str x t)
 | .inl i,v,h=>by
   obtain⟨t,e⟩:=Value.isInt_shape (k:=i) (v:=v) h
   exact .inl ⟨i,t,rfl,e⟩
 | .inr x,v,h=>by
   obtain⟨t,e⟩:=Value.isStrOf_shape (x:=x) (v:=v) h
   exact .inr ⟨x,t,rfl,e⟩
theorem Yvu(i:Int)(t:Tok):Yuj (.inl i) (.int i t)=true:=by simp[Yuj,Value.isInt]
theorem Yvv(x:Str)(t:Tok):Yuj (.inr x) (.str x t)=true:=by simp[Yuj,Value.isStrOf]
theorem y53(a b:Int):decide ((Sum.inl a:Key)=Sum.inl b)=(a==b):=by
 by_cases e:a=b
 ·subst e;simp
 ·have h:¬(Sum.inl a:Key)=Sum.inl b:=fun q=>e (Sum.inl.inj q)
  rw[decide_eq_false h]
  exact(beq_eq_false_iff_ne.mpr e).symm
theorem y54(a b:Str):decide ((Sum.inr a:Key)=Sum.inr b)=decide (a=b):=by
 by_cases e:a=b
 ·subst e;simp
 ·have h:¬(Sum.inr a:Key)=Sum.inr b:=fun q=>e (Sum.inr.inj q)
  rw[decide_eq_false h,decide_eq_false e]
theorem y55(a:Int)(b:Str):decide ((Sum.inl a:Key)=Sum.inr b)=false:=decide_eq_false (fun q=>nomatch q)
theorem y56(a:Str)(b:Int):decide ((Sum.inr a:Key)=Sum.inl b)=false:=decide_eq_false (fun q=>nomatch q)
def Yay(prog:Program)(w:World):KeyKind prog w Key where
 is:=Yuj
 hash:=keyH w
 inj:=fun v a b ha hb=>by
  rcases Ybd ha with⟨i,t,rfl,rfl⟩ | ⟨x,t,rfl,rfl⟩
  ·rcases Ybd hb with⟨j,u,rfl,e⟩ | ⟨y,u,rfl,e⟩
   ·injection e with e1 _;rw[e1]
   ·exact nomatch e
  ·rcases Ybd hb with⟨j,u,rfl,e⟩ | ⟨y,u,rfl,e⟩
   ·exact nomatch e
   ·injection e with e1 _;rw[e1]
 byValue:=fun k v h=>by
  rcases Ybd h with⟨i,t,rfl,rfl⟩ | ⟨x,t,rfl,rfl⟩<;>rfl
 pyHash:=fun hv h=>by
  rcases Ybd hv with⟨i,t,rfl,rfl⟩ | ⟨x,t,rfl,rfl⟩
  ·exact wpAny_pyHash_int h
  ·exact wpAny_pyHash_str h
 eqBool:=fun hu hv h=>by
  rcases Ybd hu with⟨i,t,rfl,rfl⟩ | ⟨x,t,rfl,rfl⟩
  ·rcases Ybd hv with⟨j,u,rfl,rfl⟩ | ⟨y,u,rfl,rfl⟩
   ·rw[y53]at h;exact wpAny_eqBool_int h
   ·rw[y55]at h;exact SeqAt.EqAt.int_str i t y u _ _ _ _ h
  ·rcases Ybd hv with⟨j,u,rfl,rfl⟩ | ⟨y,u,rfl,rfl⟩
   ·rw[y56]at h;exact SeqAt.EqAt.str_int x t j u _ _ _ _ h
   ·rw[y54]at h;exact wpAny_eqBool_str h
 «strs»:=fun k x t v h=>by
  rcases Ybd h with⟨i,u,rfl,e⟩ | ⟨y,u,rfl,e⟩
  ·exact nomatch e
  ·injection e with e1 _
   subst e1
   cases v<;>rfl
theorem Yrk(prog:Program)(w:World)(i:Int)(t:Tok):(Yay prog w).is (.inl i) (.int i t)=true:=Yvu i t
theorem Yrl(prog:Program)(w:World)(x:Str)(t:Tok):(Yay prog w).is (.inr x) (.str x t)=true:=Yvv x t
end L2
namespace L2
open PySem PySem.Spec PyProof.Rows
inductive V where
 | non | bl (b:Bool) | int (i:Int) | str (x:Str) | byt (b:Array UInt8) | flt (b:UInt64) | ref (a:Addr) | ty (n:String)
 deriving DecidableEq
def RelV:V->Value->Prop
 | .non,u=>u=Value.none
 | .bl b,u=>u=Value.bool b
 | .int i,u=>∃t,u=Value.int i t
 | .str x,u=>∃t,u=Value.str x t
 | .byt b,u=>∃t,u=Value.bytes b t
 | .flt b,u=>∃t,u=Value.float b t
 | .ref a,u=>u=Value.ref a
 | .ty n,u=>u=Value.type n
abbrev Vals:List V->List Value->Prop:=Paired RelV
theorem Vals.length{xs:List V}{us:List Value}(r:Vals xs us):xs.length=us.length:=Paired.length r
theorem Vals.get:∀{xs:List V} {us:List Value} {i:Nat} {x:V},Vals xs us->xs[i]?=some x->∃u,us[i]?=some u/\RelV x u
 | _,_,_,_,.nil,e=>by simp at e
 | _,_,0,_,.cons r _,e=>by simp at e;subst e;exact⟨_,rfl,r⟩
 | _,_,i+1,x,.cons _ t,e=>by
   obtain⟨u,h1,h2⟩:=Vals.get (i:=i) (x:=x) t (by simpa using e)
   exact⟨u,by simpa using h1,h2⟩
theorem Vals.append:∀{xs ys:List V} {us ws:List Value},Vals xs us->Vals ys ws->Vals (xs++ys) (us++ws)
 | _,_,_,_,.nil,s=>s
 | _,_,_,_,.cons r t,s=>.cons r (Vals.append t s)
theorem Vals.take:∀{xs:List V} {us:List Value} (n:Nat),Vals xs us->Vals (xs.take n) (us.take n)
 | _,_,0,_=>.nil
 | _,_,_+1,.nil=>.nil
 | _,_,n+1,.cons r t=>.cons r (Vals.take n t)
theorem Vals.drop:∀{xs:List V} {us:List Value} (n:Nat),Vals xs us->Vals (xs.drop n) (us.drop n)
 | _,_,0,r=>r
 | _,_,_+1,.nil=>.nil
 | _,_,n+1,.cons _ t=>Vals.drop n t
def RelO:Option V->Option Value->Prop
 | some v,some u=>RelV v u
 | none,none=>True
 | _,_=>False
def KV{κ:Type}:List (κ × V)->List (κ × Value)->Prop:=Paired fun(p:κ × V) (q:κ × Value)=>p.1=q.1/\RelV p.2 q.2
def kV:Key->V
 | .inl i=>.int i
 | .inr x=>.str x
inductive HO where
 | lst (xs:List V)
 | tup (xs:List V)
 | dK (kvs:List (Key × V)) | dT (kvs:List (List Key × V))
 | set (S:Int->Bool) (n:Nat)
 | ins (C dx:Addr) (fs:List (Str × V))
 | own (x:Addr)
 | xd (fs:List (Str × V))
 | met (f x:Addr)
 | rng (lo hi:Int)
 | frz (o:Obj) (u:HO)
 | tbl (ps:Array Value)
 | ext (φ:Heap->Prop)
abbrev Hp:=Addr->Option HO
def upd(H:Hp)(a:Addr)(o:HO):Hp:=fun b=>if b=a then some o else H b
theorem Yw{H:Hp}{a:Addr}{o:HO}:upd H a o a=some o:=by unfold upd;rw[if_pos rfl]
theorem Yab{H:Hp}{a b:Addr}{o:HO}(h:b≠a):upd H a o b=H b:=by unfold upd;rw[if_neg h]
theorem y0{H:Hp}{a b:Addr}{o:HO}(h:H a=some o)(h':H b=none):a≠b:=by
 intro e;subst e;rw[h]at h';cases h'
section
variable (P:Program) (w:World)
def ObjOk(H:Hp)(h:Heap)(a:Addr):HO->Prop
 | .lst xs=>xs.length<=sizeLine/\∃(its:List Value) (n:Nat),Vals xs its/\h.get? a=some { cls:=.type "list",data:=.seq its.toArray n }
 | .tup xs=>xs.length<=sizeLine/\∃its:List Value,Vals xs its/\IsTup h a its.toArray
 | .dK kvs=>kvs.length<=sizeLine/\(a==sysModules)=false/\∃vs,KV kvs vs/\h.DictOf (Yay P w) a vs
 | .dT kvs=>kvs.length<=sizeLine/\(a==sysModules)=false/\∃xs:List (List Key × Addr × Value),
  Paired (fun(p:List Key × V) (q:List Key × Addr × Value)=>p.1=q.1/\H q.2.1=some (.tup (p.1.map kV))/\RelV p.2 q.2.2) kvs xs/\
  ∃o es ep,h.get? a=some o/\o.ExactDict/\o.data=.dict es ep/\es.toList=xs.map (entryOfKey (tupleKind (Yay P w)))/\(xs.map (·.1)).Nodup
 | .set S n=>h.SetOf (intKind P w) a S n
 | .ins C dx fs=>H dx=some (.own a)/\fs.length<=1000/\dx≠a/\h.get? a=some (W.instObj C dx)/\
  ∃mA,h.Ns1 dx mA/\(∀f,RelO (fs.lookup f) (mA f))/\PySem.Within mA (fs.map (·.1))
 | .own _=>∃o,h.get? a=some o
 | .xd fs=>∃mA,h.Ns1 a mA/\∀f,RelO (fs.lookup f) (mA f)
 | .rng lo hi=>∃t u v,h.get? a=some { cls:=.type "range",data:=.fields #[.int lo t,.int hi u,.int 1 v] }
 | .frz o u=>h.get? a=some o/\ObjOk H h a u
 | .tbl ps=>h.get? a=some { cls:=.none,data:=.fields ps }
 | .met f x=>h.get? a=some (W.methodObj (.ref f) (.ref x))
 | .ext φ=>φ h/\(∃o,h.get? a=some o)/\∀h1 h2:Heap,φ h1->(∀o,h1.get? a=some o->h2.get? a=some o)->φ h2
def HOk(H:Hp)(h:Heap):Prop:=∀a o,H a=some o->ObjOk P w H h a o
end
section
variable {P:Program} {w:World} {H H':Hp} {h h':Heap} {a:Addr} {o:HO}
theorem ObjOk.lt(x:ObjOk P w H h a o):a < h.objs.size:=by
 cases o with
 | lst xs=>obtain⟨_,_,_,_,e⟩:=x;exact ql e
 | tup xs=>obtain⟨_,_,_,p⟩:=x;exact p.lt
 | dK kvs=>obtain⟨_,_,_,_,o,_,_,e,_⟩:=x;exact ql e
 | dT kvs=>obtain⟨_,_,_,_,o,_,_,e,_⟩:=x;exact ql e
 | set S n=>obtain⟨o,_,_,_,e,_⟩:=x;exact ql e
 | ins C dx fs=>obtain⟨_,_,_,e,_⟩:=x;exact ql e
 | own y=>obtain⟨_,e⟩:=x;exact ql e
 | xd fs=>obtain⟨_,⟨_,_,_,e,_⟩,_⟩:=x;exact ql e
 | rng lo hi=>obtain⟨_,_,_,e⟩:=x;exact ql e
 | frz ob u=>obtain⟨e,_⟩:=x;exact ql e
 | tbl ps=>exact ql (show h.get? a=some _ from x)
 | met f y=>exact ql (show h.get? a=some _ from x)
 | ext φ=>obtain⟨_,⟨_,e⟩,_⟩:=x;exact ql e
theorem Paired.mapP{α β:Type}{F G:α->β->Prop}:∀{l₁:List α} {l₂:List β},Paired F l₁ l₂->(∀a b,F a b->G a b)->Paired G l₁ l₂
 | _,_,.nil,_=>.nil
 | _,_,.cons r t,f=>.cons (f _ _ r) (Paired.mapP t f)
theorem ObjOk.stay(x:ObjOk P w H h a o)(k:∀b u,(b=a\/H b=some (.own a))->h.get? b=some u->h'.get? b=some u)
 (ho:∀b,H b=some (.own a)->H' b=some (.own a)) (ht:∀b xs,H b=some (.tup xs)->H' b=some (.tup xs)):ObjOk P w H' h' a o:=by
 induction o with
 | lst xs=>obtain⟨z,its,n,r,e⟩:=x;exact⟨z,its,n,r,k _ _ (.inl rfl) e⟩
 | tup xs=>obtain⟨z,its,r,ob,e,c⟩:=x;exact⟨z,its,r,ob,k _ _ (.inl rfl) e,c⟩
 | dK kvs=>obtain⟨z,y,vs,r,ob,es,ep,e,c⟩:=x;exact⟨z,y,vs,r,ob,es,ep,k _ _ (.inl rfl) e,c⟩
 | dT kvs=>
   obtain⟨z,y,xs,r,ob,es,ep,e,c⟩:=x
   exact⟨z,y,xs,Paired.mapP r fun p q z=>⟨z.1,ht _ _ z.2.1,z.2.2⟩,ob,es,ep,k _ _ (.inl rfl) e,c⟩
 | set S n=>obtain⟨ob,es,ep,t,e,c⟩:=x;exact⟨ob,es,ep,t,k _ _ (.inl rfl) e,c⟩
 | ins C dx fs=>
   obtain⟨d,z,ne,e,mA,⟨od,es,ep,e2,c⟩,r⟩:=x
   exact⟨ho _ d,z,ne,k _ _ (.inl rfl) e,mA,⟨od,es,ep,k _ _ (.inr d) e2,c⟩,r⟩
 | own y=>obtain⟨ob,e⟩:=x;exact⟨ob,k _ _ (.inl rfl) e⟩
 | xd fs=>obtain⟨mA,⟨od,es,ep,e,c⟩,r⟩:=x;exact⟨mA,⟨od,es,ep,k _ _ (.inl rfl) e,c⟩,r⟩
 | rng lo hi=>obtain⟨t,u,v,e⟩:=x;exact⟨t,u,v,k _ _ (.inl rfl) e⟩
 | frz ob u ih=>obtain⟨e,q⟩:=x;exact⟨k _ _ (.inl rfl) e,ih q⟩
 | tbl ps=>
   have e:h.get? a=some { cls:=.none,data:=.fields ps }:=x
   show h'.get? a=some { cls:=.none,data:=.fields ps }
   exact k a _ (.inl rfl) e
 | met f y=>
   have e:h.get? a=some (W.methodObj (.ref f) (.ref y)):=x
   show h'.get? a=some (W.methodObj (.ref f) (.ref y))
   exact k a _ (.inl rfl) e
 | ext φ=>obtain⟨p,⟨o,e⟩,st⟩:=x;exact⟨st _ _ p fun o q=>k _ _ (.inl rfl) q,⟨o,k _ _ (.inl rfl) e⟩,st⟩
theorem HOk.lt(x:HOk P w H h)(e:H a=some o):a < h.objs.size:=(x a o e).lt
theorem HOk.fresh(x:HOk P w H h)(e:h.objs.size<=a):H a=none:=by
 cases q:H a with
 | none=>rfl
 | some u=>exact absurd (Qi (x.lt q) e) (Nat.lt_irrefl _)
theorem HOk.kept(x:HOk P w H h)(k:∀b u,h.get? b=some u->h'.get? b=some u):HOk P w H h':=fun a o e=>
 (x a o e).stay (fun b u _ q=>k b u q) (fun _ q=>q) fun _ _ q=>q
theorem HOk.laid(x:HOk P w H h)(k:∀b u,h.get? b=some u->h'.get? b=some u)(hp:h.objs.size<=a)(new:ObjOk P w (upd H a o) h' a o):HOk P w (upd H a o) h':=fun b u e=>by
 have hn:=x.fresh hp
 by_cases hb:b=a
 ·subst hb;rw[Yw]at e;cases e;exact new
 ·rw[Yab hb]at e
  exact(x b u e).stay (fun c v _ q=>k c v q) (fun c q=>by rw[Yab (y0 q hn)];exact q) fun c xs q=>by rw[Yab (y0 q hn)];exact q
end
def Rd(H:Hp)(a:Addr)(u:HO):Prop:=H a=some u\/∃o,H a=some (.frz o u)
theorem Rd.ok{P:Program}{w:World}{H:Hp}{h:Heap}{a:Addr}{u:HO}(r:Rd H a u)(x:HOk P w H h):ObjOk P w H h a u:=by
 rcases r with r | ⟨o,r⟩
 ·exact x a u r
 ·obtain⟨_,q⟩:=x a _ r
  exact q
def Mut:Option HO->Prop
 | some (.lst _)=>True
 | some (.dK _)=>True
 | some (.dT _)=>True
 | some (.set _ _)=>True
 | some (.ins _ _ _)=>True
 | some (.ext _)=>True
 | _=>False
section
variable {P:Program} {w:World} {H:Hp} {h h':Heap} {x e:Addr} {o':HO}
theorem HOk.write(ok:HOk P w H h)(mu:Mut (H x))(he:e=x\/H e=some (.own x))(k:∀b u,b≠e->h.get? b=some u->h'.get? b=some u)(heo:∃u,h'.get? e=some u)
 (new:ObjOk P w (upd H x o') h' x o'):HOk P w (upd H x o') h':=fun b u q=>by
 have nown:∀c y,H c=some (.own y)->c≠x:=fun c y r z=>by subst z;rw[r]at mu;exact mu
 have ntup:∀c xs,H c=some (.tup xs)->c≠x:=fun c xs r z=>by subst z;rw[r]at mu;exact mu
 by_cases hb:b=x
 ·subst hb;rw[Yw]at q;cases q;exact new
 ·rw[Yab hb]at q
  by_cases hbe:b=e
  ·have q':H b=some (.own x):=by
    rcases he with z | z
    ·exact absurd (hbe.trans z) hb
    ·rw[hbe];exact z
   rw[q]at q';cases q'
   obtain⟨v,hv⟩:=heo
   exact⟨v,by rw[hbe];exact hv⟩
  ·refine(ok b u q).stay (fun c v hc r=>k c v ?_ r) (fun c r=>by rw[Yab (nown c b r)];exact r) fun c xs r=>by rw[Yab (ntup c xs r)];exact r
   rcases hc with rfl | hc
   ·exact hbe
   ·rintro rfl
    rcases he with z | z
    ·exact nown c b hc z
    ·rw[hc]at z;cases z;exact hb rfl
end
structure Un(fs ex:List Addr)(H H':Hp)(h h':Heap):Prop where
 keep:∀b o,h.get? b=some o->H b=none->b∉fs->b∉ex->h'.get? b=some o
 slot:∀b o,h.get? b=some o->H b=none->b∈fs->b∉ex->∃sl,h'.get? b=some { o with slots:=sl }
 free:∀b o,h.get? b=some o->H b=none->b∉ex->H' b=none
 there:∀b o,h.get? b=some o->b∉ex->∃o',h'.get? b=some o'
 tups:∀b xs,H b=some (.tup xs)->H' b=some (.tup xs)
 frzs:∀b o u,H b=some (.frz o u)->H' b=some (.frz o u)
 tbls:∀b ps,H b=some (.tbl ps)->∃more,H' b=some (.tbl (ps++more))
section
variable {fs fs' ex ex':List Addr} {H H1 H2:Hp} {h h1 h2 h':Heap} {a x e:Addr} {o:HO}
theorem Un.any(u:Un fs ex H H1 h h1){b:Addr}{ob:Obj}(q:h.get? b=some ob)(n:H b=none)(hx:b∉ex):∃sl,h1.get? b=some { ob with slots:=sl }:=by
 by_cases hb:b∈fs
 ·exact u.slot b ob q n hb hx
 ·exact⟨ob.slots,u.keep b ob q n hb hx⟩
theorem Un.kept(k:∀b u,h.get? b=some u->h'.get? b=some u):Un fs ex H H h h':=
 ⟨fun b ob q _ _ _=>k b ob q,fun b ob q _ _ _=>⟨ob.slots,k b ob q⟩,fun _ _ _ n _=>n,fun b ob q _=>⟨ob,k b ob q⟩,fun _ _ q=>q,fun _ _ _ q=>q,fun _ ps q=>⟨#[],by rw[q];simp⟩⟩
theorem Un.refl:Un fs ex H H h h:=Un.kept fun _ _ q=>q
theorem Un.laid(k:∀b u,h.get? b=some u->h'.get? b=some u)(hp:h.objs.size<=a)(hn:H a=none):Un fs ex H (upd H a o) h h' where
 keep:=fun b u q _ _ _=>k b u q
 slot:=fun b u q _ _ _=>⟨u.slots,k b u q⟩
 free:=fun b u q n _=>by rw[Yab (qm (Qi (ql q) hp))];exact n
 there:=fun b u q _=>⟨u,k b u q⟩
 tups:=fun b xs q=>by rw[Yab (y0 q hn)];exact q
 frzs:=fun b u xs q=>by rw[Yab (y0 q hn)];exact q
 tbls:=fun b ps q=>⟨#[],by rw[Yab (y0 q hn),q];simp⟩
theorem Un.write(mu:Mut (H x))(he:e=x\/H e=some (.own x))(k:∀b u,b≠e->h.get? b=some u->h'.get? b=some u)(heo:∃u,h'.get? e=some u):Un fs ex H (upd H x o) h h':=by
 have hx:∀b,H b=none->b≠x:=fun b n z=>by subst z;rw[n]at mu;exact mu
 have hb:∀b,H b=none->b≠e:=fun b n z=>by
  subst z
  rcases he with r | r
  ·exact hx b n r
  ·rw[n]at r;cases r
 have hm:∀b u,H b=some u->¬Mut (some u)->b≠x:=fun b u q nm z=>by subst z;rw[q]at mu;exact nm mu
 refine⟨fun b u q n _ _=>k b u (hb b n) q,fun b u q n _ _=>⟨u.slots,k b u (hb b n) q⟩,fun b u q n _=>by rw[Yab (hx b n)];exact n,fun b u q _=>?_,
  fun b xs q=>by rw[Yab (hm b _ q fun z=>z)];exact q,fun b u xs q=>by rw[Yab (hm b _ q fun z=>z)];exact q,fun b ps q=>⟨#[],by rw[Yab (hm b _ q fun z=>z),q];simp⟩⟩
 by_cases hbe:b=e
 ·subst hbe;exact heo
 ·exact⟨u,k b u hbe q⟩
end
def trk(h:Heap)(H:Hp):List Addr:=(List.range h.objs.size).filter fun a=>(H a).isSome
def hidT(h:Heap)(H:Hp):Heap:=W.hideAll h (trk h H)
theorem Yvw(h:Heap)(H:Hp):(hidT h H).objs.size=h.objs.size:=W.hideAll_size _ _
theorem Yz2{h:Heap}{H:Hp}{b:Addr}{o:Obj}(e:h.get? b=some o)(n:H b=none):(hidT h H).get? b=some o:=
 W.hideAll_get _ e fun hm=>by
  have q:(H b).isSome=true:=(Qb hm).2
  rw[n]at q;simp at q
theorem y3b{h:Heap}{H:Hp}{b:Addr}{o:Obj}(e:(hidT h H).get? b=some o):h.get? b=some o/\H b=none:=by
 have e':h.get? b=some o:=W.of_hideAll (trk h H) e
 refine⟨e',?_⟩
 cases q:H b with
 | none=>rfl
 | some x=>
   have hm:b∈trk h H:=List.mem_filter.mpr ⟨List.mem_range.mpr (ql e'),by simp[q]⟩
   have z:(hidT h H).get? b=none:=W.hideAll_none (trk h H) hm
   rw[z]at e;cases e
end L2
namespace L2
open PySem PySem.Spec PyProof.Rows
structure Mod(K:W.Frag)(mg:Str->Option Value)(base:Heap):Prop where
 kin:K.In base
 glob:base.Ns mainGlobals mg
 blt:∃mb,base.Ns builtinsNs mb/\∀x:Str,x≠"__name__"->mb x=bootBuiltins x
 nolimit:base.NoLimit
structure Cx where
 prog:Program
 w:World
 K:W.Frag
 mg:Str->Option Value
 base:Heap
 A:Around
 N:List Str
 s₀:Shared
 H₀:Hp
 env:Env
 outer:List Env
 stack:List Env
 ex:List Addr
 fn:Str->Bool
 calm:Bool
 pn:List (Addr × Obj)
 xe:Value->Shared->Prop
def frs(l:List Env):List Addr:=l.filterMap (·.frame)
abbrev Cx.fs(X:Cx):List Addr:=frs X.outer
def Vis(sc:Scope)(x:Str):Prop:=sc.names.lookup x=some .local\/sc.names.lookup x=some .cell\/sc.names.lookup x=some .free
def Loc(sc:Scope)(x:Str):Prop:=sc.names.lookup x=some .local\/sc.names.lookup x=some .cell
def Look(env:Env)(h:Heap)(m:Str->Option Value)(x:Str)(u:Value):Prop:=
 (env.kindOf x=some .local/\m x=some u)\/((env.kindOf x=some .cell\/env.kindOf x=some .free)/\∃c,env.cells.lookup x=some c/\h.IsCell c (some u))
structure Cx.Ok(X:Cx):Prop where
 mod:Mod X.K X.mg X.base
 kind:X.env.scope.kind=.function
 glob:X.env.globals=mainGlobals
 blt:X.env.builtins=builtinsNs
 above:X.s₀.heap.objs.size<=X.env.locals
 inj:∀x y c,X.env.cells.lookup x=some c->X.env.cells.lookup y=some c->x=y
 has:∀x,(X.env.kindOf x=some .cell\/X.env.kindOf x=some .free)->∃c,X.env.cells.lookup x=some c
 cab:∀x c,X.fn x=true->X.env.cells.lookup x=some c->X.s₀.heap.objs.size<=c
 hd:X.calm=true->X.A.handled=none
 frames:X.A.frames=some X.stack
 stk:X.stack=X.outer\/(X.stack=X.env::X.outer/\X.env.frame=some X.env.locals)
 exf:∀b∈X.ex,b≠X.env.locals/\∀x c,X.env.cells.lookup x=some c->c≠b
 bs:∀b o,X.base.get? b=some o->X.s₀.heap.get? b=some o/\X.H₀ b=none
 bsz:X.base.objs.size<=X.s₀.heap.objs.size
 noex:∀b o,X.base.get? b=some o->b∉X.ex
 exfs:∀b∈X.ex,b∉X.fs
 funs:X.s₀.heap.FunFrames X.base X.outer
 frf:∀b∈X.fs,X.H₀ b=none
structure Inv(X:Cx)(pins:List (Addr × Obj))(σ:List (Option V))(H:Hp)(s:Shared):Prop where
 ok:X.Ok
 os:s.os=X.s₀.os
 bare:AllBare s.gens
 base:Un X.fs X.ex X.H₀ H X.s₀.heap s.heap
 loc:∃m,s.heap.Ns X.env.locals m/\∀(i:Nat) (x:Str) (v:V),X.N[i]?=some x->σ[i]?=some (some v)->Vis X.env.scope x->∃u,RelV v u/\Look X.env s.heap m x u
 cell:∀x c,X.env.cells.lookup x=some c->∃v,s.heap.IsCell c v
 free:H X.env.locals=none
 freeC:∀x c,X.env.cells.lookup x=some c->H c=none
 pin:∀p∈X.pn++pins,s.heap.get? p.1=some p.2/\H p.1=none/\p.1≠X.env.locals/\p.1∉X.fs/\∀v,p.2.data≠.cell v
 hok:HOk X.prog X.w H s.heap
 len:σ.length=X.N.length
section
variable {X:Cx} {pins:List (Addr × Obj)} {σ:List (Option V)} {H H':Hp} {s:Shared} {h':Heap}
theorem Cx.Ok.nofr(ok:X.Ok){b:Addr}{o:Obj}(e:X.base.get? b=some o):b∉X.fs:=fun hb=>by
 have:=(ok.funs.mem hb).1
 rw[e]at this;cases this
theorem Inv.bs(I:Inv X pins σ H s):∀b o,X.base.get? b=some o->s.heap.get? b=some o/\H b=none:=fun b o e=>
 ⟨I.base.keep b o (I.ok.bs b o e).1 (I.ok.bs b o e).2 (I.ok.nofr e) (I.ok.noex b o e),I.base.free b o (I.ok.bs b o e).1 (I.ok.bs b o e).2 (I.ok.noex b o e)⟩
theorem Inv.bk(I:Inv X pins σ H s):∀b o,X.base.get? b=some o->s.heap.get? b=some o:=fun b o e=>(I.bs b o e).1
theorem Inv.mod(I:Inv X pins σ H s):Mod X.K X.mg X.base:=I.ok.mod
theorem Inv.kIn(I:Inv X pins σ H s):X.K.In s.heap:=I.ok.mod.kin.keeps I.bk
theorem Inv.lt(I:Inv X pins σ H s):X.env.locals < s.heap.objs.size:=let ⟨_,hn,_⟩:=I.loc;hn.lt
theorem Inv.sz(I:Inv X pins σ H s):X.s₀.heap.objs.size<=s.heap.objs.size:=Qj I.ok.above (Nat.le_of_lt I.lt)
theorem Inv.nofs(I:Inv X pins σ H s){a:Addr}(h:s.heap.objs.size<=a):a∉X.fs:=fun hb=>by
 obtain⟨_,o,ho,_⟩:=I.ok.funs.mem hb
 exact absurd (Qi (ql ho) (Qj I.sz h)) (Nat.lt_irrefl _)
theorem Inv.cne(I:Inv X pins σ H s):∀x c,X.env.cells.lookup x=some c->c≠X.env.locals:=fun x c e z=>by
 obtain⟨v,o,ho,hd⟩:=I.cell x c e
 obtain⟨m,⟨o',es,ep,ho',hd',_⟩,_⟩:=I.loc
 rw[z,ho']at ho;cases ho;rw[hd']at hd;cases hd
theorem Inv.funs(I:Inv X pins σ H s):s.heap.FunFrames X.base X.outer:=by
 have all:∀(l:List Env),(∀b∈frs l,b∈X.fs)->X.s₀.heap.FunFrames X.base l->s.heap.FunFrames X.base l:=by
  intro l
  induction l with
  | nil=>intro _ _;trivial
  | cons env r ih=>
    intro hs hl
    obtain⟨hk,⟨L,o,hf,hn,ho,hd⟩,hr⟩:=hl
    have hL:L∈X.fs:=hs L (by unfold frs;rw[List.filterMap_cons,hf];exact qh)
    obtain⟨sl,e⟩:=I.base.slot L o ho (I.ok.frf L hL) hL fun z=>I.ok.exfs L z hL
    exact⟨hk,⟨L,_,hf,hn,e,hd⟩,ih (fun b hb=>hs b (by unfold frs;rw[List.filterMap_cons,hf];exact qg _ hb)) hr⟩
 exact all X.outer (fun _ hb=>hb) I.ok.funs
theorem Inv.stack(I:Inv X pins σ H s):s.heap.FunFrames X.base X.stack:=by
 rcases I.ok.stk with e | ⟨e,hf⟩
 ·rw[e];exact I.funs
 ·rw[e]
  obtain⟨m,hn,_⟩:=I.loc
  refine .cons (by rw[I.ok.kind];decide) hf hn ?_ I.funs
  exact Heap.get?_none_of_le (Qj I.ok.bsz I.ok.above)
theorem Inv.stkSub(I:Inv X pins σ H s):∀b∈frs X.stack,b∈X.env.locals::X.fs:=fun b hb=>by
 rcases I.ok.stk with e | ⟨e,hf⟩
 ·rw[e]at hb;exact qg _ hb
 ·rw[e]at hb
  unfold frs at hb
  rw[List.filterMap_cons,hf]at hb
  exact hb
theorem Inv.stkFree(I:Inv X pins σ H s):∀b∈frs X.stack,H b=none:=fun b hb=>by
 rcases qt (I.stkSub b hb)with e | hb
 ·rw[e];exact I.free
 ·obtain⟨_,o,ho,_⟩:=I.ok.funs.mem hb
  exact I.base.free b o ho (I.ok.frf b hb) fun z=>I.ok.exfs b z hb
theorem Inv.step{g':Array GenState}{t':Nat}{d':Drawn}{ch:List Addr}(I:Inv X pins σ H s)
 (hch:∀b∈ch,(b∈X.ex\/X.s₀.heap.objs.size<=b)/\b≠X.env.locals/\(∀x c,X.env.cells.lookup x=some c->c≠b)/\∀p∈X.pn++pins,p.1≠b)
 (keep:∀b o,b≠X.env.locals->b∉X.fs->b∉ch->s.heap.get? b=some o->H b=none->h'.get? b=some o)
 (slot:∀b o,b≠X.env.locals->b∈X.fs->b∉ch->s.heap.get? b=some o->H b=none->∃sl,h'.get? b=some { o with slots:=sl }) (free:∀b o,b∉ch->s.heap.get? b=some o->H b=none->H' b=none)
 (there:∀b o,b∉ch->s.heap.get? b=some o->∃o',h'.get? b=some o')
 (tups:∀b xs,H b=some (.tup xs)->H' b=some (.tup xs)) (frzs:∀b o u,H b=some (.frz o u)->H' b=some (.frz o u)) (tbls:∀b ps,H b=some (.tbl ps)->∃more,H' b=some (.tbl (ps++more)))
 (ns:∀m,s.heap.Ns X.env.locals m->h'.Ns X.env.locals m) (hok:HOk X.prog X.w H' h') (hg:AllBare g') :
 Inv X pins σ H' { s with heap:=h',gens:=g',drawn:=d',toks:=t' }:=by
 have neL:∀b o,X.s₀.heap.get? b=some o->b≠X.env.locals:=fun b o e=>qm (Qi (ql e) I.ok.above)
 have neC:∀b o,X.s₀.heap.get? b=some o->b∉X.ex->b∉ch:=fun b o e hx hb=>by
  rcases(hch b hb).1 with z | z
  ·exact hx z
  ·exact absurd (Qi (ql e) z) (Nat.lt_irrefl _)
 have cellK:∀x c,X.env.cells.lookup x=some c->∀v,s.heap.IsCell c v->h'.IsCell c v:=fun x c e v hx_=>by
  obtain⟨o,ho,hd⟩:=hx_
  have nch:c∉ch:=fun z=>(hch c z).2.2.1 x c e rfl
  by_cases hc:c∈X.fs
  ·obtain⟨sl,q⟩:=slot c o (I.cne x c e) hc nch ho (I.freeC x c e)
   exact⟨_,q,hd⟩
  ·exact⟨o,keep c o (I.cne x c e) hc nch ho (I.freeC x c e),hd⟩
 refine⟨I.ok,I.os,hg,⟨fun b o e n hb hx=>?_,fun b o e n hb hx=>?_,fun b o e n hx=>?_,fun b o e hx=>?_,fun b xs e=>tups b xs (I.base.tups b xs e),fun b o xs e=>frzs b o xs (I.base.frzs b o xs e),fun b ps e=>?_⟩,?_,fun x c e=>?_,?_,fun x c e=>?_,fun p hp=>?_,hok,I.len⟩
 ·exact keep b o (neL b o e) hb (neC b o e hx) (I.base.keep b o e n hb hx) (I.base.free b o e n hx)
 ·obtain⟨sl,e1⟩:=I.base.slot b o e n hb hx
  obtain⟨sl',e2⟩:=slot b _ (neL b o e) hb (neC b o e hx) e1 (I.base.free b o e n hx)
  exact⟨sl',e2⟩
 ·obtain⟨o',e1⟩:=I.base.there b o e hx
  exact free b o' (neC b o e hx) e1 (I.base.free b o e n hx)
 ·obtain⟨o',e1⟩:=I.base.there b o e hx
  exact there b o' (neC b o e hx) e1
 ·obtain⟨m1,e1⟩:=I.base.tbls b ps e
  obtain⟨m2,e2⟩:=tbls b _ e1
  exact⟨m1++m2,by rw[e2,Array.append_assoc]⟩
 ·obtain⟨m,hn,hl⟩:=I.loc
  refine⟨m,ns m hn,fun i x v e1 e2 e3=>?_⟩
  obtain⟨u,r,l⟩:=hl i x v e1 e2 e3
  refine⟨u,r,?_⟩
  rcases l with l | ⟨k,c,e,z⟩
  ·exact .inl l
  ·exact .inr ⟨k,c,e,cellK x c e _ z⟩
 ·obtain⟨v,z⟩:=I.cell x c e
  exact⟨v,cellK x c e v z⟩
 ·obtain⟨m,⟨o,_,_,ho,_⟩,_⟩:=I.loc
  exact free _ o (fun z=>(hch _ z).2.1 rfl) ho I.free
 ·obtain⟨v,o,ho,hd⟩:=I.cell x c e
  exact free c o (fun z=>(hch c z).2.2.1 x c e rfl) ho (I.freeC x c e)
 ·obtain⟨e,n,ne,nf,d⟩:=I.pin p hp
  have nch:p.1∉ch:=fun z=>(hch p.1 z).2.2.2 p hp rfl
  exact⟨keep p.1 p.2 ne nf nch e n,free p.1 p.2 nch e n,ne,nf,d⟩
theorem Inv.un{t':Nat}(I:Inv X pins σ H s)(u:Un X.fs [] H H' s.heap h')(hok:HOk X.prog X.w H' h'):Inv X pins σ H' { s with heap:=h',toks:=t' }:=by
 obtain⟨m,⟨o,es,ep,ho,r⟩,_⟩:=id I.loc
 obtain⟨sl,hL⟩:=u.any ho I.free (by simp)
 exact I.step (g':=s.gens) (d':=s.drawn) (ch:=[]) (fun _ z=>nomatch z) (fun b o _ hb _ e n=>u.keep b o e n hb (by simp)) (fun b o _ hb _ e n=>u.slot b o e n hb (by simp)) (fun b o _ e n=>u.free b o e n (by simp)) (fun b o _ e=>u.there b o e (by simp)) u.tups u.frzs u.tbls (fun m' hm=>by
  obtain⟨o',es',ep',ho',r'⟩:=hm
  rw[ho]at ho';cases ho'
  exact⟨_,es',ep',hL,r'⟩) hok I.bare
theorem Inv.call{g':Array GenState}{t':Nat}{d':Drawn}{ch:List Addr}(I:Inv X pins σ H s)(u:Un (frs X.stack) ch H H' s.heap h')(hok:HOk X.prog X.w H' h')(hg:AllBare g')
 (hch:∀b∈ch,(b∈X.ex\/X.s₀.heap.objs.size<=b)/\b≠X.env.locals/\(∀x c,X.env.cells.lookup x=some c->c≠b)/\∀p∈X.pn++pins,p.1≠b) :
 Inv X pins σ H' { s with heap:=h',gens:=g',drawn:=d',toks:=t' }:=by
 obtain⟨m,⟨o,es,ep,ho,r⟩,_⟩:=id I.loc
 obtain⟨sl,hL⟩:=u.any ho I.free fun z=>(hch _ z).2.1 rfl
 exact I.step (ch:=ch) hch (fun b o hL hb hc e n=>u.keep b o e n (fun z=>(qt (I.stkSub b z)).elim hL hb) hc) (fun b o _ _ hc e n=>u.any e n hc) (fun b o hc e n=>u.free b o e n hc) (fun b o hc e=>u.there b o e hc) u.tups u.frzs u.tbls (fun m' hm=>by
  obtain⟨o',es',ep',ho',r'⟩:=hm
  rw[ho]at ho';cases ho'
  exact⟨_,es',ep',hL,r'⟩) hok hg
theorem Inv.turned{t':Nat}{it:Addr}(I:Inv X pins σ H s)(k:∀b o,b≠it->s.heap.get? b=some o->h'.get? b=some o)(hn:H it=none)(hL:it≠X.env.locals)
 (h1:it∈X.ex\/X.s₀.heap.objs.size<=it) (h2:∀x c,X.env.cells.lookup x=some c->c≠it) (h3:∀p∈X.pn++pins,p.1≠it):Inv X pins σ H { s with heap:=h',toks:=t' }:=by
 have nit:∀b u,H b=some u->b≠it:=fun b u e z=>by rw[z,hn]at e;cases e
 refine I.step (g':=s.gens) (d':=s.drawn) (ch:=[it]) (fun b hb=>?_) (fun b o _ _ hc e _=>k b o (fun z=>hc (by simp[z])) e) (fun b o _ _ hc e _=>⟨o.slots,k b o (fun z=>hc (by simp[z])) e⟩) (fun _ _ _ _ n=>n)
  (fun b o hc e=>⟨o,k b o (fun z=>hc (by simp[z])) e⟩) (fun _ _ e=>e) (fun _ _ _ e=>e) (fun b ps e=>⟨#[],by rw[e];simp⟩) (fun m hm=>?_) (fun b u e=>?_) I.bare
 ·have e:b=it:=by simpa using hb
  subst e
  exact⟨h1,hL,h2,h3⟩
 ·obtain⟨o,es,ep,ho,r⟩:=hm
  exact⟨o,es,ep,k _ o (Ne.symm hL) ho,r⟩
 ·refine(I.hok b u e).stay (fun c v hc q=>k c v ?_ q) (fun _ q=>q) fun _ _ q=>q
  rcases hc with z | z
  ·rw[z];exact nit b u e
  ·exact nit c _ z
theorem Inv.tok(I:Inv X pins σ H s)(t:Nat):Inv X pins σ H { s with toks:=t }:=I.un (h':=s.heap) (t':=t) Un.refl I.hok
theorem Inv.kept{t':Nat}(I:Inv X pins σ H s)(k:∀b u,s.heap.get? b=some u->h'.get? b=some u):Inv X pins σ H { s with heap:=h',toks:=t' }:=I.un (Un.kept k) (I.hok.kept k)
theorem Inv.laid{a:Addr}{o:HO}{t':Nat}(I:Inv X pins σ H s)(k:∀b u,s.heap.get? b=some u->h'.get? b=some u)(hp:s.heap.objs.size<=a)(new:ObjOk X.prog X.w (upd H a o) h' a o) :
 Inv X pins σ (upd H a o) { s with heap:=h',toks:=t' }:=I.un (Un.laid k hp (I.hok.fresh hp)) (I.hok.laid k hp new)
theorem Inv.write{x e:Addr}{o:HO}{t':Nat}(I:Inv X pins σ H s)(mu:Mut (H x))(he:e=x\/H e=some (.own x))(k:∀b u,b≠e->s.heap.get? b=some u->h'.get? b=some u)(heo:∃u,h'.get? e=some u)
 (new:ObjOk X.prog X.w (upd H x o) h' x o):Inv X pins σ (upd H x o) { s with heap:=h',toks:=t' }:=I.un (Un.write mu he k heo) (I.hok.write mu he k heo new)
theorem Inv.pins_of{pins':List (Addr × Obj)}(I:Inv X pins σ H s)(h:∀p∈pins',s.heap.get? p.1=some p.2/\H p.1=none/\p.1≠X.env.locals/\p.1∉X.fs/\∀v,p.2.data≠.cell v):Inv X pins' σ H s:=
 ⟨I.ok,I.os,I.bare,I.base,I.loc,I.cell,I.free,I.freeC,fun p hp=>(qv hp).elim (fun z=>I.pin p (List.mem_append_left _ z)) (h p),I.hok,I.len⟩
theorem Yta{N:List Str}(hN:N.Nodup){i j:Nat}{x:Str}(a:N[i]?=some x)(b:N[j]?=some x):i=j:=by
 obtain⟨h1,e1⟩:=qo a
 obtain⟨h2,e2⟩:=qo b
 exact(List.getElem_inj hN).mp (e1.trans e2.symm)
theorem Ypc{M:Model}{A:Around}{E:Value->Shared->Prop}{i:Nat}{x:Str}{v:V}{u:Value}{Q:Unit->Shared->Prop}(I:Inv X pins σ H s)(hN:X.N.Nodup)(hi:X.N[i]?=some x)(hx:Loc X.env.scope x)(r:RelV v u)
 (h:∀s',Inv X pins (σ.set i (some v)) H s'->(∃a,Heap.SameBut a s.heap s'.heap/\(a=X.env.locals\/X.env.cells.lookup x=some a))->Q () s') (hf:X.fn x=true\/X.env.scope.names.lookup x=some .local:=by first | exact .inl rfl | exact .inr rfl | assumption):wpAny M A (storeName X.env x u) Q E s:=by
 obtain⟨m,hn,hl⟩:=id I.loc
 have hcls:(X.env.scope.kind==.class||(X.env.scope.kind==.module&&X.env.locals != X.env.globals))=false:=by rw[I.ok.kind];rfl
 have hiσ:i < σ.length:=by rw[I.len];exact(qo hi).1
 have cne:=I.cne
 have tracked:∀{a:Addr} {h':Heap},(∃o,s.heap.get? a=some o/\H a=none)->Heap.SameBut a s.heap h'->HOk X.prog X.w H h':=fun {a h'} ha hs b ob e=>by
  obtain⟨_,_,hfree⟩:=ha
  refine(I.hok b ob e).stay (fun c w' hc q=>(hs.2 c ?_).trans q) (fun _ q=>q) fun _ _ q=>q
  rintro rfl
  rcases hc with rfl | hc
  ·rw[hfree]at e;cases e
  ·rw[hfree]at hc;cases hc
 rcases hx with hk | hk
 ·refine wpAny_storeName_local hk hn (fun h' hn' hs=>?_) hcls
  obtain⟨oL,_,_,hoL,_⟩:=id hn
  refine h _ ⟨I.ok,I.os,I.bare,⟨fun b o e n hb hx=>?_,fun b o e n hb hx=>?_,I.base.free,fun b o e hx=>?_,I.base.tups,I.base.frzs,I.base.tbls⟩,⟨_,hn',fun j y v' e1 e2 e3=>?_⟩,fun y c e=>?_,I.free,I.freeC,fun p hp=>?_,tracked ⟨oL,hoL,I.free⟩ hs,by simpa using I.len⟩ ⟨_,hs,.inl rfl⟩
  ·exact(hs.2 b (qm (Qi (ql e) I.ok.above))).trans (I.base.keep b o e n hb hx)
  ·obtain⟨sl,e1⟩:=I.base.slot b o e n hb hx
   exact⟨sl,(hs.2 b (qm (Qi (ql e) I.ok.above))).trans e1⟩
  ·obtain⟨o',e1⟩:=I.base.there b o e hx
   exact⟨o',(hs.2 b (qm (Qi (ql e) I.ok.above))).trans e1⟩
  ·by_cases hj:j=i
   ·subst hj
    rw[hi]at e1;cases e1
    rw[Qp hiσ]at e2
    cases e2
    exact⟨u,r,.inl ⟨hk,by simp⟩⟩
   ·rw[Qe (Ne.symm hj)]at e2
    obtain⟨u',r',q⟩:=hl j y v' e1 e2 e3
    refine⟨u',r',?_⟩
    rcases q with⟨k,e⟩ | ⟨k,c,e,z⟩
    ·refine .inl ⟨k,?_⟩
     have:y≠x:=fun e=>hj (Yta hN e1 (e ▸ hi))
     simp[this,e]
    ·exact .inr ⟨k,c,e,z.sameBut hs (cne y c e)⟩
  ·obtain⟨w',z⟩:=I.cell y c e
   exact⟨w',z.sameBut hs (cne y c e)⟩
  ·obtain⟨e,n,ne,nf,d⟩:=I.pin p hp
   exact⟨(hs.2 p.1 ne).trans e,n,ne,nf,d⟩
 ·have hfn:X.fn x=true:=by
   rcases hf with z | z
   ·exact z
   ·rw[z]at hk;cases hk
  obtain⟨c,hc⟩:=I.ok.has x (.inl hk)
  obtain⟨w',z⟩:=I.cell x c hc
  refine wpAny_storeName_cell I.ok.kind hk hc z (fun h' hc' hs=>?_)
  obtain⟨oc,hoc,hocd⟩:=id z
  refine h { s with heap:=h' } ⟨I.ok,I.os,I.bare,⟨fun b o e n hb hx=>?_,fun b o e n hb hx=>?_,I.base.free,fun b o e hx=>?_,I.base.tups,I.base.frzs,I.base.tbls⟩,⟨m,hn.sameBut hs (Ne.symm (cne x c hc)),fun j y v' e1 e2 e3=>?_⟩,fun y c' e=>?_,I.free,I.freeC,fun p hp=>?_,tracked ⟨oc,hoc,I.freeC x c hc⟩ hs,by simpa using I.len⟩ ⟨c,hs,.inr hc⟩
  ·exact(hs.2 b (qm (Qi (ql e) (I.ok.cab x c hfn hc)))).trans (I.base.keep b o e n hb hx)
  ·obtain⟨sl,e1⟩:=I.base.slot b o e n hb hx
   exact⟨sl,(hs.2 b (qm (Qi (ql e) (I.ok.cab x c hfn hc)))).trans e1⟩
  ·obtain⟨o',e1⟩:=I.base.there b o e hx
   exact⟨o',(hs.2 b (qm (Qi (ql e) (I.ok.cab x c hfn hc)))).trans e1⟩
  ·by_cases hj:j=i
   ·subst hj
    rw[hi]at e1;cases e1
    rw[Qp hiσ]at e2
    cases e2
    exact⟨u,r,.inr ⟨.inl hk,c,hc,hc'⟩⟩
   ·rw[Qe (Ne.symm hj)]at e2
    obtain⟨u',r',q⟩:=hl j y v' e1 e2 e3
    refine⟨u',r',?_⟩
    rcases q with q | ⟨k,c',e,z'⟩
    ·exact .inl q
    ·refine .inr ⟨k,c',e,z'.sameBut hs ?_⟩
     rintro rfl
     exact hj (Yta hN e1 (I.ok.inj _ _ _ e hc ▸ hi))
  ·by_cases hcc:c'=c
   ·subst hcc;exact⟨_,hc'⟩
   ·obtain⟨w2,z2⟩:=I.cell y c' e
    exact⟨w2,z2.sameBut hs hcc⟩
  ·obtain⟨e,n,ne,nf,d⟩:=I.pin p hp
   refine⟨(hs.2 p.1 ?_).trans e,n,ne,nf,d⟩
   intro q
   rw[q,hoc]at e
   have q':oc=p.2:=Option.some.inj e
   exact d w' (by rw[<-q'];exact hocd)
theorem Ym4{M:Model}{A:Around}{E:Value->Shared->Prop}{i:Nat}{x:Str}{v:V}{u:Value}{Q:Unit->Shared->Prop}(I:Inv X pins σ H s)(hN:X.N.Nodup)(hi:X.N[i]?=some x)(hx:Loc X.env.scope x)(r:RelV v u)
 (h:∀s',Inv X pins (σ.set i (some v)) H s'->Q () s') (hf:X.fn x=true\/X.env.scope.names.lookup x=some .local:=by first | exact .inl rfl | exact .inr rfl | assumption):wpAny M A (storeName X.env x u) Q E s:=
 Ypc I hN hi hx r (fun s' I' _=>h s' I') hf
theorem Inv.call'{s':Shared}{ch:List Addr}(I:Inv X pins σ H s)(ho:s'.os=s.os)(u:Un (frs X.stack) ch H H' s.heap s'.heap)(hok:HOk X.prog X.w H' s'.heap)(hg:AllBare s'.gens)
 (hch:∀b∈ch,(b∈X.ex\/X.s₀.heap.objs.size<=b)/\b≠X.env.locals/\(∀x c,X.env.cells.lookup x=some c->c≠b)/\∀p∈X.pn++pins,p.1≠b):Inv X pins σ H' s':=by
 obtain⟨h',g',d',t',o'⟩:=s'
 have e:o'=s.os:=ho
 subst e
 exact I.call (g':=g') (t':=t') (d':=d') u hok hg hch
end
abbrev XK:=Value->Option Addr->Hp->Prop
abbrev St:=List (Option V)
abbrev VK:=V->Hp->Prop
abbrev TE:=St->Hp->VK->Prop
abbrev TT:=St->Hp->(Bool->Hp->Prop)->Prop
abbrev TA:=St->Hp->(List V->Hp->Prop)->Prop
structure Ends where
 nx:St->Hp->Prop
 rt:VK
 bk:St->Hp->Prop:=fun _ _=>False
 ct:St->Hp->Prop:=fun _ _=>False
abbrev TS:=Ends->St->Hp->Prop
def EP(X:Cx)(pins:List (Addr × Obj))(σ:St)(Q:VK)(u:Value)(s':Shared):Prop:=∃v H',Inv X pins σ H' s'/\RelV v u/\Q v H'
def TP(X:Cx)(pins:List (Addr × Obj))(σ:St)(Q:Bool->Hp->Prop)(b:Bool)(s':Shared):Prop:=∃H',Inv X pins σ H' s'/\Q b H'
def AP(X:Cx)(pins:List (Addr × Obj))(σ:St)(Q:List V->Hp->Prop)(us:List Value)(s':Shared):Prop:=∃vs H',Inv X pins σ H' s'/\Vals vs us/\Q vs H'
def SP(X:Cx)(pins:List (Addr × Obj))(D:Ends)(f:Flow)(s':Shared):Prop:=
 match f with
 | .next=>∃σ' H',Inv X pins σ' H' s'/\D.nx σ' H'
 | .brk=>∃σ' H',Inv X pins σ' H' s'/\D.bk σ' H'
 | .cont=>∃σ' H',Inv X pins σ' H' s'/\D.ct σ' H'
 | .ret u=>∃v σ' H',Inv X pins σ' H' s'/\RelV v u/\D.rt v H'
def PE(X:Cx)(e:Expr)(t:TE):Prop:=
 ∀(pins:List (Addr × Obj)) (s:Shared) (σ:St) (H:Hp) (Q:VK),Inv X pins σ H s->t σ H Q->wpAny (model X.prog X.w) X.A (eval e X.env) (EP X pins σ Q) X.xe s
def PT(X:Cx)(e:Expr)(t:TT):Prop:=
 ∀(pins:List (Addr × Obj)) (s:Shared) (σ:St) (H:Hp) (Q:Bool->Hp->Prop),Inv X pins σ H s->t σ H Q->wpAny (model X.prog X.w) X.A (isTrue e X.env (eval e X.env)) (TP X pins σ Q) X.xe s
def PW(X:Cx)(e:Expr)(t:TT):Prop:=
 ∀(whole:Sem Value) (pins:List (Addr × Obj)) (s:Shared) (σ:St) (H:Hp) (Q:Bool->Hp->Prop),Inv X pins σ H s->t σ H Q->wpAny (model X.prog X.w) X.A (isTrue e X.env whole) (TP X pins σ Q) X.xe s
theorem PW.pt{X:Cx}{e:Expr}{t:TT}(h:PW X e t):PT X e t:=h _
def PA(X:Cx)(es:List Expr)(t:TA):Prop:=
 ∀(pos:Pos) (pins:List (Addr × Obj)) (s:Shared) (σ:St) (H:Hp) (Q:List V->Hp->Prop),Inv X pins σ H s->t σ H Q->wpAny (model X.prog X.w) X.A (spliced (backTo pos (starEach es X.env))) (AP X pins σ Q) X.xe s
def PS(X:Cx)(st:Stmt)(t:TS):Prop:=
 ∀(pins:List (Addr × Obj)) (s:Shared) (σ:St) (H:Hp) (D:Ends),Inv X pins σ H s->t D σ H->wpAny (model X.prog X.w) X.A (exec st X.env) (SP X pins D) X.xe s
def PSs(X:Cx)(st:List Stmt)(t:TS):Prop:=
 ∀(pins:List (Addr × Obj)) (s:Shared) (σ:St) (H:Hp) (D:Ends),Inv X pins σ H s->t D σ H->wpAny (model X.prog X.w) X.A (execs st X.env) (SP X pins D) X.xe s
theorem thn{α:Type}{t:Sem α}{Q Q':α->Shared->Prop}{M:Model}{A:Around}{E:Value->Shared->Prop}{s:Shared}(h:wpAny M A t Q E s)(hQ:∀a s,Q a s->Q' a s):wpAny M A t Q' E s:=wpAny_mono h hQ fun _ _ x=>x
end L2
namespace L2
open PySem PySem.Spec PyProof.Rows
section
variable {X:Cx}
def tVar(i:Nat):TE:=fun σ H Q=>∃v,σ[i]?=some (some v)/\Q v H
def tC(v:V):TE:=fun _ H Q=>Q v H
theorem Yme{i:Nat}{x:Str}{pos:Pos}(hN:X.N[i]?=some x)(hv:Vis X.env.scope x)(hd:(x==("__debug__":Str))=false:=by decide)(hcd:(x==("__classdict__":Str))=false:=by decide):PE X (.Name x pos) (tVar i):=by
 intro pins s σ H Q I h
 obtain⟨v,e,h⟩:=h
 obtain⟨m,hn,hl⟩:=I.loc
 obtain⟨u,r,l⟩:=hl i x v hN e hv
 have fin:EP X pins σ Q u s:=⟨v,H,I,r,h⟩
 rcases l with⟨hk,hm⟩ | ⟨hk,c,hc,hcell⟩
 ·exact wpAny_Name (wpAny_loadName_local I.ok.kind hk hn hm fin) hd
 ·rcases hk with hk | hk
  ·exact wpAny_Name (wpAny_loadName_cell I.ok.kind hk hc hcell fin) hd
  ·exact wpAny_Name (wpAny_loadName_free I.ok.kind hk hc hcell fin hcd) hd
theorem y57{i j pos}:PE X (.Constant (.int i) j pos) (tC (.int i)):=fun _ _ _ H _ I h=>wpAny_Constant_int ⟨.int i,H,I.tok _,⟨_,rfl⟩,h⟩
theorem y9n{b j pos}:PE X (.Constant (.bool b) j pos) (tC (.bl b)):=fun _ _ _ H _ I h=>Constant_bool ⟨.bl b,H,I,rfl,h⟩
theorem y58{j pos}:PE X (.Constant .none j pos) (tC .non):=fun _ _ _ H _ I h=>Constant_none ⟨.non,H,I,rfl,h⟩
theorem y59{x j pos}:PE X (.Constant (.str x) j pos) (tC (.str x)):=fun _ _ _ H _ I h=>Calls.Constant_str ⟨.str x,H,I.tok _,⟨_,rfl⟩,h⟩
def Gl(X:Cx)(x:Str):Prop:=X.env.kindOf x=some .globalImplicit
theorem Yvx{E:Value->Shared->Prop}{pins:List (Addr × Obj)}{s:Shared}{σ:St}{H:Hp}{x:Str}{u:Value}{pos:Pos}{Q:Value->Shared->Prop}(I:Inv X pins σ H s)(hg:Gl X x)(hm:X.mg x=some u)(h:Q u s)
 (hd:(x==("__debug__":Str))=false:=by decide):wpAny (model X.prog X.w) X.A (eval (.Name x pos) X.env) Q E s:=
 Calls.Name_function_global I.ok.kind hg (Calls.loadGlobal_global (by rw[I.ok.glob];exact I.mod.glob.keeps I.bk) hm h) hd
theorem Yj7{E:Value->Shared->Prop}{pins:List (Addr × Obj)}{s:Shared}{σ:St}{H:Hp}{x:Str}{u:Value}{pos:Pos}{Q:Value->Shared->Prop}(I:Inv X pins σ H s)(hg:Gl X x)(hm:X.mg x=none)(hv:bootBuiltins x=some u)(h:Q u s)
 (hn:x≠"__name__":=by decide) (hd:(x==("__debug__":Str))=false:=by decide):wpAny (model X.prog X.w) X.A (eval (.Name x pos) X.env) Q E s:=by
 obtain⟨mb,h1,h2⟩:=I.mod.blt
 exact Calls.Name_function_global I.ok.kind hg (Calls.loadGlobal_builtin (by rw[I.ok.glob];exact I.mod.glob.keeps I.bk) hm (by rw[I.ok.blt];exact h1.keeps I.bk) ((h2 x hn).trans hv) h) hd
theorem y3c{x:Str}{v:V}{u:Value}{pos:Pos}(hg:Gl X x)(hm:X.mg x=none)(hv:bootBuiltins x=some u)(r:RelV v u)(hn:x≠"__name__":=by decide)(hd:(x==("__debug__":Str))=false:=by decide):PE X (.Name x pos) (tC v):=
 fun _ _ _ H _ I h=>Yj7 I hg hm hv ⟨v,H,I,r,h⟩ hn hd
variable {a b:Expr} {ta tb:TE} {pos:Pos}
variable {tA tB':TT} {rest:List Expr}
def tAnd(t u:TT):TT:=fun σ H Q=>t σ H fun c H1=>if c=true then u σ H1 Q else Q false H1
def tOr(t u:TT):TT:=fun σ H Q=>t σ H fun c H1=>if c=true then Q true H1 else u σ H1 Q
def tNot(t:TT):TT:=fun σ H Q=>t σ H fun c H1=>Q (!c) H1
theorem y3d(ha:PT X a tA):PW X (.BoolOp .And [a] pos) tA:=by
 intro wh pins s σ H Q I h
 refine isTrue_and (thn (ha pins s σ H Q I h) fun c s1 e=>?_)
 cases c with
 | true=>exact isTrue_and_nil e
 | false=>exact e
theorem y6a(ha:PT X a tA):PW X (.BoolOp .Or [a] pos) tA:=by
 intro wh pins s σ H Q I h
 refine isTrue_or (thn (ha pins s σ H Q I h) fun c s1 e=>?_)
 cases c with
 | false=>exact isTrue_or_nil e
 | true=>exact e
theorem y6b(ha:PT X a tA)(hb:PW X (.BoolOp .And (b::rest) pos) tB'):PW X (.BoolOp .And (a::b::rest) pos) (tAnd tA tB'):=by
 intro wh pins s σ H Q I h
 refine isTrue_and (thn (ha pins s σ H _ I h) fun c s1 hx_=>?_)
 obtain⟨H1,I1,q1⟩:=hx_
 cases c with
 | true=>exact hb wh pins s1 σ H1 Q I1 q1
 | false=>exact⟨H1,I1,q1⟩
theorem y9o(ha:PT X a tA)(hb:PW X (.BoolOp .Or (b::rest) pos) tB'):PW X (.BoolOp .Or (a::b::rest) pos) (tOr tA tB'):=by
 intro wh pins s σ H Q I h
 refine isTrue_or (thn (ha pins s σ H _ I h) fun c s1 hx_=>?_)
 obtain⟨H1,I1,q1⟩:=hx_
 cases c with
 | true=>exact⟨H1,I1,q1⟩
 | false=>exact hb wh pins s1 σ H1 Q I1 q1
theorem y6c(ha:PT X a tA):PT X (.UnaryOp .Not a pos) (tNot tA):=by
 intro pins s σ H Q I h
 exact isTrue_not (ha pins s σ H (fun c H1=>Q (!c) H1) I h)
def y9p(ta tb:TE):TE:=fun σ H Q=>ta σ H fun x H1=>∃c,x=.bl c/\if c=true then tb σ H1 Q else Q (.bl false) H1
def tOrV(ta tb:TE):TE:=fun σ H Q=>ta σ H fun x H1=>∃c,x=.bl c/\if c=true then Q (.bl true) H1 else tb σ H1 Q
def y9q(ta:TE):TE:=fun σ H Q=>ta σ H fun x H1=>∃c,x=.bl c/\Q (.bl (!c)) H1
theorem y19{op}{t:TE}(h:PE X a t):PE X (.BoolOp op [a] pos) t:=fun pins s σ H Q I hw=>BoolOp_one (h pins s σ H Q I hw)
theorem y6d(ha:PE X a ta)(hb:PE X (.BoolOp .And (b::rest) pos) tb):PE X (.BoolOp .And (a::b::rest) pos) (y9p ta tb):=by
 intro pins s σ H Q I h
 refine BoolOp_and (thn (ha pins s σ H _ I h) fun v s1 hx_=>?_)
 obtain⟨x,H1,I1,r1,q1⟩:=hx_
 obtain⟨c,rfl,q1⟩:=q1
 cases r1
 refine wpAny_truthy_bool ?_
 cases c with
 | true=>exact hb pins s1 σ H1 Q I1 q1
 | false=>exact⟨.bl false,H1,I1,rfl,q1⟩
theorem y9r(ha:PE X a ta)(hb:PE X (.BoolOp .Or (b::rest) pos) tb):PE X (.BoolOp .Or (a::b::rest) pos) (tOrV ta tb):=by
 intro pins s σ H Q I h
 refine BoolOp_or (thn (ha pins s σ H _ I h) fun v s1 hx_=>?_)
 obtain⟨x,H1,I1,r1,q1⟩:=hx_
 obtain⟨c,rfl,q1⟩:=q1
 cases r1
 refine wpAny_truthy_bool ?_
 cases c with
 | false=>exact hb pins s1 σ H1 Q I1 q1
 | true=>exact⟨.bl true,H1,I1,rfl,q1⟩
theorem y6e(ha:PE X a ta):PE X (.UnaryOp .Not a pos) (y9q ta):=by
 intro pins s σ H Q I h
 refine UnaryOp_ (thn (ha pins s σ H _ I h) fun v s1 hx_=>?_)
 obtain⟨x,H1,I1,r1,q1⟩:=hx_
 obtain⟨c,rfl,q1⟩:=q1
 cases r1
 exact not_of (wpAny_truthy_bool ⟨.bl (!c),H1,I1,rfl,q1⟩)
def tIf(t:TT)(ta tb:TE):TE:=fun σ H Q=>t σ H fun c H1=>if c=true then ta σ H1 Q else tb σ H1 Q
theorem Yz3{c:Expr}(hc:PT X c tA)(ha:PE X a ta)(hb:PE X b tb):PE X (.IfExp c a b pos) (tIf tA ta tb):=by
 intro pins s σ H Q I h
 refine wpAny_IfExp (thn (hc pins s σ H _ I h) fun d s1 hx_=>?_)
 obtain⟨H1,I1,q1⟩:=hx_
 cases d with
 | true=>exact ha pins s1 σ H1 Q I1 q1
 | false=>exact hb pins s1 σ H1 Q I1 q1
end
end L2
namespace L2
open PySem PySem.Spec PyProof.Rows
def SqL(K:W.Frag)(H:Hp)(a:Addr)(xs:List V):Prop:=
 Rd H a (.lst xs)\/
  ∃(o:Obj) (its:Array Value) (n:Nat),K.lookup a=some o/\o.cls=.type "list"/\o.dict=none/\o.data=.seq its n/\its.size<=sizeLine/\Vals xs its.toList
def SqT(K:W.Frag)(H:Hp)(a:Addr)(xs:List V):Prop:=
 Rd H a (.tup xs)\/
  ∃(o:Obj) (its:Array Value) (n:Nat),K.lookup a=some o/\o.cls=.type "tuple"/\o.data=.seq its n/\its.size<=sizeLine/\Vals xs its.toList
def absV:Value->Option V
 | .none=>some .non
 | .bool b=>some (.bl b)
 | .int i _=>some (.int i)
 | .str x _=>some (.str x)
 | .bytes b _=>some (.byt b)
 | .float b _=>some (.flt b)
 | .ref a=>some (.ref a)
 | .type n=>some (.ty n)
 | _=>none
theorem RelV.abs{x:V}{u:Value}(r:RelV x u):absV u=some x:=by
 cases x with
 | non=>cases r;rfl
 | bl _=>cases r;rfl
 | int _=>obtain⟨t,rfl⟩:=r;rfl
 | str _=>obtain⟨t,rfl⟩:=r;rfl
 | byt _=>obtain⟨t,rfl⟩:=r;rfl
 | flt _=>obtain⟨t,rfl⟩:=r;rfl
 | ref _=>cases r;rfl
 | ty _=>cases r;rfl
theorem RelV.inj{x y:V}{u:Value}(r:RelV x u)(q:RelV y u):x=y:=Option.some.inj (r.abs.symm.trans q.abs)
theorem Vals.inj:∀{xs ys:List V} {us:List Value},Vals xs us->Vals ys us->xs=ys
 :=by
  intro xs ys us h
  induction h generalizing ys with
  | nil=>
    intro h2
    cases h2
    rfl
  | cons r t ih=>
    intro h2
    cases h2 with
    | cons r' t'=>rw[r.inj r',ih t']
section
variable {X:Cx} {pins:List (Addr × Obj)} {σ:St} {H:Hp} {s:Shared} {a:Addr} {xs ys:List V}
theorem SqL.of{K:W.Frag}(h:H a=some (.lst xs)):SqL K H a xs:=.inl (.inl h)
theorem SqT.of{K:W.Frag}(h:H a=some (.tup xs)):SqT K H a xs:=.inl (.inl h)
theorem Inv.list(I:Inv X pins σ H s)(h:SqL X.K H a xs):∃its:List Value,Vals xs its/\PlainL s.heap a its.toArray/\xs.length<=sizeLine:=by
 rcases h with h | ⟨o,its,n,hk,hc,hd,hs,hz,r⟩
 ·obtain⟨z,its,n,r,e⟩:=h.ok I.hok
  exact⟨its,r,⟨_,n,e,rfl,rfl,rfl⟩,z⟩
 ·refine⟨its.toList,r,⟨o,n,I.kIn a o hk,hc,hd,by simpa using hs⟩,?_⟩
  have e:=r.length
  simp only[qj]at e
  lia
theorem Inv.tuple(I:Inv X pins σ H s)(h:SqT X.K H a xs):∃its:List Value,Vals xs its/\IsTup s.heap a its.toArray/\xs.length<=sizeLine:=by
 rcases h with h | ⟨o,its,n,hk,hc,hs,hz,r⟩
 ·obtain⟨z,its,r,p⟩:=h.ok I.hok
  exact⟨its,r,p,z⟩
 ·refine⟨its.toList,r,⟨o,I.kIn a o hk,hc,n,by simpa using hs⟩,?_⟩
  have e:=r.length
  simp only[qj]at e
  lia
theorem Inv.list_inj(I:Inv X pins σ H s)(h:SqL X.K H a xs)(h':SqL X.K H a ys):xs=ys:=by
 obtain⟨its,r,⟨o,n,e,_,_,d⟩,_⟩:=I.list h
 obtain⟨its',r',⟨o',n',e',_,_,d'⟩,_⟩:=I.list h'
 rw[e]at e';cases e'
 rw[d]at d'
 injection d' with d1 _
 have:its=its':=by simpa using congrArg Array.toList d1
 subst this
 exact r.inj r'
theorem Inv.tuple_inj(I:Inv X pins σ H s)(h:SqT X.K H a xs)(h':SqT X.K H a ys):xs=ys:=by
 obtain⟨its,r,⟨o,e,_,n,d⟩,_⟩:=I.tuple h
 obtain⟨its',r',⟨o',e',_,n',d'⟩,_⟩:=I.tuple h'
 rw[e]at e';cases e'
 rw[d]at d'
 injection d' with d1 _
 have:its=its':=by simpa using congrArg Array.toList d1
 subst this
 exact r.inj r'
end
abbrev Cx.wish(X:Cx)(E:Value->Shared->Prop):Cx:={ X with xe:=E }
abbrev Cx.nox(X:Cx):Cx:=X.wish fun _ _=>False
theorem Cx.Ok.wish{X:Cx}(ok:X.Ok)(E:Value->Shared->Prop):(X.wish E).Ok:=
 ⟨ok.mod,ok.kind,ok.glob,ok.blt,ok.above,ok.inj,ok.has,ok.cab,ok.hd,ok.frames,ok.stk,ok.exf,ok.bs,ok.bsz,ok.noex,ok.exfs,ok.funs,ok.frf⟩
theorem Cx.Ok.unwish{X:Cx}{E:Value->Shared->Prop}(ok:(X.wish E).Ok):X.Ok:=
 ⟨ok.mod,ok.kind,ok.glob,ok.blt,ok.above,ok.inj,ok.has,ok.cab,ok.hd,ok.frames,ok.stk,ok.exf,ok.bs,ok.bsz,ok.noex,ok.exfs,ok.funs,ok.frf⟩
section
variable {X:Cx} {pins:List (Addr × Obj)} {σ:St} {H:Hp} {s:Shared} {E:Value->Shared->Prop} {st:Stmt} {rest:List Stmt} {t u:TS} {e:Expr} {te:TE} {pos:Pos}
theorem Inv.wish(I:Inv X pins σ H s)(E:Value->Shared->Prop):Inv (X.wish E) pins σ H s:=⟨I.ok.wish E,I.os,I.bare,I.base,I.loc,I.cell,I.free,I.freeC,I.pin,I.hok,I.len⟩
theorem Inv.unwish(I:Inv (X.wish E) pins σ H s):Inv X pins σ H s:=⟨I.ok.unwish,I.os,I.bare,I.base,I.loc,I.cell,I.free,I.freeC,I.pin,I.hok,I.len⟩
theorem SP.unwish{D:Ends}{f:Flow}{s':Shared}(h:SP (X.wish E) pins D f s'):SP X pins D f s':=by
 cases f with
 | next=>obtain⟨σ',H',I,q⟩:=h;exact⟨σ',H',I.unwish,q⟩
 | brk=>obtain⟨σ',H',I,q⟩:=h;exact⟨σ',H',I.unwish,q⟩
 | cont=>obtain⟨σ',H',I,q⟩:=h;exact⟨σ',H',I.unwish,q⟩
 | ret u=>obtain⟨v,σ',H',I,r,q⟩:=h;exact⟨v,σ',H',I.unwish,r,q⟩
theorem PSs.nox{st:List Stmt}{t:TS}(h:PSs X.nox st t):PSs X st t:=fun pins s σ H D I hw=>
 wpAny_mono (h pins s σ H D (I.wish _) hw) (fun _ _ q=>q.unwish) fun _ _ z=>False.elim z
def y9s:TS:=fun D σ H=>D.nx σ H
def tSeq(t u:TS):TS:=fun D σ H=>t { D with nx:=u D } σ H
theorem y3e:PSs X [] y9s:=fun _ _ σ H _ I h=>wpAny_execs_nil ⟨σ,H,I,h⟩
theorem Yz4(h1:PS X st t)(h2:PSs X rest u):PSs X (st::rest) (tSeq t u):=by
 intro pins s σ H D I h
 refine wpAny_execs_cons (thn (h1 pins s σ H { D with nx:=u D } I h) fun f s1 q=>?_)
 cases f with
 | next=>
   obtain⟨σ',H',I',q⟩:=q
   exact h2 pins s1 σ' H' D I' q
 | ret v=>exact q
 | brk=>exact q
 | cont=>exact q
theorem y3f(h1:PS X st t):PSs X [st] t:=by
 intro pins s σ H D I h
 refine wpAny_execs_cons (thn (h1 pins s σ H D I h) fun f s1 q=>?_)
 cases f with
 | next=>exact wpAny_execs_nil q
 | ret v=>exact q
 | brk=>exact q
 | cont=>exact q
theorem Inv.quiet{pins:List (Addr × Obj)}{σ:St}{H:Hp}{s:Shared}(I:Inv X pins σ H s):interactive X.env=false:=by simp[interactive,I.ok.kind]
def y9t(te:TE):TS:=fun D σ H=>te σ H fun _ H1=>D.nx σ H1
theorem Yrm(he:PE X e te)(hs:swapsWith e none pos.line X.env=pure false:=by rfl):PS X (.Expr e pos) (y9t te):=by
 intro pins s σ H D I h
 refine wpAny_Expr_any (thn (he pins s σ H _ I h) fun v s1 hx_=>?_) I.quiet hs
 obtain⟨x,H1,I1,r1,q1⟩:=hx_
 exact⟨σ,H1,I1,q1⟩
def tRet(te:TE):TS:=fun D σ H=>te σ H D.rt
theorem y6f(he:PE X e te):PS X (.Return (some e) pos) (tRet te):=by
 intro pins s σ H D I h
 refine wpAny_Return_some (thn (he pins s σ H _ I h) fun v s1 hx_=>?_)
 obtain⟨x,H1,I1,r1,q1⟩:=hx_
 exact⟨x,σ,H1,I1,r1,q1⟩
def tIfS(c:TT)(t u:TS):TS:=fun D σ H=>c σ H fun b H1=>if b=true then t D σ H1 else u D σ H1
theorem y9u{c:Expr}{a b:List Stmt}{tc:TT}(hc:PT X c tc)(ha:PSs X a t)(hb:PSs X b u):PS X (.If c a b pos) (tIfS tc t u):=by
 intro pins s σ H D I h
 refine wpAny_If (thn (hc pins s σ H _ I h) fun d s1 hx_=>?_)
 obtain⟨H1,I1,q1⟩:=hx_
 cases d with
 | true=>exact ha pins s1 σ H1 D I1 q1
 | false=>exact hb pins s1 σ H1 D I1 q1
end
abbrev TG:=V->St->Hp->(St->Hp->Prop)->Prop
abbrev TGs:=List V->St->Hp->(St->Hp->Prop)->Prop
def PG(X:Cx)(target:Expr)(t:TG):Prop:=
 ∀(pins:List (Addr × Obj)) (s:Shared) (σ:St) (H:Hp) (v:V) (u:Value) (Q:St->Hp->Prop),Inv X pins σ H s->RelV v u->t v σ H Q->
  wpAny (model X.prog X.w) X.A (assign target X.env u) (fun _ s'=>∃σ' H',Inv X pins σ' H' s'/\Q σ' H') X.xe s
def PGs(X:Cx)(ts:List Expr)(t:TGs):Prop:=
 ∀(pins:List (Addr × Obj)) (s:Shared) (σ:St) (H:Hp) (vs:List V) (us:List Value) (Q:St->Hp->Prop),Inv X pins σ H s->Vals vs us->t vs σ H Q->
  wpAny (model X.prog X.w) X.A (assignInOrder ((assignEach ts X.env).map (·.2)) us) (fun _ s'=>∃σ' H',Inv X pins σ' H' s'/\Q σ' H') X.xe s
abbrev TSet:=V->V->V->Hp->(Hp->Prop)->Prop
def PSet(X:Cx)(t:TSet):Prop:=
 ∀(pins:List (Addr × Obj)) (s:Shared) (σ:St) (H:Hp) (o i v:V) (ov iv u:Value) (Q:Hp->Prop),Inv X pins σ H s->RelV o ov->RelV i iv->RelV v u->t o i v H Q->
  wpAny (model X.prog X.w) X.A (setItem ov iv u) (fun _ s'=>∃H',Inv X pins σ H' s'/\Q H') X.xe s
abbrev TIp:=V->V->Hp->VK->Prop
def PIp(X:Cx)(op:Operator)(t:TIp):Prop:=
 ∀(pins:List (Addr × Obj)) (s:Shared) (σ:St) (H:Hp) (x y:V) (v u:Value) (Q:VK),Inv X pins σ H s->RelV x v->RelV y u->t x y H Q->
  wpAny (model X.prog X.w) X.A (inplaceOp op v u) (EP X pins σ Q) X.xe s
section
variable {X:Cx} {pos:Pos}
def Yuk(i:Nat):TG:=fun v σ H Q=>Q (σ.set i (some v)) H
theorem Ym5{i:Nat}{x:Str}(hN:X.N.Nodup)(hi:X.N[i]?=some x)(hx:Loc X.env.scope x)(hf:X.fn x=true\/X.env.scope.names.lookup x=some .local:=by first | exact .inl rfl | exact .inr rfl | assumption):PG X (.Name x pos) (Yuk i):=by
 intro pins s σ H v u Q I r h
 exact wpAny_assign_Name (Ym4 I hN hi hx r (fun s' I'=>⟨_,H,I',h⟩) hf)
def gNil:TGs:=fun vs σ H Q=>vs=[]/\Q σ H
def y9v(t:TG)(u:TGs):TGs:=fun vs σ H Q=>∃v r,vs=v::r/\t v σ H fun σ' H'=>u r σ' H' Q
theorem y3g:PGs X [] gNil:=by
 intro pins s σ H vs us Q I r h
 obtain⟨e,h⟩:=h
 subst e
 cases r
 exact assignInOrder_nil ⟨σ,H,I,h⟩
theorem Ym6{e:Expr}{es:List Expr}{t:TG}{u:TGs}(h1:PG X e t)(h2:PGs X es u)
 (hs:(assignEach (e::es) X.env).map (·.2)=assign e X.env::(assignEach es X.env).map (·.2):=by rfl):PGs X (e::es) (y9v t u):=by
 intro pins s σ H vs us Q I r h
 obtain⟨v,vr,e1,h⟩:=h
 subst e1
 cases r with
 | cons r rr=>
   rw[hs]
   refine assignInOrder_cons (thn (h1 pins s σ H _ _ _ I r h) fun _ s1 hx_=>?_)
   obtain⟨σ1,H1,I1,q1⟩:=hx_
   exact h2 pins s1 σ1 H1 _ _ Q I1 rr q1
def gSub(to ti:TE)(t:TSet):TG:=fun v σ H Q=>to σ H fun o H1=>ti σ H1 fun i H2=>t o i v H2 fun H3=>Q σ H3
theorem y6g{o i:Expr}{to ti:TE}{t:TSet}(ho:PE X o to)(hi:PE X i ti)(hs:PSet X t)
 (ha:∀v,assign (.Subscript o i pos) X.env v=(do
  let ov <-holding [v] (eval o X.env)
  let iv <-holding [v,ov] (eval i X.env)
  standAt pos
  holding [v,ov,iv] (setItem ov iv v)
  release [v,ov,iv] []):=by intro _;rfl):PG X (.Subscript o i pos) (gSub to ti t):=by
 intro pins s σ H v u Q I r h
 rw[ha]
 refine wpAny_bind (wpAny_holding (thn (ho pins s σ H _ I h) fun ov s1 hx_=>?_))
 obtain⟨x,H1,I1,r1,q1⟩:=hx_
 refine wpAny_bind (wpAny_holding (thn (hi pins s1 σ H1 _ I1 q1) fun iv s2 hx_=>?_))
 obtain⟨y,H2,I2,r2,q2⟩:=hx_
 refine wpAny_bind (wpAny_standAt (wpAny_bind (wpAny_holding (thn (hs pins s2 σ H2 x y v ov iv u _ I2 r1 r2 r q2) fun _ s3 hx_=>?_))))
 obtain⟨H3,I3,q3⟩:=hx_
 exact wpAny_release ⟨σ,H3,I3,q3⟩
def tAsg(te:TE)(g:TG):TS:=fun D σ H=>te σ H fun x H1=>g x σ H1 D.nx
theorem y2a{tg e:Expr}{te:TE}{g:TG}(he:PE X e te)(hg:PG X tg g)(hs:swapsWithSole [tg] e pos.line X.env=pure false:=by rfl)(hw:swappedStores [tg] e X.env=pure none:=by rfl)
 (h1:(assignEach [tg] X.env).map (·.2)=[assign tg X.env]:=by rfl):PS X (.Assign [tg] e pos) (tAsg te g):=by
 intro pins s σ H D I h
 refine wpAny_Assign_stores (thn (he pins s σ H _ I h) fun v s1 hx_=>?_) hs hw
 obtain⟨x,H1,I1,r1,q1⟩:=hx_
 rw[h1]
 exact thn (hg pins s1 σ H1 x v _ I1 r1 q1) fun _ s2 q=>q
theorem Ypd{i:Nat}{x:Str}{e:Expr}{te:TE}{pos':Pos}(hN:X.N.Nodup)(hi:X.N[i]?=some x)(hx:Loc X.env.scope x)(he:PE X e te)(hs:swapsWith e (some (.Name x pos')) pos.line X.env=pure false:=by rfl)(hf:X.fn x=true\/X.env.scope.names.lookup x=some .local:=by first | exact .inl rfl | exact .inr rfl | assumption) :
 PS X (.Assign [.Name x pos'] e pos) (tAsg te (Yuk i)):=by
 intro pins s σ H D I h
 refine wpAny_Assign_Name (thn (he pins s σ H _ I h) fun v s1 hx_=>?_) hs
 obtain⟨y,H1,I1,r1,q1⟩:=hx_
 exact Ym4 I1 hN hi hx r1 (fun s2 I2=>⟨_,H1,I2,q1⟩) hf
def tAug(i:Nat)(te:TE)(ti:TIp):TS:=fun D σ H=>∃x,σ[i]?=some (some x)/\te σ H fun y H1=>ti x y H1 fun z H2=>D.nx (σ.set i (some z)) H2
theorem y6h{i:Nat}{x:Str}{e:Expr}{te:TE}{op:Operator}{ti:TIp}{pos':Pos}(hN:X.N.Nodup)(hi:X.N[i]?=some x)(hx:Loc X.env.scope x)(he:PE X e te)(ho:PIp X op ti)(hf:X.fn x=true\/X.env.scope.names.lookup x=some .local:=by first | exact .inl rfl | exact .inr rfl | assumption) :
 PS X (.AugAssign (.Name x pos') op e pos) (tAug i te ti):=by
 intro pins s σ H D I h
 obtain⟨v,e1,h⟩:=h
 obtain⟨m,hn,hl⟩:=I.loc
 have vis:Vis X.env.scope x:=by rcases hx with k | k;exact .inl k;exact .inr (.inl k)
 obtain⟨u,r,l⟩:=hl i x v hi e1 vis
 refine wpAny_AugAssign_Name ?_
 have go:wpAny (model X.prog X.w) X.A (eval e X.env) (fun w s₂=>wpAny (model X.prog X.w) X.A (inplaceOp op u w) (fun r s₃=>wpAny (model X.prog X.w) X.A (storeName X.env x r) (fun _=>SP X pins D .next) X.xe s₃) X.xe s₂) X.xe s:=by
  refine thn (he pins s σ H _ I h) fun w s1 hx_=>?_
  obtain⟨y,H1,I1,r1,q1⟩:=hx_
  refine thn (ho pins s1 σ H1 v y u w _ I1 r r1 q1) fun z s2 hx_=>?_
  obtain⟨zv,H2,I2,r2,q2⟩:=hx_
  exact Ym4 I2 hN hi hx r2 (fun s3 I3=>⟨_,H2,I3,q2⟩) hf
 rcases l with⟨hk,hm⟩ | ⟨hk,c,hc,hcell⟩
 ·exact wpAny_loadName_local I.ok.kind hk hn hm go
 ·rcases hk with hk | hk
  ·exact wpAny_loadName_cell I.ok.kind hk hc hcell go
  ·rcases hx with k | k
   ·have:X.env.scope.names.lookup x=some .free:=hk
    rw[k]at this;cases this
   ·have:X.env.scope.names.lookup x=some .free:=hk
    rw[k]at this;cases this
def ipI(f:Int->Int->Int):TIp:=fun x y H Q=>∃i j,x=.int i/\y=.int j/\Q (.int (f i j)) H
theorem y6i:PIp X .Add (ipI fun i j=>i+j):=by
 intro pins s σ H x y v u Q I r1 r2 h
 obtain⟨i,j,e1,e2,q⟩:=h
 subst e1;subst e2
 obtain⟨t,rfl⟩:=r1
 obtain⟨t',rfl⟩:=r2
 exact iadd_int ⟨.int _,H,I.tok _,⟨_,rfl⟩,q⟩
def y6j(c:TT)(tb:TS):TS:=fun D σ H=>∃W:Nat->St->Hp->Prop,(∃m,W m σ H)/\∀m σ H,W m σ H->
 c σ H fun b H1=>if b=true then ∃N:St->Hp->Prop,(∀σ' H',N σ' H'->∃m',m' < m/\W m' σ' H')/\tb { D with nx:=N,ct:=N,bk:=D.nx } σ H1 else D.nx σ H1
theorem Yz5{c:Expr}{body:List Stmt}{tc:TT}{tb:TS}(hp:PassesOwn (model X.prog X.w) X.A X.env X.xe)(hc:PT X c tc)(hb:PSs X body tb):PS X (.While c body [] pos) (y6j tc tb):=by
 intro pins s σ H D I h
 obtain⟨W,⟨m0,w0⟩,turn⟩:=h
 refine wpAny_While (codeAny_whileLoop (fun n s'=>∃σ' H',Inv X pins σ' H' s'/\W n σ' H') ?_ m0 ⟨σ,H,I,w0⟩)
 rintro n s1 ⟨σ1,H1,I1,w1⟩
 refine wpAny_passesOwn hp (thn (hc pins s1 σ1 H1 _ I1 (turn n σ1 H1 w1)) fun b s2 hx_=>?_)
 obtain⟨H2,I2,q2⟩:=hx_
 cases b with
 | true=>
   obtain⟨N,hN,q2⟩:=q2
   rw[if_pos rfl]
   refine wpAny_passesOwn hp (thn (hb pins s2 σ1 H2 _ I2 q2) fun f s3 q3=>?_)
   cases f with
   | next=>
     obtain⟨σ3,H3,I3,n3⟩:=q3
     obtain⟨m',hm,w3⟩:=hN σ3 H3 n3
     exact⟨m',hm,σ3,H3,I3,w3⟩
   | cont=>
     obtain⟨σ3,H3,I3,n3⟩:=q3
     obtain⟨m',hm,w3⟩:=hN σ3 H3 n3
     exact⟨m',hm,σ3,H3,I3,w3⟩
   | brk=>exact q3
   | ret v=>exact q3
 | false=>
   rw[if_neg qi]
   exact wpAny_execs_nil ⟨σ1,H2,I2,q2⟩
end
structure It where
 go:Nat->Hp->Prop
 yld:Nat->Hp->V->Hp->Prop
 stop:Nat->Hp->Prop
def FpOk(X:Cx)(pins:List (Addr × Obj))(H:Hp)(b:Addr):Prop:=
 H b=none/\b≠X.env.locals/\b∉X.fs/\(b∈X.ex\/X.s₀.heap.objs.size<=b)/\(∀x c,X.env.cells.lookup x=some c->c≠b)/\∀p∈X.pn++pins,p.1≠b
theorem Inv.fpOk{X:Cx}{pins:List (Addr × Obj)}{σ:St}{H H':Hp}{s:Shared}{b:Addr}(I:Inv X pins σ H s)(hb:s.heap.objs.size<=b)(hn:H' b=none):FpOk X pins H' b:=by
 refine⟨hn,Nat.ne_of_gt (Qi I.lt hb),I.nofs hb,.inr (Qj I.sz hb),fun x c e z=>?_,fun p hp z=>?_⟩
 ·obtain⟨v,q⟩:=I.cell x c e
  exact absurd (Qi q.lt (by rw[z];exact hb)) (Nat.lt_irrefl _)
 ·exact absurd (Qi (ql (I.pin p hp).1) (by rw[z];exact hb)) (Nat.lt_irrefl _)
structure Turn(P:Program)(w:World)(K:W.Frag)(tg:Expr)(J:It)(fp:List Addr)(it:Addr)(tn:Nat->Heap->Prop):Prop where
 mem:it∈fp
 obj:∀i h,tn i h->∀b∈fp,∃o,h.get? b=some o/\∀v,o.data≠.cell v
 keep:∀i h h',tn i h->(∀b∈fp,∀o,h.get? b=some o->h'.get? b=some o)->tn i h'
 item:∀(X:Cx),X.prog=P->X.w=w->X.K=K->X.calm=true->∀(i:Nat) (pins:List (Addr × Obj)) (s:Shared) (σ:St) (H:Hp) (E:Value->Shared->Prop),Inv X pins σ H s->(∀b∈fp,FpOk X pins H b)->tn i s.heap->J.go i H->
  wpAny (model P w) X.A (pyNext (.ref it)) (fun r s1=>∃u,r=some u/\
   wpAny (model P w) X.A (letOwnedTupleGo tg (.ref it) u) (fun _ s2=>∃x H',Inv X pins σ H' s2/\RelV x u/\J.yld i H x H'/\tn (i+1) s2.heap/\∀b∈fp,H' b=none) E s1) E s
 done:∀(X:Cx),X.prog=P->X.w=w->X.K=K->X.calm=true->∀(i:Nat) (pins:List (Addr × Obj)) (s:Shared) (σ:St) (H:Hp) (E:Value->Shared->Prop),Inv X pins σ H s->(∀b∈fp,FpOk X pins H b)->tn i s.heap->J.stop i H->
  wpAny (model P w) X.A (pyNext (.ref it)) (fun r s1=>r=none/\Inv X pins σ H s1) E s
 self:∀(A:Around) (i:Nat) (s:Shared) (Q:Value->Shared->Prop) (E:Value->Shared->Prop),tn i s.heap->Q (.ref it) s->wpAny (model P w) A (pyIter (.ref it)) Q E s
abbrev TI:=St->Hp->(It->Hp->Prop)->Prop
def PIE(X:Cx)(pins:List (Addr × Obj))(σ:St)(tg:Expr)(R:It->Hp->Prop)(itv:Value)(s2:Shared):Prop:=
 ∃(it:Addr) (fp:List Addr) (tn:Nat->Heap->Prop) (J:It) (H':Hp),itv=.ref it/\Inv X pins σ H' s2/\Turn X.prog X.w X.K tg J fp it tn/\tn 0 s2.heap/\(∀b∈fp,FpOk X pins H' b)/\R J H'
def PI(X:Cx)(tg iter:Expr)(wi:TI):Prop:=
 ∀(pins:List (Addr × Obj)) (s:Shared) (σ:St) (H:Hp) (R:It->Hp->Prop),Inv X pins σ H s->wi σ H R->
  wpAny (model X.prog X.w) X.A (eval iter X.env) (fun v s1=>wpAny (model X.prog X.w) X.A (pyIter v) (PIE X pins σ tg R) X.xe s1) X.xe s
theorem Yz6{M:Model}{A:Around}{E:Value->Shared->Prop}{s:Shared}{tg:Expr}{it:Addr}{u:Value}{o:Obj}{n:String}{vs:Array Value}{Q:Unit->Shared->Prop}(ho:s.heap.get? it=some o)(hc:o.cls=.type n)(hd:o.data=.fields vs)
 (hn:["enumerate","zip","dict_itemiterator","dict_reverseitemiterator","odict_iterator","itertools.zip_longest","itertools.pairwise"].contains n=false) (hQ:Q () s):wpAny M A (letOwnedTupleGo tg (.ref it) u) Q E s:=by
 unfold letOwnedTupleGo
 cases tg<;>first
  | exact wpAny_pure hQ
  | (cases u<;>first
   | exact wpAny_pure hQ
   | (refine wpAny_bind (wpAny_load ho ?_)
      rw[hc,hd]
      show wpAny M A (if (["enumerate","zip","dict_itemiterator","dict_reverseitemiterator","odict_iterator","itertools.zip_longest","itertools.pairwise"].contains n&&vs[0]?==some (rawInt _))=true then _ else _) Q E s
      rw[if_neg (by intro h;rw[hn,Bool.false_and]at h;cases h)]
      exact wpAny_pure hQ))
def Itl(K:W.Frag)(a:Addr):It:=
 ⟨fun i H=>∃xs x,SqL K H a xs/\xs[i]?=some x,fun i H x H'=>H'=H/\∀xs,SqL K H a xs->xs[i]?=some x,fun i H=>∃xs,SqL K H a xs/\xs.length<=i⟩
def Itt(K:W.Frag)(a:Addr):It:=
 ⟨fun i H=>∃xs x,SqT K H a xs/\xs[i]?=some x,fun i H x H'=>H'=H/\∀xs,SqT K H a xs->xs[i]?=some x,fun i H=>∃xs,SqT K H a xs/\xs.length<=i⟩
def Itr(lo:Int)(n:Nat):It:=⟨fun i _=>i < n,fun i H x H'=>H'=H/\x=.int (lo+i),fun i _=>n<=i⟩
theorem Yvy{P:Program}{w:World}{K:W.Frag}{tg:Expr}(a it:Addr):Turn P w K tg (Itl K a) [it] it (fun i h=>h.IsListIter it a i) where
 mem:=by simp
 obj:=fun i h st b hb=>by
  have e:b=it:=by simpa using hb
  subst e
  obtain⟨o,e,c,d⟩:=st
  exact⟨o,e,fun v z=>by rw[d]at z;cases z⟩
 keep:=fun i h h' st k=>st.at fun o e=>k it (by simp) o e
 item:=by
  intro X hP hw hK hc i pins s σ H E I hf st hg
  subst hP hw hK
  obtain⟨xs,x,hq,hx⟩:=hg
  obtain⟨its,rv,p,hz⟩:=I.list hq
  obtain⟨u,hu,ru⟩:=rv.get hx
  obtain⟨f0,f1,f2,f3,f4,f5⟩:=hf it (by simp)
  refine wpAny_pyNext_list_item st p.isList (x:=u) (by simpa using hu) fun h' st' sb=>?_
  have I1:Inv X pins σ H { s with heap:=h' }:=I.turned (t':=s.toks) (fun b o hb e=>(sb.2 b hb).trans e) f0 f1 f3 f4 f5
  obtain⟨o,e,c,d⟩:=id st'
  exact⟨u,rfl,Yz6 (s:={ s with heap:=h' }) e c d (by decide) ⟨x,H,I1,ru,⟨rfl,fun ys hy=>by rw[I.list_inj hy hq];exact hx⟩,st',fun b hb=>(hf b hb).1⟩⟩
 done:=by
  intro X hP hw hK hc i pins s σ H E I hf st hg
  subst hP hw hK
  obtain⟨xs,hq,hx⟩:=hg
  obtain⟨its,rv,p,hz⟩:=I.list hq
  obtain⟨f0,f1,f2,f3,f4,f5⟩:=hf it (by simp)
  have hl:=rv.length
  exact wpAny_pyNext_list_end (I.ok.hd hc) st p.isList (by simp;lia) fun h' eb=>⟨rfl,I.turned (t':=s.toks) (fun b o hb e=>eb b o hb e) f0 f1 f3 f4 f5⟩
 self:=fun _ _ _ _ _ st h=>wpAny_pyIter_listiter st h
theorem Yul{P:Program}{w:World}{K:W.Frag}{tg:Expr}(a it:Addr):Turn P w K tg (Itt K a) [it] it (fun i h=>h.IsTupleIter it a i) where
 mem:=by simp
 obj:=fun i h st b hb=>by
  have e:b=it:=by simpa using hb
  subst e
  obtain⟨o,e,c,d⟩:=st
  exact⟨o,e,fun v z=>by rw[d]at z;cases z⟩
 keep:=fun i h h' st k=>st.at fun o e=>k it (by simp) o e
 item:=by
  intro X hP hw hK hc i pins s σ H E I hf st hg
  subst hP hw hK
  obtain⟨xs,x,hq,hx⟩:=hg
  obtain⟨its,rv,p,hz⟩:=I.tuple hq
  obtain⟨u,hu,ru⟩:=rv.get hx
  obtain⟨f0,f1,f2,f3,f4,f5⟩:=hf it (by simp)
  refine wpAny_pyNext_tuple_item st (show s.heap.IsTuple a its.toArray from p) (x:=u) (by simpa using hu) fun h' st' sb=>?_
  have I1:Inv X pins σ H { s with heap:=h' }:=I.turned (t':=s.toks) (fun b o hb e=>(sb.2 b hb).trans e) f0 f1 f3 f4 f5
  obtain⟨o,e,c,d⟩:=id st'
  exact⟨u,rfl,Yz6 (s:={ s with heap:=h' }) e c d (by decide) ⟨x,H,I1,ru,⟨rfl,fun ys hy=>by rw[I.tuple_inj hy hq];exact hx⟩,st',fun b hb=>(hf b hb).1⟩⟩
 done:=by
  intro X hP hw hK hc i pins s σ H E I hf st hg
  subst hP hw hK
  obtain⟨xs,hq,hx⟩:=hg
  obtain⟨its,rv,p,hz⟩:=I.tuple hq
  obtain⟨f0,f1,f2,f3,f4,f5⟩:=hf it (by simp)
  have hl:=rv.length
  exact wpAny_pyNext_tuple_end (I.ok.hd hc) st (show s.heap.IsTuple a its.toArray from p) (by simp;lia) fun h' eb=>⟨rfl,I.turned (t':=s.toks) (fun b o hb e=>eb b o hb e) f0 f1 f3 f4 f5⟩
 self:=fun _ _ _ _ _ st h=>wpAny_pyIter_tupleiter st h
theorem Yum{P:Program}{w:World}{K:W.Frag}{tg:Expr}(it:Addr)(lo:Int)(n:Nat):Turn P w K tg (Itr lo n) [it] it (fun i h=>IsRangeIter h it (lo+(i:Nat) * 1) ((n:Int) - (i:Nat)) 1) where
 mem:=by simp
 obj:=fun i h st b hb=>by
  have e:b=it:=by simpa using hb
  subst e
  exact⟨_,st,fun v z=>by
   have z':Data.fields _=Data.cell v:=z
   cases z'⟩
 keep:=fun i h h' st k=>k it (by simp) _ st
 item:=by
  intro X hP hw hK hc i pins s σ H E I hf st hg
  subst hP hw hK
  obtain⟨f0,f1,f2,f3,f4,f5⟩:=hf it (by simp)
  have W:=Walks.range (prog:=X.prog) (w:=X.w) (I.ok.hd hc) it lo 1 n
  refine W.item i s _ _ hg st fun v h' tk hv st' kk=>?_
  obtain⟨t,rfl⟩:=hv
  have I1:Inv X pins σ H { s with heap:=h',toks:=tk }:=I.turned (fun b o hb e=>kk b o (by simpa using hb) e) f0 f1 f3 f4 f5
  refine⟨_,rfl,Yz6 (s:={ s with heap:=h',toks:=tk }) (n:="range_iterator") st' rfl rfl (by decide) ⟨.int (lo+i),H,I1,⟨t,?_⟩,⟨rfl,rfl⟩,st',fun b hb=>(hf b hb).1⟩⟩
  rw[Int.mul_one]
 done:=by
  intro X hP hw hK hc i pins s σ H E I hf st hg
  subst hP hw hK
  obtain⟨f0,f1,f2,f3,f4,f5⟩:=hf it (by simp)
  exact wpAny_pyNext_range_end (I.ok.hd hc) st (by have:n<=i:=hg;lia) fun h' eb=>⟨rfl,I.turned (t':=s.toks) (fun b o hb e=>eb b o hb e) f0 f1 f3 f4 f5⟩
 self:=fun _ _ _ _ _ st h=>wpAny_pyIter_rangeiter st h
end L2
namespace L2
open PySem PySem.Spec PyProof.Rows
section
variable {X:Cx} {tg:Expr}
theorem Ytb{pins:List (Addr × Obj)}{σ:St}{H:Hp}{s:Shared}{R:It->Hp->Prop}{E:Value->Shared->Prop}{lo hi:Int}{t u v:Tok}{tk:Nat}(I:Inv X pins σ H s)(h1:-(2 ^ 62)<=lo)(h2:lo < 2 ^ 62)(h3:-(2 ^ 62)<=hi)(h4:hi < 2 ^ 62)
 (q:R (Itr lo (hi - lo).toNat) H):wpAny (model X.prog X.w) X.A (pyIter (.ref s.heap.objs.size)) (PIE X pins σ tg R) E { s with heap:=s.heap.push { cls:=.type "range",data:=.fields #[.int lo t,.int hi u,.int 1 v] },toks:=tk }:=by
 refine wpAny_pyIter_range (IsRange.new ..) (small_one h1 h2 h3 h4) ?_
 have I1:Inv X pins σ H { s with heap:=s.heap.push { cls:=.type "range",data:=.fields #[.int lo t,.int hi u,.int 1 v] },toks:=tk }:=I.kept fun b o e=>qe _ e
 refine⟨(s.heap.push { cls:=.type "range",data:=.fields #[.int lo t,.int hi u,.int 1 v] }).objs.size,[(s.heap.push { cls:=.type "range",data:=.fields #[.int lo t,.int hi u,.int 1 v] }).objs.size],_,_,H,rfl,
  I1.kept (t':=tk) fun b o e=>qe _ e,Yum _ lo (hi - lo).toNat,?_,fun b hb=>?_,q⟩
 ·have e1:lo+((0:Nat):Int) * 1=lo:=by simp
  have e2:(((hi - lo).toNat:Nat):Int) - ((0:Nat):Int)=Builtin.Range.rangeSize lo hi 1:=by rw[rangeSize_one];split<;>lia
  show IsRangeIter _ _ (lo+((0:Nat):Int) * 1) ((((hi - lo).toNat:Nat):Int) - ((0:Nat):Int)) 1
  rw[e1,e2]
  exact qp _ rfl
 ·have e:b=(s.heap.push { cls:=.type "range",data:=.fields #[.int lo t,.int hi u,.int 1 v] }).objs.size:=by simpa using hb
  subst e
  exact I1.fpOk (qu _) (I1.hok.fresh (qu _))
def y9w(ta:TA):TI:=fun σ H R=>ta σ H fun vs H1=>∃j:Int,vs=[.int j]/\-(2 ^ 62)<=j/\j < 2 ^ 62/\R (Itr 0 j.toNat) H1
def y9x(ta:TA):TI:=fun σ H R=>ta σ H fun vs H1=>∃i j:Int,vs=[.int i,.int j]/\(-(2 ^ 62)<=i/\i < 2 ^ 62/\-(2 ^ 62)<=j/\j < 2 ^ 62)/\R (Itr i (j - i).toNat) H1
theorem Yvz{a:Expr}{ta:TA}{p pos:Pos}(hg:Gl X "range")(hm:X.mg "range"=none)(ha:PA X [a] ta)(hs:starEach [a] X.env=[(false,eval a X.env)]:=by rfl):PI X tg (.Call (.Name "range" p) [a] [] pos) (y9w ta):=by
 intro pins s σ H R I h
 refine Call_ (Yj7 I hg hm boot_range (PyProof.Rows.callWith_type1 (thn (ha pos pins s σ H _ I h) fun us s1 hx_=>?_) hs rfl))
 obtain⟨vs,H1,I1,r1,q1⟩:=hx_
 obtain⟨j,e,q1,q2,q⟩:=q1
 subst e
 cases r1 with
 | cons r rr=>
   cases rr
   obtain⟨t,rfl⟩:=r
   exact call_range_1 (Ytb I1 (by lia) (by lia) q1 q2 (by simpa using q))
theorem Yv0{a b:Expr}{ta:TA}{p pos:Pos}(hg:Gl X "range")(hm:X.mg "range"=none)(ha:PA X [a,b] ta)(hs:starEach [a,b] X.env=[(false,eval a X.env),(false,eval b X.env)]:=by rfl)(hs2:starEach [b] X.env=[(false,eval b X.env)]:=by rfl) :
 PI X tg (.Call (.Name "range" p) [a,b] [] pos) (y9x ta):=by
 intro pins s σ H R I h
 refine Call_ (Yj7 I hg hm boot_range (PyProof.Rows.callWith_type1 (thn (ha pos pins s σ H _ I h) fun us s1 ⟨vs,H1,I1,r1,q1⟩=>?_) (by rw[hs,hs2]) (by rw[hs2];rfl)))
 obtain⟨i,j,e,⟨q1,q2,q3,q4⟩,q⟩:=q1
 subst e
 cases r1 with
 | cons r rr=>
   cases rr with
   | cons r' rr=>
     cases rr
     obtain⟨t,rfl⟩:=r
     obtain⟨t',rfl⟩:=r'
     exact call_range_2 (Ytb I1 q1 q2 q3 q4 q)
def tFor(wi:TI)(g:TG)(tb:TS):TS:=fun D σ H=>wi σ H fun J H1=>∃W:Nat->Nat->St->Hp->Prop,(∃m,W 0 m σ H1)/\∀i m σ H,W i m σ H->
 (J.stop i H/\D.nx σ H)\/(J.go i H/\∃N:St->Hp->Prop,(∀σ' H',N σ' H'->∃m',m' < m/\W (i+1) m' σ' H')/\∀x H',J.yld i H x H'->g x σ H' fun σ2 H2=>tb { D with nx:=N,ct:=N,bk:=D.nx } σ2 H2)
def Ype(fp:List Addr)(h:Heap):List (Addr × Obj):=fp.filterMap fun b=>(h.get? b).map fun o=>(b,o)
theorem Ygl{fp:List Addr}{h:Heap}{b:Addr}{o:Obj}(hb:b∈fp)(e:h.get? b=some o):(b,o)∈Ype fp h:=List.mem_filterMap.mpr ⟨b,hb,by rw[e];rfl⟩
theorem Yv1{fp:List Addr}{h:Heap}{p:Addr × Obj}(hp:p∈Ype fp h):p.1∈fp/\h.get? p.1=some p.2:=by
 obtain⟨b,hb,e⟩:=List.mem_filterMap.mp hp
 cases q:h.get? b with
 | none=>rw[q]at e;cases e
 | some o=>
   rw[q]at e
   have e':(b,o)=p:=Option.some.inj e
   subst e'
   exact⟨hb,q⟩
theorem Inv.pinned{pins:List (Addr × Obj)}{σ:St}{H:Hp}{s:Shared}{fp:List Addr}(I:Inv X pins σ H s)(hf:∀b∈fp,FpOk X pins H b)(ho:∀b∈fp,∃o,s.heap.get? b=some o/\∀v,o.data≠.cell v):Inv X (pins++Ype fp s.heap) σ H s:=
 I.pins_of fun p hp=>(qv hp).elim (fun z=>I.pin p (Qq _ z)) fun z=>by
  obtain⟨hb,e⟩:=Yv1 z
  obtain⟨f0,f1,f2,_⟩:=hf p.1 hb
  obtain⟨o,e',d⟩:=ho p.1 hb
  rw[e]at e';cases e'
  exact⟨e,f0,f1,f2,d⟩
theorem Inv.unpinned{pins pl:List (Addr × Obj)}{σ:St}{H:Hp}{s:Shared}(I:Inv X (pins++pl) σ H s):Inv X pins σ H s:=I.pins_of fun p hp=>I.pin p (Qq _ (List.mem_append_left _ hp))
theorem y6k{iter:Expr}{body:List Stmt}{wi:TI}{g:TG}{tb:TS}{pos:Pos}(hp:PassesOwn (model X.prog X.w) X.A X.env X.xe)(hc:X.calm=true)(hi:PI X tg iter wi)(hg:PG X tg g)(hb:PSs X body tb)
 (hs:∀x,foldedSetIterable iter X.env x=pure x:=by intro _;rfl):PS X (.For tg iter body [] pos) (tFor wi g tb):=by
 intro pins s σ H D I h
 refine wpAny_For (thn (hi pins s σ H _ I h) fun v s1 h1=>thn h1 fun itv s2 h2=>?_) hs
 obtain⟨it,fp,tn,J,H2,e,I2,T,st2,f2,W,⟨m0,w0⟩,turn⟩:=h2
 subst e
 have stat:∀{H':Hp},(∀b∈fp,H' b=none)->∀b∈fp,FpOk X pins H' b:=fun hn b hb=>⟨hn b hb,(f2 b hb).2⟩
 refine codeAny_forLoop_any (fun n s'=>∃i σ' H',Inv X pins σ' H' s'/\tn i s'.heap/\(∀b∈fp,H' b=none)/\W i n σ' H') ?_ m0 ⟨0,σ,H2,I2,st2,fun b hb=>(f2 b hb).1,w0⟩
 rintro n s3 ⟨i,σ3,H3,I3,st3,fr3,w3⟩
 rcases turn i n σ3 H3 w3 with⟨stop,qn⟩ | ⟨go,N,hN,step⟩
 ·refine wpAny_passesOwn hp (thn (T.done X rfl rfl rfl hc i pins s3 σ3 H3 X.xe I3 (stat fr3) st3 stop) fun r s4 hx_=>?_)
  obtain⟨hr,I4⟩:=hx_
  subst hr
  exact wpAny_execs_nil ⟨σ3,H3,I4,qn⟩
 ·refine wpAny_passesOwn hp (thn (T.item X rfl rfl rfl hc i pins s3 σ3 H3 X.xe I3 (stat fr3) st3 go) fun r s4 hx_=>?_)
  obtain⟨u,hr,h4⟩:=hx_
  subst hr
  refine wpAny_passesOwn hp (thn h4 fun _ s5 hx_=>?_)
  obtain⟨x,H5,I5,r5,y5,st5,fr5⟩:=hx_
  have I5':=I5.pinned (stat fr5) (T.obj _ _ st5)
  refine wpAny_passesOwn hp (thn (hg _ s5 σ3 H5 x u _ I5' r5 (step x H5 y5)) fun _ s6 hx_=>?_)
  obtain⟨σ6,H6,I6,q6⟩:=hx_
  refine wpAny_passesOwn hp (thn (hb _ s6 σ6 H6 _ I6 q6) fun f s7 q7=>?_)
  have again:∀{σ7:St} {H7:Hp},Inv X (pins++Ype fp s5.heap) σ7 H7 s7->N σ7 H7->∃m,m < n/\∃i σ' H',Inv X pins σ' H' s7/\tn i s7.heap/\(∀b∈fp,H' b=none)/\W i m σ' H':=fun {σ7 H7} I7 n7=>by
   obtain⟨m',hm,w7⟩:=hN σ7 H7 n7
   refine⟨m',hm,i+1,σ7,H7,I7.unpinned,T.keep _ _ _ st5 fun b hb o e=>(I7.pin (b,o) (Qq _ (Qq _ (Ygl hb e)))).1,fun b hb=>?_,w7⟩
   obtain⟨o,e,d⟩:=T.obj _ _ st5 b hb
   exact(I7.pin (b,o) (Qq _ (Qq _ (Ygl hb e)))).2.1
  cases f with
  | next=>obtain⟨σ7,H7,I7,n7⟩:=q7;exact again I7 n7
  | cont=>obtain⟨σ7,H7,I7,n7⟩:=q7;exact again I7 n7
  | brk=>obtain⟨σ7,H7,I7,q7⟩:=q7;exact⟨σ7,H7,I7.unpinned,q7⟩
  | ret v=>obtain⟨x7,σ7,H7,I7,r7,q7⟩:=q7;exact⟨x7,σ7,H7,I7.unpinned,r7,q7⟩
end
end L2
namespace L2
open PySem PySem.Spec PyProof.Rows
abbrev R2:=V->V->Hp->VK->Prop
def OpR(X:Cx)(f:Value->Value->Sem Value)(r:R2):Prop:=
 ∀(pins:List (Addr × Obj)) (s:Shared) (σ:St) (H:Hp) (x y:V) (v u:Value) (Q:VK),Inv X pins σ H s->RelV x v->RelV y u->r x y H Q->
  wpAny (model X.prog X.w) X.A (f v u) (EP X pins σ Q) X.xe s
def UnR(X:Cx)(f:Value->Sem Value)(r:V->Hp->VK->Prop):Prop:=
 ∀(pins:List (Addr × Obj)) (s:Shared) (σ:St) (H:Hp) (x:V) (v:Value) (Q:VK),Inv X pins σ H s->RelV x v->r x H Q->
  wpAny (model X.prog X.w) X.A (f v) (EP X pins σ Q) X.xe s
def Ydl(X:Cx)(f:Value)(r:List V->Hp->VK->Prop):Prop:=
 ∀(pins:List (Addr × Obj)) (s:Shared) (σ:St) (H:Hp) (xs:List V) (us:List Value) (Q:VK),Inv X pins σ H s->Vals xs us->r xs H Q->
  wpAny (model X.prog X.w) X.A (call f us) (EP X pins σ Q) X.xe s
def TruR(X:Cx)(r:V->Hp->(Bool->Hp->Prop)->Prop):Prop:=
 ∀(pins:List (Addr × Obj)) (s:Shared) (σ:St) (H:Hp) (x:V) (v:Value) (Q:Bool->Hp->Prop),Inv X pins σ H s->RelV x v->r x H Q->
  wpAny (model X.prog X.w) X.A (truthy v) (TP X pins σ Q) X.xe s
def tOp(r:R2)(ta tb:TE):TE:=fun σ H Q=>ta σ H fun x H1=>tb σ H1 fun y H2=>r x y H2 Q
def tUn(r:V->Hp->VK->Prop)(ta:TE):TE:=fun σ H Q=>ta σ H fun x H1=>r x H1 Q
def rI(C:Int->Int->Prop)(g:Int->Int->V):R2:=fun x y H Q=>∃i j,x=.int i/\y=.int j/\C i j/\Q (g i j) H
def rI0(g:Int->Int->V):R2:=fun x y H Q=>∃i j,x=.int i/\y=.int j/\Q (g i j) H
def rU(g:Int->V):V->Hp->VK->Prop:=fun x H Q=>∃i,x=.int i/\Q (g i) H
section
variable {X:Cx} {a b c:Expr} {ta tb tc:TE} {pos:Pos}
theorem binT(ha:PE X a ta)(hb:PE X b tb){pins:List (Addr × Obj)}{s:Shared}{σ:St}{H:Hp}{R:V->V->Hp->Prop}(I:Inv X pins σ H s)
 (h:ta σ H fun x H1=>tb σ H1 fun y H2=>R x y H2) {Q:Value->Shared->Prop} {f:Value->Value->Sem Value}
 (hf:∀v u s2 x y H2,Inv X pins σ H2 s2->RelV x v->RelV y u->R x y H2->wpAny (model X.prog X.w) X.A (f v u) Q X.xe s2) :
 wpAny (model X.prog X.w) X.A (eval a X.env) (fun v s₁=>wpAny (model X.prog X.w) X.A (eval b X.env) (fun u s₂=>wpAny (model X.prog X.w) X.A (f v u) Q X.xe s₂) X.xe s₁) X.xe s:=by
 refine thn (ha pins s σ H _ I h) fun v s1 hx_=>?_
 obtain⟨x,H1,I1,r1,q1⟩:=hx_
 refine thn (hb pins s1 σ H1 _ I1 q1) fun u s2 hx_=>?_
 obtain⟨y,H2,I2,r2,q2⟩:=hx_
 exact hf v u s2 x y H2 I2 r1 r2 q2
theorem y3h{op:Operator}{r:R2}(ho:OpR X (binaryOp op) r)(ha:PE X a ta)(hb:PE X b tb):PE X (.BinOp a op b pos) (tOp r ta tb):=by
 intro pins s σ H Q I h
 exact wpAny_BinOp (binT ha hb I h fun v u s2 x y H2 I2 rx ry q=>ho pins s2 σ H2 x y v u Q I2 rx ry q)
theorem y9y{op:UnaryOp}{r:V->Hp->VK->Prop}(ho:UnR X (unaryOp op) r)(ha:PE X a ta):PE X (.UnaryOp op a pos) (tUn r ta):=by
 intro pins s σ H Q I h
 refine UnaryOp_ (thn (ha pins s σ H _ I h) fun v s1 hx_=>?_)
 obtain⟨x,H1,I1,r1,q1⟩:=hx_
 exact ho pins s1 σ H1 x v Q I1 r1 q1
theorem opI{f:Value->Value->Sem Value}{C:Int->Int->Prop}{g:Int->Int->Int}
 (rule:∀(i j:Int) (t u:Tok) (s:Shared) (Q:Value->Shared->Prop) (E:Value->Shared->Prop),C i j->Q (.int (g i j) s.toks) { s with toks:=s.toks+1 }->wpAny (model X.prog X.w) X.A (f (.int i t) (.int j u)) Q E s) :
 OpR X f (rI C fun i j=>.int (g i j)):=by
 intro pins s σ H x y v u Q I rx ry h
 obtain⟨i,j,rfl,rfl,hc,q⟩:=h
 obtain⟨t,rfl⟩:=rx
 obtain⟨t',rfl⟩:=ry
 exact rule i j t t' s _ _ hc ⟨.int (g i j),H,I.tok _,⟨_,rfl⟩,q⟩
theorem opI0{f:Value->Value->Sem Value}{g:Int->Int->Int}
 (rule:∀(i j:Int) (t u:Tok) (s:Shared) (Q:Value->Shared->Prop) (E:Value->Shared->Prop),Q (.int (g i j) s.toks) { s with toks:=s.toks+1 }->wpAny (model X.prog X.w) X.A (f (.int i t) (.int j u)) Q E s) :
 OpR X f (rI0 fun i j=>.int (g i j)):=by
 intro pins s σ H x y v u Q I rx ry h
 obtain⟨i,j,rfl,rfl,q⟩:=h
 obtain⟨t,rfl⟩:=rx
 obtain⟨t',rfl⟩:=ry
 exact rule i j t t' s _ _ ⟨.int (g i j),H,I.tok _,⟨_,rfl⟩,q⟩
theorem opB0{f:Value->Value->Sem Value}{g:Int->Int->Bool}
 (rule:∀(i j:Int) (t u:Tok) (s:Shared) (Q:Value->Shared->Prop) (E:Value->Shared->Prop),Q (.bool (g i j)) s->wpAny (model X.prog X.w) X.A (f (.int i t) (.int j u)) Q E s) :
 OpR X f (rI0 fun i j=>.bl (g i j)):=by
 intro pins s σ H x y v u Q I rx ry h
 obtain⟨i,j,rfl,rfl,q⟩:=h
 obtain⟨t,rfl⟩:=rx
 obtain⟨t',rfl⟩:=ry
 exact rule i j t t' s _ _ ⟨.bl (g i j),H,I,rfl,q⟩
def CDiv(i j:Int):Prop:=0 < j/\j < 1073741824
def CMul(i j:Int):Prop:=(-(2 ^ 64) < i/\i < 2 ^ 64)\/(-(2 ^ 64) < j/\j < 2 ^ 64)
theorem CMul.ok{i j:Int}(h:CMul i j):IntMulOk i j:=by
 rcases h with⟨h1,h2⟩ | ⟨h1,h2⟩
 ·exact .of_left (intBits_le_64 h1 h2)
 ·exact .of_right (intBits_le_64 h1 h2)
theorem Yun(k:Nat):(0:Int)<=2 ^ k:=by
 rw[two_pow_cast]
 exact Int.natCast_nonneg _
theorem y6l:OpR X (binaryOp .Add) (rI0 fun i j=>.int (i+j)):=opI0 fun _ _ _ _ _ _ _ q=>add_int q
theorem y6m:OpR X (binaryOp .Sub) (rI0 fun i j=>.int (i - j)):=opI0 fun _ _ _ _ _ _ _ q=>sub_int q
theorem y6n:OpR X (binaryOp .Mult) (rI CMul fun i j=>.int (i * j)):=opI fun _ _ _ _ _ _ _ hc q=>mul_int q hc.ok
theorem y3i:OpR X (binaryOp .FloorDiv) (rI CDiv fun i j=>.int (i / j)):=opI fun i j _ _ _ _ _ hc q=>by
 have h1:(0:Int) < j:=hc.1
 have h2:j < 1073741824:=hc.2
 exact floordiv_int (by lia) (by rw[Int.fdiv_eq_ediv_of_nonneg i (by lia)];exact q) (.inl (PyProof.noPylong_small (by lia)))
theorem y6o:OpR X (binaryOp .Mod) (rI (fun _ j=>0 < j) fun i j=>.int (i % j)):=opI fun i j _ _ _ _ _ hc q=>by
 have h1:(0:Int) < j:=hc
 exact mod_int' (by lia) (by rw[Int.fmod_eq_emod_of_nonneg i (by lia)];exact q)
theorem y6p:OpR X (binaryOp .RShift) (rI (fun _ j=>0<=j) fun i j=>.int (i / 2 ^ j.toNat)):=opI fun i j _ _ _ _ _ hc q=>
 rshift_int hc (by rw[Int.fdiv_eq_ediv_of_nonneg i (Yun _)];exact q)
theorem unI{f:Value->Sem Value}{g:Int->Int}
 (rule:∀(i:Int) (t:Tok) (s:Shared) (Q:Value->Shared->Prop) (E:Value->Shared->Prop),Q (.int (g i) s.toks) { s with toks:=s.toks+1 }->wpAny (model X.prog X.w) X.A (f (.int i t)) Q E s) :
 UnR X f (rU fun i=>.int (g i)):=by
 intro pins s σ H x v Q I rx h
 obtain⟨i,rfl,q⟩:=h
 obtain⟨t,rfl⟩:=rx
 exact rule i t s _ _ ⟨.int (g i),H,I.tok _,⟨_,rfl⟩,q⟩
theorem y6q:UnR X (unaryOp .USub) (rU fun i=>.int (-i)):=unI fun _ _ _ _ _ q=>neg_int q
theorem y2b{pins:List (Addr × Obj)}{σ:St}{H:Hp}{s:Shared}{Q:VK}{k k':Bool}(I:Inv X pins σ H s)(q:Q (.bl k) H)(e:k=k'):EP X pins σ Q (.bool k') s:=by
 subst e
 exact⟨.bl k,H,I,rfl,q⟩
theorem y6r:OpR X (compareOp .Lt) (rI0 fun i j=>.bl (decide (i < j))):=opB0 fun _ _ _ _ _ _ _ q=>lt_int q
theorem y6s:OpR X (compareOp .Gt) (rI0 fun i j=>.bl (decide (j < i))):=opB0 fun _ _ _ _ _ _ _ q=>gt_int q
theorem y2c:OpR X (compareOp .Is) (fun x y H Q=>y=.non/\Q (.bl (decide (x=.non))) H):=by
 intro pins s σ H x y v u Q I rx ry h
 obtain⟨rfl,q⟩:=h
 cases ry
 refine is_none_gen (y2b I q ?_)
 cases x<;>first
  | (cases rx;rfl)
  | (obtain⟨t,rfl⟩:=rx;rfl)
theorem Yv2:OpR X (compareOp .IsNot) (fun x y H Q=>y=.non/\Q (.bl (!decide (x=.non))) H):=by
 intro pins s σ H x y v u Q I rx ry h
 obtain⟨rfl,q⟩:=h
 cases ry
 refine isnot_none_gen (y2b I q ?_)
 cases x<;>first
  | (cases rx;rfl)
  | (obtain⟨t,rfl⟩:=rx;rfl)
theorem Ye5(b:Expr){op:CmpOp}(h:op≠.In:=by decide)(h2:op≠.NotIn:=by decide):behindInMarks op b=false:=by
 have e1:(op==CmpOp.In)=false:=by cases op<;>first | rfl | exact absurd rfl h
 have e2:(op==CmpOp.NotIn)=false:=by cases op<;>first | rfl | exact absurd rfl h2
 cases b with
 | Set elts k p=>
   show((k==0)&&((op==CmpOp.In)||(op==CmpOp.NotIn))&&_)=false
   rw[e1,e2]
   cases (k==0)<;>rfl
 | _=>rfl
theorem y3j{op:CmpOp}{r:R2}(ho:OpR X (compareOp op) r)(ha:PE X a ta)(hb:PE X b tb)(hm:behindInMarks op b=false):PE X (.Compare a [op] [b] pos) (tOp r ta tb):=by
 intro pins s σ H Q I h
 exact wpAny_Compare1 (binT ha hb I h fun v u s2 x y H2 I2 rx ry q=>ho pins s2 σ H2 x y v u Q I2 rx ry q) hm
def y6t(t:TE):TT:=fun σ H Q=>t σ H fun x H'=>∃k,x=.bl k/\Q k H'
theorem y3k{op:CmpOp}{r:R2}(ho:OpR X (compareOp op) r)(ha:PE X a ta)(hb:PE X b tb)(hm:behindInMarks op b=false):PT X (.Compare a [op] [b] pos) (y6t (tOp r ta tb)):=by
 intro pins s σ H Q I h
 refine wpAny_isTrue_Compare1 (thn (ha pins s σ H _ I h) fun v s1 hx_=>?_) hm
 obtain⟨x,H1,I1,r1,q1⟩:=hx_
 refine thn (hb pins s1 σ H1 _ I1 q1) fun u s2 hx_=>?_
 obtain⟨y,H2,I2,r2,q2⟩:=hx_
 refine thn (ho pins s2 σ H2 x y v u _ I2 r1 r2 q2) fun c s3 hx_=>?_
 obtain⟨z,H3,I3,r3,k,e,q3⟩:=hx_
 subst e
 cases r3
 exact wpAny_truthy_bool ⟨H3,I3,q3⟩
def TruV(K:W.Frag)(x:V)(H:Hp)(k:Bool):Prop:=
 match x with
 | .non=>k=false
 | .bl b=>k=b
 | .int i=>k=(i != 0)
 | .str y=>y.length<=sizeLine/\k=((y.length:Int) != 0)
 | .byt y=>y.size<=sizeLine/\k=((y.size:Int) != 0)
 | .ref p=>(∃xs,SqL K H p xs/\k=!xs.isEmpty)\/(∃xs,SqT K H p xs/\k=!xs.isEmpty)\/∃kvs,H p=some (.dK kvs)/\k=!kvs.isEmpty
 | _=>False
theorem Yuo{κ:Type}{kvs:List (κ × V)}{vs:List (κ × Value)}(r:KV kvs vs):(!vs.isEmpty)=!kvs.isEmpty:=by
 cases r<;>rfl
theorem Ymf{xs:List V}{its:List Value}(r:Vals xs its):(!its.toArray.isEmpty)=!xs.isEmpty:=by
 cases r<;>simp
theorem Ypf:(sizeLine:Nat) < 2 ^ 63:=by rw[sizeLine_eq];decide
theorem y6u:TruR X (fun x H Q=>∃k,TruV X.K x H k/\Q k H):=by
 intro pins s σ H x v Q I rx h
 obtain⟨k,e,q⟩:=h
 have hl:=Ypf
 have hs:sizeLine=16777216:=sizeLine_eq
 cases x with
 | non=>
   cases rx
   have e':k=false:=e
   subst e'
   exact truthy_none ⟨H,I,q⟩
 | bl b=>
   cases rx
   have e':k=b:=e
   subst e'
   exact wpAny_truthy_bool ⟨H,I,q⟩
 | int i=>
   obtain⟨t,rfl⟩:=rx
   have e':k=(i != 0):=e
   subst e'
   exact PySem.P.truthy_int ⟨H,I,q⟩
 | str y=>
   obtain⟨t,rfl⟩:=rx
   obtain⟨hy,e'⟩:y.length<=sizeLine/\k=((y.length:Int) != 0):=e
   subst e'
   exact PySem.P.truthy_str (by lia) ⟨H,I.tok _,q⟩
 | byt y=>
   obtain⟨t,rfl⟩:=rx
   obtain⟨hy,e'⟩:y.size<=sizeLine/\k=((y.size:Int) != 0):=e
   subst e'
   exact W.truthy_bytes (by lia) ⟨H,I.tok _,q⟩
 | ref p=>
   cases rx
   have e':(∃xs,SqL X.K H p xs/\k=!xs.isEmpty)\/(∃xs,SqT X.K H p xs/\k=!xs.isEmpty)\/∃kvs,H p=some (.dK kvs)/\k=!kvs.isEmpty:=e
   rcases e' with⟨xs,hx,e'⟩ | ⟨xs,hx,e'⟩ | ⟨kvs,hx,e'⟩
   ·subst e'
    obtain⟨its,r,pl,hz⟩:=I.list hx
    have hlen:=r.length
    exact wpAny_truthy_list pl.isList (by simp only[qk];lia) ⟨H,I.tok _,by rw[Ymf r];exact q⟩
   ·subst e'
    obtain⟨its,r,pl,hz⟩:=I.tuple hx
    have hlen:=r.length
    exact truthy_tuple pl (by simp only[qk];lia) ⟨H,I.tok _,by rw[Ymf r];exact q⟩
   ·subst e'
    obtain⟨hz,hS,vs,r,m⟩:kvs.length<=sizeLine/\(p==sysModules)=false/\∃vs,KV kvs vs/\s.heap.DictOf (Yay X.prog X.w) p vs:=I.hok p _ hx
    have hlen:kvs.length=vs.length:=Paired.length r
    exact wpAny_truthy_dict hS m (by lia) ⟨H,I.tok _,by rw[Yuo r];exact q⟩
 | _=>exact(show False from e).elim
theorem Yz7(ha:PE X a ta)(he:∀whole,isTrue a X.env whole=(do let v <-whole;standAt a.pos;holding [v] (truthy v))) :
 PT X a (fun σ H Q=>ta σ H fun x H'=>∃k,TruV X.K x H' k/\Q k H'):=by
 intro pins s σ H Q I h
 refine isTrue_plain (thn (ha pins s σ H _ I h) fun v s1 hx_=>?_) (he _)
 obtain⟨x,H1,I1,r1,q1⟩:=hx_
 exact y6u pins s1 σ H1 x v Q I1 r1 q1
theorem Yg5{x:V}{us:List Value}(r:Vals [x] us):∃u,us=[u]/\RelV x u:=by
 cases r with
 | cons r1 r2=>cases r2;exact⟨_,rfl,r1⟩
theorem Yv3{x y:V}{us:List Value}(r:Vals [x,y] us):∃u w',us=[u,w']/\RelV x u/\RelV y w':=by
 cases r with
 | cons r1 r2=>
   cases r2 with
   | cons r3 r4=>cases r4;exact⟨_,_,rfl,r1,r3⟩
theorem Ypg(hc:X.calm=true):Ydl X (.builtin "min") (fun xs H Q=>∃i j,xs=[.int i,.int j]/\Q (.int (if j < i then j else i)) H):=by
 intro pins s σ H xs us Q I r h
 obtain⟨i,j,rfl,q⟩:=h
 obtain⟨u,w',rfl,⟨t,rfl⟩,⟨t',rfl⟩⟩:=Yv3 r
 refine min_two_ints (I.ok.hd hc) fun h' tk k=>⟨_,H,I.kept k,?_,q⟩
 by_cases hj:j < i
 ·rw[if_pos hj,if_pos hj];exact⟨_,rfl⟩
 ·rw[if_neg hj,if_neg hj];exact⟨_,rfl⟩
theorem Yv4:Ydl X (.type "int") (fun xs H Q=>(∃i,xs=[.int i]/\Q (.int i) H)\/∃k,xs=[.bl k]/\Q (.int (if k then 1 else 0)) H):=by
 intro pins s σ H xs us Q I r h
 rcases h with⟨i,rfl,q⟩ | ⟨k,rfl,q⟩
 ·obtain⟨u,rfl,t,rfl⟩:=Yg5 r
  exact call_int_int ⟨.int i,H,I,⟨_,rfl⟩,q⟩
 ·obtain⟨u,rfl,r1⟩:=Yg5 r
  cases r1
  exact call_int_bool ⟨.int (if k then 1 else 0),H,I.tok _,⟨_,rfl⟩,q⟩
end
end L2
namespace L2
open PySem PySem.Spec PyProof.Rows
structure ObjM(h:Heap)(x dx C:Addr)(mA:Str->Option Value):Prop where
 obj:h.get? x=some (W.instObj C dx)
 ns:h.Ns1 dx mA
 ne:dx≠x
theorem Yv5{h:Heap}{dx:Addr}{mA:Str->Option Value}(n:h.Ns1 dx mA):∃od,h.get? dx=some od/\∀name,W.lookIn name od=some (mA name):=by
 obtain⟨o,es,ep,ho,hd,hk,_,hm⟩:=n
 refine⟨o,ho,fun name=>?_⟩
 have e:=hm name
 unfold nsFind findBy at e
 rw[<-Array.find?_toList]at e
 unfold W.lookIn
 rw[hd]
 dsimp only
 split
 ·rename_i y q
  rw[q]at e
  exact congrArg some e
 ·rename_i q
  rw[q]at e
  have a:es.toList.any (·.refKey)=false:=by
   rw[List.any_eq_false]
   intro y hy
   obtain⟨z,t,hkey⟩:=hk y (Array.mem_toList_iff.mp hy)
   simp[DictEntry.refKey,hkey]
  have a':¬es.toList.any (·.refKey)=true:=by rw[a];exact qi
  rw[if_neg a']
  exact congrArg some e
theorem ObjM.look{h:Heap}{x dx C:Addr}{mA:Str->Option Value}(I:ObjM h x dx C mA):∃od,W.InstAt h x (W.instObj C dx) C (some od)/\∀name,W.lookIn name od=some (mA name):=
 let ⟨od,ho,hl⟩:=Yv5 I.ns
 ⟨od,⟨I.obj,rfl,rfl,ho⟩,hl⟩
theorem RelO.some_of{v:V}{o:Option Value}(r:RelO (some v) o):∃u,o=some u/\RelV v u:=by
 cases o with
 | none=>exact(show False from r).elim
 | some u=>exact⟨u,rfl,r⟩
section
variable {P:Program} {w:World} {H H':Hp} {h h':Heap} {a C dx:Addr} {fs fs':List (Str × V)}
theorem y3l(hok:HOk P w H h)(e:H a=some (.ins C dx fs)):∃mA,ObjM h a dx C mA/\(∀f,RelO (fs.lookup f) (mA f))/\PySem.Within mA (fs.map (·.1))/\fs.length<=1000/\H dx=some (.own a):=by
 obtain⟨d,z,ne,ob,mA,n,r,q⟩:=(show ObjOk P w H h a (.ins C dx fs) from hok a _ e)
 exact⟨mA,⟨ob,n,ne⟩,r,q,z,d⟩
end
structure Cls(K:W.Frag)(C:Addr):Prop where
 pg:W.plainGet K C Str.empty=true
 hd:W.hasDictIn K C=true
 po:W.plainOver K C=true
 sa:W.findIn K (.ref C) "__setattr__"=some (some (.builtin "object.__setattr__"))
theorem Cls.get{K:W.Frag}{C:Addr}(c:Cls K C)(f:Str):W.plainGet K C f=true:=c.pg
structure Con(K:W.Frag)(C:Addr)(f:Str)(v:V)(u:Value):Prop where
 at_:W.findIn K (.ref C) f=some (some u)
 rel:RelV v u
 get:W.specialIn K u "__get__"=some none
 cp:W.copiedNames.contains f=false
structure Meth(K:W.Frag)(C:Addr)(m:Str)(f:Addr):Prop where
 at_:W.findIn K (.ref C) m=some (some (.ref f))
 fn:W.isFn K (.ref f)=true
 kp:W.keepIn K (.ref f)=true
section
variable {X:Cx} {pins:List (Addr × Obj)} {σ:St} {H:Hp} {s:Shared} {A:Around} {E Q:Value->Shared->Prop} {c:Value} {b:Bool}
inductive TyOf (K:W.Frag) (H:Hp):V->Value->Prop where
 | non:TyOf K H .non (.type "NoneType")
 | bl (x:Bool):TyOf K H (.bl x) (.type "bool")
 | int (i:Int):TyOf K H (.int i) (.type "int")
 | str (x:Str):TyOf K H (.str x) (.type "str")
 | flt (x:UInt64):TyOf K H (.flt x) (.type "float")
 | lst {a:Addr} {xs:List V} (e:H a=some (.lst xs)):TyOf K H (.ref a) (.type "list")
 | frz {a:Addr} {o:Obj} {xs:List V} (e:H a=some (.frz o (.lst xs))):TyOf K H (.ref a) (.type "list")
 | tup {a:Addr} {xs:List V} (e:H a=some (.tup xs)):TyOf K H (.ref a) (.type "tuple")
 | dK {a:Addr} {kvs:List (Key × V)} (e:H a=some (.dK kvs)):TyOf K H (.ref a) (.type "dict")
 | dT {a:Addr} {kvs:List (List Key × V)} (e:H a=some (.dT kvs)):TyOf K H (.ref a) (.type "dict")
 | ins {a C dx:Addr} {fs:List (Str × V)} (e:H a=some (.ins C dx fs)) (cl:Cls K C) (ha:W.findIn K (.ref C) "__class__"=some (some (.builtin "object.__class__")))
  (hn:W.specialIn K (.builtin "object.__class__") "__get__"=some (some (.builtin "getset_descriptor.__get__"))) (htk:W.takesIn K (.builtin "object.__class__")=some true)
  (hm:W.mroIn K C (.type "object")=some true):TyOf K H (.ref a) (.ref C)
theorem Yv6{x:V}{u t:Value}(I:Inv X pins σ H s)(rx:RelV x u)(ty:TyOf X.K H x t)(e:W.kitOne X.K t c=some b)(h:∀tk,Q (.bool b) { s with toks:=tk }) :
 wpAny (model X.prog X.w) A (call (.builtin "isinstance") [u,c]) Q E s:=by
 cases ty with
 | non=>cases (show u=Value.none from rx);exact W.kia_one W.kitx_none I.kIn True.intro e (fun z=>nomatch z) h
 | bl y=>cases (show u=Value.bool y from rx);exact W.kia_one W.kitx_bool I.kIn True.intro e (fun z=>nomatch z) h
 | int i=>obtain⟨t,q⟩:=(show ∃t,u=Value.int i t from rx);cases q;exact W.kia_one W.kitx_int I.kIn True.intro e (fun z=>nomatch z) h
 | str y=>obtain⟨t,q⟩:=(show ∃t,u=Value.str y t from rx);cases q;exact W.kia_one W.kitx_str I.kIn True.intro e (fun z=>nomatch z) h
 | flt y=>obtain⟨t,q⟩:=(show ∃t,u=Value.float y t from rx);cases q;exact W.kia_one W.kitx_float I.kIn True.intro e (fun z=>nomatch z) h
 | @lst a xs ea=>
   cases (show u=Value.ref a from rx)
   obtain⟨_,_,n,_,h1⟩:=(show ObjOk X.prog X.w H s.heap a (.lst xs) from I.hok a _ ea)
   exact W.kia_one W.kitx_list I.kIn ⟨_,h1,rfl⟩ e (fun z=>nomatch z) h
 | @frz a ob xs ea=>
   cases (show u=Value.ref a from rx)
   obtain⟨_,_,_,n,_,h1⟩:=(show ObjOk X.prog X.w H s.heap a (.frz ob (.lst xs)) from I.hok a _ ea)
   exact W.kia_one W.kitx_list I.kIn ⟨_,h1,rfl⟩ e (fun z=>nomatch z) h
 | @tup a xs ea=>
   cases (show u=Value.ref a from rx)
   obtain⟨_,_,_,p⟩:=(show ObjOk X.prog X.w H s.heap a (.tup xs) from I.hok a _ ea)
   obtain⟨o,h1,h2,_⟩:=p
   exact W.kia_one W.kitx_tuple I.kIn ⟨o,h1,h2⟩ e (fun z=>nomatch z) h
 | @dK a kvs ea=>
   cases (show u=Value.ref a from rx)
   obtain⟨_,_,vs,_,p⟩:=(show ObjOk X.prog X.w H s.heap a (.dK kvs) from I.hok a _ ea)
   obtain⟨o,es,ep,h1,h2,_⟩:=p
   exact W.kia_one W.kitx_dict I.kIn ⟨o,h1,h2.1⟩ e (fun z=>nomatch z) h
 | @dT a kvs ea=>
   cases (show u=Value.ref a from rx)
   obtain⟨_,_,xs,_,o,es,ep,h1,h2,_⟩:=(show ObjOk X.prog X.w H s.heap a (.dT kvs) from I.hok a _ ea)
   exact W.kia_one W.kitx_dict I.kIn ⟨o,h1,h2.1⟩ e (fun z=>nomatch z) h
 | @ins a C dx fs ea cl ha hn htk hm=>
   cases (show u=Value.ref a from rx)
   obtain⟨mA,O,_⟩:=y3l I.hok ea
   obtain⟨od,J,_⟩:=O.look
   exact W.kia_one (W.kitx_own (cl.get _) cl.hd ha hn htk hm) I.kIn J e (fun z=>nomatch z) h
end
end L2
namespace L2
open PySem PySem.Spec PyProof.Rows
structure Room(k:Nat)(A:Around):Prop where
 hd:A.handled=none
 dp:A.depth+3 * k+5 < recursionLimit
 un:A.units+16 * k+200 < cLine
theorem Room.mono{j k:Nat}{A:Around}(r:Room k A)(h:j<=k):Room j A:=⟨r.hd,by have:=r.dp;lia,by have:=r.un;lia⟩
theorem Room.deeper{k:Nat}{A:Around}(r:Room (k+1) A)(env:Env):Room k (A.deeper env):=
 ⟨r.hd,by have:=r.dp;show A.depth+1+3 * k+5 < _;lia,by have:=r.un;show A.units+3+16 * k+200 < _;lia⟩
theorem Room.depth{k:Nat}{A:Around}(r:Room k A):A.depth < recursionLimit:=by have:=r.dp;lia
theorem Room.units{k:Nat}{A:Around}(r:Room k A):A.units+64 < cLine:=by have:=r.un;lia
def tNil:TA:=fun _ H Q=>Q [] H
def y9z(ta:TE)(tr:TA):TA:=fun σ H Q=>ta σ H fun x H1=>tr σ H1 fun xs H2=>Q (x::xs) H2
section
variable {X:Cx} {e:Expr} {es:List Expr} {te:TE} {t:TA} {pos:Pos}
theorem Yj8:PA X [] tNil:=fun _ _ _ _ H Q I h=>Calls.spliced_nil ⟨[],H,I,.nil,h⟩
theorem Yf1(ha:PE X e te)(hr:PA X es t)(hs:starEach (e::es) X.env=(false,eval e X.env)::starEach es X.env:=by rfl):PA X (e::es) (y9z te t):=by
 intro pos pins s σ H Q I h
 rw[hs]
 show wpAny _ _ (spliced ((false,eval e X.env)::backTo pos (starEach es X.env))) _ _ s
 refine Calls.spliced_cons (thn (ha pins s σ H _ I h) fun u s1 hx_=>?_)
 obtain⟨x,H1,I1,r1,q1⟩:=hx_
 refine thn (hr pos pins s1 σ H1 _ I1 q1) fun us s2 hx_=>?_
 obtain⟨xs,H2,I2,r2,q2⟩:=hx_
 exact⟨x::xs,H2,I2,.cons r1 r2,q2⟩
def tTup(t:TA):TE:=fun σ H Q=>t σ H fun xs H1=>xs.length<=sizeLine/\∀p,H1 p=none->Q (.ref p) (upd H1 p (.tup xs))
def tLst(t:TA):TE:=fun σ H Q=>t σ H fun xs H1=>xs.length<=sizeLine/\∀p,H1 p=none->Q (.ref p) (upd H1 p (.lst xs))
theorem y6v{x1}(h:PA X es t):PE X (.Tuple es x1 pos) (tTup t):=by
 intro pins s σ H Q I hq
 refine wpAny_Tuple_spliced (thn (h pos pins s σ H _ I hq) fun us s1 ⟨xs,H1,I1,r,z,q⟩=>⟨by rw[<-r.length];exact z,?_⟩)
 have hf:H1 s1.heap.objs.size=none:=I1.hok.fresh (qu _)
 refine⟨.ref s1.heap.objs.size,upd H1 s1.heap.objs.size (.tup xs),I1.laid (t':=s1.toks) (fun b u e=>qe _ e) (qu _) ?_,rfl,q _ hf⟩
 exact⟨z,us,r,⟨_,qp _ rfl,rfl,_,rfl⟩⟩
theorem y6w(h:PA X es t):PE X (.List es pos) (tLst t):=by
 intro pins s σ H Q I hq
 refine wpAny_List_spliced (thn (h pos pins s σ H _ I hq) fun us s1 ⟨xs,H1,I1,r,z,q⟩=>⟨by rw[<-r.length];exact z,?_⟩)
 have hf:H1 s1.heap.objs.size=none:=I1.hok.fresh (qu _)
 refine⟨.ref s1.heap.objs.size,upd H1 s1.heap.objs.size (.lst xs),I1.laid (t':=s1.toks) (fun b u e=>qe _ e) (qu _) ?_,rfl,q _ hf⟩
 exact⟨z,us,0,r,qp _ rfl⟩
end
abbrev Sp:=List V->Hp->VK->XK->Prop
abbrev CXT:=List Env->Hp->Shared->XK->Value->Shared->Prop
structure Env0(P:Program)(w:World)(K:W.Frag)(mg:Str->Option Value)(base:Heap)(A:Around)(outer:List Env)(s:Shared)(H:Hp):Prop where
 frames:A.frames=some outer
 mod:Mod K mg base
 bs:∀b o,base.get? b=some o->s.heap.get? b=some o/\H b=none
 bsz:base.objs.size<=s.heap.objs.size
 funs:s.heap.FunFrames base outer
 frf:∀b∈frs outer,H b=none
 hok:HOk P w H s.heap
 bare:AllBare s.gens
def CE(outer:List Env)(P:Program)(w:World)(H:Hp)(s:Shared)(Q:VK)(u:Value)(s':Shared):Prop:=
 ∃v H',s'.os=s.os/\AllBare s'.gens/\Un (frs outer) [] H H' s.heap s'.heap/\HOk P w H' s'.heap/\RelV v u/\Q v H'
def CR(CX:CXT)(outer:List Env)(P:Program)(w:World)(H:Hp)(s:Shared)(Q:VK)(E:XK)(r:Result)(s':Shared):Prop:=
 match r with
 | .ok (.ret u)=>CE outer P w H s Q u s'
 | .ok _=>False
 | .error e=>CX outer H s E e s'
structure FnOk(P:Program)(w:World)(K:W.Frag)(mg:Str->Option Value)(base:Heap)(CX:CXT)(k:Nat)(f:Addr)(fd:FuncData)(ps:List Str)(sp:Sp):Prop where
 len:∀vs H Q E,sp vs H Q E->vs.length=ps.length
 run:∀(A:Around) (outer:List Env) (s:Shared) (H:Hp) (args:Args) (us:List Value) (vs:List V) (Q:VK) (E:XK),Room k A->Env0 P w K mg base A outer s H->BindsTo s fd args (ps.zip us)->Vals vs us->sp vs H Q E->
  codeAny (model P w) A (.call (.ref f) args) (CR CX outer P w H s Q E) s
section
variable {X:Cx} {pins:List (Addr × Obj)} {σ:St} {H:Hp} {s s':Shared}
theorem Inv.env0(I:Inv X pins σ H s):Env0 X.prog X.w X.K X.mg X.base X.A X.stack s H:=
 ⟨I.ok.frames,I.ok.mod,I.bs,Qj I.ok.bsz I.sz,I.stack,I.stkFree,I.hok,I.bare⟩
theorem Inv.after{Q:VK}{u:Value}(I:Inv X pins σ H s)(h:CE X.stack X.prog X.w H s Q u s'):EP X pins σ Q u s':=by
 obtain⟨v,H',os,bare,un,hok,r,q⟩:=h
 obtain⟨hh,g,d,t,os'⟩:=s'
 obtain rfl:os'=s.os:=os
 exact⟨v,H',I.call (h':=hh) (g':=g) (d':=d) (t':=t) (ch:=[]) un hok bare (fun b z=>absurd z (by simp)),r,q⟩
end
def y90(sp:Sp)(dvs:List V)(E:XK)(t:TA):TE:=fun σ H Q=>t σ H fun vs H1=>sp (vs++dvs) H1 Q E
def Binds(K:W.Frag)(fd:FuncData)(ps:List Str)(ds:List Value):Prop:=
 ∀(s:Shared) (us:List Value),K.In s.heap->(us++ds).length=ps.length->BindsTo s fd ⟨us,[]⟩ (ps.zip (us++ds))
theorem Binds.all{K:W.Frag}{fd:FuncData}{ps:List Str}(h:∀us:List Value,us.length=ps.length->bindArgs fd ⟨us,[]⟩=pure (ps.zip us)):Binds K fd ps []:=fun s us _ hl=>by
 rw[List.append_nil]at hl ⊢
 exact .of_eq (h us hl)
def Yv7(CX:CXT)(X:Cx)(E:XK):Prop:=∀(pins:List (Addr × Obj)) (σ:St) (H:Hp) (s:Shared) (e:Value) (s':Shared),Inv X pins σ H s->CX X.stack H s E e s'->X.xe e s'
section
variable {X:Cx} {CX:CXT} {k:Nat} {f C:Addr} {fd:FuncData} {ps:List Str} {sp:Sp} {dvs:List V} {ds:List Value} {E:XK} {x m:Str} {p pos apos:Pos} {e o:Expr} {es:List Expr} {ta:TE} {t:TA}
theorem y6x{pins:List (Addr × Obj)}{σ:St}{H:Hp}{s:Shared}{Q:VK}{us:List Value}{vs:List V}(F:FnOk X.prog X.w X.K X.mg X.base CX k f fd ps sp)(hr:Room k X.A)(hb:Binds X.K fd ps ds)(hd:Vals dvs ds)(hx:Yv7 CX X E)
 (I:Inv X pins σ H s) (r:Vals vs us) (h:sp (vs++dvs) H Q E):wpAny (model X.prog X.w) X.A (call (.ref f) us) (EP X pins σ Q) X.xe s:=by
 have r2:Vals (vs++dvs) (us++ds):=r.append hd
 have hl:(us++ds).length=ps.length:=by rw[<-r2.length];exact F.len _ _ _ _ h
 refine wpAny_call (codeAny_mono (F.run X.A X.stack s H ⟨us,[]⟩ (us++ds) (vs++dvs) Q E hr I.env0 (hb s us I.kIn hl) r2 h) fun r s' hq=>?_)
 cases r with
 | error e=>exact hx pins σ H s e s' I hq
 | ok fl=>
   cases fl with
   | ret u=>exact I.after hq
   | next=>exact False.elim hq
   | brk=>exact False.elim hq
   | cont=>exact False.elim hq
theorem y3m(F:FnOk X.prog X.w X.K X.mg X.base CX k f fd ps sp)(hr:Room k X.A)(hg:Gl X x)(hm:X.mg x=some (.ref f))(hk:W.keepIn X.K (.ref f)=true)(hb:Binds X.K fd ps ds)(hd:Vals dvs ds)(hx:Yv7 CX X E)
 (ha:PA X (e::es) t) (hdb:(x==("__debug__":Str))=false:=by decide) (he:starEach (e::es) X.env=(false,eval e X.env)::starEach es X.env:=by rfl) (hpl:(backTo pos (starEach es X.env)).any (·.1)=false:=by rfl) :
 PE X (.Call (.Name x p) (e::es) [] pos) (y90 sp dvs E t):=by
 intro pins s σ H Q I h
 refine wpAny_Call_Name_kw (Yvx I hg hm ?_ hdb)
 refine W.callWith_K (h₀:=X.base) I.ok.mod.kin hk (thn (ha pos pins s σ H _ I h) fun us s1 hx_=>?_) he hpl
 obtain⟨vs,H1,I1,r,q⟩:=hx_
 refine⟨I1.kIn,?_⟩
 exact y6x F hr hb hd hx I1 r q
structure Mk(K:W.Frag)(C f:Addr):Prop where
 makes:W.makesIn K C=true
 init:W.findIn K (.ref C) "__init__"=some (some (.ref f))
 fn:W.isFn K (.ref f)=true
 kp:W.keepIn K (.ref C)=true
end
section
variable {X:Cx} {CX:CXT} {k:Nat} {f C:Addr} {fd:FuncData} {ps ks:List Str} {sp:Sp} {E:XK} {x m:Str} {p pos apos kpos:Pos} {e o:Expr} {es:List Expr} {kws:List Keyword} {te ta:TE} {t tk:TA} {nm:Option Str}
structure KBinds(K:W.Frag)(fd:FuncData)(ps ks:List Str)(g:List Value->List Value->List Value)(gV:List V->List V->List V):Prop where
 to:∀(s:Shared) (us ws:List Value),K.In s.heap->(g us ws).length=ps.length->BindsTo s fd ⟨us,ks.zip ws⟩ (ps.zip (g us ws))
 rel:∀{vs:List V} {us:List Value} {zs:List V} {ws:List Value},Vals vs us->Vals zs ws->Vals (gV vs zs) (g us ws)
variable {g:List Value->List Value->List Value} {gV:List V->List V->List V}
end
structure FnScope(N P:List Str)(sc:Scope):Prop where
 kind:sc.kind=.function
 co:sc.isCoroutine=false
 gen:sc.isGenerator=false
 nd:N.Nodup
 pre:N.take P.length=P
 par:∀x∈P,sc.names.lookup x=some .local\/sc.names.lookup x=some .cell
 nofree:∀y∈sc.names,y.2≠.free
theorem Yph{kindOf:Str->Option NameKind}{x:Str}:∀{binds:List (Str × Value)} {m:Str->Option Value},(∀v,(x,v)∉binds)->bindL kindOf binds m x=m x
 | [],_,_=>rfl
 | (n,v)::r,m,h=>by
   unfold bindL
   rw[Yph fun w hw=>h w (qg _ hw)]
   split
   ·have:x≠n:=by rintro rfl;exact h v qh
    simp[this]
   ·rfl
theorem Ypi{kindOf:Str->Option NameKind}{x:Str}:∀{binds:List (Str × Value)} {m:Str->Option Value},(∀v,(x,v)∉binds)->bindC kindOf binds m x=m x
 | [],_,_=>rfl
 | (n,v)::r,m,h=>by
   unfold bindC
   rw[Ypi fun w hw=>h w (qg _ hw)]
   split
   ·rfl
   ·have:x≠n:=by rintro rfl;exact h v qh
    simp[this]
theorem Ypj{kindOf:Str->Option NameKind}{x:Str}{v:Value}:∀{P:List Str} {vs:List Value} {i:Nat} {m:Str->Option Value},P.Nodup->P[i]?=some x->vs[i]?=some v->kindOf x=some .local->
 bindL kindOf (P.zip vs) m x=some v
 | [],_,_,_,_,h,_,_=>by simp at h
 | _::_,[],_,_,_,_,h,_=>by simp at h
 | p::P,w::vs,0,m,nd,h1,h2,hk=>by
   simp at h1 h2;subst h1;subst h2
   show bindL kindOf ((p,w)::P.zip vs) m p=_
   unfold bindL
   rw[Yph fun v hv=>(List.nodup_cons.mp nd).1 (List.of_mem_zip hv).1,if_pos hk]
   simp
 | p::P,w::vs,i+1,m,nd,h1,h2,hk=>by
   show bindL kindOf ((p,w)::P.zip vs) m x=_
   unfold bindL
   exact Ypj (i:=i) (List.nodup_cons.mp nd).2 (by simpa using h1) (by simpa using h2) hk
theorem Ypk{kindOf:Str->Option NameKind}{x:Str}{v:Value}:∀{P:List Str} {vs:List Value} {i:Nat} {m:Str->Option Value},P.Nodup->P[i]?=some x->vs[i]?=some v->kindOf x≠some .local->
 bindC kindOf (P.zip vs) m x=some v
 | [],_,_,_,_,h,_,_=>by simp at h
 | _::_,[],_,_,_,_,h,_=>by simp at h
 | p::P,w::vs,0,m,nd,h1,h2,hk=>by
   simp at h1 h2;subst h1;subst h2
   show bindC kindOf ((p,w)::P.zip vs) m p=_
   unfold bindC
   rw[Ypi fun v hv=>(List.nodup_cons.mp nd).1 (List.of_mem_zip hv).1,if_neg hk]
   simp
 | p::P,w::vs,i+1,m,nd,h1,h2,hk=>by
   show bindC kindOf ((p,w)::P.zip vs) m x=_
   unfold bindC
   exact Ypk (i:=i) (List.nodup_cons.mp nd).2 (by simpa using h1) (by simpa using h2) hk
def start(N:List Str)(vs:List V):St:=vs.map some++List.replicate (N.length - vs.length) none
def cxOf(CX:CXT)(P:Program)(w:World)(K:W.Frag)(mg:Str->Option Value)(base:Heap)(N:List Str)(qual:Str)(scope:Scope)(f:Addr)(cd:Value)(A:Around)(outer:List Env)(s:Shared)(H:Hp)(E:XK):Cx where
 prog:=P
 w:=w
 K:=K
 mg:=mg
 base:=base
 A:=A.deeper (envOfC qual scope s.heap.objs.size f cd)
 N:=N
 s₀:=s
 H₀:=H
 env:=envOfC qual scope s.heap.objs.size f cd
 outer:=outer
 stack:=envOfC qual scope s.heap.objs.size f cd::outer
 ex:=[]
 calm:=true
 fn:=fun _=>true
 pn:=[]
 xe:=fun e s'=>wpAny (model P w) (A.deeper (envOfC qual scope s.heap.objs.size f cd)) (leaving (envOfC qual scope s.heap.objs.size f cd) e) (fun _ s''=>CX outer H s E e s'') (fun e' s''=>CX outer H s E e' s'') s'
theorem Ytc{sc:Scope}{n:Nat}{x:Str}(h:sc.names.lookup x=some .cell):∃c,(cellsFrom n sc.names []).lookup x=some c:=by
 have q:=PySem.W.cellsFrom_some sc.names n [] (.inl h)
 exact Option.isSome_iff_exists.mp q
theorem Yv8{CX:CXT}{P:Program}{w:World}{K:W.Frag}{mg:Str->Option Value}{base:Heap}{N ps:List Str}{qual:Str}{scope:Scope}{f:Addr}{cd:Value}{A:Around}{outer:List Env}{s s1:Shared}{H:Hp}{E:XK}{us:List Value}{vs:List V}
 (S:FnScope N ps scope) (hd:A.handled=none) (e0:Env0 P w K mg base A outer s H) (hl:vs.length=ps.length) (r:Vals vs us)
 (x:InCallC s s.heap.objs.size (bindL (envOfC qual scope s.heap.objs.size f cd).kindOf (ps.zip us) fun _=>none) (cellsFrom (s.heap.objs.size+1) scope.names []) (bindC (envOfC qual scope s.heap.objs.size f cd).kindOf (ps.zip us) fun _=>none) s1) :
 Inv (cxOf CX P w K mg base N qual scope f cd A outer s H E) [] (start N vs) H s1:=by
 have hpl:ps.length<=N.length:=by have:=congrArg List.length S.pre;rw[List.length_take]at this;lia
 obtain⟨h1,tk,rfl,hk⟩:=x.done
 have noA:∀b:Addr,b∉(cxOf CX P w K mg base N qual scope f cd A outer s H E).ex:=fun b z=>absurd (show b∈([]:List Addr) from z) (by simp)
 refine⟨⟨e0.mod,S.kind,rfl,rfl,qu _,fun y z c h1 h2=>?_,fun y hy=>?_,fun y c _ h=>?_,fun _=>hd,Around.frames_deeper e0.frames,.inr ⟨rfl,rfl⟩,fun b z=>absurd z (noA b),e0.bs,e0.bsz,fun b _ _=>noA b,fun b z=>absurd z (noA b),e0.funs,e0.frf⟩,
  rfl,e0.bare,Un.kept hk,⟨_,x.toInCall.ns,fun i y v h1 h2 h3=>?_⟩,fun y c h=>⟨_,x.cell y c h⟩,e0.hok.fresh (qu _),fun y c h=>?_,fun p hp=>absurd (show p∈([]:List (Addr × Obj)) from hp) (by simp),e0.hok.kept hk,?_⟩
 ·exact name_of_addr x.apart (PySem.mem_of_lookup h1) (PySem.mem_of_lookup h2)
 ·have hy:scope.names.lookup y=some .cell\/scope.names.lookup y=some .free:=hy
  rcases hy with hy | hy
  ·exact Ytc hy
  ·exact absurd rfl (S.nofree _ (PySem.mem_of_lookup hy))
 ·exact Nat.le_of_lt (x.above y c (PySem.mem_of_lookup h))
 ·have hi:i < vs.length:=by
   unfold start at h2
   by_cases hi:i < vs.length
   ·exact hi
   ·rw[List.getElem?_append_right (by simpa using hi)]at h2
    rw[List.getElem?_replicate]at h2
    split at h2<;>cases h2
  have ha:vs[i]?=some v:=by
   unfold start at h2
   rw[Qr (by simpa using hi),Qg]at h2
   cases e:vs[i]? with
   | none=>rw[e]at h2;cases h2
   | some a=>rw[e]at h2;cases h2;rfl
  obtain⟨u,hu,rv⟩:=r.get ha
  have hp:ps[i]?=some y:=by
   rw[<-S.pre,List.getElem?_take_of_lt (by lia)];exact h1
  have ndP:ps.Nodup:=by rw[<-S.pre];exact S.nd.sublist (List.take_sublist _ _)
  refine⟨u,rv,?_⟩
  rcases S.par y (List.mem_of_getElem? hp)with k | k
  ·exact .inl ⟨k,Ypj ndP hp hu k⟩
  ·obtain⟨c,e⟩:=Ytc (n:=s.heap.objs.size+1) k
   refine .inr ⟨.inl k,c,e,?_⟩
   have q:=x.cell y c e
   rw[Ypk ndP hp hu (by show scope.names.lookup y≠_;rw[k];decide)]at q
   exact q
 ·exact e0.hok.fresh (Nat.le_of_lt (x.above y c (PySem.mem_of_lookup h)))
 ·unfold start
  show _=N.length
  rw[qy,qf,List.length_replicate]
  lia
theorem y91{CX:CXT}{P:Program}{w:World}{K:W.Frag}{mg:Str->Option Value}{base:Heap}{k:Nat}{f:Addr}{name qual:Str}{params:Arguments}{body:List Stmt}{scope:Scope}{dV kV doc pm cdv ct oc:Value}{an od:Option Addr}
 {osl:Array (Option Value)} {N ps:List Str} {sp:Sp} (lk:K.lookup f=some ⟨oc,od,.func (W.fnOf name qual params body scope dV kV doc pm an cdv ct),osl⟩) (hcd:W.codeIn K cdv qual=true) (S:FnScope N ps scope)
 (len:∀vs H Q E,sp vs H Q E->vs.length=ps.length)
 (hbody:∀(A:Around) (outer:List Env) (s:Shared) (H:Hp) (vs:List V) (Q:VK) (E:XK),Room k (A.deeper (envOfC qual scope s.heap.objs.size f cdv))->sp vs H Q E->
  ∃t,PSs (cxOf CX P w K mg base N qual scope f cdv A outer s H E) body t/\t { nx:=fun _ H'=>Q .non H',rt:=Q } (start N vs) H) :
 FnOk P w K mg base CX (k+1) f (W.fnOf name qual params body scope dV kV doc pm an cdv ct) ps sp:=by
 refine⟨len,fun A outer s H args us vs Q E hr e0 hb r hsp=>?_⟩
 have hl:=len _ _ _ _ hsp
 have KX:K.In s.heap:=e0.mod.kin.keeps fun b o e=>(e0.bs b o e).1
 have lim:s.heap.NoLimit:=e0.mod.nolimit.keeps fun b o e=>(e0.bs b o e).1
 have hkind:∀y∈ps.zip us,scope.names.lookup y.1=some .local\/(scope.names.lookup y.1=some .cell/\((cellsFrom (s.heap.objs.size+1) scope.names []).lookup y.1).isSome=true):=fun⟨n,v⟩ hy=>by
  rcases S.par n (List.of_mem_zip hy).1 with q | q
  ·exact .inl q
  ·exact .inr ⟨q,PySem.W.cellsFrom_some _ _ _ (.inl q)⟩
 refine codeAny_call_function hr.depth (KX _ _ lk) rfl S.co S.gen rfl (W.codeRec_of KX hcd) (hb _ _ _ _ ?_)
 refine wpAny_newFunctionEnv_cells S.kind hkind fun env he s1 x=>?_
 subst he
 refine⟨lim.keeps x.toInCall.keep,codeAny_func ?_⟩
 obtain⟨t,ht,hq⟩:=hbody A outer s H vs Q E (hr.deeper _) hsp
 have I:Inv (cxOf CX P w K mg base N qual scope f cdv A outer s H E) [] (start N vs) H s1:=Yv8 S hr.hd e0 hl r x
 refine wpAny_mono (ht [] s1 (start N vs) H _ I hq) (fun fl s' hs=>?_) fun e s' hs=>hs
 have fin:∀{σ':St} {H':Hp} {v:V} {u:Value},Inv (cxOf CX P w K mg base N qual scope f cdv A outer s H E) [] σ' H' s'->RelV v u->Q v H'->CE outer P w H s Q u s':=
  fun {σ' H' v u} J rv q=>⟨v,H',J.os,J.bare,J.base,J.hok,rv,q⟩
 cases fl with
 | ret u=>
   obtain⟨v,σ',H',J,rv,q⟩:=hs
   exact fin J rv q
 | next=>
   obtain⟨σ',H',J,q⟩:=hs
   exact fin (v:=V.non) (u:=Value.none) J rfl q
 | brk=>
   obtain⟨_,_,_,q⟩:=hs
   exact False.elim q
 | cont=>
   obtain⟨_,_,_,q⟩:=hs
   exact False.elim q
end L2
namespace L2
open PySem PySem.Spec PyProof.Rows
section
variable {X:Cx} {x:Str} {p pos:Pos} {e:Expr} {es:List Expr} {t:TA} {id T:String} {r:List V->Hp->VK->Prop}
def tCB(r:List V->Hp->VK->Prop)(t:TA):TE:=fun σ H Q=>t σ H fun vs H1=>r vs H1 Q
theorem Yj1(hc:Ydl X (.builtin id) r)(hg:Gl X x)(hm:X.mg x=none)(hv:bootBuiltins x=some (.builtin id))(ha:PA X (e::es) t)(hn:x≠"__name__":=by decide)(hdb:(x==("__debug__":Str))=false:=by decide)
 (he:starEach (e::es) X.env=(false,eval e X.env)::starEach es X.env:=by rfl) (hpl:(backTo pos (starEach es X.env)).any (·.1)=false:=by rfl):PE X (.Call (.Name x p) (e::es) [] pos) (tCB r t):=by
 intro pins s σ H Q I h
 refine wpAny_Call_Name_kw (Yj7 I hg hm hv ?_ hn hdb)
 refine PyProof.Rows.callWith_builtin1 (thn (ha pos pins s σ H _ I h) fun us s1 hx_=>?_) he hpl
 obtain⟨vs,H1,I1,r1,q1⟩:=hx_
 exact hc pins s1 σ H1 vs us Q I1 r1 q1
theorem Yf2(hc:Ydl X (.type T) r)(hg:Gl X x)(hm:X.mg x=none)(hv:bootBuiltins x=some (.type T))(ha:PA X (e::es) t)(hn:x≠"__name__":=by decide)(hdb:(x==("__debug__":Str))=false:=by decide)
 (he:starEach (e::es) X.env=(false,eval e X.env)::starEach es X.env:=by rfl) (hpl:(backTo pos (starEach es X.env)).any (·.1)=false:=by rfl):PE X (.Call (.Name x p) (e::es) [] pos) (tCB r t):=by
 intro pins s σ H Q I h
 refine wpAny_Call_Name_kw (Yj7 I hg hm hv ?_ hn hdb)
 refine PyProof.Rows.callWith_type1 (thn (ha pos pins s σ H _ I h) fun us s1 hx_=>?_) he hpl
 obtain⟨vs,H1,I1,r1,q1⟩:=hx_
 exact hc pins s1 σ H1 vs us Q I1 r1 q1
end
end L2
namespace L2
open PySem PySem.Spec PyProof.Rows
section
variable {κ:Type} [DecidableEq κ]
def valV(kvs:List (κ × V))(k:κ):Option V:=(kvs.find? fun kv=>decide (kv.1=k)).map (·.2)
def putK(kvs:List (κ × V))(k:κ)(v:V):List (κ × V):=
 if (kvs.any fun kv=>decide (kv.1=k))=true then kvs.map (fun kv=>if kv.1=k then (kv.1,v)else kv)else kvs++[(k,v)]
theorem Ym7{p:κ × V}{r:List (κ × V)}{k:κ}(e:p.1=k):valV (p::r) k=some p.2:=by simp[valV,List.find?_cons,e]
theorem Ym8{p:κ × V}{r:List (κ × V)}{k:κ}(e:¬p.1=k):valV (p::r) k=valV r k:=by simp[valV,List.find?_cons,e]
theorem Yrn(kvs:List (κ × V))(k:κ)(v:V):(putK kvs k v).length<=kvs.length+1:=by
 unfold putK
 split
 ·rw[qf];lia
 ·rw[qy,qr,List.length_nil];lia
theorem RelO.isSome_eq{o:Option V}{u:Option Value}(r:RelO o u):o.isSome=u.isSome:=by
 cases o with
 | none=>cases u with
   | none=>rfl
   | some _=>exact(show False from r).elim
 | some _=>cases u with
   | none=>exact(show False from r).elim
   | some _=>rfl
theorem KV.val{kvs:List (κ × V)}{vs:List (κ × Value)}(r:KV kvs vs)(k:κ):RelO (valV kvs k) (valueAt vs k):=by
 unfold KV at r
 induction r with
 | nil=>exact True.intro
 | @cons p q ps qs h t ih=>
   obtain⟨h1,h2⟩:=h
   by_cases e:p.1=k
   ·have e':q.1=k:=h1.symm.trans e
    have b:valueAt (q::qs) k=some q.2:=by simp[valueAt,List.find?_cons,e']
    rw[Ym7 e,b];exact h2
   ·have e':¬q.1=k:=fun z=>e (h1.trans z)
    have b:valueAt (q::qs) k=valueAt qs k:=by simp[valueAt,List.find?_cons,e']
    rw[Ym8 e,b];exact ih
theorem KV.any{kvs:List (κ × V)}{vs:List (κ × Value)}(r:KV kvs vs)(k:κ):(kvs.any fun kv=>decide (kv.1=k))=vs.any fun kv=>decide (kv.1=k):=by
 unfold KV at r
 induction r with
 | nil=>rfl
 | cons h t ih=>rw[List.any_cons,List.any_cons,ih,h.1]
theorem KV.repl{kvs:List (κ × V)}{vs:List (κ × Value)}(r:KV kvs vs)(k:κ){y:V}{u:Value}(ry:RelV y u) :
 KV (kvs.map fun kv=>if kv.1=k then (kv.1,y)else kv) (vs.map fun kv=>if kv.1=k then (kv.1,u)else kv):=by
 unfold KV at r ⊢
 induction r with
 | nil=>exact .nil
 | @cons p q ps qs h t ih=>
   rw[Qc,Qc]
   refine .cons ?_ ih
   obtain⟨h1,h2⟩:=h
   by_cases e:p.1=k
   ·rw[if_pos e,if_pos (h1.symm.trans e)];exact⟨h1,ry⟩
   ·rw[if_neg e,if_neg (fun z=>e (h1.trans z))];exact⟨h1,h2⟩
theorem KV.put{kvs:List (κ × V)}{vs:List (κ × Value)}(r:KV kvs vs)(k:κ){y:V}{u:Value}(ry:RelV y u):KV (putK kvs k y) (stored vs k u):=by
 unfold putK stored
 rw[r.any k]
 by_cases e:(vs.any fun kv=>decide (kv.1=k))=true
 ·rw[if_pos e,if_pos e];exact r.repl k ry
 ·rw[if_neg e,if_neg e];exact Paired.snoc r ⟨rfl,ry⟩
theorem KV.length{kvs:List (κ × V)}{vs:List (κ × Value)}(r:KV kvs vs):kvs.length=vs.length:=Paired.length r
end
theorem Yz8{P:Program}{w:World}{k:Key}{u:Value}(r:RelV (kV k) u):(Yay P w).is k u=true:=by
 cases k with
 | inl i=>obtain⟨t,e⟩:=(show ∃t,u=Value.int i t from r);subst e;exact Yrk P w i t
 | inr x=>obtain⟨t,e⟩:=(show ∃t,u=Value.str x t from r);subst e;exact Yrl P w x t
theorem Ypl{P:Program}{w:World}:∀{ks:List Key} {us:List Value},Vals (ks.map kV) us->ItemsAre (Yay P w) ks us
 | [],_,r=>by rw[List.map_nil]at r;cases r;exact .nil
 | k::ks,_,r=>by
   rw[Qc]at r
   cases r with
   | cons h t=>exact .cons (Yz8 h) (Ypl t)
abbrev KT(H:Hp):List (List Key × V)->List (List Key × Addr × Value)->Prop:=Paired fun p q=>p.1=q.1/\H q.2.1=some (.tup (p.1.map kV))/\RelV p.2 q.2.2
theorem KT.val{H:Hp}{kvs:List (List Key × V)}{xs:List (List Key × Addr × Value)}(r:KT H kvs xs)(k:List Key):RelO (valV kvs k) ((atKey xs k).map (·.2)):=by
 induction r with
 | nil=>exact True.intro
 | @cons p q ps qs h t ih=>
   obtain⟨h1,_,h2⟩:=h
   by_cases e:p.1=k
   ·have e':q.1=k:=h1.symm.trans e
    have b:atKey (q::qs) k=some q.2:=by simp[atKey,List.find?_cons,e']
    rw[Ym7 e,b];exact h2
   ·have e':¬q.1=k:=fun z=>e (h1.trans z)
    have b:atKey (q::qs) k=atKey qs k:=by simp[atKey,List.find?_cons,e']
    rw[Ym8 e,b];exact ih
section
variable {P:Program} {w:World} {H:Hp} {h:Heap} {a:Addr}
theorem y6y{u:HO}(ok:HOk P w H h)(e:Rd H a u):ObjOk P w H h a u:=e.ok ok
theorem Yz9{kvs:List (Key × V)}(ok:HOk P w H h)(e:Rd H a (.dK kvs)):kvs.length<=sizeLine/\(a==sysModules)=false/\∃vs,KV kvs vs/\h.DictOf (Yay P w) a vs:=
 show ObjOk P w H h a (.dK kvs) from y6y ok e
theorem y92{kvs:List (Key × V)}(ok:HOk P w H h)(e:H a=some (.dK kvs)):kvs.length<=sizeLine/\(a==sysModules)=false/\∃vs,KV kvs vs/\h.DictOf (Yay P w) a vs:=Yz9 ok (.inl e)
theorem Yv9{ks:List Key}(ok:HOk P w H h)(e:H a=some (.tup (ks.map kV))):(tupleKind (Yay P w)).is h ks a:=by
 obtain⟨_,its,r,o,h1,h2,n,h3⟩:=(show ObjOk P w H h a (.tup (ks.map kV)) from ok a _ e)
 exact⟨o,its.toArray,n,h1,h2,h3,by simpa using Ypl r⟩
theorem y3n{kvs:List (List Key × V)}(ok:HOk P w H h)(e:Rd H a (.dT kvs)):kvs.length<=sizeLine/\(a==sysModules)=false/\
 ∃xs,KT H kvs xs/\h.DictOfH (tupleKind (Yay P w)) a xs:=by
 obtain⟨z,y,xs,r,o,es,ep,h1,h2,h3,h4,h5⟩:=(show ObjOk P w H h a (.dT kvs) from y6y ok e)
 refine⟨z,y,xs,r,o,es,ep,h1,h2,h3,h4,fun x hx=>?_,h5⟩
 have all:∀{l:List (List Key × V)} {m:List (List Key × Addr × Value)},KT H l m->∀x∈m,(tupleKind (Yay P w)).is h x.1 x.2.1:=by
  intro l m q
  induction q with
  | nil=>intro x hx;exact nomatch hx
  | @cons p q ps qs hq t ih=>
    intro x hx
    rcases qt hx with e | hx
    ·subst e
     exact Yv9 ok (by rw[<-hq.1];exact hq.2.1)
    ·exact ih x hx
 exact all r x hx
end
def DGet(H:Hp)(a:Addr)(y:V)(r:Option V):Prop:=
 (∃kvs k,Rd H a (.dK kvs)/\y=kV k/\r=valV kvs k)\/∃kvs k b,Rd H a (.dT kvs)/\y=.ref b/\H b=some (.tup (k.map kV))/\r=valV kvs k
theorem DGet.k{H:Hp}{a:Addr}{kvs:List (Key × V)}{k:Key}(e:H a=some (.dK kvs)):DGet H a (kV k) (valV kvs k):=.inl ⟨kvs,k,.inl e,rfl,rfl⟩
section
variable {X:Cx} {pins:List (Addr × Obj)} {σ:St} {H:Hp} {s:Shared} {a:Addr} {y v:V} {u r:Value} {o:Option V} {A:Around} {E:Value->Shared->Prop}
theorem Inv.big(I:Inv X pins σ H s):sysModules < s.heap.objs.size:=by
 have h:mainGlobals < s.heap.objs.size:=(I.mod.glob.keeps I.bk).lt
 exact Nat.lt_trans (by decide) h
theorem Ywa{Q:Value->Shared->Prop}(hu:A.units+1 < cLine)(I:Inv X pins σ H s)(g:DGet H a y (some v))(ry:RelV y u)(h:∀w' s',Inv X pins σ H s'->RelV v w'->Q w' s') :
 wpAny (model X.prog X.w) A (getItem (.ref a) u) Q E s:=by
 rcases g with⟨kvs,k,e,ey,l⟩ | ⟨kvs,k,b,e,ey,eb,l⟩
 ·subst ey
  obtain⟨z,hd,vs,rel,dd⟩:=Yz9 I.hok e
  obtain⟨w',hw,rw'⟩:=RelO.some_of (v:=v) (o:=valueAt vs k) (by rw[l];exact rel.val k)
  exact wpAny_getItem_of (Yz8 ry) dd.mapOf hw (h w' _ (I.tok _) rw')
 ·subst ey
  cases (show u=Value.ref b from ry)
  obtain⟨z,hd,xs,rel,dd⟩:=y3n I.hok e
  obtain⟨w',hw,rw'⟩:=RelO.some_of (v:=v) (o:=(atKey xs k).map (·.2)) (by rw[l];exact rel.val k)
  obtain⟨p,hp,hp2⟩:=qc hw
  refine wpAny_getItem_heap (tupleKind_room_in1 hu) (Yv9 I.hok eb) dd hp ?_
  rw[hp2]
  exact h w' _ (I.tok _) rw'
theorem y3o{Q:Value->Shared->Prop}(hu:A.units+1 < cLine)(I:Inv X pins σ H s)(g:DGet H a y o)(ry:RelV y u)(h:∀s',Inv X pins σ H s'->Q (.bool (!o.isSome)) s') :
 wpAny (model X.prog X.w) A (compareOp .NotIn u (.ref a)) Q E s:=by
 rcases g with⟨kvs,k,e,ey,l⟩ | ⟨kvs,k,b,e,ey,eb,l⟩
 ·subst ey
  obtain⟨z,hd,vs,rel,dd⟩:=Yz9 I.hok e
  refine wpAny_notIn_of (Yz8 ry) hd dd.mapOf ?_
  rw[<-(rel.val k).isSome_eq,<-l]
  exact h _ (I.tok _)
 ·subst ey
  cases (show u=Value.ref b from ry)
  obtain⟨z,hd,xs,rel,dd⟩:=y3n I.hok e
  refine wpAny_notIn_heap (tupleKind_room_in1 hu) (Yv9 I.hok eb) hd dd ?_
  have q:=(rel.val k).isSome_eq
  rw[Option.isSome_map]at q
  rw[<-q,<-l]
  exact h _ (I.tok _)
theorem Yro{h':Heap}{t':Nat}{ob:HO}(I:Inv X pins σ H s)(mu:Mut (H a))(hs:Heap.SameBut a s.heap h')(he:∃q,h'.get? a=some q)(new:ObjOk X.prog X.w (upd H a ob) h' a ob) :
 Inv X pins σ (upd H a ob) { s with heap:=h',toks:=t' }:=
 I.write (x:=a) (e:=a) mu (.inl rfl) (fun b q hb z=>(hs.2 b hb).trans z) he new
theorem y2d{P:Program}{w:World}{H':Hp}{h':Heap}{kvs:List (Key × V)}{vs:List (Key × Value)}(z:kvs.length<=sizeLine)(hd:(a==sysModules)=false)(rel:KV kvs vs)(dd:h'.DictOf (Yay P w) a vs) :
 ObjOk P w H' h' a (.dK kvs):=⟨z,hd,vs,rel,dd⟩
end
def NoSl(i:Expr):Prop:=∀ov iv,subscripted i false ov iv=operate [ov,iv] (getItem ov iv)
theorem y3p{prog:Program}{w:World}{A:Around}{E:Value->Shared->Prop}{s:Shared}{env:Env}{value slice:Expr}{pos:Pos}{T id:String}{Q:Value->Shared->Prop}
 (hl:typeLookup (.type T) "__getitem__"=pure (some (.builtin id))) (hs:NoSl slice)
 (h:wpAny (model prog w) A (eval value env) (fun o s₁=>wpAny (model prog w) A (eval slice env) (fun i s₂=>s₂.TypeIs o T/\wpAny (model prog w) A (getItem o i) Q E s₂) E s₁) E s) :
 wpAny (model prog w) A (eval (.Subscript value slice pos) env) Q E s:=by
 refine Subscript_ (wpAny_mono h (fun o s₁ h₁=>wpAny_mono h₁ (fun i s₂ h₂=>?_) fun _ _ x=>x) fun _ _ x=>x)
 obtain⟨hT,h₂⟩:=h₂
 unfold subscriptTail
 refine wpAny_bind ?_
 rw[getitemInPython_of_ne hT.not_modules]
 refine wpAny_bind (wpAny_specialOf hT hl ?_)
 have fin:wpAny (model prog w) A (subscripted slice false o i) (fun r s₃=>wpAny (model prog w) A (letTemporaryGo value o r >>= fun _=>pure r) Q E s₃) E s₂:=by
  rw[hs o i]
  exact wpAny_operating (wpAny_mono h₂ (fun r s₃ h₃=>wpAny_bind (wpAny_letTemporaryGo (wpAny_pure h₃))) fun _ _ x=>x)
 first
  | exact wpAny_pure (wpAny_bind fin)
  | exact wpAny_bind (wpAny_pure (wpAny_bind fin))
  | exact wpAny_bind fin
theorem Yrp{X:Cx}{pins:List (Addr × Obj)}{σ:St}{H:Hp}{s:Shared}{a:Addr}{y:V}{o:Option V}(I:Inv X pins σ H s)(g:DGet H a y o):s.TypeIs (.ref a) "dict":=by
 rcases g with⟨kvs,k,e,_,_⟩ | ⟨kvs,k,b,e,_,_,_⟩
 ·obtain⟨_,_,vs,_,dd⟩:=Yz9 I.hok e
  exact dd.typeIs
 ·obtain⟨_,_,xs,_,dd⟩:=y3n I.hok e
  exact dd.typeIs
theorem y0a{P:Program}{w:World}{H:Hp}(h:Heap)(hb:sysModules < h.objs.size):ObjOk P w H (h.push { cls:=.type "dict",data:=.dict #[] }) h.objs.size (.dK []):=
 ⟨Qh _,beq_eq_false_iff_ne.mpr (Ne.symm (qm hb)),[],.nil,Heap.DictOf.new h⟩
def y6z:TE:=fun _ H Q=>∀p,H p=none->Q (.ref p) (upd H p (.dK []))
section
variable {X:Cx} {pos:Pos}
theorem y0b:PE X (.Dict [] [] pos) y6z:=fun pins s σ H Q I h=>
 wpAny_Dict_empty ⟨.ref s.heap.objs.size,_,I.laid (a:=s.heap.objs.size) (o:=.dK []) (t':=s.toks) (fun _ _ q=>qe _ q) (qu _) (y0a s.heap I.big),rfl,h _ (I.hok.fresh (qu _))⟩
end
def Ywb:List (TE × TE)->St->Hp->(List (V × V)->Hp->Prop)->Prop
 | [],_,H,Q=>Q [] H
 | (tk,tv)::r,σ,H,Q=>tk σ H fun x H1=>tv σ H1 fun y H2=>Ywb r σ H2 fun ps H3=>Q ((x,y)::ps) H3
abbrev VV:List (V × V)->List (Value × Value)->Prop:=Paired fun p q=>RelV p.1 q.1/\RelV p.2 q.2
def PPs(X:Cx)(pos:Pos)(keys:List (Option Expr))(values:List Expr)(trs:List (TE × TE)):Prop:=
 ∀(pins:List (Addr × Obj)) (s:Shared) (σ:St) (H:Hp) (Q:List (V × V)->Hp->Prop),Inv X pins σ H s->Ywb trs σ H Q->
  wpAny (model X.prog X.w) X.A (evalPairs (pairTrees keys values X.env pos)) (fun vs s'=>∃ps H',Inv X pins σ H' s'/\VV ps vs/\Q ps H') X.xe s
theorem y3q{X:Cx}{pos:Pos}:PPs X pos [] [] []:=fun pins s σ H Q I h=>pairTrees_nil_walk ⟨[],H,I,.nil,h⟩
theorem y0c{X:Cx}{pos:Pos}{k v:Expr}{ks:List (Option Expr)}{vs:List Expr}{tk tv:TE}{trs:List (TE × TE)}(hk:PE X k tk)(hv:PE X v tv)(hr:PPs X pos ks vs trs) :
 PPs X pos (some k::ks) (v::vs) ((tk,tv)::trs):=fun pins s σ H Q I h=>
 pairTrees_cons_walk (thn (hk pins s σ H _ I h) fun u s1 ⟨x,H1,I1,rx,q1⟩=>thn (hv pins s1 σ H1 _ I1 q1) fun w2 s2 ⟨y,H2,I2,ry,q2⟩=>
  thn (hr pins s2 σ H2 _ I2 q2) fun ws s3 ⟨ps,H3,I3,rel,q3⟩=>⟨(x,y)::ps,H3,I3,.cons ⟨rx,ry⟩ rel,q3⟩)
structure M1(X:Cx)(o:Expr)(m:Str)(apos:Pos)(e:Expr)(cpos:Pos):Prop where
 base:attributeBase o m X.env (eval o X.env)=eval o X.env
 few:((backTo cpos (starEach [e] X.env)).all (fun x=>!x.1)&&(backToKw cpos (keywordEach [] X.env)).all (fun x=>x.1.isSome)
  &&decide (([e]:List Expr).length+([]:List Keyword).length+(if ([]:List Keyword).isEmpty then 0 else 1) < 30))=true
 line:(apos.endLine==cpos.line)=true
 trees:backTo cpos (starEach [e] X.env)=[(false,eval e X.env)]
structure M2(X:Cx)(o:Expr)(m:Str)(apos:Pos)(e f:Expr)(cpos:Pos):Prop where
 base:attributeBase o m X.env (eval o X.env)=eval o X.env
 few:((backTo cpos (starEach [e,f] X.env)).all (fun x=>!x.1)&&(backToKw cpos (keywordEach [] X.env)).all (fun x=>x.1.isSome)
  &&decide (([e,f]:List Expr).length+([]:List Keyword).length+(if ([]:List Keyword).isEmpty then 0 else 1) < 30))=true
 line:(apos.endLine==cpos.line)=true
 trees:backTo cpos (starEach [e,f] X.env)=[(false,eval e X.env),(false,eval f X.env)]
end L2
namespace HT
open PySem PyProof.Rows
section
variable {prog:Program} {w:World} {A:Around} {E:Value->Shared->Prop} {s:Shared}
theorem cat_tup{t b:Addr}{vs ws:List Value}{Q:Value->Shared->Prop}(ht:IsTup s.heap t vs.toArray)(hb:IsTup s.heap b ws.toArray)(hv:vs≠[])
 (h1:ws=[]->Q (.ref t) s) (h2:ws≠[]->Q (.ref s.heap.objs.size) { s with heap:=s.heap.push { cls:=.type "tuple",data:=.seq (vs++ws).toArray } })
 (hsz:vs.length+ws.length<=sizeLine):wpAny (model prog w) A (binaryOp .Add (.ref t) (.ref b)) Q E s:=by
 obtain⟨⟨cls,dd,data,sl⟩,ho,hc,n,hd⟩:=id ht
 obtain⟨⟨cls2,dd2,data2,sl2⟩,ho2,hc2,n2,hd2⟩:=id hb
 simp only at hc hd hc2 hd2
 subst hc hd hc2 hd2
 have e:vs.toArray++ws.toArray=(vs++ws).toArray:=by simp
 by_cases hw:ws=[]
 ·exact concat_meets ⟨_,ho,rfl⟩ ⟨_,ho2,rfl⟩ noFill_tuple_add seq_tuple_add PySem.F.slot_tuple_add PySem.F.entry_tuple_add (PySem.F.args_tuple_add_2 _ _)
   (tuple_addW1 t b vs.toArray ws.toArray n n2 dd dd2 sl sl2 (by simpa using hv) (by simp[hw])) ⟨ho,ho2,h1 hw⟩
 ·refine concat_meets ⟨_,ho,rfl⟩ ⟨_,ho2,rfl⟩ noFill_tuple_add seq_tuple_add PySem.F.slot_tuple_add PySem.F.entry_tuple_add (PySem.F.args_tuple_add_2 _ _)
   (tuple_addW2 t b vs.toArray ws.toArray n n2 dd dd2 sl sl2 (by simpa using hv) (by simpa using hw) (by rw[qk,qk];exact hsz)) ⟨ho,ho2,?_⟩
  rw[e]
  exact h2 hw
def sIx(n d:Nat):Option Int->Nat
 | none=>d
 | some v=>if v < 0 then (v+(n:Int)).toNat else min v.toNat n
theorem sIx_nat(n d k:Nat):sIx n d (some (k:Int))=min k n:=by
 show(if (k:Int) < 0 then ((k:Int)+(n:Int)).toNat else min (k:Int).toNat n)=min k n
 rw[if_neg (by lia),Int.toNat_natCast]
theorem y60(n d:Nat)(hd:d<=n)(o:Option Int):sIx n d o<=n:=by
 cases o with
 | none=>exact hd
 | some v=>
   show(if v < 0 then (v+(n:Int)).toNat else min v.toNat n)<=n
   by_cases hv:v < 0
   ·rw[if_pos hv];lia
   ·rw[if_neg hv];exact Nat.min_le_right _ _
theorem Ywc(v:Int)(n d:Nat):(if v < 0 then max (v+(n:Int)) 0 else min v (n:Int))=((sIx n d (some v):Nat):Int):=by
 show(if v < 0 then max (v+(n:Int)) 0 else min v (n:Int))=(((if v < 0 then (v+(n:Int)).toNat else min v.toNat n):Nat):Int)
 by_cases hv:v < 0
 ·simp only[if_pos hv];lia
 ·simp only[if_neg hv];lia
theorem Yup(lo hi:Option Int)(n:Nat):Builtin.Slice.sliceAdjust lo hi 1 (n:Int)=(((sIx n 0 lo:Nat):Int),((sIx n n hi:Nat):Int)):=by
 have h1:¬((1:Int) < 0):=by lia
 unfold Builtin.Slice.sliceAdjust
 simp only[h1,if_false]
 refine Prod.ext ?_ ?_
 ·cases lo with
  | none=>rfl
  | some v=>exact Ywc v n 0
 ·cases hi with
  | none=>rfl
  | some v=>exact Ywc v n n
theorem Yuq(i j:Nat):Builtin.Slice.slicePlaces (i:Int) (j:Int) 1=j - i:=by
 unfold Builtin.Slice.slicePlaces
 have h1:(1:Int) > 0:=by lia
 simp only[h1,if_true,Int.ediv_one]
 split<;>lia
theorem Ymg{v:Value}{o:Option Int}{Q:Option Int->Shared->Prop}(p:IsPart v o)(h:Q o s):wpAny (model prog w) A (Builtin.Slice.slicePartIndex v) Q E s:=by
 cases p with
 | none=>exact slicePart_none h
 | int i t=>exact slicePart_int h
theorem sliceApplied_gen{sl:Addr}{vl vu:Value}{lo hi:Option Int}{n:Nat}{Q:Int × Int × Nat->Shared->Prop}(hs:s.heap.IsSliceOf sl vl vu .none)(pl:IsPart vl lo)(pu:IsPart vu hi)
 (h:Q (((sIx n 0 lo:Nat):Int),1,sIx n n hi - sIx n 0 lo) s):wpAny (model prog w) A (Builtin.Slice.sliceApplied (.ref sl) (pure (n:Int))) Q E s:=by
 obtain⟨os,hos,hcs,hds⟩:=id hs
 unfold Builtin.Slice.sliceApplied Builtin.Slice.sliceFields
 refine wpAny_bind (wpAny_bind (wpAny_field hos hds (x:=vl) rfl (wpAny_bind (wpAny_field hos hds (x:=vu) rfl (wpAny_bind (wpAny_field hos hds (x:=.none) rfl (wpAny_pure ?_)))))))
 refine wpAny_bind (slicePart_none ?_)
 show wpAny _ _ (if ((1:Int)==0)=true then _ else _) _ _ s
 rw[if_neg (by decide)]
 refine wpAny_bind (Ymg pl (wpAny_bind (Ymg pu (wpAny_bind (wpAny_pure ?_)))))
 show wpAny _ _ (match Builtin.Slice.sliceAdjust lo hi 1 (n:Int)with | (lo,hi)=>pure (lo,(1:Int),Builtin.Slice.slicePlaces lo hi 1)) _ _ s
 rw[Yup lo hi n]
 show wpAny _ _ (pure (((sIx n 0 lo:Nat):Int),(1:Int),Builtin.Slice.slicePlaces ((sIx n 0 lo:Nat):Int) ((sIx n n hi:Nat):Int) 1)) _ _ s
 rw[Yuq]
 exact wpAny_pure h
theorem y0d(xs:Array Value)(i k:Nat):((List.range k).filterMap fun(m:Nat)=>xs[((i:Int)+(m:Int) * 1).toNat]?).toArray=((xs.toList.drop i).take k).toArray:=by
 have e:(fun(m:Nat)=>xs[((i:Int)+(m:Int) * 1).toNat]?)=fun m=>xs[i+m]?:=by
  funext m
  have:((i:Int)+(m:Int) * 1).toNat=i+m:=by lia
  rw[this]
 rw[e]
 have:=pick_run xs i k
 rw[List.filterMap_map]at this
 have e2:((fun x=>xs[x]?) ∘ fun x=>i+x)=fun m=>xs[i+m]?:=rfl
 rw[e2]at this
 rw[this]
theorem getItem_tuple_cut{t sl:Addr}{items:Array Value}{vl vu:Value}{lo hi:Option Int}{Q:Value->Shared->Prop}(ht:IsTup s.heap t items)(hs:s.heap.IsSliceOf sl vl vu .none)(pl:IsPart vl lo)(pu:IsPart vu hi)
 (hw:¬(sIx items.size 0 lo=0/\sIx items.size items.size hi=items.size))
 (h:Q (.ref s.heap.objs.size) { s with heap:=s.heap.push { cls:=.type "tuple",data:=.seq ((items.toList.drop (sIx items.size 0 lo)).take (sIx items.size items.size hi - sIx items.size 0 lo)).toArray } })
 (hsz:items.size<=sizeLine):wpAny (model prog w) A (getItem (.ref t) (.ref sl)) Q E s:=by
 have htake:sizeOk (.seq ((items.toList.drop (sIx items.size 0 lo)).take (sIx items.size items.size hi - sIx items.size 0 lo)).toArray):=by
  show((items.toList.drop (sIx items.size 0 lo)).take (sIx items.size items.size hi - sIx items.size 0 lo)).toArray.size<=sizeLine
  rw[qk,List.length_take,List.length_drop,qj]
  lia
 have hj:sIx items.size items.size hi<=items.size:=y60 _ _ (qu _) hi
 obtain⟨os,hos,hcs,hds⟩:=id hs
 have hTs:s.TypeIs (.ref sl) "slice":=⟨os,hos,hcs⟩
 unfold getItem
 try with_reducible refine wpAny_holding ?_
 first | refine wpAny_bind (wpAny_pure ?_) | skip
 refine wpAny_bind (wpAny_sequenceKey ht.typeIs (by decide) ?_)
 refine wpAny_bind (wpAny_callSpecial?_slot (name:=Str.ofString "__getitem__") ht.typeIs PyProof.Rows.slot_tuple_getitem
  (wpAny_call_entry PyProof.Rows.slot_tuple_getitem ht.typeIs entry_tuple_getitem ?_ (args_tuple_getitem _ _)))
 show wpAny _ _ (Builtin.Tuple.tupleItemsOf (.ref t) >>= _) _ _ s
 refine wpAny_bind (tupleItemsOf_ ht ?_)
 refine wpAny_bind (wpAny_typeOf hTs ?_)
 rw[if_pos (by decide)]
 refine wpAny_bind (sliceApplied_gen hs pl pu ?_)
 have hno:¬((((sIx items.size 0 lo:Nat):Int)==0&&(1:Int)==1&&(sIx items.size items.size hi - sIx items.size 0 lo)==items.size)=true):=by
  intro q
  rw[Qf,Qf]at q
  have q1:((sIx items.size 0 lo:Nat):Int)=0:=eq_of_beq q.1.1
  have q2:sIx items.size items.size hi - sIx items.size 0 lo=items.size:=eq_of_beq q.2
  exact hw ⟨by lia,by lia⟩
 show wpAny _ _ (if (((sIx items.size 0 lo:Nat):Int)==0&&(1:Int)==1&&(sIx items.size items.size hi - sIx items.size 0 lo)==items.size)=true then _ else _) _ _ s
 rw[if_neg hno,y0d]
 first
  | exact wpAny_bind (m:=Builtin.Tuple.tupleExact _) (wpAny_newObj_type (wpAny_pure ⟨_,rfl,wpAny_pure h⟩) htake)
  | exact wpAny_bind (m:=Builtin.Tuple.tupleExact _) (wpAny_newObj_type (wpAny_bind (wpAny_pure (wpAny_pure ⟨_,rfl,wpAny_pure h⟩))) htake)
  | exact wpAny_bind (wpAny_bind (m:=Builtin.Tuple.tupleExact _) (wpAny_newObj_type (wpAny_pure (wpAny_pure ⟨_,rfl,wpAny_pure h⟩)) htake))
  | exact wpAny_bind (wpAny_bind (m:=Builtin.Tuple.tupleExact _) (wpAny_newObj_type (wpAny_pure ⟨_,rfl,wpAny_pure h⟩) htake))
end
end HT
namespace L2
open PySem PySem.Spec PyProof.Rows
abbrev TO:=St->Hp->(Option Int->Hp->Prop)->Prop
def PO(X:Cx)(e:Option Expr)(t:TO):Prop:=
 ∀(pins:List (Addr × Obj)) (s:Shared) (σ:St) (H:Hp) (Q:Option Int->Hp->Prop),Inv X pins σ H s->t σ H Q->
  wpAny (model X.prog X.w) X.A (evalPart e X.env) (fun u s'=>∃o H',Inv X pins σ H' s'/\IsPart u o/\Q o H') X.xe s
def Ywd:TO:=fun _ H Q=>Q none H
def y61(t:TE):TO:=fun σ H Q=>t σ H fun x H1=>∃i,x=.int i/\Q (some i) H1
theorem Ymh{ns:List Int}:∀{us:List Value},Vals (ns.map V.int) us->IntsAre us ns:=by
 induction ns with
 | nil=>intro us r;rw[List.map_nil]at r;cases r;exact .nil
 | cons n ns ih=>
   intro us r
   rw[Qc]at r
   cases r with
   | cons r1 r2=>
     obtain⟨t,e⟩:=r1
     subst e
     exact .cons n t (ih r2)
section
variable {X:Cx} {e:Expr} {te:TE} {lo hi:Option Expr} {tl th:TO} {pos p2:Pos}
theorem y3r:PO X none Ywd:=by
 intro pins s σ H Q I h
 rw[evalPart_none]
 exact wpAny_pure ⟨none,H,I,.none,h⟩
theorem y3s(h:PE X e te):PO X (some e) (y61 te):=by
 intro pins s σ H Q I hw
 rw[evalPart_some]
 refine thn (h pins s σ H _ I hw) fun u s1 hx_=>?_
 obtain⟨x,H1,I1,r1,q1⟩:=hx_
 obtain⟨i,rfl,q⟩:=q1
 obtain⟨t,rfl⟩:=r1
 exact⟨some i,H1,I1,.int i t,q⟩
def SlR(X:Cx)(r:V->Option Int->Option Int->Hp->VK->Prop):Prop:=
 ∀(pins:List (Addr × Obj)) (s:Shared) (σ:St) (H:Hp) (x:V) (v vl vu:Value) (lo hi:Option Int) (sl:Addr) (Q:VK),Inv X pins σ H s->RelV x v->s.heap.IsSliceOf sl vl vu .none->IsPart vl lo->IsPart vu hi->r x lo hi H Q->
  ∃T id,typeLookup (.type T) "__getitem__"=pure (some (.builtin id))/\s.TypeIs v T/\wpAny (model X.prog X.w) X.A (getItem v (.ref sl)) (EP X pins σ Q) X.xe s
theorem SlR.or{r r':V->Option Int->Option Int->Hp->VK->Prop}(h:SlR X r)(h':SlR X r'):SlR X (fun x lo hi H Q=>r x lo hi H Q\/r' x lo hi H Q):=by
 intro pins s σ H x v vl vu lo hi sl Q I rx hs pl pu q
 rcases q with q | q
 ·exact h pins s σ H x v vl vu lo hi sl Q I rx hs pl pu q
 ·exact h' pins s σ H x v vl vu lo hi sl Q I rx hs pl pu q
def tSl(r:V->Option Int->Option Int->Hp->VK->Prop)(te:TE)(tl th:TO):TE:=fun σ H Q=>te σ H fun x H1=>tl σ H1 fun l H2=>th σ H2 fun u H3=>r x l u H3 Q
theorem Ytd{r:V->Option Int->Option Int->Hp->VK->Prop}(hr:SlR X r)(he:PE X e te)(hl:PO X lo tl)(hu:PO X hi th):PE X (.Subscript e (.Slice lo hi none p2) pos) (tSl r te tl th):=by
 intro pins s σ H Q I h
 refine Subscript_ (thn (he pins s σ H _ I h) fun v s1 hx_=>?_)
 obtain⟨x,H1,I1,r1,q1⟩:=hx_
 refine wpAny_Slice (thn (hl pins s1 σ H1 _ I1 q1) fun vl s2 hx_=>?_)
 obtain⟨l,H2,I2,pl,q2⟩:=hx_
 refine thn (hu pins s2 σ H2 _ I2 q2) fun vu s3 hx_=>?_
 obtain⟨u,H3,I3,pu,q3⟩:=hx_
 rw[evalPart_none]
 refine wpAny_pure ?_
 have I4:Inv X pins σ H3 { s3 with heap:=s3.heap.push { cls:=.type "slice",data:=.fields #[vl,vu,.none] } }:=I3.kept (t':=s3.toks) fun b ob q=>qe _ q
 obtain⟨T,id,hT,ht,hg⟩:=hr pins { s3 with heap:=s3.heap.push { cls:=.type "slice",data:=.fields #[vl,vu,.none] } } σ H3 x v vl vu l u s3.heap.objs.size Q I4 r1 (Heap.IsSliceOf.new ..) pl pu q3
 show wpAny (model X.prog X.w) X.A (subscriptTail e (.Slice lo hi none p2) v (.ref s3.heap.objs.size)) (EP X pins σ Q) X.xe { s3 with heap:=s3.heap.push { cls:=.type "slice",data:=.fields #[vl,vu,.none] } }
 exact tail_any (ops:=[.ref s3.heap.objs.size,v]) ht hT hg (by with_unfolding_all rfl)
def cutV(xs:List V)(lo hi:Option Int):List V:=(xs.drop (HT.sIx xs.length 0 lo)).take (HT.sIx xs.length xs.length hi - HT.sIx xs.length 0 lo)
theorem Yj9(xs:List V)(lo hi:Option Int):(cutV xs lo hi).length<=xs.length:=by
 unfold cutV
 rw[List.length_take,List.length_drop]
 lia
def rSlT(K:W.Frag):V->Option Int->Option Int->Hp->VK->Prop:=fun x lo hi H Q=>∃a xs,x=.ref a/\SqT K H a xs/\
 ¬(HT.sIx xs.length 0 lo=0/\HT.sIx xs.length xs.length hi=xs.length)/\∀p,H p=none->Q (.ref p) (upd H p (.tup (cutV xs lo hi)))
theorem y62:SlR X (rSlT X.K):=by
 intro pins s σ H x v vl vu lo hi sl Q I rx hs pl pu h
 obtain⟨a,xs,rfl,hx,hw,q⟩:=h
 cases rx
 obtain⟨its,r,ht,hz⟩:=I.tuple hx
 have hlen:its.toArray.size=xs.length:=by rw[qk];exact r.length.symm
 refine⟨"tuple",_,PyProof.Rows.slot_tuple_getitem.lookup,ht.typeIs,?_⟩
 refine HT.getItem_tuple_cut ht hs pl pu (by rw[hlen];exact hw) ?_ (by rw[hlen];exact hz)
 rw[hlen]
 refine⟨.ref s.heap.objs.size,_,I.laid (t':=s.toks) (o:=.tup (cutV xs lo hi)) (fun b ob q=>qe _ q) (qu _) ?_,rfl,q _ (I.hok.fresh (qu _))⟩
 exact⟨Qj (Yj9 xs lo hi) hz,_,(r.drop (HT.sIx xs.length 0 lo)).take (HT.sIx xs.length xs.length hi - HT.sIx xs.length 0 lo),IsTup.new _ _⟩
def y93(K:W.Frag):R2:=fun x y H Q=>∃a b xs ys,x=.ref a/\y=.ref b/\SqT K H a xs/\SqT K H b ys/\xs≠[]/\xs.length+ys.length<=sizeLine/\
 (ys=[]->Q (.ref a) H)/\(ys≠[]->∀p,H p=none->Q (.ref p) (upd H p (.tup (xs++ys))))
theorem Vals.nil_iff{xs:List V}{us:List Value}(r:Vals xs us):us=[]↔xs=[]:=by
 cases r with
 | nil=>simp
 | cons _ _=>simp
theorem y3t:OpR X (binaryOp .Add) (y93 X.K):=by
 intro pins s σ H x y v u Q I rx ry h
 obtain⟨a,b,xs,ys,rfl,rfl,ha,hb,hx,hz,q1,q2⟩:=h
 cases rx
 cases ry
 obtain⟨its,r1,p1,_⟩:=I.tuple ha
 obtain⟨its2,r2,p2,_⟩:=I.tuple hb
 refine HT.cat_tup p1 p2 (fun z=>hx (r1.nil_iff.mp z)) (fun z=>⟨.ref a,H,I,rfl,q1 (r2.nil_iff.mp z)⟩) (fun z=>?_) (by rw[<-r1.length,<-r2.length];exact hz)
 refine⟨.ref s.heap.objs.size,_,I.laid (t':=s.toks) (o:=.tup (xs++ys)) (fun b ob q=>qe _ q) (qu _) ?_,rfl,q2 (fun w=>z (r2.nil_iff.mpr w)) _ (I.hok.fresh (qu _))⟩
 exact⟨by rw[qy];exact hz,_,r1.append r2,IsTup.new _ _⟩
end
end L2
namespace L2
open PySem PySem.Spec PyProof.Rows
def ixN(n:Nat)(i:Int):Option Nat:=if 0<=i then (if i < n then some i.toNat else none)else if -(n:Int)<=i then some (i+n).toNat else none
def atI{α:Type}(xs:List α)(i:Int):Option α:=(ixN xs.length i).bind fun j=>xs[j]?
theorem y3u{n:Nat}{i:Int}{j:Nat}(h:ixN n i=some j):seqIndex? i n=some j/\j < n/\-(n:Int)<=i/\i < n:=by
 unfold ixN at h
 by_cases h0:0<=i
 ·rw[if_pos h0]at h
  by_cases h1:i < n
  ·rw[if_pos h1]at h
   have e:i.toNat=j:=Option.some.inj h
   exact⟨by rw[seqIndex_of h0 h1,e],by lia,by lia,h1⟩
  ·rw[if_neg h1]at h;cases h
 ·rw[if_neg h0]at h
  by_cases h1:-(n:Int)<=i
  ·rw[if_pos h1]at h
   have e:(i+n).toNat=j:=Option.some.inj h
   exact⟨by rw[seqIndex_neg (by lia) h1,e],by lia,h1,by lia⟩
  ·rw[if_neg h1]at h;cases h
theorem Yrq{α:Type}{xs:List α}{i:Int}{v:α}(h:atI xs i=some v):∃j,seqIndex? i xs.length=some j/\xs[j]?=some v/\j < xs.length/\-(xs.length:Int)<=i/\i < xs.length:=by
 unfold atI at h
 cases e:ixN xs.length i with
 | none=>rw[e]at h;cases h
 | some j=>
   rw[e]at h
   obtain⟨h1,h2,h3,h4⟩:=y3u e
   exact⟨j,h1,h,h2,h3,h4⟩
theorem Yim{α:Type}{xs:List α}{j:Nat}{v:α}(h:xs[j]?=some v):atI xs (j:Int)=some v:=by
 have hj:j < xs.length:=(qo h).1
 have e:ixN xs.length (j:Int)=some j:=by
  unfold ixN
  rw[if_pos (by lia),if_pos (by lia)];simp
 unfold atI;rw[e];exact h
def Yen(b:Expr):Prop:=∀o i,subscripted b false o i=operate [o,i] (getItem o i)
def IxR(X:Cx)(r:R2):Prop:=
 ∀(value slice:Expr) (pins:List (Addr × Obj)) (s:Shared) (σ:St) (H:Hp) (x y:V) (v u:Value) (Q:VK),Inv X pins σ H s->RelV x v->RelV y u->r x y H Q->
  subscripted slice false v u=operate [v,u] (getItem v u)->wpAny (model X.prog X.w) X.A (subscriptTail value slice v u) (EP X pins σ Q) X.xe s
def MtR(X:Cx)(id:String)(r:V->List V->Hp->VK->Prop):Prop:=
 ∀(pins:List (Addr × Obj)) (s:Shared) (σ:St) (H:Hp) (x:V) (xs:List V) (v:Value) (us:List Value) (Q:VK),Inv X pins σ H s->RelV x v->Vals xs us->r x xs H Q->
  wpAny (model X.prog X.w) X.A (call (.builtin id) (v::us)) (EP X pins σ Q) X.xe s
section
variable {X:Cx} {a b:Expr} {ta tb:TE} {pos:Pos}
theorem IxR.or{r r':R2}(h:IxR X r)(h':IxR X r'):IxR X (fun x y H Q=>r x y H Q\/r' x y H Q):=by
 intro value slice pins s σ H x y v u Q I rx ry q hs
 rcases q with q | q
 ·exact h value slice pins s σ H x y v u Q I rx ry q hs
 ·exact h' value slice pins s σ H x y v u Q I rx ry q hs
theorem y94{r:R2}(hr:IxR X r)(ha:PE X a ta)(hb:PE X b tb)(hs:Yen b):PE X (.Subscript a b pos) (tOp r ta tb):=by
 intro pins s σ H Q I h
 exact Subscript_ (binT ha hb I h fun v u s2 x y H2 I2 rx ry q=>hr a b pins s2 σ H2 x y v u Q I2 rx ry q (hs _ _))
def rIxL(K:W.Frag):R2:=fun x y H Q=>∃p xs i v,x=.ref p/\y=.int i/\SqL K H p xs/\atI xs i=some v/\Q v H
def rIxT(K:W.Frag):R2:=fun x y H Q=>∃p xs i v,x=.ref p/\y=.int i/\SqT K H p xs/\atI xs i=some v/\Q v H
def rIxS:R2:=fun x y H Q=>∃z i c,x=.str z/\y=.int i/\z.length<=sizeLine/\atI z.cps.toList i=some c/\Q (.str ⟨#[c]⟩) H
theorem ix_list:IxR X (rIxL X.K):=by
 intro value slice pins s σ H x y v u Q I rx ry h hs
 obtain⟨p,xs,i,z,rfl,rfl,hq,he,q⟩:=h
 cases rx
 obtain⟨t,rfl⟩:=ry
 obtain⟨its,r,pl,hz⟩:=I.list hq
 obtain⟨j,h1,h2,h3,h4,h5⟩:=Yrq he
 obtain⟨w,ew,rw'⟩:=r.get h2
 have hl:=r.length
 have hn:=Ypf
 have fin:EP X pins σ Q w s:=⟨z,H,I,rw',q⟩
 by_cases h0:0<=i
 ·have hj:i.toNat=j:=by
   rw[seqIndex_of h0 h5]at h1
   exact Option.some.inj h1
  exact item_listR pl.isList h0 (by lia) (by rw[hj];simpa using ew) fin hs
 ·have hj:(i+(its.toArray.size:Int)).toNat=j:=by
   rw[seqIndex_neg (by lia) h4]at h1
   rw[qk,<-hl]
   exact Option.some.inj h1
  exact subscriptTail_builtinR (x:=w) pl.isList.typeIs slot_list_getitem.lookup
   (wpAny_getItem_list_neg (Q:=fun r s'=>r=w/\EP X pins σ Q r s') pl.isList (by lia) (by rw[qk]<;>lia) (by lia) (by rw[hj];simpa using ew) ⟨rfl,fin⟩) hs
theorem ix_tup:IxR X (rIxT X.K):=by
 intro value slice pins s σ H x y v u Q I rx ry h hs
 obtain⟨p,xs,i,z,rfl,rfl,hq,he,q⟩:=h
 cases rx
 obtain⟨t,rfl⟩:=ry
 obtain⟨its,r,pl,hz⟩:=I.tuple hq
 obtain⟨j,h1,h2,h3,h4,h5⟩:=Yrq he
 obtain⟨w,ew,rw'⟩:=r.get h2
 have hl:=r.length
 have hn:=Ypf
 have fin:EP X pins σ Q w s:=⟨z,H,I,rw',q⟩
 exact subscriptTail_builtinR (x:=w) pl.typeIs slot_tuple_getitem.lookup
  (getItem_tuple (j:=j) (Q:=fun r s'=>r=w/\EP X pins σ Q r s') pl (by lia) (by lia) (by rw[qk,<-hl];exact h1) (by simpa using ew) ⟨rfl,fin⟩) hs
theorem y63:IxR X rIxS:=by
 intro value slice pins s σ H x y v u Q I rx ry h hs
 obtain⟨z,i,c,rfl,rfl,hz,he,q⟩:=h
 obtain⟨t,rfl⟩:=rx
 obtain⟨t',rfl⟩:=ry
 obtain⟨j,h1,h2,h3,h4,h5⟩:=Yrq he
 have hl:z.cps.toList.length=z.length:=by simp[Str.length]
 rw[hl]at h1 h4 h5
 have hn:=Ypf
 exact tail_any (typeIs_str s z t) slot_str_getitem.lookup (getItem_str (c:=c) (by
  have e1:decide (i < -(2 ^ 63:Int))=false:=decide_eq_false (by lia)
  have e2:decide (i≥2 ^ 63)=false:=decide_eq_false (by lia)
  rw[e1,e2,Bool.or_false]) (by rw[h1];simpa using h2) ⟨.str ⟨#[c]⟩,H,I.tok _,⟨_,rfl⟩,q⟩) hs
def rIx(K:W.Frag):R2:=fun x y H Q=>rIxL K x y H Q\/rIxT K x y H Q\/rIxS x y H Q
theorem y64:IxR X (rIx X.K):=ix_list.or (ix_tup.or y63)
theorem Ypm(lo hi:Option Int)(n:Nat):(sliceBounds lo hi none n).1=((HT.sIx n 0 lo:Nat):Int)/\(sliceBounds lo hi none n).2.1=((HT.sIx n n hi:Nat):Int)/\(sliceBounds lo hi none n).2.2=1:=by
 refine⟨?_,?_,rfl⟩
 ·cases lo with
  | none=>simp[sliceBounds,HT.sIx]
  | some i=>
    simp only[sliceBounds,HT.sIx,Option.getD_none,show(1:Int) > 0 by decide,if_true]
    by_cases h:i < 0
    ·simp only[h,if_true]<;>lia
    ·simp only[h,if_false]<;>lia
 ·cases hi with
  | none=>simp[sliceBounds,HT.sIx]
  | some i=>
    simp only[sliceBounds,HT.sIx,Option.getD_none,show(1:Int) > 0 by decide,if_true]
    by_cases h:i < 0
    ·simp only[h,if_true]<;>lia
    ·simp only[h,if_false]<;>lia
theorem Ym9(its:List Value)(lo hi:Option Int):slicePick its.toArray lo hi none=((its.drop (HT.sIx its.length 0 lo)).take (HT.sIx its.length its.length hi - HT.sIx its.length 0 lo)).toArray:=by
 obtain⟨h1,h2,h3⟩:=Ypm lo hi its.toArray.size
 unfold slicePick
 rw[h1,h2,h3]
 simp only[sliceRange_one,pick_run,qk]<;>rfl
def rSlL(K:W.Frag):V->Option Int->Option Int->Hp->VK->Prop:=fun x lo hi H Q=>∃a xs,x=.ref a/\SqL K H a xs/\∀p,H p=none->Q (.ref p) (upd H p (.lst (cutV xs lo hi)))
theorem Ywe:SlR X (rSlL X.K):=by
 intro pins s σ H x v vl vu lo hi sl Q I rx hs pl pu h
 obtain⟨a,xs,rfl,hx,q⟩:=h
 cases rx
 obtain⟨its,r,ht,hz⟩:=I.list hx
 have hlen:=r.length
 refine⟨"list",_,slot_list_getitem.lookup,ht.isList.typeIs,?_⟩
 refine wpAny_getItem_list_slice ht.isList hs pl pu .none (by simp) ?_ (by rw[qk]<;>lia)
 rw[Ym9,<-hlen]
 refine⟨.ref s.heap.objs.size,_,I.laid (t':=s.toks) (o:=.lst (cutV xs lo hi)) (fun b ob q=>qe _ q) (qu _) ?_,rfl,q _ (I.hok.fresh (qu _))⟩
 exact⟨Qj (Yj9 xs lo hi) hz,_,0,(r.drop (HT.sIx xs.length 0 lo)).take (HT.sIx xs.length xs.length hi - HT.sIx xs.length 0 lo),qp _ rfl⟩
theorem Yak:Ydl X (.builtin "len") (fun xs H Q=>∃p ys,xs=[.ref p]/\(SqL X.K H p ys\/SqT X.K H p ys)/\Q (.int ys.length) H):=by
 intro pins s σ H xs us Q I r h
 obtain⟨p,ys,rfl,hq,q⟩:=h
 obtain⟨u,rfl,rx⟩:=Yg5 r
 cases rx
 have hn:=Ypf
 rcases hq with hq | hq
 ·obtain⟨its,r',pl,hz⟩:=I.list hq
  have hlen:=r'.length
  exact Calls.call_len_list pl.isList (by simp only[qk]<;>lia) ⟨.int ys.length,H,I.tok _,⟨s.toks+1,by rw[qk,hlen]⟩,q⟩
 ·obtain⟨its,r',pl,hz⟩:=I.tuple hq
  have hlen:=r'.length
  exact len_tuple pl (by simp only[qk]<;>lia) ⟨.int ys.length,H,I.tok _,⟨s.toks+1,by rw[qk,hlen]⟩,q⟩
theorem Yf3:Ydl X (.type "list") (fun xs H Q=>∃p ys,xs=[.ref p]/\(SqL X.K H p ys\/SqT X.K H p ys)/\∀l,H l=none->Q (.ref l) (upd H l (.lst ys))):=by
 intro pins s σ H xs us Q I r h
 obtain⟨p,ys,rfl,hq,q⟩:=h
 obtain⟨u,rfl,rx⟩:=Yg5 r
 cases rx
 have fin:∀(its:List Value),Vals ys its->ys.length<=sizeLine->∀(h':Heap) (c':Nat),(∀b o',s.heap.get? b=some o'->h'.get? b=some o')->
  h'.get? s.heap.objs.size=some { cls:=.type "list",dict:=none,data:=.seq its.toArray c',slots:=#[] }->EP X pins σ Q (.ref s.heap.objs.size) { s with heap:=h' }:=fun its r' hz h' c' kp e=>
  ⟨.ref s.heap.objs.size,_,I.laid (t':=s.toks) kp (qu _) (show ObjOk X.prog X.w _ h' _ (.lst ys) from⟨hz,its,c',r',e⟩),rfl,q _ (I.hok.fresh (qu _))⟩
 rcases hq with hq | hq
 ·obtain⟨its,r',pl,hz⟩:=I.list hq
  have hlen:=r'.length
  obtain⟨o,ho,hc,n,hd⟩:=pl.isList
  exact call_list_seq p (.inl rfl) ho hc hd (fun h' c' kp e=>fin its r' hz h' c' kp e) (by simp only[qk]<;>lia)
 ·obtain⟨its,r',pl,hz⟩:=I.tuple hq
  have hlen:=r'.length
  obtain⟨o,ho,hc,n,hd⟩:=pl
  exact call_list_seq p (.inr rfl) ho hc hd (fun h' c' kp e=>fin its r' hz h' c' kp e) (by simp only[qk]<;>lia)
theorem Yap:Ydl X (.type "tuple") (fun xs H Q=>∃p ys,xs=[.ref p]/\((SqL X.K H p ys/\∀l,H l=none->Q (.ref l) (upd H l (.tup ys)))\/(SqT X.K H p ys/\Q (.ref p) H))):=by
 intro pins s σ H xs us Q I r h
 obtain⟨p,ys,rfl,h⟩:=h
 obtain⟨u,rfl,rx⟩:=Yg5 r
 cases rx
 rcases h with⟨hq,q⟩ | ⟨hq,q⟩
 ·obtain⟨its,r',pl,hz⟩:=I.list hq
  have hlen:=r'.length
  refine call_tuple_list pl.isList (fun h' kp=>?_) (by simp only[qk]<;>lia)
  have I1:Inv X pins σ H { s with heap:=h' }:=I.kept (t':=s.toks) kp
  have I2:Inv X pins σ (upd H h'.objs.size (.tup ys)) { s with heap:=h'.push { cls:=.type "tuple",data:=.seq its.toArray } }:=
   I1.laid (t':=s.toks) (fun b o e=>qe _ e) (qu _) (show ObjOk X.prog X.w _ _ _ (.tup ys) from⟨hz,its,r',IsTup.new _ _⟩)
  exact⟨.ref h'.objs.size,_,I2,rfl,q _ (I1.hok.fresh (qu _))⟩
 ·obtain⟨its,r',pl,hz⟩:=I.tuple hq
  exact call_tuple_same pl ⟨.ref p,H,I,rfl,q⟩
def tyV(K:W.Frag)(T:String)(x:V)(H:Hp):Prop:=match x with
 | .str _=>T="str"
 | .int _=>T="int"
 | .ref p=>(T="list"/\∃xs,SqL K H p xs)\/(T="tuple"/\∃o,K.lookup p=some o/\o.cls=.type "tuple"/\o.dict=none)\/
  (T="dict"/\((∃kvs,H p=some (.dK kvs))\/∃kvs,H p=some (.dT kvs)))\/(T="set"/\∃S n,H p=some (.set S n))
 | _=>False
theorem y65{pins:List (Addr × Obj)}{σ:St}{H:Hp}{s:Shared}{T:String}{x:V}{v:Value}(I:Inv X pins σ H s)(r:RelV x v)(ty:tyV X.K T x H) :
 s.TypeIs v T/\∀a,v=.ref a->∃ob,s.heap.get? a=some ob/\ob.dict=none:=by
 cases x with
 | str z=>
   obtain⟨t,rfl⟩:=r
   cases (show T="str" from ty)
   exact⟨typeIs_str s z t,fun _ e=>nomatch e⟩
 | int i=>
   obtain⟨t,rfl⟩:=r
   cases (show T="int" from ty)
   exact⟨typeIs_int s i t,fun _ e=>nomatch e⟩
 | ref p=>
   cases r
   rcases ty with⟨rfl,xs,hq⟩ | ⟨rfl,o,hk,hc,hd⟩ | ⟨rfl,hk⟩ | ⟨rfl,S,n,hk⟩
   ·obtain⟨its,_,pl,_⟩:=I.list hq
    refine⟨pl.isList.typeIs,fun a e=>?_⟩
    cases e
    obtain⟨o,n,e,c,hd,_⟩:=pl
    exact⟨o,e,hd⟩
   ·refine⟨⟨o,I.kIn p o hk,hc⟩,fun a e=>?_⟩
    cases e
    exact⟨o,I.kIn _ o hk,hd⟩
   ·have z:∃o,s.heap.get? p=some o/\o.ExactDict:=by
     rcases hk with⟨kvs,hk⟩ | ⟨kvs,hk⟩
     ·obtain⟨_,_,_,_,o,_,_,e,ex,_⟩:=I.hok p _ hk
      exact⟨o,e,ex⟩
     ·obtain⟨_,_,_,_,o,_,_,e,ex,_⟩:=I.hok p _ hk
      exact⟨o,e,ex⟩
    obtain⟨o,e,ex⟩:=z
    refine⟨⟨o,e,ex.1⟩,fun a e2=>?_⟩
    cases e2
    exact⟨o,e,ex.2.1⟩
   ·obtain⟨o,_,_,_,e,ex,_⟩:=I.hok p _ hk
    refine⟨⟨o,e,ex.1⟩,fun a e2=>?_⟩
    cases e2
    exact⟨o,e,ex.2.1⟩
 | _=>exact False.elim ty
def tBM(K:W.Frag)(T:String)(r:V->List V->Hp->VK->Prop)(to:TE)(t:TA):TE:=fun σ H Q=>to σ H fun x H1=>tyV K T x H1/\t σ H1 fun xs H2=>r x xs H2 Q
variable {o e:Expr} {es:List Expr} {to:TE} {t:TA} {name:Str} {apos cpos:Pos} {T id:String} {r:V->List V->Hp->VK->Prop}
theorem y3v(pa:PlainAttrs T)(slot:Slot T name id)(hty:typeOf (.builtin id)=pure (.type "method_descriptor"))(hm:MtR X id r)(ho:PE X o to)(ha:PA X (e::es) t)
 (hbase:attributeBase o name X.env (eval o X.env)=eval o X.env:=by rfl)
 (hfew:((backTo cpos (starEach (e::es) X.env)).all (fun x=>!x.1)&&(backToKw cpos (keywordEach [] X.env)).all (fun x=>x.1.isSome)
  &&decide ((e::es).length+([]:List Keyword).length+(if ([]:List Keyword).isEmpty then 0 else 1) < 30))=true:=by rfl)
 (hline:(apos.endLine==cpos.line)=true:=by rfl) (hs:starEach (e::es) X.env=(false,eval e X.env)::starEach es X.env:=by rfl) (hplain:(backTo cpos (starEach es X.env)).any (·.1)=false:=by rfl) :
 PE X (.Call (.Attribute o name apos) (e::es) [] cpos) (tBM X.K T r to t):=by
 intro pins s σ H Q I h
 refine wpAny_Call_method_late hbase hfew hline rfl (thn (ho pins s σ H _ I h) fun v s1 hx_=>?_)
 obtain⟨x,H1,I1,r1,ty,q1⟩:=hx_
 obtain⟨h1,h2⟩:=y65 I1 r1 ty
 refine⟨T,id,pa,slot,hty,h1,h2,?_⟩
 have hA:=ha cpos pins s1 σ H1 _ I1 q1
 rw[hs]at hA ⊢
 refine Calls.callWith_builtin (by show(false||(backTo cpos (starEach es X.env)).any (·.1))=false;rw[hplain]<;>rfl) (Calls.evalArgs_plain ?_)
 refine thn hA fun us s2 hx_=>?_
 obtain⟨vs,H2,I2,r2,q2⟩:=hx_
 exact hm pins s2 σ H2 x vs v us Q I2 r1 r2 q2
end
end L2
namespace L2
open PySem PySem.Spec PyProof.Rows
def MtM(X:Cx)(id:String)(r:V->List V->Hp->VK->Prop):Prop:=
 ∀(pins:List (Addr × Obj)) (s:Shared) (σ:St) (H:Hp) (x:V) (xs:List V) (v:Value) (us:List Value) (Q:VK),Inv X pins σ H s->RelV x v->Vals xs us->r x xs H Q->
  wpAny (model X.prog X.w) X.A (call (.builtin id) (v::us)) (EP X pins σ Q) X.xe s
theorem Vals.one:∀{x:V} {us:List Value},Vals [x] us->∃u,us=[u]/\RelV x u
 :=by
  intro x us h
  cases h with
  | cons r t=>
    cases t
    exact⟨_,rfl,r⟩
section
variable {X:Cx} {pins:List (Addr × Obj)} {σ:St} {H:Hp} {s:Shared} {l b:Addr} {xs ys zs:List V}
theorem Inv.lset{its its':List Value}{n:Nat}{f:Array Value->Array Value}{t':Nat}(I:Inv X pins σ H s)(hH:H l=some (.lst xs))
 (e:s.heap.get? l=some { cls:=.type "list",data:=.seq its.toArray n }) (hf:f its.toArray=its'.toArray) (hv:Vals ys its') (hz:ys.length<=sizeLine) :
 Inv X pins σ (upd H l (.lst ys)) { s with heap:=s.heap.update l (Obj.mapSeq f),toks:=t' }:=by
 have q:=PySem.IsL.update e f
 rw[hf]at q
 refine I.write (x:=l) (e:=l) (by rw[hH];exact trivial) (.inl rfl) (fun b' u hb hu=>(Heap.get?_update_other s.heap (Obj.mapSeq f) (Ne.symm hb)).trans hu) ⟨_,q⟩ ?_
 exact⟨hz,its',_,hv,q⟩
theorem Inv.lnew{its:List Value}{t':Nat}(I:Inv X pins σ H s)(hv:Vals ys its)(hz:ys.length<=sizeLine) :
 Inv X pins σ (upd H s.heap.objs.size (.lst ys)) { s with heap:=s.heap.push { cls:=.type "list",data:=.seq its.toArray },toks:=t' }:=
 I.laid (fun _ _ q=>qe _ q) (qu _) ⟨hz,its,0,hv,qp _ rfl⟩
theorem Inv.fresh(I:Inv X pins σ H s):H s.heap.objs.size=none:=I.hok.fresh (qu _)
theorem Inv.lstM(I:Inv X pins σ H s)(hH:H l=some (.lst xs)):xs.length<=sizeLine/\∃(its:List Value) (n:Nat),Vals xs its/\xs.length=its.length/\s.heap.get? l=some { cls:=.type "list",data:=.seq its.toArray n }:=by
 obtain⟨z,its,n,r,e⟩:=I.hok l _ hH
 exact⟨z,its,n,r,r.length,e⟩
theorem y0e{n:Nat}(h:n<=sizeLine):Builtin.List.listTooLong n=false:=by
 unfold Builtin.List.listTooLong
 exact decide_eq_false (by lia)
def y3w:V->List V->Hp->VK->Prop:=fun x vs H Q=>∃l xs y,x=.ref l/\vs=[y]/\H l=some (.lst xs)/\xs.length < sizeLine/\Q .non (upd H l (.lst (xs++[y])))
theorem Ypn:MtM X "list.append" y3w:=by
 intro pins s σ H x vs v us Q I rx rv h
 obtain⟨l,xs,y,rfl,rfl,hH,hz,q⟩:=h
 cases rx
 obtain⟨u,rfl,ru⟩:=rv.one
 obtain⟨z,its,n,r,hl,e⟩:=I.lstM hH
 refine call_meets F.slot_list_append ⟨_,e,rfl⟩ F.entry_list_append (F.args_list_append_2 _ _) (PySem.list_append l its.toArray n u (by rw[qk];lia)) ⟨e,?_⟩
 refine⟨.non,_,I.lset (its':=its++[u]) hH e (by simp) (r.append (.cons ru .nil)) ?_,rfl,q⟩
 rw[qy,List.length_singleton]
 lia
end
end L2
namespace Att
open PySem PySem.W PySem.Calls PyProof.Rows
theorem Yka{P:Params}{h:Heap}:∀(ns:List Int) (vs:List Value),WellAll P h vs (ns.map WData.int)->IntsAre vs ns:=by
 intro ns
 induction ns with
 | nil=>
   intro vs w
   rw[List.map_nil]at w
   cases w
   exact .nil
 | cons n ns ih=>
   intro vs w
   rw[Qc]at w
   cases w with
   | cons a b=>
     cases a
     exact .cons _ _ (ih _ b)
theorem Ywf{l:OpenLaw}{n:Nat}(hn:l.most=some n){P:Params}{h:Heap}{args:List WData}{vals:List Value}
 (hpre:l.row.toRowW.claim.pre args=true) (hwl:WellAll P h vals args) :
 ∃a vs ns,vals=[Value.ref a]/\args=[WData.list (ns.map WData.int)]/\h.get? a=some { cls:=.type "list",data:=.seq vs.toArray }/\IntsAre vs ns/\ns.length<=n:=by
 have hsh:WShape.hasAll [] args [.list .int]=true:=(pre_splitW hpre).1
 have hc:l.pre.holds [] { args:=args }=true:=(pre_splitW hpre).2
 obtain⟨d,r,rfl,h1,h2⟩:=hasAllW_cons hsh
 obtain rfl:=hasAllW_nil h2
 obtain⟨xs,rfl,h3⟩:=hasW_list h1
 obtain⟨ns,rfl⟩:=items_int h3
 have hlen:ns.length<=n:=by
  unfold OpenLaw.pre at hc
  have h4:(WTm.not (.lt (.lit (.int (n:Int))) (.len (.arg 0)))).holds [] { args:=[.list (ns.map .int)] }=true:=by
   have h4:=(holds_andW hc).1
   rw[hn]at h4
   exact h4
  have h5:=condW_of h4 (w_not (w_lt w_lit (w_len_list (w_arg rfl))))
  rw[qf]at h5
  refine Nat.le_of_not_lt fun q=>?_
  have q':(n:Int) < ((ns.length:Nat):Int):=by lia
  first
   | (rw[decide_eq_true q']at h5;exact absurd h5 (by decide))
   | (simp at h5;lia)
 cases hwl with
 | cons w1 w2=>
   cases w2
   cases w1 with
   | list ho hall=>exact⟨_,_,ns,rfl,rfl,ho,Yka ns _ hall,hlen⟩
theorem Ywg(l:OpenLaw)(args:List WData):l.row.toRowW.claim.post args (.bool true) args=true:=
 postW_of (r:=l.row.toRowW) (X:=(true==true))
  (show WShape.has [] (.bool true) .bool=true by first | rfl | decide | simp[WShape.has,WShape.arms,WShape.armsAll])
  (show(WTm.eq .res (.lit (.bool true))).value [] { args:=args,res:=some (.bool true),after:=args }=some (.bool (true==true)) from w_eq_bool (w_res rfl) w_lit) rfl
theorem attach_call{l:OpenLaw}{n:Nat}{q:Program}{loose:List Str}{XP:(Str->Option Value)->Heap->Prop}{YP:World->Heap->Prop}{d:DefRec}
 (hn:l.most=some n) (hdf:d.params.defaults=[])
 (call:∀(w:World) (s₀ s₁:Shared) (mg mb:Str->Option Value) (fa:Addr) (o:Obj) (pm cd doc:Value) (a:Addr) (vs:List Value) (ns:List Int),
  Ground q loose [] XP w s₀ mg mb s₁.heap->YP w s₁.heap->
  s₁.heap.get? fa=some o->o.data=.func (docDef d.name d.params d.body d.scope pm cd doc)->s₁.heap.CodeRec cd d.name->mg d.name=some (.ref fa)->
  s₁.heap.get? a=some { cls:=.type "list",data:=.seq vs.toArray }->IntsAre vs ns->ns.length<=n->s₁.gens=#[]->
  codeAny (model l.prog w) callerA (.call (.ref fa) ⟨[.ref a],[]⟩) (fun r s'=>r=.ok (.ret (.bool true))/\OldK s₁.heap s'.heap/\s'.os=s₁.os/\AllBare s'.gens) s₁) :
 WalkO q loose XP YP l.row.toRowW d [] (fun f vs=>PySem.call f vs):=by
 intro w s₀ s₁ mg mb G Y fa o pm cd doc dV kV ho hd hcd hD hmg hg args vals as hpre hlay hrd hwl hlo
 obtain rfl:dV=.none:=Dflts.none hD hdf
 obtain rfl:kV=.none:=Dflts.noKw hD
 obtain⟨a,vs,ns,rfl,rfl,hobj,hints,hlen⟩:=Ywf hn hpre hwl
 refine enter_call (codeAny_mono (call w s₀ s₁ mg mb fa o pm cd doc a vs ns G Y ho (fd_plain hd) hcd hmg hobj hints hlen hg) fun r s' hq=>?_)
 obtain⟨rfl,h2,h3,h4⟩:=hq
 exact⟨.inl ⟨.bool true,.bool true,[],rfl,fun _=>rfl,.bool true,Ywg l _,fun _=>⟨List.Pairwise.nil,fun _ hm=>(nomatch hm)⟩⟩,h2,h3,h4⟩
end Att
namespace L2
open PySem PySem.Spec PyProof.Rows
theorem Ykb:∀{vs:List Value} {ns:List Int},IntsAre vs ns->Vals (ns.map V.int) vs
 | _,_,.nil=>.nil
 | _,_,.cons n t h=>.cons ⟨t,rfl⟩ (Ykb h)
def Only(H:Hp):Prop:=∀b,H b=none\/∃o xs,H b=some (.frz o (.lst xs))
theorem y0f{P:Program}{w:World}{K:W.Frag}{mg mb:Str->Option Value}{CX:CXT}{k:Nat}{fa a:Addr}{fd:FuncData}{x:Str}{sp:Sp}{s₁:Shared}{vs:List Value}{ns:List Int}
 (KX:K.In s₁.heap) (hns:s₁.heap.Ns mainGlobals mg) (hb:s₁.heap.Ns builtinsNs mb) (hbb:∀x:Str,x≠"__name__"->mb x=bootBuiltins x) (hlim:s₁.heap.NoLimit) (hg:s₁.gens=#[])
 (ha:s₁.heap.get? a=some { cls:=.type "list",data:=.seq vs.toArray }) (hi:IntsAre vs ns) (hl:ns.length<=sizeLine) (hr:Room k callerA)
 (F:∀base:Heap,K.In base->base.Ns mainGlobals mg->FnOk P w K mg base CX k fa fd [x] sp) (hbind:∀(s:Shared) (u:Value),BindsTo s fd ⟨[u],[]⟩ [(x,u)])
 (hsp:∀H:Hp,Only H->SqL K H a (ns.map V.int)->sp [.ref a] H (fun v _=>v=.bl true) fun _ _ _=>False)
 (hCX:∀H e s',CX [] H s₁ (fun _ _ _=>False) e s'->False) :
 codeAny (model P w) callerA (.call (.ref fa) ⟨[.ref a],[]⟩) (fun r s'=>r=.ok (.ret (.bool true))/\OldK s₁.heap s'.heap/\s'.os=s₁.os/\AllBare s'.gens) s₁:=by
 have rv:=Ykb hi
 have lenV:=hi.length
 have core:∀H:Hp,Only H->SqL K H a (ns.map V.int)->HOk P w H s₁.heap->(∀b,H b≠none->b=a)->(H a≠none->K.lookup a=none)->
  codeAny (model P w) callerA (.call (.ref fa) ⟨[.ref a],[]⟩) (fun r s'=>r=.ok (.ret (.bool true))/\OldK s₁.heap s'.heap/\s'.os=s₁.os/\AllBare s'.gens) s₁:=by
  intro H hO hS hok hA hK
  have base_of:∀{b:Addr} {o:Obj},s₁.heap.get? b=some o->H b=none->(hidT s₁.heap H).get? b=some o:=fun e n=>Yz2 e n
  have noA:∀{b:Addr} {o:Obj} {es:Array DictEntry} {ep:Nat},s₁.heap.get? b=some o->o.data=.dict es ep->H b=none:=fun {b o es ep} e d=>by
   cases q:H b with
   | none=>rfl
   | some u=>
     have e':b=a:=hA b (by rw[q];simp)
     subst e'
     rw[ha]at e;cases e
     have d':Data.seq vs.toArray _=Data.dict es ep:=d
     cases d'
  have nsK:∀{b:Addr} {m:Str->Option Value},s₁.heap.Ns b m->(hidT s₁.heap H).Ns b m:=fun {b m} ⟨o,es,ep,e,d,r⟩=>⟨o,es,ep,base_of e (noA e d),d,r⟩
  have hKb:K.In (hidT s₁.heap H):=fun b o e=>base_of (KX b o e) (by
   cases q:H b with
   | none=>rfl
   | some u=>
     have e':b=a:=hA b (by rw[q];simp)
     subst e'
     rw[hK (by rw[q];simp)]at e;cases e)
  have hM:Mod K mg (hidT s₁.heap H):=⟨hKb,nsK hns,⟨mb,nsK hb,hbb⟩,let ⟨mc,h1,h2⟩:=hlim;⟨mc,nsK h1,h2⟩⟩
  have e0:Env0 P w K mg (hidT s₁.heap H) callerA [] s₁ H:=⟨rfl,hM,fun b o e=>y3b e,Nat.le_of_eq (Yvw _ _),trivial,fun b hb=>absurd (show b∈([]:List Addr) from hb) (by simp),hok,.of_eq hg⟩
  refine codeAny_mono ((F _ hKb (nsK hns)).run callerA [] s₁ H ⟨[.ref a],[]⟩ [.ref a] [.ref a] _ _ hr e0 (hbind s₁ (.ref a)) (.cons rfl .nil) (hsp H hO hS)) fun r s' h=>?_
  cases r with
  | error e=>exact(hCX H e s' h).elim
  | ok fl=>
    cases fl with
    | next=>exact False.elim h
    | brk=>exact False.elim h
    | cont=>exact False.elim h
    | ret u=>
      obtain⟨v,H',os,bare,un,hok',r',q⟩:=h
      have q':v=.bl true:=q
      subst q'
      obtain rfl:u=Value.bool true:=r'
      refine⟨rfl,OldK.of_keep fun b o e=>?_,os,bare⟩
      cases q:H b with
      | none=>exact un.keep b o e q (by intro z;exact absurd (show b∈([]:List Addr) from z) (by simp)) (by simp)
      | some u=>
        rcases hO b with z | ⟨ob,xs,z⟩
        ·rw[q]at z;cases z
        ·have z2:=un.frzs b ob _ z
         obtain⟨e1,_⟩:=hok b _ z
         obtain⟨e2,_⟩:=hok' b _ z2
         rw[e]at e1;cases e1
         exact e2
 cases hk:K.lookup a with
 | some o=>
   have e:=KX a o hk
   rw[ha]at e
   cases e
   refine core (fun _=>none) (fun _=>.inl rfl) (.inr ⟨_,vs.toArray,_,hk,rfl,rfl,rfl,by rw[qk,lenV];exact hl,by simpa using rv⟩) (fun b u z=>by have z':(none:Option HO)=some u:=z;cases z') (fun b z=>absurd rfl z) fun z=>absurd rfl z
 | none=>
   refine core (fun b=>if b=a then some (.frz { cls:=.type "list",data:=.seq vs.toArray } (.lst (ns.map V.int)))else none) (fun b=>?_) (.inl (.inr ⟨{ cls:=.type "list",data:=.seq vs.toArray },if_pos rfl⟩)) (fun b u z=>?_) (fun b z=>?_) fun _=>hk
   ·by_cases hb:b=a
    ·exact .inr ⟨_,_,if_pos hb⟩
    ·exact .inl (if_neg hb)
   ·by_cases hb:b=a
    ·have z':=(if_pos hb).symm.trans z
     cases z'
     subst hb
     exact⟨ha,by rw[qf];exact hl,vs,_,rv,ha⟩
    ·have z':=(if_neg hb).symm.trans z
     cases z'
   ·by_cases hb:b=a
    ·exact hb
    ·exact absurd (if_neg hb) z
end L2
namespace L2
open PySem PySem.Spec PyProof.Rows
theorem walk_of{l:W.OpenLaw}{n k:Nat}{q:Program}{loose:List Str}{XP:(Str->Option Value)->Heap->Prop}{YP:World->Heap->Prop}{d:DefRec}{K:Params->W.Frag}{CX:World->CXT}{sp:World->Sp}{x:Str}
 (hn:l.most=some n) (hn2:n<=sizeLine) (hdf:d.params.defaults=[]) (hr:Room k callerA)
 (hY:∀(w:World) (h:Heap),YP w h->(K w.params).In h)
 (F:∀(w:World) (mg:Str->Option Value) (fa:Addr) (h:Heap),(K w.params).In h->h.Ns mainGlobals mg->mg d.name=some (.ref fa)->
  ∃fd:FuncData,(∀(s:Shared) (u:Value),BindsTo s fd ⟨[u],[]⟩ [(x,u)])/\
   ∀base:Heap,(K w.params).In base->base.Ns mainGlobals mg->FnOk l.prog w (K w.params) mg base (CX w) k fa fd [x] (sp w))
 (hsp:∀(w:World) (H:Hp) (a:Addr) (ns:List Int),ns.length<=n->Only H->SqL (K w.params) H a (ns.map V.int)->sp w [.ref a] H (fun v _=>v=.bl true) fun _ _ _=>False)
 (hCX:∀(w:World) (H:Hp) (s:Shared) (e:Value) (s':Shared),CX w [] H s (fun _ _ _=>False) e s'->False) :
 W.WalkO q loose XP YP l.row.toRowW d [] (fun f vs=>PySem.call f vs):=by
 refine Att.attach_call hn hdf fun w s₀ s₁ mg mb fa o pm cd doc a vs ns G Y ho hd hcd hmg hobj hints hlen hg=>?_
 have KX:=hY w _ Y
 obtain⟨fd,hb,hF⟩:=F w mg fa _ KX G.T.g hmg
 exact y0f KX G.T.g G.T.b G.T.builtins G.T.nolimit hg hobj hints (Qj hlen hn2) hr hF hb (fun H hO hS=>hsp w H a ns hlen hO hS) fun H e s'=>hCX w H s₁ e s'
end L2
namespace L2
open PySem PySem.Spec PyProof.Rows
def defArgs(s:Stmt):Arguments:=match s with
 | .FunctionDef _ a _ _ _ _ _ _ _ _=>a
 | _=>{ posonlyargs:=[],args:=[],vararg:=none,kwonlyargs:=[],kw_defaults:=[],kwarg:=none,defaults:=[] }
def defBody(s:Stmt):List Stmt:=match s with
 | .FunctionDef _ _ b _ _ _ _ _ _ _=>b
 | _=>[]
def defScope(s:Stmt):Scope:=match s with
 | .FunctionDef _ _ _ _ _ _ sc _ _ _=>sc
 | _=>{ kind:=.function,names:=[],isGenerator:=false,isCoroutine:=false }
abbrev CX0:CXT:=fun _ _ _ _ _ _=>False
abbrev E0:XK:=fun _ _ _=>False
theorem y95{X:Cx}:Yv7 CX0 X E0:=fun _ _ _ _ _ _ _ h=>h.elim
structure Fun(K:W.Frag)(x qual:Str)(st:Stmt)(f:Addr)(fd:FuncData):Prop where
 ex:∃(oc:Value) (od:Option Addr) (kV doc pm:Value) (an:Option Addr) (cdv ct:Value) (osl:Array (Option Value)),
  fd=W.fnOf x qual (defArgs st) (defBody st) (defScope st) .none kV doc pm an cdv ct/\K.lookup f=some ⟨oc,od,.func fd,osl⟩/\W.codeIn K cdv qual=true
 kp:W.keepIn K (.ref f)=true
section
variable {P:Program} {w:World} {K:W.Frag} {mg:Str->Option Value} {base:Heap}
theorem Fun.ok{x qual:Str}{st:Stmt}{f:Addr}{fd:FuncData}{N ps:List Str}{k:Nat}{sp:Sp}(F:Fun K x qual st f fd)(S:FnScope N ps (defScope st))(len:∀vs H Q E,sp vs H Q E->vs.length=ps.length)
 (hbody:∀(cdv:Value) (A:Around) (outer:List Env) (s:Shared) (H:Hp) (vs:List V) (Q:VK) (E:XK),Room k (A.deeper (envOfC qual (defScope st) s.heap.objs.size f cdv))->sp vs H Q E->
  ∃t,PSs (cxOf CX0 P w K mg base N qual (defScope st) f cdv A outer s H E).nox (defBody st) t/\t { nx:=fun _ H'=>Q .non H',rt:=Q } (start N vs) H):FnOk P w K mg base CX0 (k+1) f fd ps sp:=by
 obtain⟨oc,od,kV,doc,pm,an,cdv,ct,osl,rfl,lk,hcd⟩:=F.ex
 refine y91 lk hcd S len fun A outer s H vs Q E hr hsp=>?_
 obtain⟨t,h,q⟩:=hbody cdv A outer s H vs Q E hr hsp
 exact⟨t,h.nox,q⟩
theorem Fun.binds{x qual:Str}{st:Stmt}{f:Addr}{fd:FuncData}{ps:List Str}(F:Fun K x qual st f fd)
 (h:∀(kV doc pm:Value) (an:Option Addr) (cdv ct:Value) (us:List Value),us.length=ps.length->bindArgs (W.fnOf x qual (defArgs st) (defBody st) (defScope st) .none kV doc pm an cdv ct) ⟨us,[]⟩=pure (ps.zip us)):Binds K fd ps []:=by
 obtain⟨oc,od,kV,doc,pm,an,cdv,ct,osl,rfl,lk,hcd⟩:=F.ex
 exact .all (h kV doc pm an cdv ct)
theorem y2e{x qual:Str}{st:Stmt}{f:Addr}{oc:Value}{od an:Option Addr}{osl:Array (Option Value)}{kV doc pm cdv ct:Value}(l:K.lookup f=some ⟨oc,od,.func (W.fnOf x qual (defArgs st) (defBody st) (defScope st) .none kV doc pm an cdv ct),osl⟩)
 (c:W.codeIn K cdv qual=true) (k:W.keepIn K (.ref f)=true):Fun K x qual st f (W.fnOf x qual (defArgs st) (defBody st) (defScope st) .none kV doc pm an cdv ct):=⟨⟨oc,od,kV,doc,pm,an,cdv,ct,osl,rfl,l,c⟩,k⟩
end
def Same(H H':Hp):Prop:=∀b o,H b=some o->H' b=some o
theorem Same.refl(H:Hp):Same H H:=fun _ _ h=>h
theorem Same.trans{H H1 H2:Hp}(a:Same H H1)(b:Same H1 H2):Same H H2:=fun c o h=>b c o (a c o h)
theorem Same.free{H H':Hp}(e:Same H H'){l:Addr}(h:H' l=Option.none):H l=Option.none:=by
 cases q:H l with
 | none=>rfl
 | some o=>
   rw[e l o q]at h
   cases h
theorem Same.seq{K:W.Frag}{H H':Hp}{a:Addr}{xs:List V}(e:Same H H')(h:SqL K H a xs):SqL K H' a xs:=by
 rcases h with(h | ⟨o,h⟩) | h
 ·exact .inl (.inl (e _ _ h))
 ·exact .inl (.inr ⟨o,e _ _ h⟩)
 ·exact .inr h
end L2
namespace L2
open PySem PySem.Spec PyProof.Rows
def clOf(env:Env):List (Str × NameKind)->List (Str × Addr)->List (Str × Addr)
 | [],cs=>cs
 | (n,k)::r,cs=>if (k==NameKind.free)=true then (match env.cells.lookup n with | some c=>clOf env r ((n,c)::cs) | none=>clOf env r cs)else clOf env r cs
theorem Yf4{scope:Scope}{env:Env}(h:∀x∈scope.names,x.2=NameKind.free->∃c,env.cells.lookup x.1=some c):closureFor scope env=pure (clOf env scope.names []):=by
 have key:∀(l:List (Str × NameKind)) (cs:List (Str × Addr)),(∀x∈l,x.2=NameKind.free->∃c,env.cells.lookup x.1=some c)->
  (forIn l cs fun(x:Str × NameKind) (r:List (Str × Addr))=>if (x.2==NameKind.free)=true then (do let c <-cellOf env x.1;pure (ForInStep.yield ((x.1,c)::r)))else pure (ForInStep.yield r))=(pure (clOf env l cs):Sem (List (Str × Addr))):=by
  intro l
  induction l with
  | nil=>intro cs _;rfl
  | cons x l ih=>
    intro cs hl
    obtain⟨n,k⟩:=x
    have ht:=fun y hy=>hl y (qg _ hy)
    rw[List.forIn_cons]
    by_cases hk:k=NameKind.free
    ·subst hk
     obtain⟨c,hc⟩:=hl (n,NameKind.free) qh rfl
     have hc':env.cells.lookup n=some c:=hc
     have e1:cellOf env n=pure c:=by unfold cellOf;rw[hc']
     have hff:(NameKind.free==NameKind.free)=true:=rfl
     show(if (NameKind.free==NameKind.free)=true then (do let c <-cellOf env n;pure (ForInStep.yield ((n,c)::cs)))else pure (ForInStep.yield cs)) >>= _=_
     rw[if_pos hff,e1,pure_bind,pure_bind]
     show forIn l ((n,c)::cs) _=_
     rw[ih _ ht]
     show _=pure (if (NameKind.free==NameKind.free)=true then (match env.cells.lookup n with | some c=>clOf env l ((n,c)::cs) | none=>clOf env l cs)else clOf env l cs)
     rw[if_pos hff,hc']
    ·have hb:(k==NameKind.free)=false:=by simpa using hk
     show(if (k==NameKind.free)=true then _ else pure (ForInStep.yield cs)) >>= _=_
     rw[if_neg (by rw[hb];exact qi),pure_bind]
     show forIn l cs _=_
     rw[ih _ ht]
     show _=pure (if (k==NameKind.free)=true then (match env.cells.lookup n with | some c=>clOf env l ((n,c)::cs) | none=>clOf env l cs)else clOf env l cs)
     rw[if_neg (by rw[hb];exact qi)]
 have:=key scope.names [] h
 unfold closureFor
 simpa using this
theorem Yj2{env:Env}:∀(l:List (Str × NameKind)) (cs:List (Str × Addr)),(∀x c,(x,c)∈cs->env.cells.lookup x=some c)->∀x c,(x,c)∈clOf env l cs->env.cells.lookup x=some c
 | [],cs,h,x,c,e=>h x c e
 | (n,k)::r,cs,h,x,c,e=>by
   unfold clOf at e
   split at e
   ·split at e
    ·rename_i d hd
     refine Yj2 r _ (fun y b hy=>?_) x c e
     rcases qt hy with q | q
     ·cases q;exact hd
     ·exact h y b q
    ·exact Yj2 r cs h x c e
   ·exact Yj2 r cs h x c e
theorem Ygm{env:Env}:∀(l:List (Str × NameKind)) (cs:List (Str × Addr)) (p:Str × Addr),p∈cs->p∈clOf env l cs
 | [],_,_,h=>h
 | (n,k)::r,cs,p,h=>by
   unfold clOf
   split
   ·split
    ·exact Ygm r _ p (qg _ h)
    ·exact Ygm r _ p h
   ·exact Ygm r _ p h
theorem Yhk{env:Env}:∀(l:List (Str × NameKind)) (cs:List (Str × Addr)) (x:Str) (c:Addr),(x,NameKind.free)∈l->env.cells.lookup x=some c->(x,c)∈clOf env l cs
 | (n,k)::r,cs,x,c,h,hc=>by
   rcases qt h with q | q
   ·cases q
    unfold clOf
    rw[if_pos (show(NameKind.free==NameKind.free)=true from rfl),hc]
    exact Ygm r _ _ qh
   ·unfold clOf
    split
    ·split
     ·exact Yhk r _ x c q hc
     ·exact Yhk r _ x c q hc
    ·exact Yhk r _ x c q hc
theorem Yhl{x:Str}{c:Addr}{cl:List (Str × Addr)}(h:(x,c)∈cl):∃d,cl.lookup x=some d:=by
 induction cl with
 | nil=>cases h
 | cons p r ih=>
   obtain⟨n,b⟩:=p
   rw[Qo]
   cases e:(x==n)with
   | true=>exact⟨b,rfl⟩
   | false=>
     rcases qt h with q | q
     ·cases q;simp at e
     ·exact ih q
structure CompSc(XN:List Str)(xsc:Scope)(N:List Str)(src:List (Option Nat))(sc:Scope):Prop where
 kind:sc.kind=.function
 xkind:xsc.kind=.function
 cellU:∀y∈sc.names,y.2=NameKind.cell->sc.names.lookup y.1=some NameKind.cell
 names:∀y∈sc.names,y.2=NameKind.local->sc.names.lookup y.1=some NameKind.local
 len:src.length=N.length
 nd:N.Nodup
 cap:∀(i j:Nat) (x:Str),N[i]?=some x->src[i]?=some (some j)->XN[j]?=some x/\sc.names.lookup x=some NameKind.free
 fr:∀y∈sc.names,y.2=NameKind.free->xsc.names.lookup y.1=some NameKind.cell\/xsc.names.lookup y.1=some NameKind.free
def capB(XN:List Str)(sc:Scope):List Str->List (Option Nat)->Bool
 | [],[]=>true
 | x::N,none::src=>capB XN sc N src
 | x::N,some j::src=>decide (XN[j]?=some x)&&decide (sc.names.lookup x=some NameKind.free)&&capB XN sc N src
 | _,_=>false
theorem Yna{XN:List Str}{sc:Scope}:∀{N:List Str} {src:List (Option Nat)},capB XN sc N src=true->src.length=N.length
 | [],[],_=>rfl
 | _::N,none::src,h=>by
   have:=Yna (N:=N) (src:=src) h
   simp[this]
 | _::N,some j::src,h=>by
   replace h:(decide (XN[j]?=some _)&&decide (sc.names.lookup _=some NameKind.free)&&capB XN sc N src)=true:=h
   simp only[Qf]at h
   have:=Yna (N:=N) (src:=src) h.2
   simp[this]
 | [],_::_,h=>Bool.noConfusion h
 | _::_,[],h=>Bool.noConfusion h
theorem Ynb{XN:List Str}{sc:Scope}:∀{N:List Str} {src:List (Option Nat)},capB XN sc N src=true->∀(i j:Nat) (x:Str),N[i]?=some x->src[i]?=some (some j)->XN[j]?=some x/\sc.names.lookup x=some NameKind.free
 | [],[],_,i,j,x,h,_=>by simp at h
 | _::N,none::src,h,i,j,x,h1,h2=>by
   cases i with
   | zero=>simp at h2
   | succ i=>exact Ynb (N:=N) (src:=src) h i j x (by simpa using h1) (by simpa using h2)
 | y::N,some k::src,h,i,j,x,h1,h2=>by
   replace h:(decide (XN[k]?=some y)&&decide (sc.names.lookup y=some NameKind.free)&&capB XN sc N src)=true:=h
   simp only[Qf,decide_eq_true_eq]at h
   cases i with
   | zero=>
     simp at h1 h2
     subst h1;subst h2
     exact h.1
   | succ i=>exact Ynb (N:=N) (src:=src) h.2 i j x (by simpa using h1) (by simpa using h2)
 | [],_::_,h,_,_,_,_,_=>Bool.noConfusion h
 | _::_,[],h,_,_,_,_,_=>Bool.noConfusion h
def y66(XN:List Str)(xsc:Scope)(N:List Str)(src:List (Option Nat))(sc:Scope):Bool:=
 decide (sc.kind=.function)&&decide (xsc.kind=.function)&&sc.names.all (fun y=>decide (y.2=NameKind.cell->sc.names.lookup y.1=some NameKind.cell))&&sc.names.all (fun y=>decide (y.2=NameKind.local->sc.names.lookup y.1=some NameKind.local))&&
  decide N.Nodup&&capB XN sc N src&&sc.names.all (fun y=>decide (y.2=NameKind.free->xsc.names.lookup y.1=some NameKind.cell\/xsc.names.lookup y.1=some NameKind.free))
theorem Yz{XN:List Str}{xsc:Scope}{N:List Str}{src:List (Option Nat)}{sc:Scope}(h:y66 XN xsc N src sc=true):CompSc XN xsc N src sc:=by
 unfold y66 at h
 simp only[Qf,decide_eq_true_eq,List.all_eq_true]at h
 obtain⟨⟨⟨⟨⟨⟨h1,h2⟩,h3⟩,h4⟩,h5⟩,h6⟩,h7⟩:=h
 exact⟨h1,h2,h3,h4,Yna h6,h5,Ynb h6,h7⟩
abbrev Ya3(X:Cx)(scope:Scope)(N:List Str)(cl:List (Str × Addr))(C:Addr)(fp:List Addr)(s:Shared)(H:Hp):Cx where
 prog:=X.prog
 w:=X.w
 K:=X.K
 mg:=X.mg
 base:=X.base
 A:=X.A
 N:=N
 s₀:=s
 H₀:=H
 env:=compEnvC scope cl C X.env
 outer:=X.stack
 stack:=X.stack
 ex:=fp
 fn:=fun x=>scope.names.lookup x==some NameKind.cell
 calm:=X.calm
 pn:=[]
 xe:=fun _ _=>False
def capσ(src:List (Option Nat))(σ:St):St:=src.map fun o=>o.bind fun j=>(σ[j]?).join
def PIfs(X:Cx)(ifs:List Expr)(t:TT):Prop:=
 ∀(pins:List (Addr × Obj)) (s:Shared) (σ:St) (H:Hp) (Q:Bool->Hp->Prop),Inv X pins σ H s->t σ H Q->
  wpAny (model X.prog X.w) X.A (forIn ifs true fun c r=>if r=true then do let ok <-isTrue c X.env (eval c X.env);pure (ForInStep.yield ok)else pure (ForInStep.yield r)) (TP X pins σ Q) X.xe s
def tYes:TT:=fun _ H Q=>Q true H
theorem y3x{X:Cx}:PIfs X [] tYes:=fun _ _ _ H _ I h=>wpAny_tests_nil ⟨H,I,h⟩
theorem y3y{X:Cx}{c:Expr}{t:TT}(h:PT X c t):PIfs X [c] t:=fun pins s σ H Q I hq=>wpAny_tests_one (h pins s σ H Q I hq)
def tLC(wi:TI)(src:List (Option Nat))(g:TG)(ti:TT)(te:TE):TE:=fun σ H Q=>wi σ H fun J H1=>∀p,H1 p=none->
 ∃W:Nat->Nat->St->Hp->Prop,(∃m,W 0 m (capσ src σ) (upd H1 p (.lst [])))/\∀i m σ1 H2,W i m σ1 H2->
  (J.stop i H2/\Q (.ref p) H2)\/
  (J.go i H2/\∀x H3,J.yld i H2 x H3->g x σ1 H3 fun σ4 H4=>ti σ4 H4 fun b H5=>if b=true then te σ4 H5 fun v H6=>∃xs,H6 p=some (.lst xs)/\xs.length < sizeLine/\∃m',m' < m/\W (i+1) m' σ4 (upd H6 p (.lst (xs++[v])))else ∃m',m' < m/\W (i+1) m' σ4 H5)
section
variable {prog:Program} {w:World} {A:Around} {R:Result->Shared->Prop} {s:Shared} {X:Cx} {elt tg iter:Expr} {ifs:List Expr} {scope:Scope} {pos:Pos} {wi:TI} {g:TG} {ti:TT} {te:TE} {N:List Str} {src:List (Option Nat)}
theorem Ygv{elt target iter:Expr}{ifs:List Expr}{scope:Scope}{pos:Pos}{it acc:Value}{env:Env}(I:Nat->Shared->Prop)
 (turn:∀n s,I n s->wpAny (model prog w) A (pyNext it) (fun r s₁=>match r with
  | none=>R (.ok .next) s₁
  | some v=>wpAny (model prog w) A (letOwnedTupleGo target it v) (fun _ s₁=>wpAny (model prog w) A (assign target env v) (fun _ s₂=>
   wpAny (model prog w) A (forIn ifs true fun c r=>if r=true then do let ok <-isTrue c env (eval c env);pure (ForInStep.yield ok)else pure (ForInStep.yield r)) (fun ok s₃=>
    if ok=true then wpAny (model prog w) A (eval elt env) (fun x s₄=>
     wpAny (model prog w) A (call (.builtin "list.append") [acc,x]) (fun _ s₅=>∃m,m < n/\I m s₅) (notedBy (model prog w) A env fun e s'=>R (.error e) s') s₄) (notedBy (model prog w) A env fun e s'=>R (.error e) s') s₃
    else ∃m,m < n/\I m s₃) (notedBy (model prog w) A env fun e s'=>R (.error e) s') s₂) (notedBy (model prog w) A env fun e s'=>R (.error e) s') s₁) (notedBy (model prog w) A env fun e s'=>R (.error e) s') s₁) (notedBy (model prog w) A env fun e s'=>R (.error e) s') s)
 (n:Nat) (h:I n s) :
 codeAny (model prog w) A (.compLoop (.ListComp elt [⟨target,iter,ifs,0⟩] scope pos) 0 it acc env) R s:=by
 refine codeAny_loop rfl I (fun n s hI=>?_) n h
 show wpAny _ A ((compTurn (.ListComp elt [⟨target,iter,ifs,0⟩] scope pos) 0 it acc env).onRaise (fun x=>do noteFrame x env;theTreesLotGoes x)) _ _ s
 refine wpAny_noted ?_
 rw[compTurn_list]
 refine wpAny_bind (wpAny_standAt (wpAny_bind (wpAny_mono (turn n s hI) (fun r s₁ h₁=>?_) fun _ _ h'=>h')))
 cases r with
 | none=>exact wpAny_pure h₁
 | some v=>
   refine wpAny_bind (wpAny_mono h₁ (fun _ s₁ h₁=>?_) fun _ _ h'=>h')
   refine wpAny_bind (wpAny_mono h₁ (fun _ s₂ h₂=>wpAny_bind (wpAny_mono h₂ (fun ok s₃ h₃=>?_) fun _ _ h'=>h')) fun _ _ h'=>h')
   cases ok with
   | false=>exact wpAny_pure ⟨rfl,h₃⟩
   | true=>
     exact wpAny_bind (wpAny_bind (wpAny_mono h₃ (fun x s₄ h₄=>wpAny_bind (wpAny_mono h₄ (fun _ s₅ h₅=>wpAny_pure (wpAny_pure ⟨rfl,h₅⟩)) fun _ _ h'=>h')) fun _ _ h'=>h'))
theorem Yg6{scope:Scope}{env:Env}{x:Str}(h:scope.names.lookup x=some NameKind.free)(hk:env.kindOf x=some NameKind.cell\/env.kindOf x=some NameKind.free) :
 (relabel scope env).names.lookup x=some NameKind.cell\/(relabel scope env).names.lookup x=some NameKind.free:=by
 unfold relabel
 show List.lookup x (scope.names.map _)=_\/List.lookup x (scope.names.map _)=_
 generalize scope.names=l at h
 induction l with
 | nil=>cases h
 | cons p r ih=>
   obtain⟨n,k⟩:=p
   rw[Qo]at h
   rw[Qc]
   cases e:(x==n)with
   | true=>
     rw[e]at h
     cases h
     by_cases hc:(NameKind.free==NameKind.free&&env.scope.kind==ScopeKind.function&&env.kindOf n==some NameKind.cell)=true
     ·left;simp only[hc,if_true];rw[Qo,e]
     ·right;simp only[hc];rw[if_neg qi,Qo,e]
   | false=>
     rw[e]at h
     have q:=ih h
     by_cases hc:(k==NameKind.free&&env.scope.kind==ScopeKind.function&&env.kindOf n==some NameKind.cell)=true
     ·simp only[hc,if_true];rw[Qo,e];exact q
     ·simp only[hc];rw[if_neg qi,Qo,e];exact q
theorem Ykc{scope:Scope}{env:Env}{x:Str}(h:(relabel scope env).names.lookup x=some NameKind.cell\/(relabel scope env).names.lookup x=some NameKind.free) :
 (x,NameKind.free)∈scope.names\/(x,NameKind.cell)∈scope.names:=by
 unfold relabel at h
 change List.lookup x (scope.names.map _)=_\/List.lookup x (scope.names.map _)=_ at h
 revert h
 generalize scope.names=l
 intro h
 induction l with
 | nil=>rcases h with h | h<;>cases h
 | cons p r ih=>
   obtain⟨n,k⟩:=p
   rw[Qc]at h
   have hr:=fun z=>ih z
   cases e:(x==n)with
   | true=>
     have en:x=n:=by simpa using e
     subst en
     by_cases hk:k=NameKind.free
     ·subst hk;exact .inl qh
     ·have hb:(k==NameKind.free)=false:=by simpa using hk
      simp only[hb,Bool.false_and,Qm,if_false]at h
      rw[Qo,e]at h
      rcases h with h | h
      ·cases h;exact .inr qh
      ·cases h;exact absurd rfl hk
   | false=>
     refine(hr ?_).imp (qg _) (qg _)
     by_cases hk:(k==NameKind.free&&env.scope.kind==ScopeKind.function&&env.kindOf n==some NameKind.cell)=true
     ·simp only[hk,if_true]at h;rw[Qo,e]at h;exact h
     ·simp only[hk]at h;rw[if_neg qi,Qo,e]at h;exact h
theorem Yce:∀(names:List (Str × NameKind)) (n:Nat) (acc:List (Str × Addr)),cellsFrom n names acc=cellsFrom n names []++acc
 | [],_,_=>rfl
 | (x,k)::r,n,acc=>by
   unfold cellsFrom
   split
   ·rw[Yce r (n+1) ((x,n)::acc),Yce r (n+1) [(x,n)],List.append_assoc];rfl
   ·exact Yce r n acc
theorem Yff:∀(names:List (Str × NameKind)) (n:Nat) (x:Str) (c:Addr),(x,c)∈cellsFrom n names []->(x,NameKind.cell)∈names
 | [],_,_,_,h=>(nomatch h)
 | (y,k)::r,n,x,c,h=>by
   unfold cellsFrom at h
   split at h
   ·rename_i hk
    rw[Yce]at h
    rcases qv h with h | h
    ·exact qg _ (Yff r _ x c h)
    ·rw[Ql]at h
     cases h
     have:k=NameKind.cell:=by simpa using hk
     rw[this];exact qh
   ·exact qg _ (Yff r n x c h)
theorem Yin{own cl:List (Str × Addr)}{x:Str}:(own++cl).lookup x=(own.lookup x).or (cl.lookup x):=by
 induction own with
 | nil=>rfl
 | cons p r ih=>
   obtain⟨y,b⟩:=p
   rw[List.cons_append,Qo,Qo]
   cases (x==y)with
   | true=>rfl
   | false=>exact ih
theorem Ybe{own cl:List (Str × Addr)}{x:Str}{c:Addr}(h:(own++cl).lookup x=some c):own.lookup x=some c\/(own.lookup x=none/\cl.lookup x=some c):=by
 rw[Yin]at h
 cases e:own.lookup x with
 | none=>rw[e]at h;exact .inr ⟨rfl,h⟩
 | some d=>rw[e]at h;exact .inl h
theorem Yrr{M:Model}{A:Around}{E:Value->Shared->Prop}{scope:Scope}{globals:Addr}{cl:List (Str × Addr)}{qual:Str}{outer:Env}{Q:Env->Shared->Prop}{s:Shared}{bt:Addr}
 (h:Q (newEnv scope s.heap.objs.size globals (cellsFrom (s.heap.objs.size+1) scope.names []++cl) qual none .none (some outer) bt) { s with heap:=pushCells (s.heap.push { cls:=.type "dict",data:=.dict #[] }) scope.names }) :
 wpAny M A (newFunctionEnv scope globals cl [] qual none .none (some outer) bt) Q E s:=by
 simp only[newFunctionEnv,Option.isSome_some,if_true]
 refine wpAny_bind (wpAny_alloc ?_)
 refine wpAny_bind (wpAny_layCells _ (fun name kind cells=>by cases hkc:kind==NameKind.cell<;>simp[hkc]) _ _ _ _ ?_)
 rw[show({ s with heap:=s.heap.push { cls:=.type "dict",data:=.dict #[] } }:Shared).heap.objs.size=s.heap.objs.size+1 from Heap.size_push ..,Yce]
 rw[List.forIn_nil]
 exact wpAny_bind (wpAny_pure (wpAny_pure h))
theorem Yur{pins:List (Addr × Obj)}{σ:St}{H:Hp}{s:Shared}{fp:List Addr}{h₁:Heap}{tk:Nat}{own:List (Str × Addr)}(S:CompSc X.N X.env.scope N src scope)(I:Inv X pins σ H s)(hf:∀b∈fp,FpOk X pins H b)(ho:∀b∈fp,∃o,s.heap.get? b=some o)
 (hn:h₁.Ns s.heap.objs.size fun _=>none) (hk:∀b o,s.heap.get? b=some o->h₁.get? b=some o) (hc:CellsOk h₁ (s.heap.objs.size+1) own) (ow:∀x c,(x,c)∈own->(x,NameKind.cell)∈scope.names) (has:∀x,scope.names.lookup x=some NameKind.cell->∃c,own.lookup x=some c) :
 Inv (Ya3 X scope N (own++clOf X.env scope.names []) s.heap.objs.size fp s H) [] (capσ src σ) H { s with heap:=h₁,toks:=tk }:=by
 have sub:∀x c,(clOf X.env scope.names []).lookup x=some c->X.env.cells.lookup x=some c:=fun x c e=>Yj2 scope.names [] (fun _ _ z=>nomatch z) x c (PySem.mem_of_lookup e)
 have clt:∀x c,(clOf X.env scope.names []).lookup x=some c->c < s.heap.objs.size:=fun x c e=>by
  obtain⟨v,q⟩:=I.cell x c (sub x c e)
  exact q.lt
 have owl:∀x c,own.lookup x=some c->s.heap.objs.size < c:=fun x c e=>(hc.empty x c (PySem.mem_of_lookup e)).2
 have nofree:∀x,scope.names.lookup x=some NameKind.free->own.lookup x=none:=fun x hx=>by
  cases e:own.lookup x with
  | none=>rfl
  | some c=>
    have:=S.cellU _ (ow x c (PySem.mem_of_lookup e)) rfl
    rw[hx]at this
    cases this
 have fpl:∀b∈fp,b < s.heap.objs.size:=fun b hb=>by
  obtain⟨o,e⟩:=ho b hb
  exact ql e
 have nfs:∀b∈fp,b∉frs X.stack:=fun b hb z=>by
  rcases qt (I.stkSub b z)with e | e
  ·exact(hf b hb).2.1 e
  ·exact(hf b hb).2.2.1 e
 refine⟨⟨I.ok.mod,S.kind,I.ok.glob,I.ok.blt,qu _,fun x y c h1 h2=>?_,fun x hx=>?_,fun x c z e=>?_,I.ok.hd,I.ok.frames,.inl rfl,fun b hb=>⟨qm (fpl b hb),fun x c e=>?_⟩,
  I.bs,Qj I.ok.bsz I.sz,fun b o e hb=>?_,nfs,I.stack,I.stkFree⟩,rfl,I.bare,Un.kept hk,⟨_,hn,fun i x v h1 h2 h3=>?_⟩,fun x c e=>?_,I.fresh,fun x c e=>?_,fun p hp=>(nomatch hp),I.hok.kept hk,?_⟩
 ·rcases Ybe h1 with h1 | ⟨_,h1⟩
  ·rcases Ybe h2 with h2 | ⟨_,h2⟩
   ·exact name_of_addr hc.apart (PySem.mem_of_lookup h1) (PySem.mem_of_lookup h2)
   ·exact absurd (Nat.lt_trans (owl x c h1) (clt y c h2)) (Nat.lt_irrefl _)
  ·rcases Ybe h2 with h2 | ⟨_,h2⟩
   ·exact absurd (Nat.lt_trans (owl y c h2) (clt x c h1)) (Nat.lt_irrefl _)
   ·exact I.ok.inj x y c (sub x c h1) (sub y c h2)
 ·show ∃c,(own++clOf X.env scope.names []).lookup x=some c
  rw[Yin]
  cases e:own.lookup x with
  | some c=>exact⟨c,rfl⟩
  | none=>
    rcases Ykc hx with hm | hm
    ·obtain⟨c,hc⟩:=I.ok.has x (S.fr _ hm rfl)
     exact Yhl (Yhk scope.names [] x c hm hc)
    ·obtain⟨c,hc⟩:=has x (S.cellU _ hm rfl)
     rw[e]at hc
     cases hc
 ·have z':scope.names.lookup x=some NameKind.cell:=by simpa using z
  obtain⟨d,hd⟩:=has x z'
  rcases Ybe e with e | ⟨e,_⟩
  ·exact Nat.le_of_lt (owl x c e)
  ·rw[hd]at e;cases e
 ·rcases Ybe e with e | ⟨_,e⟩
  ·exact Nat.ne_of_gt (Nat.lt_trans (fpl b hb) (owl x c e))
  ·exact(hf b hb).2.2.2.2.1 x c (sub x c e)
 ·rcases(hf b hb).2.2.2.1 with z | z
  ·exact I.ok.noex b o e z
  ·exact absurd (Qi (ql e) (Qj I.ok.bsz z)) (Nat.lt_irrefl _)
 ·have hi:i < src.length:=by
   have:=(qo h2).1
   unfold capσ at this
   simpa using this
  have hs:src[i]?=some src[i]:=qq hi
  unfold capσ at h2
  rw[Qg,hs]at h2
  have h2':(src[i].bind fun j=>(σ[j]?).join)=some v:=Option.some.inj h2
  cases q:src[i]with
  | none=>rw[q]at h2';cases h2'
  | some j=>
    rw[q]at h2' hs
    have h2'':(σ[j]?).join=some v:=h2'
    obtain⟨hx,hfr⟩:=S.cap i j x h1 hs
    obtain⟨m,_,hl⟩:=I.loc
    have hk2:X.env.kindOf x=some NameKind.cell\/X.env.kindOf x=some NameKind.free:=S.fr (x,NameKind.free) (PySem.mem_of_lookup hfr) rfl
    have hσ:σ[j]?=some (some v):=by
     cases z:σ[j]? with
     | none=>rw[z]at h2'';cases h2''
     | some o=>
       rw[z]at h2''
       have:o=some v:=h2''
       rw[this]
    obtain⟨u,r,l⟩:=hl j x v hx hσ (.inr hk2)
    refine⟨u,r,.inr ⟨Yg6 hfr hk2,?_⟩⟩
    rcases l with⟨z,_⟩ | ⟨_,c,hc,hcell⟩
    ·rcases hk2 with q2 | q2
     ·rw[q2]at z;cases z
     ·rw[q2]at z;cases z
    ·obtain⟨d,hd⟩:=Yhl (Yhk (env:=X.env) scope.names [] x c (PySem.mem_of_lookup hfr) hc)
     have e2:=sub x d hd
     rw[hc]at e2
     cases e2
     refine⟨c,?_,hcell.keeps hk⟩
     show(own++clOf X.env scope.names []).lookup x=some c
     rw[Yin,nofree x hfr]
     exact hd
 ·rcases Ybe e with e | ⟨_,e⟩
  ·exact⟨_,(hc.empty x c (PySem.mem_of_lookup e)).1⟩
  ·obtain⟨v,q⟩:=I.cell x c (sub x c e)
   exact⟨v,q.keeps hk⟩
 ·rcases Ybe e with e | ⟨_,e⟩
  ·exact I.hok.fresh (Nat.le_of_lt (owl x c e))
  ·exact I.freeC x c (sub x c e)
 ·unfold capσ
  rw[qf]
  exact S.len
theorem y0g{pins:List (Addr × Obj)}{σ σ1:St}{H H':Hp}{s s':Shared}{fp:List Addr}{cl:List (Str × Addr)}{C:Addr}{pn:List (Addr × Obj)}(I:Inv X pins σ H s)(hf:∀b∈fp,FpOk X pins H b)(J:Inv (Ya3 X scope N cl C fp s H) pn σ1 H' s'):Inv X pins σ H' s':=
 I.call' J.os J.base J.hok J.bare fun b hb=>⟨(hf b hb).2.2.2.1,(hf b hb).2.1,(hf b hb).2.2.2.2.1,(hf b hb).2.2.2.2.2⟩
theorem Ypo{pins:List (Addr × Obj)}{σ:St}{H:Hp}{s:Shared}{Q:VK}{it:Addr}{fp:List Addr}{tn:Nat->Heap->Prop}{J:It}{R:Value->Addr->Result->Shared->Prop}{E:Value->Shared->Prop}
 (S:CompSc X.N X.env.scope N src scope) (hc:X.calm=true) (hg:∀cl C fp s H,PG (Ya3 X scope N cl C fp s H) tg g) (hi:∀cl C fp s H,PIfs (Ya3 X scope N cl C fp s H) ifs ti) (he:∀cl C fp s H,PE (Ya3 X scope N cl C fp s H) elt te)
 (I:Inv X pins σ H s) (T:Turn X.prog X.w X.K tg J fp it tn) (st:tn 0 s.heap) (hf:∀b∈fp,FpOk X pins H b)
 (h:∀p,H p=none->∃W:Nat->Nat->St->Hp->Prop,(∃m,W 0 m (capσ src σ) (upd H p (.lst [])))/\∀i m σ1 H2,W i m σ1 H2->
  (J.stop i H2/\Q (.ref p) H2)\/
  (J.go i H2/\∀x H3,J.yld i H2 x H3->g x σ1 H3 fun σ4 H4=>ti σ4 H4 fun b H5=>if b=true then te σ4 H5 fun v H6=>∃xs,H6 p=some (.lst xs)/\xs.length < sizeLine/\∃m',m' < m/\W (i+1) m' σ4 (upd H6 p (.lst (xs++[v])))else ∃m',m' < m/\W (i+1) m' σ4 H5))
 (hR:∀(D C:Addr) (s':Shared) (H':Hp) (m:Str->Option Value),Inv X pins σ H' s'->s'.heap.Ns C m->H' C=none->C≠X.env.locals->X.s₀.heap.objs.size<=C->(∀x c,X.env.cells.lookup x=some c->c≠C)->(∀p∈X.pn++pins,p.1≠C)->Q (.ref D) H'->R (.ref D) C (.ok .next) s') :
 wpAny (model X.prog X.w) X.A (newList []) (fun acc s₃=>wpAny (model X.prog X.w) X.A (newFunctionEnv scope X.env.globals (clOf X.env scope.names []) [] X.env.qual none .none (some X.env)) (fun cenv s₄=>
  codeAny (model X.prog X.w) X.A (.compStart (.ListComp elt [⟨tg,iter,ifs,0⟩] scope pos) 0 (.ref it) acc { cenv with scope:=relabel scope X.env }) (R acc cenv.locals) s₄) E s₃) E s:=by
 refine wpAny_newObj_type (Yrr ?_)
 have hfree:H s.heap.objs.size=none:=I.fresh
 obtain⟨W,⟨m0,w0⟩,turn⟩:=h s.heap.objs.size hfree
 have I3:Inv X pins σ (upd H s.heap.objs.size (.lst [])) { s with heap:=s.heap.push { cls:=.type "list",dict:=none,data:=.seq ([]:List Value).toArray },toks:=s.toks }:=I.lnew (ys:=[]) (its:=[]) .nil (Qh _)
 generalize hD:s.heap.objs.size=Dd at *
 generalize hH3:upd H Dd (.lst [])=H3 at *
 have kp0:∀b o,s.heap.get? b=some o->(s.heap.push { cls:=.type "list",dict:=none,data:=.seq ([]:List Value).toArray }).get? b=some o:=fun b o e=>qe _ e
 have lt0:∀b o,s.heap.get? b=some o->b≠Dd:=fun b o e=>by rw[<-hD];exact qm (ql e)
 generalize hs3:s.heap.push { cls:=.type "list",dict:=none,data:=.seq ([]:List Value).toArray }=hp3 at *
 have f3:∀b∈fp,FpOk X pins H3 b:=fun b hb=>by
  obtain⟨o,e,_⟩:=T.obj _ _ st b hb
  refine⟨?_,(hf b hb).2⟩
  rw[<-hH3,Yab (lt0 b o e)]
  exact(hf b hb).1
 have ob3:∀b∈fp,∃o,hp3.get? b=some o:=fun b hb=>by
  obtain⟨o,e,_⟩:=T.obj _ _ st b hb
  exact⟨o,kp0 b o e⟩
 dsimp only
 have hns₁:(pushCells (hp3.push { cls:=.type "dict",data:=.dict #[] }) scope.names).Ns hp3.objs.size (fun _=>none):=(Heap.Ns.new hp3 (.type "dict")).keeps (pushCells_keeps _ _)
 have old:∀b o,hp3.get? b=some o->(pushCells (hp3.push { cls:=.type "dict",data:=.dict #[] }) scope.names).get? b=some o:=fun b o e=>pushCells_keeps _ _ b o (qe _ e)
 have cok:=cellsFrom_ok scope.names (hp3.push { cls:=.type "dict",data:=.dict #[] }) (hp3.objs.size+1) [] ⟨fun _ _ hm=>(nomatch hm),List.Pairwise.nil⟩ (by rw[Heap.size_push];exact qu _)
 rw[Heap.size_push]at cok
 have chas:∀x,scope.names.lookup x=some NameKind.cell->∃c,(cellsFrom (hp3.objs.size+1) scope.names []).lookup x=some c:=fun x hx=>Option.isSome_iff_exists.mp (PySem.W.cellsFrom_some _ _ _ (.inl hx))
 have cmem:∀x c,(x,c)∈cellsFrom (hp3.objs.size+1) scope.names []->(x,NameKind.cell)∈scope.names:=fun x c h=>Yff _ _ x c h
 generalize cellsFrom (hp3.objs.size+1) scope.names []=own at *
 generalize pushCells (hp3.push { cls:=.type "dict",data:=.dict #[] }) scope.names=h₁ at *
 have I4:Inv (Ya3 X scope N (own++clOf X.env scope.names []) hp3.objs.size fp { s with heap:=hp3,toks:=s.toks } H3) [] (capσ src σ) H3 { s with heap:=h₁,toks:=s.toks }:=
  Yur (s:={ s with heap:=hp3,toks:=s.toks }) (tk:=s.toks) S I3 f3 ob3 hns₁ old cok cmem chas
 have st4:tn 0 h₁:=T.keep _ _ _ st fun b _ o e=>old b o (kp0 b o e)
 have hCl:hp3.objs.size≠X.env.locals:=Nat.ne_of_gt I3.lt
 have hCc:∀x c,X.env.cells.lookup x=some c->c≠hp3.objs.size:=fun x c e=>by
  obtain⟨v,q⟩:=I3.cell x c e
  exact qm q.lt
 have hCp:∀p∈X.pn++pins,p.1≠hp3.objs.size:=fun p hp=>qm (ql (I3.pin p hp).1)
 have stat:∀{H':Hp},(∀b∈fp,H' b=none)->∀b∈fp,FpOk (Ya3 X scope N (own++clOf X.env scope.names []) hp3.objs.size fp { s with heap:=hp3,toks:=s.toks } H3) [] H' b:=fun {H'} hn b hb=>by
  obtain⟨e1,e2⟩:=I4.ok.exf b hb
  exact⟨hn b hb,e1,I4.ok.exfs b hb,.inl hb,e2,fun p hp=>nomatch hp⟩
 have loop:codeAny (model X.prog X.w) X.A (.compLoop (.ListComp elt [⟨tg,iter,ifs,0⟩] scope pos) 0 (.ref it) (.ref Dd) (compEnvC scope (own++clOf X.env scope.names []) hp3.objs.size X.env)) (R (.ref Dd) hp3.objs.size) { s with heap:=h₁,toks:=s.toks }:=by
  refine Ygv (fun n s'=>∃i σ' H',Inv (Ya3 X scope N (own++clOf X.env scope.names []) hp3.objs.size fp { s with heap:=hp3,toks:=s.toks } H3) [] σ' H' s'/\tn i s'.heap/\(∀b∈fp,H' b=none)/\W i n σ' H') ?_ m0 ⟨0,_,H3,I4,st4,fun b hb=>(f3 b hb).1,w0⟩
  rintro n s3 ⟨i,σ3,H3',I3',st3,fr3,w3⟩
  rcases turn i n σ3 H3' w3 with⟨stop,qn⟩ | ⟨go,step⟩
  ·refine thn (T.done (Ya3 X scope N (own++clOf X.env scope.names []) hp3.objs.size fp { s with heap:=hp3,toks:=s.toks } H3) rfl rfl rfl hc i [] s3 σ3 H3' _ I3' (stat fr3) st3 stop) fun r s4 hx_=>?_
   obtain⟨hr,I5⟩:=hx_
   subst hr
   obtain⟨m,hm,_⟩:=I5.loc
   exact hR Dd hp3.objs.size s4 H3' m (y0g I3 f3 I5) hm I5.free hCl (Qj I3.sz (qu _)) hCc hCp qn
  ·refine thn (T.item (Ya3 X scope N (own++clOf X.env scope.names []) hp3.objs.size fp { s with heap:=hp3,toks:=s.toks } H3) rfl rfl rfl hc i [] s3 σ3 H3' _ I3' (stat fr3) st3 go) fun r s4 hx_=>?_
   obtain⟨u,hr,h4⟩:=hx_
   subst hr
   refine thn h4 fun _ s5 hx_=>?_
   obtain⟨x,H5,I5,r5,y5,st5,fr5⟩:=hx_
   have I5':=I5.pinned (stat fr5) (T.obj _ _ st5)
   have un:∀{α:Type} {t:Sem α} {Q':α->Shared->Prop} {E':Value->Shared->Prop} {s':Shared},wpAny (model X.prog X.w) X.A t Q' (fun _ _=>False) s'->wpAny (model X.prog X.w) X.A t Q' E' s':=fun h=>wpAny_mono h (fun _ _ q=>q) fun _ _ f=>f.elim
   refine un (thn (hg _ _ _ _ _ _ s5 σ3 H5 x u _ I5' r5 (step x H5 y5)) fun _ s6 hx_=>?_)
   obtain⟨σ6,H6,I6,q6⟩:=hx_
   refine un (thn (hi _ _ _ _ _ _ s6 σ6 H6 _ I6 q6) fun ok s7 hx_=>?_)
   obtain⟨H7,I7,q7⟩:=hx_
   have again:∀{H8:Hp} {s8:Shared} {m':Nat},m' < n->Inv (Ya3 X scope N (own++clOf X.env scope.names []) hp3.objs.size fp { s with heap:=hp3,toks:=s.toks } H3) ([]++Ype fp s5.heap) σ6 H8 s8->W (i+1) m' σ6 H8->
    ∃m,m < n/\∃i σ' H',Inv (Ya3 X scope N (own++clOf X.env scope.names []) hp3.objs.size fp { s with heap:=hp3,toks:=s.toks } H3) [] σ' H' s8/\tn i s8.heap/\(∀b∈fp,H' b=none)/\W i m σ' H':=fun {H8 s8 m'} hm I8 w8=>by
    refine⟨m',hm,i+1,σ6,H8,I8.unpinned,T.keep _ _ _ st5 fun b hb o e=>(I8.pin (b,o) (Qq _ (Qq _ (Ygl hb e)))).1,fun b hb=>?_,w8⟩
    obtain⟨o,e,d⟩:=T.obj _ _ st5 b hb
    exact(I8.pin (b,o) (Qq _ (Qq _ (Ygl hb e)))).2.1
   cases ok with
   | false=>
     rw[if_neg qi]at q7 ⊢
     obtain⟨m',hm,w7⟩:=q7
     exact again hm I7 w7
   | true=>
     rw[if_pos rfl]at q7 ⊢
     refine un (thn (he _ _ _ _ _ _ s7 σ6 H7 _ I7 q7) fun y s8 hx_=>?_)
     obtain⟨v,H8,I8,r8,q8⟩:=hx_
     obtain⟨xs,e8,z8,m',hm,w8⟩:=q8
     refine un (thn (Ypn _ s8 σ6 H8 (.ref Dd) [v] (.ref Dd) [y] (fun _ H9=>H9=upd H8 Dd (.lst (xs++[v]))) I8 rfl (.cons r8 .nil) ⟨Dd,xs,v,rfl,rfl,e8,z8,rfl⟩) fun _ s9 hx_=>?_)
     obtain⟨_,H9,I9,_,q9⟩:=hx_
     subst q9
     exact again hm I9 w8
 exact codeAny_compStart_list loop (T.self _ _ _ _ _ st4 loop)
theorem y3z(S:CompSc X.N X.env.scope N src scope)(hc:X.calm=true)(hit:PI X tg iter wi)(hg:∀cl C fp s H,PG (Ya3 X scope N cl C fp s H) tg g)(hi:∀cl C fp s H,PIfs (Ya3 X scope N cl C fp s H) ifs ti)(he:∀cl C fp s H,PE (Ya3 X scope N cl C fp s H) elt te)
 (hs:∀x,foldedSetIterable iter X.env x=pure x:=by intro _;rfl):PE X (.ListComp elt [⟨tg,iter,ifs,0⟩] scope pos) (tLC wi src g ti te):=by
 intro pins s σ H Q I h
 rw[eval_ListComp]
 have hcl:closureFor scope X.env=pure (clOf X.env scope.names []):=Yf4 fun y hy hf=>I.ok.has y.1 (S.fr y hy hf)
 refine wpAny_comprehension_free (use:=none) rfl hs hcl S.kind S.names ?_
 refine thn (hit pins s σ H _ I h) fun v s1 h1=>thn h1 fun itv s2 hx_=>?_
 obtain⟨it,fp,tn,J,H2,e,I2,T,st2,f2,q⟩:=hx_
 subst e
 refine Ypo (Q:=Q) (R:=fun acc C=>compPost (model X.prog X.w) X.A X.xe none (EP X pins σ Q) acc C) S hc hg hi he I2 T st2 f2 q fun D C s' H' m I' hm hC hCl hCs hCc hCp hq=>?_
 refine⟨m,hm,fun h' sb=>?_⟩
 exact⟨.ref D,H',I'.turned (t':=s'.toks) (fun b o hb e=>(sb.2 b hb).trans e) hC hCl (.inr hCs) hCc hCp,rfl,hq⟩
theorem y30{i:Nat}{y:Str}{py spos:Pos}(S:CompSc X.N X.env.scope N src scope)(hc:X.calm=true)(hit:PI X tg iter wi)(hg:∀cl C fp s H,PG (Ya3 X scope N cl C fp s H) tg g)(hi:∀cl C fp s H,PIfs (Ya3 X scope N cl C fp s H) ifs ti)(he:∀cl C fp s H,PE (Ya3 X scope N cl C fp s H) elt te)
 (hN:X.N.Nodup) (hy:X.N[i]?=some y) (hx:Loc X.env.scope y) (hsw:swapsWith (.ListComp elt [⟨tg,iter,ifs,0⟩] scope pos) (some (.Name y py)) spos.line X.env=pure true)
 (hf:X.fn y=true\/X.env.scope.names.lookup y=some .local:=by first | exact .inl rfl | exact .inr rfl | assumption)
 (hs:∀x,foldedSetIterable iter X.env x=pure x:=by intro _;rfl):PS X (.Assign [.Name y py] (.ListComp elt [⟨tg,iter,ifs,0⟩] scope pos) spos) (tAsg (tLC wi src g ti te) (Yuk i)):=by
 intro pins s σ H D I h
 rw[exec_Assign_Name_used _ _ _ _ hsw]
 refine wpAny_bind (wpAny_standAt (wpAny_bind ?_))
 show wpAny _ X.A (do let _ <-comprehension (.ListComp elt [⟨tg,iter,ifs,0⟩] scope pos) scope X.env _ (newList []) false (eval iter X.env) (some (assign (.Name y py) X.env))) _ _ s
 have hcl:closureFor scope X.env=pure (clOf X.env scope.names []):=Yf4 fun y hy hf=>I.ok.has y.1 (S.fr y hy hf)
 refine wpAny_bind (wpAny_mono (wpAny_comprehension_free (use:=some (assign (.Name y py) X.env)) (Q:=fun _ s'=>SP X pins D .next s') rfl hs hcl S.kind S.names ?_) (fun _ s' hq=>wpAny_pure (wpAny_pure hq)) fun _ _ e=>e)
 refine thn (hit pins s σ H _ I h) fun v s1 h1=>thn h1 fun itv s2 hx_=>?_
 obtain⟨it,fp,tn,J,H2,e,I2,T,st2,f2,q⟩:=hx_
 subst e
 refine Ypo (Q:=fun x H1=>Yuk i x σ H1 D.nx) (R:=fun acc C=>compPost (model X.prog X.w) X.A X.xe (some (assign (.Name y py) X.env)) (fun _ s'=>SP X pins D .next s') acc C) S hc hg hi he I2 T st2 f2 q fun Dd C s' H' m I' hm hC hCl hCs hCc hCp hq=>?_
 show wpAny _ X.A (assign (.Name y py) X.env (.ref Dd)) _ _ s'
 refine wpAny_assign_Name (Ypc I' hN hy hx (v:=.ref Dd) rfl (fun s'' I'' hsb=>?_) hf)
 obtain⟨a,sb,ha⟩:=hsb
 have hCa:C≠a:=by
  rcases ha with e | e
  ·rw[e];exact hCl
  ·exact Ne.symm (hCc y a e)
 refine⟨m,hm.sameBut sb hCa,fun h' sb'=>?_⟩
 exact⟨_,H',I''.turned (t':=s''.toks) (fun b o hb e=>(sb'.2 b hb).trans e) hC hCl (.inr hCs) hCc hCp,hq⟩
end
end L2
namespace M
open PySem PySem.Spec PyProof.Rows L2
section
section
def Rise(xs:Array Nat):Prop:=xs.toList.Pairwise (· < ·)
theorem Ync{xs:Array Nat}(hr:Rise xs)(j:Nat):∀(fuel lo hi:Nat),lo<=hi->hi<=xs.size->hi - lo<=fuel->
 (∀(i:Nat) (h:i < xs.size),i < lo->xs[i] < j)->(∀(i:Nat) (h:i < xs.size),hi<=i->j<=xs[i])->
 SetTable.below.go xs j fuel lo hi<=xs.size/\(∀(i:Nat) (h:i < xs.size),i < SetTable.below.go xs j fuel lo hi->xs[i] < j)/\(∀(i:Nat) (h:i < xs.size),SetTable.below.go xs j fuel lo hi<=i->j<=xs[i])
 | 0,lo,hi,h1,h2,h3,h4,h5=>by
   have e:lo=hi:=by lia
   subst e
   rw[SetTable.below.go]
   exact⟨h2,h4,h5⟩
 | fuel+1,lo,hi,h1,h2,h3,h4,h5=>by
   have mono:∀(i k:Nat) (hi:i < xs.size) (hk:k < xs.size),i < k->xs[i] < xs[k]:=fun i k hi hk h=>by
    have:=List.pairwise_iff_getElem.mp hr i k (by simpa using hi) (by simpa using hk) h
    simpa using this
   rw[SetTable.below.go]
   by_cases hl:lo < hi
   ·rw[if_pos hl]
    have hm:(lo+hi) / 2 < xs.size:=by lia
    have hg:xs.getD ((lo+hi) / 2) j=xs[(lo+hi) / 2]:=by simp[Array.getD,hm]
    dsimp only
    rw[hg]
    by_cases hlt:xs[(lo+hi) / 2] < j
    ·rw[if_pos hlt]
     refine Ync hr j fuel _ _ (by lia) h2 (by lia) (fun i hi' hh=>?_) h5
     by_cases e:i=(lo+hi) / 2
     ·subst e;exact hlt
     ·exact Nat.lt_trans (mono i _ hi' hm (by lia)) hlt
    ·rw[if_neg hlt]
     refine Ync hr j fuel _ _ (by lia) (by lia) (by lia) h4 (fun i hi' hh=>?_)
     by_cases e:i=(lo+hi) / 2
     ·subst e;lia
     ·have:=mono _ i hm hi' (by lia)
      lia
   ·rw[if_neg hl]
    have e:lo=hi:=by lia
    subst e
    exact⟨h2,h4,h5⟩
theorem Ymi{xs:Array Nat}(hr:Rise xs)(j:Nat):SetTable.below xs j<=xs.size/\(∀a∈xs.toList.take (SetTable.below xs j),a < j)/\(∀a∈xs.toList.drop (SetTable.below xs j),j<=a):=by
 obtain⟨h1,h2,h3⟩:=Ync hr j xs.size 0 xs.size (Qh _) (qu _) (by lia) (fun i _ h=>absurd h (Nat.not_lt_zero _)) (fun i h h'=>absurd h (by lia))
 have e:SetTable.below xs j=SetTable.below.go xs j xs.size 0 xs.size:=rfl
 rw[e]
 refine⟨h1,fun a ha=>?_,fun a ha=>?_⟩
 ·obtain⟨i,hi,rfl⟩:=List.mem_iff_getElem.mp ha
  rw[List.length_take]at hi
  have hi':i < xs.size:=by have:xs.toList.length=xs.size:=by simp
                           lia
  rw[List.getElem_take,Array.getElem_toList]
  exact h2 i hi' (by lia)
 ·obtain⟨i,hi,rfl⟩:=List.mem_iff_getElem.mp ha
  rw[List.length_drop]at hi
  have hs:xs.toList.length=xs.size:=by simp
  rw[List.getElem_drop,Array.getElem_toList]
  exact h3 _ (by lia) (by lia)
theorem Ya8{α:Type}(xs:Array α)(p:Nat)(x:α):(SetTable.insertAt xs p x).toList=xs.toList.take p++x::xs.toList.drop p:=by
 unfold SetTable.insertAt
 simp[Array.toList_extract,List.extract_eq_drop_take]
 exact List.take_of_length_le (by simp)
theorem Yrs{xs:Array Nat}(hr:Rise xs)(j:Nat)(hn:xs[SetTable.below xs j]?≠some j):Rise (SetTable.insertAt xs (SetTable.below xs j) j):=by
 obtain⟨h1,h2,h3⟩:=Ymi hr j
 unfold Rise at hr ⊢
 rw[Ya8]
 generalize hp:SetTable.below xs j=p at h1 h2 h3 hn ⊢
 rw[<-Array.getElem?_toList]at hn
 generalize xs.toList=l at hr h2 h3 hn ⊢
 have hr2:=hr
 rw[<-List.take_append_drop p l,List.pairwise_append]at hr
 obtain⟨r1,r2,r3⟩:=hr
 have hgt:∀a∈l.drop p,j < a:=by
  cases hd:l.drop p with
  | nil=>intro a ha;cases ha
  | cons b r=>
    rw[hd]at r2 h3
    have hb:l[p]?=some b:=by
     have:(l.drop p)[0]?=some b:=by rw[hd];rfl
     rwa [List.getElem?_drop,Nat.add_zero]at this
    have hjb:j < b:=Nat.lt_of_le_of_ne (h3 b qh) (fun z=>hn (by rw[hb,z]))
    intro a ha
    rcases qt ha with rfl | ha
    ·exact hjb
    ·exact Nat.lt_trans hjb ((List.pairwise_cons.mp r2).1 a ha)
 rw[List.pairwise_append]
 refine⟨r1,List.pairwise_cons.mpr ⟨hgt,r2⟩,fun a ha b hb=>?_⟩
 rcases qt hb with rfl | hb
 ·exact h2 a ha
 ·exact Nat.lt_trans (h2 a ha) (hgt b hb)
theorem Ywh{t:SetTable}{j:Nat}(h:∀i,t.slot j≠.live i):t.place[SetTable.below t.place j]?≠some j:=fun z=>by
 refine h (SetTable.below t.place j) ?_
 unfold SetTable.slot
 dsimp only
 rw[z]
 simp
def Tab(bt:Bool)(t:SetTable):Prop:=(bt=false->t.led=true)/\(t.plain=true->Rise t.place)
theorem Tab.fresh{bt:Bool}:Tab bt (.fresh 0 0 (!bt)):=⟨fun h=>by subst h;rfl,fun _=>.nil⟩
end
end
section
section
variable {prog:Program} {w:World} {A:Around} {E:Value->Shared->Prop} {s:Shared}
abbrev byT(w:World):Bool:=w.params.followText "set-order"
theorem y31{h:Heap}{a:Addr}{o:Obj}{es:Array (Int × Value)}{ep:Nat}{t:SetTable}(ho:h.get? a=some o)(hd:o.data=.set es ep t)(es':Array (Int × Value))(t':SetTable) :
 (h.update a (Obj.putSet es' t')).get? a=some { o with data:=.set es' (ep+1) t' }:=by
 have:=Heap.get?_update_self (Obj.putSet es' t') ho (by rw[putSet_of es' t' hd];rfl)
 rw[putSet_of es' t' hd]at this
 exact this
end
end
section
section
variable {prog:Program} {w:World} {A:Around} {E:Value->Shared->Prop} {s:Shared}
theorem Yjn{T newId initId:String}{Bi:Builtin}{args:List Value}{Q Q₁:Value->Shared->Prop}(ft:TypeCalled T newId initId)
 (hct:checkTypeCall T ⟨args,[]⟩=pure ()) (entryI:entryFor table initId=some Bi)
 (hnew:codeAny (model prog w) A.in1 (.call (.builtin newId) ⟨.type T::args,[]⟩) (wants Q₁ E) s)
 (hnext:∀obj s₁,Q₁ obj s₁->s₁.TypeIs obj T/\(∀(A':Around) (E':Value->Shared->Prop) (Q':Unit->Shared->Prop),Q' () s₁->wpAny (model prog w) A' (checkBuiltinCall initId ⟨obj::args,[]⟩) Q' E' s₁)/\
  wpAny (model prog w) A.in1.in1 (Bi ⟨obj::args,[]⟩)
   (fun fin s'=>match fin with | .done f=>wants (fun r s₂=>r=.none/\Q obj s₂) E (.ok f) s' | .again c'=>c'.quiet=true/\codeAny (model prog w) A.in1 c' (wants (fun r s₂=>r=.none/\Q obj s₂) E) s')
   (fun e s'=>wants (fun r s₂=>r=.none/\Q obj s₂) E (.error e) s') s₁) :
 wpAny (model prog w) A (call (.type T) args) Q E s:=by
 obtain⟨c,tl,hmro⟩:=ft.mro
 have hmade:=ft.made
 have hsub:=ft.sub
 refine wpAny_call (codeAny_of_tree ?_)
 show wpAny _ _ (callAny (.type T) _) _ _ _
 refine wpAny_pure ⟨Code.quiet_builtin _ (by decide +kernel),codeAny_builtin F.entry_type_call ?_⟩
 rw[Around.under_plain (weight_type_call_type T args []) rfl]
 have h1:=ft.notType
 have h2:=ft.canCreate
 repeat (any_goals (first | assumption | wp_step))
 refine codeAny_mono hnew fun r s₁ hr=>?_
 cases r with
 | error e=>exact hr
 | ok fl=>
   cases fl with
   | ret obj=>
     obtain⟨hT,hok,hsi⟩:=hnext _ _ hr
     have hli:=ft.init.lookup
     have hbi:=ft.init.bind obj
     repeat (any_goals (first | assumption | wp_step))
     refine codeAny_mono (codeAny_call_builtin ft.init.plain entryI (hok _ _ _ hsi)) fun r₂ s₂ hr₂=>?_
     cases r₂ with
     | error e=>exact hr₂
     | ok fl₂=>
       cases fl₂ with
       | ret r=>
         obtain⟨rfl,hq⟩:=hr₂
         repeat (any_goals (first | assumption | wp_step))
       | _=>exact hr₂.elim
   | _=>exact hr.elim
abbrev emS(w:World):Obj:={ cls:=.type "set",dict:=none,data:=.set #[] 0 (.fresh 0 0 (!byT w)) }
theorem Ywi(a:Value){Q₁:Value->Shared->Prop}(h:Q₁ (.ref s.heap.objs.size) { s with heap:=s.heap.push (emS w) }) :
 codeAny (model prog w) A (.call (.builtin "set.__new__") ⟨[.type "set",a],[]⟩) (wants Q₁ E) s:=by
 refine codeAny_of_tree ?_
 show wpAny _ A.in1 (do checkBuiltinCall "set.__new__" ⟨[.type "set",a],[]⟩;again (.builtin "set.__new__" ⟨[.type "set",a],[]⟩)) _ _ s
 refine wpAny_bind (wpAny_of_eq (F.newCall_set_1 a) (wpAny_pure ⟨plainId_quiet F.plain_set_new _,codeAny_builtin F.entry_set_new ?_⟩))
 rw[Around.under_plainId F.plain_set_new _]
 unfold Builtin.«set.__new__» Builtin.Frozenset.newClass
 have hsub:=sub_set_self
 obtain⟨hp,g,d,tk,os⟩:=s
 dsimp only
 wp_walk
 refine wpAny_askSetting (wpAny_pure ?_)
 dsimp only
 simp only[newObj]
 refine wpAny_bind (wpAny_alloc (wpAny_pure ?_))
 exact wpAny_pure h
end
end
section
theorem Ymj{α:Type}{l:List α}{i:Nat}(h:i < l.length):(l[i]::l.eraseIdx i).Perm l:=by
 rw[List.eraseIdx_eq_take_drop_succ]
 have e:l=l.take i++l[i]::l.drop (i+1):=by
  rw[<-List.drop_eq_getElem_cons h,List.take_append_drop]
 conv=>rhs;rw[e]
 exact List.perm_middle.symm
theorem Ywj{α:Type}(next:Nat->Nat):∀(fuel k:Nat) (left:List α) (out:Array α),left.length=fuel->(pickOrder.go next fuel k left out).toList.Perm (out.toList++left)
 | 0,k,left,out,h=>by
   rw[pickOrder.go]
   rw[List.length_eq_zero_iff.mp h,List.append_nil]
 | fuel+1,k,left,out,h=>by
   rw[pickOrder.go]
   have hlt:next k % left.length < left.length:=Nat.mod_lt _ (by lia)
   rw[qq hlt]
   dsimp only
   refine(Ywj next fuel (k+1) _ _ (by rw[List.length_eraseIdx_of_lt hlt];lia)).trans ?_
   rw[Array.toList_push,List.append_assoc]
   exact(Ymj hlt).append_left _
theorem Ywk{α:Type}(next:Nat->Nat)(xs:Array α):(pickOrder next xs).toList.Perm xs.toList:=by
 have:=Ywj next xs.size 0 xs.toList #[] (by simp)
 simpa [pickOrder]using this
section
variable {prog:Program} {w:World} {A:Around} {E:Value->Shared->Prop}
theorem Yus{src:Source}{n:Nat}{Q:Nat->Shared->Prop}{s:Shared}(hn:0 < n)(h:∀i d',i < n->Q i { s with drawn:=d' }):wpAny (model prog w) A (choose src n) Q E s:=by
 intro Γ p hΓ
 unfold choose
 rw[Sem.wp_choose]
 refine⟨by lia,?_⟩
 rw[Sem.wp_pure]
 exact h _ _ (Nat.mod_lt _ hn)
theorem Ymk{α:Type}:∀(n:Nat) (xs:List α) (s:Shared) (Q:List α->Shared->Prop),xs.length=n->(∀ys d',ys.Perm xs->Q ys { s with drawn:=d' })->wpAny (model prog w) A (drawOrder n xs) Q E s
 | 0,xs,s,Q,h,hQ=>by
   rw[List.length_eq_zero_iff.mp h]at hQ ⊢
   show wpAny _ _ (pure _) _ _ _
   exact wpAny_pure (hQ [] s.drawn .nil)
 | n+1,[],s,Q,h,hQ=>by simp at h
 | n+1,x::xs,s,Q,h,hQ=>by
   show wpAny _ _ (_ >>= _) _ _ _
   refine wpAny_bind (Yus (by simp) fun i d' hi=>?_)
   rw[qq hi]
   dsimp only
   refine wpAny_bind (Ymk n _ _ _ (by rw[List.length_eraseIdx_of_lt hi];lia) fun ys d2 hp=>?_)
   refine wpAny_pure (hQ _ d2 ((hp.cons _).trans ?_))
   exact Ymj hi
end
end
section
set_option maxRecDepth 100000
theorem Yte:Manifest.owners.lookup (String.ofList ['r','o','t','a','r','e','t','i','_','t','e','s'].reverse)=some Manifest.sig_set_iterator:=by kernel_rfl
theorem slot_si_next:Slot "set_iterator" "__next__" "set_iterator.__next__":=
 .of (owner:="set_iterator") (n:="__next__") (by rw[typeLookup_type,builtinLookup_eq_fast];kernel_rfl) (by decide +kernel) (by decide +kernel) (by decide +kernel)
  (by first | exact .inl (by decide +kernel) | exact .inr (by decide +kernel)) (by rw[isSubtype_type];kernel_rfl)
theorem Ydm:entryFor table "set_iterator.__next__"=some Builtin.«set_iterator.__next__»:=entryFor_of_tree (by kernel_rfl)
theorem Yec(a:Value):argsOk "set_iterator.__next__" ⟨[a],[]⟩:=by
 unfold argsOk;rw[signature?_of (id:="set_iterator.__next__") (n:=['_','_','t','x','e','n','_','_']) (o:=['r','o','t','a','r','e','t','i','_','t','e','s']) (by kernel_rfl) Yte];kernel_rfl
theorem Yjd:Slot "set_iterator" "__iter__" "set_iterator.__iter__":=
 .of (owner:="set_iterator") (n:="__iter__") (by rw[typeLookup_type,builtinLookup_eq_fast];kernel_rfl) (by decide +kernel) (by decide +kernel) (by decide +kernel)
  (by first | exact .inl (by decide +kernel) | exact .inr (by decide +kernel)) (by rw[isSubtype_type];kernel_rfl)
theorem Ypp(a:Value):argsOk "set_iterator.__iter__" ⟨[a],[]⟩:=by
 unfold argsOk;rw[signature?_of (id:="set_iterator.__iter__") (n:=['_','_','r','e','t','i','_','_']) (o:=['r','o','t','a','r','e','t','i','_','t','e','s']) (by kernel_rfl) Yte];kernel_rfl
theorem Ynd:entryFor table "set_iterator.__iter__"=some Builtin.«dict_keyiterator.__iter__»:=
 entryFor_alias (id':="dict_keyiterator.__iter__") (by kernel_rfl) (by first | rfl | decide +kernel | (unfold String.splitOn;simp +decide [String.splitOnAux])) (by decide +kernel) (by kernel_rfl)
theorem Ylq:entryFor table "set.__iter__"=some Builtin.«frozenset.__iter__»:=
 entryFor_alias (id':="frozenset.__iter__") (by kernel_rfl) (by first | rfl | decide +kernel | (unfold String.splitOn;simp +decide [String.splitOnAux])) (by decide +kernel) (by kernel_rfl)
def SIt(h:Heap)(I:Addr)(first:Value)(i:Nat)(a:Addr)(n ep:Nat):Prop:=∃o,h.get? I=some o/\o.cls=.type "set_iterator"/\o.data=.fields #[first,.int i 0,.ref a,.int n 0,.int ep 0]
def SAt(h:Heap)(a:Addr)(es:Array (Int × Value))(ep:Nat)(t:SetTable):Prop:=∃o,h.get? a=some o/\o.ExactSet/\o.data=.set es ep t/\t.fits es.size=true
theorem SIt.at{h h':Heap}{I a:Addr}{f:Value}{i n ep:Nat}(x:SIt h I f i a n ep)(e:∀o,h.get? I=some o->h'.get? I=some o):SIt h' I f i a n ep:=let ⟨o,ho,r⟩:=x;⟨o,e o ho,r⟩
theorem SAt.at{h h':Heap}{a:Addr}{es:Array (Int × Value)}{ep:Nat}{t:SetTable}(x:SAt h a es ep t)(e:∀o,h.get? a=some o->h'.get? a=some o):SAt h' a es ep t:=let ⟨o,ho,r⟩:=x;⟨o,e o ho,r⟩
theorem SIt.typeIs{s:Shared}{I a:Addr}{f:Value}{i n ep:Nat}(x:SIt s.heap I f i a n ep):s.TypeIs (.ref I) "set_iterator":=let ⟨o,ho,hc,_⟩:=x;⟨o,ho,hc⟩
section
variable {prog:Program} {w:World} {A:Around} {E:Value->Shared->Prop} {s:Shared}
theorem Ywl{I a:Addr}{f:Value}{i n ep:Nat}{Q:Value->Shared->Prop}(hit:SIt s.heap I f i a n ep)(h:Q (.ref I) s):wpAny (model prog w) A (pyIter (.ref I)) Q E s:=by
 refine wpAny_pyIter_slot hit.typeIs Yjd (wpAny_call_entry Yjd hit.typeIs Ynd ?_ (Ypp _))
 show wpAny _ _ (ret (.ref I)) _ _ s
 exact wpAny_pure ⟨_,rfl,"set_iterator",_,hit.typeIs,slot_si_next.lookup,h⟩
theorem y32{I a:Addr}{sl i ep nx:Nat}{es:Array (Int × Value)}{t:SetTable}{x:Value}{Q:Option Value->Shared->Prop}(hit:SIt s.heap I (.int sl 0) i a es.size ep)(ha:SAt s.heap a es ep t)
 (hn:∀(A':Around) (Q':Option (Value × Nat)->Shared->Prop) (E':Value->Shared->Prop),Q' (some (x,nx)) s->wpAny (model prog w) A' (setNext a sl i ep) Q' E' s)
 (hQ:∀h',SIt h' I (.int nx 0) (i+1) a es.size ep->Heap.SameBut I s.heap h'->Q (some x) { s with heap:=h' }):wpAny (model prog w) A (pyNext (.ref I)) Q E s:=by
 obtain⟨o,ho,hc,hd⟩:=id hit
 obtain⟨oa,hoa,hexa,hda,hfa⟩:=ha
 unfold pyNext
 refine wpAny_bind (wpAny_attempt (wpAny_callSpecial?_slot (name:=Str.ofString "__next__") hit.typeIs slot_si_next (wpAny_call_entry slot_si_next hit.typeIs Ydm ?_ (Yec _))))
 show wpAny _ _ (fieldsOf (.ref I) >>= _) _ _ s
 refine wpAny_bind (wpAny_fieldsOf ho hd ?_)
 show wpAny _ _ (setEntries a >>= _) _ _ s
 refine wpAny_bind (wpAny_setEntries_of hoa hda hfa ?_)
 rw[if_neg (by simp)]
 show wpAny _ _ (setNext a sl i ep >>= _) _ _ s
 refine wpAny_bind (hn _ _ _ ?_)
 show wpAny _ _ (setField (.ref I) 0 (rawInt nx) >>= _) _ _ s
 refine wpAny_bind (wpAny_setField ho hd (by simp) ?_)
 have ho1:=Heap.get?_update_self (Obj.mapFields (·.setIfInBounds 0 (rawInt nx))) ho (Obj.isFreed_of_fields (Obj.data_mapFields hd _))
 have hd1:=Obj.data_mapFields hd (·.setIfInBounds 0 (rawInt nx))
 show wpAny _ _ (setField (.ref I) 1 (rawInt (i+1)) >>= _) _ _ _
 refine wpAny_bind (wpAny_setField (s:={ s with heap:=s.heap.update I (Obj.mapFields (·.setIfInBounds 0 (rawInt nx))) }) ho1 hd1 (by simp) (wpAny_pure ⟨x,rfl,wpAny_pure (hQ _ ?_ ((Heap.SameBut.update ..).trans (Heap.SameBut.update ..)))⟩))
 exact⟨_,Heap.get?_update_self _ ho1 (Obj.isFreed_of_fields (Obj.data_mapFields hd1 _)),(Obj.cls_mapFields ..).trans ((Obj.cls_mapFields ..).trans hc),by
  rw[Obj.data_mapFields hd1];simp[rawInt]⟩
theorem y33{I a:Addr}{sl i ep:Nat}{es:Array (Int × Value)}{t:SetTable}{Q:Option Value->Shared->Prop}(hh:A.handled=none)(hit:SIt s.heap I (.int sl 0) i a es.size ep)(ha:SAt s.heap a es ep t)
 (hn:∀(A':Around) (Q':Option (Value × Nat)->Shared->Prop) (E':Value->Shared->Prop),Q' none s->wpAny (model prog w) A' (setNext a sl i ep) Q' E' s)
 (hQ:∀h',Heap.ExtBut I s.heap h'->Q none { s with heap:=h' }):wpAny (model prog w) A (pyNext (.ref I)) Q E s:=by
 obtain⟨o,ho,hc,hd⟩:=id hit
 obtain⟨oa,hoa,hexa,hda,hfa⟩:=ha
 unfold pyNext
 refine wpAny_bind (wpAny_attempt (wpAny_callSpecial?_slot (name:=Str.ofString "__next__") hit.typeIs slot_si_next (wpAny_call_entry slot_si_next hit.typeIs Ydm ?_ (Yec _))))
 show wpAny _ _ (fieldsOf (.ref I) >>= _) _ _ s
 refine wpAny_bind (wpAny_fieldsOf ho hd ?_)
 show wpAny _ _ (setEntries a >>= _) _ _ s
 refine wpAny_bind (wpAny_setEntries_of hoa hda hfa ?_)
 rw[if_neg (by simp)]
 show wpAny _ _ (setNext a sl i ep >>= _) _ _ s
 refine wpAny_bind (hn _ _ _ ?_)
 show wpAny _ _ (setField (.ref I) 2 .none >>= _) _ _ s
 refine wpAny_bind (wpAny_setField ho hd (by simp) ?_)
 show wpAny _ _ (newExc (.type "StopIteration") [] >>= _) _ _ _
 refine wpAny_bind ?_
 simp only[newExc,newTuple]
 refine wpAny_bind (wpAny_newObj_type ?_ (by size_fits))
 refine wpAny_bind (m:=firstArgMember _ _) (wpAny_of_eq (a:=Value.none) (by first | rfl | (simp only[firstArgMember];rfl)) ?_)
 refine wpAny_newObj_type ?_ (by size_fits)
 simp only[raiseNew]
 refine wpAny_bind (wpAny_handled ?_)
 first | rw[show A.in1.handled=none from hh] | rw[hh]
 refine wpAny_bind (wpAny_pure (wpAny_throw ?_))
 refine wpAny_bind (wpAny_isInstance (T:="StopIteration") (b:=true) ⟨_,qp _ rfl,rfl⟩ isSubtype_stop ?_)
 exact wpAny_pure (hQ _ (((Heap.SameBut.update ..).extBut.push _).push _))
theorem y0h{I a T:Addr}{i j ep:Nat}{pl:Array Value}{tk:Tok}{es:Array (Int × Value)}{t:SetTable}{e:Int × Value}{Q:Option Value->Shared->Prop}(hit:SIt s.heap I (.ref T) i a es.size ep)(ha:SAt s.heap a es ep t)
 (hT:s.heap.IsTuple T pl) (hp:pl[i]?=some (.int j tk)) (he:es[j]?=some e)
 (hQ:∀h',SIt h' I (.ref T) (i+1) a es.size ep->Heap.SameBut I s.heap h'->Q (some e.2) { s with heap:=h' }):wpAny (model prog w) A (pyNext (.ref I)) Q E s:=by
 obtain⟨o,ho,hc,hd⟩:=id hit
 obtain⟨oa,hoa,hexa,hda,hfa⟩:=ha
 obtain⟨ot,hot,_,nt,hdt⟩:=hT
 unfold pyNext
 refine wpAny_bind (wpAny_attempt (wpAny_callSpecial?_slot (name:=Str.ofString "__next__") hit.typeIs slot_si_next (wpAny_call_entry slot_si_next hit.typeIs Ydm ?_ (Yec _))))
 show wpAny _ _ (fieldsOf (.ref I) >>= _) _ _ s
 refine wpAny_bind (wpAny_fieldsOf ho hd ?_)
 show wpAny _ _ (setEntries a >>= _) _ _ s
 refine wpAny_bind (wpAny_setEntries_of hoa hda hfa ?_)
 rw[if_neg (by simp)]
 show wpAny _ _ (seqItems? (.ref T) >>= _) _ _ s
 refine wpAny_bind (wpAny_seqItems hot hdt ?_)
 simp only[Int.toNat_natCast,hp]
 show wpAny _ _ (setNextDrawn a j ep >>= _) _ _ s
 refine wpAny_bind ?_
 unfold setNextDrawn
 refine wpAny_bind (wpAny_setState_of hoa hda hfa ?_)
 dsimp only
 rw[if_neg (by simp)]
 show wpAny _ _ (match es[j]? with | some (_,x)=>pure x | _=>unsupported "internal:set_iterator") _ _ s
 rw[he]
 refine wpAny_pure ?_
 show wpAny _ _ (setField (.ref I) 1 (rawInt (i+1)) >>= _) _ _ _
 refine wpAny_bind (wpAny_setField ho hd (by simp) (wpAny_pure ⟨e.2,rfl,wpAny_pure (hQ _ ?_ (Heap.SameBut.update ..))⟩))
 exact⟨_,Heap.get?_update_self _ ho (Obj.isFreed_of_fields (Obj.data_mapFields hd _)),(Obj.cls_mapFields ..).trans hc,by
  rw[Obj.data_mapFields hd];simp[rawInt]⟩
theorem y0i{I a T:Addr}{i ep:Nat}{pl:Array Value}{es:Array (Int × Value)}{t:SetTable}{Q:Option Value->Shared->Prop}(hh:A.handled=none)(hit:SIt s.heap I (.ref T) i a es.size ep)(ha:SAt s.heap a es ep t)
 (hT:s.heap.IsTuple T pl) (hp:pl[i]?=none) (hQ:∀h',Heap.ExtBut I s.heap h'->Q none { s with heap:=h' }):wpAny (model prog w) A (pyNext (.ref I)) Q E s:=by
 obtain⟨o,ho,hc,hd⟩:=id hit
 obtain⟨oa,hoa,hexa,hda,hfa⟩:=ha
 obtain⟨ot,hot,_,nt,hdt⟩:=hT
 unfold pyNext
 refine wpAny_bind (wpAny_attempt (wpAny_callSpecial?_slot (name:=Str.ofString "__next__") hit.typeIs slot_si_next (wpAny_call_entry slot_si_next hit.typeIs Ydm ?_ (Yec _))))
 show wpAny _ _ (fieldsOf (.ref I) >>= _) _ _ s
 refine wpAny_bind (wpAny_fieldsOf ho hd ?_)
 show wpAny _ _ (setEntries a >>= _) _ _ s
 refine wpAny_bind (wpAny_setEntries_of hoa hda hfa ?_)
 rw[if_neg (by simp)]
 show wpAny _ _ (seqItems? (.ref T) >>= _) _ _ s
 refine wpAny_bind (wpAny_seqItems hot hdt ?_)
 simp only[Int.toNat_natCast,hp]
 show wpAny _ _ (setField (.ref I) 0 (rawInt 0) >>= _) _ _ s
 refine wpAny_bind (wpAny_setField ho hd (by simp) ?_)
 have ho1:=Heap.get?_update_self (Obj.mapFields (·.setIfInBounds 0 (rawInt 0))) ho (Obj.isFreed_of_fields (Obj.data_mapFields hd _))
 have hd1:=Obj.data_mapFields hd (·.setIfInBounds 0 (rawInt 0))
 show wpAny _ _ (setField (.ref I) 2 .none >>= _) _ _ _
 refine wpAny_bind (wpAny_setField (s:={ s with heap:=s.heap.update I (Obj.mapFields (·.setIfInBounds 0 (rawInt 0))) }) ho1 hd1 (by simp) ?_)
 show wpAny _ _ (newExc (.type "StopIteration") [] >>= _) _ _ _
 refine wpAny_bind ?_
 simp only[newExc,newTuple]
 refine wpAny_bind (wpAny_newObj_type ?_ (by size_fits))
 refine wpAny_bind (m:=firstArgMember _ _) (wpAny_of_eq (a:=Value.none) (by first | rfl | (simp only[firstArgMember];rfl)) ?_)
 refine wpAny_newObj_type ?_ (by size_fits)
 simp only[raiseNew]
 refine wpAny_bind (wpAny_handled ?_)
 first | rw[show A.in1.handled=none from hh] | rw[hh]
 refine wpAny_bind (wpAny_pure (wpAny_throw ?_))
 refine wpAny_bind (wpAny_isInstance (T:="StopIteration") (b:=true) ⟨_,qp _ rfl,rfl⟩ isSubtype_stop ?_)
 exact wpAny_pure (hQ _ ((((Heap.SameBut.update ..).trans (Heap.SameBut.update ..)).extBut.push _).push _))
end
end
section
set_option maxRecDepth 100000
section
variable {prog:Program} {w:World} {A:Around} {E:Value->Shared->Prop} {s:Shared}
theorem Yhm{Q:Bool->Shared->Prop}(h:Q (byT w) s):wpAny (model prog w) A setsByText Q E s:=by
 unfold setsByText
 exact wpAny_bind (wpAny_askSetting (wpAny_pure h))
theorem Ypq{a:Addr}{es:Array (Int × Value)}{ep sl i:Nat}{t:SetTable}(hb:byT w=true)(ha:SAt s.heap a es ep t){Q:Option (Value × Nat)->Shared->Prop}
 (h:Q (((pickOrder (w.params.setOrder a ep) es)[i]?).map fun e=>(e.2,sl)) s):wpAny (model prog w) A (setNext a sl i ep) Q E s:=by
 obtain⟨oa,hoa,hexa,hda,hfa⟩:=ha
 unfold setNext
 refine wpAny_bind (wpAny_setState_of hoa hda hfa ?_)
 dsimp only
 refine wpAny_bind (Yhm ?_)
 rw[if_pos hb,if_neg (by simp)]
 refine wpAny_bind (m:=setWalk a) ?_
 unfold setWalk
 refine wpAny_bind (wpAny_setState_of hoa hda hfa ?_)
 dsimp only
 refine wpAny_bind (Yhm ?_)
 rw[if_pos hb]
 refine wpAny_bind (wpAny_askSetting (wpAny_pure ?_))
 exact wpAny_pure h
theorem Ypr{a:Addr}{es:Array (Int × Value)}{ep sl i g:Nat}{t:SetTable}(hb:byT w=false)(hd:(!t.plain&&decide (es.size > 1))=false)(hl:t.led=true)(ha:SAt s.heap a es ep t){Q:Option (Value × Nat)->Shared->Prop}
 (hp:SetTable.below t.place sl=i) (h:Q (match es[i]?,t.place[i]? with | some (_,x),some j=>some (x,j+1) | _,_=>none) s):wpAny (model prog w) A (setNext a sl g ep) Q E s:=by
 obtain⟨oa,hoa,hexa,hda,hfa⟩:=ha
 unfold setNext
 refine wpAny_bind (wpAny_setState_of hoa hda hfa ?_)
 dsimp only
 refine wpAny_bind (Yhm ?_)
 rw[if_neg (by rw[hb];exact qi)]
 show wpAny _ _ (if (!t.plain&&decide (es.size > 1))=true then _ else _) _ _ _
 rw[if_neg (show ¬((!t.plain&&decide (es.size > 1))=true) by rw[hd];exact qi)]
 show wpAny _ _ ((if (!t.led&&!es.isEmpty)=true then unsupported "set:maker-not-led" else pure ()) >>= _) _ _ _
 rw[if_neg (by rw[hl];simp)]
 refine wpAny_bind (wpAny_pure ?_)
 rw[hp]
 exact wpAny_pure h
def Yg1(pl:Array Nat):Nat->Nat
 | 0=>0
 | i+1=>pl.getD i 0+1
theorem Ytf{pl:Array Nat}(hr:Rise pl){i:Nat}(hi:i<=pl.size):SetTable.below pl (Yg1 pl i)=i:=by
 obtain⟨h1,h2,h3⟩:=Ymi hr (Yg1 pl i)
 generalize hp:SetTable.below pl (Yg1 pl i)=p at h1 h2 h3
 have mono:∀(i k:Nat) (hi:i < pl.size) (hk:k < pl.size),i < k->pl[i] < pl[k]:=fun i k hi hk h=>by
  have:=List.pairwise_iff_getElem.mp hr i k (by simpa using hi) (by simpa using hk) h
  simpa using this
 have e1:∀k (hk:k < pl.size),k < p->pl[k] < Yg1 pl i:=fun k hk hkp=>h2 _ (by
  rw[List.mem_iff_getElem]
  exact⟨k,by simp;lia,by simp⟩)
 have e2:∀k (hk:k < pl.size),p<=k->Yg1 pl i<=pl[k]:=fun k hk hkp=>h3 _ (by
  rw[List.mem_iff_getElem]
  exact⟨k - p,by simp;lia,by
   rw[List.getElem_drop,Array.getElem_toList]
   congr 1
   lia⟩)
 rcases Nat.lt_trichotomy p i with h | h | h
 ·have hk:p < pl.size:=by lia
  have:=e2 p hk (qu _)
  cases i with
  | zero=>lia
  | succ j=>
    have hj:j < pl.size:=by lia
    simp only[Yg1,Array.getD,hj,dite_true]at this
    by_cases e:p=j
    ·subst e;exact absurd this (by simp)
    ·have:=mono p j hk hj (by lia)
     simp at *
     lia
 ·exact h
 ·have hk:i < pl.size:=by lia
  have:=e1 i hk h
  cases i with
  | zero=>simp[Yg1]at this
  | succ j=>
    have hj:j < pl.size:=by lia
    have h':=mono j (j+1) hj hk (by lia)
    simp only[Yg1,Array.getD,hj,dite_true]at this
    simp at *
    lia
end
end
section
inductive D where
 | non | bl (b:Bool) | int (i:Int) | str (x:Str) | tup (l:List D) | lst (l:List D)
 | scr (ns:List Int)
 | dct (t:Bool) (ks vs:List D)
mutual
def toPy:D->PyData
 | .non=>.none
 | .bl b=>.bool b
 | .int i=>.int i
 | .str x=>.str x
 | .tup l=>.tuple (Ydf l)
 | .lst l=>.list (Ydf l)
 | .scr ns=>.list (ns.map PyData.int)
 | .dct _ _ _=>.none
def Ydf:List D->List PyData
 | []=>[]
 | d::l=>toPy d::Ydf l
end
def eqD(d e:D):Bool:=PyData.eqv (toPy d) (toPy e)
def eqL(l m:List D):Bool:=PyData.eqvAll (Ydf l) (Ydf m)
def numV:V->Option Int
 | .int i=>some i
 | .bl b=>some (if b then 1 else 0)
 | _=>none
def Yfg:List V->Option (List Int)
 | []=>some []
 | x::r=>(numV x).bind fun i=>(Yfg r).map (i::·)
def y34(ks:List Int):Int:=reduceHash (Builtin.Tuple.tupleHashOf (ks.map hashInt))
def DtOk(a:Addr)(nks:List (List Int × Addr))(vxs:List V)(ep:Nat)(h:Heap):Prop:=
 (a==sysModules)=false/\∃us o es,Vals vxs us/\h.get? a=some o/\o.ExactDict/\o.data=.dict es ep/\es.toList=(nks.zip us).map fun p=>(⟨y34 p.1.1,.ref p.1.2,p.2⟩:DictEntry)
def dTo(a:Addr)(nks:List (List Int × Addr))(vxs:List V)(ep:Nat):HO:=.ext (DtOk a nks vxs ep)
def Dc(t:Bool)(G H:Hp)(a:Addr)(kxs vxs:List V):Prop:=
 (t=false/\∃kvs:List (Key × V),H a=some (.dK kvs)/\(kvs.map (·.1)).Nodup/\kxs=kvs.map (fun p=>kV p.1)/\vxs=kvs.map (·.2))\/
 (t=true/\∃(nks:List (List Int × Addr)) (ep:Nat),H a=some (dTo a nks vxs ep)/\nks.length=vxs.length/\(nks.map (·.1)).Nodup/\kxs=nks.map (fun p=>V.ref p.2)/\∀p∈nks,∃ys,G p.2=some (.tup ys)/\Yfg ys=some p.1)
mutual
def Rp(K:W.Frag)(G:Hp):D->V->Prop
 | .non,v=>v=V.non
 | .bl b,v=>v=V.bl b
 | .int i,v=>v=V.int i
 | .str x,v=>v=V.str x/\PyData.strOk x=true
 | .tup l,v=>∃a xs,v=V.ref a/\G a=some (HO.tup xs)/\RpL K G l xs
 | .lst l,v=>∃a xs,v=V.ref a/\Rd G a (HO.lst xs)/\RpL K G l xs
 | .scr ns,v=>∃a,v=V.ref a/\SqL K G a (ns.map V.int)
 | .dct t ks vs,v=>∃a kxs vxs,v=V.ref a/\Dc t G G a kxs vxs/\RpL K G ks kxs/\RpL K G vs vxs
def RpL(K:W.Frag)(G:Hp):List D->List V->Prop
 | [],xs=>xs=[]
 | d::l,xs=>∃x r,xs=x::r/\Rp K G d x/\RpL K G l r
end
variable {K:W.Frag}
theorem Ydg{G G':Hp}(h:Same G G'){a:Addr}{u:HO}(r:Rd G a u):Rd G' a u:=by
 rcases r with r | ⟨o,r⟩
 ·exact .inl (h _ _ r)
 ·exact .inr ⟨o,h _ _ r⟩
theorem Dc.mono{t:Bool}{G G' H H':Hp}(g:Same G G'){a:Addr}{kxs vxs:List V}(h:∀o,H a=some o->H' a=some o)(d:Dc t G H a kxs vxs):Dc t G' H' a kxs vxs:=by
 rcases d with⟨e,kvs,h1,h2⟩ | ⟨e,nks,ep,h1,h2,h3,h4,h5⟩
 ·exact .inl ⟨e,kvs,h _ h1,h2⟩
 ·refine .inr ⟨e,nks,ep,h _ h1,h2,h3,h4,fun p hp=>?_⟩
  obtain⟨ys,q1,q2⟩:=h5 p hp
  exact⟨ys,g _ _ q1,q2⟩
theorem Dc.someT{t:Bool}{G H:Hp}{a:Addr}{kxs vxs:List V}(d:Dc t G H a kxs vxs):∃o,H a=some o/\∀xs,o≠.tup xs:=by
 rcases d with⟨_,kvs,h1,_⟩ | ⟨_,nks,ep,h1,_⟩
 ·exact⟨_,h1,fun xs z=>by cases z⟩
 ·exact⟨_,h1,fun xs z=>by cases z⟩
theorem Dc.some{t:Bool}{G H:Hp}{a:Addr}{kxs vxs:List V}(d:Dc t G H a kxs vxs):∃o,H a=some o/\∀xs,o≠.lst xs:=by
 rcases d with⟨_,kvs,h1,_⟩ | ⟨_,nks,ep,h1,_⟩
 ·exact⟨_,h1,fun xs z=>by cases z⟩
 ·exact⟨_,h1,fun xs z=>by cases z⟩
mutual
theorem Rp.mono{G G':Hp}(h:Same G G'):∀{d:D} {v:V},Rp K G d v->Rp K G' d v
 | .non,_,r=>by rw[Rp]at r ⊢;exact r
 | .bl _,_,r=>by rw[Rp]at r ⊢;exact r
 | .int _,_,r=>by rw[Rp]at r ⊢;exact r
 | .str _,_,r=>by rw[Rp]at r ⊢;exact r
 | .tup l,_,r=>by
   rw[Rp]at r ⊢
   obtain⟨a,xs,e,g,q⟩:=r
   exact⟨a,xs,e,h _ _ g,RpL.mono h q⟩
 | .lst l,_,r=>by
   rw[Rp]at r ⊢
   obtain⟨a,xs,e,g,q⟩:=r
   exact⟨a,xs,e,Ydg h g,RpL.mono h q⟩
 | .scr ns,_,r=>by
   rw[Rp]at r ⊢
   obtain⟨a,e,g⟩:=r
   exact⟨a,e,h.seq g⟩
 | .dct t ks vs,_,r=>by
   rw[Rp]at r ⊢
   obtain⟨a,kxs,vxs,e,g,q1,q2⟩:=r
   exact⟨a,kxs,vxs,e,g.mono h fun o=>h _ o,RpL.mono h q1,RpL.mono h q2⟩
theorem RpL.mono{G G':Hp}(h:Same G G'):∀{l:List D} {xs:List V},RpL K G l xs->RpL K G' l xs
 | [],_,r=>by rw[RpL]at r ⊢;exact r
 | d::l,_,r=>by
   rw[RpL]at r ⊢
   obtain⟨x,xs,e,g,q⟩:=r
   exact⟨x,xs,e,Rp.mono h g,RpL.mono h q⟩
end
section
variable {G:Hp}
theorem RpL.length:∀{l:List D} {xs:List V},RpL K G l xs->xs.length=l.length
 | [],_,r=>by rw[RpL]at r;subst r;rfl
 | d::l,_,r=>by
   rw[RpL]at r
   obtain⟨x,xs,rfl,_,q⟩:=r
   simp[RpL.length q]
theorem RpL.get:∀{l:List D} {xs:List V} {i:Nat} {d:D},RpL K G l xs->l[i]?=some d->∃x,xs[i]?=some x/\Rp K G d x
 | [],_,_,_,_,e=>by simp at e
 | d::l,_,0,_,r,e=>by
   rw[RpL]at r
   obtain⟨x,xs,rfl,g,q⟩:=r
   simp at e
   subst e
   exact⟨x,rfl,g⟩
 | d::l,_,i+1,_,r,e=>by
   rw[RpL]at r
   obtain⟨x,xs,rfl,g,q⟩:=r
   obtain⟨y,h1,h2⟩:=RpL.get (i:=i) q (by simpa using e)
   exact⟨y,by simpa using h1,h2⟩
theorem RpL.nil:RpL K G [] []:=by rw[RpL]
theorem RpL.cons{d:D}{l:List D}{x:V}{xs:List V}(h:Rp K G d x)(q:RpL K G l xs):RpL K G (d::l) (x::xs):=by rw[RpL];exact⟨x,xs,rfl,h,q⟩
theorem RpL.append:∀{l m:List D} {xs ys:List V},RpL K G l xs->RpL K G m ys->RpL K G (l++m) (xs++ys)
 | [],_,_,_,r,q=>by rw[RpL]at r;subst r;exact q
 | d::l,m,_,ys,r,q=>by
   rw[RpL]at r
   obtain⟨x,xs,rfl,g,r⟩:=r
   exact .cons g (RpL.append r q)
theorem RpL.one{d:D}{x:V}(h:Rp K G d x):RpL K G [d] [x]:=.cons h .nil
theorem RpL.take:∀{l:List D} {xs:List V} (n:Nat),RpL K G l xs->RpL K G (l.take n) (xs.take n)
 | _,_,0,_=>by rw[List.take_zero,List.take_zero];exact .nil
 | [],_,_+1,r=>by rw[RpL]at r;subst r;exact .nil
 | d::l,_,n+1,r=>by
   rw[RpL]at r
   obtain⟨x,xs,rfl,g,r⟩:=r
   exact .cons g (RpL.take n r)
theorem RpL.drop:∀{l:List D} {xs:List V} (n:Nat),RpL K G l xs->RpL K G (l.drop n) (xs.drop n)
 | _,_,0,r=>r
 | [],_,_+1,r=>by rw[RpL]at r;subst r;exact .nil
 | d::l,_,n+1,r=>by
   rw[RpL]at r
   obtain⟨x,xs,rfl,g,r⟩:=r
   exact RpL.drop n r
theorem RpL.reverse:∀{l:List D} {xs:List V},RpL K G l xs->RpL K G l.reverse xs.reverse
 | [],_,r=>by rw[RpL]at r;subst r;exact .nil
 | d::l,_,r=>by
   rw[RpL]at r
   obtain⟨x,xs,rfl,g,r⟩:=r
   rw[List.reverse_cons,List.reverse_cons]
   exact r.reverse.append (.one g)
theorem RpL.ints:∀(ns:List Int),RpL K G (ns.map D.int) (ns.map V.int)
 | []=>.nil
 | n::ns=>.cons (by rw[Rp]) (RpL.ints ns)
end
structure Gr(H G H' G':Hp):Prop where
 h:Same H H'
 g:Same G G'
 s:Same G' H'
 n:∀a,G a=none->G' a≠none->H a=none
theorem Gr.refl{H G:Hp}(s:Same G H):Gr H G H G:=⟨Same.refl _,Same.refl _,s,fun _ h h'=>absurd h h'⟩
theorem Gr.trans{H G H1 G1 H2 G2:Hp}(a:Gr H G H1 G1)(b:Gr H1 G1 H2 G2):Gr H G H2 G2:=
 ⟨a.h.trans b.h,a.g.trans b.g,b.s,fun x h h'=>by
  by_cases e:G1 x=none
  ·exact a.h.free (b.n x e h')
  ·exact a.n x h e⟩
theorem Gr.new{H G:Hp}(s:Same G H){p:Addr}(hp:H p=none)(o:HO):Gr H G (upd H p o) (upd G p o):=by
 have gp:G p=none:=s.free hp
 refine⟨fun b u e=>?_,fun b u e=>?_,fun b u e=>?_,fun b h h'=>?_⟩
 ·rw[Yab (y0 e hp)];exact e
 ·rw[Yab (y0 e gp)];exact e
 ·by_cases q:b=p
  ·subst q;rw[Yw]at e ⊢;exact e
  ·rw[Yab q]at e ⊢;exact s _ _ e
 ·by_cases q:b=p
  ·subst q;exact hp
  ·rw[Yab q]at h';exact absurd h h'
theorem Gr.hid{H G:Hp}(s:Same G H){p:Addr}(hp:H p=none)(o:HO):Gr H G (upd H p o) G:=by
 have gp:G p=none:=s.free hp
 refine⟨fun b u e=>?_,Same.refl _,fun b u e=>?_,fun b h h'=>absurd h h'⟩
 ·rw[Yab (y0 e hp)];exact e
 ·rw[Yab (y0 e gp)];exact s _ _ e
theorem Gr.show{H G H' G':Hp}(g:Gr H G H' G'){p:Addr}{o:HO}(hp:H p=none)(gp:G' p=none)(e:H' p=some o):Gr H G H' (upd G' p o):=by
 refine⟨g.h,fun b u q=>?_,fun b u q=>?_,fun b h h'=>?_⟩
 ·have:=g.g b u q
  rw[Yab (y0 this gp)];exact this
 ·by_cases z:b=p
  ·subst z;rw[Yw]at q;rw[e];exact q
  ·rw[Yab z]at q;exact g.s b u q
 ·by_cases z:b=p
  ·subst z;exact hp
  ·rw[Yab z]at h';exact g.n b h h'
def Ct(K:W.Frag)(G H:Hp):D->V->Prop
 | .non,v=>v=V.non
 | .bl b,v=>v=V.bl b
 | .int i,v=>v=V.int i
 | .str x,v=>v=V.str x/\PyData.strOk x=true
 | .tup l,v=>∃a xs,v=V.ref a/\(H a=some (HO.tup xs)/\G a=some (HO.tup xs))/\RpL K G l xs
 | .lst l,v=>∃a xs,v=V.ref a/\Rd H a (HO.lst xs)/\RpL K G l xs
 | .scr ns,v=>∃a,v=V.ref a/\SqL K H a (ns.map V.int)
 | .dct t ks vs,v=>∃a kxs vxs,v=V.ref a/\Dc t G H a kxs vxs/\RpL K G ks kxs/\RpL K G vs vxs
theorem Ct.of{G H:Hp}(s:Same G H){d:D}{v:V}(r:Rp K G d v):Ct K G H d v:=by
 cases d<;>rw[Rp]at r<;>rw[Ct]
 ·exact r
 ·exact r
 ·exact r
 ·exact r
 ·obtain⟨a,xs,e,g,q⟩:=r
  exact⟨a,xs,e,⟨s _ _ g,g⟩,q⟩
 ·obtain⟨a,xs,e,g,q⟩:=r
  exact⟨a,xs,e,Ydg s g,q⟩
 ·obtain⟨a,e,g⟩:=r
  exact⟨a,e,s.seq g⟩
 ·obtain⟨a,kxs,vxs,e,g,q1,q2⟩:=r
  exact⟨a,kxs,vxs,e,g.mono (Same.refl _) fun o=>s _ o,q1,q2⟩
theorem Ct.rp{G H:Hp}(s:Same G H){d:D}{v:V}(r:Ct K G H d v):Rp K H d v:=by
 cases d<;>rw[Ct]at r<;>rw[Rp]
 ·exact r
 ·exact r
 ·exact r
 ·exact r
 ·obtain⟨a,xs,e,g,q⟩:=r
  exact⟨a,xs,e,g.1,q.mono s⟩
 ·obtain⟨a,xs,e,g,q⟩:=r
  exact⟨a,xs,e,g,q.mono s⟩
 ·exact r
 ·obtain⟨a,kxs,vxs,e,g,q1,q2⟩:=r
  exact⟨a,kxs,vxs,e,g.mono s fun _ z=>z,q1.mono s,q2.mono s⟩
theorem Ct.grow{G H G' H':Hp}(g:Gr H G H' G'){d:D}{v:V}(r:Ct K G H d v):Ct K G' H' d v:=by
 cases d<;>rw[Ct]at r<;>rw[Ct]
 ·exact r
 ·exact r
 ·exact r
 ·exact r
 ·obtain⟨a,xs,e,h,q⟩:=r
  exact⟨a,xs,e,⟨g.h _ _ h.1,g.g _ _ h.2⟩,q.mono g.g⟩
 ·obtain⟨a,xs,e,h,q⟩:=r
  exact⟨a,xs,e,Ydg g.h h,q.mono g.g⟩
 ·obtain⟨a,e,h⟩:=r
  exact⟨a,e,g.h.seq h⟩
 ·obtain⟨a,kxs,vxs,e,h,q1,q2⟩:=r
  exact⟨a,kxs,vxs,e,h.mono g.g fun o=>g.h _ o,q1.mono g.g,q2.mono g.g⟩
def CtL(K:W.Frag)(G H:Hp):List D->List V->Prop
 | [],xs=>xs=[]
 | d::l,xs=>∃x r,xs=x::r/\Ct K G H d x/\CtL K G H l r
inductive B where
 | sh (d:D) | ow (l:List D) | od (t:Bool) (ks vs:List D)
abbrev Ro:=List (Option B)
structure SR(K:W.Frag)(H0 G0:Hp)(σ:L2.St)(H G:Hp)(ρ:Ro):Prop where
 gr:Gr H0 G0 H G
 len:σ.length=ρ.length
 sh:∀(i:Nat) d,ρ[i]?=some (some (B.sh d))->∃v,σ[i]?=some (some v)/\Rp K G d v
 ow:∀(i:Nat) l,ρ[i]?=some (some (B.ow l))->∃a xs,σ[i]?=some (some (V.ref a))/\G a=none/\H0 a=none/\H a=some (.lst xs)/\RpL K G l xs
 ap:∀(i j:Nat) l l' a b,ρ[i]?=some (some (B.ow l))->ρ[j]?=some (some (B.ow l'))->i≠j->σ[i]?=some (some (V.ref a))->σ[j]?=some (some (V.ref b))->a≠b
 od:∀(i:Nat) t ks vs,ρ[i]?=some (some (B.od t ks vs))->∃a kxs vxs,σ[i]?=some (some (V.ref a))/\G a=none/\H0 a=none/\Dc t G H a kxs vxs/\RpL K G ks kxs/\RpL K G vs vxs
 apd:∀(i j:Nat) t ks vs t' ks' vs' a b,ρ[i]?=some (some (B.od t ks vs))->ρ[j]?=some (some (B.od t' ks' vs'))->i≠j->σ[i]?=some (some (V.ref a))->σ[j]?=some (some (V.ref b))->a≠b
section
variable {H0 G0 H G H' G':Hp} {σ:L2.St} {ρ:Ro}
theorem SR.mkSh(g:Gr H0 G0 H G)(len:σ.length=ρ.length)(sh:∀(i:Nat) d,ρ[i]?=some (some (B.sh d))->∃v,σ[i]?=some (some v)/\Rp K G d v)(no:∀(i:Nat) l,ρ[i]?≠some (some (B.ow l)))(no':∀(i:Nat) t ks vs,ρ[i]?≠some (some (B.od t ks vs))):SR K H0 G0 σ H G ρ:=
 ⟨g,len,sh,fun i l h=>absurd h (no i l),fun i j l l' a b h=>absurd h (no i l),fun i t ks vs h=>absurd h (no' i t ks vs),fun i j t ks vs t' ks' vs' a b h=>absurd h (no' i t ks vs)⟩
theorem Ykd(g:Gr H G H' G'){a:Addr}{o:HO}(h:H a=some o)(n:G a=none):G' a=none:=by
 cases q:G' a with
 | none=>rfl
 | some o=>
   have:=g.n a n (by rw[q];exact fun z=>nomatch z)
   rw[h]at this
   cases this
theorem SR.grow(s:SR K H0 G0 σ H G ρ)(g:Gr H G H' G'):SR K H0 G0 σ H' G' ρ:=by
 refine⟨s.gr.trans g,s.len,fun i d e=>?_,fun i l e=>?_,s.ap,fun i t ks vs e=>?_,s.apd⟩
 ·obtain⟨v,h1,h2⟩:=s.sh i d e
  exact⟨v,h1,h2.mono g.g⟩
 ·obtain⟨a,xs,h1,h2,h3,h4,h5⟩:=s.ow i l e
  exact⟨a,xs,h1,Ykd g h4 h2,h3,g.h _ _ h4,h5.mono g.g⟩
 ·obtain⟨a,kxs,vxs,h1,h2,h3,h4,h5,h6⟩:=s.od i t ks vs e
  obtain⟨o,h7,_⟩:=h4.some
  exact⟨a,kxs,vxs,h1,Ykd g h7 h2,h3,h4.mono g.g fun o=>g.h _ o,h5.mono g.g,h6.mono g.g⟩
theorem SR.seen(s:SR K H0 G0 σ H G ρ):Same G H:=s.gr.s
theorem Yp{α:Type}{l:List α}{i j:Nat}{x y:α}(h:(l.set i x)[j]?=some y):(j=i/\y=x/\i < l.length)\/(j≠i/\l[j]?=some y):=by
 by_cases e:j=i
 ·subst e
  have hl:j < l.length:=by
   have:=(qo h).1
   simpa using this
  rw[Qp hl]at h
  exact .inl ⟨rfl,(Option.some.inj h).symm,hl⟩
 ·rw[Qe (Ne.symm e)]at h
  exact .inr ⟨e,h⟩
theorem SR.set_sh(s:SR K H0 G0 σ H G ρ)(i:Nat){d:D}{v:V}(r:Rp K G d v):SR K H0 G0 (σ.set i (some v)) H G (ρ.set i (some (.sh d))):=by
 refine⟨s.gr,by simp[s.len],fun j e h=>?_,fun j l h=>?_,fun j k l l' a b h1 h2 h3 h4 h5=>?_,fun j t ks vs h=>?_,fun j k t ks vs t' ks' vs' a b h1 h2 h3 h4 h5=>?_⟩
 ·rcases Yp h with⟨rfl,e1,hl⟩ | ⟨hj,h⟩
  ·cases e1
   exact⟨v,by rw[Qp (by rw[s.len];exact hl)],r⟩
  ·obtain⟨w,q1,q2⟩:=s.sh j e h
   exact⟨w,by rw[Qe (Ne.symm hj)];exact q1,q2⟩
 ·rcases Yp h with⟨rfl,e1,hl⟩ | ⟨hj,h⟩
  ·cases e1
  ·obtain⟨a,xs,q1,q2⟩:=s.ow j l h
   exact⟨a,xs,by rw[Qe (Ne.symm hj)];exact q1,q2⟩
 ·rcases Yp h1 with⟨rfl,e1,_⟩ | ⟨hj,h1⟩
  ·cases e1
  ·rcases Yp h2 with⟨rfl,e1,_⟩ | ⟨hk,h2⟩
   ·cases e1
   ·rw[Qe (Ne.symm hj)]at h4
    rw[Qe (Ne.symm hk)]at h5
    exact s.ap j k l l' a b h1 h2 h3 h4 h5
 ·rcases Yp h with⟨rfl,e1,hl⟩ | ⟨hj,h⟩
  ·cases e1
  ·obtain⟨a,kxs,vxs,q1,q2⟩:=s.od j t ks vs h
   exact⟨a,kxs,vxs,by rw[Qe (Ne.symm hj)];exact q1,q2⟩
 ·rcases Yp h1 with⟨rfl,e1,_⟩ | ⟨hj,h1⟩
  ·cases e1
  ·rcases Yp h2 with⟨rfl,e1,_⟩ | ⟨hk,h2⟩
   ·cases e1
   ·rw[Qe (Ne.symm hj)]at h4
    rw[Qe (Ne.symm hk)]at h5
    exact s.apd j k t ks vs t' ks' vs' a b h1 h2 h3 h4 h5
theorem SR.set_ow(s:SR K H0 G0 σ H G ρ)(i:Nat){l:List D}{p:Addr}{xs:List V}(g:Gr H G H' G')(hp:H p=none)(gp:G' p=none)(e:H' p=some (.lst xs))(r:RpL K G' l xs):SR K H0 G0 (σ.set i (some (.ref p))) H' G' (ρ.set i (some (.ow l))):=by
 have s':=s.grow g
 have np:∀(j:Nat) l a,ρ[j]?=some (some (B.ow l))->σ[j]?=some (some (V.ref a))->a≠p:=fun j l a h1 h2 z=>by
  obtain⟨b,ys,q1,_,_,q4,_⟩:=s.ow j l h1
  rw[h2]at q1
  cases q1
  rw[z,hp]at q4
  cases q4
 refine⟨s'.gr,by simp[s.len],fun j e h=>?_,fun j l h=>?_,fun j k l l' a b h1 h2 h3 h4 h5=>?_,fun j t ks vs h=>?_,fun j k t ks vs t' ks' vs' a b h1 h2 h3 h4 h5=>?_⟩
 ·rcases Yp h with⟨rfl,e1,hl⟩ | ⟨hj,h⟩
  ·cases e1
  ·obtain⟨w,q1,q2⟩:=s'.sh j e h
   exact⟨w,by rw[Qe (Ne.symm hj)];exact q1,q2⟩
 ·rcases Yp h with⟨rfl,e1,hl⟩ | ⟨hj,h⟩
  ·cases e1
   exact⟨p,xs,by rw[Qp (by rw[s.len];exact hl)],gp,s.gr.h.free hp,e,r⟩
  ·obtain⟨a,xs,q1,q2⟩:=s'.ow j l h
   exact⟨a,xs,by rw[Qe (Ne.symm hj)];exact q1,q2⟩
 ·rcases Yp h1 with⟨rfl,e1,hl⟩ | ⟨hj,h1n⟩
  ·rcases Yp h2 with⟨rfl,e2,_⟩ | ⟨hk,h2⟩
   ·exact absurd rfl h3
   ·rw[Qp (by rw[s.len];exact hl)]at h4
    cases h4
    rw[Qe (Ne.symm hk)]at h5
    exact Ne.symm (np k l' b h2 h5)
  ·rcases Yp h2 with⟨rfl,e2,hl⟩ | ⟨hk,h2⟩
   ·rw[Qp (by rw[s.len];exact hl)]at h5
    cases h5
    rw[Qe (Ne.symm hj)]at h4
    exact np j l a h1n h4
   ·rw[Qe (Ne.symm hj)]at h4
    rw[Qe (Ne.symm hk)]at h5
    exact s.ap j k l l' a b h1n h2 h3 h4 h5
 ·rcases Yp h with⟨rfl,e1,hl⟩ | ⟨hj,h⟩
  ·cases e1
  ·obtain⟨a,kxs,vxs,q1,q2⟩:=s'.od j t ks vs h
   exact⟨a,kxs,vxs,by rw[Qe (Ne.symm hj)];exact q1,q2⟩
 ·rcases Yp h1 with⟨rfl,e1,_⟩ | ⟨hj,h1⟩
  ·cases e1
  ·rcases Yp h2 with⟨rfl,e1,_⟩ | ⟨hk,h2⟩
   ·cases e1
   ·rw[Qe (Ne.symm hj)]at h4
    rw[Qe (Ne.symm hk)]at h5
    exact s.apd j k t ks vs t' ks' vs' a b h1 h2 h3 h4 h5
theorem SR.set_od(s:SR K H0 G0 σ H G ρ)(i:Nat){t:Bool}{ks vs:List D}{p:Addr}{kxs vxs:List V}(g:Gr H G H' G')(hp:H p=none)(gp:G' p=none)(e:Dc t G' H' p kxs vxs)(r1:RpL K G' ks kxs)(r2:RpL K G' vs vxs):SR K H0 G0 (σ.set i (some (.ref p))) H' G' (ρ.set i (some (.od t ks vs))):=by
 have s':=s.grow g
 have np:∀(j:Nat) t ks vs a,ρ[j]?=some (some (B.od t ks vs))->σ[j]?=some (some (V.ref a))->a≠p:=fun j t ks vs a h1 h2 z=>by
  obtain⟨b,kxs,vxs,q1,_,_,q4,_⟩:=s.od j t ks vs h1
  rw[h2]at q1
  cases q1
  obtain⟨o,q5,_⟩:=q4.some
  rw[z,hp]at q5
  cases q5
 refine⟨s'.gr,by simp[s.len],fun j e h=>?_,fun j l h=>?_,fun j k l l' a b h1 h2 h3 h4 h5=>?_,fun j t ks vs h=>?_,fun j k t ks vs t' ks' vs' a b h1 h2 h3 h4 h5=>?_⟩
 ·rcases Yp h with⟨rfl,e1,hl⟩ | ⟨hj,h⟩
  ·cases e1
  ·obtain⟨w,q1,q2⟩:=s'.sh j e h
   exact⟨w,by rw[Qe (Ne.symm hj)];exact q1,q2⟩
 ·rcases Yp h with⟨rfl,e1,hl⟩ | ⟨hj,h⟩
  ·cases e1
  ·obtain⟨a,xs,q1,q2⟩:=s'.ow j l h
   exact⟨a,xs,by rw[Qe (Ne.symm hj)];exact q1,q2⟩
 ·rcases Yp h1 with⟨rfl,e1,_⟩ | ⟨hj,h1⟩
  ·cases e1
  ·rcases Yp h2 with⟨rfl,e1,_⟩ | ⟨hk,h2⟩
   ·cases e1
   ·rw[Qe (Ne.symm hj)]at h4
    rw[Qe (Ne.symm hk)]at h5
    exact s.ap j k l l' a b h1 h2 h3 h4 h5
 ·rcases Yp h with⟨rfl,e1,hl⟩ | ⟨hj,h⟩
  ·cases e1
   exact⟨p,kxs,vxs,by rw[Qp (by rw[s.len];exact hl)],gp,s.gr.h.free hp,e,r1,r2⟩
  ·obtain⟨a,kxs,vxs,q1,q2⟩:=s'.od j t ks vs h
   exact⟨a,kxs,vxs,by rw[Qe (Ne.symm hj)];exact q1,q2⟩
 ·rcases Yp h1 with⟨rfl,e1,hl⟩ | ⟨hj,h1n⟩
  ·rcases Yp h2 with⟨rfl,e2,_⟩ | ⟨hk,h2⟩
   ·exact absurd rfl h3
   ·rw[Qp (by rw[s.len];exact hl)]at h4
    cases h4
    rw[Qe (Ne.symm hk)]at h5
    exact Ne.symm (np k t' ks' vs' b h2 h5)
  ·rcases Yp h2 with⟨rfl,e2,hl⟩ | ⟨hk,h2⟩
   ·rw[Qp (by rw[s.len];exact hl)]at h5
    cases h5
    rw[Qe (Ne.symm hj)]at h4
    exact np j t ks vs a h1n h4
   ·rw[Qe (Ne.symm hj)]at h4
    rw[Qe (Ne.symm hk)]at h5
    exact s.apd j k t ks vs t' ks' vs' a b h1n h2 h3 h4 h5
theorem SR.mut(s:SR K H0 G0 σ H G ρ){i:Nat}{l l':List D}{a:Addr}{ys:List V}(hi:ρ[i]?=some (some (B.ow l)))(ha:σ[i]?=some (some (V.ref a)))(r:RpL K G l' ys):SR K H0 G0 σ (upd H a (.lst ys)) G (ρ.set i (some (.ow l'))):=by
 obtain⟨a',xs,q1,q2,q3,q4,q5⟩:=s.ow i l hi
 rw[ha]at q1
 cases q1
 have hl:i < ρ.length:=(qo hi).1
 refine⟨⟨fun b o e=>?_,s.gr.g,fun b o e=>?_,s.gr.n⟩,by simp[s.len],fun j e h=>?_,fun j m h=>?_,fun j k m m' b c h1 h2 h3 h4 h5=>?_,fun j t ks vs h=>?_,fun j k t ks vs t' ks' vs' b c h1 h2 h3 h4 h5=>?_⟩
 ·rw[Yab (y0 e q3)];exact s.gr.h b o e
 ·rw[Yab (y0 e q2)];exact s.gr.s b o e
 ·rcases Yp h with⟨rfl,e1,_⟩ | ⟨hj,h⟩
  ·cases e1
  ·exact s.sh j e h
 ·rcases Yp h with⟨rfl,e1,_⟩ | ⟨hj,h⟩
  ·cases e1
   exact⟨a,ys,ha,q2,q3,Yw,r⟩
  ·obtain⟨b,zs,p1,p2,p3,p4,p5⟩:=s.ow j m h
   exact⟨b,zs,p1,p2,p3,by rw[Yab (s.ap j i m l b a h hi hj p1 ha)];exact p4,p5⟩
 ·have old:∀(j:Nat) m,(ρ.set i (some (.ow l')))[j]?=some (some (B.ow m))->∃m',ρ[j]?=some (some (B.ow m')):=fun j m h=>by
   rcases Yp h with⟨rfl,_,_⟩ | ⟨_,h⟩
   ·exact⟨l,hi⟩
   ·exact⟨m,h⟩
  obtain⟨n1,e1⟩:=old j m h1
  obtain⟨n2,e2⟩:=old k m' h2
  exact s.ap j k n1 n2 b c e1 e2 h3 h4 h5
 ·rcases Yp h with⟨rfl,e1,_⟩ | ⟨hj,h⟩
  ·cases e1
  ·obtain⟨b,kxs,vxs,p1,p2,p3,p4,p5⟩:=s.od j t ks vs h
   refine⟨b,kxs,vxs,p1,p2,p3,p4.mono (Same.refl _) fun o q=>?_,p5⟩
   obtain⟨o',q',nl⟩:=p4.some
   rw[q]at q'
   cases q'
   rw[Yab (fun z=>by rw[z,q4]at q;cases q;exact nl _ rfl)];exact q
 ·rcases Yp h1 with⟨rfl,e1,_⟩ | ⟨hj,h1⟩
  ·cases e1
  ·rcases Yp h2 with⟨rfl,e1,_⟩ | ⟨hk,h2⟩
   ·cases e1
   ·exact s.apd j k t ks vs t' ks' vs' b c h1 h2 h3 h4 h5
theorem SR.mutd(s:SR K H0 G0 σ H G ρ){i:Nat}{t t':Bool}{ks vs ks' vs':List D}{a:Addr}{o:HO}{kxs vxs:List V}(hi:ρ[i]?=some (some (B.od t ks vs)))(ha:σ[i]?=some (some (V.ref a)))(d:Dc t' G (upd H a o) a kxs vxs)(r1:RpL K G ks' kxs)(r2:RpL K G vs' vxs):SR K H0 G0 σ (upd H a o) G (ρ.set i (some (.od t' ks' vs'))):=by
 obtain⟨a',kxs0,vxs0,q1,q2,q3,q4,q5,q6⟩:=s.od i t ks vs hi
 rw[ha]at q1
 cases q1
 obtain⟨o0,q7,nl⟩:=q4.some
 have hl:i < ρ.length:=(qo hi).1
 refine⟨⟨fun b o e=>?_,s.gr.g,fun b o e=>?_,s.gr.n⟩,by simp[s.len],fun j e h=>?_,fun j m h=>?_,fun j k m m' b c h1 h2 h3 h4 h5=>?_,fun j ta ka va h=>?_,fun j k ta ka va tb kb vb b c h1 h2 h3 h4 h5=>?_⟩
 ·rw[Yab (y0 e q3)];exact s.gr.h b o e
 ·rw[Yab (y0 e q2)];exact s.gr.s b o e
 ·rcases Yp h with⟨rfl,e1,_⟩ | ⟨hj,h⟩
  ·cases e1
  ·exact s.sh j e h
 ·rcases Yp h with⟨rfl,e1,_⟩ | ⟨hj,h⟩
  ·cases e1
  ·obtain⟨b,zs,p1,p2,p3,p4,p5⟩:=s.ow j m h
   exact⟨b,zs,p1,p2,p3,by rw[Yab (fun z=>by rw[z,q7]at p4;cases p4;exact nl _ rfl)];exact p4,p5⟩
 ·rcases Yp h1 with⟨rfl,e1,_⟩ | ⟨hj,h1⟩
  ·cases e1
  ·rcases Yp h2 with⟨rfl,e1,_⟩ | ⟨hk,h2⟩
   ·cases e1
   ·exact s.ap j k m m' b c h1 h2 h3 h4 h5
 ·rcases Yp h with⟨rfl,e1,_⟩ | ⟨hj,h⟩
  ·cases e1
   exact⟨a,kxs,vxs,ha,q2,q3,d,r1,r2⟩
  ·obtain⟨b,kx,vx,p1,p2,p3,p4,p5⟩:=s.od j ta ka va h
   exact⟨b,kx,vx,p1,p2,p3,p4.mono (Same.refl _) fun o q=>by rw[Yab (s.apd j i _ _ _ _ _ _ b a h hi hj p1 ha)];exact q,p5⟩
 ·have old:∀(j:Nat) t2 k2 v2,(ρ.set i (some (.od t' ks' vs')))[j]?=some (some (B.od t2 k2 v2))->∃t3 k3 v3,ρ[j]?=some (some (B.od t3 k3 v3)):=fun j t2 k2 v2 h=>by
   rcases Yp h with⟨rfl,_,_⟩ | ⟨_,h⟩
   ·exact⟨_,_,_,hi⟩
   ·exact⟨_,_,_,h⟩
  obtain⟨t1,k1,v1,e1⟩:=old j _ _ _ h1
  obtain⟨t2,k2,v2,e2⟩:=old k _ _ _ h2
  exact s.apd j k t1 k1 v1 t2 k2 v2 b c e1 e2 h3 h4 h5
theorem SR.freezeT(s:SR K H0 G0 σ H G ρ){i:Nat}{l:List D}(hi:ρ[i]?=some (some (B.ow l))):∃G',SR K H0 G0 σ H G' (ρ.set i (some (.sh (.lst l))))/\∀b ys,G' b=some (.tup ys)->G b=some (.tup ys):=by
 obtain⟨a,xs,q1,q2,q3,q4,q5⟩:=s.ow i l hi
 have hl:i < ρ.length:=(qo hi).1
 have sm:Same G (upd G a (.lst xs)):=fun b o e=>by rw[Yab (y0 e q2)];exact e
 refine⟨upd G a (.lst xs),?_,fun b ys e=>by
  by_cases z:b=a
  ·subst z;rw[Yw]at e;cases e
  ·rw[Yab z]at e;exact e⟩
 refine⟨⟨s.gr.h,s.gr.g.trans sm,fun b o e=>?_,fun b h h'=>?_⟩,by simp[s.len],fun j e h=>?_,fun j m h=>?_,fun j k m m' b c h1 h2 h3 h4 h5=>?_,fun j t ks vs h=>?_,fun j k t ks vs t' ks' vs' b c h1 h2 h3 h4 h5=>?_⟩
 ·by_cases z:b=a
  ·subst z;rw[Yw]at e;rw[q4];exact e
  ·rw[Yab z]at e;exact s.gr.s b o e
 ·by_cases z:b=a
  ·subst z;exact q3
  ·rw[Yab z]at h';exact s.gr.n b h h'
 ·rcases Yp h with⟨rfl,e1,_⟩ | ⟨hj,h⟩
  ·cases e1
   exact⟨_,q1,by rw[Rp];exact⟨a,xs,rfl,.inl Yw,q5.mono sm⟩⟩
  ·obtain⟨v,p1,p2⟩:=s.sh j e h
   exact⟨v,p1,p2.mono sm⟩
 ·rcases Yp h with⟨rfl,e1,_⟩ | ⟨hj,h⟩
  ·cases e1
  ·obtain⟨b,zs,p1,p2,p3,p4,p5⟩:=s.ow j m h
   exact⟨b,zs,p1,by rw[Yab (s.ap j i m l b a h hi hj p1 q1)];exact p2,p3,p4,p5.mono sm⟩
 ·rcases Yp h1 with⟨rfl,e1,_⟩ | ⟨hj,h1⟩
  ·cases e1
  ·rcases Yp h2 with⟨rfl,e1,_⟩ | ⟨hk,h2⟩
   ·cases e1
   ·exact s.ap j k m m' b c h1 h2 h3 h4 h5
 ·rcases Yp h with⟨rfl,e1,_⟩ | ⟨hj,h⟩
  ·cases e1
  ·obtain⟨b,kxs,vxs,p1,p2,p3,p4,p5,p6⟩:=s.od j t ks vs h
   obtain⟨o',q',nl⟩:=p4.some
   exact⟨b,kxs,vxs,p1,by rw[Yab (fun z=>by rw[z,q4]at q';cases q';exact nl _ rfl)];exact p2,p3,p4.mono sm fun _ z=>z,p5.mono sm,p6.mono sm⟩
 ·rcases Yp h1 with⟨rfl,e1,_⟩ | ⟨hj,h1⟩
  ·cases e1
  ·rcases Yp h2 with⟨rfl,e1,_⟩ | ⟨hk,h2⟩
   ·cases e1
   ·exact s.apd j k t ks vs t' ks' vs' b c h1 h2 h3 h4 h5
theorem SR.freeze(s:SR K H0 G0 σ H G ρ){i:Nat}{l:List D}(hi:ρ[i]?=some (some (B.ow l))):∃G',SR K H0 G0 σ H G' (ρ.set i (some (.sh (.lst l)))):=by
 obtain⟨G',h,_⟩:=s.freezeT hi
 exact⟨G',h⟩
theorem SR.freezedT(s:SR K H0 G0 σ H G ρ){i:Nat}{t:Bool}{ks vs:List D}(hi:ρ[i]?=some (some (B.od t ks vs))):∃G',SR K H0 G0 σ H G' (ρ.set i (some (.sh (.dct t ks vs))))/\∀b ys,G' b=some (.tup ys)->G b=some (.tup ys):=by
 obtain⟨a,kxs,vxs,q1,q2,q3,q4,q5,q6⟩:=s.od i t ks vs hi
 obtain⟨o,q7,nl⟩:=q4.some
 have hl:i < ρ.length:=(qo hi).1
 have sm:Same G (upd G a o):=fun b o e=>by rw[Yab (y0 e q2)];exact e
 obtain⟨oT,q8,nt⟩:=q4.someT
 rw[q7]at q8
 cases q8
 refine⟨upd G a o,?_,fun b ys e=>by
  by_cases z:b=a
  ·subst z;rw[Yw]at e;cases e;exact absurd rfl (nt _)
  ·rw[Yab z]at e;exact e⟩
 refine⟨⟨s.gr.h,s.gr.g.trans sm,fun b o' e=>?_,fun b h h'=>?_⟩,by simp[s.len],fun j e h=>?_,fun j m h=>?_,fun j k m m' b c h1 h2 h3 h4 h5=>?_,fun j t ks vs h=>?_,fun j k t ks vs t' ks' vs' b c h1 h2 h3 h4 h5=>?_⟩
 ·by_cases z:b=a
  ·subst z;rw[Yw]at e;rw[q7];exact e
  ·rw[Yab z]at e;exact s.gr.s b o' e
 ·by_cases z:b=a
  ·subst z;exact q3
  ·rw[Yab z]at h';exact s.gr.n b h h'
 ·rcases Yp h with⟨rfl,e1,_⟩ | ⟨hj,h⟩
  ·cases e1
   refine⟨_,q1,?_⟩
   rw[Rp]
   refine⟨a,kxs,vxs,rfl,q4.mono sm fun o' z=>?_,q5.mono sm,q6.mono sm⟩
   rw[q7]at z
   rw[Yw];exact z
  ·obtain⟨v,p1,p2⟩:=s.sh j e h
   exact⟨v,p1,p2.mono sm⟩
 ·rcases Yp h with⟨rfl,e1,_⟩ | ⟨hj,h⟩
  ·cases e1
  ·obtain⟨b,zs,p1,p2,p3,p4,p5⟩:=s.ow j m h
   exact⟨b,zs,p1,by rw[Yab (fun z=>by rw[z,q7]at p4;cases p4;exact nl _ rfl)];exact p2,p3,p4,p5.mono sm⟩
 ·rcases Yp h1 with⟨rfl,e1,_⟩ | ⟨hj,h1⟩
  ·cases e1
  ·rcases Yp h2 with⟨rfl,e1,_⟩ | ⟨hk,h2⟩
   ·cases e1
   ·exact s.ap j k m m' b c h1 h2 h3 h4 h5
 ·rcases Yp h with⟨rfl,e1,_⟩ | ⟨hj,h⟩
  ·cases e1
  ·obtain⟨b,kx,vx,p1,p2,p3,p4,p5,p6⟩:=s.od j t ks vs h
   exact⟨b,kx,vx,p1,by rw[Yab (s.apd j i _ _ _ _ _ _ b a h hi hj p1 q1)];exact p2,p3,p4.mono sm fun _ z=>z,p5.mono sm,p6.mono sm⟩
 ·rcases Yp h1 with⟨rfl,e1,_⟩ | ⟨hj,h1⟩
  ·cases e1
  ·rcases Yp h2 with⟨rfl,e1,_⟩ | ⟨hk,h2⟩
   ·cases e1
   ·exact s.apd j k t ks vs t' ks' vs' b c h1 h2 h3 h4 h5
theorem SR.freezed(s:SR K H0 G0 σ H G ρ){i:Nat}{t:Bool}{ks vs:List D}(hi:ρ[i]?=some (some (B.od t ks vs))):∃G',SR K H0 G0 σ H G' (ρ.set i (some (.sh (.dct t ks vs)))):=by
 obtain⟨G',h,_⟩:=s.freezedT hi
 exact⟨G',h⟩
def Le(ρ ρ':Ro):Prop:=ρ.length=ρ'.length/\∀(i:Nat) b,ρ[i]?=some (some b)->ρ'[i]?=some (some b)
theorem SR.le{ρ':Ro}(s:SR K H0 G0 σ H G ρ')(h:Le ρ ρ'):SR K H0 G0 σ H G ρ:=
 ⟨s.gr,s.len.trans h.1.symm,fun i d e=>s.sh i d (h.2 i _ e),fun i l e=>s.ow i l (h.2 i _ e),fun i j l l' a b e1 e2=>s.ap i j l l' a b (h.2 i _ e1) (h.2 j _ e2),
  fun i t ks vs e=>s.od i t ks vs (h.2 i _ e),fun i j t ks vs t' ks' vs' a b e1 e2=>s.apd i j t ks vs t' ks' vs' a b (h.2 i _ e1) (h.2 j _ e2)⟩
theorem SR.rebase(s:SR K H0 G0 σ H G ρ):∃H1,SR K H1 G σ H G ρ/\∀σ' H' G' ρ',SR K H1 G σ' H' G' ρ'->SR K H0 G0 σ' H' G' ρ':=by
 classical
 let own:Addr->Prop:=fun a=>∃(i:Nat),((∃l:List D,ρ[i]?=some (some (B.ow l)))\/(∃t ks vs,ρ[i]?=some (some (B.od t ks vs))))/\σ[i]?=some (some (V.ref a))
 have h0:∀a,own a->H0 a=none:=fun a hx_=>by
  obtain⟨i,e1,e2⟩:=hx_
  rcases e1 with⟨l,e1⟩ | ⟨t,ks,vs,e1⟩
  ·obtain⟨b,xs,q1,_,q3,_⟩:=s.ow i l e1
   rw[e2]at q1;cases q1;exact q3
  ·obtain⟨b,kxs,vxs,q1,_,q3,_⟩:=s.od i t ks vs e1
   rw[e2]at q1;cases q1;exact q3
 have back:∀a,(if own a then (none:Option HO)else H a)=none->H0 a=none:=fun a h=>by
  by_cases o:own a
  ·exact h0 a o
  ·rw[if_neg o]at h;exact s.gr.h.free h
 refine⟨fun a=>if own a then none else H a,⟨⟨fun b o e=>?_,Same.refl _,s.gr.s,fun _ h h'=>absurd h h'⟩,s.len,s.sh,fun i l e=>?_,s.ap,fun i t ks vs e=>?_,s.apd⟩,fun σ' H' G' ρ' t=>⟨⟨fun b o e=>?_,s.gr.g.trans t.gr.g,t.gr.s,fun b h h'=>?_⟩,t.len,t.sh,fun i l e=>?_,t.ap,fun i t1 ks vs e=>?_,t.apd⟩⟩
 ·by_cases z:own b
  ·simp only[if_pos z]at e;cases e
  ·simp only[if_neg z]at e;exact e
 ·obtain⟨a,xs,q1,q2,q3,q4,q5⟩:=s.ow i l e
  exact⟨a,xs,q1,q2,if_pos ⟨i,.inl ⟨l,e⟩,q1⟩,q4,q5⟩
 ·obtain⟨a,kxs,vxs,q1,q2,q3,q4⟩:=s.od i t ks vs e
  exact⟨a,kxs,vxs,q1,q2,if_pos ⟨i,.inr ⟨t,ks,vs,e⟩,q1⟩,q4⟩
 ·refine t.gr.h b o ?_
  have z:¬own b:=fun z=>by rw[h0 b z]at e;cases e
  show(if own b then none else H b)=some o
  rw[if_neg z];exact s.gr.h b o e
 ·by_cases z:G b=none
  ·exact back b (t.gr.n b z h')
  ·exact s.gr.n b h z
 ·obtain⟨a,xs,q1,q2,q3,q4,q5⟩:=t.ow i l e
  exact⟨a,xs,q1,q2,back a q3,q4,q5⟩
 ·obtain⟨a,kxs,vxs,q1,q2,q3,q4⟩:=t.od i t1 ks vs e
  exact⟨a,kxs,vxs,q1,q2,back a q3,q4⟩
end
def tOf(K:W.Frag)(f:Ro->Option D):TE:=fun σ H Q=>∃ρ d H0 G0 G,f ρ=some d/\SR K H0 G0 σ H G ρ/\∀v H' G',Gr H G H' G'->Rp K G' d v->Q v H'
def tCof(K:W.Frag)(f:Ro->Option D):TE:=fun σ H Q=>∃ρ d H0 G0 G,f ρ=some d/\SR K H0 G0 σ H G ρ/\∀v H' G',Gr H G H' G'->Ct K G' H' d v->Q v H'
def tCAof(K:W.Frag)(f:Ro->Option (List D)):TA:=fun σ H Q=>∃ρ l H0 G0 G,f ρ=some l/\SR K H0 G0 σ H G ρ/\∀vs H' G',Gr H G H' G'->CtL K G' H' l vs->Q vs H'
def tFof(K:W.Frag)(f:Ro->Option (List D)):TE:=fun σ H Q=>∃ρ l H0 G0 G,f ρ=some l/\SR K H0 G0 σ H G ρ/\∀p xs H' G',Gr H G H' G'->H p=none->G' p=none->H' p=some (.lst xs)->RpL K G' l xs->Q (.ref p) H'
def tTof(K:W.Frag)(f:Ro->Option Bool):TT:=fun σ H Q=>∃ρ b H0 G0 G,f ρ=some b/\SR K H0 G0 σ H G ρ/\∀H' G',Gr H G H' G'->Q b H'
def tAof(K:W.Frag)(f:Ro->Option (List D)):TA:=fun σ H Q=>∃ρ l H0 G0 G,f ρ=some l/\SR K H0 G0 σ H G ρ/\∀vs H' G',Gr H G H' G'->RpL K G' l vs->Q vs H'
def Wk(K:W.Frag)(J:It)(G':Hp)(ds:List D):Prop:=ds.length<=sizeLine/\∀(i:Nat) H2 G2,Same G' G2->Same G2 H2->
 (∀d,ds[i]?=some d->J.go i H2/\∀y H3,J.yld i H2 y H3->∃G3,Gr H2 G2 H3 G3/\Rp K G3 d y)/\(ds.length<=i->J.stop i H2)
def tIof(K:W.Frag)(f:Ro->Option (List D)):TI:=fun σ H R=>∃ρ ds H0 G0 G,f ρ=some ds/\SR K H0 G0 σ H G ρ/\∀J H' G',Gr H G H' G'->Wk K J G' ds->R J H'
inductive Out where
 | nx (ρ:Ro) | rt (d:D) | bk (ρ:Ro) | ct (ρ:Ro)
def Cont(K:W.Frag)(H0 G0:Hp)(F:Ends):Out->Prop
 | .nx ρ'=>∀σ' H' G',SR K H0 G0 σ' H' G' ρ'->F.nx σ' H'
 | .rt d=>∀v H' G',Gr H0 G0 H' G'->Rp K G' d v->F.rt v H'
 | .bk ρ'=>∀σ' H' G',SR K H0 G0 σ' H' G' ρ'->F.bk σ' H'
 | .ct ρ'=>∀σ' H' G',SR K H0 G0 σ' H' G' ρ'->F.ct σ' H'
def sOf(K:W.Frag)(f:Ro->Option Out):TS:=fun F σ H=>∃ρ out H0 G0 G,f ρ=some out/\SR K H0 G0 σ H G ρ/\Cont K H0 G0 F out
def gOf(K:W.Frag)(gt:D->Ro->Option Ro):TG:=fun v σ H Q=>∃d ρ ρ' H0 G0 G,gt d ρ=some ρ'/\SR K H0 G0 σ H G ρ/\Rp K G d v/\∀σ',SR K H0 G0 σ' H G ρ'->Q σ' H
abbrev ME(X:Cx)(e:Expr)(f:Ro->Option D):Prop:=PE X e (tOf X.K f)
abbrev MC(X:Cx)(e:Expr)(f:Ro->Option D):Prop:=PE X e (tCof X.K f)
abbrev MCA(X:Cx)(es:List Expr)(f:Ro->Option (List D)):Prop:=PA X es (tCAof X.K f)
abbrev MF(X:Cx)(e:Expr)(f:Ro->Option (List D)):Prop:=PE X e (tFof X.K f)
abbrev MT(X:Cx)(e:Expr)(f:Ro->Option Bool):Prop:=PT X e (tTof X.K f)
abbrev MA(X:Cx)(es:List Expr)(f:Ro->Option (List D)):Prop:=PA X es (tAof X.K f)
abbrev MI(X:Cx)(tg iter:Expr)(f:Ro->Option (List D)):Prop:=PI X tg iter (tIof X.K f)
abbrev MS(X:Cx)(st:Stmt)(f:Ro->Option Out):Prop:=PS X st (sOf X.K f)
abbrev MB(X:Cx)(sts:List Stmt)(f:Ro->Option Out):Prop:=PSs X sts (sOf X.K f)
abbrev MG(X:Cx)(tg:Expr)(gt:D->Ro->Option Ro):Prop:=PG X tg (gOf X.K gt)
section
variable {X:Cx}
theorem PE.imp{e:Expr}{t t':TE}(h:PE X e t)(i:∀σ H Q,t' σ H Q->t σ H Q):PE X e t':=fun pins s σ H Q I hw=>h pins s σ H Q I (i σ H Q hw)
theorem PT.imp{e:Expr}{t t':TT}(h:PT X e t)(i:∀σ H Q,t' σ H Q->t σ H Q):PT X e t':=fun pins s σ H Q I hw=>h pins s σ H Q I (i σ H Q hw)
theorem PA.imp{es:List Expr}{t t':TA}(h:PA X es t)(i:∀σ H Q,t' σ H Q->t σ H Q):PA X es t':=fun pos pins s σ H Q I hw=>h pos pins s σ H Q I (i σ H Q hw)
theorem PS.imp{st:Stmt}{t t':TS}(h:PS X st t)(i:∀F σ H,t' F σ H->t F σ H):PS X st t':=fun pins s σ H F I hw=>h pins s σ H F I (i F σ H hw)
theorem PSs.imp{st:List Stmt}{t t':TS}(h:PSs X st t)(i:∀F σ H,t' F σ H->t F σ H):PSs X st t':=fun pins s σ H F I hw=>h pins s σ H F I (i F σ H hw)
theorem PI.imp{tg e:Expr}{t t':TI}(h:PI X tg e t)(i:∀σ H R,t' σ H R->t σ H R):PI X tg e t':=fun pins s σ H R I hw=>h pins s σ H R I (i σ H R hw)
theorem PG.imp{e:Expr}{t t':TG}(h:PG X e t)(i:∀v σ H Q,t' v σ H Q->t v σ H Q):PG X e t':=fun pins s σ H v u Q I r hw=>h pins s σ H v u Q I r (i v σ H Q hw)
variable {H0 G0 H G:Hp} {σ:L2.St} {ρ:Ro}
theorem tOf.at{f:Ro->Option D}{d:D}{Q:VK}(e:f ρ=some d)(s:SR K H0 G0 σ H G ρ)(h:∀v H' G',Gr H G H' G'->Rp K G' d v->SR K H0 G0 σ H' G' ρ->Q v H'):tOf K f σ H Q:=
 ⟨ρ,d,H0,G0,G,e,s,fun v H' G' g r=>h v H' G' g r (s.grow g)⟩
theorem tCof.at{f:Ro->Option D}{d:D}{Q:VK}(e:f ρ=some d)(s:SR K H0 G0 σ H G ρ)(h:∀v H' G',Gr H G H' G'->Ct K G' H' d v->SR K H0 G0 σ H' G' ρ->Q v H'):tCof K f σ H Q:=
 ⟨ρ,d,H0,G0,G,e,s,fun v H' G' g r=>h v H' G' g r (s.grow g)⟩
theorem tCAof.at{f:Ro->Option (List D)}{l:List D}{Q:List V->Hp->Prop}(e:f ρ=some l)(s:SR K H0 G0 σ H G ρ)(h:∀vs H' G',Gr H G H' G'->CtL K G' H' l vs->SR K H0 G0 σ H' G' ρ->Q vs H'):tCAof K f σ H Q:=
 ⟨ρ,l,H0,G0,G,e,s,fun v H' G' g r=>h v H' G' g r (s.grow g)⟩
theorem ME.mc{e:Expr}{f:Ro->Option D}(h:ME X e f):MC X e f:=PE.imp h fun σ H Q ⟨ρ,d,H0,G0,G,e,s,h⟩=>⟨ρ,d,H0,G0,G,e,s,fun v H' G' g r=>h v H' G' g (.of g.s r)⟩
theorem tTof.at{f:Ro->Option Bool}{b:Bool}{Q:Bool->Hp->Prop}(e:f ρ=some b)(s:SR K H0 G0 σ H G ρ)(h:∀H' G',Gr H G H' G'->SR K H0 G0 σ H' G' ρ->Q b H'):tTof K f σ H Q:=
 ⟨ρ,b,H0,G0,G,e,s,fun H' G' g=>h H' G' g (s.grow g)⟩
theorem tAof.at{f:Ro->Option (List D)}{l:List D}{Q:List V->Hp->Prop}(e:f ρ=some l)(s:SR K H0 G0 σ H G ρ)(h:∀vs H' G',Gr H G H' G'->RpL K G' l vs->SR K H0 G0 σ H' G' ρ->Q vs H'):tAof K f σ H Q:=
 ⟨ρ,l,H0,G0,G,e,s,fun v H' G' g r=>h v H' G' g r (s.grow g)⟩
end
end
section
variable {K:W.Frag}
def b2{α:Type}(fa fb:Ro->Option D)(g:D->D->Option α):Ro->Option α:=fun ρ=>(fa ρ).bind fun x=>(fb ρ).bind fun y=>g x y
def b1{α:Type}(fa:Ro->Option D)(g:D->Option α):Ro->Option α:=fun ρ=>(fa ρ).bind g
theorem Yke{α:Type}{fa fb:Ro->Option D}{g:D->D->Option α}{ρ:Ro}{r:α}(h:b2 fa fb g ρ=some r):∃x y,fa ρ=some x/\fb ρ=some y/\g x y=some r:=by
 unfold b2 at h
 obtain⟨x,h1,h⟩:=qa h
 obtain⟨y,h2,h⟩:=qa h
 exact⟨x,y,h1,h2,h⟩
theorem Ycr{α:Type}{fa:Ro->Option D}{g:D->Option α}{ρ:Ro}{r:α}(h:b1 fa g ρ=some r):∃x,fa ρ=some x/\g x=some r:=by
 unfold b1 at h
 obtain⟨x,h1,h⟩:=qa h
 exact⟨x,h1,h⟩
def Sem2(K:W.Frag)(r:R2)(g:D->D->Option D):Prop:=∀(x y:V) (dx dy d:D) (H G:Hp) (Q:VK),g dx dy=some d->Same G H->Ct K G H dx x->Ct K G H dy y->(∀v H' G',Gr H G H' G'->Rp K G' d v->Q v H')->r x y H Q
def Yio(K:W.Frag)(r:R2)(g:D->D->Option Bool):Prop:=∀(x y:V) (dx dy:D) (b:Bool) (H G:Hp) (Q:VK),g dx dy=some b->Same G H->Ct K G H dx x->Ct K G H dy y->Q (.bl b) H->r x y H Q
def SemC(K:W.Frag)(r:List V->Hp->VK->Prop)(g:List D->Option D):Prop:=∀(vs:List V) (ds:List D) (d:D) (H G:Hp) (Q:VK),g ds=some d->Same G H->CtL K G H ds vs->(∀v H' G',Gr H G H' G'->Rp K G' d v->Q v H')->r vs H Q
def SemF(K:W.Frag)(r:List V->Hp->VK->Prop)(g:List D->Option (List D)):Prop:=∀(vs:List V) (ds l:List D) (H G:Hp) (Q:VK),g ds=some l->Same G H->CtL K G H ds vs->
 (∀p xs H' G',Gr H G H' G'->H p=none->G' p=none->H' p=some (.lst xs)->RpL K G' l xs->Q (.ref p) H')->r vs H Q
section
variable {X:Cx} {a b c e:Expr} {es:List Expr} {fa fb fc f:Ro->Option D} {ga:Ro->Option (List D)} {pos:Pos}
def getV(i:Nat):Ro->Option D:=fun ρ=>match ρ[i]? with
 | some (some (B.sh d))=>some d
 | _=>none
def getO(i:Nat):Ro->Option (List D):=fun ρ=>match ρ[i]? with
 | some (some (B.ow l))=>some l
 | _=>none
theorem Yps{i:Nat}{ρ:Ro}{d:D}(h:getV i ρ=some d):ρ[i]?=some (some (B.sh d)):=by
 unfold getV at h
 split at h
 ·cases h;assumption
 ·cases h
theorem Ykf{i:Nat}{ρ:Ro}{l:List D}(h:getO i ρ=some l):ρ[i]?=some (some (B.ow l)):=by
 unfold getO at h
 split at h
 ·cases h;assumption
 ·cases h
theorem y67(i:Nat){x:Str}(hN:X.N[i]?=some x:=by rfl)(hv:Vis X.env.scope x:=by first | exact Or.inl rfl | exact Or.inr (Or.inl rfl) | exact Or.inr (Or.inr rfl))(hd:(x==("__debug__":Str))=false:=by decide)
 (hcd:(x==("__classdict__":Str))=false:=by decide):ME X (.Name x pos) (getV i):=
 PE.imp (Yme hN hv hd hcd) fun σ H Q hx_=>by
  obtain⟨ρ,d,H0,G0,G,e,s,h⟩:=hx_
  obtain⟨v,h1,h2⟩:=s.sh i d (Yps e)
  exact⟨v,h1,h v H G (.refl s.seen) h2⟩
def getC(i:Nat):Ro->Option D:=fun ρ=>match ρ[i]? with
 | some (some (B.sh d))=>some d
 | some (some (B.ow l))=>some (.lst l)
 | some (some (B.od t ks vs))=>some (.dct t ks vs)
 | _=>none
theorem y68(i:Nat){x:Str}(hN:X.N[i]?=some x:=by rfl)(hv:Vis X.env.scope x:=by first | exact Or.inl rfl | exact Or.inr (Or.inl rfl) | exact Or.inr (Or.inr rfl))(hd:(x==("__debug__":Str))=false:=by decide)
 (hcd:(x==("__classdict__":Str))=false:=by decide):MC X (.Name x pos) (getC i):=
 PE.imp (Yme hN hv hd hcd) fun σ H Q hx_=>by
  obtain⟨ρ,d,H0,G0,G,e,s,h⟩:=hx_
  unfold getC at e
  split at e
  ·rename_i d' hd'
   cases e
   obtain⟨v,h1,h2⟩:=s.sh i _ hd'
   exact⟨v,h1,h v H G (.refl s.seen) (.of s.seen h2)⟩
  ·rename_i l hl
   cases e
   obtain⟨a,xs,h1,h2,h3,h4,h5⟩:=s.ow i l hl
   exact⟨_,h1,h _ H G (.refl s.seen) (by rw[Ct];exact⟨a,xs,rfl,.inl h4,h5⟩)⟩
  ·rename_i t ks vs hl
   cases e
   obtain⟨a,kxs,vxs,h1,h2,h3,h4,h5⟩:=s.od i t ks vs hl
   exact⟨_,h1,h _ H G (.refl s.seen) (by rw[Ct];exact⟨a,kxs,vxs,rfl,h4,h5⟩)⟩
  ·cases e
def kD(d:D):Ro->Option D:=fun _=>some d
theorem Yj3{v:V}{d:D}{t:TE}(h:PE X e t)(ht:∀σ H Q,Q v H->t σ H Q)(hr:∀G,Rp X.K G d v):ME X e (kD d):=
 PE.imp h fun σ H Q hx_=>by
  obtain⟨ρ,d',H0,G0,G,e,s,h⟩:=hx_
  cases e
  exact ht σ H Q (h v H G (.refl s.seen) (hr G))
theorem y2f{i:Int}{j}:ME X (.Constant (.int i) j pos) (kD (.int i)):=Yj3 (v:=.int i) y57 (fun _ _ _ q=>q) fun _=>by rw[Rp]
theorem y96{k:Bool}{j}:ME X (.Constant (.bool k) j pos) (kD (.bl k)):=Yj3 (v:=.bl k) y9n (fun _ _ _ q=>q) fun _=>by rw[Rp]
theorem y69{j}:ME X (.Constant .none j pos) (kD .non):=Yj3 (v:=.non) y58 (fun _ _ _ q=>q) fun _=>by rw[Rp]
theorem y7a{x:Str}{j}(hx:PyData.strOk x=true:=by decide +kernel):ME X (.Constant (.str x) j pos) (kD (.str x)):=Yj3 (v:=.str x) y59 (fun _ _ _ q=>q) fun _=>by rw[Rp];exact⟨rfl,hx⟩
theorem y2g{r:R2}{g:D->D->Option D}(hr:Sem2 K r g){σ:L2.St}{H:Hp}{Q:VK}(h:tOf K (b2 fa fb g) σ H Q):tOp r (tCof K fa) (tCof K fb) σ H Q:=by
 obtain⟨ρ,d,H0,G0,G,e,s,h⟩:=h
 obtain⟨dx,dy,h1,h2,h3⟩:=Yke e
 exact tCof.at h1 s fun v H1 G1 g1 r1 s1=>tCof.at h2 s1 fun u H2 G2 g2 r2 s2=>hr v u dx dy d H2 G2 Q h3 s2.seen (r1.grow g2) r2 fun w H' G' g3 r3=>h w H' G' ((g1.trans g2).trans g3) r3
theorem y35{r:R2}{g:D->D->Option Bool}(hr:Yio K r g){σ:L2.St}{H:Hp}{Q:Bool->Hp->Prop}(h:tTof K (b2 fa fb g) σ H Q):y6t (tOp r (tCof K fa) (tCof K fb)) σ H Q:=by
 obtain⟨ρ,d,H0,G0,G,e,s,h⟩:=h
 obtain⟨dx,dy,h1,h2,h3⟩:=Yke e
 exact tCof.at h1 s fun v H1 G1 g1 r1 s1=>tCof.at h2 s1 fun u H2 G2 g2 r2 s2=>hr v u dx dy d H2 G2 _ h3 s2.seen (r1.grow g2) r2 ⟨d,rfl,h H2 G2 (g1.trans g2)⟩
def mB(f:Ro->Option Bool):Ro->Option D:=fun ρ=>(f ρ).map D.bl
theorem Ywm{f:Ro->Option Bool}{ρ:Ro}{d:D}(h:mB f ρ=some d):∃b,f ρ=some b/\d=.bl b:=by
 unfold mB at h
 obtain⟨b,h1,h2⟩:=qc h
 exact⟨b,h1,h2.symm⟩
theorem y0j{r:R2}{g:D->D->Option Bool}(hr:Yio K r g){σ:L2.St}{H:Hp}{Q:VK}(h:tOf K (mB (b2 fa fb g)) σ H Q):tOp r (tCof K fa) (tCof K fb) σ H Q:=by
 obtain⟨ρ,d,H0,G0,G,e,s,h⟩:=h
 obtain⟨b,eb,rfl⟩:=Ywm e
 obtain⟨dx,dy,h1,h2,h3⟩:=Yke eb
 exact tCof.at h1 s fun v H1 G1 g1 r1 s1=>tCof.at h2 s1 fun u H2 G2 g2 r2 s2=>hr v u dx dy b H2 G2 _ h3 s2.seen (r1.grow g2) r2 (h _ H2 G2 (g1.trans g2) (by rw[Rp]))
theorem Yml{op:Operator}{r:R2}{g:D->D->Option D}(ho:OpR X (binaryOp op) r)(hr:Sem2 X.K r g)(ha:MC X a fa)(hb:MC X b fb):ME X (.BinOp a op b pos) (b2 fa fb g):=PE.imp (y3h ho ha hb) fun _ _ _ h=>y2g hr h
theorem Yhn{op:CmpOp}{r:R2}{g:D->D->Option Bool}(ho:OpR X (compareOp op) r)(hr:Yio X.K r g)(ha:MC X a fa)(hb:MC X b fb)(hm:behindInMarks op b=false):ME X (.Compare a [op] [b] pos) (mB (b2 fa fb g)):=PE.imp (y3j ho ha hb hm) fun _ _ _ h=>y0j hr h
theorem Yfv{op:CmpOp}{r:R2}{g:D->D->Option Bool}(ho:OpR X (compareOp op) r)(hr:Yio X.K r g)(ha:MC X a fa)(hb:MC X b fb)(hm:behindInMarks op b=false):MT X (.Compare a [op] [b] pos) (b2 fa fb g):=PT.imp (y3k ho ha hb hm) fun _ _ _ h=>y35 hr h
theorem y36{r:R2}{g:D->D->Option D}(hi:IxR X r)(hr:Sem2 X.K r g)(ha:MC X a fa)(hb:MC X b fb)(hs:Yen b):ME X (.Subscript a b pos) (b2 fa fb g):=PE.imp (y94 hi ha hb hs) fun _ _ _ h=>y2g hr h
def i2(C:Int->Int->Bool)(g:Int->Int->Int):D->D->Option D
 | .int i,.int j=>if C i j=true then some (.int (g i j))else none
 | _,_=>none
def i2b(g:Int->Int->Bool):D->D->Option Bool
 | .int i,.int j=>some (g i j)
 | _,_=>none
theorem Ytg{C:Int->Int->Prop}{Cb:Int->Int->Bool}(hC:∀i j,Cb i j=true->C i j){g:Int->Int->Int}:Sem2 K (rI C fun i j=>.int (g i j)) (i2 Cb g):=by
 intro x y dx dy d H G Q h s rx ry q
 unfold i2 at h
 split at h
 ·split at h
  ·rename_i i j hc
   cases h
   rw[Ct]at rx ry
   subst rx;subst ry
   exact⟨i,j,rfl,rfl,hC i j hc,q _ H G (.refl s) (by rw[Rp])⟩
  ·cases h
 ·cases h
theorem Ywn{g:Int->Int->Int}:Sem2 K (rI0 fun i j=>.int (g i j)) (i2 (fun _ _=>true) g):=by
 intro x y dx dy d H G Q h s rx ry q
 unfold i2 at h
 split at h
 ·split at h
  ·rename_i i j hc
   cases h
   rw[Ct]at rx ry
   subst rx;subst ry
   exact⟨i,j,rfl,rfl,q _ H G (.refl s) (by rw[Rp])⟩
  ·cases h
 ·cases h
theorem Yne{g:Int->Int->Bool}:Yio K (rI0 fun i j=>.bl (g i j)) (i2b g):=by
 intro x y dx dy d H G Q h s rx ry q
 unfold i2b at h
 split at h
 ·rename_i i j
  cases h
  rw[Ct]at rx ry
  subst rx;subst ry
  exact⟨i,j,rfl,rfl,q⟩
 ·cases h
def addI:D->D->Option D:=i2 (fun _ _=>true) fun i j=>i+j
def subI:D->D->Option D:=i2 (fun _ _=>true) fun i j=>i - j
def mulI:D->D->Option D:=i2 (fun i j=>(decide (-(2 ^ 64) < i)&&decide (i < 2 ^ 64))||(decide (-(2 ^ 64) < j)&&decide (j < 2 ^ 64))) fun i j=>i * j
def divI:D->D->Option D:=i2 (fun _ j=>decide (0 < j)&&decide (j < 1073741824)) fun i j=>i / j
def modI:D->D->Option D:=i2 (fun _ j=>decide (0 < j)) fun i j=>i % j
theorem y7b(ha:MC X a fa)(hb:MC X b fb):ME X (.BinOp a .Sub b pos) (b2 fa fb subI):=Yml y6m Ywn ha hb
theorem y7c(ha:MC X a fa)(hb:MC X b fb):ME X (.BinOp a .Mult b pos) (b2 fa fb mulI):=Yml y6n (Ytg fun i j h=>by
 simp only[Bool.or_eq_true,Qf,decide_eq_true_eq]at h
 exact h) ha hb
theorem y7d(ha:MC X a fa)(hb:MC X b fb):ME X (.BinOp a .FloorDiv b pos) (b2 fa fb divI):=Yml y3i (Ytg fun i j h=>by
 simp only[Qf,decide_eq_true_eq]at h
 exact h) ha hb
theorem y7e(ha:MC X a fa)(hb:MC X b fb):ME X (.BinOp a .Mod b pos) (b2 fa fb modI):=Yml y6o (Ytg fun i j h=>of_decide_eq_true h) ha hb
def ltI:=i2b fun i j=>decide (i < j)
def gtI:=i2b fun i j=>decide (j < i)
theorem y97(ha:MC X a fa)(hb:MC X b fb):ME X (.Compare a [.Lt] [b] pos) (mB (b2 fa fb ltI)):=Yhn y6r Yne ha hb (Ye5 _)
theorem y98(ha:MC X a fa)(hb:MC X b fb):ME X (.Compare a [.Gt] [b] pos) (mB (b2 fa fb gtI)):=Yhn y6s Yne ha hb (Ye5 _)
theorem y99(ha:MC X a fa)(hb:MC X b fb):MT X (.Compare a [.Lt] [b] pos) (b2 fa fb ltI):=Yfv y6r Yne ha hb (Ye5 _)
theorem Yaaa(ha:MC X a fa)(hb:MC X b fb):MT X (.Compare a [.Gt] [b] pos) (b2 fa fb gtI):=Yfv y6s Yne ha hb (Ye5 _)
mutual
def dep:D->Nat
 | .tup l=>depL l+1
 | .lst l=>depL l+1
 | .scr _=>1
 | .dct _ _ _=>1000
 | _=>0
def depL:List D->Nat
 | []=>0
 | d::l=>max (dep d) (depL l)
end
mutual
theorem Ycs:∀d:D,(toPy d).depth<=dep d
 | .non=>by simp[toPy,PyData.depth,dep]
 | .bl b=>by simp[toPy,PyData.depth,dep]
 | .int b=>by simp[toPy,PyData.depth,dep]
 | .str b=>by simp[toPy,PyData.depth,dep]
 | .tup l=>by have:=Ydx l;simp[toPy,PyData.depth,dep];lia
 | .lst l=>by have:=Ydx l;simp[toPy,PyData.depth,dep];lia
 | .scr ns=>by rw[toPy,PyData.depth,dep,W.ke_depthAll];exact qu _
 | .dct _ _ _=>by simp[toPy,PyData.depth,dep]
theorem Ydx:∀l:List D,PyData.depthAll (Ydf l)<=depL l
 | []=>by simp[Ydf,PyData.depthAll,depL]
 | d::l=>by have h1:=Ycs d;have h2:=Ydx l;simp[Ydf,PyData.depthAll,depL];lia
end
section
variable {pins:List (Addr × Obj)} {σ:L2.St} {H:Hp} {s:Shared}
mutual
theorem Ydn(I:Inv X pins σ H s):∀{d:D} {v:V} {u:Value},dep d<=100->Rp X.K H d v->RelV v u->∃as,Reads s.heap u (toPy d) as/\(toPy d).canLay0=true
 | .non,v,u,_,r,q=>by
   rw[Rp]at r;subst r
   cases q
   exact⟨_,by rw[toPy];exact .none,by simp[toPy,PyData.canLay0]⟩
 | .bl b,v,u,_,r,q=>by
   rw[Rp]at r;subst r
   cases q
   exact⟨_,by rw[toPy];exact .bool b,by simp[toPy,PyData.canLay0]⟩
 | .int i,v,u,_,r,q=>by
   rw[Rp]at r;subst r
   obtain⟨t,rfl⟩:=q
   exact⟨_,by rw[toPy];exact .int i t,by simp[toPy,PyData.canLay0]⟩
 | .str x,v,u,_,r,q=>by
   rw[Rp]at r;obtain⟨rfl,hx⟩:=r
   obtain⟨t,rfl⟩:=q
   exact⟨_,by rw[toPy];exact .str x t,by simp[toPy,PyData.canLay0,hx]⟩
 | .tup l,v,u,hd,r,q=>by
   rw[Rp]at r
   obtain⟨a,xs,rfl,g,rl⟩:=r
   cases q
   obtain⟨_,its,rv,ht⟩:=(show ObjOk X.prog X.w H s.heap a (.tup xs) from I.hok a _ g)
   obtain⟨o,h1,h2,n,h3⟩:=ht
   obtain⟨as,q,hc⟩:=Ykg I (by simp only[dep]at hd;lia) rl rv
   exact⟨_,by rw[toPy];exact .tuple h1 h2 h3 (by simpa using q),by simpa [toPy,PyData.canLay0]using hc⟩
 | .lst l,v,u,hd,r,q=>by
   rw[Rp]at r
   obtain⟨a,xs,rfl,g,rl⟩:=r
   cases q
   obtain⟨its,rv,pl,_⟩:=I.list (.inl g)
   obtain⟨o,h1,h2,n,h3⟩:=pl.isList
   obtain⟨as,q,hc⟩:=Ykg I (by simp only[dep]at hd;lia) rl rv
   exact⟨_,by rw[toPy];exact .list h1 h2 h3 (by simpa using q),by simpa [toPy,PyData.canLay0]using hc⟩
 | .dct _ _ _,v,u,hd,r,q=>by simp[dep]at hd
 | .scr ns,v,u,_,r,q=>by
   rw[Rp]at r
   obtain⟨a,rfl,g⟩:=r
   cases q
   obtain⟨its,rv,pl,_⟩:=I.list g
   exact⟨_,by rw[toPy];exact W.reads_of_ints pl.isList (Ymh rv),by rw[toPy];simp[PyData.canLay0,W.ke_canLayAll0]⟩
theorem Ykg(I:Inv X pins σ H s):∀{l:List D} {xs:List V} {us:List Value},depL l<=100->RpL X.K H l xs->Vals xs us->∃as,ReadsAll s.heap us (Ydf l) as/\PyData.canLayAll0 (Ydf l)=true
 | [],xs,us,_,r,q=>by
   rw[RpL]at r;subst r
   cases q
   exact⟨_,by rw[Ydf];exact .nil,by simp[Ydf,PyData.canLayAll0]⟩
 | d::l,xs,us,hd,r,q=>by
   rw[RpL]at r
   obtain⟨x,xs,rfl,r1,r2⟩:=r
   rw[depL]at hd
   cases q with
   | cons q1 q2=>
     obtain⟨as,h1,h2⟩:=Ydn I (by lia) r1 q1
     obtain⟨bs,h3,h4⟩:=Ykg I (by lia) r2 q2
     exact⟨_,by rw[Ydf];exact .cons h1 h3,by simp[Ydf,PyData.canLayAll0,h2,h4]⟩
end
end
theorem Ye6(l:List D)(d:D):((Ydf l).any fun y=>PyData.eqv y (toPy d))=l.any fun y=>eqD y d:=by
 induction l with
 | nil=>simp[Ydf]
 | cons e l ih=>
   rw[Ydf,List.any_cons,List.any_cons,ih]
   rfl
def eqM(neg:Bool):D->D->Option Bool:=fun d e=>if dep d<=60/\dep e<=60 then some (if neg then !eqD d e else eqD d e)else none
def rEqD(K:W.Frag)(neg:Bool):R2:=fun x y H Q=>∃d e,Rp K H d x/\Rp K H e y/\(dep d<=60/\dep e<=60)/\Q (.bl (if neg then !eqD d e else eqD d e)) H
theorem y2h(hu:X.A.units+64 < cLine):OpR X (compareOp .Eq) (rEqD X.K false):=by
 intro pins s σ H x y v u Q I rx ry h
 obtain⟨d,e,r1,r2,hd,q⟩:=h
 obtain⟨as,h1,h2⟩:=Ydn I (by lia) r1 rx
 obtain⟨bs,h3,h4⟩:=Ydn I (by lia) r2 ry
 exact SeqAt.eqOverData X.prog X.w X.A X.xe s v u _ _ as bs _ h1 h3 h2 h4 (by have:=Ycs d;have:=Ycs e;lia) ⟨.bl _,H,I,rfl,by exact q⟩
theorem y2i(hu:X.A.units+64 < cLine):OpR X (compareOp .NotEq) (rEqD X.K true):=by
 intro pins s σ H x y v u Q I rx ry h
 obtain⟨d,e,r1,r2,hd,q⟩:=h
 obtain⟨as,h1,h2⟩:=Ydn I (by lia) r1 rx
 obtain⟨bs,h3,h4⟩:=Ydn I (by lia) r2 ry
 exact SeqAt.neOverData X.prog X.w X.A X.xe s v u _ _ as bs _ h1 h3 h2 h4 (by have:=Ycs d;have:=Ycs e;lia) ⟨.bl _,H,I,rfl,by exact q⟩
theorem Ynf{neg:Bool}:Yio K (rEqD K neg) (eqM neg):=by
 intro x y dx dy b H G Q h s rx ry q
 unfold eqM at h
 split at h
 ·cases h
  exact⟨dx,dy,rx.rp s,ry.rp s,by assumption,q⟩
 ·cases h
theorem Yaab(hu:X.A.units+64 < cLine)(ha:MC X a fa)(hb:MC X b fb):ME X (.Compare a [.Eq] [b] pos) (mB (b2 fa fb (eqM false))):=Yhn (y2h hu) Ynf ha hb (Ye5 _)
theorem Yaac(hu:X.A.units+64 < cLine)(ha:MC X a fa)(hb:MC X b fb):ME X (.Compare a [.NotEq] [b] pos) (mB (b2 fa fb (eqM true))):=Yhn (y2i hu) Ynf ha hb (Ye5 _)
theorem Yaad(hu:X.A.units+64 < cLine)(ha:MC X a fa)(hb:MC X b fb):MT X (.Compare a [.Eq] [b] pos) (b2 fa fb (eqM false)):=Yfv (y2h hu) Ynf ha hb (Ye5 _)
theorem Yaae(hu:X.A.units+64 < cLine)(ha:MC X a fa)(hb:MC X b fb):MT X (.Compare a [.NotEq] [b] pos) (b2 fa fb (eqM true)):=Yfv (y2i hu) Ynf ha hb (Ye5 _)
def Yn:D->Option (List D)
 | .tup l=>some l
 | .lst l=>some l
 | .scr ns=>some (ns.map D.int)
 | _=>none
def inD(d:D)(l:List D):Bool:=l.any fun y=>eqD y d
def inM(neg:Bool):D->D->Option Bool:=fun d c=>(Yn c).bind fun l=>if depL l<=60/\dep d<=60 then some (if neg then !inD d l else inD d l)else none
def rInD(K:W.Frag)(neg:Bool):R2:=fun x y H Q=>∃d c l,Rp K H d x/\Rp K H c y/\Yn c=some l/\(depL l<=60/\dep d<=60)/\Q (.bl (if neg then !inD d l else inD d l)) H
theorem Ya9{c:D}{l:List D}(h:Yn c=some l):c=.tup l\/c=.lst l\/∃ns,c=.scr ns/\l=ns.map D.int:=by
 cases c with
 | tup m=>cases h;exact .inl rfl
 | lst m=>cases h;exact .inr (.inl rfl)
 | scr ns=>cases h;exact .inr (.inr ⟨ns,rfl,rfl⟩)
 | non=>cases h
 | bl _=>cases h
 | int _=>cases h
 | str _=>cases h
 | dct _ _ _=>cases h
theorem Yip:∀ns:List Int,Ydf (ns.map D.int)=ns.map PyData.int
 | []=>by simp[Ydf]
 | n::ns=>by simp[Ydf,toPy,Yip ns]
theorem y2j(hu:X.A.units+64 < cLine):OpR X (compareOp .In) (rInD X.K false):=by
 intro pins s σ H x y v u Q I rx ry h
 obtain⟨d,c,l,r1,r2,hc,hd,q⟩:=h
 obtain⟨as,h1,h2⟩:=Ydn I (by lia) r1 rx
 have hdc:dep c<=61:=by
  rcases Ya9 hc with rfl | rfl | ⟨ns,rfl,rfl⟩
  ·rw[dep];lia
  ·rw[dep];lia
  ·rw[dep];lia
 obtain⟨bs,h3,h4⟩:=Ydn I (by lia) r2 ry
 have hdd:=Ycs d
 have hdl:=Ydx l
 rcases Ya9 hc with rfl | rfl | ⟨ns,rfl,rfl⟩
 ·rw[toPy]at h3 h4
  exact SeqAt.in_tuple_reads h3 h1 (by simpa [PyData.canLay0]using h4) h2 (by lia) ⟨.bl _,H,I,rfl,by rw[Ye6];exact q⟩
 ·rw[toPy]at h3 h4
  exact SeqAt.in_list_reads h3 h1 (by simpa [PyData.canLay0]using h4) h2 (by lia) ⟨.bl _,H,I,rfl,by rw[Ye6];exact q⟩
 ·rw[toPy,<-Yip]at h3 h4
  exact SeqAt.in_list_reads h3 h1 (by simpa [PyData.canLay0]using h4) h2 (by lia) ⟨.bl _,H,I,rfl,by rw[Ye6];exact q⟩
theorem Ywo(hu:X.A.units+64 < cLine):OpR X (compareOp .NotIn) (rInD X.K true):=by
 intro pins s σ H x y v u Q I rx ry h
 obtain⟨d,c,l,r1,r2,hc,hd,q⟩:=h
 obtain⟨as,h1,h2⟩:=Ydn I (by lia) r1 rx
 have hdc:dep c<=61:=by
  rcases Ya9 hc with rfl | rfl | ⟨ns,rfl,rfl⟩
  ·rw[dep];lia
  ·rw[dep];lia
  ·rw[dep];lia
 obtain⟨bs,h3,h4⟩:=Ydn I (by lia) r2 ry
 have hdd:=Ycs d
 have hdl:=Ydx l
 rcases Ya9 hc with rfl | rfl | ⟨ns,rfl,rfl⟩
 ·rw[toPy]at h3 h4
  exact SeqAt.notIn_tuple_reads h3 h1 (by simpa [PyData.canLay0]using h4) h2 (by lia) ⟨.bl _,H,I,rfl,by rw[Ye6];exact q⟩
 ·rw[toPy]at h3 h4
  exact SeqAt.notIn_list_reads h3 h1 (by simpa [PyData.canLay0]using h4) h2 (by lia) ⟨.bl _,H,I,rfl,by rw[Ye6];exact q⟩
 ·rw[toPy,<-Yip]at h3 h4
  exact SeqAt.notIn_list_reads h3 h1 (by simpa [PyData.canLay0]using h4) h2 (by lia) ⟨.bl _,H,I,rfl,by rw[Ye6];exact q⟩
theorem Yrt{neg:Bool}:Yio K (rInD K neg) (inM neg):=by
 intro x y dx dy b H G Q h s rx ry q
 unfold inM at h
 obtain⟨l,h1,h⟩:=qa h
 split at h
 ·cases h
  exact⟨dx,dy,l,rx.rp s,ry.rp s,h1,by assumption,q⟩
 ·cases h
theorem Yaaf(hu:X.A.units+64 < cLine)(ha:MC X a fa)(hb:MC X b fb)(hm:behindInMarks .In b=false:=by with_unfolding_all rfl):ME X (.Compare a [.In] [b] pos) (mB (b2 fa fb (inM false))):=Yhn (y2j hu) Yrt ha hb hm
theorem Yaag(hu:X.A.units+64 < cLine)(ha:MC X a fa)(hb:MC X b fb)(hm:behindInMarks .In b=false:=by with_unfolding_all rfl):MT X (.Compare a [.In] [b] pos) (b2 fa fb (inM false)):=Yfv (y2j hu) Yrt ha hb hm
theorem y7f(hu:X.A.units+64 < cLine)(ha:MC X a fa)(hb:MC X b fb)(hm:behindInMarks .NotIn b=false:=by with_unfolding_all rfl):MT X (.Compare a [.NotIn] [b] pos) (b2 fa fb (inM true)):=Yfv (Ywo hu) Yrt ha hb hm
end
end
section
variable {K:W.Frag}
section
variable {X:Cx} {a b c e:Expr} {es:List Expr} {fa fb f:Ro->Option D} {fc fd:Ro->Option Bool} {ga:Ro->Option (List D)} {pos:Pos} {rest:List Expr}
def truD:D->Option Bool
 | .non=>some false
 | .bl b=>some b
 | .int i=>some (i != 0)
 | .tup l=>some (!l.isEmpty)
 | .lst l=>some (!l.isEmpty)
 | .scr ns=>some (!ns.isEmpty)
 | .str _=>none
 | .dct _ _ _=>none
theorem y37{d:D}{v:V}{k:Bool}{H G:Hp}(h:truD d=some k)(r:Ct X.K G H d v):TruV X.K v H k:=by
 cases d with
 | non=>rw[Ct]at r;subst r;cases h;rfl
 | bl b=>rw[Ct]at r;subst r;cases h;rfl
 | int i=>rw[Ct]at r;subst r;cases h;rfl
 | str x=>cases h
 | dct _ _ _=>cases h
 | tup l=>
   rw[Ct]at r
   obtain⟨a,xs,rfl,g,rl⟩:=r
   cases h
   refine .inr (.inl ⟨xs,.inl (.inl g.1),?_⟩)
   have:=rl.length
   cases l<;>cases xs<;>simp_all
 | lst l=>
   rw[Ct]at r
   obtain⟨a,xs,rfl,g,rl⟩:=r
   cases h
   refine .inl ⟨xs,.inl g,?_⟩
   have:=rl.length
   cases l<;>cases xs<;>simp_all
 | scr ns=>
   rw[Ct]at r
   obtain⟨a,rfl,g⟩:=r
   cases h
   refine .inl ⟨_,g,?_⟩
   cases ns<;>simp
theorem y7g(ha:MC X a fa)(he:∀whole,isTrue a X.env whole=(do let v <-whole;standAt a.pos;holding [v] (truthy v)):=by intro _;rfl):MT X a (b1 fa truD):=
 PT.imp (Yz7 ha he) fun σ H Q hx_=>by
  obtain⟨ρ,k,H0,G0,G,e,s,h⟩:=hx_
  obtain⟨d,h1,h2⟩:=Ycr e
  exact tCof.at h1 s fun v H1 G1 g1 r1 s1=>⟨k,y37 h2 r1,h H1 G1 g1⟩
def andT(fc fd:Ro->Option Bool):Ro->Option Bool:=fun ρ=>(fc ρ).bind fun k=>if k=true then fd ρ else some false
def orT(fc fd:Ro->Option Bool):Ro->Option Bool:=fun ρ=>(fc ρ).bind fun k=>if k=true then some true else fd ρ
def notT(fc:Ro->Option Bool):Ro->Option Bool:=fun ρ=>(fc ρ).map (!·)
abbrev MW(X:Cx)(e:Expr)(f:Ro->Option Bool):Prop:=PW X e (tTof X.K f)
theorem PW.imp{t t':TT}(h:PW X e t)(i:∀σ H Q,t' σ H Q->t σ H Q):PW X e t':=fun whole pins s σ H Q I hw=>h whole pins s σ H Q I (i σ H Q hw)
theorem y38(ha:MT X a fc):MW X (.BoolOp .And [a] pos) fc:=y3d ha
theorem y7h(ha:MT X a fc):MW X (.BoolOp .Or [a] pos) fc:=y6a ha
theorem y39{σ:L2.St}{H:Hp}{Q:Bool->Hp->Prop}(h:tTof K (andT fc fd) σ H Q):tAnd (tTof K fc) (tTof K fd) σ H Q:=by
 obtain⟨ρ,k,H0,G0,G,e,s,h⟩:=h
 unfold andT at e
 obtain⟨k1,h1,e⟩:=qa e
 refine tTof.at h1 s fun H1 G1 g1 s1=>?_
 cases k1 with
 | true=>
   rw[if_pos rfl]at e ⊢
   exact tTof.at e s1 fun H2 G2 g2 _=>h H2 G2 (g1.trans g2)
 | false=>
   rw[if_neg qi]at e ⊢
   cases e
   exact h H1 G1 g1
theorem y7i{σ:L2.St}{H:Hp}{Q:Bool->Hp->Prop}(h:tTof K (orT fc fd) σ H Q):tOr (tTof K fc) (tTof K fd) σ H Q:=by
 obtain⟨ρ,k,H0,G0,G,e,s,h⟩:=h
 unfold orT at e
 obtain⟨k1,h1,e⟩:=qa e
 refine tTof.at h1 s fun H1 G1 g1 s1=>?_
 cases k1 with
 | false=>
   rw[if_neg qi]at e ⊢
   exact tTof.at e s1 fun H2 G2 g2 _=>h H2 G2 (g1.trans g2)
 | true=>
   rw[if_pos rfl]at e ⊢
   cases e
   exact h H1 G1 g1
theorem y7j(ha:MT X a fc)(hb:MW X (.BoolOp .And (b::rest) pos) fd):MW X (.BoolOp .And (a::b::rest) pos) (andT fc fd):=PW.imp (y6b ha hb) fun _ _ _ h=>y39 h
theorem Yaah(ha:MT X a fc)(hb:MW X (.BoolOp .Or (b::rest) pos) fd):MW X (.BoolOp .Or (a::b::rest) pos) (orT fc fd):=PW.imp (y9o ha hb) fun _ _ _ h=>y7i h
theorem y7k(ha:MT X a fc):MT X (.UnaryOp .Not a pos) (notT fc):=PT.imp (y6c ha) fun σ H Q hx_=>by
 obtain⟨ρ,k,H0,G0,G,e,s,h⟩:=hx_
 obtain⟨k1,h1,rfl⟩:=qc e
 exact tTof.at h1 s fun H1 G1 g1 _=>h H1 G1 g1
def blD:D->Option Bool
 | .bl b=>some b
 | _=>none
theorem Yng{d:D}{k:Bool}(h:blD d=some k):d=.bl k:=by cases d<;>simp[blD]at h;subst h;rfl
def andV(fa fb:Ro->Option D):Ro->Option D:=fun ρ=>(b1 fa blD ρ).bind fun k=>if k=true then fb ρ else some (.bl false)
def orV(fa fb:Ro->Option D):Ro->Option D:=fun ρ=>(b1 fa blD ρ).bind fun k=>if k=true then some (.bl true)else fb ρ
def notV(fa:Ro->Option D):Ro->Option D:=fun ρ=>(b1 fa blD ρ).map fun k=>.bl (!k)
theorem y4a(ha:ME X a fa):ME X (.BoolOp .And [a] pos) fa:=y19 ha
theorem y7l(ha:ME X a fa):ME X (.BoolOp .Or [a] pos) fa:=y19 ha
theorem y7m(ha:ME X a fa)(hb:ME X (.BoolOp .And (b::rest) pos) fb):ME X (.BoolOp .And (a::b::rest) pos) (andV fa fb):=PE.imp (y6d ha hb) fun σ H Q hx_=>by
 obtain⟨ρ,d,H0,G0,G,e,s,h⟩:=hx_
 unfold andV at e
 obtain⟨k,h1,e⟩:=qa e
 obtain⟨d1,h2,h3⟩:=Ycr h1
 cases Yng h3
 refine tOf.at h2 s fun v H1 G1 g1 r1 s1=>⟨k,by rw[Rp]at r1;exact r1,?_⟩
 cases k with
 | true=>
   rw[if_pos rfl]at e ⊢
   exact tOf.at e s1 fun w H2 G2 g2 r2 _=>h w H2 G2 (g1.trans g2) r2
 | false=>
   rw[if_neg qi]at e ⊢
   cases e
   exact h _ H1 G1 g1 (by rw[Rp])
theorem Yaai(ha:ME X a fa)(hb:ME X (.BoolOp .Or (b::rest) pos) fb):ME X (.BoolOp .Or (a::b::rest) pos) (orV fa fb):=PE.imp (y9r ha hb) fun σ H Q hx_=>by
 obtain⟨ρ,d,H0,G0,G,e,s,h⟩:=hx_
 unfold orV at e
 obtain⟨k,h1,e⟩:=qa e
 obtain⟨d1,h2,h3⟩:=Ycr h1
 cases Yng h3
 refine tOf.at h2 s fun v H1 G1 g1 r1 s1=>⟨k,by rw[Rp]at r1;exact r1,?_⟩
 cases k with
 | false=>
   rw[if_neg qi]at e ⊢
   exact tOf.at e s1 fun w H2 G2 g2 r2 _=>h w H2 G2 (g1.trans g2) r2
 | true=>
   rw[if_pos rfl]at e ⊢
   cases e
   exact h _ H1 G1 g1 (by rw[Rp])
theorem y7n(ha:ME X a fa):ME X (.UnaryOp .Not a pos) (notV fa):=PE.imp (y6e ha) fun σ H Q hx_=>by
 obtain⟨ρ,d,H0,G0,G,e,s,h⟩:=hx_
 obtain⟨k,h1,rfl⟩:=qc e
 obtain⟨d1,h2,h3⟩:=Ycr h1
 cases Yng h3
 exact tOf.at h2 s fun v H1 G1 g1 r1 s1=>⟨k,by rw[Rp]at r1;exact r1,h _ H1 G1 g1 (by rw[Rp])⟩
def ifV(fc:Ro->Option Bool)(fa fb:Ro->Option D):Ro->Option D:=fun ρ=>(fc ρ).bind fun k=>if k=true then fa ρ else fb ρ
theorem Yaaj(hc:MT X c fc)(ha:ME X a fa)(hb:ME X b fb):ME X (.IfExp c a b pos) (ifV fc fa fb):=PE.imp (Yz3 hc ha hb) fun σ H Q hx_=>by
 obtain⟨ρ,d,H0,G0,G,e,s,h⟩:=hx_
 unfold ifV at e
 obtain⟨k,h1,e⟩:=qa e
 refine tTof.at h1 s fun H1 G1 g1 s1=>?_
 cases k with
 | true=>
   rw[if_pos rfl]at e ⊢
   exact tOf.at e s1 fun w H2 G2 g2 r2 _=>h w H2 G2 (g1.trans g2) r2
 | false=>
   rw[if_neg qi]at e ⊢
   exact tOf.at e s1 fun w H2 G2 g2 r2 _=>h w H2 G2 (g1.trans g2) r2
def Ylr:D->Bool
 | .non=>true
 | _=>false
theorem Yth{d:D}{v:V}{G H:Hp}(r:Ct K G H d v):decide (v=V.non)=Ylr d:=by
 cases d with
 | non=>rw[Ct]at r;subst r;rfl
 | bl _=>rw[Ct]at r;subst r;rfl
 | int _=>rw[Ct]at r;subst r;rfl
 | str _=>rw[Ct]at r;obtain⟨rfl,_⟩:=r;rfl
 | tup _=>rw[Ct]at r;obtain⟨_,_,rfl,_⟩:=r;rfl
 | lst _=>rw[Ct]at r;obtain⟨_,_,rfl,_⟩:=r;rfl
 | scr _=>rw[Ct]at r;obtain⟨_,rfl,_⟩:=r;rfl
 | dct _ _ _=>rw[Ct]at r;obtain⟨_,_,_,rfl,_⟩:=r;rfl
def isN(neg:Bool):D->D->Option Bool:=fun d e=>if Ylr e then some (if neg then !Ylr d else Ylr d)else none
theorem Ywp:Yio K (fun x y H Q=>y=.non/\Q (.bl (decide (x=.non))) H) (isN false):=by
 intro x y dx dy b H G Q h s rx ry q
 unfold isN at h
 split at h
 ·rename_i hn
  cases h
  cases dy<;>simp[Ylr]at hn
  rw[Ct]at ry
  exact⟨ry,by rw[Yth rx];exact q⟩
 ·cases h
theorem Yti:Yio K (fun x y H Q=>y=.non/\Q (.bl (!decide (x=.non))) H) (isN true):=by
 intro x y dx dy b H G Q h s rx ry q
 unfold isN at h
 split at h
 ·rename_i hn
  cases h
  cases dy<;>simp[Ylr]at hn
  rw[Ct]at ry
  exact⟨ry,by rw[Yth rx];exact q⟩
 ·cases h
theorem y7o(ha:MC X a fa)(hb:MC X b fb):ME X (.Compare a [.Is] [b] pos) (mB (b2 fa fb (isN false))):=Yhn y2c Ywp ha hb (Ye5 _)
theorem y4b(ha:MC X a fa)(hb:MC X b fb):ME X (.Compare a [.IsNot] [b] pos) (mB (b2 fa fb (isN true))):=Yhn Yv2 Yti ha hb (Ye5 _)
theorem y7p(ha:MC X a fa)(hb:MC X b fb):MT X (.Compare a [.Is] [b] pos) (b2 fa fb (isN false)):=Yfv y2c Ywp ha hb (Ye5 _)
theorem y4c(ha:MC X a fa)(hb:MC X b fb):MT X (.Compare a [.IsNot] [b] pos) (b2 fa fb (isN true)):=Yfv Yv2 Yti ha hb (Ye5 _)
def ixD:D->D->Option D
 | c,.int i=>(Yn c).bind fun l=>atI l i
 | _,_=>none
theorem Ywq{G:Hp}{l:List D}{xs:List V}{i:Int}{d:D}(r:RpL K G l xs)(h:atI l i=some d):∃x,atI xs i=some x/\Rp K G d x:=by
 unfold atI at h ⊢
 rw[r.length]
 obtain⟨j,h1,h2⟩:=qa h
 obtain⟨x,h3,h4⟩:=r.get h2
 exact⟨x,by rw[h1];exact h3,h4⟩
theorem y7q:Sem2 X.K (rIx X.K) ixD:=by
 intro x y dx dy d H G Q h s rx ry q
 unfold ixD at h
 split at h
 ·rename_i c i
  obtain⟨l,h1,h2⟩:=qa h
  rw[Ct]at ry
  subst ry
  rcases Ya9 h1 with rfl | rfl | ⟨ns,rfl,rfl⟩
  ·rw[Ct]at rx
   obtain⟨p,xs,rfl,g,rl⟩:=rx
   obtain⟨v,h3,h4⟩:=Ywq rl h2
   exact .inr (.inl ⟨p,xs,i,v,rfl,rfl,.inl (.inl g.1),h3,q v H G (.refl s) h4⟩)
  ·rw[Ct]at rx
   obtain⟨p,xs,rfl,g,rl⟩:=rx
   obtain⟨v,h3,h4⟩:=Ywq rl h2
   exact .inl ⟨p,xs,i,v,rfl,rfl,.inl g,h3,q v H G (.refl s) h4⟩
  ·rw[Ct]at rx
   obtain⟨p,rfl,g⟩:=rx
   obtain⟨v,h3,h4⟩:=Ywq (G:=G) (K:=X.K) (.ints ns) h2
   exact .inl ⟨p,_,i,v,rfl,rfl,g,h3,q v H G (.refl s) h4⟩
 ·cases h
theorem Ywr(ha:MC X a fa)(hb:MC X b fb)(hs:Yen b:=by intro _ _;rfl):ME X (.Subscript a b pos) (b2 fa fb ixD):=y36 y64 y7q ha hb hs
def intD:D->Option Int
 | .int i=>some i
 | _=>none
def optI(f:Option (Ro->Option D)):Ro->Option (Option Int):=fun ρ=>match f with
 | none=>some none
 | some f=>(b1 f intD ρ).map some
def cutD(l:List D)(lo hi:Option Int):List D:=(l.drop (HT.sIx l.length 0 lo)).take (HT.sIx l.length l.length hi - HT.sIx l.length 0 lo)
def lstD:D->Option (List D)
 | .lst l=>some l
 | .scr ns=>some (ns.map D.int)
 | _=>none
theorem Ypt{d:D}{l:List D}{v:V}{G H:Hp}(h:lstD d=some l)(r:Ct K G H d v):∃p xs,v=.ref p/\SqL K H p xs/\RpL K G l xs:=by
 cases d with
 | lst m=>
   cases h
   rw[Ct]at r
   obtain⟨p,xs,e,g,q⟩:=r
   exact⟨p,xs,e,.inl g,q⟩
 | scr ns=>
   cases h
   rw[Ct]at r
   obtain⟨p,e,g⟩:=r
   exact⟨p,_,e,g,.ints ns⟩
 | non=>cases h
 | bl _=>cases h
 | int _=>cases h
 | str _=>cases h
 | tup _=>cases h
 | dct _ _ _=>cases h
def slF(fa:Ro->Option D)(lo hi:Option (Ro->Option D)):Ro->Option (List D):=fun ρ=>(b1 fa lstD ρ).bind fun l=>(optI lo ρ).bind fun i=>(optI hi ρ).bind fun j=>some (cutD l i j)
abbrev tO(K:W.Frag)(f:Option (Ro->Option D)):TO:=match f with
 | none=>Ywd
 | some f=>y61 (tCof K f)
theorem y0k{H0 G0 H G:Hp}{σ:L2.St}{ρ:Ro}{f:Option (Ro->Option D)}{i:Option Int}{Q:Option Int->Hp->Prop}(e:optI f ρ=some i)(s:SR K H0 G0 σ H G ρ)(h:∀H' G',Gr H G H' G'->SR K H0 G0 σ H' G' ρ->Q i H'):tO K f σ H Q:=by
 cases f with
 | none=>
   cases e
   exact h H G (.refl s.seen) s
 | some f=>
   obtain⟨k,h1,rfl⟩:=qc e
   obtain⟨d,h2,h3⟩:=Ycr h1
   refine tCof.at h2 s fun v H1 G1 g1 r1 s1=>⟨k,?_,h H1 G1 g1 s1⟩
   cases d<;>simp[intD]at h3
   subst h3
   rw[Ct]at r1
   exact r1
theorem y0l{lo hi:Option Expr}{fl fh:Option (Ro->Option D)}{p2:Pos}(ha:MC X a fa)(hl:PO X lo (tO X.K fl))(hh:PO X hi (tO X.K fh)):MF X (.Subscript a (.Slice lo hi none p2) pos) (slF fa fl fh):=
 PE.imp (Ytd Ywe ha hl hh) fun σ H Q hx_=>by
  obtain⟨ρ,l,H0,G0,G,e,s,h⟩:=hx_
  unfold slF at e
  obtain⟨l0,h1,e⟩:=qa e
  obtain⟨i,h2,e⟩:=qa e
  obtain⟨j,h3,e⟩:=qa e
  cases e
  obtain⟨d,h4,h5⟩:=Ycr h1
  refine tCof.at h4 s fun v H1 G1 g1 r1 s1=>y0k h2 s1 fun H2 G2 g2 s2=>y0k h3 s2 fun H3 G3 g3 s3=>?_
  have r3:=(r1.grow g2).grow g3
  obtain⟨p,xs,rfl,g,rl⟩:=Ypt h5 r3
  refine⟨p,xs,rfl,g,fun q hq=>?_⟩
  have hq0:H q=none:=g1.h.free (g2.h.free (g3.h.free hq))
  have gg:=((g1.trans g2).trans g3).trans (Gr.hid (p:=q) s3.seen hq (.lst (cutV xs i j)))
  refine h q _ _ G3 gg hq0 (s3.seen.free hq) Yw ?_
  unfold cutD cutV
  rw[rl.length]
  exact(rl.drop _).take _
theorem Yaak:PO X none (tO X.K none):=y3r
theorem Yaal(h:MC X e f):PO X (some e) (tO X.K (some f)):=y3s h
def lF(f:Ro->Option (List D)):Ro->Option D:=fun ρ=>(f ρ).map D.lst
theorem MF.me{g:Ro->Option (List D)}(h:MF X e g):ME X e (lF g):=PE.imp h fun σ H Q hx_=>by
 obtain⟨ρ,d,H0,G0,G,e,s,h⟩:=hx_
 obtain⟨l,h1,rfl⟩:=qc e
 exact⟨ρ,l,H0,G0,G,h1,s,fun p xs H' G' g hp gp e' r=>h _ H' _ (g.show hp gp e') (by
  rw[Rp]
  refine⟨p,xs,rfl,.inl Yw,r.mono fun b o q=>?_⟩
  rw[Yab (y0 q gp)];exact q)⟩
def aNil:Ro->Option (List D):=fun _=>some []
def Yg(f:Ro->Option D)(g:Ro->Option (List D)):Ro->Option (List D):=fun ρ=>(f ρ).bind fun d=>(g ρ).map (d::·)
theorem y2k:MA X [] aNil:=PA.imp Yj8 fun σ H Q hx_=>by
 obtain⟨ρ,l,H0,G0,G,e,s,h⟩:=hx_
 cases e
 exact h [] H G (.refl s.seen) .nil
theorem Yws(ha:ME X e f)(hr:MA X es ga)(hs:starEach (e::es) X.env=(false,eval e X.env)::starEach es X.env:=by rfl):MA X (e::es) (Yg f ga):=PA.imp (Yf1 ha hr hs) fun σ H Q hx_=>by
 obtain⟨ρ,l,H0,G0,G,e,s,h⟩:=hx_
 unfold Yg at e
 obtain⟨d,h1,e⟩:=qa e
 obtain⟨l',h2,rfl⟩:=qc e
 exact tOf.at h1 s fun v H1 G1 g1 r1 s1=>tAof.at h2 s1 fun vs H2 G2 g2 r2 _=>h (v::vs) H2 G2 (g1.trans g2) (.cons (r1.mono g2.g) r2)
theorem Ykh:MCA X [] aNil:=PA.imp Yj8 fun σ H Q hx_=>by
 obtain⟨ρ,l,H0,G0,G,e,s,h⟩:=hx_
 cases e
 exact h [] H G (.refl s.seen) rfl
theorem Yho(ha:MC X e f)(hr:MCA X es ga)(hs:starEach (e::es) X.env=(false,eval e X.env)::starEach es X.env:=by rfl):MCA X (e::es) (Yg f ga):=PA.imp (Yf1 ha hr hs) fun σ H Q hx_=>by
 obtain⟨ρ,l,H0,G0,G,e,s,h⟩:=hx_
 unfold Yg at e
 obtain⟨d,h1,e⟩:=qa e
 obtain⟨l',h2,rfl⟩:=qc e
 exact tCof.at h1 s fun v H1 G1 g1 r1 s1=>tCAof.at h2 s1 fun vs H2 G2 g2 r2 _=>h (v::vs) H2 G2 (g1.trans g2) ⟨v,vs,rfl,r1.grow g2,r2⟩
def cap6:Nat:=1000000
theorem Yeo{n:Nat}(h:n<=cap6):n<=sizeLine:=Qj h (by rw[sizeLine_eq];decide)
def dTup(ga:Ro->Option (List D)):Ro->Option D:=fun ρ=>(ga ρ).bind fun l=>if l.length<=cap6 then some (.tup l)else none
theorem y7r{x1}(h:MA X es ga):ME X (.Tuple es x1 pos) (dTup ga):=PE.imp (y6v h) fun σ H Q hx_=>by
 obtain⟨ρ,d,H0,G0,G,e,s,h⟩:=hx_
 unfold dTup at e
 obtain⟨l,h1,e⟩:=qa e
 split at e
 ·cases e
  refine tAof.at h1 s fun vs H1 G1 g1 r1 s1=>⟨by rw[r1.length];exact Yeo (by assumption),fun p hp=>?_⟩
  refine h _ _ _ (g1.trans (.new s1.seen hp (.tup vs))) ?_
  rw[Rp]
  exact⟨p,vs,rfl,Yw,r1.mono (Gr.new s1.seen hp (.tup vs)).g⟩
 ·cases e
def dLst(ga:Ro->Option (List D)):Ro->Option (List D):=fun ρ=>(ga ρ).bind fun l=>if l.length<=cap6 then some l else none
theorem y2l(h:MA X es ga):MF X (.List es pos) (dLst ga):=PE.imp (y6w h) fun σ H Q hx_=>by
 obtain⟨ρ,d,H0,G0,G,e,s,h⟩:=hx_
 unfold dLst at e
 obtain⟨l,h1,e⟩:=qa e
 split at e
 ·cases e
  refine tAof.at h1 s fun vs H1 G1 g1 r1 s1=>⟨by rw[r1.length];exact Yeo (by assumption),fun p hp=>?_⟩
  exact h p vs _ G1 (g1.trans (.hid s1.seen hp (.lst vs))) (g1.h.free hp) (s1.seen.free hp) Yw r1
 ·cases e
def cC(ga:Ro->Option (List D))(g:List D->Option D):Ro->Option D:=fun ρ=>(ga ρ).bind g
def cF(ga:Ro->Option (List D))(g:List D->Option (List D)):Ro->Option (List D):=fun ρ=>(ga ρ).bind g
theorem y2m{r:List V->Hp->VK->Prop}{g:List D->Option D}(hr:SemC K r g){σ:L2.St}{H:Hp}{Q:VK}(h:tOf K (cC ga g) σ H Q):tCB r (tCAof K ga) σ H Q:=by
 obtain⟨ρ,d,H0,G0,G,e,s,h⟩:=h
 unfold cC at e
 obtain⟨l,h1,h2⟩:=qa e
 exact tCAof.at h1 s fun vs H1 G1 g1 r1 s1=>hr vs l d H1 G1 Q h2 s1.seen r1 fun v H' G' g2 r2=>h v H' G' (g1.trans g2) r2
theorem Ywt{r:List V->Hp->VK->Prop}{g:List D->Option (List D)}(hr:SemF K r g){σ:L2.St}{H:Hp}{Q:VK}(h:tFof K (cF ga g) σ H Q):tCB r (tCAof K ga) σ H Q:=by
 obtain⟨ρ,d,H0,G0,G,e,s,h⟩:=h
 unfold cF at e
 obtain⟨l,h1,h2⟩:=qa e
 exact tCAof.at h1 s fun vs H1 G1 g1 r1 s1=>hr vs l d H1 G1 Q h2 s1.seen r1 fun p xs H' G' g2 hp gp e' r2=>h p xs H' G' (g1.trans g2) (g1.h.free hp) gp e' r2
section
variable {x:Str} {p:Pos} {id T:String} {r:List V->Hp->VK->Prop} {g:List D->Option D} {gf:List D->Option (List D)}
theorem y0m(hc:Ydl X (.builtin id) r)(hr:SemC X.K r g)(hg:Gl X x)(hm:X.mg x=none)(hv:bootBuiltins x=some (.builtin id))(ha:MCA X (e::es) ga)(hn:x≠"__name__":=by decide)(hdb:(x==("__debug__":Str))=false:=by decide)
 (he:starEach (e::es) X.env=(false,eval e X.env)::starEach es X.env:=by rfl) (hpl:(backTo pos (starEach es X.env)).any (·.1)=false:=by rfl):ME X (.Call (.Name x p) (e::es) [] pos) (cC ga g):=
 PE.imp (Yj1 hc hg hm hv ha hn hdb he hpl) fun _ _ _ h=>y2m hr h
theorem y0n(hc:Ydl X (.builtin id) r)(hr:SemF X.K r gf)(hg:Gl X x)(hm:X.mg x=none)(hv:bootBuiltins x=some (.builtin id))(ha:MCA X (e::es) ga)(hn:x≠"__name__":=by decide)(hdb:(x==("__debug__":Str))=false:=by decide)
 (he:starEach (e::es) X.env=(false,eval e X.env)::starEach es X.env:=by rfl) (hpl:(backTo pos (starEach es X.env)).any (·.1)=false:=by rfl):MF X (.Call (.Name x p) (e::es) [] pos) (cF ga gf):=
 PE.imp (Yj1 hc hg hm hv ha hn hdb he hpl) fun _ _ _ h=>Ywt hr h
theorem Ywu(hc:Ydl X (.type T) r)(hr:SemC X.K r g)(hg:Gl X x)(hm:X.mg x=none)(hv:bootBuiltins x=some (.type T))(ha:MCA X (e::es) ga)(hn:x≠"__name__":=by decide)(hdb:(x==("__debug__":Str))=false:=by decide)
 (he:starEach (e::es) X.env=(false,eval e X.env)::starEach es X.env:=by rfl) (hpl:(backTo pos (starEach es X.env)).any (·.1)=false:=by rfl):ME X (.Call (.Name x p) (e::es) [] pos) (cC ga g):=
 PE.imp (Yf2 hc hg hm hv ha hn hdb he hpl) fun _ _ _ h=>y2m hr h
theorem Ywv(hc:Ydl X (.type T) r)(hr:SemF X.K r gf)(hg:Gl X x)(hm:X.mg x=none)(hv:bootBuiltins x=some (.type T))(ha:MCA X (e::es) ga)(hn:x≠"__name__":=by decide)(hdb:(x==("__debug__":Str))=false:=by decide)
 (he:starEach (e::es) X.env=(false,eval e X.env)::starEach es X.env:=by rfl) (hpl:(backTo pos (starEach es X.env)).any (·.1)=false:=by rfl):MF X (.Call (.Name x p) (e::es) [] pos) (cF ga gf):=
 PE.imp (Yf2 hc hg hm hv ha hn hdb he hpl) fun _ _ _ h=>Ywt hr h
end
def spOf(K:W.Frag)(n:Nat)(fn:List D->Option D):Sp:=fun vs H Q _=>vs.length=n/\∃ds d G,Same G H/\RpL K G ds vs/\fn ds=some d/\∀v H' G',Gr H G H' G'->Rp K G' d v->Q v H'
theorem y4d{k n:Nat}{fa':Addr}{fd':FuncData}{ps:List Str}{x:Str}{p:Pos}{fn:List D->Option D}(F:FnOk X.prog X.w X.K X.mg X.base CX0 k fa' fd' ps (spOf X.K n fn))(hr:Room k X.A)(hg:Gl X x)(hm:X.mg x=some (.ref fa'))(hk:W.keepIn X.K (.ref fa')=true)(hb:Binds X.K fd' ps [])
 (ha:MA X (e::es) ga) (hdb:(x==("__debug__":Str))=false:=by decide) (he:starEach (e::es) X.env=(false,eval e X.env)::starEach es X.env:=by rfl) (hpl:(backTo pos (starEach es X.env)).any (·.1)=false:=by rfl)
 (hl:∀ρ l,ga ρ=some l->l.length=n):ME X (.Call (.Name x p) (e::es) [] pos) (cC ga fn):=
 PE.imp (y3m (E:=E0) F hr hg hm hk hb .nil y95 ha hdb he hpl) fun σ H Q hx_=>by
  obtain⟨ρ,d,H0,G0,G,e,s,h⟩:=hx_
  unfold cC at e
  obtain⟨l,h1,h2⟩:=qa e
  refine tAof.at h1 s fun vs H1 G1 g1 r1 s1=>?_
  rw[List.append_nil]
  exact⟨by rw[r1.length];exact hl ρ l h1,l,d,G1,s1.seen,r1,h2,fun v H' G' g2 r2=>h v H' G' (g1.trans g2) r2⟩
theorem y0o{ρ:Ro}{l:List D}(h:aNil ρ=some l):l.length=0:=by cases h;rfl
theorem Yf5{f:Ro->Option D}{g:Ro->Option (List D)}{n:Nat}(hg:∀ρ l,g ρ=some l->l.length=n):∀ρ l,Yg f g ρ=some l->l.length=n+1:=fun ρ l h=>by
 unfold Yg at h
 obtain⟨d,h1,e⟩:=qa h
 obtain⟨l',h2,rfl⟩:=qc e
 rw[qr,hg ρ l' h2]
def lenC:List D->Option D
 | [c]=>(Yn c).map fun l=>.int l.length
 | _=>none
theorem y2n{G H:Hp}{c:D}{l:List D}{v:V}(h:Yn c=some l)(r:Ct K G H c v):∃p xs,v=.ref p/\(SqL K H p xs\/SqT K H p xs)/\RpL K G l xs:=by
 rcases Ya9 h with rfl | rfl | ⟨ns,rfl,rfl⟩
 ·rw[Ct]at r
  obtain⟨p,xs,rfl,g,rl⟩:=r
  exact⟨p,xs,rfl,.inr (.inl (.inl g.1)),rl⟩
 ·rw[Ct]at r
  obtain⟨p,xs,rfl,g,rl⟩:=r
  exact⟨p,xs,rfl,.inl (.inl g),rl⟩
 ·rw[Ct]at r
  obtain⟨p,rfl,g⟩:=r
  exact⟨p,_,rfl,.inl g,.ints ns⟩
theorem Yki{G:Hp}{d:D}{vs:List V}(h:RpL K G [d] vs):∃v,vs=[v]/\Rp K G d v:=by
 rw[RpL]at h
 obtain⟨x,r,rfl,h1,h2⟩:=h
 rw[RpL]at h2
 subst h2
 exact⟨x,rfl,h1⟩
theorem Ydh{G H:Hp}{d:D}{vs:List V}(h:CtL K G H [d] vs):∃v,vs=[v]/\Ct K G H d v:=by
 obtain⟨x,r,rfl,h1,h2⟩:=h
 cases (show r=[] from h2)
 exact⟨x,rfl,h1⟩
theorem Yct:SemC X.K (fun xs H Q=>∃p ys,xs=[.ref p]/\(SqL X.K H p ys\/SqT X.K H p ys)/\Q (.int ys.length) H) lenC:=by
 intro vs ds d H G Q h s r q
 match ds,h,r with
 | [c],h,r=>
   obtain⟨l,h1,rfl⟩:=qc h
   obtain⟨v,rfl,rv⟩:=Ydh r
   obtain⟨p,xs,rfl,h2,rl⟩:=y2n (K:=X.K) h1 rv
   exact⟨p,xs,rfl,h2,q _ H G (.refl s) (by rw[Rp,rl.length])⟩
def Yut:List D->Option (List D)
 | [c]=>Yn c
 | _=>none
theorem Ynh:SemF X.K (fun xs H Q=>∃p ys,xs=[.ref p]/\(SqL X.K H p ys\/SqT X.K H p ys)/\∀l,H l=none->Q (.ref l) (upd H l (.lst ys))) Yut:=by
 intro vs ds l H G Q h s r q
 match ds,h,r with
 | [c],h,r=>
   obtain⟨v,rfl,rv⟩:=Ydh r
   obtain⟨p,xs,rfl,h2,rl⟩:=y2n (K:=X.K) h rv
   exact⟨p,xs,rfl,h2,fun m hm=>q m xs _ G (.hid s hm _) hm (s.free hm) Yw rl⟩
def tupC:List D->Option D
 | [c]=>(Yn c).map D.tup
 | _=>none
theorem Ydy:SemC X.K (fun xs H Q=>∃p ys,xs=[.ref p]/\((SqL X.K H p ys/\∀l,H l=none->Q (.ref l) (upd H l (.tup ys)))\/(SqT X.K H p ys/\Q (.ref p) H))) tupC:=by
 intro vs ds d H G Q h s r q
 match ds,h,r with
 | [c],h,r=>
   obtain⟨l,h1,rfl⟩:=qc h
   obtain⟨v,rfl,rv⟩:=Ydh r
   rcases Ya9 h1 with rfl | rfl | ⟨ns,rfl,rfl⟩
   ·rw[Ct]at rv
    obtain⟨p,xs,rfl,g,rl⟩:=rv
    exact⟨p,xs,rfl,.inr ⟨.inl (.inl g.1),q _ H G (.refl s) (by rw[Rp];exact⟨p,xs,rfl,g.2,rl⟩)⟩⟩
   ·rw[Ct]at rv
    obtain⟨p,xs,rfl,g,rl⟩:=rv
    refine⟨p,xs,rfl,.inl ⟨.inl g,fun m hm=>q _ _ _ (.new s hm (.tup xs)) ?_⟩⟩
    rw[Rp]
    exact⟨m,xs,rfl,Yw,rl.mono (Gr.new s hm (.tup xs)).g⟩
   ·rw[Ct]at rv
    obtain⟨p,rfl,g⟩:=rv
    refine⟨p,_,rfl,.inl ⟨g,fun m hm=>q _ _ _ (.new s hm (.tup _)) ?_⟩⟩
    rw[Rp]
    exact⟨m,_,rfl,Yw,.ints ns⟩
def intC:List D->Option D
 | [.int i]=>some (.int i)
 | [.bl k]=>some (.int (if k then 1 else 0))
 | _=>none
theorem y4e:SemC X.K (fun xs H Q=>(∃i,xs=[.int i]/\Q (.int i) H)\/∃k,xs=[.bl k]/\Q (.int (if k then 1 else 0)) H) intC:=by
 intro vs ds d H G Q h s r q
 match ds,h,r with
 | [.int i],h,r=>
   cases h
   obtain⟨v,rfl,rv⟩:=Ydh r
   rw[Ct]at rv
   subst rv
   exact .inl ⟨i,rfl,q _ H G (.refl s) (by rw[Rp])⟩
 | [.bl k],h,r=>
   cases h
   obtain⟨v,rfl,rv⟩:=Ydh r
   rw[Ct]at rv
   subst rv
   exact .inr ⟨k,rfl,q _ H G (.refl s) (by rw[Rp])⟩
end
end
section
variable {K:W.Frag}
section
variable {X:Cx} {e:Expr} {f:Ro->Option D} {gl:Ro->Option (List D)} {pos pos':Pos} {st:Stmt} {sts:List Stmt} {fs gs:Ro->Option Out}
def sNil:Ro->Option Out:=fun ρ=>some (.nx ρ)
def sSeq(f g:Ro->Option Out):Ro->Option Out:=fun ρ=>(f ρ).bind fun
 | .nx ρ'=>g ρ'
 | o=>some o
theorem y7s:MB X [] sNil:=PSs.imp y3e fun F σ H hx_=>by
 obtain⟨ρ,out,H0,G0,G,e,s,h⟩:=hx_
 cases e
 exact h σ H G s
theorem y4f(h1:MS X st fs)(h2:MB X sts gs):MB X (st::sts) (sSeq fs gs):=PSs.imp (Yz4 h1 h2) fun F σ H hx_=>by
 obtain⟨ρ,out,H0,G0,G,e,s,h⟩:=hx_
 unfold sSeq at e
 obtain⟨o,h3,e⟩:=qa e
 cases o with
 | nx ρ'=>exact⟨ρ,.nx ρ',H0,G0,G,h3,s,fun σ' H' G' s'=>⟨ρ',out,H0,G0,G',e,s',h⟩⟩
 | rt d=>cases e;exact⟨ρ,.rt d,H0,G0,G,h3,s,h⟩
 | bk ρ'=>cases e;exact⟨ρ,.bk ρ',H0,G0,G,h3,s,h⟩
 | ct ρ'=>cases e;exact⟨ρ,.ct ρ',H0,G0,G,h3,s,h⟩
theorem y7t(h1:MS X st fs):MB X [st] fs:=y3f h1
def frz1(i:Nat)(ρ:Ro):Ro:=match ρ[i]? with
 | some (some (B.ow l))=>ρ.set i (some (.sh (.lst l)))
 | some (some (B.od t ks vs))=>ρ.set i (some (.sh (.dct t ks vs)))
 | _=>ρ
theorem SR.frz1{H0 G0 H G:Hp}{σ:L2.St}{ρ:Ro}(s:SR K H0 G0 σ H G ρ)(i:Nat):∃G',SR K H0 G0 σ H G' (M.frz1 i ρ):=by
 unfold M.frz1
 split
 ·rename_i l hl
  exact s.freeze hl
 ·rename_i t ks vs hl
  exact s.freezed hl
 ·exact⟨G,s⟩
def frz(is:List Nat)(ρ:Ro):Ro:=is.foldl (fun r i=>frz1 i r) ρ
theorem SR.frz{H0 G0 H:Hp}{σ:L2.St}:∀(is:List Nat) {G:Hp} {ρ:Ro},SR K H0 G0 σ H G ρ->∃G',SR K H0 G0 σ H G' (M.frz is ρ)
 | [],G,_,s=>⟨G,s⟩
 | i::is,_,ρ,s=>by
   obtain⟨G',s'⟩:=s.frz1 i
   exact SR.frz is s'
def wF(is:List Nat)(f:Ro->Option Out):Ro->Option Out:=fun ρ=>f (frz is ρ)
theorem y7u(is:List Nat)(h:MS X st fs):MS X st (wF is fs):=PS.imp h fun F σ H hx_=>by
 obtain⟨ρ,out,H0,G0,G,e,s,h⟩:=hx_
 obtain⟨G',s'⟩:=SR.frz is s
 exact⟨frz is ρ,out,H0,G0,G',e,s',h⟩
def sSet(i:Nat)(f:Ro->Option D):Ro->Option Out:=fun ρ=>(f ρ).map fun d=>.nx (ρ.set i (some (.sh d)))
def sOwn(i:Nat)(f:Ro->Option (List D)):Ro->Option Out:=fun ρ=>(f ρ).map fun l=>.nx (ρ.set i (some (.ow l)))
theorem y7v{i:Nat}{F:Ends}{σ:L2.St}{H:Hp}(h:sOf K (sSet i f) F σ H):tAsg (tOf K f) (Yuk i) F σ H:=by
 obtain⟨ρ,out,H0,G0,G,e,s,h⟩:=h
 obtain⟨d,h1,rfl⟩:=qc e
 exact tOf.at h1 s fun v H1 G1 g1 r1 s1=>h _ H1 G1 (s1.set_sh i r1)
theorem y7w{i:Nat}{F:Ends}{σ:L2.St}{H:Hp}(h:sOf K (sOwn i gl) F σ H):tAsg (tFof K gl) (Yuk i) F σ H:=by
 obtain⟨ρ,out,H0,G0,G,e,s,h⟩:=h
 obtain⟨l,h1,rfl⟩:=qc e
 exact⟨ρ,l,H0,G0,G,h1,s,fun p xs H' G' g hp gp e' r=>h _ H' G' (s.set_ow i g hp gp e' r)⟩
theorem y2o(i:Nat){x:Str}(hN:X.N.Nodup)(he:ME X e f)(hi:X.N[i]?=some x:=by rfl)(hx:Loc X.env.scope x:=by first | exact Or.inl rfl | exact Or.inr rfl)(hs:swapsWith e (some (.Name x pos')) pos.line X.env=pure false:=by rfl)
 (hf:X.fn x=true\/X.env.scope.names.lookup x=some .local:=by first | exact .inl rfl | exact .inr rfl):MS X (.Assign [.Name x pos'] e pos) (sSet i f):=PS.imp (Ypd hN hi hx he hs hf) fun _ _ _ h=>y7v h
theorem y7x(i:Nat){x:Str}(hN:X.N.Nodup)(he:MF X e gl)(hi:X.N[i]?=some x:=by rfl)(hx:Loc X.env.scope x:=by first | exact Or.inl rfl | exact Or.inr rfl)(hs:swapsWith e (some (.Name x pos')) pos.line X.env=pure false:=by rfl)
 (hf:X.fn x=true\/X.env.scope.names.lookup x=some .local:=by first | exact .inl rfl | exact .inr rfl):MS X (.Assign [.Name x pos'] e pos) (sOwn i gl):=PS.imp (Ypd hN hi hx he hs hf) fun _ _ _ h=>y7w h
def sRet(f:Ro->Option D):Ro->Option Out:=fun ρ=>(f ρ).map .rt
theorem y7y(he:ME X e f):MS X (.Return (some e) pos) (sRet f):=PS.imp (y6f he) fun F σ H hx_=>by
 obtain⟨ρ,out,H0,G0,G,e,s,h⟩:=hx_
 obtain⟨d,h1,rfl⟩:=qc e
 exact tOf.at h1 s fun v H1 G1 g1 r1 s1=>h v H1 G1 s1.gr r1
def sIf(c:Ro->Option Bool)(f g:Ro->Option Out):Ro->Option Out:=fun ρ=>(c ρ).bind fun k=>if k=true then f ρ else g ρ
theorem Yaam{c:Expr}{a b:List Stmt}{fc:Ro->Option Bool}(hc:MT X c fc)(ha:MB X a fs)(hb:MB X b gs):MS X (.If c a b pos) (sIf fc fs gs):=PS.imp (y9u hc ha hb) fun F σ H hx_=>by
 obtain⟨ρ,out,H0,G0,G,e,s,h⟩:=hx_
 unfold sIf at e
 obtain⟨k,h1,e⟩:=qa e
 refine tTof.at h1 s fun H1 G1 g1 s1=>?_
 cases k with
 | true=>
   rw[if_pos rfl]at e ⊢
   exact⟨ρ,out,H0,G0,G1,e,s1,h⟩
 | false=>
   rw[if_neg qi]at e ⊢
   exact⟨ρ,out,H0,G0,G1,e,s1,h⟩
def sInc(i:Nat)(f:Ro->Option D):Ro->Option Out:=fun ρ=>(getV i ρ).bind fun x=>(f ρ).bind fun y=>(i2 (fun _ _=>true) (fun a b=>a+b) x y).map fun z=>.nx (ρ.set i (some (.sh z)))
theorem y7z(i:Nat){x:Str}(hN:X.N.Nodup)(he:MC X e f)(hi:X.N[i]?=some x:=by rfl)(hx:Loc X.env.scope x:=by first | exact Or.inl rfl | exact Or.inr rfl)
 (hf:X.fn x=true\/X.env.scope.names.lookup x=some .local:=by first | exact .inl rfl | exact .inr rfl):MS X (.AugAssign (.Name x pos') .Add e pos) (sInc i f):=PS.imp (y6h hN hi hx he y6i) fun F σ H hx_=>by
 obtain⟨ρ,out,H0,G0,G,e,s,h⟩:=hx_
 unfold sInc at e
 obtain⟨dx,h1,e⟩:=qa e
 obtain⟨dy,h2,e⟩:=qa e
 obtain⟨dz,h3,rfl⟩:=qc e
 obtain⟨v,hv,rv⟩:=s.sh i dx (Yps h1)
 refine⟨v,hv,tCof.at h2 s fun u H1 G1 g1 r1 s1=>?_⟩
 have h4:∃p q,dx=.int p/\dy=.int q/\dz=.int (p+q):=by
  unfold i2 at h3
  split at h3
  ·rw[if_pos rfl]at h3
   cases h3
   exact⟨_,_,rfl,rfl,rfl⟩
  ·cases h3
 obtain⟨p,q,rfl,rfl,rfl⟩:=h4
 rw[Rp]at rv
 rw[Ct]at r1
 exact⟨p,q,rv,r1,h _ H1 G1 (s1.set_sh i (by rw[Rp]))⟩
def sMut(i:Nat)(f:Ro->Option D)(g:List D->D->Option (List D)):Ro->Option Out:=fun ρ=>(getO i ρ).bind fun l=>(f ρ).bind fun d=>(g l d).map fun l'=>.nx (ρ.set i (some (.ow l')))
theorem y2p{H0 G0 H G:Hp}{σ:L2.St}{ρ:Ro}{i:Nat}{l:List D}(s:SR K H0 G0 σ H G ρ)(h:getO i ρ=some l):∃a xs,σ[i]?=some (some (V.ref a))/\H a=some (.lst xs)/\RpL K G l xs/\G a=none:=by
 obtain⟨a,xs,h1,h2,h3,h4,h5⟩:=s.ow i l (Ykf h)
 exact⟨a,xs,h1,h4,h5,h2⟩
def appD(l:List D)(d:D):Option (List D):=if l.length < cap6 then some (l++[d])else none
theorem Yww(i:Nat){x:Str}{p2 apos cpos:Pos}(he:ME X e f)(hN:X.N[i]?=some x:=by rfl)(hv:Vis X.env.scope x:=by first | exact Or.inl rfl | exact Or.inr (Or.inl rfl) | exact Or.inr (Or.inr rfl))
 (hd:(x==("__debug__":Str))=false:=by decide) (hcd:(x==("__classdict__":Str))=false:=by decide) (hse:swapsWith (.Call (.Attribute (.Name x p2) "append" apos) [e] [] cpos) none pos.line X.env=pure false:=by rfl)
 (hs:starEach [e] X.env=[(false,eval e X.env)]:=by rfl)
 (hfew:((backTo cpos (starEach [e] X.env)).all (fun x=>!x.1)&&(backToKw cpos (keywordEach [] X.env)).all (fun x=>x.1.isSome)&&decide ([e].length+([]:List Keyword).length+(if ([]:List Keyword).isEmpty then 0 else 1) < 30))=true:=by rfl)
 (hline:(apos.endLine==cpos.line)=true:=by rfl) (hbase:attributeBase (.Name x p2) "append" X.env (eval (.Name x p2) X.env)=eval (.Name x p2) X.env:=by rfl) :
 MS X (.Expr (.Call (.Attribute (.Name x p2) "append" apos) [e] [] cpos) pos) (sMut i f appD):=
 PS.imp (Yrm (y3v PySem.F.plainAttrs_list PySem.F.slot_list_append PySem.F.type_list_append Ypn (Yme hN hv hd hcd) (Yf1 he Yj8 hs) hbase hfew hline hs rfl) hse) fun F σ H hx_=>by
  obtain⟨ρ,out,H0,G0,G,e,s,h⟩:=hx_
  unfold sMut at e
  obtain⟨l,h1,e⟩:=qa e
  obtain⟨d,h2,e⟩:=qa e
  obtain⟨l',h3,rfl⟩:=qc e
  unfold appD at h3
  split at h3
  ·rename_i hl
   cases h3
   obtain⟨a,xs,ha,hH,hr,hG⟩:=y2p s h1
   refine⟨_,ha,.inl ⟨rfl,xs,SqL.of hH⟩,tOf.at h2 s fun v H1 G1 g1 r1 s1=>?_⟩
   refine⟨a,xs,v,rfl,rfl,g1.h _ _ hH,?_,h σ _ G1 (s1.mut (Ykf h1) ha ((hr.mono g1.g).append (.one r1)))⟩
   rw[hr.length]
   exact Qi hl (Yeo (qu _))
  ·cases h3
theorem Ywx{J:It}{G':Hp}{ds:List D}(hz:ds.length<=sizeLine)(h:∀(i:Nat) H2 G2,Same G' G2->Same G2 H2->(∀d,ds[i]?=some d->J.go i H2/\∀y H3,J.yld i H2 y H3->H3=H2/\Rp K G2 d y)/\(ds.length<=i->J.stop i H2)):Wk K J G' ds:=
 ⟨hz,fun i H2 G2 s1 s2=>⟨fun d hd=>⟨((h i H2 G2 s1 s2).1 d hd).1,fun y H3 q=>by
  obtain⟨rfl,r⟩:=((h i H2 G2 s1 s2).1 d hd).2 y H3 q
  exact⟨G2,.refl s2,r⟩⟩,(h i H2 G2 s1 s2).2⟩⟩
variable {tg:Expr}
def iSeq(K:W.Frag)(tl:TE):TI:=fun σ H R=>tl σ H fun x H1=>∃a xs,x=.ref a/\((SqL K H1 a xs/\(xs.length<=sizeLine->R (Itl K a) H1))\/(SqT K H1 a xs/\(xs.length<=sizeLine->R (Itt K a) H1)))
theorem y70{l:Expr}{tl:TE}(hl:PE X l tl):PI X tg l (iSeq X.K tl):=by
 intro pins s σ H R I h
 refine thn (hl pins s σ H _ I h) fun v s1 hx_=>?_
 obtain⟨x,H1,I1,r1,q1⟩:=hx_
 obtain⟨a,xs,e,q1⟩:=q1
 subst e
 cases r1
 rcases q1 with⟨hq,q⟩ | ⟨hq,q⟩
 ·obtain⟨its,rv,p,hz⟩:=I1.list hq
  refine wpAny_pyIter_list p.isList ?_
  refine⟨s1.heap.objs.size,[s1.heap.objs.size],_,_,H1,rfl,I1.kept (t':=s1.toks) fun b o e=>qe _ e,Yvy a _,⟨_,qp _ rfl,rfl,rfl⟩,fun b hb=>?_,q hz⟩
  have e:b=s1.heap.objs.size:=by simpa using hb
  subst e
  exact I1.fpOk (qu _) (I1.hok.fresh (qu _))
 ·obtain⟨its,rv,p,hz⟩:=I1.tuple hq
  refine wpAny_pyIter_tuple (show s1.heap.IsTuple a its.toArray from p) ?_
  refine⟨s1.heap.objs.size,[s1.heap.objs.size],_,_,H1,rfl,I1.kept (t':=s1.toks) fun b o e=>qe _ e,Yul a _,⟨_,qp _ rfl,rfl,rfl⟩,fun b hb=>?_,q hz⟩
  have e:b=s1.heap.objs.size:=by simpa using hb
  subst e
  exact I1.fpOk (qu _) (I1.hok.fresh (qu _))
theorem y71{l:Expr}(hl:ME X l f):MI X tg l (b1 f Yn):=PI.imp (y70 hl) fun σ H R hx_=>by
 obtain⟨ρ,ds,H0,G0,G,e,s,h⟩:=hx_
 obtain⟨c,h1,h2⟩:=Ycr e
 refine tOf.at h1 s fun v H1 G1 g1 r1 s1=>?_
 rcases Ya9 h2 with rfl | rfl | ⟨ns,rfl,rfl⟩
 ·rw[Rp]at r1
  obtain⟨p,xs,rfl,g,rl⟩:=r1
  refine⟨p,xs,rfl,.inr ⟨.inl (.inl (s1.seen _ _ g)),fun hz=>h _ H1 G1 g1 (Ywx (by rw[<-rl.length];exact hz) fun i H2 G2 e1 e2=>⟨fun d hd=>?_,fun hi=>⟨xs,.inl (.inl (e2 _ _ (e1 _ _ g))),by rw[rl.length];exact hi⟩⟩)⟩⟩
  obtain⟨x,hx,rx⟩:=rl.get hd
  refine⟨⟨xs,x,.inl (.inl (e2 _ _ (e1 _ _ g))),hx⟩,fun y H3 q=>⟨q.1,?_⟩⟩
  have:=q.2 xs (.inl (.inl (e2 _ _ (e1 _ _ g))))
  rw[hx]at this
  cases this
  exact rx.mono e1
 ·rw[Rp]at r1
  obtain⟨p,xs,rfl,g,rl⟩:=r1
  refine⟨p,xs,rfl,.inl ⟨.inl (Ydg s1.seen g),fun hz=>h _ H1 G1 g1 (Ywx (by rw[<-rl.length];exact hz) fun i H2 G2 e1 e2=>⟨fun d hd=>?_,fun hi=>⟨xs,.inl (Ydg e2 (Ydg e1 g)),by rw[rl.length];exact hi⟩⟩)⟩⟩
  obtain⟨x,hx,rx⟩:=rl.get hd
  refine⟨⟨xs,x,.inl (Ydg e2 (Ydg e1 g)),hx⟩,fun y H3 q=>⟨q.1,?_⟩⟩
  have:=q.2 xs (.inl (Ydg e2 (Ydg e1 g)))
  rw[hx]at this
  cases this
  exact rx.mono e1
 ·rw[Rp]at r1
  obtain⟨p,rfl,g⟩:=r1
  have rl:RpL X.K G1 (ns.map D.int) (ns.map V.int):=.ints ns
  refine⟨p,_,rfl,.inl ⟨s1.seen.seq g,fun hz=>h _ H1 G1 g1 (Ywx (by rw[<-rl.length];exact hz) fun i H2 G2 e1 e2=>⟨fun d hd=>?_,fun hi=>⟨_,e2.seq (e1.seq g),by rw[rl.length];exact hi⟩⟩)⟩⟩
  obtain⟨x,hx,rx⟩:=rl.get hd
  refine⟨⟨_,x,e2.seq (e1.seq g),hx⟩,fun y H3 q=>⟨q.1,?_⟩⟩
  have:=q.2 _ (e2.seq (e1.seq g))
  rw[hx]at this
  cases this
  exact rx.mono e1
def rngD(a n:Int):List D:=(List.range (n - a).toNat).map fun i=>.int (a+(i:Nat))
theorem Ykj(a n:Int):(rngD a n).length=(n - a).toNat:=by simp[rngD]
theorem y2q{a n:Int}{G':Hp}(hz:(n - a).toNat<=sizeLine):Wk K (Itr a (n - a).toNat) G' (rngD a n):=
 Ywx (by rw[Ykj];exact hz) fun i H2 G2 _ _=>⟨fun d hd=>by
  unfold rngD at hd
  rw[Qg]at hd
  obtain⟨j,h1,rfl⟩:=qc hd
  have hj:i < (n - a).toNat:=by
   have:=(qo h1).1
   simpa using this
  rw[List.getElem?_range hj]at h1
  cases h1
  exact⟨hj,fun y H3 q=>⟨q.1,by rw[Rp];exact q.2⟩⟩,fun hi=>by rw[Ykj]at hi;exact hi⟩
def rng1:List D->Option (List D)
 | [.int n]=>if decide (-(cap6:Int)<=n)&&decide (n<=cap6)then some (rngD 0 n)else none
 | _=>none
def rng2:List D->Option (List D)
 | [.int a,.int n]=>if decide (-(cap6:Int)<=a)&&decide (a<=cap6)&&decide (-(cap6:Int)<=n)&&decide (n<=cap6)then some (rngD a n)else none
 | _=>none
theorem Ywy{l ds:List D}(h:rng1 l=some ds):∃n:Int,l=[.int n]/\-1000000<=n/\n<=1000000/\ds=rngD 0 n:=by
 unfold rng1 at h
 split at h
 ·rename_i n
  split at h
  ·rename_i hc
   cases h
   simp only[Qf,decide_eq_true_eq]at hc
   have hcap:(cap6:Int)=1000000:=by decide
   exact⟨n,rfl,by lia,by lia,rfl⟩
  ·cases h
 ·cases h
theorem Ywz{l ds:List D}(h:rng2 l=some ds):∃a n:Int,l=[.int a,.int n]/\-1000000<=a/\a<=1000000/\-1000000<=n/\n<=1000000/\ds=rngD a n:=by
 unfold rng2 at h
 split at h
 ·rename_i a n
  split at h
  ·rename_i hc
   cases h
   simp only[Qf,decide_eq_true_eq]at hc
   have hcap:(cap6:Int)=1000000:=by decide
   exact⟨a,n,rfl,by lia,by lia,by lia,by lia,rfl⟩
  ·cases h
 ·cases h
theorem Yw0{a:Expr}{ga:Ro->Option (List D)}{p:Pos}(hg:Gl X "range")(hm:X.mg "range"=none)(ha:MA X [a] ga)(hs:starEach [a] X.env=[(false,eval a X.env)]:=by rfl):MI X tg (.Call (.Name "range" p) [a] [] pos) (cF ga rng1):=
 PI.imp (Yvz hg hm ha hs) fun σ H R hx_=>by
  obtain⟨ρ,ds,H0,G0,G,e,s,h⟩:=hx_
  unfold cF at e
  obtain⟨l,h1,h2⟩:=qa e
  refine tAof.at h1 s fun vs H1 G1 g1 r1 s1=>?_
  obtain⟨n,rfl,c1,c2,rfl⟩:=Ywy h2
  obtain⟨v,rfl,rv⟩:=Yki r1
  rw[Rp]at rv
  subst rv
  refine⟨n,rfl,by lia,by lia,?_⟩
  have:=h (Itr 0 (n - 0).toNat) H1 G1 g1 (y2q (Yeo (by unfold cap6;lia)))
  simpa using this
theorem Yw1{a b:Expr}{ga:Ro->Option (List D)}{p:Pos}(hg:Gl X "range")(hm:X.mg "range"=none)(ha:MA X [a,b] ga)(hs:starEach [a,b] X.env=[(false,eval a X.env),(false,eval b X.env)]:=by rfl)(hs2:starEach [b] X.env=[(false,eval b X.env)]:=by rfl) :
 MI X tg (.Call (.Name "range" p) [a,b] [] pos) (cF ga rng2):=
 PI.imp (Yv0 hg hm ha hs hs2) fun σ H R hx_=>by
  obtain⟨ρ,ds,H0,G0,G,e,s,h⟩:=hx_
  unfold cF at e
  obtain⟨l,h1,h2⟩:=qa e
  refine tAof.at h1 s fun vs H1 G1 g1 r1 s1=>?_
  obtain⟨a,n,rfl,c1,c2,c3,c4,rfl⟩:=Ywz h2
  rw[RpL]at r1
  obtain⟨x,r,rfl,rx,r1⟩:=r1
  obtain⟨y,rfl,ry⟩:=Yki r1
  rw[Rp]at rx ry
  subst rx;subst ry
  exact⟨a,n,rfl,⟨by lia,by lia,by lia,by lia⟩,h _ H1 G1 g1 (y2q (Qj (by lia:(n - a).toNat<=2000000) (by rw[sizeLine_eq];decide)))⟩
def gSet(i:Nat):D->Ro->Option Ro:=fun d ρ=>some (ρ.set i (some (.sh d)))
theorem y4g(i:Nat){x:Str}(hN:X.N.Nodup)(hi:X.N[i]?=some x:=by rfl)(hx:Loc X.env.scope x:=by first | exact Or.inl rfl | exact Or.inr rfl)(hf:X.fn x=true\/X.env.scope.names.lookup x=some .local:=by first | exact .inl rfl | exact .inr rfl):MG X (.Name x pos) (gSet i):=
 PG.imp (Ym5 hN hi hx hf) fun v σ H Q hx_=>by
  obtain⟨d,ρ,ρ',H0,G0,G,e,s,r,h⟩:=hx_
  cases e
  exact h _ (s.set_sh i r)
def forM(gt:D->Ro->Option Ro)(fb:Ro->Option Out):List D->Ro->Option Out
 | [],ρ=>some (.nx ρ)
 | d::ds,ρ=>(gt d ρ).bind fun ρ1=>(fb ρ1).bind fun
   | .nx ρ2=>forM gt fb ds ρ2
   | .ct ρ2=>forM gt fb ds ρ2
   | .bk ρ2=>some (.nx ρ2)
   | .rt d=>some (.rt d)
def sFor(gl:Ro->Option (List D))(gt:D->Ro->Option Ro)(fb:Ro->Option Out):Ro->Option Out:=fun ρ=>(gl ρ).bind fun ds=>forM gt fb ds ρ
theorem Yg7{gt:D->Ro->Option Ro}{fb:Ro->Option Out}:∀(ds:List D) (ρ:Ro) (out:Out),forM gt fb ds ρ=some out->(∃ρ',out=.nx ρ')\/∃d,out=.rt d
 | [],ρ,out,h=>by cases h;exact .inl ⟨_,rfl⟩
 | d::ds,ρ,out,h=>by
   rw[forM]at h
   obtain⟨ρ1,h1,h⟩:=qa h
   obtain⟨o,h2,h⟩:=qa h
   cases o with
   | nx ρ2=>exact Yg7 ds ρ2 out h
   | ct ρ2=>exact Yg7 ds ρ2 out h
   | bk ρ2=>cases h;exact .inl ⟨_,rfl⟩
   | rt d=>cases h;exact .inr ⟨_,rfl⟩
theorem y72{iter:Expr}{body:List Stmt}{gt:D->Ro->Option Ro}(hp:PassesOwn (model X.prog X.w) X.A X.env X.xe)(hc:X.calm=true)(hi:MI X tg iter gl)(hg:MG X tg gt)(hb:MB X body fs)
 (hs:∀x,foldedSetIterable iter X.env x=pure x:=by intro _;rfl):MS X (.For tg iter body [] pos) (sFor gl gt fs):=
 PS.imp (y6k hp hc hi hg hb hs) fun F σ H hx_=>by
  obtain⟨ρ,out,H0,G0,G,e,s,h⟩:=hx_
  unfold sFor at e
  obtain⟨ds,h1,h2⟩:=qa e
  refine⟨ρ,ds,H0,G0,G,h1,s,fun J H1 G1 g1 wk=>?_⟩
  obtain⟨Hb,sb,back⟩:=(s.grow g1).rebase
  have hout:=Yg7 ds ρ out h2
  refine⟨fun i m σ' H'=>m=ds.length - i/\i<=ds.length/\∃ρ' G',SR X.K Hb G1 σ' H' G' ρ'/\forM gt fs (ds.drop i) ρ'=some out,⟨_,rfl,Qh _,ρ,G1,sb,h2⟩,?_⟩
  rintro i m σ' H' ⟨rfl,hi,ρ',G',s',e'⟩
  have W:=wk.2 i H' G' s'.gr.g s'.seen
  by_cases hlt:i < ds.length
  ·have hd:ds[i]?=some ds[i]:=qq hlt
   obtain⟨go,yl⟩:=W.1 _ hd
   rw[List.drop_eq_getElem_cons hlt,forM]at e'
   obtain⟨ρ1,e1,e'⟩:=qa e'
   obtain⟨o,e2,e'⟩:=qa e'
   refine .inr ⟨go,fun σ' H'=>i+1<=ds.length/\∃ρ' G',SR X.K Hb G1 σ' H' G' ρ'/\forM gt fs (ds.drop (i+1)) ρ'=some out,fun σ2 H2 q=>⟨ds.length - (i+1),by lia,rfl,q.1,q.2⟩,fun x H2 y=>?_⟩
   obtain⟨G2,g2,r2⟩:=yl x H2 y
   refine⟨_,ρ',ρ1,Hb,G1,G2,e1,s'.grow g2,r2,fun σ3 s3=>?_⟩
   refine⟨ρ1,o,Hb,G1,G2,e2,s3,?_⟩
   cases o with
   | nx ρ2=>exact fun σ4 H4 G4 s4=>⟨hlt,ρ2,G4,s4,e'⟩
   | ct ρ2=>exact fun σ4 H4 G4 s4=>⟨hlt,ρ2,G4,s4,e'⟩
   | bk ρ2=>
     cases e'
     exact fun σ4 H4 G4 s4=>h σ4 H4 G4 (back _ _ _ _ s4)
   | rt d=>
     cases e'
     refine fun v H4 G4 g4 r4=>h v H4 G4 ?_ r4
     have:=(back [] H4 G4 [] (SR.mkSh g4 rfl (fun i d e=>(by simp at e)) (fun i l e=>(by simp at e)) (fun i t ks vs e=>(by simp at e)))).gr
     exact this
  ·have ei:i=ds.length:=by lia
   subst ei
   rw[List.drop_length,forM]at e'
   cases e'
   exact .inl ⟨W.2 (qu _),h σ' H' G' (back _ _ _ _ s')⟩
def Ydk(fc:Ro->Option Bool)(fb:Ro->Option Out):Nat->Ro->Option Out
 | 0,_=>none
 | n+1,ρ=>(fc ρ).bind fun k=>if k=true then (fb ρ).bind fun
  | .nx ρ2=>Ydk fc fb n ρ2
  | .ct ρ2=>Ydk fc fb n ρ2
  | .bk ρ2=>some (.nx ρ2)
  | .rt d=>some (.rt d)
  else some (.nx ρ)
theorem y0p{c:Expr}{body:List Stmt}{fc:Ro->Option Bool}(n:Nat)(hp:PassesOwn (model X.prog X.w) X.A X.env X.xe)(hc:MT X c fc)(hb:MB X body fs):MS X (.While c body [] pos) (Ydk fc fs n):=
 PS.imp (Yz5 hp hc hb) fun F σ H hx_=>by
  obtain⟨ρ,out,H0,G0,G,e,s,h⟩:=hx_
  refine⟨fun m σ' H'=>∃ρ' G',SR X.K H0 G0 σ' H' G' ρ'/\Ydk fc fs m ρ'=some out,⟨n,ρ,G,s,e⟩,?_⟩
  rintro m σ' H' ⟨ρ',G',s',e'⟩
  cases m with
  | zero=>cases e'
  | succ m=>
    rw[Ydk]at e'
    obtain⟨k,e1,e'⟩:=qa e'
    refine tTof.at e1 s' fun H1 G1 g1 s1=>?_
    cases k with
    | false=>
      rw[if_neg qi]at e'
      cases e'
      exact h σ' H1 G1 s1
    | true=>
      rw[if_pos rfl]at e'
      obtain⟨o,e2,e'⟩:=qa e'
      refine⟨fun σ' H'=>∃ρ' G',SR X.K H0 G0 σ' H' G' ρ'/\Ydk fc fs m ρ'=some out,fun σ2 H2 q=>⟨m,qz m,q⟩,?_⟩
      refine⟨ρ',o,H0,G0,G1,e2,s1,?_⟩
      cases o with
      | nx ρ2=>exact fun σ4 H4 G4 s4=>⟨ρ2,G4,s4,e'⟩
      | ct ρ2=>exact fun σ4 H4 G4 s4=>⟨ρ2,G4,s4,e'⟩
      | bk ρ2=>cases e';exact h
      | rt d=>cases e';exact h
def capR(src:List (Option Nat))(ρ:Ro):Ro:=src.map fun o=>o.bind fun j=>match ρ[j]? with
 | some (some (B.sh d))=>some (.sh d)
 | _=>none
theorem SR.cap{H0 G0 H G:Hp}{σ:L2.St}{ρ:Ro}(s:SR K H0 G0 σ H G ρ)(src:List (Option Nat)):SR K H G (capσ src σ) H G (capR src ρ):=by
 have noow:∀(i:Nat) l,(capR src ρ)[i]?≠some (some (B.ow l)):=fun i l h=>by
  unfold capR at h
  rw[Qg]at h
  obtain⟨o,h1,h2⟩:=qc h
  obtain⟨j,rfl,h3⟩:=qa h2
  split at h3<;>cases h3
 have nood:∀(i:Nat) t ks vs,(capR src ρ)[i]?≠some (some (B.od t ks vs)):=fun i t ks vs h=>by
  unfold capR at h
  rw[Qg]at h
  obtain⟨o,h1,h2⟩:=qc h
  obtain⟨j,rfl,h3⟩:=qa h2
  split at h3<;>cases h3
 refine SR.mkSh (.refl s.seen) (by simp[capσ,capR]) (fun i d h=>?_) noow nood
 unfold capR at h
 rw[Qg]at h
 obtain⟨o,h1,h2⟩:=qc h
 obtain⟨j,rfl,h3⟩:=qa h2
 split at h3
 ·rename_i d' hd
  cases h3
  obtain⟨v,q1,q2⟩:=s.sh j _ hd
  refine⟨v,?_,q2⟩
  unfold capσ
  rw[Qg,h1]
  show some ((σ[j]?).join)=some (some v)
  rw[q1]
  rfl
 ·cases h3
def Yeb(gt:D->Ro->Option Ro)(fc:Ro->Option Bool)(fe:Ro->Option D)(ρ:Ro):List D->Option (List D)
 | []=>some []
 | d::ds=>(gt d ρ).bind fun ρ1=>(fc ρ1).bind fun k=>if k=true then (fe ρ1).bind fun v=>(Yeb gt fc fe ρ ds).map (v::·)else Yeb gt fc fe ρ ds
def Ybq(gl:Ro->Option (List D))(src:List (Option Nat))(gt:D->Ro->Option Ro)(fc:Ro->Option Bool)(fe:Ro->Option D):Ro->Option (List D):=fun ρ=>(gl ρ).bind fun ds=>Yeb gt fc fe (capR src ρ) ds
def tY:Ro->Option Bool:=fun _=>some true
theorem y4h{σ:L2.St}{H:Hp}{Q:Bool->Hp->Prop}(h:tTof K tY σ H Q):tYes σ H Q:=by
 obtain⟨ρ,k,H0,G0,G,e,s,h⟩:=h
 cases e
 exact h H G (.refl s.seen)
theorem y73:PIfs X [] (tTof X.K tY):=fun pins s σ H Q I h=>y3x pins s σ H Q I (y4h h)
theorem Yau{src:List (Option Nat)}{i:Nat}(h:src[i]?=some none):∀ρ d ρ1,gSet i d (capR src ρ)=some ρ1->Le (capR src ρ) ρ1:=fun ρ d ρ1 e=>by
 cases e
 refine⟨by simp,fun j b hb=>?_⟩
 by_cases hj:j=i
 ·subst hj
  unfold capR at hb
  rw[Qg,h]at hb
  cases hb
 ·rw[Qe (Ne.symm hj)];exact hb
theorem Yw2{src:List (Option Nat)}{gt:D->Ro->Option Ro}{fc:Ro->Option Bool}{fe:Ro->Option D}(hle:∀ρ d ρ1,gt d (capR src ρ)=some ρ1->Le (capR src ρ) ρ1){σ:L2.St}{H:Hp}{Q:VK}
 (h:tFof K (Ybq gl src gt fc fe) σ H Q):tLC (tIof K gl) src (gOf K gt) (tTof K fc) (tOf K fe) σ H Q:=by
 obtain⟨ρ,l,H0,G0,G,e,s,h⟩:=h
 unfold Ybq at e
 obtain⟨ds,h1,h2⟩:=qa e
 refine⟨ρ,ds,H0,G0,G,h1,s,fun J H1 G1 g1 wk p hp=>?_⟩
 have s1:=s.grow g1
 have sc:=s1.cap src
 have gp:G1 p=none:=s1.seen.free hp
 refine⟨fun i m σ' H'=>m=ds.length - i/\i<=ds.length/\∃G' done xs rest,SR K H1 G1 σ' H' G' (capR src ρ)/\H' p=some (.lst xs)/\G' p=none/\RpL K G' done xs/\xs.length<=i/\Yeb gt fc fe (capR src ρ) (ds.drop i)=some rest/\done++rest=l,
  ⟨_,rfl,Qh _,G1,[],[],l,sc.grow (Gr.hid s1.seen hp _),Yw,gp,.nil,Qh _,h2,rfl⟩,?_⟩
 rintro i m σ' H' ⟨rfl,hi,G',done,xs,rest,s',hx,gx,rx,hl,e',hd⟩
 have W:=wk.2 i H' G' s'.gr.g s'.seen
 by_cases hlt:i < ds.length
 ·have hdi:ds[i]?=some ds[i]:=qq hlt
  obtain⟨go,yl⟩:=W.1 _ hdi
  rw[List.drop_eq_getElem_cons hlt,Yeb]at e'
  obtain⟨ρ1,e1,e'⟩:=qa e'
  obtain⟨k,e2,e'⟩:=qa e'
  refine .inr ⟨go,fun x H2 y=>?_⟩
  obtain⟨G2,g2,r2⟩:=yl x H2 y
  have keep:∀{Ha Ga Hb Gb:Hp},Gr Ha Ga Hb Gb->Ha p=some (.lst xs)->Ga p=none->Hb p=some (.lst xs)/\Gb p=none:=fun {Ha Ga Hb Gb} g e1 e2=>by
   refine⟨g.h _ _ e1,?_⟩
   cases q:Gb p with
   | none=>rfl
   | some o=>
     have:=g.n p e2 (by rw[q];exact fun z=>nomatch z)
     rw[e1]at this
     cases this
  obtain⟨hx2,gx2⟩:=keep g2 hx gx
  refine⟨_,capR src ρ,ρ1,H1,G1,G2,e1,s'.grow g2,r2,fun σ3 s3=>?_⟩
  refine tTof.at e2 s3 fun H4 G4 g4 s4=>?_
  obtain⟨hx4,gx4⟩:=keep g4 hx2 gx2
  have le:=hle ρ _ ρ1 e1
  cases k with
  | false=>
    rw[if_neg qi]at e' ⊢
    exact⟨ds.length - (i+1),by lia,rfl,hlt,G4,done,xs,rest,s4.le le,hx4,gx4,(rx.mono g2.g).mono g4.g,by lia,e',hd⟩
  | true=>
    rw[if_pos rfl]at e' ⊢
    obtain⟨v,e3,e'⟩:=qa e'
    obtain⟨rest',e4,rfl⟩:=qc e'
    refine tOf.at e3 s4 fun w H5 G5 g5 r5 s5=>?_
    obtain⟨hx5,gx5⟩:=keep g5 hx4 gx4
    have hz:=wk.1
    refine⟨xs,hx5,by lia,ds.length - (i+1),by lia,rfl,hlt,G5,done++[v],xs++[w],rest',?_,Yw,gx5,(((rx.mono g2.g).mono g4.g).mono g5.g).append (.one r5),by simp;lia,e4,by simpa using hd⟩
    have s6:=s5.le le
    have noow:∀(i:Nat) l,(capR src ρ)[i]?≠some (some (B.ow l)):=fun i l h=>by
     unfold capR at h
     rw[Qg]at h
     obtain⟨o,h1,h2⟩:=qc h
     obtain⟨j,rfl,h3⟩:=qa h2
     split at h3<;>cases h3
    have nood:∀(i:Nat) t ks vs,(capR src ρ)[i]?≠some (some (B.od t ks vs)):=fun i t ks vs h=>by
     unfold capR at h
     rw[Qg]at h
     obtain⟨o,h1,h2⟩:=qc h
     obtain⟨j,rfl,h3⟩:=qa h2
     split at h3<;>cases h3
    refine SR.mkSh ⟨fun b o q=>?_,s6.gr.g,fun b o q=>?_,s6.gr.n⟩ s6.len s6.sh noow nood
    ·rw[Yab (y0 q hp)];exact s6.gr.h b o q
    ·rw[Yab (y0 q gx5)];exact s6.gr.s b o q
 ·have ei:i=ds.length:=by lia
  subst ei
  rw[List.drop_length,Yeb]at e'
  cases e'
  rw[List.append_nil]at hd
  subst hd
  exact .inl ⟨W.2 (qu _),h p xs H' G' (g1.trans s'.gr) (g1.h.free hp) gx hx rx⟩
section
variable {elt iter:Expr} {ifs:List Expr} {scope:Scope} {N:List Str} {src:List (Option Nat)} {gt:D->Ro->Option Ro} {fc:Ro->Option Bool} {fe:Ro->Option D}
theorem y4i(S:CompSc X.N X.env.scope N src scope)(hc:X.calm=true)(hit:MI X tg iter gl)(hg:∀cl C fp s H,MG (Ya3 X scope N cl C fp s H) tg gt)(hi:∀cl C fp s H,PIfs (Ya3 X scope N cl C fp s H) ifs (tTof X.K fc))(he:∀cl C fp s H,ME (Ya3 X scope N cl C fp s H) elt fe)
 (hle:∀ρ d ρ1,gt d (capR src ρ)=some ρ1->Le (capR src ρ) ρ1) (hs:∀x,foldedSetIterable iter X.env x=pure x:=by intro _;rfl):MF X (.ListComp elt [⟨tg,iter,ifs,0⟩] scope pos) (Ybq gl src gt fc fe):=
 PE.imp (y3z S hc hit hg hi he hs) fun _ _ _ h=>Yw2 hle h
theorem y4j(i:Nat){y:Str}{py spos:Pos}(hN:X.N.Nodup)(S:CompSc X.N X.env.scope N src scope)(hc:X.calm=true)(hit:MI X tg iter gl)(hg:∀cl C fp s H,MG (Ya3 X scope N cl C fp s H) tg gt)(hi:∀cl C fp s H,PIfs (Ya3 X scope N cl C fp s H) ifs (tTof X.K fc))(he:∀cl C fp s H,ME (Ya3 X scope N cl C fp s H) elt fe)
 (hle:∀ρ d ρ1,gt d (capR src ρ)=some ρ1->Le (capR src ρ) ρ1) (hsw:swapsWith (.ListComp elt [⟨tg,iter,ifs,0⟩] scope pos) (some (.Name y py)) spos.line X.env=pure true:=by rfl) (hy:X.N[i]?=some y:=by rfl) (hx:Loc X.env.scope y:=by first | exact Or.inl rfl | exact Or.inr rfl)
 (hf:X.fn y=true\/X.env.scope.names.lookup y=some .local:=by first | exact .inl rfl | exact .inr rfl) (hs:∀x,foldedSetIterable iter X.env x=pure x:=by intro _;rfl):MS X (.Assign [.Name y py] (.ListComp elt [⟨tg,iter,ifs,0⟩] scope pos) spos) (sOwn i (Ybq gl src gt fc fe)):=
 PS.imp (y30 S hc hit hg hi he hN hy hx hsw hf hs) fun F σ H h=>by
  obtain⟨ρ,out,H0,G0,G,e,s,h⟩:=h
  obtain⟨l,h1,rfl⟩:=qc e
  exact Yw2 hle ⟨ρ,l,H0,G0,G,h1,s,fun p xs H' G' g hp gp e' r=>h _ H' G' (s.set_ow i g hp gp e' r)⟩
end
def Yq(n:Nat)(ds:List D):Ro:=ds.map (fun d=>some (.sh d))++List.replicate (n - ds.length) none
def runB(k n:Nat)(fb:Ro->Option Out)(ds:List D):Option D:=if ds.length=k then (fb (Yq n ds)).bind fun
 | .rt d=>some d
 | .nx _=>some .non
 | _=>none
 else none
theorem SR.start{H G:Hp}{ds:List D}{vs:List V}{N:List Str}(s:Same G H)(r:RpL K G ds vs):SR K H G (start N vs) H G (Yq N.length ds):=by
 have hl:=r.length
 have noow:∀(i:Nat) l,(Yq N.length ds)[i]?≠some (some (B.ow l)):=fun i l h=>by
  unfold Yq at h
  rw[List.getElem?_append]at h
  split at h
  ·rw[Qg]at h
   obtain⟨d,_,h2⟩:=qc h
   cases h2
  ·rw[List.getElem?_replicate]at h
   split at h<;>cases h
 have nood:∀(i:Nat) t ks vs,(Yq N.length ds)[i]?≠some (some (B.od t ks vs)):=fun i t ks vs h=>by
  unfold Yq at h
  rw[List.getElem?_append]at h
  split at h
  ·rw[Qg]at h
   obtain⟨d,_,h2⟩:=qc h
   cases h2
  ·rw[List.getElem?_replicate]at h
   split at h<;>cases h
 refine SR.mkSh (.refl s) (by simp[L2.start,Yq,hl]) (fun i d h=>?_) noow nood
 unfold Yq at h
 rw[List.getElem?_append]at h
 split at h
 ·rename_i hi
  rw[Qg]at h
  obtain⟨d',h1,h2⟩:=qc h
  cases h2
  obtain⟨v,h3,h4⟩:=r.get h1
  refine⟨v,?_,h4⟩
  unfold L2.start
  rw[Qr (by rw[qf,hl];simpa using hi),Qg,h3]
  rfl
 ·rw[List.getElem?_replicate]at h
  split at h<;>cases h
section
variable {P:Program} {w:World} {mg:Str->Option Value} {base:Heap}
theorem Yw3{x qual:Str}{st:Stmt}{f:Addr}{fd:FuncData}{N ps:List Str}{k n m:Nat}{fb:Ro->Option Out}(F:Fun K x qual st f fd)(S:FnScope N ps (defScope st))(hn:N.length=n)(hm:ps.length=m)
 (hb:∀(cdv:Value) (A:Around) (outer:List Env) (s:Shared) (H:Hp) (E:XK),Room k (A.deeper (envOfC qual (defScope st) s.heap.objs.size f cdv))->MB (cxOf CX0 P w K mg base N qual (defScope st) f cdv A outer s H E).nox (defBody st) fb) :
 FnOk P w K mg base CX0 (k+1) f fd ps (spOf K m (runB m n fb)):=by
 refine F.ok S (fun vs H Q E h=>by rw[h.1,hm]) fun cdv A outer s H vs Q E hr h=>?_
 obtain⟨hl,ds,d,G,sm,r,e,q⟩:=h
 refine⟨_,hb cdv A outer s H E hr,?_⟩
 unfold runB at e
 split at e
 ·rename_i hds
  obtain⟨o,h1,h2⟩:=qa e
  refine⟨Yq n ds,o,H,G,G,h1,by rw[<-hn];exact SR.start sm r,?_⟩
  cases o with
  | rt d'=>cases h2;exact fun v H' G' g r'=>q v H' G' g r'
  | nx ρ=>cases h2;exact fun σ' H' G' s'=>q .non H' G' s'.gr (by rw[Rp])
  | bk ρ=>cases h2
  | ct ρ=>cases h2
 ·cases e
end
end
end
section
variable {K:W.Frag}
def Okf(P:Program)(w:World)(K:W.Frag)(mg:Str->Option Value)(base:Heap)(k n:Nat)(x:Str)(ps:List Str)(fn:List D->Option D):Prop:=
 ∃a fd,FnOk P w K mg base CX0 k a fd ps (spOf K n fn)/\Binds K fd ps []/\W.keepIn K (.ref a)=true/\mg x=some (.ref a)
theorem y74{P:Program}{w:World}{K:W.Frag}{mg:Str->Option Value}{base:Heap}{k n:Nat}{x q:Str}{ps:List Str}{fn:List D->Option D}{st:Stmt}{a:Addr}{fd:FuncData}(F:Fun K x q st a fd)(b:Binds K fd ps [])
 (hm:mg x=some (.ref a)) (h:FnOk P w K mg base CX0 k a fd ps (spOf K n fn)):Okf P w K mg base k n x ps fn:=⟨a,fd,h,b,F.kp,hm⟩
section
variable {X:Cx} {a b e:Expr} {es:List Expr} {fa fb:Ro->Option D} {ga:Ro->Option (List D)} {pos:Pos}
theorem y0q{j k n:Nat}{x:Str}{p:Pos}{ps:List Str}{fn:List D->Option D}(c:Okf X.prog X.w X.K X.mg X.base j n x ps fn)(hr:Room k X.A)(hg:Gl X x)(ha:MA X (e::es) ga)(hl:∀ρ l,ga ρ=some l->l.length=n)
 (hj:j<=k:=by first | exact qu _ | lia) (hdb:(x==("__debug__":Str))=false:=by decide) (he:starEach (e::es) X.env=(false,eval e X.env)::starEach es X.env:=by rfl) (hpl:(backTo pos (starEach es X.env)).any (·.1)=false:=by rfl) :
 ME X (.Call (.Name x p) (e::es) [] pos) (cC ga fn):=by
 obtain⟨a,fd,F,hb,hk,hm⟩:=c
 exact y4d F (hr.mono hj) hg hm hk hb ha hdb he hpl hl
theorem y75(ha:MC X a fa)(hb:MC X b fb):ME X (.BinOp a .Add b pos) (b2 fa fb addI):=Yml y6l Ywn ha hb
def negI:D->Option D
 | .int i=>some (.int (-i))
 | _=>none
theorem y76(ha:MC X a fa):ME X (.UnaryOp .USub a pos) (b1 fa negI):=PE.imp (y9y y6q ha) fun σ H Q hx_=>by
 obtain⟨ρ,d,H0,G0,G,e,s,h⟩:=hx_
 obtain⟨x,h1,h2⟩:=Ycr e
 refine tCof.at h1 s fun v H1 G1 g1 r1 s1=>?_
 cases x<;>simp[negI]at h2
 subst h2
 rw[Ct]at r1
 exact⟨_,r1,h _ H1 G1 g1 (by rw[Rp])⟩
def catD:D->D->Option (List D)
 | .lst a,.lst b=>if a.length+b.length<=cap6 then some (a++b)else none
 | _,_=>none
def Yaan:R2:=fun x y H Q=>∃l b xs zs,x=.ref l/\y=.ref b/\Rd H l (.lst xs)/\Rd H b (.lst zs)/\xs.length+zs.length<=sizeLine/\∀p,H p=none->Q (.ref p) (upd H p (.lst (xs++zs)))
theorem y4k:OpR X (binaryOp .Add) Yaan:=by
 intro pins s σ H x y v u Q I rx ry h
 obtain⟨l,b,xs,zs,rfl,rfl,hH,hB,hz,q⟩:=h
 cases rx
 cases ry
 obtain⟨z,its,n,r,e⟩:=hH.ok I.hok
 obtain⟨z2,its2,n2,r2,e2⟩:=hB.ok I.hok
 have hl:=r.length
 have hl2:=r2.length
 refine PySem.P.add_list e e2 ?_ (by rw[qk,qk];lia)
 have ea:its.toArray++its2.toArray=(its++its2).toArray:=by simp
 rw[ea]
 exact⟨.ref _,_,I.lnew (t':=s.toks) (r.append r2) (by rw[qy];lia),rfl,q _ I.fresh⟩
theorem y77(ha:MC X a fa)(hb:MC X b fb):MF X (.BinOp a .Add b pos) (b2 fa fb catD):=PE.imp (y3h y4k ha hb) fun σ H Q hx_=>by
 obtain⟨ρ,l,H0,G0,G,e,s,h⟩:=hx_
 obtain⟨dx,dy,h1,h2,h3⟩:=Yke e
 refine tCof.at h1 s fun v H1 G1 g1 r1 s1=>tCof.at h2 s1 fun u H2 G2 g2 r2 s2=>?_
 unfold catD at h3
 split at h3
 ·rename_i l1 l2
  split at h3
  ·rename_i hz
   cases h3
   have r1':=r1.grow g2
   rw[Ct]at r1' r2
   obtain⟨p,xs,rfl,gp,rl⟩:=r1'
   obtain⟨q,zs,rfl,gq,rm⟩:=r2
   refine⟨p,q,xs,zs,rfl,rfl,gp,gq,by rw[rl.length,rm.length];exact Yeo hz,fun m hm=>?_⟩
   exact h m _ _ G2 ((g1.trans g2).trans (.hid s2.seen hm _)) (g1.h.free (g2.h.free hm)) (s2.seen.free hm) Yw (rl.append rm)
  ·cases h3
 ·cases h3
def Yc8:D->String
 | .non=>"NoneType"
 | .bl _=>"bool"
 | .int _=>"int"
 | .str _=>"str"
 | .tup _=>"tuple"
 | .lst _=>"list"
 | .scr _=>"list"
 | .dct _ _ _=>"dict"
def Yjo:D->Bool
 | .scr _=>false
 | .dct _ _ _=>false
 | _=>true
def isiD(T:String)(d:D):Option Bool:=if Yjo d=true then some (Yc8 d==T||(T=="int"&&Yc8 d=="bool"))else none
theorem y4l{G H:Hp}{d:D}{v:V}(hn:Yjo d=true)(r:Ct K G H d v):TyOf K H v (.type (Yc8 d)):=by
 cases d<;>rw[Ct]at r
 ·subst r;exact .non
 ·subst r;exact .bl _
 ·subst r;exact .int _
 ·obtain⟨rfl,_⟩:=r;exact .str _
 ·obtain⟨a,xs,rfl,g,_⟩:=r;exact .tup g.1
 ·obtain⟨a,xs,rfl,g,_⟩:=r
  rcases g with g | ⟨o,g⟩
  ·exact .lst g
  ·exact .frz g
 ·cases hn
 ·cases hn
def Kit(T:String):Prop:=∀(K:W.Frag) (d:D),W.kitOne K (.type (Yc8 d)) (.type T)=some (Yc8 d==T||(T=="int"&&Yc8 d=="bool"))
theorem y4m:Kit "int":=fun K d=>by cases d<;>rfl
theorem Ytj:Kit "bool":=fun K d=>by cases d<;>rfl
theorem y4n:Kit "str":=fun K d=>by cases d<;>rfl
theorem Ykk:Kit "tuple":=fun K d=>by cases d<;>rfl
theorem y0r{T:String}(hk:Kit T):Ydl X (.builtin "isinstance") (fun xs H Q=>∃x d G,xs=[x,.ty T]/\Yjo d=true/\Ct X.K G H d x/\Q (.bl (Yc8 d==T||(T=="int"&&Yc8 d=="bool"))) H):=by
 intro pins s σ H xs us Q I r h
 obtain⟨x,d,G,rfl,hn,rx,q⟩:=h
 obtain⟨u,w',rfl,r1,r2⟩:=Yv3 r
 cases (show w'=Value.type T from r2)
 exact Yv6 I r1 (y4l hn rx) (hk X.K d) fun tk=>⟨.bl _,H,I.tok tk,rfl,q⟩
theorem y78{T:String}{tn:Str}{p p2:Pos}(ha:MC X a fa)(hg:Gl X "isinstance")(hg2:Gl X tn)(hm:X.mg "isinstance"=none)(hm2:X.mg tn=none)(hv2:bootBuiltins tn=some (.type T))(hk:Kit T)(hv:bootBuiltins "isinstance"=some (.builtin "isinstance"):=by decide +kernel)
 (hn2:tn≠"__name__":=by decide) (hd2:(tn==("__debug__":Str))=false:=by decide)
 (hs:starEach [a,.Name tn p2] X.env=(false,eval a X.env)::starEach [.Name tn p2] X.env:=by rfl) (hs2:starEach [.Name tn p2] X.env=(false,eval (.Name tn p2) X.env)::starEach [] X.env:=by rfl) (hpl:(backTo pos (starEach [.Name tn p2] X.env)).any (·.1)=false:=by rfl) :
 ME X (.Call (.Name "isinstance" p) [a,.Name tn p2] [] pos) (mB (b1 fa (isiD T))):=
 PE.imp (Yj1 (y0r hk) hg hm hv (Yf1 ha (Yf1 (y3c hg2 hm2 hv2 (v:=.ty T) rfl hn2 hd2) Yj8 hs2) hs) (by decide) (by decide) hs hpl) fun σ H Q hx_=>by
  obtain⟨ρ,d,H0,G0,G,e,s,h⟩:=hx_
  obtain⟨k,ek,rfl⟩:=Ywm e
  obtain⟨x,h1,h2⟩:=Ycr ek
  unfold isiD at h2
  split at h2
  ·cases h2
   exact tCof.at h1 s fun v H1 G1 g1 r1 s1=>⟨v,x,G1,rfl,by assumption,r1,h _ H1 G1 g1 (by rw[Rp])⟩
  ·cases h2
end
end
section
variable {K:W.Frag}
def insI(a:Int):List Int->List Int
 | []=>[a]
 | b::l=>if a<=b then a::b::l else b::insI a l
def Yls:List Int->List Int
 | []=>[]
 | a::l=>insI a (Yls l)
theorem Ykl(a:Int):∀l:List Int,(insI a l).Perm (a::l)
 | []=>.refl _
 | b::l=>by
   rw[insI]
   split
   ·exact .refl _
   ·exact((Ykl a l).cons b).trans (.swap a b l)
theorem Ygn:∀l:List Int,(Yls l).Perm l
 | []=>.refl _
 | a::l=>(Ykl a _).trans ((Ygn l).cons a)
theorem Ykm(a:Int):∀l:List Int,l.Pairwise (·<=·)->(insI a l).Pairwise (·<=·)
 | [],_=>by simp[insI]
 | b::l,h=>by
   rw[insI]
   split
   ·rename_i hab
    refine List.pairwise_cons.mpr ⟨fun x hx=>?_,h⟩
    rcases qt hx with rfl | hx
    ·exact hab
    ·exact Int.le_trans hab ((List.pairwise_cons.mp h).1 x hx)
   ·rename_i hab
    refine List.pairwise_cons.mpr ⟨fun x hx=>?_,Ykm a l (List.pairwise_cons.mp h).2⟩
    rcases qt ((Ykl a l).mem_iff.mp hx)with rfl | hx
    ·lia
    ·exact(List.pairwise_cons.mp h).1 x hx
theorem Yf6:∀l:List Int,(Yls l).Pairwise (·<=·)
 | []=>.nil
 | a::l=>Ykm a _ (Yf6 l)
section
variable {prog:Program} {w:World} {A:Around} {E:Value->Shared->Prop} {s:Shared}
theorem Yuu{l:Addr}{vs:List Value}{Q:Value->Shared->Prop}(hl:s.heap.IsList l vs.toArray)(h2:vs.length < 2)
 (h:Q (.ref (s.heap.objs.size+1)) { s with heap:=sortedAll s.heap vs vs.toArray }):wpAny (model prog w) A (call (.builtin "sorted") [.ref l]) Q E s:=by
 refine Calls.call_function_entry kind_sorted plain_sorted entry_sorted (args_sorted1 _) ?_
 unfold Builtin.«sorted»
 refine wpAny_bind (m:=checkCount "sorted" 1 1 _) (wpAny_pure ?_)
 refine wpAny_bind (collect_list hl ?_ (by rw[sizeLine_eq];lia))
 refine wpAny_bind (wpAny_newList ?_ (by rw[sizeLine_eq];lia))
 have hsz:((s.heap.push (seqObj "list" #[] 0)).update s.heap.objs.size (Obj.mapSeq (·++vs.toArray))).objs.size=s.heap.objs.size+1:=by
  rw[Heap.size_update,size_push']
 have hoL:(((s.heap.push (seqObj "list" #[] 0)).update s.heap.objs.size (Obj.mapSeq (·++vs.toArray))).push (seqObj "list" vs.toArray 0)).get? (s.heap.objs.size+1)=some (seqObj "list" vs.toArray 0):=by
  rw[<-hsz];exact qp _ rfl
 show wpAny _ _ _ _ _ { s with heap:=((s.heap.push (seqObj "list" #[] 0)).update s.heap.objs.size (Obj.mapSeq (·++vs.toArray))).push (seqObj "list" vs.toArray 0) }
 rw[hsz]
 refine wpAny_bind (wpAny_holding (wpAny_call_entry slot_list_sort ⟨_,hoL,rfl⟩ entry_list_sort ?body (args_list_sort _)))
 case body=>
  rw[list_sort_plain]
  generalize hS:({ s with heap:=((s.heap.push (seqObj "list" #[] 0)).update s.heap.objs.size (Obj.mapSeq (·++vs.toArray))).push (seqObj "list" vs.toArray 0) }:Shared)=S at *
  have hoS:S.heap.get? (s.heap.objs.size+1)=some (seqObj "list" vs.toArray 0):=by rw[<-hS];exact hoL
  have ha:s.heap.objs.size+1 < S.heap.objs.size:=ql hoS
  refine wpAny_bind (listItems_at hoS rfl ?_)
  refine wpAny_bind (listUpdate_at hoS rfl ?_ (by rw[qk,sizeLine_eq];lia) (Qh _))
  obtain⟨e1,ho1⟩:∃e1,(S.heap.update (s.heap.objs.size+1) (Obj.mapSeq fun _=>#[])).get? (s.heap.objs.size+1)=some (seqObj "list" #[] e1):=⟨_,get?_update_seq hoS (fun _=>#[])⟩
  refine wpAny_bind (seqEpoch_at ho1 rfl ?_)
  refine wpAny_bind (wpAny_newTuple ?_ (by show vs.length<=_;rw[sizeLine_eq];lia))
  refine wpAny_bind (wpAny_newList ?_ (Qh _))
  refine wpAny_holding ?_
  have ho6:(((S.heap.update (s.heap.objs.size+1) (Obj.mapSeq fun _=>#[])).push (seqObj "tuple" vs.toArray 0)).push (seqObj "list" #[] 0)).get? (s.heap.objs.size+1)=some (seqObj "list" #[] e1):=by
   rw[Heap.get?_push_ne _ _ _ (by rw[size_push',Heap.size_update];exact qm (qw ha)),Heap.get?_push_ne _ _ _ (by rw[Heap.size_update];exact qm ha)]
   exact ho1
  show wpAny (model prog w) _ _ _ _ { S with heap:=((S.heap.update (s.heap.objs.size+1) (Obj.mapSeq fun _=>#[])).push (seqObj "tuple" vs.toArray 0)).push (seqObj "list" #[] 0) }
  dsimp only
  have hlt:vs.toArray.size < 2:=by rw[qk];exact h2
  rw[if_pos hlt,if_pos hlt]
  refine wpAny_bind (wpAny_pure ?_)
  rw[StateT.run_pure]
  refine wpAny_bind (wpAny_pure ?_)
  dsimp only
  refine wpAny_bind (seqEpoch_at ho6 rfl ?_)
  refine wpAny_bind (listUpdate_at ho6 rfl ?_ (hsz2:=by rw[Array.size_map];show(pairsOf vs).size<=_;rw[pairsOf_size,sizeLine_eq];lia))
  simp only[bne_self_eq_false,Qm,if_false]
  have hout:(arrOf (SortSt.mk' general' (vs.toArray.zip vs.toArray) #[] 7 none)).map (·.2)=vs.toArray:=by
   show(vs.toArray.zip vs.toArray).map (·.2)=vs.toArray
   apply Array.toList_inj.mp
   simp[List.map_snd_zip]
  refine wpAny_pure ⟨_,rfl,wpAny_pure ⟨_,rfl,?_⟩⟩
  have hh:=h
  unfold sortedAll sortedHeap at hh
  rw[<-hS,hout]
  exact hh
def plt(j:Int)(q:Bool)(i:Int)(p:Bool):Bool:=if j=i then (!q&&p)else decide (j < i)
theorem Yw4{b c:Addr}{i j:Int}{p q:Bool}{t u:Tok}{R:Bool->Shared->Prop}(hb:IsTup s.heap b #[.int i t,.bool p])(hc:IsTup s.heap c #[.int j u,.bool q])(h:R (plt j q i p) s) :
 wpAny (model prog w) A (keyLt' (tuples' true) (.ref c) (.ref b)) R E s:=by
 obtain⟨ob,h1,_,n1,d1⟩:=hb
 obtain⟨oc,h2,_,n2,d2⟩:=hc
 refine W.kat_lt h2 d2 h1 d1 ?_
 show W.KatLex prog w A true false R [(.int j u,.int i t),(.bool q,.bool p)] 0 s
 unfold plt at h
 refine W.kat_cons (SeqAt.EqAt.int_int j u i t prog w _ _ (W.kat_go (fun e=>W.kat_yes (W.kat_cons (SeqAt.EqAt.bool_bool q p prog w _ _ (W.kat_go (fun e2=>W.kat_yes (W.kat_nil ?_)) fun e2=>W.kat_no (W.kat_one _ _ (lt_bool ?_)))))) fun e=>W.kat_no ?_))
 ·have e':j=i:=by simpa using e
  have e2':q=p:=by simpa using e2
  rw[if_pos e',e2']at h
  cases p<;>exact h
 ·have e':j=i:=by simpa using e
  rw[if_pos e']at h
  show R _ s
  cases p<;>cases q<;>first | exact h | simp at e2
 ·have e':¬j=i:=by simpa using e
  rw[if_neg e']at h
  exact oneLt_int h
theorem Ymm{cmp:Nat->Nat->(Bool->Shared->Prop)->Shared->Prop}{G:Array Nat->Shared->Prop}{S:Shared}(h:cmp 1 0 (fun k s'=>if k=true then G #[1,0] s' else G #[0,1] s') S):(W.kas_sort 2).kasWp cmp G S:=by
 show cmp 1 0 (fun k s'=>W.KasT.kasWp cmp _ G s') S
 have e:∀(k:Bool) (s':Shared),(if k=true then G #[1,0] s' else G #[0,1] s')=W.KasT.kasWp cmp (W.KasT.bind (W.KasT.bind (if k=true then W.KasT.ret 1 else W.kas_asc (List.toArray (List.range 2)) 0 2)
  fun n=>if (n==2)=true then W.KasT.ret (n,List.toArray (List.range 2))else if n > 1 then .ask ((List.toArray (List.range 2)).getD 0 0) ((List.toArray (List.range 2)).getD (n - 1) 0) fun c=>if c=true then .ret (n,List.toArray (List.range 2))else W.kas_descPart n 2 (W.kas_rev (List.toArray (List.range 2)) 0 n)
   else W.kas_descPart n 2 (List.toArray (List.range 2))) fun r=>if r.1 < 2 then W.kas_bin (2 - max r.1 1) r.2 (max r.1 1)else .ret r.2) G s':=fun k s'=>by cases k<;>rfl
 have e2:(fun(k:Bool) (s':Shared)=>if k=true then G #[1,0] s' else G #[0,1] s')=_:=funext fun k=>funext fun s'=>e k s'
 rw[e2]at h
 exact h
theorem Yuv{l b c:Addr}{i j:Int}{p q:Bool}{t u:Tok}{Q:Value->Shared->Prop}(hl:s.heap.IsList l #[.ref b,.ref c])(hb:IsTup s.heap b #[.int i t,.bool p])(hc:IsTup s.heap c #[.int j u,.bool q])
 (h:Q (.ref (s.heap.objs.size+1)) { s with heap:=sortedAll s.heap [.ref b,.ref c] (if plt j q i p=true then #[.ref c,.ref b]else #[.ref b,.ref c]) }):wpAny (model prog w) A (call (.builtin "sorted") [.ref l]) Q E s:=by
 generalize hvs:[Value.ref b,Value.ref c]=vs at *
 have hl':s.heap.IsList l vs.toArray:=hl
 have hlen:vs.length=2:=by rw[<-hvs];rfl
 refine Calls.call_function_entry kind_sorted plain_sorted entry_sorted (args_sorted1 _) ?_
 unfold Builtin.«sorted»
 refine wpAny_bind (m:=checkCount "sorted" 1 1 _) (wpAny_pure ?_)
 refine wpAny_bind (collect_list hl' ?_ (by rw[sizeLine_eq];lia))
 refine wpAny_bind (wpAny_newList ?_ (by rw[sizeLine_eq];lia))
 have hsz:((s.heap.push (seqObj "list" #[] 0)).update s.heap.objs.size (Obj.mapSeq (·++vs.toArray))).objs.size=s.heap.objs.size+1:=by
  rw[Heap.size_update,size_push']
 have hoL:(((s.heap.push (seqObj "list" #[] 0)).update s.heap.objs.size (Obj.mapSeq (·++vs.toArray))).push (seqObj "list" vs.toArray 0)).get? (s.heap.objs.size+1)=some (seqObj "list" vs.toArray 0):=by
  rw[<-hsz];exact qp _ rfl
 have keep0:∀b o,s.heap.get? b=some o->(((s.heap.push (seqObj "list" #[] 0)).update s.heap.objs.size (Obj.mapSeq (·++vs.toArray))).push (seqObj "list" vs.toArray 0)).get? b=some o:=fun b o q=>by
  have hlt:b < s.heap.objs.size:=ql q
  rw[Heap.get?_push_ne _ _ _ (by rw[hsz];exact qm (qw hlt)),Heap.get?_update_ne _ _ _ _ (qm hlt),Heap.get?_push_ne _ _ _ (qm hlt)]
  exact q
 show wpAny _ _ _ _ _ { s with heap:=((s.heap.push (seqObj "list" #[] 0)).update s.heap.objs.size (Obj.mapSeq (·++vs.toArray))).push (seqObj "list" vs.toArray 0) }
 rw[hsz]
 refine wpAny_bind (wpAny_holding (wpAny_call_entry slot_list_sort ⟨_,hoL,rfl⟩ entry_list_sort ?body (args_list_sort _)))
 case body=>
  rw[list_sort_plain]
  generalize hS:({ s with heap:=((s.heap.push (seqObj "list" #[] 0)).update s.heap.objs.size (Obj.mapSeq (·++vs.toArray))).push (seqObj "list" vs.toArray 0) }:Shared)=S at *
  have hoS:S.heap.get? (s.heap.objs.size+1)=some (seqObj "list" vs.toArray 0):=by rw[<-hS];exact hoL
  have keepS:∀b o,s.heap.get? b=some o->S.heap.get? b=some o:=by rw[<-hS];exact keep0
  have ha:s.heap.objs.size+1 < S.heap.objs.size:=ql hoS
  refine wpAny_bind (listItems_at hoS rfl ?_)
  refine wpAny_bind (listUpdate_at hoS rfl ?_ (by rw[qk,sizeLine_eq];lia) (Qh _))
  obtain⟨e1,ho1⟩:∃e1,(S.heap.update (s.heap.objs.size+1) (Obj.mapSeq fun _=>#[])).get? (s.heap.objs.size+1)=some (seqObj "list" #[] e1):=⟨_,get?_update_seq hoS (fun _=>#[])⟩
  refine wpAny_bind (seqEpoch_at ho1 rfl ?_)
  refine wpAny_bind (wpAny_newTuple ?_ (by show vs.length<=_;rw[sizeLine_eq];lia))
  refine wpAny_bind (wpAny_newList ?_ (Qh _))
  refine wpAny_holding ?_
  have ho6:(((S.heap.update (s.heap.objs.size+1) (Obj.mapSeq fun _=>#[])).push (seqObj "tuple" vs.toArray 0)).push (seqObj "list" #[] 0)).get? (s.heap.objs.size+1)=some (seqObj "list" #[] e1):=by
   rw[Heap.get?_push_ne _ _ _ (by rw[size_push',Heap.size_update];exact qm (qw ha)),Heap.get?_push_ne _ _ _ (by rw[Heap.size_update];exact qm ha)]
   exact ho1
  have keep6:∀b o,s.heap.get? b=some o->(((S.heap.update (s.heap.objs.size+1) (Obj.mapSeq fun _=>#[])).push (seqObj "tuple" vs.toArray 0)).push (seqObj "list" #[] 0)).get? b=some o:=fun b o q=>by
   have hlt:b < s.heap.objs.size:=ql q
   refine qe _ (qe _ ?_)
   rw[Heap.get?_update_ne _ _ _ _ (qm (qw hlt))]
   exact keepS b o q
  generalize hS6:({ S with heap:=((S.heap.update (s.heap.objs.size+1) (Obj.mapSeq fun _=>#[])).push (seqObj "tuple" vs.toArray 0)).push (seqObj "list" #[] 0) }:Shared)=S6
  have ho7:S6.heap.get? (s.heap.objs.size+1)=some (seqObj "list" #[] e1):=by rw[<-hS6];exact ho6
  have tb:IsTup S6.heap b #[.int i t,.bool p]:=by
   obtain⟨o,a1,a2⟩:=hb
   exact⟨o,by rw[<-hS6];exact keep6 b o a1,a2⟩
  have tc:IsTup S6.heap c #[.int j u,.bool q]:=by
   obtain⟨o,a1,a2⟩:=hc
   exact⟨o,by rw[<-hS6];exact keep6 c o a1,a2⟩
  dsimp only
  have hn2:¬vs.toArray.size < 2:=by rw[qk];lia
  rw[if_neg hn2,if_neg hn2]
  have kt:W.KatTups S6.heap vs [.int i t,.int j u]:=by
   obtain⟨ob,b1,b2,n1,b3⟩:=tb
   obtain⟨oc,c1,c2,n2,c3⟩:=tc
   rw[<-hvs]
   exact .cons b1 b2 b3 rfl (.cons c1 c2 c3 rfl .nil)
  refine wpAny_bind (W.kat_kind (T:=.type "int") kt (qw (qz 0)) (fun v hv=>?_) (by decide) ?_)
  ·rcases qt hv with rfl | hv
   ·exact .of_pure rfl
   ·rcases qt hv with rfl | hv
    ·exact .of_pure rfl
    ·cases hv
  have hcmp:wpAny (model prog w) A.in1.in1 (keyLt' (tuples' true) (vs.getD 1 Value.none) (vs.getD 0 Value.none)) (fun k s'=>k=plt j q i p/\s'=S6) (fun _ _=>False) S6:=by
   rw[<-hvs]
   exact Yw4 tb tc ⟨rfl,rfl⟩
  refine wpAny_bind (wpAny_mono (W.kat_run (ks:=vs) (vs:=vs) (κ:=tuples' true) (G:=fun pm s'=>s'=S6/\pm=if plt j q i p=true then #[1,0]else #[0,1])
   (Q:=fun st' s'=>s'=S6/\failedOf st'=none/\(arrOf st').map (·.2)=if plt j q i p=true then #[.ref c,.ref b]else #[.ref b,.ref c]) rfl (by lia) (by lia) (fun pm st' s' a1 a2 a3 a4=>?_) ?_) ?_ fun _ _ e=>e)
  ·obtain⟨rfl,rfl⟩:=a4
   refine⟨rfl,a3,?_⟩
   rw[W.kat_snds rfl a2,<-hvs]
   cases plt j q i p<;>rfl
  ·rw[hlen]
   refine Ymm ?_
   refine wpAny_mono hcmp (fun k s' hk=>?_) fun _ _ x=>x
   obtain⟨rfl,rfl⟩:=hk
   cases plt j q i p
   ·exact⟨rfl,rfl⟩
   ·exact⟨rfl,rfl⟩
  rintro⟨⟨⟩,st'⟩ s' ⟨rfl,hf,hout⟩
  dsimp only
  refine wpAny_bind (seqEpoch_at ho7 rfl ?_)
  refine wpAny_bind (listUpdate_at ho7 rfl ?_ (Qh _) (by rw[hout,sizeLine_eq];cases plt j q i p<;>exact(by decide:2<=16777216+1)))
  rw[hf]
  simp only[bne_self_eq_false,Qm,if_false]
  refine wpAny_pure ⟨_,rfl,wpAny_pure ⟨_,rfl,?_⟩⟩
  have hh:=h
  unfold sortedAll sortedHeap at hh
  rw[<-hS6,<-hS,hout]
  subst hvs
  exact hh
end
def Yc9:List D->Option (List Int)
 | []=>some []
 | .int i::l=>(Yc9 l).map (i::·)
 | _=>none
def prI:D->Option (Int × Bool)
 | .tup [.int j,.bl q]=>some (j,q)
 | _=>none
def y2r(e d:D):Option Bool:=(prI e).bind fun x=>(prI d).map fun y=>plt x.1 x.2 y.1 y.2
theorem Yiq{α:Type}{x:α}{P:Prop}(h:none=some x):P:=by cases h
theorem Yni{d:D}{x:Int × Bool}(h:prI d=some x):d=.tup [.int x.1,.bl x.2]:=by
 cases d with
 | tup l=>cases l with
   | nil=>exact Yiq h
   | cons a l=>cases a with
     | int j=>cases l with
       | nil=>exact Yiq h
       | cons b l=>cases b with
         | bl q=>cases l with
           | nil=>exact Option.some.inj h ▸ rfl
           | cons _ _=>exact Yiq h
         | _=>exact Yiq h
     | _=>exact Yiq h
 | _=>exact Yiq h
def y0s(l:List D):Option (List D):=match Yc9 l with
 | some ns=>if ns.length < 64 then some ((Yls ns).map D.int)else none
 | none=>match l with
   | [d]=>some [d]
   | [d,e]=>(y2r e d).map fun k=>if k=true then [e,d]else [d,e]
   | _=>none
def Yjp:List D->Option (List D)
 | [.lst l]=>y0s l
 | _=>none
theorem Yir:∀{l:List D} {ns:List Int},Yc9 l=some ns->l=ns.map D.int
 | [],ns,h=>by cases h;rfl
 | .int i::l,ns,h=>by
   rw[Yc9]at h
   obtain⟨m,h1,rfl⟩:=qc h
   rw[Yir h1]
   rfl
 | .non::l,ns,h=>by simp[Yc9]at h
 | .bl _::l,ns,h=>by simp[Yc9]at h
 | .str _::l,ns,h=>by simp[Yc9]at h
 | .tup _::l,ns,h=>by simp[Yc9]at h
 | .lst _::l,ns,h=>by simp[Yc9]at h
 | .scr _::l,ns,h=>by simp[Yc9]at h
 | .dct _ _ _::l,ns,h=>by simp[Yc9]at h
theorem Ynj{G:Hp}:∀{ns:List Int} {xs:List V},RpL K G (ns.map D.int) xs->xs=ns.map V.int
 | [],xs,h=>by rw[List.map_nil,RpL]at h;exact h
 | n::ns,xs,h=>by
   rw[Qc,RpL]at h
   obtain⟨x,r,rfl,h1,h2⟩:=h
   rw[Rp]at h1
   rw[h1,Ynj h2]
   rfl
def Yw5(H:Hp)(x:V)(i:Int)(p:Bool):Prop:=∃a,x=.ref a/\H a=some (.tup [.int i,.bl p])
def y79:List V->Hp->VK->Prop:=fun vs H Q=>∃a xs,vs=[.ref a]/\Rd H a (.lst xs)/\
 ((∃ns:List Int,xs=ns.map V.int/\ns.length < 64/\∀p,H p=none->Q (.ref p) (upd H p (.lst ((Yls ns).map V.int))))\/
  (xs.length < 2/\∀p,H p=none->Q (.ref p) (upd H p (.lst xs)))\/
  (∃x y i p j q,xs=[x,y]/\Yw5 H x i p/\Yw5 H y j q/\∀r,H r=none->Q (.ref r) (upd H r (.lst (if plt j q i p=true then [y,x]else [x,y])))))
theorem Yda{X:Cx}:Ydl X (.builtin "sorted") y79:=by
 intro pins s σ H xs us Q I r h
 obtain⟨a,ys,rfl,hr,h⟩:=h
 obtain⟨u,rfl,ru⟩:=Yg5 r
 cases ru
 obtain⟨its,rv,pl,hz⟩:=I.list (.inl hr)
 have fin:∀(out:Array Value) (zs:List V),Vals zs out.toList->zs.length<=sizeLine->Q (.ref (s.heap.objs.size+1)) (upd H (s.heap.objs.size+1) (.lst zs))->EP X pins σ Q (.ref (s.heap.objs.size+1)) { s with heap:=sortedAll s.heap its out }:=fun out zs hv hz' hq=>by
  obtain⟨e,he⟩:=sortedAll_at s.heap its out
  exact⟨.ref (s.heap.objs.size+1),_,I.laid (t':=s.toks) (fun b o q=>sortedAll_old q) (Nat.le_succ _) (show ObjOk X.prog X.w _ _ _ (.lst zs) from⟨hz',out.toList,e,hv,by rw[Array.toArray_toList];exact he⟩),rfl,hq⟩
 have fr:H (s.heap.objs.size+1)=none:=I.hok.fresh (Nat.le_succ _)
 have hl:=rv.length
 rcases h with⟨ns,rfl,h64,q⟩ | ⟨h2,q⟩ | ⟨x,y,i,p,j,k,rfl,px,py,q⟩
 ·have hI:=Ymh rv
  refine sorted_ints pl.isList hI (by rw[hI.length];exact h64) fun out ns' h1 h2 h3=>?_
  have e:ns'=Yls ns:=W.ksm_same (h2.trans (Ygn ns).symm) h3 (Yf6 ns)
  subst e
  have hn:(Yls ns).length=ns.length:=(Ygn ns).length_eq
  exact fin out _ (Ykb h1) (by rw[qf,hn,sizeLine_eq];lia) (q _ fr)
 ·refine Yuu pl.isList (by lia) ?_
  exact fin its.toArray ys (by simpa using rv) hz (q _ fr)
 ·obtain⟨b,rfl,hb⟩:=px
  obtain⟨c,rfl,hc⟩:=py
  obtain⟨u1,u2,rfl,r1,r2⟩:=Yv3 rv
  cases r1
  cases r2
  obtain⟨_,ib,vb,tb⟩:=(show ObjOk X.prog X.w H s.heap b (.tup [.int i,.bl p]) from I.hok b _ hb)
  obtain⟨_,ic,vc,tc⟩:=(show ObjOk X.prog X.w H s.heap c (.tup [.int j,.bl k]) from I.hok c _ hc)
  obtain⟨w1,w2,rfl,⟨t,rfl⟩,w2e⟩:=Yv3 vb
  cases w2e
  obtain⟨w3,w4,rfl,⟨t',rfl⟩,w4e⟩:=Yv3 vc
  cases w4e
  refine Yuv (by simpa using pl.isList) (by simpa using tb) (by simpa using tc) ?_
  refine fin _ (if plt j k i p=true then [.ref c,.ref b]else [.ref b,.ref c]) ?_ (by rw[sizeLine_eq];cases plt j k i p<;>exact(by decide:2<=16777216)) (q _ fr)
  cases plt j k i p
  ·exact .cons rfl (.cons rfl .nil)
  ·exact .cons rfl (.cons rfl .nil)
theorem Ypu{G H:Hp}{d:D}{v:V}{i:Int}{p:Bool}(s:Same G H)(e:d=.tup [.int i,.bl p])(r:Rp K G d v):Yw5 H v i p:=by
 subst e
 rw[Rp]at r
 obtain⟨a,xs,rfl,g,rl⟩:=r
 rw[RpL]at rl
 obtain⟨x,r',rfl,h1,h2⟩:=rl
 obtain⟨y,rfl,h3⟩:=Yki h2
 rw[Rp]at h1
 rw[Rp]at h3
 subst h1;subst h3
 exact⟨a,rfl,s _ _ g⟩
theorem Yru{e d:D}{k:Bool}(h:y2r e d=some k):∃j q i p,e=.tup [.int j,.bl q]/\d=.tup [.int i,.bl p]/\k=plt j q i p:=by
 obtain⟨x,h1,h2⟩:=qa h
 obtain⟨y,h3,h4⟩:=qc h2
 exact⟨x.1,x.2,y.1,y.2,Yni h1,Yni h3,h4.symm⟩
theorem Ydz:SemF K y79 Yjp:=by
 intro vs ds l H G Q h s r q
 unfold Yjp at h
 split at h
 ·rename_i m
  obtain⟨v,rfl,rv⟩:=Ydh r
  rw[Ct]at rv
  obtain⟨a,xs,rfl,g,rl⟩:=rv
  refine⟨a,xs,rfl,g,?_⟩
  unfold y0s at h
  split at h
  ·rename_i ns hns
   split at h
   ·rename_i h64
    cases h
    cases Yir hns
    refine .inl ⟨ns,Ynj rl,h64,fun p hp=>?_⟩
    exact q p _ _ G (.hid s hp _) hp (s.free hp) Yw (.ints _)
   ·cases h
  ·split at h
   ·cases h
    refine .inr (.inl ⟨by rw[rl.length];exact qz 1,fun p hp=>?_⟩)
    exact q p _ _ G (.hid s hp _) hp (s.free hp) Yw rl
   ·rename_i d e
    obtain⟨k,h1,rfl⟩:=qc h
    obtain⟨j,y,i,x,rfl,rfl,rfl⟩:=Yru h1
    rw[RpL]at rl
    obtain⟨v1,r1,rfl,p1,rl⟩:=rl
    obtain⟨v2,rfl,p2⟩:=Yki rl
    refine .inr (.inr ⟨v1,v2,i,x,j,y,rfl,Ypu s rfl p1,Ypu s rfl p2,fun p hp=>?_⟩)
    refine q p _ _ G (.hid s hp _) hp (s.free hp) Yw ?_
    cases plt j y i x
    ·exact .cons p1 (.one p2)
    ·exact .cons p2 (.one p1)
   ·cases h
 ·cases h
end
section
variable {K:W.Frag}
theorem y0t{P:Program}{w:World}{mg:Str->Option Value}{base:Heap}{k n:Nat}{x q:Str}{ps:List Str}{st:Stmt}{a:Addr}{fd:FuncData}(F:Fun K x q st a fd)(b:Binds K fd ps [])(hm:mg x=some (.ref a))(hn:ps.length=n) :
 Okf P w K mg base k n x ps (fun _=>none):=by
 have no:∀vs H Q E,¬spOf K n (fun _=>none) vs H Q E:=fun vs H Q E h=>by
  obtain⟨_,ds,d,G,_,_,e,_⟩:=h
  cases e
 exact⟨a,fd,⟨fun vs H Q E h=>absurd h (no vs H Q E),fun A outer s H args us vs Q E _ _ _ _ h=>absurd h (no vs H Q E)⟩,b,F.kp,hm⟩
section
variable {X:Cx} {e:Expr} {f fb:Ro->Option D} {pos pos':Pos}
def blsD:List D->Option (List Bool)
 | []=>some []
 | .bl b::l=>(blsD l).map (b::·)
 | _=>none
theorem Ypv:∀{l:List D} {bs:List Bool},blsD l=some bs->l=bs.map D.bl
 | [],bs,h=>by cases h;rfl
 | .bl i::l,bs,h=>by
   rw[blsD]at h
   obtain⟨m,h1,rfl⟩:=qc h
   rw[Ypv h1]
   rfl
 | .non::l,ns,h=>by simp[blsD]at h
 | .int _::l,ns,h=>by simp[blsD]at h
 | .str _::l,ns,h=>by simp[blsD]at h
 | .tup _::l,ns,h=>by simp[blsD]at h
 | .lst _::l,ns,h=>by simp[blsD]at h
 | .scr _::l,ns,h=>by simp[blsD]at h
 | .dct _ _ _::l,ns,h=>by simp[blsD]at h
theorem Yw6{G:Hp}:∀{bs:List Bool} {xs:List V},RpL K G (bs.map D.bl) xs->xs=bs.map V.bl
 | [],xs,h=>by rw[List.map_nil,RpL]at h;exact h
 | n::ns,xs,h=>by
   rw[Qc,RpL]at h
   obtain⟨x,r,rfl,h1,h2⟩:=h
   rw[Rp]at h1
   rw[h1,Yw6 h2]
   rfl
theorem Ynk:∀{bs:List Bool} {us:List Value},Vals (bs.map V.bl) us->us=bs.map Value.bool
 | [],us,h=>by cases h;rfl
 | b::bs,us,h=>by
   cases h with
   | cons r t=>
     cases (show _=Value.bool b from r)
     rw[Ynk t]
     rfl
theorem Yw7(bs:List Bool):((List.range bs.length).any fun i=>bs.getD i false)=bs.any id:=by
 induction bs with
 | nil=>rfl
 | cons b bs ih=>
   rw[qr,List.range_succ_eq_map,List.any_cons,List.any_map,List.any_cons]
   have:(List.range bs.length).any ((fun i=>(b::bs).getD i false) ∘ Nat.succ)=(List.range bs.length).any fun i=>bs.getD i false:=by
    congr 1
   rw[this,ih]
   rfl
theorem Yw8(bs:List Bool):((List.range bs.length).all fun i=>bs.getD i false)=bs.all id:=by
 induction bs with
 | nil=>rfl
 | cons b bs ih=>
   rw[qr,List.range_succ_eq_map,List.all_cons,List.all_map,List.all_cons]
   have:(List.range bs.length).all ((fun i=>(b::bs).getD i false) ∘ Nat.succ)=(List.range bs.length).all fun i=>bs.getD i false:=by
    congr 1
   rw[this,ih]
   rfl
def rBls(g:List Bool->V):List V->Hp->VK->Prop:=fun vs H Q=>∃(a:Addr) (bs:List Bool),vs=[.ref a]/\Rd H a (.lst (bs.map V.bl))/\Q (g bs) H
theorem Ypw(A:Around)(prog:Program)(w:World)(bs:List Bool):TruthOf prog w A (fun i v=>((bs.map Value.bool).toArray)[i]?=some v) (fun i=>bs.getD i false):=fun i v s Q E hP hQ=>by
 have hP':(bs.map Value.bool)[i]?=some v:=by simpa using hP
 rw[Qg]at hP'
 obtain⟨b,h1,rfl⟩:=qc hP'
 refine wpAny_truthy_bool ?_
 have:bs.getD i false=b:=by simp[h1]
 rw[<-this]
 exact hQ
theorem Ypx{pins:List (Addr × Obj)}{s:Shared}{σ:L2.St}{H:Hp}{a:Addr}{its:List Value}{A:Around}{E:Value->Shared->Prop}{Q:Value->Shared->Prop}(hh:A.handled=none)(hl:s.heap.IsList a its.toArray)
 (h:∀s₂,s₂={ s with heap:=s.heap.push { cls:=.type "list_iterator",data:=.fields #[.ref a,.int 0 0] } }->Walks X.prog X.w A s.heap.objs.size [s.heap.objs.size,a] [s.heap.objs.size] its.toArray.size (fun i v=>its.toArray[i]?=some v) (fun i h=>h.IsListIter s.heap.objs.size a i/\h.IsList a its.toArray)->
  (s₂.heap.IsListIter s.heap.objs.size a 0/\s₂.heap.IsList a its.toArray)->Q (.ref s.heap.objs.size) s₂):wpAny (model X.prog X.w) A (pyIter (.ref a)) Q E s:=by
 have hne:a≠s.heap.objs.size:=by
  obtain⟨o,ho,_⟩:=hl
  exact qm (ql ho)
 refine wpAny_pyIter_list hl (h _ rfl (Walks.list hh _ a hne _) ⟨⟨_,qp _ rfl,rfl,rfl⟩,?_⟩)
 obtain⟨o,ho,r⟩:=hl
 exact⟨o,qe _ ho,r⟩
theorem Yje{pins:List (Addr × Obj)}{s:Shared}{σ:L2.St}{H:Hp}{h':Heap}{tk:Nat}{o:Obj}(I:Inv X pins σ H s)(k:∀b u,b∉[s.heap.objs.size]->(s.heap.push o).get? b=some u->h'.get? b=some u):Inv X pins σ H { s with heap:=h',toks:=tk }:=
 I.kept fun b u q=>k b u (by
  intro z
  have e:b=s.heap.objs.size:=by simpa using z
  exact absurd (ql q) (by rw[e];exact Nat.lt_irrefl _)) (qe _ q)
theorem Yhp(hc:X.calm=true):Ydl X (.builtin "any") (rBls fun bs=>.bl (bs.any id)):=by
 intro pins s σ H xs us Q I r h
 obtain⟨a,bs,rfl,hr,q⟩:=h
 obtain⟨u,rfl,ru⟩:=Yg5 r
 cases ru
 obtain⟨its,rv,pl,hz⟩:=I.list (.inl hr)
 cases Ynk rv
 refine call_any_walk (Ypx (X:=X) (pins:=pins) (σ:=σ) (H:=H) (show X.A.in1.handled=none from I.ok.hd hc) pl.isList fun s₂ e W st=>?_)
 subst e
 refine⟨_,_,_,_,_,_,fun i=>bs.getD i false,rfl,W,st,Ypw _ _ _ bs,fun h' tk k=>⟨.bl _,H,(show Inv X pins σ H { s with heap:=h',toks:=tk } from Yje I k),?_,q⟩⟩
 show Value.bool _=Value.bool _
 rw[qk,qf,Yw7]
theorem Ye7(hc:X.calm=true):Ydl X (.builtin "all") (rBls fun bs=>.bl (bs.all id)):=by
 intro pins s σ H xs us Q I r h
 obtain⟨a,bs,rfl,hr,q⟩:=h
 obtain⟨u,rfl,ru⟩:=Yg5 r
 cases ru
 obtain⟨its,rv,pl,hz⟩:=I.list (.inl hr)
 cases Ynk rv
 refine call_all_walk (Ypx (X:=X) (pins:=pins) (σ:=σ) (H:=H) (show X.A.in1.handled=none from I.ok.hd hc) pl.isList fun s₂ e W st=>?_)
 subst e
 refine⟨_,_,_,_,_,_,fun i=>bs.getD i false,rfl,W,st,Ypw _ _ _ bs,fun h' tk k=>⟨.bl _,H,(show Inv X pins σ H { s with heap:=h',toks:=tk } from Yje I k),?_,q⟩⟩
 show Value.bool _=Value.bool _
 rw[qk,qf,Yw8]
def anyC:List D->Option D
 | [.lst l]=>(blsD l).map fun bs=>.bl (bs.any id)
 | _=>none
def allC:List D->Option D
 | [.lst l]=>(blsD l).map fun bs=>.bl (bs.all id)
 | _=>none
theorem Yw9{g:List Bool->V}{gd:List Bool->D}{m:List D->Option D}(hm:∀ds d,m ds=some d->∃l bs,ds=[.lst l]/\blsD l=some bs/\d=gd bs)(hg:∀G bs,Rp K G (gd bs) (g bs)):SemC K (rBls g) m:=by
 intro vs ds d H G Q h s r q
 obtain⟨l,bs,rfl,h1,rfl⟩:=hm ds d h
 obtain⟨v,rfl,rv⟩:=Ydh r
 rw[Ct]at rv
 obtain⟨a,xs,rfl,g',rl⟩:=rv
 cases Ypv h1
 cases Yw6 rl
 exact⟨a,bs,rfl,g',q _ H G (.refl s) (hg G bs)⟩
theorem Ynl:SemC K (rBls fun bs=>.bl (bs.any id)) anyC:=Yw9 (gd:=fun bs=>.bl (bs.any id)) (fun ds d h=>by
 unfold anyC at h
 split at h
 ·obtain⟨bs,h1,rfl⟩:=qc h
  exact⟨_,bs,rfl,h1,rfl⟩
 ·cases h) fun G bs=>by rw[Rp]
theorem Yis:SemC K (rBls fun bs=>.bl (bs.all id)) allC:=Yw9 (gd:=fun bs=>.bl (bs.all id)) (fun ds d h=>by
 unfold allC at h
 split at h
 ·obtain⟨bs,h1,rfl⟩:=qc h
  exact⟨_,bs,rfl,h1,rfl⟩
 ·cases h) fun G bs=>by rw[Rp]
end
end
section
variable {K:W.Frag}
end
section
variable {K:W.Frag}
def Yjq(k:Int):Value->Bool
 | .int i _=>i==k
 | .bool b=>(if b then 1 else 0)==k
 | _=>false
theorem Ycu{k:Int}{v:Value}(h:Yjq k v=true):(∃t,v=.int k t)\/∃b:Bool,v=.bool b/\k=if b then 1 else 0:=by
 cases v with
 | int i t=>
   have e:i=k:=by simpa [Yjq]using h
   exact .inl ⟨t,by rw[e]⟩
 | bool b=>
   have e:(if b then (1:Int)else 0)=k:=by simpa [Yjq]using h
   exact .inr ⟨b,rfl,e.symm⟩
 | _=>simp[Yjq]at h
theorem Yrv{prog:Program}{w:World}{A:Around}{E:Value->Shared->Prop}{s:Shared}{b:Bool}{Q:Int->Shared->Prop}(h:Q (hashInt (if b then 1 else 0)) { s with toks:=s.toks+1 }) :
 wpAny (model prog w) A (pyHash (.bool b)) Q E s:=by
 have hr:=rawHash_range (if b then 1 else 0)
 have hT:s.TypeIs (.bool b) "bool":=rfl
 unfold pyHash
 first | unfold pyHashByItsType | skip
 have hv:[Value.bool b].any Value.onHeap=false:=rfl
 refine wpAny_bind ?_
 rw[cRoomFor,if_neg (by rw[hv];exact qi)];refine wpAny_pure ?_
 refine wpAny_bind (wpAny_specialOf hT F.slot_bool_hash.lookup ?_)
 show wpAny _ _ (if (some (Value.builtin "int.__hash__")==some Value.none)=true then _ else _) Q E s
 rw[if_neg (by rw[beq_builtin_none];exact qi)]
 refine wpAny_bind (wpAny_specialOf hT F.slot_bool_hash.lookup ?_)
 show wpAny _ _ (callSpecialIfBoundUnlessNone? (.bool b) "__hash__" _ >>= _) Q E s
 refine wpAny_bind (wpAny_callSpecialIfBoundUnlessNone?_slot hT F.slot_bool_hash
  (wpAny_call_entry F.slot_bool_hash hT entry_int_hash
   (show wpAny _ _ (do ret (<-mkInt (rawHash (if b then 1 else 0)))) _ _ s from wpAny_ret_mkInt ?_) (args_int_hash _)))
 show wpAny _ _ (if (decide (-(2:Int) ^ 63<=rawHash (if b then 1 else 0))&&decide (rawHash (if b then 1 else 0) < 2 ^ 63))=true then _ else _) Q E _
 rw[if_pos (by rw[decide_eq_true hr.1,decide_eq_true hr.2];rfl)]
 exact wpAny_pure h
def Yah(prog:Program)(w:World):KeyKind prog w Int where
 is:=Yjq
 hash:=hashInt
 inj:=fun v a b ha hb=>by
  rcases Ycu ha with⟨t,rfl⟩ | ⟨c,rfl,rfl⟩
  ·have e:a=b:=by simpa [Yjq]using hb
   exact e
  ·have e:(if c then (1:Int)else 0)=b:=by simpa [Yjq]using hb
   exact e
 byValue:=fun k v h=>by
  rcases Ycu h with⟨t,rfl⟩ | ⟨c,rfl,rfl⟩<;>rfl
 pyHash:=fun hv h=>by
  rcases Ycu hv with⟨t,rfl⟩ | ⟨c,rfl,rfl⟩
  ·exact wpAny_pyHash_int h
  ·exact Yrv h
 eqBool:=fun {A E s a b u v Q} hu hv h=>by
  rcases Ycu hu with⟨t,rfl⟩ | ⟨c,rfl,rfl⟩
  ·rcases Ycu hv with⟨t',rfl⟩ | ⟨c',rfl,rfl⟩
   ·exact wpAny_eqBool_int (by rw[show(a==b)=decide (a=b) from rfl];exact h)
   ·exact SeqAt.EqAt.int_bool a t c' _ _ _ _ (by rw[show(a==if c'=true then 1 else 0)=decide (a=if c'=true then 1 else 0) from rfl];exact h)
  ·rcases Ycu hv with⟨t',rfl⟩ | ⟨c',rfl,rfl⟩
   ·exact SeqAt.EqAt.bool_int c b t' _ _ _ _ (by rw[show((if c=true then 1 else 0)==b)=decide ((if c=true then 1 else 0)=b) from rfl];exact h)
   ·refine SeqAt.EqAt.bool_bool c c' _ _ _ _ ?_
    have e:(c==c')=decide ((if c=true then (1:Int)else 0)=if c'=true then 1 else 0):=by cases c<;>cases c'<;>rfl
    rw[e];exact h
 «strs»:=fun k x t v h=>by simp[Yjq]at h
theorem y8a{P:Program}{w:World}{x:V}{i:Int}{u:Value}(h:numV x=some i)(r:RelV x u):(Yah P w).is i u=true:=by
 cases x<;>simp[numV]at h
 ·subst h
  cases (show u=Value.bool _ from r)
  simp[Yah,Yjq]
 ·subst h
  obtain⟨t,rfl⟩:=(show ∃t,u=Value.int _ t from r)
  simp[Yah,Yjq]
theorem Ytk{P:Program}{w:World}:∀{xs:List V} {ks:List Int} {us:List Value},Yfg xs=some ks->Vals xs us->ItemsAre (Yah P w) ks us
 | [],ks,us,h,r=>by
   cases h
   cases r
   exact .nil
 | x::xs,ks,us,h,r=>by
   rw[Yfg]at h
   obtain⟨i,h1,h⟩:=qa h
   obtain⟨l,h2,rfl⟩:=qc h
   cases r with
   | cons r1 r2=>exact .cons (y8a h1 r1) (Ytk h2 r2)
theorem Yg8{P:Program}{w:World}{H:Hp}{h:Heap}{b:Addr}{ys:List V}{ks:List Int}(ok:HOk P w H h)(e:H b=some (.tup ys))(n:Yfg ys=some ks):(tupleKind (Yah P w)).is h ks b:=by
 obtain⟨_,its,r,o,h1,h2,k,h3⟩:=(show ObjOk P w H h b (.tup ys) from ok b _ e)
 exact⟨o,its.toArray,k,h1,h2,h3,by simpa using Ytk n r⟩
abbrev zipX(nks:List (List Int × Addr))(us:List Value):List (List Int × Addr × Value):=(nks.zip us).map fun p=>(p.1.1,p.1.2,p.2)
theorem Yxa{nks:List (List Int × Addr)}{us:List Value}(h:us.length=nks.length):(zipX nks us).map (·.1)=nks.map (·.1):=by
 unfold zipX
 rw[Qd]
 have e:((fun x:List Int × Addr × Value=>x.1) ∘ fun p:(List Int × Addr) × Value=>(p.1.1,p.1.2,p.2))=fun p=>p.1.1:=rfl
 rw[e]
 have:nks=(nks.zip us).map (·.1):=by rw[List.map_fst_zip (by lia)]
 conv=>rhs;rw[this]
 rw[Qd]
 rfl
theorem y8b{P:Program}{w:World}{G H:Hp}{h:Heap}{a:Addr}{nks:List (List Int × Addr)}{vxs:List V}{ep:Nat}(ok:HOk P w H h)(sm:Same G H)(e:H a=some (dTo a nks vxs ep))(hl:nks.length=vxs.length)(hn:(nks.map (·.1)).Nodup)
 (hk:∀p∈nks,∃ys,G p.2=some (.tup ys)/\Yfg ys=some p.1):(a==sysModules)=false/\∃us,Vals vxs us/\us.length=nks.length/\h.DictOfH (tupleKind (Yah P w)) a (zipX nks us):=by
 obtain⟨⟨hs,us,o,es,r,h1,h2,h3,h4⟩,_⟩:=(show ObjOk P w H h a (dTo a nks vxs ep) from ok a _ e)
 have hu:us.length=nks.length:=by rw[hl,r.length]
 refine⟨hs,us,r,hu,o,es,ep,h1,h2,h3,?_,fun x hx=>?_,by rw[Yxa hu];exact hn⟩
 ·rw[h4]
  unfold zipX
  rw[Qd]
  rfl
 ·obtain⟨p,hp,rfl⟩:=qx hx
  obtain⟨ys,q1,q2⟩:=hk p.1 (List.of_mem_zip hp).1
  exact Yg8 ok (sm _ _ q1) q2
def Yaf{α β:Type} [DecidableEq α]:List α->List β->α->Option β
 | k::ks,v::vs,x=>if k=x then some v else Yaf ks vs x
 | _,_,_=>none
theorem Ykn(k:List Int):∀(nks:List (List Int × Addr)) (us:List Value),(atKey (zipX nks us) k).map (·.2)=Yaf (nks.map (·.1)) us k
 | [],us=>by cases us<;>simp[zipX,atKey,Yaf]
 | p::nks,[]=>by simp[zipX,atKey,Yaf]
 | p::nks,u::us=>by
   have ih:=Ykn k nks us
   by_cases e:p.1=k
   ·simp[zipX,atKey,Yaf,List.find?_cons,e]
   ·simp only[zipX,List.zip_cons_cons,Qc,atKey,List.find?_cons,e,decide_false,Yaf,if_false]
    exact ih
theorem Ypy{α:Type} [DecidableEq α] (x:α):∀{ks:List α} {vxs:List V} {us:List Value},Vals vxs us->RelO (Yaf ks vxs x) (Yaf ks us x)
 | [],_,_,_=>True.intro
 | k::ks,_,_,.nil=>True.intro
 | k::ks,_,_,.cons r t=>by
   by_cases e:k=x
   ·simp only[Yaf,if_pos e];exact r
   ·simp only[Yaf,if_neg e];exact Ypy x t
theorem Yrw{α:Type} [DecidableEq α] {G:Hp} (x:α):∀{ks:List α} {vs:List D} {vxs:List V},RpL K G vs vxs->(∀d,Yaf ks vs x=some d->∃v,Yaf ks vxs x=some v/\Rp K G d v)/\(Yaf ks vs x=none->Yaf ks vxs x=none)
 | [],_,_,_=>⟨fun d h=>by simp[Yaf]at h,fun _=>by simp[Yaf]⟩
 | k::ks,[],_,r=>by
   rw[RpL]at r;subst r
   exact⟨fun d h=>by simp[Yaf]at h,fun _=>by simp[Yaf]⟩
 | k::ks,d::vs,_,r=>by
   rw[RpL]at r
   obtain⟨y,r',rfl,r1,r2⟩:=r
   by_cases e:k=x
   ·simp only[Yaf,if_pos e]
    exact⟨fun d' h=>⟨y,rfl,by cases h;exact r1⟩,fun h=>by cases h⟩
   ·simp only[Yaf,if_neg e]
    exact Yrw x r2
def setK{α β:Type} [DecidableEq α]:List α->List β->α->β->List β
 | k::ks,v::vs,x,y=>if k=x then y::vs else v::setK ks vs x y
 | _,vs,_,_=>vs
theorem Yfh{α β:Type} [DecidableEq α] (x:α) (y:β):∀(ks:List α) (vs:List β),(setK ks vs x y).length=vs.length
 | [],vs=>by cases vs<;>simp[setK]
 | k::ks,[]=>by simp[setK]
 | k::ks,v::vs=>by
   simp only[setK]
   split
   ·simp
   ·simp[Yfh x y ks vs]
theorem Ypz{α:Type} [DecidableEq α] (x:α) {y:V} {u:Value} (ry:RelV y u):∀{ks:List α} {vxs:List V} {us:List Value},Vals vxs us->Vals (setK ks vxs x y) (setK ks us x u)
 | [],_,_,.nil=>by simp[setK];exact .nil
 | [],_,_,.cons r t=>by simp[setK];exact .cons r t
 | k::ks,_,_,.nil=>by simp[setK];exact .nil
 | k::ks,_,_,.cons r t=>by
   simp only[setK]
   split
   ·exact .cons ry t
   ·exact .cons r (Ypz x ry t)
theorem Yrx{α:Type} [DecidableEq α] {G:Hp} (x:α) {d:D} {y:V} (ry:Rp K G d y):∀{ks:List α} {vs:List D} {vxs:List V},RpL K G vs vxs->RpL K G (setK ks vs x d) (setK ks vxs x y)
 | [],[],_,r=>by simpa [setK]using r
 | [],_::_,_,r=>by
   rw[RpL]at r
   obtain⟨z,r',rfl,r1,r2⟩:=r
   simp only[setK]
   exact .cons r1 r2
 | k::ks,[],_,r=>by
   rw[RpL]at r;subst r
   simp[setK];exact .nil
 | k::ks,e::vs,_,r=>by
   rw[RpL]at r
   obtain⟨z,r',rfl,r1,r2⟩:=r
   simp only[setK]
   split
   ·exact .cons ry r2
   ·exact .cons r1 (Yrx x ry r2)
theorem Yko{k:List Int}{b:Addr}{u:Value}:∀{nks:List (List Int × Addr)} {us:List Value},us.length=nks.length->(nks.map (·.1)).Nodup->k∈nks.map (·.1)->(zipX nks us).map (putAt k u)=zipX nks (setK (nks.map (·.1)) us k u)
 | [],us,_,_,h=>by simp at h
 | p::nks,[],hl,_,_=>by simp at hl
 | p::nks,v::us,hl,hn,hm=>by
   rw[Qc,List.nodup_cons]at hn
   by_cases e:p.1=k
   ·have hnot:k∉nks.map (·.1):=by rw[<-e];exact hn.1
    simp only[zipX,List.zip_cons_cons,Qc,setK,e,if_true]
    congr 1
    ·simp[putAt,e]
    ·refine(List.map_congr_left fun x hx=>?_).trans (List.map_id _)
     obtain⟨q,hq,rfl⟩:=qx hx
     have:¬q.1.1=k:=fun z=>hnot (List.mem_map.mpr ⟨q.1,(List.of_mem_zip hq).1,z⟩)
     simp[putAt,this]
   ·have hm':k∈nks.map (·.1):=by
     rw[Qc]at hm
     rcases qt hm with z | z
     ·exact absurd z.symm e
     ·exact z
    have ih:=Yko (k:=k) (b:=b) (u:=u) (nks:=nks) (us:=us) (by simpa using hl) hn.2 hm'
    simp only[zipX,List.zip_cons_cons,Qc,setK,e,if_false]
    congr 1
    ·simp[putAt,e]
theorem Ycv{α β:Type} [DecidableEq α] {x:α}:∀{ks:List α} {vs:List β},vs.length=ks.length->(Yaf ks vs x=none↔x∉ks)
 | [],_,_=>by simp[Yaf]
 | k::ks,[],h=>by simp at h
 | k::ks,v::vs,h=>by
   by_cases e:k=x
   ·simp[Yaf,e]
   ·have e':¬x=k:=fun z=>e z.symm
    simp only[Yaf,e,if_false,List.mem_cons,e',false_or]
    exact Ycv (by simpa using h)
end
section
open Sem (wp)
variable {K:W.Frag}
theorem Yxb:typeLookup (.type "list_reverseiterator") "__len__"=pure none:=by rw[typeLookup_type,builtinLookup_eq_fast];kernel_rfl
theorem y0u:typeLookup (.type "list_reverseiterator") "__length_hint__"=pure (some (.builtin "list_reverseiterator.__length_hint__")):=by rw[typeLookup_type,builtinLookup_eq_fast];kernel_rfl
set_option maxRecDepth 100000 in
theorem Yuw{prog:Program}{w:World}{A:Around}{s:Shared}{R:Result->Shared->Prop}{I:Addr}{fp wr:List Addr}{G:Array GenState->Array GenState->Prop}{n:Nat}{P:Nat->Value->Prop}{St:Nat->Shared->Prop}
 (W:WalksS prog w A.in1 I fp wr G n P St) (hT:∀i s,St i s->s.TypeIs (.ref I) "list_reverseiterator") (S:Addr) (res:Value) (c₀:Nat) (hst:St 0 s) (hSf:S∉fp) (hI:I∈fp)
 (hS:s.heap.get? S=some { cls:=.type "list",data:=.seq #[] c₀ })
 (hR:∀s' acc' c',Moved (S::wr) G s s'->s'.heap.get? S=some { cls:=.type "list",dict:=none,data:=.seq acc' c',slots:=#[] }->ItemsOf P acc' n->R (.ok (.ret res)) s') (hn:n<=sizeLine) :
 wpAny (model prog w) A.in1 (Builtin.List.listExtendWith (.ref S) (.ref I) res)
  (fun fin s'=>match fin with | .done f=>R (.ok f) s' | .again c'=>c'.quiet=true/\codeAny (model prog w) A c' R s') (fun e s'=>R (.error e) s') s:=by
 have hSI:S≠I:=fun e=>hSf (e ▸ hI)
 have h1:Builtin.List.listSameRef (.ref S) (.ref I)=false:=by simp[Builtin.List.listSameRef,hSI]
 unfold Builtin.List.listExtendWith
 refine wpAny_bind (wpAny_typeOf (hT 0 _ hst) ?_)
 rw[if_neg (by rw[h1];decide)]
 refine wpAny_bind (W.self 0 _ _ _ hst ?_)
 refine wpAny_bind (wpAny_holding ?_)
 unfold Builtin.List.listLengthHint
 refine wpAny_bind (wpAny_specialOf (hT 0 _ hst) Yxb ?_)
 show wpAny _ A.in1 (specialOf (Value.ref I) (Str.ofString "__length_hint__") >>= _) _ _ _
 refine wpAny_bind (wpAny_specialOf (hT 0 _ hst) y0u ?_)
 (generalize hid:("list_reverseiterator.__length_hint__":String)=id0;(fail_if_success (clear hid id0));wp_delta;rw[show splitId id0=some ("list_reverseiterator","__length_hint__") from by subst hid;decide +kernel];subst hid)
 refine wpAny_bind (wpAny_isInstance (b:=true) (hT 0 _ hst) (by rw[isSubtype_type];kernel_rfl) ?_)
 refine wpAny_pure ?_
 rw[if_neg (by decide)]
 exact wpAny_pure ⟨plainId_quiet F.plain_extend_loop _,codeAny_extend_loopS W hn _ hSf _ n 0 _ _ _ rfl (Qh _) hst hS (ItemsOf.nil P) hR⟩
section
variable {prog:Program} {w:World} {A:Around} {E:Value->Shared->Prop} {s:Shared} {I:Addr} {fp wr:List Addr} {G:Array GenState->Array GenState->Prop} {n:Nat} {P:Nat->Value->Prop} {St:Nat->Shared->Prop}
theorem Yry{Q:List Value->Shared->Prop}(W:WalksS prog w A.in1 I fp wr G n P St)(hT:∀i s,St i s->s.TypeIs (.ref I) "list_reverseiterator")(hst:St 0 s)(hfp:∀b∈fp,b < s.heap.objs.size)(hI:I∈fp)
 (hQ:∀s' acc,Moved wr G s s'->ItemsOf P acc n->Q acc.toList s') (hn:n<=sizeLine):wpAny (model prog w) A (collect (.ref I)) Q E s:=by
 have hSf:s.heap.objs.size∉fp:=fun hm=>Nat.lt_irrefl _ (hfp _ hm)
 unfold collect
 refine wpAny_bind (wpAny_runValue (codeAny_builtin F.entry_proto_collect ?_))
 rw[Around.under_plainId F.plain_proto_collect _]
 show wpAny _ A.in1 (newList [] >>= fun l=>again (.builtin "list.__iadd__" ⟨[l,.ref I],[]⟩)) _ _ s
 refine wpAny_bind (wpAny_newObj_type ?_)
 refine wpAny_pure ⟨plainId_quiet F.plain_list_iadd _,codeAny_builtin F.entry_list_iadd ?_⟩
 rw[Around.under_plainId F.plain_list_iadd _]
 have hst₁:=W.frame 0 s (s.heap.push { cls:=.type "list",data:=.seq ([]:List Value).toArray }) s.toks hst (qu _) fun b _ o e=>qe _ e
 have hS₁:(s.heap.push { cls:=.type "list",data:=.seq ([]:List Value).toArray }).get? s.heap.objs.size=some { cls:=.type "list",data:=.seq ([]:List Value).toArray }:=qp _ rfl
 show wpAny _ A.in1 (Builtin.List.listExtendWith (.ref s.heap.objs.size) (.ref I) (.ref s.heap.objs.size)) _ _ _
 refine wpAny_mono (Yuw (A:=A) (R:=fun r s'=>r=.ok (.ret (.ref s.heap.objs.size))/\∃acc' c',Moved (s.heap.objs.size::wr) G { s with heap:=s.heap.push { cls:=.type "list",data:=.seq ([]:List Value).toArray } } s'/\s'.heap.get? s.heap.objs.size=some { cls:=.type "list",dict:=none,data:=.seq acc' c',slots:=#[] }/\ItemsOf P acc' n)
  W hT _ _ 0 hst₁ hSf hI hS₁ (fun s' acc' c' a b c=>⟨rfl,acc',c',a,b,c⟩) hn) (fun fin s' h=>?_) (fun e s' h=>?_)
 ·have fin':∀s' acc' c',Moved (s.heap.objs.size::wr) G { s with heap:=s.heap.push { cls:=.type "list",data:=.seq ([]:List Value).toArray } } s'->s'.heap.get? s.heap.objs.size=some { cls:=.type "list",dict:=none,data:=.seq acc' c',slots:=#[] }->ItemsOf P acc' n->
   wpAny (model prog w) A (match Value.ref s.heap.objs.size with
    | Value.ref a=>do
      match (<-load a).data with
       | Data.seq xs _=>pure xs.toList
       | _=>unsupported "internal:collect"
    | _=>unsupported "internal:collect") Q E s':=fun s' acc' c' hm hS' hacc=>by
   show wpAny _ A (load s.heap.objs.size >>= _) _ _ s'
   refine wpAny_bind (wpAny_load hS' ?_)
   exact wpAny_pure (hQ s' acc' (Moved.drop_new (o:={ cls:=.type "list",data:=.seq ([]:List Value).toArray }) (tk:=s.toks) hm (qu _)) hacc)
  cases fin with
  | done f=>
    obtain⟨e,acc',c',a,b,c⟩:=h
    cases e
    exact fin' _ acc' c' a b c
  | again c'=>exact⟨h.1,codeAny_mono h.2 fun r s'' hr=>by obtain⟨rfl,acc',c',a,b,c⟩:=hr;exact fin' _ acc' c' a b c⟩
 ·exact absurd h.1 (by simp)
set_option maxRecDepth 100000 in
theorem Yhq{Q₁:Value->Shared->Prop}(W:WalksS prog w A.in1.in1 I fp wr G n P St)(hT:∀i s,St i s->s.TypeIs (.ref I) "list_reverseiterator")(hst:St 0 s)(hfp:∀b∈fp,b < s.heap.objs.size)(hI:I∈fp)
 (h:∀s' acc,Moved wr G s s'->ItemsOf P acc n->Q₁ (.ref s'.heap.objs.size) { s' with heap:=s'.heap.push { cls:=.type "tuple",data:=.seq acc } }) (hsz:n<=sizeLine) :
 codeAny (model prog w) A (.call (.builtin "tuple.__new__") ⟨[.type "tuple",.ref I],[]⟩) (wants Q₁ E) s:=by
 refine codeAny_of_tree ?_
 show wpAny _ A.in1 (do checkBuiltinCall "tuple.__new__" ⟨[.type "tuple",.ref I],[]⟩;again (.builtin "tuple.__new__" ⟨[.type "tuple",.ref I],[]⟩)) _ _ s
 refine wpAny_bind (wpAny_of_eq (F.newCall_tuple_1 _) (wpAny_pure ⟨plainId_quiet F.plain_tuple_new _,codeAny_builtin F.entry_tuple_new ?_⟩))
 rw[Around.under_plainId F.plain_tuple_new _]
 have hsub:=sub_tuple_self
 have hinit:=init_tuple_lookup
 have hmh:=madeHere_tuple
 have hTI:=hT 0 s hst
 wp_walk using wpAny_typeOf hTI,Yry (hn:=hsz) W hT hst hfp hI
 intro s' acc hm hacc
 show wpAny _ _ (Builtin.Tuple.tupleExact acc.toList.toArray >>= fun v=>ret v) _ _ _
 unfold Builtin.Tuple.tupleExact
 refine wpAny_bind (wpAny_newObj_type ?_ (by show acc.toList.toArray.size<=sizeLine;simp only[Array.toArray_toList];rw[hacc.1];exact hsz))
 refine wpAny_pure ?_
 have e:acc.toList.toArray=acc:=by simp
 rw[e]
 exact h s' acc hm hacc
theorem Yjr{Q:Value->Shared->Prop}(W:WalksS prog w A.in1.in1.in1 I fp wr G n P St)(hT:∀i s,St i s->s.TypeIs (.ref I) "list_reverseiterator")(hst:St 0 s)(hfp:∀b∈fp,b < s.heap.objs.size)(hI:I∈fp)
 (hQ:∀s' acc,Moved wr G s s'->ItemsOf P acc n->Q (.ref s'.heap.objs.size) { s' with heap:=s'.heap.push { cls:=.type "tuple",data:=.seq acc } }) (hsz:n<=sizeLine) :
 wpAny (model prog w) A (call (.type "tuple") [.ref I]) Q E s:=by
 refine callType_codes (Q₁:=fun obj s₁=>s₁.TypeIs obj "tuple"/\Q obj s₁) F.called_tuple (F.typeCall_tuple_1 _) F.entry_object_init
  (Yhq (hsz:=hsz) W hT hst hfp hI fun s' acc hm hacc=>⟨⟨_,qp _ rfl,rfl⟩,hQ s' acc hm hacc⟩) fun obj s₁ h₁=>?_
 exact⟨h₁.1,F.args_object_init_2 obj _,object_init_meets F.called_tuple.init.lookup F.called_tuple.made (by decide) prog w A.in1 _ s₁ ⟨h₁.1,rfl,h₁.2⟩⟩
end
theorem Yxc{items acc:Array Value}(h:ItemsOf (fun i v=>items[items.size - 1 - i]?=some v) acc items.size):acc.toList=items.toList.reverse:=by
 obtain⟨h1,h2⟩:=h
 apply List.ext_getElem?
 intro i
 by_cases hi:i < items.size
 ·have hi2:i < acc.size:=by rw[h1];exact hi
  have e:=h2 i acc[i] (Qs hi2)
  rw[List.getElem?_reverse (by simpa using hi)]
  rw[Array.getElem?_toList,Array.getElem?_toList,Qs hi2,<-e]
  simp
 ·rw[List.getElem?_eq_none (by simp;lia),List.getElem?_eq_none (by simp;lia)]
theorem Yjf:∀{xs:List V} {us:List Value},Vals xs us->Vals xs.reverse us.reverse
 | _,_,.nil=>.nil
 | _,_,.cons r t=>by
   rw[List.reverse_cons,List.reverse_cons]
   exact(Yjf t).append (.cons r .nil)
section
variable {X:Cx} {e:Expr} {ta:TA} {p p2 pos pos2:Pos}
theorem y0v{pins:List (Addr × Obj)}{σ:L2.St}{H:Hp}{s:Shared}{Q:Value->Shared->Prop}{q:List V->Hp->Prop}(I:Inv X pins σ H s)(hg2:Gl X "reversed")(hm2:X.mg "reversed"=none)(ha:PA X [e] ta)(h:ta σ H q)
 (hs:starEach [e] X.env=[(false,eval e X.env)])
 (k:∀vs H1 s1,Inv X pins σ H1 s1->q vs H1->∃a xs its,vs=[.ref a]/\SqL X.K H1 a xs/\Vals xs its/\s1.heap.IsList a its.toArray/\Q (.ref s1.heap.objs.size) { s1 with heap:=s1.heap.push (revObj a ((its.toArray.size:Int) - 1)) }) :
 wpAny (model X.prog X.w) X.A (eval (.Call (.Name "reversed" p2) [e] [] pos2) X.env) Q X.xe s:=by
 refine Call_ (Yj7 I hg2 hm2 boot_reversed (PyProof.Rows.callWith_type1 (thn (ha pos2 pins s σ H _ I h) fun us s1 hx_=>?_) hs rfl))
 obtain⟨vs,H1,I1,r1,q1⟩:=hx_
 obtain⟨a,xs,its,rfl,hq,rv,pl,z⟩:=k vs H1 s1 I1 q1
 obtain⟨u,rfl,ru⟩:=Yg5 r1
 cases ru
 exact call_reversed_list pl z
def Yaao(K:W.Frag)(ta:TA):TE:=fun σ H Q=>ta σ H fun vs H1=>∃a xs,vs=[.ref a]/\SqL K H1 a xs/\∀l,H1 l=none->Q (.ref l) (upd H1 l (.tup xs.reverse))
theorem Yxd(hc:X.calm=true)(hg:Gl X "tuple")(hm:X.mg "tuple"=none)(hg2:Gl X "reversed")(hm2:X.mg "reversed"=none)(ha:PA X [e] ta)(hs:starEach [e] X.env=[(false,eval e X.env)]:=by rfl)
 (he:starEach [.Call (.Name "reversed" p2) [e] [] pos2] X.env=[(false,eval (.Call (.Name "reversed" p2) [e] [] pos2) X.env)]:=by rfl) :
 PE X (.Call (.Name "tuple" p) [.Call (.Name "reversed" p2) [e] [] pos2] [] pos) (Yaao X.K ta):=by
 intro pins s σ H Q I h
 refine wpAny_Call_Name_kw (Yj7 I hg hm boot_tuple ?_ (by decide) (by decide))
 refine PyProof.Rows.callWith_type1 ?_ he rfl
 rw[he]
 refine Calls.spliced_cons (y0v I hg2 hm2 ha h hs fun vs H1 s1 I1 q1=>?_)
 obtain⟨a,xs,rfl,hq,q⟩:=q1
 obtain⟨its,rv,pl,hz⟩:=I1.list hq
 refine⟨a,xs,its,rfl,hq,rv,pl.isList,Calls.spliced_nil ?_⟩
 have hne:a≠s1.heap.objs.size:=by
  obtain⟨o,ho,_⟩:=pl.isList
  exact qm (ql ho)
 have hlt:a < s1.heap.objs.size:=by
  obtain⟨o,ho,_⟩:=pl.isList
  exact ql ho
 have hl:=rv.length
 refine Yjr (Walks.listRev (show X.A.in1.in1.in1.handled=none from I1.ok.hd hc) s1.heap.objs.size a hne its.toArray).toS (fun i s st=>st.2.1.typeIs) ⟨Qh _,⟨_,qp _ rfl,rfl,by simp[revObj]⟩,pl.isList.push _⟩ (fun b hb=>?_) (by simp) (fun s' acc' hm' hacc=>?_) (by rw[qk];lia)
 ·show b < (s1.heap.push _).objs.size
  rw[Heap.size_push]
  rcases qt hb with rfl | hb
  ·exact qz _
  ·rw[List.mem_singleton.mp hb];exact qw hlt
 ·have hsz:(s1.heap.push (revObj a ((its.toArray.size:Int) - 1))).objs.size=s1.heap.objs.size+1:=Heap.size_push ..
  have kp:∀b u,s1.heap.get? b=some u->s'.heap.get? b=some u:=fun b u qb=>by
   have hb:b < s1.heap.objs.size:=ql qb
   refine hm'.heap b u (fun z=>?_) (qe _ qb)
   rw[List.mem_singleton.mp z]at hb;exact absurd hb (Nat.lt_irrefl _)
  have ev:acc'.toList=its.reverse:=by simpa using Yxc hacc
  have I2:Inv X pins σ H1 s':=by
   have e:=Moved.eq_with hm'
   rw[e]
   exact I1.kept (t':=s'.toks) kp
  refine⟨.ref s'.heap.objs.size,upd H1 s'.heap.objs.size (.tup xs.reverse),?_,rfl,q _ (I2.hok.fresh (qu _))⟩
  have ea:acc'=acc'.toList.toArray:=by simp
  exact I2.laid (t':=s'.toks) (fun b o e=>qe _ e) (qu _) (show ObjOk X.prog X.w _ _ _ (.tup xs.reverse) from⟨by rw[List.length_reverse];exact hz,acc'.toList,by rw[ev];exact Yjf rv,by rw[<-ea];exact IsTup.new _ _⟩)
def revF(f:Ro->Option D):Ro->Option (List D):=fun ρ=>(b1 f lstD ρ).map List.reverse
variable {f:Ro->Option D}
theorem Yxe(hc:X.calm=true)(hg:Gl X "tuple")(hm:X.mg "tuple"=none)(hg2:Gl X "reversed")(hm2:X.mg "reversed"=none)(ha:MC X e f)(hs:starEach [e] X.env=[(false,eval e X.env)]:=by rfl)
 (he:starEach [.Call (.Name "reversed" p2) [e] [] pos2] X.env=[(false,eval (.Call (.Name "reversed" p2) [e] [] pos2) X.env)]:=by rfl) :
 ME X (.Call (.Name "tuple" p) [.Call (.Name "reversed" p2) [e] [] pos2] [] pos) (fun ρ=>(revF f ρ).map D.tup):=
 PE.imp (Yxd hc hg hm hg2 hm2 (Yho ha Ykh hs) hs he) fun σ H Q hx_=>by
  obtain⟨ρ,d0,H0,G0,G,e,s,h⟩:=hx_
  obtain⟨l1,h0,rfl⟩:=qc e
  obtain⟨l0,h1,rfl⟩:=qc h0
  obtain⟨d,h2,h3⟩:=Ycr h1
  refine tCAof.at (show Yg f aNil ρ=some [d] by simp[Yg,aNil,h2]) s fun vs H1 G1 g1 r1 s1=>?_
  obtain⟨v,rfl,rv⟩:=Ydh r1
  obtain⟨q,xs,rfl,g,rl⟩:=Ypt h3 rv
  refine⟨q,xs,rfl,g,fun m hm'=>h _ _ _ (g1.trans (.new s1.seen hm' (.tup xs.reverse))) ?_⟩
  rw[Rp]
  exact⟨m,_,rfl,Yw,rl.reverse.mono (Gr.new s1.seen hm' _).g⟩
end
end
section
variable {K:W.Frag}
section
variable {X:Cx} {e ie:Expr} {f fb:Ro->Option D} {pos:Pos}
def rExt:V->List V->Hp->VK->Prop:=fun x vs H Q=>∃l b xs zs,x=.ref l/\vs=[.ref b]/\H l=some (.lst xs)/\Rd H b (.lst zs)/\xs.length+zs.length<=sizeLine/\Q .non (upd H l (.lst (xs++zs)))
theorem y8c:MtM X "list.extend" rExt:=by
 intro pins s σ H x vs v us Q I rx rv h
 obtain⟨l,b,xs,zs,rfl,rfl,hH,hB,hz,q⟩:=h
 cases rx
 obtain⟨u,rfl,ru⟩:=rv.one
 cases ru
 obtain⟨z,its,n,r,hl,e⟩:=I.lstM hH
 obtain⟨z2,its2,n2,r2,e2⟩:=hB.ok I.hok
 have hl2:=r2.length
 have hsz:its.toArray.size+its2.toArray.size<=sizeLine:=by rw[qk,qk];lia
 have hlong:¬(!its.toArray.isEmpty&&Builtin.List.listTooLong (its.toArray.size+its2.toArray.size))=true:=by
  rw[y0e hsz,Bool.and_false]
  exact qi
 refine call_meets F.slot_list_extend ⟨_,e,rfl⟩ F.entry_list_extend (F.args_list_extend_2 _ _)
  (AutoSeq1.list_extend_list_list_0 l its.toArray n b its2.toArray n2 hlong (by rw[qk];lia) (by lia)) ⟨e,e2,?_⟩
 refine⟨.non,_,I.lset (its':=its++its2) hH e (by simp) (r.append r2) ?_,rfl,q⟩
 rw[qy]
 lia
def extD(l:List D)(d:D):Option (List D):=match d with
 | .lst m=>if l.length+m.length<=cap6 then some (l++m)else none
 | _=>none
theorem Yxf(i:Nat){x:Str}{p2 apos cpos:Pos}(he:ME X e f)(hN:X.N[i]?=some x:=by rfl)(hv:Vis X.env.scope x:=by first | exact Or.inl rfl | exact Or.inr (Or.inl rfl) | exact Or.inr (Or.inr rfl))
 (hd:(x==("__debug__":Str))=false:=by decide) (hcd:(x==("__classdict__":Str))=false:=by decide) (hse:swapsWith (.Call (.Attribute (.Name x p2) "extend" apos) [e] [] cpos) none pos.line X.env=pure false:=by rfl)
 (hs:starEach [e] X.env=[(false,eval e X.env)]:=by rfl)
 (hfew:((backTo cpos (starEach [e] X.env)).all (fun x=>!x.1)&&(backToKw cpos (keywordEach [] X.env)).all (fun x=>x.1.isSome)&&decide ([e].length+([]:List Keyword).length+(if ([]:List Keyword).isEmpty then 0 else 1) < 30))=true:=by rfl)
 (hline:(apos.endLine==cpos.line)=true:=by rfl) (hbase:attributeBase (.Name x p2) "extend" X.env (eval (.Name x p2) X.env)=eval (.Name x p2) X.env:=by rfl) :
 MS X (.Expr (.Call (.Attribute (.Name x p2) "extend" apos) [e] [] cpos) pos) (sMut i f extD):=
 PS.imp (Yrm (y3v PySem.F.plainAttrs_list PySem.F.slot_list_extend PySem.F.type_list_extend y8c (Yme hN hv hd hcd) (Yf1 he Yj8 hs) hbase hfew hline hs rfl) hse) fun F σ H hx_=>by
  obtain⟨ρ,out,H0,G0,G,e,s,h⟩:=hx_
  unfold sMut at e
  obtain⟨l,h1,e⟩:=qa e
  obtain⟨d,h2,e⟩:=qa e
  obtain⟨l',h3,rfl⟩:=qc e
  unfold extD at h3
  split at h3
  ·rename_i m
   split at h3
   ·rename_i hl
    cases h3
    obtain⟨a,xs,ha,hH,hr,hG⟩:=y2p s h1
    refine⟨_,ha,.inl ⟨rfl,xs,SqL.of hH⟩,tOf.at h2 s fun v H1 G1 g1 r1 s1=>?_⟩
    rw[Rp]at r1
    obtain⟨b,zs,rfl,gb,rz⟩:=r1
    refine⟨a,b,xs,zs,rfl,rfl,g1.h _ _ hH,Ydg s1.seen gb,?_,h σ _ G1 (s1.mut (Ykf h1) ha ((hr.mono g1.g).append rz))⟩
    rw[hr.length,rz.length]
    exact Yeo hl
   ·cases h3
  ·cases h3
end
end
section
variable {K:W.Frag}
def SE(w:World):List DictEntry->List (Str × Str)->Prop:=Paired fun e p=>e.hash=PyData.keyHash w.params p.1/\(∃t,e.key=.str p.1 t)/\(∃t,e.val=.str p.2 t)/\PyData.strOk p.2=true
def GD(K:W.Frag)(w:World)(mg:Str->Option Value)(x:Str)(kvs:List (Str × Str)):Prop:=∃p o es ep,mg x=some (.ref p)/\K.lookup p=some o/\o.ExactDict/\o.data=.dict es ep/\SE w es.toList kvs
theorem Yxg{P:Program}{w:World}{k v:Str}:∀{l:List DictEntry} {kvs:List (Str × Str)},SE w l kvs->kvs.lookup k=some v->∃e t,l.find? (fun e=>(PySem.strKind P w).is k e.key)=some e/\e.val=.str v t
 | _,_,.nil,h=>by simp at h
 | _,_,.cons (a:=e) (b:=p) r t,h=>by
   obtain⟨_,⟨t1,h1⟩,⟨t2,h2⟩,_⟩:=r
   obtain⟨a,b⟩:=p
   by_cases q:a=k
   ·subst q
    simp at h
    subst h
    exact⟨e,t2,by simp[List.find?_cons,h1,PySem.strKind,Value.isStrOf],h2⟩
   ·have q':¬k=a:=fun z=>q z.symm
    simp[Qo,q']at h
    have hn:(k==a)=false:=by simpa using q'
    obtain⟨e',t',h3,h4⟩:=Yxg (P:=P) t (by simpa [Qo,hn]using h)
    refine⟨e',t',?_,h4⟩
    rw[List.find?_cons]
    have:(PySem.strKind P w).is k e.key=false:=by
     rw[h1]
     show(a==k)=false
     simpa using q
    rw[this]
    exact h3
theorem Yxh{P:Program}{w:World}:∀{l:List DictEntry} {kvs:List (Str × Str)},SE w l kvs->∀e∈l,∃k,(PySem.strKind P w).is k e.key=true/\e.hash=(PySem.strKind P w).hash k
 | _,_,.nil,e,h=>by cases h
 | _,_,.cons (b:=p) r t,e,h=>by
   rcases qt h with rfl | h
   ·obtain⟨h0,⟨t1,h1⟩,_⟩:=r
    exact⟨p.1,by rw[h1];simp[PySem.strKind,Value.isStrOf],h0⟩
   ·exact Yxh t e h
theorem y8d{w:World}{k v:Str}:∀{l:List DictEntry} {kvs:List (Str × Str)},SE w l kvs->kvs.lookup k=some v->PyData.strOk v=true
 | _,_,.nil,h=>by simp at h
 | _,_,.cons (b:=p) r t,h=>by
   obtain⟨_,_,_,h1⟩:=r
   obtain⟨a,b⟩:=p
   by_cases q:k=a
   ·subst q
    simp at h
    subst h
    exact h1
   ·have hn:(k==a)=false:=by simpa using q
    exact y8d t (by simpa [Qo,hn]using h)
section
variable {X:Cx} {ke:Expr} {fk:Ro->Option D} {pos px:Pos} {x:Str}
def Yxi(kvs:List (Str × Str)):D->Option D
 | .str k=>(kvs.lookup k).map D.str
 | _=>none
theorem y0w{kvs:List (Str × Str)}(g:GD X.K X.w X.mg x kvs)(hg:Gl X x)(hk:MC X ke fk)(hs:NoSl ke:=by intro _ _;rfl)(hd:(x==("__debug__":Str))=false:=by decide):ME X (.Subscript (.Name x px) ke pos) (b1 fk (Yxi kvs)):=by
 obtain⟨p,o,es,ep,hm,hl,hx,hdt,hse⟩:=g
 intro pins s σ H Q I ⟨ρ,d,H0,G0,G,e,sr,h⟩
 obtain⟨dk,h1,h2⟩:=Ycr e
 refine y3p PySem.F.slot_dict_getitem.lookup hs (Yvx I hg hm ?_ hd)
 refine thn (hk pins s σ H (fun(v':V) (H':Hp)=>∃k r,v'=.str k/\kvs.lookup k=some r/\Q (.str r) H') I (tCof.at h1 sr fun v H1 G1 g1 r1 s1=>?_)) fun iv s2 q0=>?_
 ·unfold Yxi at h2
  split at h2
  ·rename_i k
   obtain⟨r,h3,rfl⟩:=qc h2
   rw[Ct]at r1
   exact⟨k,r,r1.1,h3,h _ H1 G1 g1 (by rw[Rp];exact⟨rfl,y8d hse h3⟩)⟩
  ·cases h2
 ·obtain⟨y,H2,I2,ry,k,r,rfl,h3,q⟩:=q0
  obtain⟨t,rfl⟩:=ry
  have ho:s2.heap.get? p=some o:=I2.kIn p o hl
  obtain⟨e',t',f1,f2⟩:=Yxg (P:=X.prog) hse h3
  refine⟨⟨o,ho,hx.1⟩,wpAny_getItem_of (knd:=PySem.strKind X.prog X.w) (k:=k) (f:=fun k=>findBy (PySem.strKind X.prog X.w).is es k) (v:=.str r t') (by simp[PySem.strKind,Value.isStrOf]) ⟨o,es,ep,ho,hx,hdt,?_,fun _=>rfl⟩ ?_ ⟨.str r,H2,I2.tok _,⟨t',rfl⟩,q⟩⟩
  ·intro e'' he
   exact Yxh hse e'' (by simpa using he)
  ·show(es.find? fun e=>(PySem.strKind X.prog X.w).is k e.key).map (·.val)=_
   rw[<-Array.find?_toList,f1,Option.map_some,f2]
end
theorem Gr.updHid{H G H2 G2:Hp}(g:Gr H G H2 G2){p:Addr}(hp:H p=none)(gp:G2 p=none)(o:HO):Gr H G (upd H2 p o) G2:=
 ⟨fun b u e=>by rw[Yab (y0 e hp)];exact g.h b u e,g.g,fun b u e=>by rw[Yab (y0 e gp)];exact g.s b u e,g.n⟩
def tK(x:Str):TE:=fun _ H Q=>Q (.str x) H
structure MP(X:Cx)(pos:Pos)(keys:List (Option Expr))(values:List Expr)(ks:List Str)(fs:List (Ro->Option D)):Prop where
 len:ks.length=fs.length
 pps:PPs X pos keys values ((ks.zip fs).map fun p=>(tK p.1,tOf X.K p.2))
 all:keys.all (·.isSome)=true
 kv:keys.length=values.length
 kk:keys.length=ks.length
end
section
variable {K:W.Frag}
def numD:D->Option Int
 | .int i=>some i
 | .bl b=>some (if b then 1 else 0)
 | _=>none
def y0x:List D->Option (List Int)
 | []=>some []
 | d::l=>(numD d).bind fun i=>(y0x l).map (i::·)
def nKey:D->Option (List Int)
 | .tup l=>y0x l
 | _=>none
def Ygw:List D->Option (List (List Int))
 | []=>some []
 | d::l=>(nKey d).bind fun k=>(Ygw l).map (k::·)
theorem y8e{G:Hp}{d:D}{v:V}{i:Int}(h:numD d=some i)(r:Rp K G d v):numV v=some i:=by
 cases d<;>simp[numD]at h
 ·subst h
  rw[Rp]at r
  subst r
  rfl
 ·subst h
  rw[Rp]at r
  subst r
  rfl
theorem Yrz{G:Hp}:∀{l:List D} {xs:List V} {k:List Int},y0x l=some k->RpL K G l xs->Yfg xs=some k
 | [],xs,k,h,r=>by
   cases h
   rw[RpL]at r
   subst r
   rfl
 | d::l,xs,k,h,r=>by
   rw[y0x]at h
   obtain⟨i,h1,h⟩:=qa h
   obtain⟨m,h2,rfl⟩:=qc h
   rw[RpL]at r
   obtain⟨x,q,rfl,r1,r2⟩:=r
   rw[Yfg,y8e h1 r1,Yrz h2 r2]
   rfl
theorem Yp0{G H:Hp}{d:D}{v:V}{k:List Int}(h:nKey d=some k)(r:Ct K G H d v):∃b ys,v=.ref b/\H b=some (.tup ys)/\G b=some (.tup ys)/\Yfg ys=some k:=by
 cases d with
 | tup l=>
   rw[Ct]at r
   obtain⟨b,ys,rfl,⟨g1,g2⟩,rl⟩:=r
   exact⟨b,ys,rfl,g1,g2,Yrz h rl⟩
 | _=>cases h
theorem Ynm{G:Hp}:∀{ks:List D} {kn:List (List Int)} {nks:List (List Int × Addr)},Ygw ks=some kn->RpL K G ks (nks.map fun p=>V.ref p.2)->(∀p∈nks,∃ys,G p.2=some (.tup ys)/\Yfg ys=some p.1)->nks.map (·.1)=kn
 | [],kn,nks,h,r,_=>by
   cases h
   rw[RpL]at r
   simpa using r
 | d::ks,kn,nks,h,r,hk=>by
   rw[Ygw]at h
   obtain⟨k,h1,h⟩:=qa h
   obtain⟨m,h2,rfl⟩:=qc h
   rw[RpL]at r
   obtain⟨x,q,e,r1,r2⟩:=r
   cases nks with
   | nil=>cases e
   | cons p nks=>
     rw[Qc]at e
     injection e with e1 e2
     subst e1 e2
     have ih:=Ynm h2 r2 fun p hp=>hk p (qg _ hp)
     obtain⟨ys,g,n⟩:=hk p qh
     cases d with
     | tup l=>
       rw[Rp]at r1
       obtain⟨a,xs,e3,g',rl⟩:=r1
       injection e3 with e3
       subst e3
       rw[g]at g'
       cases g'
       rw[Yrz h1 rl]at n
       injection n with n
       rw[Qc,ih,n]
     | _=>cases h1
structure DtH(H:Hp)(a:Addr)(nks:List (List Int × Addr))(vxs:List V):Prop where
 at':∃ep,H a=some (dTo a nks vxs ep)
 len:nks.length=vxs.length
 nd:(nks.map (·.1)).Nodup
 keys:∀p∈nks,∃ys,H p.2=some (.tup ys)/\Yfg ys=some p.1
section
variable {X:Cx}
theorem Ytl{pins:List (Addr × Obj)}{s:Shared}{σ:L2.St}{H:Hp}{a:Addr}{nks:List (List Int × Addr)}{vxs:List V}(I:Inv X pins σ H s)(d:DtH H a nks vxs) :
 (a==sysModules)=false/\∃us,Vals vxs us/\us.length=nks.length/\s.heap.DictOfH (tupleKind (Yah X.prog X.w)) a (zipX nks us):=by
 obtain⟨ep,e⟩:=d.at'
 exact y8b I.hok (Same.refl H) e d.len d.nd d.keys
def y8f:R2:=fun x y H Q=>∃a b nks vxs ys k v,x=.ref a/\y=.ref b/\DtH H a nks vxs/\H b=some (.tup ys)/\Yfg ys=some k/\Yaf (nks.map (·.1)) vxs k=some v/\Q v H
theorem y4o{nks:List (List Int × Addr)}{vxs:List V}{us:List Value}{k:List Int}{z:V}(r:Vals vxs us)(hf:Yaf (nks.map (·.1)) vxs k=some z):∃p,atKey (zipX nks us) k=some p/\RelV z p.2:=by
 have h1:=Ypy k (ks:=nks.map (·.1)) r
 rw[hf,<-Ykn k nks us]at h1
 cases h:atKey (zipX nks us) k with
 | none=>rw[h]at h1;exact h1.elim
 | some p=>rw[h]at h1;exact⟨p,rfl,h1⟩
theorem Yaap(hu:X.A.units+64 < cLine):IxR X y8f:=by
 intro value slice pins s σ H x y v u Q I rx ry h hs
 obtain⟨a,b,nks,vxs,ys,k,z,rfl,rfl,dt,eb,nk,hf,q⟩:=h
 cases rx
 cases ry
 obtain⟨hsm,us,r,hl,dd⟩:=Ytl I dt
 have key:=Yg8 (P:=X.prog) (w:=X.w) I.hok eb nk
 obtain⟨p,hp,rz⟩:=y4o r hf
 exact tail_any dd.typeIs PySem.F.slot_dict_getitem.lookup (wpAny_getItem_heap (knd:=tupleKind (Yah X.prog X.w)) (by show X.A.in1.units < cLine;have:X.A.in1.units=X.A.units+1:=rfl;lia) key dd hp ⟨z,H,I.tok _,rz,q⟩) hs
def y4p(neg:Bool):R2:=fun x y H Q=>∃a b nks vxs ys k,x=.ref b/\y=.ref a/\DtH H a nks vxs/\H b=some (.tup ys)/\Yfg ys=some k/\Q (.bl (decide (k∈nks.map (·.1)) != neg)) H
theorem Yr0{nks:List (List Int × Addr)}{us:List Value}{k:List Int}(hl:us.length=nks.length):(atKey (zipX nks us) k).isSome=decide (k∈nks.map (·.1)):=by
 have h1:=Ykn k nks us
 have h2:=Ycv (x:=k) (ks:=nks.map (·.1)) (vs:=us) (by simpa using hl)
 cases h:atKey (zipX nks us) k with
 | none=>
   rw[h]at h1
   have:=h2.mp h1.symm
   simp at this ⊢
   exact this
 | some p=>
   rw[h]at h1
   have:k∈nks.map (·.1):=Classical.byContradiction fun z=>by
    rw[h2.mpr z]at h1
    cases h1
   simp only[Option.isSome_some]
   exact(decide_eq_true this).symm
theorem y2s(hu:X.A.units+64 < cLine):OpR X (compareOp .In) (y4p false):=by
 intro pins s σ H x y v u Q I rx ry h
 obtain⟨a,b,nks,vxs,ys,k,rfl,rfl,dt,eb,nk,q⟩:=h
 cases rx
 cases ry
 obtain⟨hsm,us,r,hl,dd⟩:=Ytl I dt
 have key:=Yg8 (P:=X.prog) (w:=X.w) I.hok eb nk
 refine wpAny_in_heap (knd:=tupleKind (Yah X.prog X.w)) (by show X.A.in1.units < cLine;have:X.A.in1.units=X.A.units+1:=rfl;lia) key hsm dd ⟨.bl (decide (k∈nks.map (·.1)) != false),H,I.tok _,?_,q⟩
 rw[Yr0 hl,Bool.bne_false]
 rfl
theorem Yxj(hu:X.A.units+64 < cLine):OpR X (compareOp .NotIn) (y4p true):=by
 intro pins s σ H x y v u Q I rx ry h
 obtain⟨a,b,nks,vxs,ys,k,rfl,rfl,dt,eb,nk,q⟩:=h
 cases rx
 cases ry
 obtain⟨hsm,us,r,hl,dd⟩:=Ytl I dt
 have key:=Yg8 (P:=X.prog) (w:=X.w) I.hok eb nk
 refine wpAny_notIn_heap (knd:=tupleKind (Yah X.prog X.w)) (by show X.A.in1.units < cLine;have:X.A.in1.units=X.A.units+1:=rfl;lia) key hsm dd ⟨.bl (decide (k∈nks.map (·.1)) != true),H,I.tok _,?_,q⟩
 rw[Yr0 hl,Bool.bne_true]
 rfl
theorem Yp1{P:Program}{w:World}{h':Heap}{a:Addr}{nks:List (List Int × Addr)}{vxs:List V}{us:List Value}(hd:(a==sysModules)=false)(r:Vals vxs us)(dd:h'.DictOfH (tupleKind (Yah P w)) a (zipX nks us)) :
 ∃ep,∀H',ObjOk P w H' h' a (dTo a nks vxs ep):=by
 obtain⟨o,es,ep,h1,h2,h3,h4,_⟩:=dd
 refine⟨ep,fun H'=>⟨⟨hd,us,o,es,r,h1,h2,h3,?_⟩,⟨o,h1⟩,fun h1 h2 f k=>?_⟩⟩
 ·rw[h4]
  unfold zipX
  rw[Qd]
  rfl
 ·obtain⟨hd,us,o,es,r,e1,e2⟩:=f
  exact⟨hd,us,o,es,r,k o e1,e2⟩
def putT(nks:List (List Int × Addr))(vxs:List V)(k:List Int)(b:Addr)(v:V):List (List Int × Addr) × List V:=
 if k∈nks.map (·.1)then (nks,setK (nks.map (·.1)) vxs k v)else (nks++[(k,b)],vxs++[v])
def Yaaq:V->V->V->Hp->(Hp->Prop)->Prop:=fun o i v H Q=>∃a b nks vxs ys k,o=.ref a/\i=.ref b/\DtH H a nks vxs/\H b=some (.tup ys)/\Yfg ys=some k/\vxs.length < cap6/\∀ep,Q (upd H a (dTo a (putT nks vxs k b v).1 (putT nks vxs k b v).2 ep))
theorem Yxk{xs:List V}{us:List Value}{v:V}{u:Value}(r:Vals xs us)(q:RelV v u):Vals (xs++[v]) (us++[u]):=by
 induction r with
 | nil=>exact .cons q .nil
 | cons a _ ih=>exact .cons a ih
theorem y8g(hu:X.A.units+64 < cLine):PSet X Yaaq:=by
 intro pins s σ H o i v ov iv u Q I ro ri rv h
 obtain⟨a,b,nks,vxs,ys,k,rfl,rfl,dt,eb,nk,hl,q⟩:=h
 cases ro
 cases ri
 obtain⟨hsm,us,r,hl',dd⟩:=Ytl I dt
 have key:=Yg8 (P:=X.prog) (w:=X.w) I.hok eb nk
 have hz:(zipX nks us).length<=sizeLine:=by
  have:(zipX nks us).length<=nks.length:=by simp[zipX];lia
  have h6:=Yeo (n:=nks.length) (by rw[dt.len];lia)
  lia
 refine wpAny_setItem_heap (knd:=tupleKind (Yah X.prog X.w)) (hsz:=hz) (by show X.A.in1.units < cLine;have:X.A.in1.units=X.A.units+1:=rfl;lia) key dd fun h' dd' same=>?_
 have hs:=Yr0 (k:=k) hl'
 obtain⟨ep0,e0⟩:=dt.at'
 have new:∃ep,∀H',ObjOk X.prog X.w H' h' a (dTo a (putT nks vxs k b v).1 (putT nks vxs k b v).2 ep):=by
  unfold putT
  by_cases hm:k∈nks.map (·.1)
  ·rw[if_pos hm]
   rw[decide_eq_true hm]at hs
   have e:storedH (zipX nks us) k b u=zipX nks (setK (nks.map (·.1)) us k u):=by
    unfold storedH
    rw[if_pos hs]
    exact Yko (b:=b) hl' dt.nd hm
   rw[e]at dd'
   exact Yp1 hsm (Ypz k rv r) dd'
  ·rw[if_neg hm]
   rw[decide_eq_false hm]at hs
   have e:storedH (zipX nks us) k b u=zipX (nks++[(k,b)]) (us++[u]):=by
    unfold storedH
    rw[if_neg (by rw[hs];exact qi)]
    unfold zipX
    rw[List.zip_append hl'.symm,Qn]
    rfl
   rw[e]at dd'
   exact Yp1 hsm (Yxk r rv) dd'
 obtain⟨ep,new⟩:=new
 exact⟨_,Yro I (by rw[e0];exact True.intro) same (let ⟨q,_,_,hq,_⟩:=dd';⟨q,hq⟩) (new _),q ep⟩
end
theorem y4q{G H:Hp}{a:Addr}{kxs vxs:List V}(sm:Same G H)(d:Dc true G H a kxs vxs):∃nks,DtH H a nks vxs/\kxs=nks.map (fun p=>V.ref p.2)/\∀p∈nks,∃ys,G p.2=some (.tup ys)/\Yfg ys=some p.1:=by
 rcases d with⟨h,_⟩ | ⟨_,nks,ep,h1,h2,h3,h4,h5⟩
 ·cases h
 ·exact⟨nks,⟨⟨ep,h1⟩,h2,h3,fun p hp=>let ⟨ys,q1,q2⟩:=h5 p hp;⟨ys,sm _ _ q1,q2⟩⟩,h4,h5⟩
def getT:D->D->Option D
 | .dct true ks vs,k=>(Ygw ks).bind fun kn=>(nKey k).bind fun x=>Yaf kn vs x
 | _,_=>none
theorem y0y:Sem2 K y8f getT:=by
 intro x y dx dy d H G Q h s rx ry q
 unfold getT at h
 split at h
 ·rename_i ks vs k
  obtain⟨kn,h1,h⟩:=qa h
  obtain⟨z,h2,h3⟩:=qa h
  rw[Ct]at rx
  obtain⟨a,kxs,vxs,rfl,dc,r1,r2⟩:=rx
  obtain⟨nks,dt,rfl,hk⟩:=y4q s dc
  obtain⟨b,ys,rfl,g1,g2,n⟩:=Yp0 h2 ry
  have e:=Ynm h1 r1 hk
  subst e
  obtain⟨v,f1,f2⟩:=(Yrw z r2).1 d h3
  exact⟨a,b,nks,vxs,ys,z,v,rfl,rfl,dt,g1,n,f1,q v H G (.refl s) f2⟩
 ·cases h
def hasT(neg:Bool):D->D->Option Bool
 | k,.dct true ks _=>(Ygw ks).bind fun kn=>(nKey k).map fun x=>decide (x∈kn) != neg
 | _,_=>none
theorem Ynn{neg:Bool}:Yio K (y4p neg) (hasT neg):=by
 intro x y dx dy b H G Q h s rx ry q
 unfold hasT at h
 split at h
 ·rename_i k ks vs
  obtain⟨kn,h1,h⟩:=qa h
  obtain⟨z,h2,rfl⟩:=qc h
  rw[Ct]at ry
  obtain⟨a,kxs,vxs,rfl,dc,r1,r2⟩:=ry
  obtain⟨nks,dt,rfl,hk⟩:=y4q s dc
  obtain⟨b,ys,rfl,g1,g2,n⟩:=Yp0 h2 rx
  have e:=Ynm h1 r1 hk
  subst e
  exact⟨a,b,nks,vxs,ys,z,rfl,rfl,dt,g1,n,q⟩
 ·cases h
section
variable {X:Cx} {a b e:Expr} {fa fb f:Ro->Option D} {pos:Pos}
theorem y4r(hu:X.A.units+64 < cLine)(ha:MC X a fa)(hb:MC X b fb)(hs:Yen b:=by intro _ _;rfl):ME X (.Subscript a b pos) (b2 fa fb getT):=y36 (Yaap hu) y0y ha hb hs
theorem y8h(hu:X.A.units+64 < cLine)(ha:MC X a fa)(hb:MC X b fb)(hm:behindInMarks .In b=false:=by with_unfolding_all rfl):ME X (.Compare a [.In] [b] pos) (mB (b2 fa fb (hasT false))):=Yhn (y2s hu) Ynn ha hb hm
theorem y8i(hu:X.A.units+64 < cLine)(ha:MC X a fa)(hb:MC X b fb)(hm:behindInMarks .In b=false:=by with_unfolding_all rfl):MT X (.Compare a [.In] [b] pos) (b2 fa fb (hasT false)):=Yfv (y2s hu) Ynn ha hb hm
theorem y4s(hu:X.A.units+64 < cLine)(ha:MC X a fa)(hb:MC X b fb)(hm:behindInMarks .NotIn b=false:=by with_unfolding_all rfl):MT X (.Compare a [.NotIn] [b] pos) (b2 fa fb (hasT true)):=Yfv (Yxj hu) Ynn ha hb hm
def putD(ks vs:List D)(k d:D):Option (List D × List D):=(Ygw ks).bind fun kn=>(nKey k).bind fun x=>if vs.length < cap6 then some (if x∈kn then (ks,setK kn vs x d)else (ks++[k],vs++[d]))else none
def y0z(i:Nat):Ro->Option (List D × List D):=fun ρ=>match ρ[i]? with
 | some (some (B.od true ks vs))=>some (ks,vs)
 | _=>none
theorem Yux{i:Nat}{ρ:Ro}{l:List D × List D}(h:y0z i ρ=some l):ρ[i]?=some (some (B.od true l.1 l.2)):=by
 unfold y0z at h
 split at h
 ·cases h;assumption
 ·cases h
def sPut(i:Nat)(fi f:Ro->Option D):Ro->Option Out:=fun ρ=>(f ρ).bind fun d=>(y0z i ρ).bind fun l=>(fi ρ).bind fun k=>(putD l.1 l.2 k d).map fun l'=>.nx (ρ.set i (some (.od true l'.1 l'.2)))
theorem RpL.snoc{G:Hp}{d:D}{y:V}(r:Rp K G d y):∀{l:List D} {xs:List V},RpL K G l xs->RpL K G (l++[d]) (xs++[y])
 | [],_,h=>by
   rw[RpL]at h
   subst h
   exact .cons r .nil
 | e::l,_,h=>by
   rw[RpL]at h
   obtain⟨x,q,rfl,r1,r2⟩:=h
   exact .cons r1 (RpL.snoc r r2)
theorem y4t(hu:X.A.units+64 < cLine)(i:Nat){x:Str}{ie:Expr}{p2 p3:Pos}(hb:MC X ie fb)(he:ME X e f)(hN:X.N[i]?=some x:=by rfl)(hv:Vis X.env.scope x:=by first | exact Or.inl rfl | exact Or.inr (Or.inl rfl) | exact Or.inr (Or.inr rfl))
 (hd:(x==("__debug__":Str))=false:=by decide) (hcd:(x==("__classdict__":Str))=false:=by decide)
 (ha:∀v,assign (.Subscript (.Name x p2) ie p3) X.env v=(do
  let ov <-holding [v] (eval (.Name x p2) X.env)
  let iv <-holding [v,ov] (eval ie X.env)
  standAt p3
  holding [v,ov,iv] (setItem ov iv v)
  release [v,ov,iv] []):=by intro _;rfl)
 (hs:swapsWithSole [.Subscript (.Name x p2) ie p3] e pos.line X.env=pure false:=by rfl) (hw:swappedStores [.Subscript (.Name x p2) ie p3] e X.env=pure none:=by rfl)
 (h1:(assignEach [.Subscript (.Name x p2) ie p3] X.env).map (·.2)=[assign (.Subscript (.Name x p2) ie p3) X.env]:=by rfl):MS X (.Assign [.Subscript (.Name x p2) ie p3] e pos) (sPut i fb f):=
 PS.imp (y2a he (y6g (Yme hN hv hd hcd) hb (y8g hu) ha) hs hw h1) fun F σ H hx_=>by
  obtain⟨ρ,out,H0,G0,G,e,s,h⟩:=hx_
  unfold sPut at e
  obtain⟨d,h1,e⟩:=qa e
  obtain⟨l,h2,e⟩:=qa e
  obtain⟨k,h3,e⟩:=qa e
  obtain⟨l',h4,rfl⟩:=qc e
  obtain⟨ks,vs⟩:=l
  unfold putD at h4
  obtain⟨kn,h5,h4⟩:=qa h4
  obtain⟨z,h6,h4⟩:=qa h4
  split at h4
  case isFalse=>cases h4
  rename_i hcap
  have hod:=Yux h2
  refine tOf.at h1 s fun v H1 G1 g1 r1 s1=>?_
  obtain⟨a0,_,_,ha0,_⟩:=s1.od i _ _ _ hod
  refine⟨_,ha0,tCof.at h3 s1 fun u H2 G2 g2 r2 s2=>?_⟩
  obtain⟨a,kxs,vxs,ha,hG,hH0,dc,rk,rv⟩:=s2.od i _ _ _ hod
  rw[ha0]at ha
  cases ha
  obtain⟨nks,dt,rfl,hk⟩:=y4q s2.seen dc
  obtain⟨b,ys,rfl,b1,b2',n⟩:=Yp0 h6 r2
  have e:=Ynm h5 rk hk
  have hvl:vxs.length < cap6:=by rw[rv.length];exact hcap
  refine⟨a0,b,nks,vxs,ys,z,rfl,rfl,dt,b1,n,hvl,fun ep=>?_⟩
  have hne:a0≠b:=fun z=>by rw[z,b2']at hG;cases hG
  have r1':=r1.mono g2.g
  injection h4 with h4
  subst e
  refine h _ _ G2 (s2.mutd hod ha0 (kxs:=(putT nks vxs z b v).1.map (fun p=>V.ref p.2)) (vxs:=(putT nks vxs z b v).2) ?_ ?_ ?_)
  ·refine .inr ⟨rfl,(putT nks vxs z b v).1,ep,Yw,?_,?_,rfl,?_⟩
   ·unfold putT
    split
    ·rw[Yfh];exact dt.len
    ·simp[dt.len]
   ·unfold putT
    split
    ·exact dt.nd
    ·rename_i hm
     rw[Qn,List.nodup_append]
     refine⟨dt.nd,by simp,fun x hx y hy z'=>?_⟩
     simp at hy
     subst z' hy
     exact hm hx
   ·unfold putT
    split
    ·exact hk
    ·intro p hp
     rcases qv hp with hp | hp
     ·exact hk p hp
     ·rw[List.mem_singleton.mp hp]
      exact⟨ys,b2',n⟩
  ·rw[<-h4]
   unfold putT
   split
   ·exact rk
   ·rw[Qn]
    refine RpL.snoc ?_ rk
    cases k with
    | tup l=>
      rw[Ct]at r2
      obtain⟨b',ys',e,⟨g1,g2⟩,rl⟩:=r2
      rw[Rp]
      exact⟨b',ys',e,g2,rl⟩
    | _=>cases h6
  ·rw[<-h4]
   unfold putT
   split
   ·exact Yrx z r1' rv
   ·exact RpL.snoc r1' rv
theorem y00{prog:Program}{w:World}{A:Around}{E:Value->Shared->Prop}{s:Shared}{env:Env}{ke ve:Expr}{pos:Pos}{Q:Value->Shared->Prop}(hu:A.units+64 < cLine)
 (h:wpAny (model prog w) A (evalPairs (pairTrees [some ke] [ve] env pos)) (fun vs s1=>∃(b:Addr) (n:List Int) (u:Value),vs=[(.ref b,u)]/\(tupleKind (Yah prog w)).is s1.heap n b/\s1.heap.DictOfH (tupleKind (Yah prog w)) s.heap.objs.size []/\
  ∀h' t,h'.DictOfH (tupleKind (Yah prog w)) s.heap.objs.size [(n,b,u)]->Heap.SameBut s.heap.objs.size s1.heap h'->Q (.ref s.heap.objs.size) { s1 with heap:=h',toks:=t }) E
  { s with heap:=s.heap.push { cls:=.type "dict",data:=.dict #[] } }) :
 wpAny (model prog w) A (eval (.Dict [some ke] [ve] pos) env) Q E s:=by
 have hsh:=zip_pairTrees [some ke] [ve] env pos rfl rfl
 rw[arm_eval_Dict,hsh,dictDisplay_pairs (pairTrees [some ke] [ve] env pos) (fun z=>by cases z) (by show 1 < 17;lia)]
 refine wpAny_bind (wpAny_standAt (wpAny_bind ?_))
 unfold subDict
 refine wpAny_bind (wpAny_alloc ?_)
 refine wpAny_bind (wpAny_holding ?_)
 rw[if_pos (by show 1<=15;lia)]
 refine wpAny_bind (wpAny_mono h (fun vs s1 h1=>?_) fun _ _ e=>e)
 obtain⟨b,n,u,rfl,key,dd,q⟩:=h1
 refine wpAny_holding ?_
 rw[List.forIn_cons]
 refine wpAny_bind (wpAny_bind (wpAny_bind (wpAny_dictSet_heap (knd:=tupleKind (Yah prog w)) (hsz:=by rw[sizeLine_eq];simp) (by show A.units < cLine;lia) key dd fun h' dd' same=>wpAny_pure ?_)))
 show wpAny _ _ (forIn ([]:List (Value × Value)) PUnit.unit _) _ _ _
 rw[List.forIn_nil]
 refine wpAny_pure (wpAny_pure (wpAny_pure (wpAny_pure ?_)))
 exact q h' _ dd' same
theorem y8j{x y:V}{ws:List (Value × Value)}(r:VV [(x,y)] ws):∃kv u,ws=[(kv,u)]/\RelV x kv/\RelV y u:=by
 cases r with
 | cons r t=>
   cases t
   exact⟨_,_,rfl,r.1,r.2⟩
def y8k(trs:List (TE × TE)):TE:=fun σ H Q=>∀p ep,H p=none->Ywb trs σ (upd H p (dTo p [] [] ep)) fun ps H2=>H2 p=some (dTo p [] [] ep)/\∃b ys n v,ps=[(V.ref b,v)]/\H2 b=some (.tup ys)/\Yfg ys=some n/\∀ep',Q (.ref p) (upd H2 p (dTo p [(n,b)] [v] ep'))
theorem y01(hu:X.A.units+64 < cLine){ke ve:Expr}{trs:List (TE × TE)}(h:PPs X pos [some ke] [ve] trs):PE X (.Dict [some ke] [ve] pos) (y8k trs):=by
 intro pins s σ H Q I q
 have hn:=I.hok.fresh (qu s.heap.objs.size)
 have hd:(s.heap.objs.size==sysModules)=false:=beq_eq_false_iff_ne.mpr (Ne.symm (qm I.big))
 obtain⟨ep0,new0⟩:=Yp1 (P:=X.prog) (w:=X.w) (h':=s.heap.push { cls:=.type "dict",data:=.dict #[] }) (nks:=[]) (vxs:=[]) (us:=[]) hd .nil (Heap.DictOfH.new s.heap)
 have I1:=I.laid (a:=s.heap.objs.size) (o:=dTo s.heap.objs.size [] [] ep0) (h':=s.heap.push { cls:=.type "dict",data:=.dict #[] }) (t':=s.toks) (fun _ _ q=>qe _ q) (qu _) (new0 _)
 refine y00 hu (thn (h pins _ σ _ _ I1 (q _ _ hn)) fun ws s2 hx_=>?_)
 obtain⟨ps,H2,I2,rel,e,b,ys,n,v,ep,eb,nk,q2⟩:=hx_
 subst ep
 obtain⟨kv,u,rfl,r1,r2⟩:∃kv u,ws=[(kv,u)]/\RelV (.ref b) kv/\RelV v u:=y8j rel
 obtain rfl:kv=Value.ref b:=r1
 have key:=Yg8 (P:=X.prog) (w:=X.w) I2.hok eb nk
 obtain⟨_,us,r0,_,dd⟩:=y8b (P:=X.prog) (w:=X.w) (nks:=[]) (vxs:=[]) I2.hok (Same.refl H2) e rfl List.nodup_nil (fun p hp=>by cases hp)
 refine⟨b,n,u,rfl,key,by simpa [zipX]using dd,fun h' t dd' same=>?_⟩
 obtain⟨ep1,new1⟩:=Yp1 (nks:=[(n,b)]) (vxs:=[v]) hd (us:=[u]) (.cons r2 .nil) dd'
 exact⟨.ref s.heap.objs.size,_,Yro I2 (by rw[e];exact True.intro) same (let ⟨q,_,_,hq,_⟩:=dd';⟨q,hq⟩) (new1 _),rfl,q2 ep1⟩
def Yxl(i:Nat)(fk fv:Ro->Option D):Ro->Option Out:=fun ρ=>(fk ρ).bind fun k=>(fv ρ).bind fun v=>(nKey k).map fun _=>.nx (ρ.set i (some (.od true [k] [v])))
theorem y4u(hu:X.A.units+64 < cLine)(i:Nat){x:Str}{ke ve:Expr}{fk fv:Ro->Option D}{pos' dpos:Pos}(hN:X.N.Nodup)(hk:ME X ke fk)(hv:ME X ve fv)(hi:X.N[i]?=some x:=by rfl)(hx:Loc X.env.scope x:=by first | exact Or.inl rfl | exact Or.inr rfl)
 (hs:swapsWith (.Dict [some ke] [ve] dpos) (some (.Name x pos')) pos.line X.env=pure false:=by rfl)
 (hf:X.fn x=true\/X.env.scope.names.lookup x=some .local:=by first | exact .inl rfl | exact .inr rfl):MS X (.Assign [.Name x pos'] (.Dict [some ke] [ve] dpos) pos) (Yxl i fk fv):=
 PS.imp (Ypd hN hi hx (y01 hu (y0c hk hv y3q)) hs hf) fun F σ H hx_=>by
  obtain⟨ρ,out,H0,G0,G,e,s,h⟩:=hx_
  unfold Yxl at e
  obtain⟨k,h1,e⟩:=qa e
  obtain⟨v,h2,e⟩:=qa e
  obtain⟨n,h3,rfl⟩:=qc e
  intro p ep hp
  have g0:Gr H G (upd H p (dTo p [] [] ep)) G:=Gr.hid s.seen hp _
  refine tOf.at h1 (s.grow g0) fun kv H1 G1 g1 r1 s1=>tOf.at h2 s1 fun vv H2 G2 g2 r2 s2=>?_
  have gp:G2 p=none:=Ykd (g1.trans g2) Yw (s.seen.free hp)
  have r1':=r1.mono g2.g
  obtain⟨b,ys,rfl,b1,b2',nk⟩:=Yp0 h3 (Ct.of g2.s r1')
  refine⟨(g1.trans g2).h _ _ Yw,b,ys,n,vv,rfl,b1,nk,fun ep'=>?_⟩
  have g3:Gr H G (upd H2 p (dTo p [(n,b)] [vv] ep')) G2:=(g0.trans (g1.trans g2)).updHid hp gp _
  refine h _ _ G2 (s.set_od i g3 hp gp (kxs:=[.ref b]) (vxs:=[vv]) (.inr ⟨rfl,[(n,b)],ep',Yw,rfl,by simp,rfl,fun q hq=>?_⟩) (.cons r1' .nil) (.cons r2 .nil))
  rw[List.mem_singleton.mp hq]
  exact⟨ys,b2',nk⟩
end
end
section
def Yr1:List Expr->Option (List Int)
 | []=>some []
 | .Constant (.int i) _ _::es=>(Yr1 es).map (i::·)
 | _=>none
def Ykp(ns:List Int):Ro->Option (List D):=fun _=>if ns.length<=cap6 then some (ns.map D.int)else none
def Yxm:List Int->Ro->Option (List D)
 | []=>aNil
 | n::ns=>Yg (kD (.int n)) (Yxm ns)
theorem Ytm(ρ:Ro):∀ns:List Int,Yxm ns ρ=some (ns.map D.int)
 | []=>rfl
 | n::ns=>by rw[Yxm,Yg,Ytm ρ ns];rfl
theorem Yxn{X:Cx}:∀{es:List Expr} {ns:List Int},Yr1 es=some ns->MA X es (Yxm ns)
 | [],ns,h=>by
   cases h
   exact y2k
 | e::es,ns,h=>by
   unfold Yr1 at h
   split at h
   ·rename_i e2;cases e2
   ·rename_i i j p es' e1
    cases e1
    obtain⟨m,h1,rfl⟩:=qc h
    exact Yws y2f (Yxn h1)
   ·cases h
theorem Yxo{X:Cx}{es:List Expr}{pos:Pos}(ns:List Int)(h:Yr1 es=some ns:=by decide +kernel):MF X (.List es pos) (Ykp ns):=by
 have:=y2l (pos:=pos) (Yxn (X:=X) h)
 have e:dLst (Yxm ns)=Ykp ns:=by
  funext ρ
  unfold dLst Ykp
  rw[Ytm]
  simp
 rw[e]at this
 exact this
theorem y4v(X:Cx)(pos' pos p1 p2:Pos)(x:Str)(i:Nat)(es:List Expr)(b:Expr)(fb:Ro->Option D)(ns:List Int)(hN:X.N.Nodup)(h:Yr1 es=some ns)(hi:X.N[i]?=some x)
 (hx:Loc X.env.scope x) (hf:X.fn x=true\/X.env.scope.names.lookup x=some .local) (hs:Yen b) (hb:MC X b fb) :
 MS X (.Assign [.Name x pos'] (.Subscript (.List es p1) b p2) pos) (sSet i (b2 (lF (Ykp ns)) fb ixD)):=
 y2o i hN (Ywr (ME.mc (MF.me (Yxo ns h))) hb hs) hi hx rfl hf
end
section
section
variable {X:Cx} {a b c e:Expr} {fa fb fc:Ro->Option D} {pos:Pos} {st:Stmt}
def nS:Ro->Option Out:=fun _=>none
theorem y02:MS X st nS:=fun _ _ _ _ _ _ ⟨_,_,_,_,_,h,_⟩=>nomatch h
end
end
section
end
section
def zK(ns:List Int)(vxs:List V):List (Key × V):=(ns.zip vxs).map fun p=>(Sum.inl p.1,p.2)
theorem Yf7(n:Int)(v:V)(ns:List Int)(vxs:List V):zK (n::ns) (v::vxs)=(Sum.inl n,v)::zK ns vxs:=rfl
theorem y8l:∀{kvs:List (Key × V)} {ns:List Int},kvs.map (fun p=>kV p.1)=ns.map V.int->kvs=zK ns (kvs.map (·.2))
 | [],ns,h=>by
   cases ns with
   | nil=>rfl
   | cons n ns=>cases h
 | (k,v)::kvs,[],h=>by cases h
 | (k,v)::kvs,n::ns,h=>by
   rw[Qc,Qc]at h
   injection h with h1 h2
   cases k with
   | inl i=>
     have:i=n:=by simp[kV]at h1;exact h1
     subst this
     rw[Qc,Yf7,<-y8l h2]
   | inr x=>cases h1
theorem Yxp(i:Int):∀(ns:List Int) (vxs:List V),valV (zK ns vxs) (Sum.inl i)=Yaf ns vxs i
 | [],vxs=>by simp[zK,Yaf,valV]
 | n::ns,[]=>by simp[zK,Yaf,valV]
 | n::ns,v::vxs=>by
   rw[Yf7,Yaf]
   by_cases h:n=i
   ·rw[if_pos h,Ym7 (by simp[h])]
   ·rw[if_neg h,Ym8 (by simpa using h)]
    exact Yxp i ns vxs
theorem Yg9:∀(ns:List Int) (vxs:List V),ns.length=vxs.length->(zK ns vxs).map (·.1)=ns.map Sum.inl
 | [],vxs,_=>rfl
 | n::ns,[],h=>by simp at h
 | n::ns,v::vxs,h=>by
   rw[Yf7,Qc,Qc,Yg9 ns vxs (by simpa using h)]
theorem y2t(ns:List Int)(vxs:List V)(h:ns.length=vxs.length):(zK ns vxs).length=ns.length:=by
 have:=congrArg List.length (Yg9 ns vxs h)
 simpa using this
theorem y2u(i:Int):∀(ns:List Int) (vxs:List V),ns.length=vxs.length->((zK ns vxs).any fun kv=>decide (kv.1=Sum.inl i))=decide (i∈ns)
 | [],vxs,_=>by simp[zK]
 | n::ns,[],h=>by simp at h
 | n::ns,v::vxs,h=>by
   rw[Yf7,List.any_cons,y2u i ns vxs (by simpa using h)]
   by_cases e:n=i
   ·subst e;simp
   ·have e':¬i=n:=fun z=>e z.symm
    simp[e,e']
theorem y2v(i:Int)(y:V):∀(ns:List Int) (vxs:List V),ns.length=vxs.length->ns.Nodup->(zK ns vxs).map (fun kv=>if kv.1=Sum.inl i then (kv.1,y)else kv)=zK ns (setK ns vxs i y)
 | [],vxs,_,_=>by simp[zK]
 | n::ns,[],h,_=>by simp at h
 | n::ns,v::vxs,h,hn=>by
   obtain⟨h1,h2⟩:=List.nodup_cons.mp hn
   have hl:ns.length=vxs.length:=by simpa using h
   rw[Yf7,Qc,setK]
   by_cases e:n=i
   ·subst e
    rw[if_pos rfl,if_pos rfl,Yf7]
    have:(zK ns vxs).map (fun kv=>if kv.1=Sum.inl n then (kv.1,y)else kv)=zK ns vxs:=by
     refine(List.map_congr_left fun kv hkv=>?_).trans (List.map_id _)
     rw[if_neg]
     ·rfl
     ·intro z
      have:kv.1∈(zK ns vxs).map (·.1):=List.mem_map_of_mem hkv
      rw[Yg9 ns vxs hl,z]at this
      obtain⟨m,hm,e⟩:=qx this
      injection e with e
      exact h1 (e ▸ hm)
    rw[this]
   ·rw[if_neg (by simpa using e),if_neg e,Yf7,y2v i y ns vxs hl h2]
theorem y4w(i:Int)(y:V):∀(ns:List Int) (vxs:List V),ns.length=vxs.length->zK (ns++[i]) (vxs++[y])=zK ns vxs++[(Sum.inl i,y)]:=fun ns vxs h=>by
 unfold zK
 rw[List.zip_append h,Qn]
 rfl
def putI(ns:List Int)(vxs:List V)(i:Int)(y:V):List Int × List V:=if i∈ns then (ns,setK ns vxs i y)else (ns++[i],vxs++[y])
theorem y8m{ns:List Int}{vxs:List V}(h:ns.length=vxs.length)(hn:ns.Nodup)(i:Int)(y:V):putK (zK ns vxs) (Sum.inl i) y=zK (putI ns vxs i y).1 (putI ns vxs i y).2:=by
 unfold putK putI
 rw[y2u i ns vxs h]
 by_cases e:i∈ns
 ·rw[if_pos (decide_eq_true e),if_pos e]
  exact y2v i y ns vxs h hn
 ·rw[if_neg (by simpa using e),if_neg e,y4w i y ns vxs h]
theorem Yxq{ns:List Int}(h:(ns.map (Sum.inl:Int->Key)).Nodup):ns.Nodup:=by
 rw[List.nodup_iff_pairwise_ne,List.pairwise_map]at h
 rw[List.nodup_iff_pairwise_ne]
 exact h.imp fun h z=>h (by rw[z])
theorem Yuy{ns:List Int}(h:ns.Nodup):(ns.map (Sum.inl:Int->Key)).Nodup:=by
 rw[List.nodup_iff_pairwise_ne,List.pairwise_map]
 rw[List.nodup_iff_pairwise_ne]at h
 exact h.imp fun h z=>h (by injection z)
variable {K:W.Frag}
theorem Yuz{G H:Hp}{a:Addr}{ks:List D}{kxs vxs:List V}{ns:List Int}(hn:Yc9 ks=some ns)(d:Dc false G H a kxs vxs)(r:RpL K G ks kxs):H a=some (.dK (zK ns vxs))/\ns.Nodup/\ns.length=vxs.length/\kxs=ns.map V.int:=by
 cases Yir hn
 have e:=Ynj r
 rcases d with⟨_,kvs,h1,h2,h3,h4⟩ | ⟨h,_⟩
 ·rw[e]at h3
  have hz:=y8l h3.symm
  rw[<-h4]at hz
  have hl:ns.length=vxs.length:=by
   have:=congrArg List.length h3
   rw[h4]
   simpa using this
  refine⟨by rw[h1,<-hz],?_,hl,e⟩
  rw[hz,Yg9 ns vxs hl]at h2
  exact Yxq h2
 ·cases h
theorem y4x{G H:Hp}{a:Addr}{vxs:List V}{ns:List Int}(h:H a=some (.dK (zK ns vxs)))(hn:ns.Nodup)(hl:ns.length=vxs.length):Dc false G H a (ns.map V.int) vxs:=by
 refine .inl ⟨rfl,zK ns vxs,h,by rw[Yg9 ns vxs hl];exact Yuy hn,?_,?_⟩
 ·have:=congrArg (List.map kV) (Yg9 ns vxs hl)
  rw[Qd,Qd]at this
  exact(this.trans (List.map_congr_left fun _ _=>rfl)).symm
 ·unfold zK
  rw[Qd]
  have:(fun p:Int × V=>((Sum.inl p.1,p.2):Key × V).2)=fun p=>p.2:=rfl
  show vxs=(ns.zip vxs).map fun p:Int × V=>p.2
  clear h hn this
  induction ns generalizing vxs with
  | nil=>cases vxs with
    | nil=>rfl
    | cons=>simp at hl
  | cons n ns ih=>cases vxs with
    | nil=>simp at hl
    | cons v vxs=>simp;exact ih (by simpa using hl)
def getI:D->D->Option D
 | .dct false ks vs,.int i=>(Yc9 ks).bind fun ns=>Yaf ns vs i
 | _,_=>none
def hasI(neg:Bool):D->D->Option Bool
 | .int i,.dct false ks _=>(Yc9 ks).map fun ns=>decide (i∈ns) != neg
 | _,_=>none
def rIxI:R2:=fun x y H Q=>∃a z,x=.ref a/\DGet H a y (some z)/\Q z H
def rInI(neg:Bool):R2:=fun x y H Q=>∃a o,y=.ref a/\DGet H a x o/\Q (.bl (o.isSome != neg)) H
theorem y03:Sem2 K rIxI getI:=by
 intro x y dx dy d H G Q h s rx ry q
 unfold getI at h
 split at h
 ·rename_i ks vs i
  obtain⟨ns,h1,h⟩:=qa h
  rw[Ct]at rx
  rw[Ct]at ry
  subst ry
  obtain⟨a,kxs,vxs,rfl,dc,r1,r2⟩:=rx
  obtain⟨e1,e2,e3,e4⟩:=Yuz h1 dc r1
  obtain⟨v,f1,f2⟩:=(Yrw i r2).1 d h
  refine⟨a,v,rfl,?_,q v H G (.refl s) f2⟩
  have:=DGet.k (k:=Sum.inl i) e1
  rw[Yxp,f1]at this
  exact this
 ·cases h
theorem Yu0{ns:List Int}{vxs:List V}{i:Int}(hl:ns.length=vxs.length):(Yaf ns vxs i).isSome=decide (i∈ns):=by
 cases h:Yaf ns vxs i with
 | none=>
   have:=(Ycv (x:=i) (ks:=ns) (vs:=vxs) hl.symm).mp h
   simp[this]
 | some v=>
   have:i∈ns:=Classical.byContradiction fun z=>by
    rw[(Ycv (x:=i) (ks:=ns) (vs:=vxs) hl.symm).mpr z]at h
    cases h
   simp[this]
theorem Ytn{neg:Bool}:Yio K (rInI neg) (hasI neg):=by
 intro x y dx dy b H G Q h s rx ry q
 unfold hasI at h
 split at h
 ·rename_i i ks vs
  obtain⟨ns,h1,rfl⟩:=qc h
  rw[Ct]at rx
  rw[Ct]at ry
  subst rx
  obtain⟨a,kxs,vxs,rfl,dc,r1,r2⟩:=ry
  obtain⟨e1,e2,e3,e4⟩:=Yuz h1 dc r1
  refine⟨a,Yaf ns vxs i,rfl,?_,?_⟩
  ·have:=DGet.k (k:=Sum.inl i) e1
   rw[Yxp]at this
   exact this
  ·rw[Yu0 e3]
   exact q
 ·cases h
section
variable {X:Cx}
theorem Yaar(hu:X.A.units+64 < cLine):IxR X rIxI:=by
 intro value slice pins s σ H x y v u Q I rx ry h hs
 obtain⟨a,z,rfl,g,q⟩:=h
 cases rx
 exact tail_any (Yrp I g) PySem.F.slot_dict_getitem.lookup (Ywa (by lia) I g ry fun w' s3 I3 rw'=>⟨z,H,I3,rw',q⟩) hs
theorem Yp2(hu:X.A.units+64 < cLine):OpR X (compareOp .NotIn) (rInI true):=by
 intro pins s σ H x y v u Q I rx ry h
 obtain⟨a,o,rfl,g,q⟩:=h
 cases ry
 exact y3o (by lia) I g rx fun s3 I3=>⟨.bl (o.isSome != true),H,I3,by simp;rfl,q⟩
variable {a b e f':Expr} {fa fb f fz:Ro->Option D} {pos:Pos}
theorem y4y(hu:X.A.units+64 < cLine)(ha:MC X a fa)(hb:MC X b fb)(hs:Yen b:=by intro _ _;rfl):ME X (.Subscript a b pos) (b2 fa fb getI):=y36 (Yaar hu) y03 ha hb hs
theorem y4z(hu:X.A.units+64 < cLine)(ha:MC X a fa)(hb:MC X b fb)(hm:behindInMarks .NotIn b=false:=by with_unfolding_all rfl):MT X (.Compare a [.NotIn] [b] pos) (b2 fa fb (hasI true)):=Yfv (Yp2 hu) Ytn ha hb hm
def y04(i:Nat):Ro->Option Out:=fun ρ=>some (.nx (ρ.set i (some (.od false [] []))))
theorem y40(i:Nat){x:Str}{pos' dpos:Pos}(hN:X.N.Nodup)(hi:X.N[i]?=some x:=by rfl)(hx:Loc X.env.scope x:=by first | exact Or.inl rfl | exact Or.inr rfl)
 (hs:swapsWith (.Dict [] [] dpos) (some (.Name x pos')) pos.line X.env=pure false:=by rfl)
 (hf:X.fn x=true\/X.env.scope.names.lookup x=some .local:=by first | exact .inl rfl | exact .inr rfl):MS X (.Assign [.Name x pos'] (.Dict [] [] dpos) pos) (y04 i):=
 PS.imp (Ypd hN hi hx y0b hs hf) fun F σ H hx_=>by
  obtain⟨ρ,out,H0,G0,G,e,s,h⟩:=hx_
  cases e
  intro p hp
  exact h _ _ G (s.set_od i (.hid s.seen hp _) hp (s.seen.free hp) (kxs:=[]) (vxs:=[]) (y4x (ns:=[]) (vxs:=[]) Yw .nil rfl) .nil .nil)
def Ylt(i:Nat):Ro->Option (List D × List D):=fun ρ=>match ρ[i]? with
 | some (some (B.od false ks vs))=>some (ks,vs)
 | _=>none
theorem Yu1{i:Nat}{ρ:Ro}{l:List D × List D}(h:Ylt i ρ=some l):ρ[i]?=some (some (B.od false l.1 l.2)):=by
 unfold Ylt at h
 split at h
 ·cases h;assumption
 ·cases h
end
set_option maxRecDepth 100000
section
variable {X:Cx} {e:Expr} {f:Ro->Option D} {p pos:Pos}
theorem nr1{α:Sort _}{a b:α}(h:a=b):a=b:=h
@[simp] theorem ap_sNewD{ρ:Ro}(i:Nat):y04 i ρ=some (.nx (ρ.set i (some (.od false [] [])))):=nr1 rfl
@[simp] theorem Yno(ks vs:List D)(i:Int):getI (.dct false ks vs) (.int i)=(Yc9 ks).bind fun ns=>Yaf ns vs i:=nr1 rfl
@[simp] theorem Ynp(neg:Bool)(ks vs:List D)(i:Int):hasI neg (.int i) (.dct false ks vs)=(Yc9 ks).map fun ns=>decide (i∈ns) != neg:=nr1 rfl
@[simp] theorem gOI0(ks vs:List D)(r:Ro):Ylt 0 (some (.od false ks vs)::r)=some (ks,vs):=nr1 rfl
@[simp] theorem gOIs(n:Nat)(b:Option B)(r:Ro):Ylt (n+1) (b::r)=Ylt n r:=by simp[Ylt]
@[simp] theorem gC0d(t:Bool)(ks vs:List D)(r:Ro):getC 0 (some (.od t ks vs)::r)=some (.dct t ks vs):=nr1 rfl
end
end
section
section
variable {X:Cx} {a b e:Expr} {fa fb f:Ro->Option D} {pos:Pos} {K:W.Frag}
def shrI:D->D->Option D:=i2 (fun _ j=>decide (0<=j)) fun i j=>i / 2 ^ j.toNat
theorem y8n(ha:MC X a fa)(hb:MC X b fb):ME X (.BinOp a .RShift b pos) (b2 fa fb shrI):=Yml y6p (Ytg (fun _ _ h=>of_decide_eq_true h)) ha hb
theorem Yr2{M:Model}{A:Around}{E:Value->Shared->Prop}{s:Shared}{Q:Value->Shared->Prop}{v:Value}{k:Bool}(hb:∀id,v≠.builtin id)(h:Q (.bool (v==.bool k)) s):wpAny M A (compareOp .Is v (.bool k)) Q E s:=by
 cases v<;>first | exact wpAny_pure h | exact absurd rfl (hb _)
def isBl(k:Bool):D->Bool
 | .bl j=>j==k
 | _=>false
def isB(neg:Bool):D->D->Option Bool
 | d,.bl k=>some (isBl k d != neg)
 | _,_=>none
theorem vbl{x:V}{v:Value}(r:RelV x v)(k:Bool):(v==.bool k)=decide (x=.bl k):=by
 cases x with
 | bl j=>
   cases (show v=Value.bool j from r)
   by_cases h:j=k
   ·subst h;simp
   ·simp[h]
 | non=>cases (show v=Value.none from r);rfl
 | int i=>obtain⟨t,rfl⟩:=r;rfl
 | str i=>obtain⟨t,rfl⟩:=r;rfl
 | ref i=>cases (show v=Value.ref i from r);rfl
 | _=>first | (obtain⟨t,rfl⟩:=r;rfl) | (cases r;rfl)
theorem nobl{x:V}{v:Value}(r:RelV x v):∀id,v≠.builtin id:=fun id z=>by
 subst z
 cases x<;>first | (obtain⟨t,h⟩:=r;cases h;done) | (cases r;done)
theorem y8o:OpR X (compareOp .Is) (fun x y H Q=>∃k,y=.bl k/\Q (.bl (decide (x=.bl k) != false)) H):=by
 intro pins s σ H x y v u Q I rx ry h
 obtain⟨k,rfl,q⟩:=h
 cases ry
 refine Yr2 (nobl rx) ⟨_,H,I,?_,q⟩
 rw[vbl rx]
 simp
 rfl
theorem y41{G H:Hp}{d:D}{v:V}(r:Ct K G H d v)(k:Bool):decide (v=.bl k)=isBl k d:=by
 cases d with
 | bl j=>
   rw[Ct]at r
   subst r
   by_cases h:j=k
   ·subst h;simp[isBl]
   ·simp[isBl,h]
 | non=>rw[Ct]at r;subst r;simp[isBl]
 | int i=>rw[Ct]at r;subst r;simp[isBl]
 | str i=>rw[Ct]at r;obtain⟨rfl,_⟩:=r;simp[isBl]
 | tup l=>rw[Ct]at r;obtain⟨a,xs,rfl,_⟩:=r;simp[isBl]
 | lst l=>rw[Ct]at r;obtain⟨a,xs,rfl,_⟩:=r;simp[isBl]
 | scr l=>rw[Ct]at r;obtain⟨a,rfl,_⟩:=r;simp[isBl]
 | dct t l m=>rw[Ct]at r;obtain⟨a,xs,ys,rfl,_⟩:=r;simp[isBl]
theorem y42{neg:Bool}:Yio K (fun x y H Q=>∃k,y=.bl k/\Q (.bl (decide (x=.bl k) != neg)) H) (isB neg):=by
 intro x y dx dy c H G Q h s rx ry q
 unfold isB at h
 split at h
 ·rename_i k
  cases h
  have e:=y41 rx k
  rw[Ct]at ry
  subst ry
  exact⟨k,rfl,by rw[e];exact q⟩
 ·cases h
theorem y8p(ha:MC X a fa)(hb:MC X b fb):ME X (.Compare a [.Is] [b] pos) (mB (b2 fa fb (isB false))):=Yhn y8o y42 ha hb (Ye5 _)
def minC:List D->Option D
 | [.int i,.int j]=>some (.int (if j < i then j else i))
 | _=>none
theorem Yxr{G H:Hp}{i j:Int}{vs:List V}(r:CtL K G H [.int i,.int j] vs):vs=[.int i,.int j]:=by
 obtain⟨x,r,rfl,h1,h2⟩:=r
 obtain⟨y,r,rfl,h3,h4⟩:=h2
 cases (show r=[] from h4)
 rw[Ct]at h1
 rw[Ct]at h3
 rw[h1,h3]
theorem Yxs:SemC K (fun xs H Q=>∃i j,xs=[.int i,.int j]/\Q (.int (if j < i then j else i)) H) minC:=by
 intro vs ds d H G Q h s r q
 unfold minC at h
 split at h
 ·rename_i i j
  cases h
  exact⟨i,j,Yxr r,q _ H G (.refl s) (by rw[Rp])⟩
 ·cases h
theorem nr2{α:Sort _}{a b:α}(h:a=b):a=b:=h
@[simp] theorem isB_bl(neg:Bool)(d:D)(k:Bool):isB neg d (.bl k)=some (isBl k d != neg):=nr2 rfl
@[simp] theorem minC_ints(i j:Int):minC [.int i,.int j]=some (.int (if j < i then j else i)):=nr2 rfl
theorem Yxt(i:Int)(j:Nat):shrI (.int i) (.int (j:Int))=some (.int (i / 2 ^ j)):=by
 simp[shrI,i2]
end
end
section
set_option maxRecDepth 100000
section
variable {prog:Program} {w:World} {A:Around} {E:Value->Shared->Prop} {s:Shared}
theorem Yxu:typeLookup (.type "list") "keys"=pure none:=by rw[typeLookup_type,builtinLookup_eq_fast];kernel_rfl
theorem Yxv{a:Addr}{o:Obj}{its:Array Value}{n:Nat}(ho:s.heap.get? a=some o)(h1:o.cls=.type "list")(h2:o.dict=none)(h3:o.data=.seq its n)(hh:A.handled=none){Q:Option Value->Shared->Prop}
 (hQ:∀h' tk,(∀b ob,s.heap.get? b=some ob->h'.get? b=some ob)->Q none { s with heap:=h',toks:=tk }) :
 wpAny (model prog w) A (getAttr? (.ref a) "keys") Q E s:=by
 obtain⟨c,dc,dat,sl⟩:=o
 simp only at h1 h2 h3
 subst h1 h2 h3
 obtain⟨hp,g,d,tk,os⟩:=s
 have hT:∀tk',(⟨hp,g,d,tk',os⟩:Shared).TypeIs (.ref a) "list":=fun _=>⟨_,ho,rfl⟩
 have q1:=sub_AttributeError
 have q2:=F.slot_list_getattribute.lookup
 have q3:=F.slot_list_getattribute.bind (.ref a)
 have q4:=am_list_getattr_none
 have q5:∀t,Meets (Builtin.«object.__getattribute__» ⟨[.ref a,.str "keys" t],[]⟩) _:=fun t=>meets_getattribute_miss_list a its n sl "keys" t Yxu (by decide)
 unfold getAttr? getAttrBy? getAttrBy
 repeat (any_goals (first
  | assumption
  | exact hT _
  | ((with_reducible show wpAny _ _ (call (.builtin "list.__getattribute__") _ _) _ _ _)
     refine call_meets F.slot_list_getattribute (hT _) am_entry_list_getattribute (F.args_list_getattribute_2 _ _) (q5 _) ⟨ho,hh,fun h' tk' e new=>?_⟩)
  | wp_step))
 obtain⟨t',u',he⟩:=new.there
 show wpAny _ _ (getattributeRaised _ _ _ _ _ _ _) _ _ _
 unfold getattributeRaised
 repeat (any_goals (first
  | assumption
  | wp_step))
 exact hQ _ _ new.keeps
def PrAt(h:Heap)(u:Value)(p:Int × Value):Prop:=∃t tk o n,u=.ref t/\h.get? t=some o/\o.cls=.type "tuple"/\o.data=.seq #[.int p.1 tk,p.2] n
def y05(h:Heap):List Value->List (Int × Value)->Prop
 | [],[]=>True
 | u::us,p::ps=>PrAt h u p/\y05 h us ps
 | _,_=>False
def Yhr(kvs:List (Key × Value)):List (Int × Value)->List (Key × Value)
 | []=>kvs
 | p::ps=>Yhr (stored kvs (Sum.inl p.1) p.2) ps
theorem Yu2(kvs:List (Key × Value))(k:Key)(v:Value):(stored kvs k v).length<=kvs.length+1:=by
 unfold stored
 split
 ·rw[qf];lia
 ·simp
theorem Yhs:entryFor table "dict.update.loop"=some Builtin.«dict.update.loop»:=entryFor_of_tree (by kernel_rfl)
theorem Ydb:plainId "dict.update.loop"=true:=by decide +kernel
def OldH(h0 h:Heap):Prop:=∀b o,h0.get? b=some o->h.get? b=some o
theorem OldH.but{h0 h h':Heap}{d:Addr}(hd:h0.get? d=none)(o:OldH h0 h)(e:Heap.SameBut d h h'):OldH h0 h':=fun b ob q=>by
 rw[e.2 b fun z=>by rw[z,hd]at q;cases q]
 exact o b ob q
theorem IsListIter.but{h h':Heap}{it L d:Addr}{i:Nat}(x:h.IsListIter it L i)(e:Heap.SameBut d h h')(hd:it≠d):h'.IsListIter it L i:=by
 obtain⟨o,ho,r⟩:=x
 exact⟨o,by rw[e.2 it hd];exact ho,r⟩
theorem dul{h0:Heap}{d it L:Addr}{items:List Value}{R:Result->Shared->Prop}(hh:A.handled=none)(hd0:h0.get? d=none)(hi0:h0.get? it=none)(hdi:d≠it)(hL:h0.IsList L items.toArray) :
 ∀(ps:List (Int × Value)) (i:Nat) (c:Int) (kvs:List (Key × Value)) (s:Shared),y05 h0 (items.drop i) ps->kvs.length+ps.length<=sizeLine->s.heap.IsListIter it L i->OldH h0 s.heap->s.heap.DictOf (Yay prog w) d kvs->
 (∀h' tk,OldH h0 h'->h'.DictOf (Yay prog w) d (Yhr kvs ps)->R (.ok (.ret .none)) { s with heap:=h',toks:=tk })->
 codeAny (model prog w) A (.builtin "dict.update.loop" ⟨[.ref d,.ref it,.int c 0,.none],[]⟩) R s:=by
 intro ps
 induction ps with
 | nil=>
   intro i c kvs s hp hz hit ho hd hR
   have hL':s.heap.IsList L items.toArray:=let ⟨o,e,r⟩:=hL;⟨o,ho _ _ e,r⟩
   have hx:items.toArray[i]?=none:=by
    cases hdr:items.drop i with
    | nil=>simpa using hdr
    | cons u us=>rw[hdr]at hp;exact hp.elim
   refine codeAny_builtin Yhs ?_
   rw[Around.under_plainId Ydb _]
   show wpAny _ A.in1 (pyNext (.ref it) >>= _) _ _ s
   refine wpAny_bind (wpAny_pyNext_list_end (A:=A.in1) hh hit hL' hx fun h' hs=>?_)
   show wpAny _ A.in1 (Builtin.Dict.addKeywords d [] >>= _) _ _ _
   refine wpAny_bind (wpAny_pure (wpAny_pure (hR h' s.toks (fun b ob q=>hs b ob (fun z=>by rw[z,hi0]at q;cases q) (ho b ob q)) (hd.extBut hs hdi))))
 | cons p ps ih=>
   intro i c kvs s hp hz hit ho hd hR
   have hL':s.heap.IsList L items.toArray:=let ⟨o,e,r⟩:=hL;⟨o,ho _ _ e,r⟩
   cases hdr:items.drop i with
   | nil=>rw[hdr]at hp;exact hp.elim
   | cons u us=>
     rw[hdr]at hp
     obtain⟨⟨t,tk,ob,n,rfl,ht,hc,hdat⟩,hp⟩:=hp
     have hx:items.toArray[i]?=some (.ref t):=by
      have:=congrArg List.head? hdr
      simpa [List.head?_drop]using this
     have hus:us=items.drop (i+1):=by
      have:=congrArg List.tail hdr
      simpa using this.symm
     refine codeAny_builtin Yhs ?_
     rw[Around.under_plainId Ydb _]
     show wpAny _ A.in1 (pyNext (.ref it) >>= _) _ _ s
     refine wpAny_bind (wpAny_pyNext_list_item hit hL' hx fun h1 hi1 hs1=>?_)
     have ho1:=OldH.but hi0 ho hs1
     have hd1:=hd.sameBut hs1 hdi
     have ht1:=ho1 _ _ ht
     have hT:(Shared.TypeIs { s with heap:=h1 } (.ref t) "tuple"):=⟨ob,ht1,hc⟩
     show wpAny _ A.in1 (holding [Value.ref t] _ >>= _) _ _ _
     refine wpAny_bind (wpAny_holding (wpAny_bind (wpAny_tryCatch ?_)))
     unfold Builtin.Dict.pairItems
     refine wpAny_bind (wpAny_typeOf hT ?_)
     rw[if_pos (by decide)]
     refine wpAny_bind (wpAny_seqItems ht1 hdat (wpAny_pure ?_))
     show wpAny _ A.in1 (holding [Value.int p.1 tk,p.2] (dictSet d (.int p.1 tk) p.2)) _ _ _
     refine wpAny_holding (wpAny_dictSet_pairs (s:={ s with heap:=h1 }) (knd:=Yay prog w) (k:=Sum.inl p.1) (Yz8 (k:=.inl p.1) (u:=.int p.1 tk) ⟨tk,rfl⟩) hd1 (fun h2 hd2 hs2=>?_) (by have:=qr (a:=p) (as:=ps);lia))
     refine wpAny_pure ⟨plainId_quiet Ydb _,?_⟩
     refine ih (i+1) (c+1) _ _ (by rw[<-hus];exact hp) ?_ (IsListIter.but hi1 hs2 (Ne.symm hdi)) (OldH.but hd0 ho1 hs2) hd2 fun h' tk' o' d'=>hR h' tk' o' d'
     have:=Yu2 kvs (Sum.inl p.1) p.2
     have:=qr (a:=p) (as:=ps)
     lia
theorem Ykq{L:Addr}{its:List Value}{ps:List (Int × Value)}{Q:Value->Shared->Prop}(hh:A.handled=none)(hL:PlainL s.heap L its.toArray)(hp:y05 s.heap its ps)(hz:ps.length<=sizeLine)
 (hQ:∀h' tk,OldH s.heap h'->h'.DictOf (Yay prog w) s.heap.objs.size (Yhr [] ps)->Q (.ref s.heap.objs.size) { s with heap:=h',toks:=tk }) :
 wpAny (model prog w) A (call (.type "dict") [.ref L]) Q E s:=by
 generalize hO:({ cls:=.type "dict",data:=.dict #[] }:Obj)=dO
 refine callType_codes (Q₁:=fun obj s₁=>obj=.ref s.heap.objs.size/\s₁={ s with heap:=s.heap.push dO }) F.kt_called_dict (F.kt_typeCall_dict_1 _) F.entry_dict_init (kt_code_dict_new _ ⟨rfl,by rw[hO]⟩) ?_
 rintro obj s₁ ⟨rfl,rfl⟩
 have hnew:(s.heap.push dO).DictOf (Yay prog w) s.heap.objs.size []:=by rw[<-hO];exact Heap.DictOf.new s.heap
 refine⟨hnew.typeIs,F.args_dict_init_2 _ _,?_⟩
 unfold Builtin.«dict.__init__»
 refine wpAny_bind ?_
 unfold Builtin.Dict.selfAndRest
 refine wpAny_bind (wpAny_notOrdered_dict hnew.typeIs ?_)
 show wpAny _ _ (pure (s.heap.objs.size,[Value.ref L])) _ _ _
 refine wpAny_pure ?_
 show wpAny _ _ (Builtin.Dict.updateFrom "dict.__init__" s.heap.objs.size (.ref L) [] .none) _ _ _
 unfold Builtin.Dict.updateFrom
 obtain⟨o,n,e,h1,h2,h3⟩:=hL
 have e':(s.heap.push dO).get? L=some o:=qe _ e
 have hT:Shared.TypeIs { s with heap:=s.heap.push dO } (.ref L) "list":=⟨o,e',h1⟩
 refine wpAny_bind (wpAny_typeOf hT ?_)
 rw[if_pos (by decide)]
 refine wpAny_bind (Yxv (A:=A.in1.in1) (s:={ s with heap:=s.heap.push dO }) e' h1 h2 h3 (by simp[hh]) fun h' tk keep=>?_)
 rw[if_pos (by rfl)]
 refine wpAny_bind (wpAny_rule (wpAny_bind ?_))
 have hL':h'.IsList L its.toArray:=⟨o,keep _ _ e',h1,n,h3⟩
 refine wpAny_pyIter_list (s:={ s with heap:=h',toks:=tk }) hL' ?_
 have old1:OldH s.heap h':=fun b ob q=>keep _ _ (qe _ q)
 obtain⟨od,es,ep,hod,hrest⟩:=id hnew
 have hd':=keep _ _ hod
 have hlt:s.heap.objs.size < h'.objs.size:=ql hd'
 generalize hI:({ cls:=.type "list_iterator",data:=.fields #[.ref L,.int 0 0] }:Obj)=iO
 refine wpAny_pure ⟨plainId_quiet Ydb _,?_⟩
 refine dul (h0:=s.heap) (by simp[hh]) (Heap.get?_none_of_le (qu _)) (Heap.get?_none_of_le (Nat.le_of_lt hlt)) (qm hlt) ⟨o,e,h1,n,h3⟩ ps 0 0 [] _ (by simpa using hp) (by simpa using hz) ?_ (fun b ob q=>qe _ (old1 b ob q)) ⟨od,es,ep,qe _ hd',hrest⟩ fun h2 tk2 o2 d2=>?_
 ·exact⟨iO,qp _ (by rw[<-hI];rfl),by rw[<-hI],by rw[<-hI];rfl⟩
 ·exact⟨rfl,hQ h2 tk2 o2 d2⟩
end
def Yto(H:Hp):List V->List (Int × V)->Prop
 | [],[]=>True
 | x::xs,q::qs=>(∃b,x=.ref b/\H b=some (.tup [.int q.1,q.2]))/\Yto H xs qs
 | _,_=>False
def Ye8(kvs:List (Key × V)):List (Int × V)->List (Key × V)
 | []=>kvs
 | q::qs=>Ye8 (putK kvs (Sum.inl q.1) q.2) qs
def QP:List (Int × V)->List (Int × Value)->Prop
 | [],[]=>True
 | q::qs,p::ps=>(q.1=p.1/\RelV q.2 p.2)/\QP qs ps
 | _,_=>False
theorem QP.length:∀{qs:List (Int × V)} {ps:List (Int × Value)},QP qs ps->ps.length=qs.length
 | [],[],_=>rfl
 | q::qs,p::ps,h=>by rw[qr,qr,QP.length h.2]
 | [],_::_,h=>h.elim
 | _::_,[],h=>h.elim
theorem Ytp:∀{qs:List (Int × V)} {ps:List (Int × Value)} {kvs:List (Key × V)} {vs:List (Key × Value)},QP qs ps->KV kvs vs->KV (Ye8 kvs qs) (Yhr vs ps)
 | [],[],_,_,_,r=>r
 | q::qs,p::ps,kvs,vs,h,r=>by
   obtain⟨⟨h1,h2⟩,h⟩:=h
   rw[Ye8,Yhr,<-h1]
   exact Ytp h (r.put (Sum.inl q.1) h2)
 | [],_::_,_,_,h,_=>h.elim
 | _::_,[],_,_,h,_=>h.elim
theorem Yit:∀(qs:List (Int × V)) (kvs:List (Key × V)),(Ye8 kvs qs).length<=kvs.length+qs.length
 | [],kvs=>by rw[Ye8];simp
 | q::qs,kvs=>by
   rw[Ye8,qr]
   have h1:=Yit qs (putK kvs (Sum.inl q.1) q.2)
   have h2:=Yrn kvs (Sum.inl q.1) q.2
   lia
section
variable {X:Cx}
theorem Yp3{pins:List (Addr × Obj)}{s:Shared}{σ:L2.St}{H:Hp}(I:Inv X pins σ H s):∀{ys:List V} {its:List Value} {qs:List (Int × V)},Yto H ys qs->Vals ys its->∃ps,y05 s.heap its ps/\QP qs ps
 | [],its,[],_,r=>by
   cases r
   exact⟨[],trivial,trivial⟩
 | y::ys,its,q::qs,h,r=>by
   obtain⟨⟨b,rfl,hb⟩,h⟩:=h
   cases r with
   | cons r1 r2=>
     cases r1
     obtain⟨ps,h1,h2⟩:=Yp3 I h r2
     obtain⟨its2,rv,⟨o,e,hc,n,hd⟩,_⟩:=I.tuple (xs:=[.int q.1,q.2]) (.of hb)
     cases rv with
     | cons ra rb=>
       cases rb with
       | cons rc rd=>
         cases rd
         obtain⟨t,rfl⟩:=ra
         exact⟨(q.1,_)::ps,⟨⟨b,t,o,n,rfl,e,hc,hd⟩,h1⟩,⟨⟨rfl,rc⟩,h2⟩⟩
 | [],_,_::_,h,_=>h.elim
 | _::_,_,[],h,_=>h.elim
def y8q(K:W.Frag):List V->Hp->VK->Prop:=fun xs H Q=>∃a ys qs,xs=[.ref a]/\SqL K H a ys/\Yto H ys qs/\qs.length < cap6/\∀p,H p=none->Q (.ref p) (upd H p (.dK (Ye8 [] qs)))
theorem Yu3(hc:X.calm=true):Ydl X (.type "dict") (y8q X.K):=by
 intro pins s σ H xs us Q I r h
 obtain⟨a,ys,qs,rfl,hq,hv,hl,q⟩:=h
 obtain⟨u,rfl,rx⟩:=Yg5 r
 cases rx
 have hh:X.A.handled=none:=I.ok.hd hc
 obtain⟨its,rv,pl,hz⟩:=I.list hq
 obtain⟨ps,h1,h2⟩:=Yp3 I hv rv
 have hcap:cap6=1000000:=rfl
 have hps:ps.length<=sizeLine:=by rw[h2.length,sizeLine_eq];lia
 refine Ykq hh pl h1 hps fun h' tk old dd=>?_
 refine⟨.ref s.heap.objs.size,_,I.laid (t':=tk) (fun b o e=>old b o e) (qu _) (y2d ?_ (beq_eq_false_iff_ne.mpr (Ne.symm (qm I.big))) (Ytp h2 .nil) dd),rfl,q _ (I.hok.fresh (qu _))⟩
 have:=Yit qs []
 rw[sizeLine_eq]
 simp at this
 lia
end
def Yf8:List D->Option (List (Int × D))
 | []=>some []
 | .tup [.int i,v]::l=>(Yf8 l).map ((i,v)::·)
 | _=>none
def pairsOf:D->Option (List (Int × D))
 | .lst l=>Yf8 l
 | _=>none
def putG{α:Type}(ns:List Int)(vs:List α)(i:Int)(y:α):List Int × List α:=if i∈ns then (ns,setK ns vs i y)else (ns++[i],vs++[y])
def dctG{α:Type}(ns:List Int)(vs:List α):List (Int × α)->List Int × List α
 | []=>(ns,vs)
 | p::ps=>dctG (putG ns vs p.1 p.2).1 (putG ns vs p.1 p.2).2 ps
theorem Ymn{α:Type}{ns:List Int}{vs:List α}{i:Int}{y:α}(h:ns.Nodup):(putG ns vs i y).1.Nodup:=by
 unfold putG
 split
 ·exact h
 ·rename_i hm
  rw[List.nodup_append]
  refine⟨h,by simp,fun x hx z hz e=>?_⟩
  simp at hz
  subst hz e
  exact hm hx
theorem Ynq{α:Type}{ns:List Int}{vs:List α}{i:Int}{y:α}(h:ns.length=vs.length):(putG ns vs i y).1.length=(putG ns vs i y).2.length:=by
 unfold putG
 split
 ·rw[Yfh];exact h
 ·simp[h]
variable {K:W.Frag}
def DQ(K:W.Frag)(G:Hp):List (Int × D)->List (Int × V)->Prop
 | [],[]=>True
 | d::ds,q::qs=>(d.1=q.1/\Rp K G d.2 q.2)/\DQ K G ds qs
 | _,_=>False
theorem DQ.length{G:Hp}:∀{ds:List (Int × D)} {qs:List (Int × V)},DQ K G ds qs->qs.length=ds.length
 | [],[],_=>rfl
 | q::qs,p::ps,h=>by rw[qr,qr,DQ.length h.2]
 | [],_::_,h=>h.elim
 | _::_,[],h=>h.elim
theorem Yp4{G H:Hp}(s:Same G H):∀{l:List D} {ps:List (Int × D)} {xs:List V},Yf8 l=some ps->RpL K G l xs->∃qs,Yto H xs qs/\DQ K G ps qs
 | [],ps,xs,e,r=>by
   rw[Yf8]at e
   cases e
   rw[RpL]at r
   subst r
   exact⟨[],trivial,trivial⟩
 | d::l,ps,xs,e,r=>by
   unfold Yf8 at e
   split at e
   case h_1 he=>cases he
   case h_2 i v l' he=>
    injection he with he1 he2
    subst he1 he2
    obtain⟨ps',h1,rfl⟩:=qc e
    rw[RpL]at r
    obtain⟨x,xr,rfl,rx,rr⟩:=r
    obtain⟨qs,h2,h3⟩:=Yp4 s h1 rr
    rw[Rp]at rx
    obtain⟨b,ys,rfl,hb,ry⟩:=rx
    rw[RpL]at ry
    obtain⟨y1,yr,rfl,r1,ry⟩:=ry
    rw[RpL]at ry
    obtain⟨y2,yr,rfl,r2,ry⟩:=ry
    rw[RpL]at ry
    subst ry
    rw[Rp]at r1
    subst r1
    exact⟨(i,y2)::qs,⟨⟨b,rfl,s _ _ hb⟩,h2⟩,⟨⟨rfl,r2⟩,h3⟩⟩
   case h_3=>cases e
theorem Ykr{G:Hp}:∀{ps:List (Int × D)} {qs:List (Int × V)} {ns:List Int} {ds:List D} {vxs:List V},DQ K G ps qs->ns.Nodup->ns.length=vxs.length->RpL K G ds vxs->
 ∃vx',Ye8 (zK ns vxs) qs=zK (dctG ns ds ps).1 vx'/\(dctG ns ds ps).1.Nodup/\(dctG ns ds ps).1.length=vx'.length/\RpL K G (dctG ns ds ps).2 vx'
 | [],[],ns,ds,vxs,_,h1,h2,h3=>⟨vxs,rfl,h1,h2,h3⟩
 | d::ps,q::qs,ns,ds,vxs,h,h1,h2,h3=>by
   obtain⟨⟨e,r⟩,h⟩:=h
   rw[Ye8,y8m h2 h1,dctG]
   have e1:(putI ns vxs q.1 q.2).1=(putG ns ds d.1 d.2).1:=by
    unfold putI putG
    rw[e]
    split<;>rfl
   rw[e1]
   refine Ykr h (Ymn h1) ?_ ?_
   ·rw[<-e1]
    exact Ynq (vs:=vxs) h2
   ·unfold putI putG
    rw[e]
    split
    ·exact Yrx q.1 r h3
    ·exact RpL.snoc r h3
 | [],_::_,_,_,_,h,_,_,_=>h.elim
 | _::_,[],_,_,_,h,_,_,_=>h.elim
section
variable {prog:Program} {w:World} {A:Around} {E:Value->Shared->Prop} {s:Shared}
def Yp5:Int:=4238894112
theorem Yxw{Q:Int->Shared->Prop}(h:Q Yp5 { s with toks:=s.toks+1 }):wpAny (model prog w) A (pyHash .none) Q E s:=by
 have hT:s.TypeIs .none "NoneType":=rfl
 unfold pyHash pyHashByItsType
 have hv:[Value.none].any Value.onHeap=false:=rfl
 refine wpAny_bind ?_
 rw[cRoomFor,if_neg (by rw[hv];exact qi)]
 refine wpAny_pure (wpAny_bind (wpAny_specialOf hT F.slot_NoneType_hash.lookup ?_))
 show wpAny _ _ (if (some (Value.builtin "NoneType.__hash__")==some Value.none)=true then _ else _) Q E s
 rw[if_neg (by decide)]
 refine wpAny_bind (wpAny_specialOf hT F.slot_NoneType_hash.lookup ?_)
 show wpAny _ _ (callSpecialIfBoundUnlessNone? .none "__hash__" _ >>= _) Q E s
 refine wpAny_bind (wpAny_callSpecialIfBoundUnlessNone?_slot hT F.slot_NoneType_hash
  (wpAny_call_entry F.slot_NoneType_hash hT F.entry_NoneType_hash
   (show wpAny _ _ (do ret (<-mkInt Yp5)) _ _ s from wpAny_ret_mkInt ?_) (F.args_NoneType_hash_1 _)))
 show wpAny _ _ (if (decide (-(2:Int) ^ 63<=Yp5)&&decide (Yp5 < 2 ^ 63))=true then _ else _) Q E _
 rw[if_pos (by decide)]
 exact wpAny_pure h
theorem y06{d:Addr}{o:Obj}{es:Array DictEntry}{ep:Nat}{Q:Option Value->Shared->Prop}(ho:s.heap.get? d=some o)(hd:o.data=.dict es ep)(hn:∀e∈es,e.hash≠Yp5)(h:Q none { s with toks:=s.toks+1 }) :
 wpAny (model prog w) A (dictGet d .none) Q E s:=by
 have hpl:placesWithHash es.size (fun i=>es[i]?.map (·.hash)) Yp5=[]:=by
  unfold placesWithHash
  rw[List.filter_eq_nil_iff]
  intro i hi
  have hl:i < es.size:=Qa hi
  intro z
  simp only[Qs hl,Option.map_some]at z
  exact hn _ (Array.getElem_mem hl) (by simpa using z)
 unfold dictGet
 refine wpAny_holding (wpAny_bind (Yxw (wpAny_bind ?_)))
 unfold dictFind
 refine wpAny_holding (wpAny_bind (wpAny_dictEntries (s:={ s with toks:=s.toks+1 }) ho hd ?_))
 dsimp only
 rw[hpl]
 show wpAny _ _ (if ([Value.none].all carriedByValue)=true then _ else _) _ _ _
 rw[if_pos (by rfl)]
 exact wpAny_pure (wpAny_pure h)
def Ytq(ns:List Int):Bool:=ns.all fun n=>decide (-1000000000 < n/\n < 1000000000)
theorem Yxx{kvs:List (Key × Value)}:∀{es:List DictEntry},Pairs (Yay prog w) es kvs->∀e∈es,∃kv∈kvs,(Yay prog w).is kv.1 e.key=true:=by
 intro es h
 induction h with
 | nil=>intro e he;cases he
 | cons h1 _ _ ih=>
   intro e he
   rcases qt he with rfl | he
   ·exact⟨_,qh,h1⟩
   ·obtain⟨kv,k1,k2⟩:=ih e he
    exact⟨kv,qg _ k1,k2⟩
theorem y43{d:Addr}{kvs:List (Key × Value)}{ns:List Int}{Q:Option Value->Shared->Prop}(hm:s.heap.DictOf (Yay prog w) d kvs)(hk:kvs.map (·.1)=ns.map Sum.inl)(hs:Ytq ns=true)(h:Q none { s with toks:=s.toks+1 }) :
 wpAny (model prog w) A (dictGet d .none) Q E s:=by
 obtain⟨o,es,ep,ho,_,hd,hk1,hp,_⟩:=hm
 refine y06 ho hd (fun e he=>?_) h
 obtain⟨k,k1,k2⟩:=hk1 e he
 obtain⟨kv,k3,k4⟩:=Yxx hp e (by simpa using he)
 have ek:k=kv.1:=(Yay prog w).inj _ _ _ k1 k4
 have hmem:kv.1∈kvs.map (·.1):=List.mem_map_of_mem k3
 rw[hk]at hmem
 obtain⟨n,hn,en⟩:=qx hmem
 have hsm:=List.all_eq_true.mp hs n hn
 simp only[decide_eq_true_eq]at hsm
 rw[k2,ek,<-en]
 show hashInt n≠Yp5
 intro z
 have:hashInt n=n\/hashInt n=-2:=by
  have e0:((2 ^ 61 - 1:Nat):Int)=2305843009213693951:=by decide
  have e:(n.natAbs:Int) % ((2 ^ 61 - 1:Nat):Int)=(n.natAbs:Int):=Int.emod_eq_of_lt (by lia) (by rw[e0];lia)
  have e2:(if n < 0 then -(n.natAbs:Int)else (n.natAbs:Int))=n:=by split<;>lia
  have e3:rawHash n=if (n==-1)=true then -2 else n:=by
   unfold rawHash
   simp only[e,e2]
  unfold hashInt
  rw[e3]
  by_cases h1:n=-1
  ·subst h1;right;decide
  ·left
   have h2:(n==-1)=false:=by simpa using h1
   simp[h2]
 unfold Yp5 at z
 lia
theorem y07{d:Addr}{kvs:List (Key × Value)}{ns:List Int}{Q:Bool->Shared->Prop}(hd:(d==sysModules)=false)(hm:s.heap.DictOf (Yay prog w) d kvs)(hk:kvs.map (·.1)=ns.map Sum.inl)(hs:Ytq ns=true)
 (h:Q false { s with toks:=s.toks+1 }):wpAny (model prog w) A (contains (.ref d) .none) Q E s:=by
 have hT:=hm.typeIs
 unfold contains
 refine wpAny_holding (wpAny_bind (wpAny_specialOf hT slot_dict_contains.lookup ?_))
 show wpAny _ _ (if (some (Value.builtin "dict.__contains__")==some Value.none)=true then _ else _) _ _ _
 rw[if_neg (by decide)]
 refine wpAny_bind (wpAny_callSpecialUnlessNone?_slot (name:=Str.ofString "__contains__") hT slot_dict_contains (wpAny_call_entry slot_dict_contains hT entry_dict_contains ?_ (args_dict_contains _ _)))
 show wpAny _ _ (dictGet d .none >>= _) _ _ s
 refine wpAny_bind (y43 hm hk hs ?_)
 show wpAny _ _ (Builtin.Dict.pendingKey? d .none >>= _) _ _ _
 exact wpAny_bind (wpAny_pendingKey_other hd (wpAny_pure ⟨_,rfl,wpAny_truthy_bool h⟩))
end
def hasN(neg:Bool):D->D->Option Bool
 | .int i,.dct false ks vs=>hasI neg (.int i) (.dct false ks vs)
 | .non,.dct false ks _=>(Yc9 ks).bind fun ns=>if Ytq ns=true then some (false != neg)else none
 | _,_=>none
def rInN(neg:Bool):R2:=fun x y H Q=>rInI neg x y H Q\/(x=.non/\∃a kvs ns,y=.ref a/\H a=some (.dK kvs)/\kvs.map (·.1)=ns.map Sum.inl/\Ytq ns=true/\Q (.bl (false != neg)) H)
theorem y08{neg:Bool}:Yio K (rInN neg) (hasN neg):=by
 intro x y dx dy b H G Q h s rx ry q
 unfold hasN at h
 split at h
 ·exact .inl (Ytn x y _ _ b H G Q h s rx ry q)
 ·rename_i ks vs
  obtain⟨ns,h1,h⟩:=qa h
  split at h
  case isFalse=>cases h
  rename_i hsm
  injection h with h
  subst h
  rw[Ct]at rx
  rw[Ct]at ry
  subst rx
  obtain⟨a,kxs,vxs,rfl,dc,r1,r2⟩:=ry
  obtain⟨e1,e2,e3,e4⟩:=Yuz h1 dc r1
  exact .inr ⟨rfl,a,_,ns,rfl,e1,Yg9 ns vxs e3,hsm,q⟩
 ·cases h
section
variable {X:Cx}
theorem y44{kvs:List (Key × V)}{vs:List (Key × Value)}(rel:KV kvs vs):vs.map (·.1)=kvs.map (·.1):=by
 induction rel with
 | nil=>rfl
 | cons r _ ih=>rw[Qc,Qc,r.1,ih]
theorem y45(hu:X.A.units+64 < cLine):OpR X (compareOp .NotIn) (rInN true):=by
 intro pins s σ H x y v u Q I rx ry h
 rcases h with h | ⟨rfl,a,kvs,ns,rfl,ha,hk,hs,q⟩
 ·exact Yp2 hu pins s σ H x y v u Q I rx ry h
 ·cases rx
  cases ry
  obtain⟨z,hd,vs,rel,dd⟩:=y92 I.hok ha
  show wpAny _ _ (do return Value.bool (!(<-contains (.ref a) .none))) _ _ s
  refine wpAny_bind (y07 hd dd ((y44 rel).trans hk) hs (wpAny_pure ?_))
  exact⟨.bl (false != true),H,I.tok _,rfl,q⟩
variable {a b e f':Expr} {fa fb f fz:Ro->Option D} {pos:Pos}
theorem y46(hu:X.A.units+64 < cLine)(ha:MC X a fa)(hb:MC X b fb)(hm:behindInMarks .NotIn b=false:=by with_unfolding_all rfl):MT X (.Compare a [.NotIn] [b] pos) (b2 fa fb (hasN true)):=Yfv (y45 hu) y08 ha hb hm
@[simp] theorem y09(neg:Bool)(ks vs:List D)(i:Int):hasN neg (.int i) (.dct false ks vs)=(Yc9 ks).map fun ns=>decide (i∈ns) != neg:=nr1 rfl
end
end
section
end
section
section
variable {prog:Program} {w:World} {A:Around} {E:Value->Shared->Prop} {s:Shared}
theorem Yr3{t sl:Addr}{items:Array Value}{vl vu:Value}{lo hi:Option Int}{Q:Value->Shared->Prop}(ht:IsTup s.heap t items)(hs:s.heap.IsSliceOf sl vl vu .none)(pl:IsPart vl lo)(pu:IsPart vu hi)
 (h0:HT.sIx items.size 0 lo=0) (h1:HT.sIx items.size items.size hi=items.size) (h:Q (.ref t) s):wpAny (model prog w) A (getItem (.ref t) (.ref sl)) Q E s:=by
 obtain⟨os,hos,hcs,hds⟩:=id hs
 have hTs:s.TypeIs (.ref sl) "slice":=⟨os,hos,hcs⟩
 unfold getItem
 try with_reducible refine wpAny_holding ?_
 first | refine wpAny_bind (wpAny_pure ?_) | skip
 refine wpAny_bind (wpAny_sequenceKey ht.typeIs (by decide) ?_)
 refine wpAny_bind (wpAny_callSpecial?_slot (name:=Str.ofString "__getitem__") ht.typeIs PyProof.Rows.slot_tuple_getitem (wpAny_call_entry PyProof.Rows.slot_tuple_getitem ht.typeIs entry_tuple_getitem ?_ (args_tuple_getitem _ _)))
 show wpAny _ _ (Builtin.Tuple.tupleItemsOf (.ref t) >>= _) _ _ s
 refine wpAny_bind (tupleItemsOf_ ht ?_)
 refine wpAny_bind (wpAny_typeOf hTs ?_)
 rw[if_pos (by decide)]
 refine wpAny_bind (HT.sliceApplied_gen hs pl pu ?_)
 show wpAny _ _ (if (((HT.sIx items.size 0 lo:Nat):Int)==0&&(1:Int)==1&&(HT.sIx items.size items.size hi - HT.sIx items.size 0 lo)==items.size)=true then _ else _) _ _ s
 rw[if_pos (by rw[h0,h1];simp)]
 refine wpAny_bind ?_
 unfold Builtin.Tuple.tupleIsExact
 refine wpAny_bind (wpAny_typeOf ht.typeIs (wpAny_pure ?_))
 rw[if_pos (by decide)]
 exact wpAny_bind (wpAny_rule (wpAny_pure ⟨_,rfl,wpAny_pure h⟩))
end
section
variable {X:Cx}
def rSlW(K:W.Frag):V->Option Int->Option Int->Hp->VK->Prop:=fun x lo hi H Q=>∃a xs,x=.ref a/\SqT K H a xs/\HT.sIx xs.length 0 lo=0/\HT.sIx xs.length xs.length hi=xs.length/\Q (.ref a) H
theorem y1a:SlR X (rSlW X.K):=by
 intro pins s σ H x v vl vu lo hi sl Q I rx hs pl pu h
 obtain⟨a,xs,rfl,hx,h0,h1,q⟩:=h
 cases rx
 obtain⟨its,r,ht,hz⟩:=I.tuple hx
 have hlen:its.toArray.size=xs.length:=by rw[qk];exact r.length.symm
 refine⟨"tuple",_,PyProof.Rows.slot_tuple_getitem.lookup,ht.typeIs,Yr3 ht hs pl pu (by rw[hlen];exact h0) (by rw[hlen];exact h1) ?_⟩
 exact⟨.ref a,H,I,rfl,q⟩
def cutC(i j:Option Int):D->Option D
 | .lst l=>some (.lst (cutD l i j))
 | .tup l=>some (.tup (cutD l i j))
 | _=>none
def slD(fa:Ro->Option D)(lo hi:Option (Ro->Option D)):Ro->Option D:=fun ρ=>(fa ρ).bind fun d=>(optI lo ρ).bind fun i=>(optI hi ρ).bind fun j=>cutC i j d
variable {a e:Expr} {fa f:Ro->Option D} {pos:Pos}
theorem y1b{lo hi:Option Expr}{fl fh:Option (Ro->Option D)}{p2:Pos}(ha:MC X a fa)(hl:PO X lo (tO X.K fl))(hh:PO X hi (tO X.K fh)):ME X (.Subscript a (.Slice lo hi none p2) pos) (slD fa fl fh):=
 PE.imp (Ytd (SlR.or Ywe (SlR.or y62 y1a)) ha hl hh) fun σ H Q hx_=>by
  obtain⟨ρ,d,H0,G0,G,e,s,h⟩:=hx_
  unfold slD at e
  obtain⟨d0,h1,e⟩:=qa e
  obtain⟨i,h2,e⟩:=qa e
  obtain⟨j,h3,e⟩:=qa e
  refine tCof.at h1 s fun v H1 G1 g1 r1 s1=>y0k h2 s1 fun H2 G2 g2 s2=>y0k h3 s2 fun H3 G3 g3 s3=>?_
  have r3:=(r1.grow g2).grow g3
  have gg:=(g1.trans g2).trans g3
  unfold cutC at e
  split at e
  ·rename_i l
   cases e
   rw[Ct]at r3
   obtain⟨p,xs,rfl,g,rl⟩:=r3
   refine .inl ⟨p,xs,rfl,.inl g,fun q hq=>?_⟩
   refine h _ _ _ (gg.trans (Gr.new (p:=q) s3.seen hq (.lst (cutV xs i j)))) ?_
   rw[Rp]
   refine⟨q,_,rfl,.inl Yw,?_⟩
   unfold cutD cutV
   rw[rl.length]
   exact((rl.drop _).take _).mono (Gr.new (p:=q) s3.seen hq _).g
  ·cases e
   rw[Ct]at r3
   obtain⟨p,xs,rfl,⟨g,gG⟩,rl⟩:=r3
   by_cases hw:HT.sIx xs.length 0 i=0/\HT.sIx xs.length xs.length j=xs.length
   ·refine .inr (.inr ⟨p,xs,rfl,.of g,hw.1,hw.2,h _ H3 G3 gg ?_⟩)
    rw[Rp]
    refine⟨p,xs,rfl,gG,?_⟩
    unfold cutD
    rw[<-rl.length,hw.1,hw.2,List.drop_zero,Nat.sub_zero,rl.length,List.take_length]
    exact rl
   ·refine .inr (.inl ⟨p,xs,rfl,.of g,hw,fun q hq=>?_⟩)
    refine h _ _ _ (gg.trans (Gr.new (p:=q) s3.seen hq (.tup (cutV xs i j)))) ?_
    rw[Rp]
    refine⟨q,_,rfl,Yw,?_⟩
    unfold cutD cutV
    rw[rl.length]
    exact((rl.drop _).take _).mono (Gr.new (p:=q) s3.seen hq _).g
  ·cases e
@[simp] theorem ap_slD{ρ:Ro}(lo hi:Option (Ro->Option D)):slD fa lo hi ρ=(fa ρ).bind fun d=>(optI lo ρ).bind fun i=>(optI hi ρ).bind fun j=>cutC i j d:=nr1 rfl
@[simp] theorem cutC_tup(i j:Option Int)(l:List D):cutC i j (.tup l)=some (.tup (cutD l i j)):=nr1 rfl
end
end
section
set_option maxRecDepth 100000
section
variable {prog:Program} {w:World} {A:Around} {E:Value->Shared->Prop} {s:Shared} {X:Cx} {pins:List (Addr × Obj)} {σ:L2.St} {H:Hp} {e:Expr} {f:Ro->Option D} {p p2 pos pos2:Pos}
theorem Yr4:isSubtype (.type "set") (.type "set")=pure true:=by rw[isSubtype_type];kernel_rfl
theorem _root_.L2.Inv.dr(I:Inv X pins σ H s)(d':Drawn):Inv X pins σ H { s with drawn:=d' }:=⟨I.ok,I.os,I.bare,I.base,I.loc,I.cell,I.free,I.freeC,I.pin,I.hok,I.len⟩
theorem nr0{α:Sort _}{a b:α}(h:a=b):a=b:=h
end
end
section
def Yaas:List Nat:=[8,16,32,64,128]
end
section
end
section
set_option maxRecDepth 100000
theorem Ytr{t:SetTable}(hp:t.place=#[])(hd:t.dummies=#[])(j:Nat):t.slot j=.empty:=by
 unfold SetTable.slot SetTable.has
 rw[hp,hd]
 rfl
theorem Yxy(j0 j:Nat):SetTable.below #[j0] j=if j0 < j then 1 else 0:=by
 show SetTable.below.go #[j0] j 1 0 1=_
 rw[SetTable.below.go,if_pos (by decide)]
 show(if #[j0].getD 0 j < j then SetTable.below.go #[j0] j 0 1 1 else SetTable.below.go #[j0] j 0 0 0)=_
 rw[SetTable.below.go,SetTable.below.go]
 rfl
theorem Yht{t:SetTable}{j0:Nat}(hp:t.place=#[j0])(hd:t.dummies=#[])(j:Nat):t.slot j=if j=j0 then .live 0 else .empty:=by
 unfold SetTable.slot SetTable.has
 dsimp only
 rw[hp,hd,Yxy]
 by_cases h:j0 < j
 ·have h1:¬j=j0:=by lia
  simp[h,h1]
 ·by_cases h1:j=j0
  ·subst h1
   simp
  ·have h2:¬j0=j:=fun z=>h1 z.symm
   simp[h,h1,h2]
theorem Yp6{t:SetTable}(hm:t.mask=7){p:SetTable.Probe}(h0:p.more=0):t.advance p={ p with j:=(p.i * 5+1+p.perturb / 32) % 8,more:=0,i:=(p.i * 5+1+p.perturb / 32) % 8,perturb:=p.perturb / 32 }:=by
 unfold SetTable.advance
 rw[if_neg (by lia),hm]
 show({ p with j:=(p.i * 5+1+p.perturb / 32) % 8,more:=SetTable.runEnd 7 ((p.i * 5+1+p.perturb / 32) % 8) - (p.i * 5+1+p.perturb / 32) % 8,i:=(p.i * 5+1+p.perturb / 32) % 8,perturb:=p.perturb / 32 }:SetTable.Probe)=_
 have:SetTable.runEnd 7 ((p.i * 5+1+p.perturb / 32) % 8) - (p.i * 5+1+p.perturb / 32) % 8=0:=by
  unfold SetTable.runEnd
  split<;>lia
 rw[this]
theorem y2w{t:SetTable}{j0:Nat}{hA:Nat->Int}{h:Int}(hm:t.mask=7)(hp:t.place=#[j0])(hd:t.dummies=#[])(hj:j0 < 8)(hne:(hA 0==h)=false):∀(k fuel:Nat) (p:SetTable.Probe),p.perturb < 32 ^ k->k+2<=fuel->p.more=0->p.i=p.j->p.dummy=none->p.j < 8->
 ∃j,SetTable.probe.go t hA h fuel p=some (.empty j none)/\j≠j0/\j < 8
 | 0,fuel+2,p,h1,_,h3,h4,h5,h6=>by
   have hz:p.perturb=0:=by simp at h1;lia
   rw[SetTable.probe.go,Yht hp hd]
   by_cases e:p.j=j0
   ·rw[if_pos e]
    dsimp only
    rw[hne,if_neg qi,SetTable.probe.go,Yht hp hd,Yp6 hm h3]
    dsimp only
    have hn:(p.i * 5+1+p.perturb / 32) % 8≠j0:=by rw[h4,e,hz];lia
    rw[if_neg hn]
    exact⟨_,by rw[h5],hn,by lia⟩
   ·rw[if_neg e]
    exact⟨_,by rw[h5],e,h6⟩
 | k+1,fuel+1,p,h1,h2,h3,h4,h5,h6=>by
   rw[SetTable.probe.go,Yht hp hd]
   by_cases e:p.j=j0
   ·rw[if_pos e]
    dsimp only
    rw[hne,if_neg qi,Yp6 hm h3]
    refine y2w hm hp hd hj hne k fuel _ ?_ (by lia) rfl rfl h5 (by show _ % 8 < 8;lia)
    show p.perturb / 32 < 32 ^ k
    rw[Nat.div_lt_iff_lt_mul (by decide),<-Nat.pow_succ]
    exact h1
   ·rw[if_neg e]
    exact⟨_,by rw[h5],e,h6⟩
 | 0,0,_,_,h,_,_,_,_=>by lia
 | 0,1,_,_,h,_,_,_,_=>by lia
 | _+1,0,_,_,h,_,_,_,_=>by lia
theorem Yha{t:SetTable}(hm:t.mask=7)(h:Int):t.probeStart h={ j:=SetTable.bits h % 8,more:=0,i:=SetTable.bits h % 8,perturb:=SetTable.bits h,dummy:=none }:=by
 unfold SetTable.probeStart
 rw[hm]
 have:SetTable.runEnd 7 (SetTable.bits h % (7+1)) - SetTable.bits h % (7+1)=0:=by
  unfold SetTable.runEnd
  split<;>lia
 dsimp only
 rw[this]
theorem Yxz{t:SetTable}(hm:t.mask=7)(hp:t.place=#[])(hd:t.dummies=#[])(hA:Nat->Int)(h:Int):t.probe hA h (t.probeStart h)=some (.empty (SetTable.bits h % 8) none):=by
 unfold SetTable.probe
 rw[hm,Yha hm]
 show SetTable.probe.go t hA h (219+1) _=_
 rw[SetTable.probe.go,Ytr hp hd]
theorem Yx0{t:SetTable}{j0:Nat}(hm:t.mask=7)(hp:t.place=#[j0])(hd:t.dummies=#[])(hj:j0 < 8){hA:Nat->Int}{h:Int}(hne:(hA 0==h)=false):∃j,t.probe hA h (t.probeStart h)=some (.empty j none)/\j≠j0/\j < 8:=by
 unfold SetTable.probe
 rw[hm,Yha hm]
 refine y2w hm hp hd hj hne 13 _ _ ?_ (by decide) rfl rfl rfl (by show _ % 8 < 8;lia)
 show SetTable.bits h < 32 ^ 13
 unfold SetTable.bits
 have:h % (2 ^ 64:Int) < 2 ^ 64:=Int.emod_lt_of_pos _ (by decide)
 have h2:0<=h % (2 ^ 64:Int):=Int.emod_nonneg _ (by decide)
 have:(h % (2 ^ 64:Int)).toNat < 2 ^ 64:=by lia
 exact Qi this (by decide)
section
variable {prog:Program} {w:World} {A:Around} {E:Value->Shared->Prop} {s:Shared}
theorem y1c{u:Addr}{o:Obj}{i:Int}{tk:Tok}{b:Bool}{n:Nat}{Q:Bool->Shared->Prop}(ho:s.heap.get? u=some o)(hc:o.cls=.type "tuple")(hd:o.data=.seq #[.int i tk,.bool b] n)(h:Q true s):wpAny (model prog w) A (hashByValue 8 (.ref u)) Q E s:=by
 have hT:s.TypeIs (.ref u) "tuple":=⟨o,ho,hc⟩
 unfold hashByValue
 refine wpAny_bind (wpAny_specialOf hT F.slot_tuple_hash.lookup ?_)
 dsimp only
 refine wpAny_bind (wpAny_seqItems ho hd ?_)
 show wpAny _ _ (forIn #[Value.int i tk,Value.bool b] _ _ >>= _) _ _ _
 simp[hashByValue]
 exact wpAny_pure h
def hAt(es:Array (Int × Value))(i:Nat):Int:=(es[i]?.map (·.1)).getD 0
theorem Yx1{S:Addr}{x:Value}{h:Int}{o:Obj}{es:Array (Int × Value)}{ep:Nat}{t:SetTable}{j:Nat}{Q:SetFound->Shared->Prop}(hS:s.heap.get? S=some o)(hd:o.data=.set es ep t)(hf:t.fits es.size=true)(hm:t.mask=7)
 (hpr:t.probe (hAt es) h (t.probeStart h)=some (.empty j none)) (hQ:Q (.free j false) s):wpAny (model prog w) A (setSearch S x h true) Q E s:=by
 show wpAny _ _ (setState S >>= _) _ _ _
 refine wpAny_bind (wpAny_setState_of hS hd hf ?_)
 dsimp only
 have hg:t.gaveWay=false:=by unfold SetTable.gaveWay;rw[hm];rfl
 rw[hg,if_neg qi]
 refine wpAny_bind (wpAny_pure ?_)
 have hpr':t.probe (fun i=>(es[i]?.map (·.1)).getD 0) h (t.probeStart h)=some (.empty j none):=hpr
 show wpAny _ _ (match t.probe (fun i=>(es[i]?.map (·.1)).getD 0) h (t.probeStart h)with | some met=>_ | _=>_) _ _ _
 rw[hpr']
 exact wpAny_pure hQ
theorem y8r{S u:Addr}{h:Int}{o:Obj}{es:Array (Int × Value)}{ep:Nat}{t:SetTable}{j:Nat}{ou:Obj}{i:Int}{tk:Tok}{b:Bool}{n:Nat}{Q:Bool->Shared->Prop}(hS:s.heap.get? S=some o)(hd:o.data=.set es ep t)(hf:t.fits es.size=true)(hm:t.mask=7)(hdm:t.dummies=#[])(hsz:es.size<=1)
 (hpr:t.probe (hAt es) h (t.probeStart h)=some (.empty j none)) (ho:s.heap.get? u=some ou) (hc:ou.cls=.type "tuple") (hud:ou.data=.seq #[.int i tk,.bool b] n)
 (hQ:Q true { s with heap:=s.heap.update S (Obj.putSet (SetTable.insertAt es (SetTable.below t.place j) (h,.ref u)) { t with place:=SetTable.insertAt t.place (SetTable.below t.place j) j }) }) :
 wpAny (model prog w) A (setAddHashed S (.ref u) h) Q E s:=by
 unfold setAddHashed setAddHashedIn
 refine wpAny_holding (wpAny_bind (wpAny_setState_of hS hd hf ?_))
 dsimp only
 have hby:byScan (.ref u) es=false:=rfl
 rw[hby,if_neg qi]
 refine wpAny_bind (Yx1 hS hd hf hm hpr ?_)
 dsimp only
 refine wpAny_bind (wpAny_setState_of hS hd hf ?_)
 dsimp only
 have hput:t.put j=({ t with place:=SetTable.insertAt t.place (SetTable.below t.place j) j },SetTable.below t.place j):=by
  unfold SetTable.put
  dsimp only
  rw[hdm]
  have:SetTable.has #[] j=false:=rfl
  rw[this,if_neg qi]
 rw[hput]
 dsimp only
 have hfull:({ t with place:=SetTable.insertAt t.place (SetTable.below t.place j) j }:SetTable).tooFull=false:=by
  have h1:t.place.size=es.size:=by
   simp only[SetTable.fits,Qf,beq_iff_eq]at hf
   exact hf.1
  have h2:(SetTable.insertAt t.place (SetTable.below t.place j) j).size<=2:=by
   rw[<-qj,Ya8]
   simp
   lia
  unfold SetTable.tooFull SetTable.fill
  rw[hm,hdm]
  simp
  lia
 have hsz':(SetTable.insertAt es (SetTable.below t.place j) (h,Value.ref u)).size<=sizeLine:=by
  rw[<-qj,Ya8,sizeLine_eq]
  simp
  lia
 cases hpl:t.plain with
 | true=>
   rw[if_pos rfl]
   refine wpAny_bind (y1c ho hc hud ?_)
   rw[if_pos rfl]
   refine wpAny_bind (wpAny_storeSet_of hS hd ?_ hsz')
   rw[hpl]at hfull hQ
   rw[hfull]
   exact wpAny_pure hQ
 | false=>
   rw[if_neg qi]
   refine wpAny_bind (wpAny_pure ?_)
   rw[if_pos rfl]
   refine wpAny_bind (wpAny_storeSet_of hS hd ?_ hsz')
   rw[hpl]at hfull hQ
   rw[hfull]
   exact wpAny_pure hQ
def PairV(h:Heap)(u:Addr)(p:Int × Bool):Prop:=∃o tk n,h.get? u=some o/\o.cls=.type "tuple"/\o.data=.seq #[.int p.1 tk,.bool p.2] n
def pH(p:Int × Bool):Int:=y34 [p.1,if p.2 then 1 else 0]
theorem PairV.keep{h h':Heap}{u:Addr}{p:Int × Bool}(x:PairV h u p)(k:∀o,h.get? u=some o->h'.get? u=some o):PairV h' u p:=by
 obtain⟨o,tk,n,h1,r⟩:=x
 exact⟨o,tk,n,k o h1,r⟩
theorem PairV.key{h:Heap}{u:Addr}{p:Int × Bool}(x:PairV h u p):IsTupleKey (Yah prog w) h [p.1,if p.2 then 1 else 0] u:=by
 obtain⟨o,tk,n,h1,h2,h3⟩:=x
 refine⟨o,_,n,h1,h2,h3,?_⟩
 exact .cons (by simp[Yah,Yjq]) (.cons (by simp[Yah,Yjq]) .nil)
theorem Yr5{l I S u:Addr}{items:Array Value}{i:Nat}{p:Int × Bool}{R:Result->Shared->Prop}(hu:A.units+2 < cLine)(hit:s.heap.IsListIter I l i)(hl:s.heap.IsList l items)(hx:items[i]?=some (.ref u))(hp:PairV s.heap u p)(hIu:u≠I)
 (k:∀h1 tk,h1.IsListIter I l (i+1)->Heap.SameBut I s.heap h1->wpAny (model prog w) A.in1 (setAddHashed S (.ref u) (pH p)) (fun _ s'=>codeAny (model prog w) A (.builtin "set.update.loop" ⟨[.ref S,.ref I],[]⟩) R s') (fun e s'=>R (.error e) s') { s with heap:=h1,toks:=tk }) :
 codeAny (model prog w) A (.builtin "set.update.loop" ⟨[.ref S,.ref I],[]⟩) R s:=by
 refine codeAny_builtin F.entry_set_update_loop ?_
 rw[Around.under_plainId F.plain_set_update_loop _]
 show wpAny _ A.in1 (pyNext (.ref I) >>= _) _ _ s
 refine wpAny_bind (wpAny_pyNext_list_item hit hl hx fun h1 hi1 hs1=>?_)
 show wpAny _ A.in1 (holding [Value.ref u] (setAdd S (.ref u)) >>= _) _ _ _
 refine wpAny_bind (wpAny_holding ?_)
 unfold setAdd
 have hp1:PairV h1 u p:=hp.keep fun o e=>by rw[hs1.2 u hIu];exact e
 refine wpAny_holding (wpAny_bind (wpAny_pyHash_tuple (knd:=Yah prog w) (s:={ s with heap:=h1 }) (by show A.units+1 < cLine;lia) hp1.key ?_))
 refine wpAny_mono (k h1 _ hi1 hs1) (fun b s' hb=>?_) fun _ _ x=>x
 exact wpAny_pure ⟨plainId_quiet F.plain_set_update_loop _,hb⟩
theorem Yts{l I S:Addr}{items:Array Value}{i:Nat}{R:Result->Shared->Prop}(hh:A.handled=none)(hit:s.heap.IsListIter I l i)(hl:s.heap.IsList l items)(hx:items[i]?=none)
 (k:∀h1,Heap.ExtBut I s.heap h1->R (.ok (.ret .none)) { s with heap:=h1 }) :
 codeAny (model prog w) A (.builtin "set.update.loop" ⟨[.ref S,.ref I],[]⟩) R s:=by
 refine codeAny_builtin F.entry_set_update_loop ?_
 rw[Around.under_plainId F.plain_set_update_loop _]
 show wpAny _ A.in1 (pyNext (.ref I) >>= _) _ _ s
 refine wpAny_bind (wpAny_pyNext_list_end (A:=A.in1) hh hit hl hx fun h1 hs1=>?_)
 show wpAny _ A.in1 (ret Value.none) _ _ _
 exact wpAny_pure (k h1 hs1)
end
end
section
set_option maxRecDepth 100000
def vOf(e:Int × Value):Value:=e.2
def SetV(w:World)(h:Heap)(a:Addr)(vs:List Value):Prop:=
 ∃o es ep t,h.get? a=some o/\o.ExactSet/\o.data=.set es ep t/\es.toList.map vOf=vs/\es.size < scanBound/\t.fits es.size=true/\Tab (byT w) t
theorem SetV.at{w:World}{h h':Heap}{a:Addr}{ns:List Value}(x:SetV w h a ns)(e:∀o,h.get? a=some o->h'.get? a=some o):SetV w h' a ns:=
 let ⟨o,es,ep,t,ho,r⟩:=x
 ⟨o,es,ep,t,e o ho,r⟩
theorem SetV.len{w:World}{h:Heap}{a:Addr}{ns:List Value}(x:SetV w h a ns):ns.length < scanBound:=by
 obtain⟨o,es,ep,t,ho,hex,hd,hns,hb,_⟩:=x
 rw[<-hns,qf,qj]
 exact hb
def PVal(vals:List Value)(i:Nat)(v:Value):Prop:=vals[i]?=some v
section
variable {prog:Program} {w:World} {A:Around} {E:Value->Shared->Prop} {s:Shared}
theorem Yx2{a:Addr}{ns:List Value}(hS:SetV w s.heap a ns){Q:Value->Shared->Prop}
 (hQ:∀(h':Heap) (d':Drawn) (I:Addr) (fp:List Addr) (vals:List Value) (St:Nat->Heap->Prop),(∀b o,s.heap.get? b=some o->h'.get? b=some o)->s.heap.objs.size<=I->I∈fp->
  (∀b∈fp,b < h'.objs.size/\(b=a\/s.heap.objs.size<=b))->vals.Perm ns->(∀A':Around,A'.handled=none->Walks prog w A' I fp [I] ns.length (PVal vals) St)->St 0 h'->
  (∀(i:Nat) (s':Shared),St i s'.heap->s'.TypeIs (.ref I) "set_iterator")->Q (.ref I) { s with heap:=h',drawn:=d' }) :
 wpAny (model prog w) A (pyIter (.ref a)) Q E s:=by
 obtain⟨o,es,ep,t,ho,hex,hd,hns,hb,hf,ht⟩:=hS
 have hT:s.TypeIs (.ref a) "set":=⟨o,ho,hex.1⟩
 have hlen:ns.length=es.size:=by rw[<-hns,qf,qj]
 have hlt:a < s.heap.objs.size:=ql ho
 have hsa:SAt s.heap a es ep t:=⟨o,ho,hex,hd,hf⟩
 have hps:t.place.size=es.size:=by
  simp only[SetTable.fits,Qf,beq_iff_eq]at hf
  exact hf.1
 refine wpAny_pyIter_slot hT F.slot_set_iter (wpAny_call_entry F.slot_set_iter hT Ylq ?_ (F.args_set_iter_1 _))
 unfold Builtin.«frozenset.__iter__»
 show wpAny _ _ (Builtin.Frozenset.sizeOf a >>= _) _ _ s
 unfold Builtin.Frozenset.sizeOf
 refine wpAny_bind (wpAny_bind (wpAny_setEntries_of ho hd hf (wpAny_pure ?_)))
 refine wpAny_bind ?_
 unfold setDrawn
 refine wpAny_bind (wpAny_setState_of ho hd hf ?_)
 dsimp only
 refine wpAny_bind (Yhm (wpAny_pure ?_))
 have plain:∀(vals:List Value) (st:Nat->Nat) (xv:Nat->Value),vals.Perm ns->st 0=0->(∀i,i < es.size->PVal vals i (xv i))->
  (∀(s':Shared) (A':Around) (i:Nat) (E':Value->Shared->Prop),SAt s'.heap a es ep t->i < es.size->∀Q':Option (Value × Nat)->Shared->Prop,Q' (some (xv i,st (i+1))) s'->wpAny (model prog w) A' (setNext a (st i) i ep) Q' E' s')->
  (∀(s':Shared) (A':Around) (E':Value->Shared->Prop),SAt s'.heap a es ep t->∀Q':Option (Value × Nat)->Shared->Prop,Q' none s'->wpAny (model prog w) A' (setNext a (st es.size) es.size ep) Q' E' s')->
  wpAny (model prog w) A.in1 (do
   let x <-newFields "set_iterator" [rawInt 0,rawInt 0,.ref a,rawInt es.size,rawInt (<-setEpoch a)]
   ret x) (fun fin s'=>∃v,fin=.done (.ret v)/\∃T' r,s'.TypeIs v T'/\typeLookup (.type T') "__next__"=pure (some r)/\Q v s') E s:=by
  intro vals st xv hp h0 hx hi hn
  refine wpAny_bind (wpAny_setEpoch_of ho hd hf ?_)
  refine wpAny_bind (wpAny_newObj_type ?_)
  refine wpAny_pure ⟨_,rfl,"set_iterator",_,⟨_,qp _ rfl,rfl⟩,slot_si_next.lookup,?_⟩
  have key:=hQ (s.heap.push { cls:=.type "set_iterator",data:=.fields #[rawInt 0,rawInt 0,.ref a,rawInt es.size,rawInt ep] }) s.drawn s.heap.objs.size [s.heap.objs.size,a] vals
   (fun i h=>SIt h s.heap.objs.size (.int (st i) 0) i a es.size ep/\SAt h a es ep t) (fun b o e=>qe _ e) (qu _) (by simp) (fun b hb=>by
    rw[Heap.size_push]
    rcases qt hb with rfl | hb
    ·exact⟨qz _,.inr (qu _)⟩
    ·rw[Ql]at hb
     subst hb
     exact⟨qw hlt,.inl rfl⟩) hp (fun A' hA'=>{
    sub:=fun b hb=>by simp at hb;simp[hb]
    frame:=fun i h h' st' hk=>⟨st'.1.at fun o e=>hk _ (by simp) o e,st'.2.at fun o e=>hk a (by simp) o e⟩
    item:=fun i s' Q' E' hlt' st' hQ'=>by
     refine y32 st'.1 st'.2 (x:=xv i) (nx:=st (i+1)) (fun A2 Q2 E2 hq=>hi s' A2 i E2 st'.2 (by lia) Q2 hq) fun h' hit' hs'=>?_
     exact hQ' _ h' s'.toks (hx i (by lia)) ⟨hit',st'.2.at fun o e=>hs'.extBut a o (fun z=>by subst z;exact absurd hlt (Nat.lt_irrefl _)) e⟩ fun b o hb e=>hs'.extBut b o (fun z=>hb (by simp[z])) e
    done:=fun s' Q' E' st' hQ'=>by
     rw[hlen]at st'
     exact y33 hA' st'.1 st'.2 (fun A2 Q2 E2 hq=>hn s' A2 E2 st'.2 Q2 hq) fun h' he'=>hQ' h' s'.toks fun b o hb e=>he' b o (fun z=>hb (by simp[z])) e
    self:=fun i s' Q' E' st' hQ'=>Ywl st'.1 hQ' }) ⟨⟨_,qp _ rfl,rfl,by rw[h0];rfl⟩,hsa.at fun o e=>qe _ e⟩ (fun i s' st'=>st'.1.typeIs)
  exact key
 have hdr:∀b:Bool,(!t.plain&&decide (es.size > 1))=b->wpAny (model prog w) A.in1 (if (!byT w&&b)=true then do
  let first <-newTuple ((<-drawOrder es.size (List.range es.size)).map fun(i:Nat)=>rawInt i)
  let x <-newFields "set_iterator" [first,rawInt 0,.ref a,rawInt es.size,rawInt (<-setEpoch a)]
  ret x
  else do
   let x <-newFields "set_iterator" [rawInt 0,rawInt 0,.ref a,rawInt es.size,rawInt (<-setEpoch a)]
   ret x) (fun fin s'=>∃v,fin=.done (.ret v)/\∃T' r,s'.TypeIs v T'/\typeLookup (.type T') "__next__"=pure (some r)/\Q v s') E s:=by
  intro b hbd
  cases hbt:byT w with
  | true=>
    rw[if_neg (by simp)]
    generalize hor:pickOrder (w.params.setOrder a ep) es=ord
    have hpm:ord.toList.Perm es.toList:=by rw[<-hor];exact Ywk _ _
    have hos:ord.size=es.size:=by
     have:=hpm.length_eq
     simpa using this
    refine plain (ord.toList.map vOf) (fun _=>0) (fun i=>(ord.getD i (0,.none)).2) (by rw[<-hns];exact hpm.map vOf) rfl (fun i hi=>?_) (fun s' A' i E' ha hi Q' hq=>?_) (fun s' A' E' ha Q' hq=>?_)
    ·have hi':i < ord.size:=by lia
     show(ord.toList.map vOf)[i]?=some _
     simp[hi',vOf,Array.getD]
    ·have hi':i < ord.size:=by lia
     refine Ypq hbt ha ?_
     rw[hor,Qs hi']
     simp only[Array.getD,hi',dite_true]at hq
     exact hq
    ·refine Ypq hbt ha ?_
     rw[hor,Array.getElem?_eq_none (by lia)]
     exact hq
  | false=>
    have hled:=ht.1 hbt
    cases b with
    | false=>
      rw[if_neg (by simp)]
      have hrise:Rise t.place:=by
       cases hpl:t.plain with
       | true=>exact ht.2 hpl
       | false=>
         rw[hpl]at hbd
         have h1:t.place.toList.length<=1:=by
          simp at hbd
          rw[qj]
          lia
         unfold Rise
         match t.place.toList,h1 with
         | [],_=>exact .nil
         | [x],_=>simp
      refine plain ns (Yg1 t.place) (fun i=>(es.getD i (0,.none)).2) .rfl rfl (fun i hi=>?_) (fun s' A' i E' ha hi Q' hq=>?_) (fun s' A' E' ha Q' hq=>?_)
      ·show ns[i]?=some _
       rw[<-hns]
       simp[hi,vOf,Array.getD]
      ·refine Ypr hbt hbd hled ha (Ytf hrise (by lia)) ?_
       have hi2:i < t.place.size:=by lia
       rw[Qs hi,Qs hi2]
       simp only[Array.getD,hi,hi2,dite_true,Yg1]at hq
       exact hq
      ·refine Ypr hbt hbd hled ha (Ytf hrise (by lia)) ?_
       rw[Array.getElem?_eq_none (qu _)]
       exact hq
    | true=>
      rw[if_pos (by simp)]
      refine wpAny_bind (Ymk es.size (List.range es.size) s _ (by simp) fun ys d' hp=>?_)
      simp only[newTuple]
      have hyl:ys.length=es.size:=by rw[hp.length_eq];simp
      refine wpAny_bind (wpAny_newObj_type ?_ (by show(ys.map fun(i:Nat)=>rawInt i).toArray.size<=sizeLine;rw[qk,qf,hyl];exact fits_of_scanBound hb))
      have ho1:((s.heap.push { cls:=.type "tuple",data:=.seq (ys.map fun(i:Nat)=>rawInt i).toArray })).get? a=some o:=qe _ ho
      refine wpAny_bind (wpAny_setEpoch_of (s:={ s with heap:=s.heap.push { cls:=.type "tuple",data:=.seq (ys.map fun(i:Nat)=>rawInt i).toArray },drawn:=d' }) ho1 hd hf ?_)
      refine wpAny_bind (wpAny_newObj_type ?_)
      refine wpAny_pure ⟨_,rfl,"set_iterator",_,⟨_,qp _ rfl,rfl⟩,slot_si_next.lookup,?_⟩
      have hmem:∀j∈ys,j < es.size:=fun j hj=>by simpa using hp.mem_iff.mp hj
      have hvp:(ys.map fun j=>vOf (es.getD j (0,.none))).Perm ns:=by
       rw[<-hns]
       refine(hp.map _).trans ?_
       have:(List.range es.size).map (fun j=>vOf (es.getD j (0,.none)))=es.toList.map vOf:=by
        refine List.ext_getElem (by simp) fun i h1 h2=>?_
        have hi:i < es.size:=by simpa using h1
        simp[Array.getD,hi]
       rw[this]
      generalize hH:s.heap.push { cls:=.type "tuple",data:=.seq (ys.map fun(i:Nat)=>rawInt i).toArray }=H at ho1 ⊢
      have hHs:H.objs.size=s.heap.objs.size+1:=by rw[<-hH,Heap.size_push]
      have hT0:H.IsTuple s.heap.objs.size (ys.map fun(i:Nat)=>rawInt i).toArray:=⟨_,by rw[<-hH];exact qp _ rfl,rfl,_,rfl⟩
      have keepH:∀b o,s.heap.get? b=some o->H.get? b=some o:=fun b o e=>by rw[<-hH];exact qe _ e
      have haI:a≠H.objs.size:=fun z=>by rw[z,hHs]at hlt;exact absurd hlt (Nat.not_lt.mpr (Nat.le_succ _))
      have hTI:s.heap.objs.size≠H.objs.size:=by rw[hHs];exact qm (qz _)
      exact hQ (H.push { cls:=.type "set_iterator",data:=.fields #[.ref s.heap.objs.size,rawInt 0,.ref a,rawInt es.size,rawInt ep] }) d' H.objs.size [H.objs.size,a,s.heap.objs.size] (ys.map fun j=>vOf (es.getD j (0,.none)))
       (fun i h=>SIt h H.objs.size (.ref s.heap.objs.size) i a es.size ep/\SAt h a es ep t/\h.IsTuple s.heap.objs.size (ys.map fun(i:Nat)=>rawInt i).toArray) (fun b o e=>qe _ (keepH b o e)) (by lia) (by simp) (fun b hb=>by
        rw[Heap.size_push]
        simp only[List.mem_cons,List.not_mem_nil,or_false]at hb
        rcases hb with rfl | rfl | rfl
        ·exact⟨qz _,.inr (by rw[hHs];exact Nat.le_succ _)⟩
        ·exact⟨qw (by rw[hHs];exact qw hlt),.inl rfl⟩
        ·exact⟨qw (by rw[hHs];exact qz _),.inr (qu _)⟩) hvp (fun A' hA'=>{
        sub:=fun b hb=>by simp at hb;simp[hb]
        frame:=fun i h h' st' hk=>⟨st'.1.at fun o e=>hk _ (by simp) o e,st'.2.1.at fun o e=>hk a (by simp) o e,st'.2.2.at fun o e=>hk _ (by simp) o e⟩
        item:=fun i s' Q' E' hlt' st' hQ'=>by
         have hi:i < ys.length:=by lia
         have hj:=hmem ys[i] (List.getElem_mem hi)
         refine y0h st'.1 st'.2.1 st'.2.2 (j:=ys[i]) (tk:=0) (e:=es[ys[i]]) (by simp[hi,rawInt]) (Qs hj) fun h' hit' hs'=>?_
         refine hQ' _ h' s'.toks ?_ ⟨hit',st'.2.1.at fun o e=>hs'.extBut a o haI e,st'.2.2.at fun o e=>hs'.extBut _ o hTI e⟩ fun b o hb e=>hs'.extBut b o (fun z=>hb (by simp[z])) e
         show(ys.map fun j=>vOf (es.getD j (0,.none)))[i]?=some es[ys[i]].2
         simp[hi,Array.getD,hj,vOf]
        done:=fun s' Q' E' st' hQ'=>by
         rw[hlen]at st'
         exact y0i hA' st'.1 st'.2.1 st'.2.2 (by simp[hyl]) fun h' he'=>hQ' h' s'.toks fun b o hb e=>he' b o (fun z=>hb (by simp[z])) e
        self:=fun i s' Q' E' st' hQ'=>Ywl st'.1 hQ' }) ⟨⟨_,qp _ rfl,rfl,rfl⟩,⟨o,qe _ ho1,hex,hd,hf⟩,hT0.push _⟩ (fun i s' st'=>st'.1.typeIs)
 exact hdr _ rfl
theorem Yp7{a:Addr}{ns:List Value}(hh:A.handled=none)(hS:SetV w s.heap a ns){Q:List Value->Shared->Prop}
 (hQ:∀(h':Heap) (d':Drawn) (tk:Nat) (acc:List Value),s.heap.objs.size<=h'.objs.size->(∀b o,s.heap.get? b=some o->h'.get? b=some o)->acc.Perm ns->Q acc { s with heap:=h',drawn:=d',toks:=tk }) :
 wpAny (model prog w) A (collect (.ref a)) Q E s:=by
 obtain⟨o,es,ep,t,ho,hex,hd,_⟩:=id hS
 have hlt:a < s.heap.objs.size:=ql ho
 have hlen:=hS.len
 unfold collect
 refine wpAny_bind (wpAny_runValue (codeAny_builtin F.entry_proto_collect ?_))
 rw[Around.under_plainId F.plain_proto_collect _]
 show wpAny _ A.in1 (newList [] >>= fun l=>again (.builtin "list.__iadd__" ⟨[l,.ref a],[]⟩)) _ _ s
 refine wpAny_bind (wpAny_newObj_type ?_)
 refine wpAny_pure ⟨plainId_quiet F.plain_list_iadd _,codeAny_builtin F.entry_list_iadd ?_⟩
 rw[Around.under_plainId F.plain_list_iadd _]
 generalize hH:s.heap.push { cls:=.type "list",data:=.seq ([]:List Value).toArray }=H
 have hHs:H.objs.size=s.heap.objs.size+1:=by rw[<-hH,Heap.size_push]
 have keepH:∀b o,s.heap.get? b=some o->H.get? b=some o:=fun b o e=>by rw[<-hH];exact qe _ e
 have hL:H.get? s.heap.objs.size=some { cls:=.type "list",data:=.seq ([]:List Value).toArray }:=by rw[<-hH];exact qp _ rfl
 have hoH:=keepH a o ho
 have hT:Shared.TypeIs { s with heap:=H } (.ref a) "set":=⟨o,hoH,hex.1⟩
 have hSI:s.heap.objs.size≠a:=fun z=>by rw[<-z]at hlt;exact absurd hlt (Nat.lt_irrefl _)
 have h1:Builtin.List.listSameRef (.ref s.heap.objs.size) (.ref a)=false:=by simp[Builtin.List.listSameRef,hSI]
 show wpAny _ A.in1 (Builtin.List.listExtendWith (.ref s.heap.objs.size) (.ref a) (.ref s.heap.objs.size)) _ _ _
 unfold Builtin.List.listExtendWith
 refine wpAny_bind (wpAny_typeOf hT ?_)
 have h2:(Value.type "set"==Value.type "list")=false:=by decide
 have h3:(Value.type "set"==Value.type "tuple")=false:=by decide
 simp only[h1,h2,h3,Bool.or_false,Qm,if_false]
 refine wpAny_bind (Yx2 (s:={ s with heap:=H }) (hS.at fun o e=>keepH a o e) fun h' d' I fp vals St keep hI hIf hfp hp hW hst hty=>?_)
 have ho':=keep a o hoH
 have hT':Shared.TypeIs { s with heap:=h',drawn:=d' } (.ref a) "set":=⟨o,ho',hex.1⟩
 refine wpAny_bind (wpAny_holding ?_)
 unfold Builtin.List.listLengthHint
 refine wpAny_bind (wpAny_specialOf hT' F.slot_set_len.lookup ?_)
 (generalize hid:("set.__len__":String)=id0;(fail_if_success (clear hid id0));wp_delta;rw[show splitId id0=some ("set","__len__") from by subst hid;decide +kernel];subst hid)
 refine wpAny_bind (wpAny_isInstance (b:=true) hT' Yr4 ?_)
 show wpAny _ A.in1 (typeOf (Value.ref a) >>= _) _ _ _
 refine wpAny_bind (wpAny_typeOf hT' ?_)
 refine wpAny_pure ?_
 rw[if_pos (by decide)]
 refine wpAny_bind (wpAny_rule ?_)
 have hSf:s.heap.objs.size∉fp:=fun hm=>by
  rcases(hfp _ hm).2 with z | z
  ·exact hSI z
  ·rw[show({ s with heap:=H }:Shared).heap.objs.size=H.objs.size from rfl,hHs]at z
   exact absurd z (Nat.not_le.mpr (qz _))
 have hS₁:h'.get? s.heap.objs.size=some { cls:=.type "list",data:=.seq ([]:List Value).toArray }:=keep _ _ hL
 refine wpAny_bind ?_
 show wpAny _ A.in1 (updateSeq s.heap.objs.size (·.push .none) >>= fun _=>updateSeq s.heap.objs.size (·.pop)) _ _ _
 refine wpAny_bind (wpAny_updateSeq hS₁ rfl ?_)
 have hS₂:=Heap.get?_update_self (Obj.mapSeq (·.push Value.none)) hS₁ rfl
 refine wpAny_updateSeq hS₂ rfl ?_
 have hS₃:=Heap.get?_update_self (Obj.mapSeq (·.pop)) hS₂ rfl
 have oth:∀b o,b≠s.heap.objs.size->h'.get? b=some o->
  ((h'.update s.heap.objs.size (Obj.mapSeq (·.push Value.none))).update s.heap.objs.size (Obj.mapSeq (·.pop))).get? b=some o:=
  fun b o hb e=>(Heap.get?_update_other _ _ (Ne.symm hb)).trans ((Heap.get?_update_other _ _ (Ne.symm hb)).trans e)
 have W:=(hW A.in1 hh).toS
 refine wpAny_pure ⟨plainId_quiet F.plain_extend_loop _,codeAny_extend_loopS W (fits_of_scanBound hlen) _ hSf _ ns.length 0 _ _ _ rfl (Qh _)
  (W.frame 0 ({ s with heap:=h',drawn:=d' }:Shared) _ s.toks hst (qu _) fun b hb o e=>oth b o (fun h=>hSf (h ▸ hb)) e) hS₃ (ItemsOf.nil _) fun s' acc' c' hm hS' hacc=>?_⟩
 show wpAny _ A (load s.heap.objs.size >>= _) _ _ s'
 refine wpAny_bind (wpAny_load hS' ?_)
 have eg:s'.gens=s.gens:=hm.gens
 have ed:s'.drawn=d':=hm.drawn
 have eo:s'.os=s.os:=hm.os
 have es':s'={ s with heap:=s'.heap,drawn:=d',toks:=s'.toks }:=by
  obtain⟨a1,a2,a3,a4,a5⟩:=s'
  simp only at eg ed eo
  subst eg;subst ed;subst eo
  rfl
 rw[es']
 have hav:acc'.toList=vals:=by
  refine List.ext_getElem (by rw[qj,hacc.1,hp.length_eq]) fun j h1 h2=>?_
  have:=hacc.2 j acc'.toList[j] (by rw[<-Array.getElem?_toList,qq h1])
  have h3:vals[j]?=some acc'.toList[j]:=this
  rw[qq h2]at h3
  exact(Option.some.inj h3).symm
 refine wpAny_pure (hQ s'.heap d' s'.toks acc'.toList (Nat.le_of_lt (ql hS')) (fun b ob e=>?_) (by rw[hav];exact hp))
 have hb:b < s.heap.objs.size:=ql e
 refine hm.heap b ob (fun hm'=>?_) (oth b ob (qm hb) (keep b ob (keepH b ob e)))
 rcases qt hm' with z | z
 ·rw[z]at hb;exact absurd hb (Nat.lt_irrefl _)
 ·rw[List.mem_singleton.mp z]at hb
  have:H.objs.size<=I:=hI
  rw[hHs]at this
  exact absurd (Qi hb (Qj (Nat.le_succ _) this)) (Nat.lt_irrefl _)
structure SetQ(w:World)(h:Heap)(a:Addr)(us:List (Int × Addr)):Prop where
 ex:∃o es ep t,h.get? a=some o/\o.ExactSet/\o.data=.set es ep t/\es.toList=us.map (fun u=>(u.1,Value.ref u.2))/\t.fits es.size=true/\t.mask=7/\t.dummies=#[]/\t.place.toList=us.map (fun u=>SetTable.bits u.1 % 8)/\Tab (byT w) t
theorem SetQ.keep{h h':Heap}{a:Addr}{us:List (Int × Addr)}(x:SetQ w h a us)(k:∀o,h.get? a=some o->h'.get? a=some o):SetQ w h' a us:=by
 obtain⟨o,es,ep,t,h1,r⟩:=x.ex
 exact⟨o,es,ep,t,k o h1,r⟩
theorem SetQ.vals{h:Heap}{a:Addr}{us:List (Int × Addr)}(x:SetQ w h a us)(hl:us.length<=1):SetV w h a (us.map fun u=>Value.ref u.2):=by
 obtain⟨o,es,ep,t,h1,h2,h3,h4,h5,h6,h7,h8,h9⟩:=x.ex
 refine⟨o,es,ep,t,h1,h2,h3,?_,?_,h5,h9⟩
 ·rw[h4,Qd]
  rfl
 ·rw[<-qj,h4,qf]
  have:scanBound=4096:=rfl
  lia
theorem Yks{S u:Addr}{us:List (Int × Addr)}{p:Int × Bool}{Q:Bool->Shared->Prop}(hS:SetQ w s.heap S us)(hl:us.length<=1)(hp:PairV s.heap u p)(hne:∀q∈us,q.1≠pH p)
 (hQ:∀h' vs,Heap.SameBut S s.heap h'->SetV w h' S vs->vs.Perm ((us.map fun u=>Value.ref u.2)++[.ref u])->(us=[]->SetQ w h' S [(pH p,u)])->Q true { s with heap:=h' }):wpAny (model prog w) A (setAddHashed S (.ref u) (pH p)) Q E s:=by
 obtain⟨o,es,ep,t,h1,h2,h3,h4,h5,h6,h7,h8,h9⟩:=hS.ex
 obtain⟨ou,tk,n,u1,u2,u3⟩:=hp
 have hsz:es.size=us.length:=by rw[<-qj,h4,qf]
 have hpl:t.place.size=es.size:=by
  simp only[SetTable.fits,Qf,beq_iff_eq]at h5
  exact h5.1
 obtain⟨j,hpr,hj8,hfree,hjz⟩:∃j,t.probe (hAt es) (pH p) (t.probeStart (pH p))=some (.empty j none)/\j < 8/\(∀i,t.slot j≠.live i)/\(us=[]->j=SetTable.bits (pH p) % 8):=by
  generalize pH p=hp at hne ⊢
  rcases us with _ | ⟨q,_ | ⟨q2,r⟩⟩
  ·have hz:t.place=#[]:=Array.size_eq_zero_iff.mp (by rw[hpl,hsz];rfl)
   refine⟨_,Yxz h6 hz h7 _ _,by lia,fun i z=>?_,fun _=>rfl⟩
   rw[Ytr hz h7]at z
   cases z
  ·have hz:t.place=#[SetTable.bits q.1 % 8]:=by
    apply Array.toList_inj.mp
    rw[h8]
    rfl
   have hes:es=#[(q.1,.ref q.2)]:=by
    apply Array.toList_inj.mp
    rw[h4]
    rfl
   have hq:=hne q qh
   obtain⟨j,k1,k2,k3⟩:=Yx0 h6 hz h7 (by lia) (hA:=hAt es) (h:=hp) (by
    rw[hes]
    simpa [hAt]using hq)
   refine⟨j,k1,k3,fun i z=>?_,fun z=>by cases z⟩
   rw[Yht hz h7,if_neg k2]at z
   cases z
  ·simp at hl
 refine y8r h1 h3 h5 h6 h7 (by lia) hpr u1 u2 u3 ?_
 have hg:=y31 h1 h3 (SetTable.insertAt es (SetTable.below t.place j) (pH p,.ref u)) { t with place:=SetTable.insertAt t.place (SetTable.below t.place j) j }
 have e1:(SetTable.insertAt es (SetTable.below t.place j) (pH p,Value.ref u)).size=us.length+1:=by
  rw[<-qj,Ya8]
  simp
  lia
 have e2:(SetTable.insertAt t.place (SetTable.below t.place j) j).size=us.length+1:=by
  rw[<-qj,Ya8]
  simp
  lia
 have hfit:({ t with place:=SetTable.insertAt t.place (SetTable.below t.place j) j }:SetTable).fits (us.length+1)=true:=by
  unfold SetTable.fits SetTable.fill
  simp only[e2,h6,h7,Qf,beq_iff_eq,decide_eq_true_eq]
  exact⟨trivial,by simp;lia⟩
 have htab:Tab (byT w) { t with place:=SetTable.insertAt t.place (SetTable.below t.place j) j }:=⟨h9.1,fun z=>Yrs (h9.2 z) j (Ywh hfree)⟩
 have hsb:scanBound=4096:=rfl
 refine hQ _ _ (Heap.SameBut.update ..) ⟨_,_,_,_,hg,⟨h2.1,h2.2.1,h2.2.2⟩,rfl,rfl,by rw[e1];lia,by rw[e1];exact hfit,htab⟩ ?_ fun hz=>?_
 ·have hpm:(es.toList.map vOf).Perm (us.map fun u=>Value.ref u.2):=by
   rw[h4,Qd]
   exact .refl _
  have hins:((SetTable.insertAt es (SetTable.below t.place j) (pH p,Value.ref u)).toList).Perm (es.toList++[(pH p,Value.ref u)]):=by
   rw[Ya8]
   refine List.perm_middle.trans ?_
   rw[List.take_append_drop]
   exact List.perm_append_comm (l₁:=[_])
  have:=hins.map vOf
  rw[Qn]at this
  exact this.trans (hpm.append_right _)
 ·subst hz
  have hz:t.place=#[]:=Array.size_eq_zero_iff.mp (by rw[hpl,hsz];rfl)
  have hes:es=#[]:=Array.size_eq_zero_iff.mp (by rw[hsz];rfl)
  refine⟨_,_,_,_,hg,⟨h2.1,h2.2.1,h2.2.2⟩,rfl,?_,by rw[e1];exact hfit,h6,h7,?_,htab⟩
  ·rw[Ya8,hes]
   simp
  ·show(SetTable.insertAt t.place (SetTable.below t.place j) j).toList=_
   rw[Ya8,hz,hjz rfl]
   simp
theorem Ytt{u:Addr}{p:Int × Bool}{Q:Bool->Shared->Prop}(hp:PairV s.heap u p)(h:Q false s):wpAny (model prog w) A (ofAClassStatement 8 (.ref u)) Q E s:=by
 obtain⟨o,tk,n,h1,h2,h3⟩:=hp
 have hT:s.TypeIs (.ref u) "tuple":=⟨o,h1,h2⟩
 unfold ofAClassStatement
 refine wpAny_bind (wpAny_typeOf hT ?_)
 dsimp only
 rw[if_pos (by decide)]
 refine wpAny_bind (wpAny_pure ?_)
 simp only[Bool.not_true,Qm,if_false]
 refine wpAny_bind (wpAny_seqItems h1 h3 ?_)
 simp[ofAClassStatement]
 exact wpAny_pure h
theorem Yx3{u v:Addr}{p q:Int × Bool}{Q:Bool->Shared->Prop}(hu:PairV s.heap u p)(hv:PairV s.heap v q)(h:Q false s):wpAny (model prog w) A (searchCouldBeSeen (.ref u) [.ref v]) Q E s:=by
 unfold searchCouldBeSeen
 simp[carriedByValue]
 by_cases e:u=v
 ·rw[if_pos e]
  exact wpAny_bind (wpAny_pure (wpAny_bind (wpAny_pure (wpAny_pure h))))
 ·rw[if_neg e]
  refine wpAny_bind (wpAny_bind (wpAny_eqIsQuiet_tuple (knd:=Yah prog w) hu.key ?_))
  rw[if_neg (by decide)]
  refine wpAny_bind (wpAny_eqIsQuiet_tuple (knd:=Yah prog w) hv.key ?_)
  rw[if_neg (by decide)]
  refine wpAny_bind (Ytt hu ?_)
  rw[if_neg (by decide)]
  refine wpAny_bind (Ytt hv ?_)
  rw[if_neg (by decide)]
  exact wpAny_pure (wpAny_bind (wpAny_pure (wpAny_pure h)))
theorem Yu4{t:SetTable}{h:Int}(hm:t.mask=7)(hp:t.place=#[SetTable.bits h % 8])(hd:t.dummies=#[]){hA:Nat->Int}(he:hA 0=h):∃nx,t.probe hA h (t.probeStart h)=some (.candidate (SetTable.bits h % 8) 0 nx):=by
 unfold SetTable.probe
 rw[hm,Yha hm]
 show ∃nx,SetTable.probe.go t hA h (219+1) _=_
 rw[SetTable.probe.go,Yht hp hd,if_pos rfl]
 dsimp only
 rw[he,if_pos (by simp)]
 exact⟨_,rfl⟩
theorem Yr6{S u v:Addr}{p:Int × Bool}{h:Int}{o:Obj}{es:Array (Int × Value)}{ep:Nat}{t:SetTable}{nx:SetTable.Probe}{j:Nat}{Q:SetFound->Shared->Prop}(fuel:Nat)(hu:A.units < cLine)(hS:s.heap.get? S=some o)(hd:o.data=.set es ep t)(hf:t.fits es.size=true)(hm:t.mask=7)(hes:es=#[(h,.ref v)])
 (hpr:t.probe (fun i=>(es[i]?.map (·.1)).getD 0) h (t.probeStart h)=some (.candidate j 0 nx)) (hv:PairV s.heap v p) (hp:PairV s.heap u p) (hQ:Q (.there none) s):wpAny (model prog w) A (setSearchFrom S (.ref u) h true (fuel+1) none) Q E s:=by
 show wpAny _ _ (setState S >>= _) _ _ _
 refine wpAny_bind (wpAny_setState_of hS hd hf ?_)
 dsimp only
 have hg:t.gaveWay=false:=by unfold SetTable.gaveWay;rw[hm];rfl
 rw[hg,if_neg qi]
 refine wpAny_bind (wpAny_pure ?_)
 show wpAny _ _ (match t.probe (fun i=>(es[i]?.map (·.1)).getD 0) h (t.probeStart h)with | some met=>_ | _=>_) _ _ _
 rw[hpr]
 dsimp only
 have hfl:((es.filter (·.1==h)).toList.map (·.2))=[Value.ref v]:=by
  rw[hes]
  simp
 have hes0:es[0]?=some (h,.ref v):=by rw[hes];rfl
 rw[hfl,hes0]
 cases t.led with
 | true=>
   rw[if_neg (by decide)]
   dsimp only
   refine wpAny_bind (wpAny_holding (wpAny_eqBool_tuple (knd:=Yah prog w) hu hv.key hp.key ?_))
   rw[decide_eq_true rfl]
   refine wpAny_bind (wpAny_setState_of hS hd hf ?_)
   dsimp only
   rw[if_pos (by rfl)]
   exact wpAny_pure hQ
 | false=>
   rw[if_pos (by decide)]
   refine wpAny_bind (Yx3 hp hv ?_)
   rw[if_neg (by decide)]
   dsimp only
   refine wpAny_bind (wpAny_holding (wpAny_eqBool_tuple (knd:=Yah prog w) hu hv.key hp.key ?_))
   rw[decide_eq_true rfl]
   refine wpAny_bind (wpAny_setState_of hS hd hf ?_)
   dsimp only
   rw[if_pos (by rfl)]
   exact wpAny_pure hQ
theorem Yx4{S u:Addr}{h:Int}{o:Obj}{es:Array (Int × Value)}{ep:Nat}{t:SetTable}{Q:Bool->Shared->Prop}(hS:s.heap.get? S=some o)(hd:o.data=.set es ep t)(hf:t.fits es.size=true)
 (hsr:∀Q':SetFound->Shared->Prop,Q' (.there none) s->wpAny (model prog w) A (setSearch S (.ref u) h true) Q' E s) (hQ:Q false s):wpAny (model prog w) A (setAddHashed S (.ref u) h) Q E s:=by
 unfold setAddHashed setAddHashedIn
 refine wpAny_holding (wpAny_bind (wpAny_setState_of hS hd hf ?_))
 dsimp only
 have hby:byScan (.ref u) es=false:=rfl
 rw[hby,if_neg qi]
 refine wpAny_bind (hsr _ ?_)
 exact wpAny_pure hQ
theorem y1d{S u v:Addr}{p:Int × Bool}{hh:Int}{Q:Bool->Shared->Prop}(hu:A.units < cLine)(hS:SetQ w s.heap S [(hh,v)])(hv:PairV s.heap v p)(hp:PairV s.heap u p)(hQ:Q false s):wpAny (model prog w) A (setAddHashed S (.ref u) hh) Q E s:=by
 obtain⟨o,es,ep,t,h1,h2,h3,h4,h5,h6,h7,h8,h9⟩:=hS.ex
 have hes:es=#[(hh,.ref v)]:=by
  apply Array.toList_inj.mp
  rw[h4]
  rfl
 have hz:t.place=#[SetTable.bits hh % 8]:=by
  apply Array.toList_inj.mp
  rw[h8]
  rfl
 obtain⟨nx,hpr⟩:=Yu4 (h:=hh) h6 hz h7 (hA:=fun i=>(es[i]?.map (·.1)).getD 0) (by rw[hes];rfl)
 refine Yx4 h1 h3 h5 (fun Q' q=>?_) hQ
 have h100:(100000:Nat)=99999+1:=rfl
 unfold setSearch
 rw[h100]
 generalize (99999:Nat)=fuel
 exact Yr6 fuel hu h1 h3 h5 h6 hes hpr hv hp q
def oncE:List Addr->List (Int × Bool)->List Addr
 | [u1,u2],[p1,p2]=>if p1=p2 then [u1]else [u1,u2]
 | us,_=>us
theorem Yx5{l I S:Addr}{us:List Addr}{ps:List (Int × Bool)}{R:Result->Shared->Prop}(hh:A.handled=none)(hu:A.units+2 < cLine)(hit:s.heap.IsListIter I l 0)(hl:s.heap.IsList l (us.map Value.ref).toArray)(h2:us.length<=2)(hps:ps.length=us.length)
 (hp:∀(i:Nat) u p,us[i]?=some u->ps[i]?=some p->PairV s.heap u p) (hd:∀p q,ps=[p,q]->p=q\/pH p≠pH q) (hS:SetQ w s.heap S []) (hIl:l≠I) (hIS:S≠I) (hlS:l≠S) (hIu:∀u∈us,u≠I) (hSu:∀u∈us,u≠S)
 (hR:∀h' tk vs,SetV w h' S vs->vs.Perm ((oncE us ps).map Value.ref)->(∀b o,b≠S->b≠I->s.heap.get? b=some o->h'.get? b=some o)->R (.ok (.ret .none)) { s with heap:=h',toks:=tk }) :
 codeAny (model prog w) A (.builtin "set.update.loop" ⟨[.ref S,.ref I],[]⟩) R s:=by
 have lk:∀{h h':Heap} {its:Array Value},h.IsList l its->(∀o,h.get? l=some o->h'.get? l=some o)->h'.IsList l its:=fun x k=>let ⟨o,e,r⟩:=x;⟨o,k o e,r⟩
 have ik:∀{h h':Heap} {i:Nat},h.IsListIter I l i->(∀o,h.get? I=some o->h'.get? I=some o)->h'.IsListIter I l i:=fun x k=>let ⟨o,e,r⟩:=x;⟨o,k o e,r⟩
 rcases us with _ | ⟨u1,_ | ⟨u2,_ | ⟨u3,ur⟩⟩⟩
 ·refine Yts hh hit hl rfl fun h1 hs1=>?_
  exact hR h1 s.toks _ ((hS.keep fun o e=>hs1 S o hIS e).vals (by simp)) (.refl _) fun b o _ hb e=>hs1 b o hb e
 ·rcases ps with _ | ⟨p1,_ | ⟨p2,pr⟩⟩
  ·simp at hps
  ·have hu1:=hp 0 u1 p1 rfl rfl
   refine Yr5 hu hit hl rfl hu1 (hIu u1 (by simp)) fun h1 tk1 hi1 hs1=>?_
   refine Yks (s:={ s with heap:=h1,toks:=tk1 }) (hS.keep fun o e=>by rw[hs1.2 S hIS];exact e) (by simp) (hu1.keep fun o e=>by rw[hs1.2 u1 (hIu u1 (by simp))];exact e) (by simp) fun h2' vs2 hs2 hn2 hp2 ho2=>?_
   refine Yts hh (ik hi1 fun o e=>by rw[hs2.2 I (Ne.symm hIS)];exact e) (lk hl fun o e=>by rw[hs2.2 l hlS,hs1.2 l hIl];exact e) rfl fun h3 hs3=>?_
   refine hR h3 tk1 _ (((ho2 rfl).keep fun o e=>hs3 S o hIS e).vals (by simp)) (.refl _) fun b o hb1 hb2 e=>hs3 b o hb2 (by rw[hs2.2 b hb1,hs1.2 b hb2];exact e)
  ·simp at hps
 ·rcases ps with _ | ⟨p1,_ | ⟨p2,_ | ⟨p3,pr⟩⟩⟩
  ·simp at hps
  ·simp at hps
  ·have hu1:=hp 0 u1 p1 rfl rfl
   have hu2:=hp 1 u2 p2 rfl rfl
   have n1:=hIu u1 (by simp)
   have n2:=hIu u2 (by simp)
   have m2:=hSu u2 (by simp)
   refine Yr5 hu hit hl rfl hu1 n1 fun h1 tk1 hi1 hs1=>?_
   refine Yks (s:={ s with heap:=h1,toks:=tk1 }) (hS.keep fun o e=>by rw[hs1.2 S hIS];exact e) (by simp) (hu1.keep fun o e=>by rw[hs1.2 u1 n1];exact e) (by simp) fun h2' vs2 hs2 hn2 hp2 ho2=>?_
   have k2:∀b o,b≠S->b≠I->s.heap.get? b=some o->h2'.get? b=some o:=fun b o hb1 hb2 e=>by rw[hs2.2 b hb1,hs1.2 b hb2];exact e
   refine Yr5 (s:={ s with heap:=h2',toks:=tk1 }) hu (ik hi1 fun o e=>by rw[hs2.2 I (Ne.symm hIS)];exact e) (lk hl fun o e=>k2 l o hlS hIl e) rfl (hu2.keep fun o e=>k2 u2 o m2 n2 e) n2 fun h3 tk3 hi3 hs3=>?_
   have k3:∀b o,b≠S->b≠I->s.heap.get? b=some o->h3.get? b=some o:=fun b o hb1 hb2 e=>by rw[hs3.2 b hb2];exact k2 b o hb1 hb2 e
   by_cases hpq:p1=p2
   ·subst hpq
    refine y1d (s:={ s with heap:=h3,toks:=tk3 }) (v:=u1) (p:=p1) (by show _+1 < cLine;lia) ((ho2 rfl).keep fun o e=>by rw[hs3.2 S hIS];exact e) (hu1.keep fun o e=>k3 u1 o (hSu u1 (by simp)) n1 e) (hu2.keep fun o e=>k3 u2 o m2 n2 e) ?_
    refine Yts (s:={ s with heap:=h3,toks:=tk3 }) hh hi3 (lk hl fun o e=>k3 l o hlS hIl e) rfl fun h5 hs5=>?_
    refine hR h5 tk3 _ (((ho2 rfl).keep fun o e=>hs5 S o hIS (by rw[hs3.2 S hIS];exact e)).vals (by simp)) ?_ fun b o hb1 hb2 e=>hs5 b o hb2 (k3 b o hb1 hb2 e)
    rw[oncE,if_pos rfl]
    exact .refl _
   ·have hdp:pH p1≠pH p2:=by
     rcases hd p1 p2 rfl with z | z
     ·exact absurd z hpq
     ·exact z
    refine Yks (s:={ s with heap:=h3,toks:=tk3 }) ((ho2 rfl).keep fun o e=>by rw[hs3.2 S hIS];exact e) (by simp) (hu2.keep fun o e=>k3 u2 o m2 n2 e) (fun q hq=>?_) fun h4 vs4 hs4 hn4 hp4 _=>?_
    ·simp only[Ql]at hq
     rw[hq]
     exact hdp
    ·refine Yts (s:={ s with heap:=h4,toks:=tk3 }) hh (ik hi3 fun o e=>by rw[hs4.2 I (Ne.symm hIS)];exact e) (lk hl fun o e=>by rw[hs4.2 l hlS];exact k3 l o hlS hIl e) rfl fun h5 hs5=>?_
     refine hR h5 tk3 vs4 (hn4.at fun o e=>hs5 S o hIS e) ?_ fun b o hb1 hb2 e=>hs5 b o hb2 (by rw[hs4.2 b hb1];exact k3 b o hb1 hb2 e)
     rw[oncE,if_neg hpq]
     exact hp4
  ·simp at hps
 ·simp at h2
theorem Ykt{l:Addr}{us:List Addr}{ps:List (Int × Bool)}{Q:Value->Shared->Prop}(hh:A.handled=none)(hu:A.units+8 < cLine)(hl:s.heap.IsList l (us.map Value.ref).toArray)(h2:us.length<=2)(hps:ps.length=us.length)
 (hp:∀(i:Nat) u p,us[i]?=some u->ps[i]?=some p->PairV s.heap u p) (hd:∀p q,ps=[p,q]->p=q\/pH p≠pH q)
 (h:∀(h':Heap) (tk:Nat) vs,SetV w h' s.heap.objs.size vs->vs.Perm ((oncE us ps).map Value.ref)->(∀b o,s.heap.get? b=some o->h'.get? b=some o)->Q (.ref s.heap.objs.size) { s with heap:=h',toks:=tk }) :
 wpAny (model prog w) A (call (.type "set") [.ref l]) Q E s:=by
 refine Yjn (Q₁:=fun obj s₁=>obj=.ref s.heap.objs.size/\s₁={ s with heap:=s.heap.push (emS w) }) F.called_set (F.typeCall_set_1 _) F.entry_set_init (Ywi _ ⟨rfl,rfl⟩) ?_
 rintro obj s₁ ⟨rfl,rfl⟩
 have hS:(s.heap.push (emS w)).get? s.heap.objs.size=some (emS w):=qp _ rfl
 have hT:Shared.TypeIs { s with heap:=s.heap.push (emS w) } (.ref s.heap.objs.size) "set":=⟨_,hS,rfl⟩
 refine⟨hT,fun A' E' Q' hq=>check_set_init_1 hT hq,?_⟩
 have hul:∀u∈us,u < s.heap.objs.size:=fun u hm=>by
  obtain⟨i,hi,e⟩:=List.getElem_of_mem hm
  have hi':i < ps.length:=by lia
  obtain⟨o,_,_,ho,_⟩:=hp i u ps[i] (by rw[qq hi,e]) (qq hi')
  exact ql ho
 generalize hits:(us.map Value.ref).toArray=items at hl
 obtain⟨ol,hol,hcl,nl,hdl⟩:=hl
 obtain⟨ocls,odict,odata,oslots⟩:=ol
 simp only at hcl hdl
 subst hcl;subst hdl
 have hol':(s.heap.push (emS w)).get? l=some { cls:=.type "list",dict:=odict,data:=.seq items nl,slots:=oslots }:=qe _ hol
 have hsls:=F.sub_list_set
 have hslf:=F.sub_list_frozenset
 have hne:(Value.type "list"==Value.type "dict")=false:=by decide
 have hl1:(s.heap.push (emS w)).IsList l items:=⟨_,hol',rfl,nl,rfl⟩
 unfold Builtin.«set.__init__» noKeywords Builtin.Frozenset.updateFrom
 generalize hPI:pyIter=PI
 wp_walk
 subst hPI
 refine wpAny_pyIter_list hl1 ?_
 refine wpAny_bind (wpAny_runValue ?_)
 have hlS:l < s.heap.objs.size:=ql hol
 have hsz:(s.heap.push (emS w)).objs.size=s.heap.objs.size+1:=Heap.size_push ..
 have hol2:((s.heap.push (emS w)).push { cls:=.type "list_iterator",data:=.fields #[.ref l,.int 0 0] }).IsList l items:=hl1.push _
 rw[<-hits]at hol2
 refine Yx5 (us:=us) (ps:=ps) (by simp[hh]) (by show _+2 < cLine;simp;lia) ⟨_,qp _ rfl,rfl,rfl⟩ hol2 h2 hps (fun i u p hi hp'=>(hp i u p hi hp').keep fun o e=>qe _ (qe _ e)) hd ?_ ?_ ?_ ?_ ?_ ?_ ?_
 ·exact⟨emS w,#[],0,_,qe _ hS,⟨rfl,rfl,rfl⟩,rfl,rfl,rfl,rfl,rfl,rfl,.fresh⟩
 ·rw[hsz];exact qm (qw hlS)
 ·rw[hsz];exact qm (qz _)
 ·exact qm hlS
 ·intro u hm;rw[hsz];exact qm (qw (hul u hm))
 ·intro u hm;exact qm (hul u hm)
 ·intro h' tk vs hN hpm old
  show wpAny _ _ _ _ _ _
  refine wpAny_pure ?_
  show wpAny _ _ (ret Value.none) _ _ _
  refine wpAny_pure ⟨rfl,h h' tk vs hN hpm fun b o e=>?_⟩
  have hb:=ql e
  exact old b o (qm hb) (by rw[hsz];exact qm (qw hb)) (qe _ (qe _ e))
theorem y2x{L:Addr}{vs:List Value}{Q:Fin->Shared->Prop}(hoS:s.heap.get? L=some (seqObj "list" vs.toArray 0))(h2:vs.length < 2)
 (hQ:∀h' e,(∀b o,b≠L->s.heap.get? b=some o->h'.get? b=some o)->h'.get? L=some (seqObj "list" vs.toArray e)->Q (.done (.ret .none)) { s with heap:=h' }) :
 wpAny (model prog w) A (Builtin.«list.sort» ⟨[.ref L],[]⟩) Q E s:=by
 rw[list_sort_plain]
 have ha:L < s.heap.objs.size:=ql hoS
 refine wpAny_bind (listItems_at hoS rfl ?_)
 refine wpAny_bind (listUpdate_at hoS rfl ?_ (by rw[qk,sizeLine_eq];lia) (Qh _))
 obtain⟨e1,ho1⟩:∃e1,(s.heap.update L (Obj.mapSeq fun _=>#[])).get? L=some (seqObj "list" #[] e1):=⟨_,get?_update_seq hoS (fun _=>#[])⟩
 refine wpAny_bind (seqEpoch_at ho1 rfl ?_)
 refine wpAny_bind (wpAny_newTuple ?_ (by show vs.length<=_;rw[sizeLine_eq];lia))
 refine wpAny_bind (wpAny_newList ?_ (Qh _))
 refine wpAny_holding ?_
 have ho6:(((s.heap.update L (Obj.mapSeq fun _=>#[])).push (seqObj "tuple" vs.toArray 0)).push (seqObj "list" #[] 0)).get? L=some (seqObj "list" #[] e1):=by
  rw[Heap.get?_push_ne _ _ _ (by rw[size_push',Heap.size_update];exact qm (qw ha)),Heap.get?_push_ne _ _ _ (by rw[Heap.size_update];exact qm ha)]
  exact ho1
 have keep6:∀b o,b≠L->s.heap.get? b=some o->(((s.heap.update L (Obj.mapSeq fun _=>#[])).push (seqObj "tuple" vs.toArray 0)).push (seqObj "list" #[] 0)).get? b=some o:=fun b o hb q=>by
  refine qe _ (qe _ ?_)
  rw[Heap.get?_update_ne _ _ _ _ hb]
  exact q
 show wpAny (model prog w) _ _ _ _ { s with heap:=((s.heap.update L (Obj.mapSeq fun _=>#[])).push (seqObj "tuple" vs.toArray 0)).push (seqObj "list" #[] 0) }
 generalize ((s.heap.update L (Obj.mapSeq fun _=>#[])).push (seqObj "tuple" vs.toArray 0)).push (seqObj "list" #[] 0)=h6 at ho6 keep6 ⊢
 dsimp only
 have hlt:vs.toArray.size < 2:=by rw[qk];exact h2
 rw[if_pos hlt,if_pos hlt]
 refine wpAny_bind (wpAny_pure ?_)
 rw[StateT.run_pure]
 refine wpAny_bind (wpAny_pure ?_)
 dsimp only
 refine wpAny_bind (seqEpoch_at ho6 rfl ?_)
 refine wpAny_bind (listUpdate_at ho6 rfl ?_ (hsz2:=by rw[Array.size_map];show(PyProof.Rows.pairsOf vs).size<=_;rw[pairsOf_size,sizeLine_eq];lia))
 simp only[bne_self_eq_false,Qm,if_false]
 have hout:(arrOf (SortSt.mk' general' (vs.toArray.zip vs.toArray) #[] 7 none)).map (·.2)=vs.toArray:=by
  show(vs.toArray.zip vs.toArray).map (·.2)=vs.toArray
  apply Array.toList_inj.mp
  simp[List.map_snd_zip]
 refine wpAny_pure ?_
 rw[hout]
 exact hQ _ _ (fun b o hb q=>by rw[Heap.get?_update_ne _ _ _ _ hb];exact keep6 b o hb q) (get?_update_seq ho6 (fun _=>vs.toArray))
theorem y2y{L b c:Addr}{i j:Int}{p q:Bool}{t u:Tok}{Q:Fin->Shared->Prop}(hoS:s.heap.get? L=some (seqObj "list" #[.ref b,.ref c] 0))(hb:IsTup s.heap b #[.int i t,.bool p])(hc:IsTup s.heap c #[.int j u,.bool q])(hbL:b≠L)(hcL:c≠L)
 (hQ:∀h' e,(∀b o,b≠L->s.heap.get? b=some o->h'.get? b=some o)->h'.get? L=some (seqObj "list" (if plt j q i p=true then #[.ref c,.ref b]else #[.ref b,.ref c]) e)->Q (.done (.ret .none)) { s with heap:=h' }) :
 wpAny (model prog w) A (Builtin.«list.sort» ⟨[.ref L],[]⟩) Q E s:=by
 obtain⟨vs,hvs⟩:∃vs,[Value.ref b,Value.ref c]=vs:=⟨_,rfl⟩
 have hlen:vs.length=2:=by rw[<-hvs];rfl
 have hoS:s.heap.get? L=some (seqObj "list" vs.toArray 0):=by rw[<-hvs];exact hoS
 rw[list_sort_plain]
 have ha:L < s.heap.objs.size:=ql hoS
 refine wpAny_bind (listItems_at hoS rfl ?_)
 refine wpAny_bind (listUpdate_at hoS rfl ?_ (by rw[qk,sizeLine_eq];lia) (Qh _))
 obtain⟨e1,ho1⟩:∃e1,(s.heap.update L (Obj.mapSeq fun _=>#[])).get? L=some (seqObj "list" #[] e1):=⟨_,get?_update_seq hoS (fun _=>#[])⟩
 refine wpAny_bind (seqEpoch_at ho1 rfl ?_)
 refine wpAny_bind (wpAny_newTuple ?_ (by show vs.length<=_;rw[sizeLine_eq];lia))
 refine wpAny_bind (wpAny_newList ?_ (Qh _))
 refine wpAny_holding ?_
 have ho6:(((s.heap.update L (Obj.mapSeq fun _=>#[])).push (seqObj "tuple" vs.toArray 0)).push (seqObj "list" #[] 0)).get? L=some (seqObj "list" #[] e1):=by
  rw[Heap.get?_push_ne _ _ _ (by rw[size_push',Heap.size_update];exact qm (qw ha)),Heap.get?_push_ne _ _ _ (by rw[Heap.size_update];exact qm ha)]
  exact ho1
 have keep6:∀b o,b≠L->s.heap.get? b=some o->(((s.heap.update L (Obj.mapSeq fun _=>#[])).push (seqObj "tuple" vs.toArray 0)).push (seqObj "list" #[] 0)).get? b=some o:=fun b o hb q=>by
  refine qe _ (qe _ ?_)
  rw[Heap.get?_update_ne _ _ _ _ hb]
  exact q
 show wpAny (model prog w) _ _ _ _ { s with heap:=((s.heap.update L (Obj.mapSeq fun _=>#[])).push (seqObj "tuple" vs.toArray 0)).push (seqObj "list" #[] 0) }
 generalize ((s.heap.update L (Obj.mapSeq fun _=>#[])).push (seqObj "tuple" vs.toArray 0)).push (seqObj "list" #[] 0)=h6 at ho6 keep6 ⊢
 generalize hS6:({ s with heap:=h6 }:Shared)=S6
 have ho7:S6.heap.get? L=some (seqObj "list" #[] e1):=by rw[<-hS6];exact ho6
 have tb:IsTup S6.heap b #[.int i t,.bool p]:=by
  obtain⟨o,a1,a2⟩:=hb
  exact⟨o,by rw[<-hS6];exact keep6 b o hbL a1,a2⟩
 have tc:IsTup S6.heap c #[.int j u,.bool q]:=by
  obtain⟨o,a1,a2⟩:=hc
  exact⟨o,by rw[<-hS6];exact keep6 c o hcL a1,a2⟩
 dsimp only
 have hn2:¬vs.toArray.size < 2:=by rw[qk];lia
 rw[if_neg hn2,if_neg hn2]
 have kt:W.KatTups S6.heap vs [.int i t,.int j u]:=by
  obtain⟨ob,b1,b2,n1,b3⟩:=tb
  obtain⟨oc,c1,c2,n2,c3⟩:=tc
  rw[<-hvs]
  exact .cons b1 b2 b3 rfl (.cons c1 c2 c3 rfl .nil)
 refine wpAny_bind (W.kat_kind (T:=.type "int") kt (qw (qz 0)) (fun v hv=>?_) (by decide) ?_)
 ·rcases qt hv with rfl | hv
  ·exact .of_pure rfl
  ·rcases qt hv with rfl | hv
   ·exact .of_pure rfl
   ·cases hv
 have hcmp:wpAny (model prog w) A (keyLt' (tuples' true) (vs.getD 1 Value.none) (vs.getD 0 Value.none)) (fun k s'=>k=plt j q i p/\s'=S6) (fun _ _=>False) S6:=by
  rw[<-hvs]
  exact Yw4 tb tc ⟨rfl,rfl⟩
 refine wpAny_bind (wpAny_mono (W.kat_run (ks:=vs) (vs:=vs) (κ:=tuples' true) (G:=fun pm s'=>s'=S6/\pm=if plt j q i p=true then #[1,0]else #[0,1])
  (Q:=fun st' s'=>s'=S6/\failedOf st'=none/\(arrOf st').map (·.2)=if plt j q i p=true then #[.ref c,.ref b]else #[.ref b,.ref c]) rfl (by lia) (by lia) (fun pm st' s' a1 a2 a3 a4=>?_) ?_) ?_ fun _ _ e=>e)
 ·obtain⟨rfl,rfl⟩:=a4
  refine⟨rfl,a3,?_⟩
  rw[W.kat_snds rfl a2,<-hvs]
  cases plt j q i p<;>rfl
 ·rw[hlen]
  refine Ymm ?_
  refine wpAny_mono hcmp (fun k s' hk=>?_) fun _ _ x=>x
  obtain⟨rfl,rfl⟩:=hk
  cases plt j q i p
  ·exact⟨rfl,rfl⟩
  ·exact⟨rfl,rfl⟩
 rintro⟨⟨⟩,st'⟩ s' ⟨rfl,hf,hout⟩
 dsimp only
 refine wpAny_bind (seqEpoch_at ho7 rfl ?_)
 refine wpAny_bind (listUpdate_at ho7 rfl ?_ (Qh _) (by rw[hout,sizeLine_eq];cases plt j q i p<;>exact(by decide:2<=16777216+1)))
 rw[hf]
 simp only[bne_self_eq_false,Qm,if_false]
 refine wpAny_pure ?_
 rw[hout]
 have hfin:=get?_update_seq ho7 (fun _=>if plt j q i p=true then #[Value.ref c,Value.ref b]else #[Value.ref b,Value.ref c])
 subst hS6
 exact hQ _ _ (fun b o hb q=>by rw[Heap.get?_update_ne _ _ _ _ hb];exact keep6 b o hb q) hfin
def srtA:List Addr->List (Int × Bool)->List Addr
 | [u1,u2],[p1,p2]=>if plt p2.1 p2.2 p1.1 p1.2=true then [u2,u1]else [u1,u2]
 | us,_=>us
theorem Yx6{p1 p2:Int × Bool}(h:p1≠p2):plt p1.1 p1.2 p2.1 p2.2=!plt p2.1 p2.2 p1.1 p1.2:=by
 obtain⟨i,b⟩:=p1
 obtain⟨j,c⟩:=p2
 unfold plt
 dsimp only
 by_cases e:i=j
 ·subst e
  have hbc:b≠c:=fun z=>h (by rw[z])
  rw[if_pos rfl,if_pos rfl]
  cases b<;>cases c<;>first | rfl | exact absurd rfl hbc
 ·rw[if_neg e,if_neg (fun z=>e z.symm)]
  by_cases h1:i < j
  ·have h2:¬j < i:=by lia
   simp[h1,h2]
  ·have h2:j < i:=by lia
   simp[h1,h2]
theorem PairV.tup{h:Heap}{u:Addr}{p:Int × Bool}(x:PairV h u p):∃tk,IsTup h u #[.int p.1 tk,.bool p.2]:=by
 obtain⟨o,tk,n,h1,h2,h3⟩:=x
 exact⟨tk,o,h1,h2,n,h3⟩
theorem Ynr{L:Addr}{acc:List Value}{us:List Addr}{ps:List (Int × Bool)}{Q:Fin->Shared->Prop}(hoS:s.heap.get? L=some (seqObj "list" acc.toArray 0))(hpm:acc.Perm (us.map Value.ref))(h2:us.length<=2)(hps:ps.length=us.length)
 (hp:∀(i:Nat) u p,us[i]?=some u->ps[i]?=some p->PairV s.heap u p) (hne:∀p q,ps=[p,q]->p≠q) (hL:∀u∈us,u≠L)
 (hQ:∀h' e,(∀b o,b≠L->s.heap.get? b=some o->h'.get? b=some o)->h'.get? L=some (seqObj "list" ((srtA us ps).map Value.ref).toArray e)->Q (.done (.ret .none)) { s with heap:=h' }) :
 wpAny (model prog w) A (Builtin.«list.sort» ⟨[.ref L],[]⟩) Q E s:=by
 rcases us with _ | ⟨u1,_ | ⟨u2,_ | ⟨u3,ur⟩⟩⟩
 ·have e:acc=[]:=List.perm_nil.mp hpm
  subst e
  refine y2x hoS (by simp) fun h' e k1 k2=>hQ h' e k1 ?_
  rw[k2]
  rfl
 ·have e:acc=[.ref u1]:=List.perm_singleton.mp hpm
  subst e
  refine y2x hoS (by simp) fun h' e k1 k2=>hQ h' e k1 ?_
  rw[k2]
  rfl
 ·rcases ps with _ | ⟨p1,_ | ⟨p2,_ | ⟨p3,pr⟩⟩⟩
  ·simp at hps
  ·simp at hps
  ·obtain⟨t1,hb1⟩:=(hp 0 u1 p1 rfl rfl).tup
   obtain⟨t2,hb2⟩:=(hp 1 u2 p2 rfl rfl).tup
   have n1:=hL u1 (by simp)
   have n2:=hL u2 (by simp)
   have hpq:=hne p1 p2 rfl
   have hacc:acc=[.ref u1,.ref u2]\/acc=[.ref u2,.ref u1]:=by
    have hl:acc.length=2:=hpm.length_eq
    obtain⟨x,y,rfl⟩:∃x y,acc=[x,y]:=by
     rcases acc with _ | ⟨x,_ | ⟨y,_ | ⟨z,r⟩⟩⟩
     ·simp at hl
     ·simp at hl
     ·exact⟨x,y,rfl⟩
     ·simp at hl
    have hx:x∈[Value.ref u1,Value.ref u2]:=hpm.mem_iff.mp (by simp)
    simp only[List.mem_cons,List.not_mem_nil,or_false]at hx
    rcases hx with rfl | rfl
    ·left
     have:=hpm.cons_inv
     rw[List.perm_singleton.mp this]
    ·right
     have h3:[Value.ref u2,y].Perm [Value.ref u2,Value.ref u1]:=hpm.trans (.swap _ _ _)
     have:=h3.cons_inv
     rw[List.perm_singleton.mp this]
   rcases hacc with rfl | rfl
   ·refine y2y hoS hb1 hb2 n1 n2 fun h' e k1 k2=>hQ h' e k1 ?_
    rw[k2,srtA]
    cases plt p2.1 p2.2 p1.1 p1.2<;>rfl
   ·refine y2y hoS hb2 hb1 n2 n1 fun h' e k1 k2=>hQ h' e k1 ?_
    rw[k2,srtA,Yx6 hpq]
    cases plt p2.1 p2.2 p1.1 p1.2<;>rfl
  ·simp at hps
 ·simp at h2
theorem Yr7{a:Addr}{vs:List Value}{us:List Addr}{ps:List (Int × Bool)}(hh:A.handled=none)(hS:SetV w s.heap a vs)(hpm:vs.Perm (us.map Value.ref))(h2:us.length<=2)(hps:ps.length=us.length)
 (hp:∀(i:Nat) u p,us[i]?=some u->ps[i]?=some p->PairV s.heap u p) (hne:∀p q,ps=[p,q]->p≠q) {Q:Value->Shared->Prop}
 (hQ:∀(h':Heap) (d':Drawn) (tk e:Nat) (p:Addr),(∀b o,s.heap.get? b=some o->h'.get? b=some o)->s.heap.objs.size<=p->h'.get? p=some (seqObj "list" ((srtA us ps).map Value.ref).toArray e)->Q (.ref p) { s with heap:=h',drawn:=d',toks:=tk }) :
 wpAny (model prog w) A (call (.builtin "sorted") [.ref a]) Q E s:=by
 refine Calls.call_function_entry kind_sorted plain_sorted entry_sorted (args_sorted1 _) ?_
 unfold Builtin.«sorted»
 refine wpAny_bind (m:=checkCount "sorted" 1 1 _) (wpAny_pure ?_)
 refine wpAny_bind (Yp7 (A:=A.in1) hh hS fun h' d' tk acc hle keep hp'=>?_)
 have hpa:=hp'.trans hpm
 have hl:acc.length<=2:=by rw[hpa.length_eq,qf];exact h2
 refine wpAny_bind (wpAny_newList ?_ (by rw[sizeLine_eq];lia))
 have hoL:(h'.push (seqObj "list" acc.toArray 0)).get? h'.objs.size=some (seqObj "list" acc.toArray 0):=qp _ rfl
 show wpAny _ _ _ _ _ { s with heap:=h'.push (seqObj "list" acc.toArray 0),drawn:=d',toks:=tk }
 have hul:∀u∈us,u < s.heap.objs.size:=fun u hm=>by
  obtain⟨i,hi,e⟩:=List.getElem_of_mem hm
  have hi':i < ps.length:=by lia
  obtain⟨o,_,_,ho,_⟩:=hp i u ps[i] (by rw[qq hi,e]) (qq hi')
  exact ql ho
 refine wpAny_bind (wpAny_holding (wpAny_call_entry slot_list_sort ⟨_,hoL,rfl⟩ entry_list_sort (Ynr (us:=us) (ps:=ps) (s:={ s with heap:=h'.push (seqObj "list" acc.toArray 0),drawn:=d',toks:=tk }) hoL hpa h2 hps (fun i u p hi hi'=>(hp i u p hi hi').keep fun o e=>qe _ (keep u o e)) hne (fun u hm=>qm (Qi (hul u hm) hle)) fun h2' e k1 k2=>⟨_,rfl,?_⟩) (args_list_sort _)))
 refine wpAny_pure ⟨_,rfl,hQ h2' d' tk e h'.objs.size (fun b o eb=>?_) hle k2⟩
 have hb:=ql (keep b o eb)
 exact k1 b o (qm hb) (qe _ (keep b o eb))
end
end
section
set_option maxRecDepth 100000
def prsD:List D->Option (List (Int × Bool))
 | []=>some []
 | d::l=>(prI d).bind fun x=>(prsD l).map (x::·)
theorem y8s{K:W.Frag}{G:Hp}{d:D}{p:Int × Bool}{x:V}(h:prI d=some p)(rx:Rp K G d x):∃b,x=.ref b/\G b=some (.tup [.int p.1,.bl p.2]):=by
 rw[Yni h,Rp]at rx
 obtain⟨b,ys,rfl,hb,ry⟩:=rx
 rw[RpL]at ry
 obtain⟨y1,yr,rfl,r1,ry⟩:=ry
 rw[RpL]at ry
 obtain⟨y2,yr,rfl,r2,ry⟩:=ry
 rw[RpL]at ry
 subst ry
 rw[Rp]at r1
 rw[Rp]at r2
 subst r1
 subst r2
 exact⟨b,rfl,hb⟩
theorem Yx7{d:D}{l:List D}{ps:List (Int × Bool)}(e:prsD (d::l)=some ps):∃p ps',ps=p::ps'/\prI d=some p/\prsD l=some ps':=by
 obtain⟨x,h1,h2⟩:=qa e
 obtain⟨y,h3,h4⟩:=qc h2
 exact⟨x,y,h4.symm,h1,h3⟩
end
section
def setW(w:World)(p:Addr)(vs:List Value):HO:=.ext fun h=>SetV w h p vs
theorem y47{P:Program}{w:World}{H:Hp}{h:Heap}{p:Addr}{vs:List Value}(x:SetV w h p vs):ObjOk P w H h p (setW w p vs):=by
 refine⟨x,?_,fun h1 h2 e k=>e.at k⟩
 obtain⟨o,_,_,_,ho,_⟩:=x
 exact⟨o,ho⟩
def PrsA(H:Hp)(bs:List Addr)(qs:List (Int × Bool)):Prop:=qs.length=bs.length/\∀(i:Nat) b q,bs[i]?=some b->qs[i]?=some q->H b=some (.tup [.int q.1,.bl q.2])
def oncP:List (Int × Bool)->List (Int × Bool)
 | [p1,p2]=>if p1=p2 then [p1]else [p1,p2]
 | ps=>ps
theorem PrsA.once{H:Hp}{bs:List Addr}{qs:List (Int × Bool)}(x:PrsA H bs qs)(h2:qs.length<=2):PrsA H (oncE bs qs) (oncP qs)/\(oncE bs qs).length<=2/\∀p q,oncP qs=[p,q]->p≠q:=by
 obtain⟨hl,hx⟩:=x
 rcases qs with _ | ⟨p1,_ | ⟨p2,_ | ⟨p3,pr⟩⟩⟩
 ·rcases bs with _ | ⟨b1,br⟩
  ·exact⟨⟨rfl,fun i b q h=>by simp[oncE]at h⟩,by simp[oncE],fun p q z=>by simp[oncP]at z⟩
  ·simp at hl
 ·rcases bs with _ | ⟨b1,_ | ⟨b2,br⟩⟩
  ·simp at hl
  ·exact⟨⟨rfl,hx⟩,by simp[oncE],fun p q z=>by simp[oncP]at z⟩
  ·simp at hl
 ·rcases bs with _ | ⟨b1,_ | ⟨b2,_ | ⟨b3,br⟩⟩⟩
  ·simp at hl
  ·simp at hl
  ·by_cases e:p1=p2
   ·subst e
    simp only[oncE,oncP,if_true]
    refine⟨⟨rfl,fun i b q hb hq=>?_⟩,by simp,fun p q z=>by simp at z⟩
    cases i with
    | zero=>exact hx 0 b q hb hq
    | succ i=>simp at hb
   ·simp only[oncE,oncP,if_neg e]
    refine⟨⟨rfl,hx⟩,by simp,fun p q z=>?_⟩
    simp at z
    rw[<-z.1,<-z.2]
    exact e
  ·simp at hl
 ·simp at h2
def Yaat(K:W.Frag)(w:World):List V->Hp->VK->Prop:=fun xs H Q=>∃a bs qs,xs=[.ref a]/\SqL K H a (bs.map V.ref)/\PrsA H bs qs/\qs.length<=2/\(∀p q,qs=[p,q]->p=q\/pH p≠pH q)/\
 ∀p vs,H p=none->vs.Perm ((oncE bs qs).map Value.ref)->Q (.ref p) (upd H p (setW w p vs))
def y8t(w:World):List V->Hp->VK->Prop:=fun xs H Q=>∃a vs bs qs,xs=[.ref a]/\H a=some (setW w a vs)/\vs.Perm (bs.map Value.ref)/\PrsA H bs qs/\bs.length<=2/\(∀p q,qs=[p,q]->p≠q)/\
 ∀p,H p=none->Q (.ref p) (upd H p (.lst ((srtA bs qs).map V.ref)))
section
variable {X:Cx}
theorem Yx8{pins:List (Addr × Obj)}{s:Shared}{σ:L2.St}{H:Hp}(I:Inv X pins σ H s){bs:List Addr}{qs:List (Int × Bool)}(x:PrsA H bs qs)(i:Nat)(u:Addr)(p:Int × Bool)(hu:bs[i]?=some u)(hp:qs[i]?=some p):PairV s.heap u p:=by
 obtain⟨its2,rv,⟨o,e,hc,n,hd⟩,_⟩:=I.tuple (xs:=[.int p.1,.bl p.2]) (.of (x.2 i u p hu hp))
 cases rv with
 | cons ra rb=>
   cases rb with
   | cons rc rd=>
     cases rd
     obtain⟨t,rfl⟩:=ra
     cases rc
     exact⟨o,t,n,e,hc,hd⟩
theorem Yp8:∀{bs:List Addr} {its:List Value},Vals (bs.map V.ref) its->its=bs.map Value.ref
 | [],_,r=>by cases r;rfl
 | b::bs,_,r=>by
   cases r with
   | cons r1 r2=>
     cases r1
     rw[Yp8 r2]
     rfl
theorem Yp9:∀bs:List Addr,Vals (bs.map V.ref) (bs.map Value.ref)
 | []=>.nil
 | b::bs=>.cons rfl (Yp9 bs)
theorem Yx9(hc:X.calm=true)(hu:X.A.units+64 < cLine):Ydl X (.type "set") (Yaat X.K X.w):=by
 intro pins s σ H xs us Q I r h
 obtain⟨a,bs,qs,rfl,hq,hpr,h2,hd,q⟩:=h
 obtain⟨u,rfl,rx⟩:=Yg5 r
 cases rx
 have hh:X.A.handled=none:=I.ok.hd hc
 obtain⟨its,rv,pl,hz⟩:=I.list hq
 cases Yp8 rv
 refine Ykt hh (by lia) pl.isList (by rw[<-hpr.1];exact h2) hpr.1 (Yx8 I hpr) hd fun h' tk vs hS hpm hk=>?_
 exact⟨.ref s.heap.objs.size,_,I.laid (t':=tk) hk (qu _) (y47 hS),rfl,q _ vs (I.hok.fresh (qu _)) hpm⟩
theorem Yu5(hc:X.calm=true):Ydl X (.builtin "sorted") (y8t X.w):=by
 intro pins s σ H xs us Q I r h
 obtain⟨a,vs,bs,qs,rfl,ha,hpm,hpr,h2,hne,q⟩:=h
 obtain⟨u,rfl,rx⟩:=Yg5 r
 cases rx
 have hh:X.A.handled=none:=I.ok.hd hc
 have hS:SetV X.w s.heap a vs:=(show ObjOk X.prog X.w H s.heap a (setW X.w a vs) from I.hok a _ ha).1
 refine Yr7 hh hS hpm h2 hpr.1 (Yx8 I hpr) hne fun h' d' tk e p keep hp he=>?_
 refine⟨.ref p,_,Inv.laid (t':=tk) (I.dr d') keep hp (show ObjOk X.prog X.w _ _ _ (.lst ((srtA bs qs).map V.ref)) from⟨?_,_,e,Yp9 _,he⟩),rfl,q _ (I.hok.fresh hp)⟩
 have:(srtA bs qs).length<=2:=by
  unfold srtA
  split
  ·split<;>simp
  ·exact h2
 rw[qf,sizeLine_eq]
 lia
end
def Yns(l:List D):Option (List D):=(prsD l).bind fun ps=>match l,ps with
 | [],[]=>some []
 | [d],[_]=>some [d]
 | [d1,d2],[p1,p2]=>if p1=p2 then some [d1]else if pH p1≠pH p2 then some (if plt p2.1 p2.2 p1.1 p1.2=true then [d2,d1]else [d1,d2])else none
 | _,_=>none
theorem Yya{K:W.Frag}{G H:Hp}(s:Same G H):∀{l:List D} {ps:List (Int × Bool)} {xs:List V},prsD l=some ps->RpL K G l xs->∃bs,xs=bs.map V.ref/\PrsA H bs ps
 | [],ps,xs,e,r=>by
   rw[prsD]at e
   cases e
   rw[RpL]at r
   subst r
   exact⟨[],rfl,rfl,fun i b q h=>by simp at h⟩
 | d::l,ps,xs,e,r=>by
   obtain⟨p,ps',rfl,h0,h1⟩:=Yx7 e
   rw[RpL]at r
   obtain⟨x,xr,rfl,rx,rr⟩:=r
   obtain⟨bs,rfl,hl,hx⟩:=Yya s h1 rr
   obtain⟨b,rfl,hb⟩:=y8s h0 rx
   refine⟨b::bs,rfl,by simp[hl],fun j c q hc hq=>?_⟩
   cases j with
   | zero=>
     simp at hc hq
     subst hc hq
     exact s _ _ hb
   | succ j=>exact hx j c q (by simpa using hc) (by simpa using hq)
theorem y1e{K:W.Frag}{G:Hp}{l l':List D}{bs:List Addr}{ps:List (Int × Bool)}(h:Yns l=some l')(hps:prsD l=some ps)(r:RpL K G l (bs.map V.ref)) :
 ps.length<=2/\(∀p q,ps=[p,q]->p=q\/pH p≠pH q)/\RpL K G l' ((srtA (oncE bs ps) (oncP ps)).map V.ref):=by
 unfold Yns at h
 rw[hps,qd]at h
 split at h
 ·cases h
  rcases bs with _ | ⟨b1,br⟩
  ·exact⟨by simp,fun p q z=>by simp at z,r⟩
  ·have:=r.length
   simp at this
 ·rename_i d p1
  cases h
  rcases bs with _ | ⟨b1,_ | ⟨b2,br⟩⟩
  ·have:=r.length
   simp at this
  ·exact⟨by simp,fun p q z=>by simp at z,r⟩
  ·have:=r.length
   simp at this
 ·rename_i d1 d2 p1 p2
  rcases bs with _ | ⟨b1,_ | ⟨b2,_ | ⟨b3,br⟩⟩⟩
  ·have:=r.length
   simp at this
  ·have:=r.length
   simp at this
  ·have r0:=r
   rw[Qc,Qc,List.map_nil,RpL]at r0
   obtain⟨x1,xr,e1,ra,r0⟩:=r0
   rw[RpL]at r0
   obtain⟨x2,xr2,e2,rb,r0⟩:=r0
   cases e1
   cases e2
   by_cases e:p1=p2
   ·rw[if_pos e]at h
    cases h
    refine⟨by simp,fun p q z=>?_,?_⟩
    ·simp at z
     exact .inl (by rw[<-z.1,<-z.2];exact e)
    ·simp only[oncE,oncP,if_pos e,srtA]
     exact .one ra
   ·rw[if_neg e]at h
    split at h
    case isFalse=>cases h
    rename_i hd
    cases h
    refine⟨by simp,fun p q z=>?_,?_⟩
    ·simp at z
     exact .inr (by rw[<-z.1,<-z.2];exact hd)
    ·simp only[oncE,oncP,if_neg e,srtA]
     split
     ·exact .cons rb (.one ra)
     ·exact .cons ra (.one rb)
  ·have:=r.length
   simp at this
 ·cases h
section
variable {X:Cx} {e:Expr} {f:Ro->Option D} {p p2 pos pos2:Pos}
def lstL:D->Option (List D)
 | .lst l=>some l
 | _=>none
def Yhu(f:Ro->Option D):Ro->Option (List D):=fun ρ=>(b1 f lstL ρ).bind Yns
@[simp] theorem ap_sortsetP{ρ:Ro}:Yhu f ρ=((f ρ).bind lstL).bind Yns:=nr0 rfl
theorem Yr8(hc:X.calm=true)(hu:X.A.units+64 < cLine)(hg:Gl X "sorted")(hm:X.mg "sorted"=none)(hg2:Gl X "set")(hm2:X.mg "set"=none)(ha:MC X e f)(hs:starEach [e] X.env=[(false,eval e X.env)]:=by rfl)
 (he:starEach [.Call (.Name "set" p2) [e] [] pos2] X.env=[(false,eval (.Call (.Name "set" p2) [e] [] pos2) X.env)]:=by rfl)
 (hpl:(backTo pos2 (starEach [] X.env)).any (·.1)=false:=by rfl) (hpl2:(backTo pos (starEach [] X.env)).any (·.1)=false:=by rfl) :
 MF X (.Call (.Name "sorted" p) [.Call (.Name "set" p2) [e] [] pos2] [] pos) (Yhu f):=
 PE.imp (Yj1 (Yu5 hc) hg hm boot_sorted (Yf1 (Yf2 (Yx9 hc hu) hg2 hm2 boot_set (Yho ha Ykh hs) (by decide) (by decide) hs hpl) Yj8 he) (by decide) (by decide) he hpl2) fun σ H Q hx_=>by
  obtain⟨ρ,l,H0,G0,G,e,s,h⟩:=hx_
  unfold Yhu at e
  obtain⟨l0,h1,e⟩:=qa e
  obtain⟨d,h2,h3⟩:=Ycr h1
  refine tCAof.at (show Yg f aNil ρ=some [d] by simp[Yg,aNil,h2]) s fun vs H1 G1 g1 r1 s1=>?_
  obtain⟨v,rfl,rv⟩:=Ydh r1
  unfold lstL at h3
  split at h3
  case h_2=>cases h3
  cases h3
  rw[Ct]at rv
  obtain⟨a,xs,rfl,hq,rl⟩:=rv
  obtain⟨ps,hps⟩:∃ps,prsD l0=some ps:=by
   unfold Yns at e
   obtain⟨ps,h4,_⟩:=qa e
   exact⟨ps,h4⟩
  obtain⟨bs,rfl,hA⟩:=Yya s1.seen hps rl
  obtain⟨k1,k2,k3⟩:=y1e e hps rl
  obtain⟨o1,o2,o3⟩:=hA.once k1
  refine⟨a,bs,ps,rfl,.inl hq,hA,k1,k2,fun m ms hm' hp=>?_⟩
  have g2:=Gr.hid s1.seen hm' (setW X.w m ms)
  have s2:=s1.grow g2
  refine⟨m,ms,oncE bs ps,oncP ps,rfl,Yw,hp,⟨o1.1,fun i b q hb hq'=>?_⟩,o2,o3,fun r hr=>?_⟩
  ·rw[Yab (y0 (o1.2 i b q hb hq') hm')]
   exact o1.2 i b q hb hq'
  ·refine h r _ _ G1 ((g1.trans g2).trans (.hid s2.seen hr _)) ((g1.trans g2).h.free hr) (s2.seen.free hr) Yw k3
end
end
section
set_option maxRecDepth 100000
def advM(mask:Nat)(p:SetTable.Probe):SetTable.Probe:=SetTable.advance { mask:=mask,place:=#[],dummies:=#[],finger:=0,led:=false,moves:=0,plain:=false } p
def itP(mask:Nat):Nat->SetTable.Probe->SetTable.Probe
 | 0,p=>p
 | k+1,p=>itP mask k (advM mask p)
def stP(mask i perturb:Nat):SetTable.Probe:={ j:=i,more:=SetTable.runEnd mask i - i,i,perturb,dummy:=none }
def Way(mask:Nat)(occ:Nat->Prop)(p:SetTable.Probe)(j:Nat):Prop:=∃k,(itP mask k p).j=j/\∀m,m < k->occ (itP mask m p).j
abbrev hSt(mask:Nat)(h:Int):SetTable.Probe:=stP mask (SetTable.bits h % (mask+1)) (SetTable.bits h)
section
variable {t:SetTable} {hA:Nat->Int} {h:Int}
structure Clean(t:SetTable)(n:Nat):Prop where
 hs:t.mask+1∈Yaas
 dm:t.dummies=#[]
 rise:Rise t.place
 le:∀j∈t.place.toList,j<=t.mask
 sz:t.place.size=n
 room:n<=t.mask
end
end
section
set_option maxRecDepth 100000
def bI(b:Bool):Int:=if b then 1 else 0
def bH(bs:List Bool):Int:=y34 (bs.map bI)
def TupB(h:Heap)(u:Addr)(bs:List Bool):Prop:=bs.length<=4/\∃o n,h.get? u=some o/\o.cls=.type "tuple"/\o.data=.seq (bs.map Value.bool).toArray n
structure SetB(w:World)(h:Heap)(S:Addr)(us:List (Addr × List Bool)):Prop where
 ex:∃o es ep t,h.get? S=some o/\o.ExactSet/\o.data=.set es ep t/\es.toList.Perm (us.map fun u=>(bH u.2,Value.ref u.1))/\t.fits es.size=true/\Clean t es.size/\Tab (byT w) t/\es.size * 5 < t.mask * 3/\∀q∈es.toList.zip t.place.toList,Way t.mask (·∈t.place.toList) (hSt t.mask q.1.1) q.2
 keys:(us.map (·.2)).Nodup
 tups:∀u∈us,TupB h u.1 u.2
 few:us.length<=24
end
section
set_option maxRecDepth 100000
section
variable {n:Nat} {key:Nat->Nat} {cmp:Nat->Nat->(Bool->Shared->Prop)->Shared->Prop} {s:Shared}
variable (hinj:∀i j,i < n->j < n->key i=key j->i=j) (hc:∀i j (C:Bool->Shared->Prop),i < n->j < n->C (decide (key i < key j)) s->cmp i j C s)
include hinj hc
omit hinj hc in
omit hinj hc in
omit hinj hc in
end
end
section
section
variable {X:Cx} {e:Expr} {f:Ro->Option D} {p p2 pos pos2:Pos}
def Yyb:D->D->Option D
 | .tup a,.tup b=>if a.length+b.length<=cap6 then some (.tup (a++b))else none
 | _,_=>none
def Yaau(K:W.Frag):R2:=fun x y H Q=>∃a b xs ys,x=.ref a/\y=.ref b/\SqT K H a xs/\SqT K H b ys/\xs.length+ys.length<=sizeLine/\
 (xs=[]->Q (.ref b) H)/\(xs≠[]->ys=[]->Q (.ref a) H)/\(xs≠[]->ys≠[]->∀p,H p=none->Q (.ref p) (upd H p (.tup (xs++ys))))
theorem y48:OpR X (binaryOp .Add) (Yaau X.K):=by
 intro pins s σ H x y v u Q I rx ry h
 obtain⟨a,b,xs,ys,rfl,rfl,ha,hb,hz,q0,q1,q2⟩:=h
 by_cases hx:xs=[]
 ·cases rx
  cases ry
  obtain⟨its,r1,p1,_⟩:=I.tuple ha
  obtain⟨its2,r2,p2,_⟩:=I.tuple hb
  have he:its=[]:=r1.nil_iff.mpr hx
  obtain⟨⟨cls,dd,data,sl⟩,ho,hc,n,hd⟩:=p1
  obtain⟨⟨cls2,dd2,data2,sl2⟩,ho2,hc2,n2,hd2⟩:=p2
  simp only at hc hd hc2 hd2
  subst hc hd hc2 hd2
  exact concat_meets ⟨_,ho,rfl⟩ ⟨_,ho2,rfl⟩ noFill_tuple_add seq_tuple_add PySem.F.slot_tuple_add PySem.F.entry_tuple_add (PySem.F.args_tuple_add_2 _ _)
   (tuple_addW0 a b its.toArray its2.toArray n n2 dd dd2 sl sl2 (by simp[he])) ⟨ho,ho2,⟨.ref b,H,I,rfl,q0 hx⟩⟩
 ·exact y3t pins s σ H _ _ _ _ Q I rx ry ⟨a,b,xs,ys,rfl,rfl,ha,hb,hx,hz,q1 hx,q2 hx⟩
theorem y49{a b:Expr}{fa fb:Ro->Option D}(ha:MC X a fa)(hb:MC X b fb):ME X (.BinOp a .Add b pos) (b2 fa fb Yyb):=PE.imp (y3h y48 ha hb) fun σ H Q hx_=>by
 obtain⟨ρ,l,H0,G0,G,e,s,h⟩:=hx_
 obtain⟨dx,dy,h1,h2,h3⟩:=Yke e
 refine tCof.at h1 s fun v H1 G1 g1 r1 s1=>tCof.at h2 s1 fun u H2 G2 g2 r2 s2=>?_
 unfold Yyb at h3
 split at h3
 ·rename_i l1 l2
  split at h3
  ·rename_i hz
   cases h3
   have r1':=r1.grow g2
   rw[Ct]at r1'
   rw[Ct]at r2
   obtain⟨p,xs,rfl,gp,rl⟩:=r1'
   obtain⟨q,zs,rfl,gq,rm⟩:=r2
   refine⟨p,q,xs,zs,rfl,rfl,.of gp.1,.of gq.1,by rw[rl.length,rm.length];exact Yeo hz,fun hx=>?_,fun _ hy=>?_,fun _ _ m hm=>h _ _ _ ((g1.trans g2).trans (.new s2.seen hm (.tup (xs++zs)))) ?_⟩
   ·subst hx
    have:l1=[]:=List.eq_nil_of_length_eq_zero (by rw[<-rl.length];rfl)
    subst this
    refine h _ _ G2 (g1.trans g2) ?_
    rw[Qk,Rp]
    exact⟨q,zs,rfl,gq.2,rm⟩
   ·subst hy
    have:l2=[]:=List.eq_nil_of_length_eq_zero (by rw[<-rm.length];rfl)
    subst this
    refine h _ _ G2 (g1.trans g2) ?_
    rw[List.append_nil,Rp]
    exact⟨p,xs,rfl,gp.2,rl⟩
   ·rw[Rp]
    exact⟨m,_,rfl,Yw,(rl.append rm).mono (Gr.new s2.seen hm _).g⟩
  ·cases h3
 ·cases h3
end
end
section
set_option maxRecDepth 100000
end
section
structure ZE(X:Cx)(e:Expr)(f:Ro->Option D):Prop where
 un:ME X e f
structure ZC(X:Cx)(e:Expr)(f:Ro->Option D):Prop where
 un:MC X e f
structure ZCA(X:Cx)(es:List Expr)(f:Ro->Option (List D)):Prop where
 un:MCA X es f
structure ZF(X:Cx)(e:Expr)(f:Ro->Option (List D)):Prop where
 un:MF X e f
structure ZT(X:Cx)(e:Expr)(f:Ro->Option Bool):Prop where
 un:MT X e f
structure ZW(X:Cx)(e:Expr)(f:Ro->Option Bool):Prop where
 un:MW X e f
structure ZA(X:Cx)(es:List Expr)(f:Ro->Option (List D)):Prop where
 un:MA X es f
structure ZI(X:Cx)(tg iter:Expr)(f:Ro->Option (List D)):Prop where
 un:MI X tg iter f
structure ZS(X:Cx)(st:Stmt)(f:Ro->Option Out):Prop where
 un:MS X st f
structure ZB(X:Cx)(sts:List Stmt)(f:Ro->Option Out):Prop where
 un:MB X sts f
structure ZG(X:Cx)(tg:Expr)(gt:D->Ro->Option Ro):Prop where
 un:MG X tg gt
structure ZIfs(X:Cx)(K:W.Frag)(ifs:List Expr)(f:Ro->Option Bool):Prop where
 un:PIfs X ifs (tTof K f)
structure ZO(X:Cx)(e:Option Expr)(f:Option (Ro->Option D)):Prop where
 un:PO X e (tO X.K f)
structure ZP(X:Cx)(pos:Pos)(keys:List (Option Expr))(values:List Expr)(ks:List Str)(fs:List (Ro->Option D)):Prop where
 un:MP X pos keys values ks fs
section
variable {K:W.Frag} {X:Cx} {H0 G0 H G:Hp} {σ:L2.St} {ρ:Ro} {a b c e:Expr} {es:List Expr} {fa fb fc f:Ro->Option D} {ga:Ro->Option (List D)} {pos:Pos}
theorem Yc{e:Expr}{f:Ro->Option D}(h:ZE X e f):ZC X e f:=⟨ME.mc h.un⟩
theorem Ye(i:Nat){x:Str}(hN:X.N[i]?=some x:=by rfl)(hv:Vis X.env.scope x:=by first | exact Or.inl rfl | exact Or.inr (Or.inl rfl) | exact Or.inr (Or.inr rfl))(hd:(x==("__debug__":Str))=false:=by decide)(hcd:(x==("__classdict__":Str))=false:=by decide):ZE X (.Name x pos) (getV i):=⟨y67 i hN hv hd hcd⟩
theorem Yd(i:Nat){x:Str}(hN:X.N[i]?=some x:=by rfl)(hv:Vis X.env.scope x:=by first | exact Or.inl rfl | exact Or.inr (Or.inl rfl) | exact Or.inr (Or.inr rfl))(hd:(x==("__debug__":Str))=false:=by decide)(hcd:(x==("__classdict__":Str))=false:=by decide):ZC X (.Name x pos) (getC i):=⟨y68 i hN hv hd hcd⟩
theorem Yh{i:Int}{j}:ZE X (.Constant (.int i) j pos) (kD (.int i)):=⟨y2f ⟩
theorem Yby{k:Bool}{j}:ZE X (.Constant (.bool k) j pos) (kD (.bl k)):=⟨y96 ⟩
theorem Ybx{j}:ZE X (.Constant .none j pos) (kD .non):=⟨y69 ⟩
theorem Yt{x:Str}{j}(hx:PyData.strOk x=true:=by decide +kernel):ZE X (.Constant (.str x) j pos) (kD (.str x)):=⟨y7a hx⟩
theorem Yiu(ha:ZC X a fa)(hb:ZC X b fb):ZE X (.BinOp a .Sub b pos) (b2 fa fb subI):=⟨y7b ha.un hb.un⟩
theorem y5a(ha:ZC X a fa)(hb:ZC X b fb):ZE X (.BinOp a .Mult b pos) (b2 fa fb mulI):=⟨y7c ha.un hb.un⟩
theorem Yf9(ha:ZC X a fa)(hb:ZC X b fb):ZE X (.BinOp a .FloorDiv b pos) (b2 fa fb divI):=⟨y7d ha.un hb.un⟩
theorem Ya4(ha:ZC X a fa)(hb:ZC X b fb):ZE X (.BinOp a .Mod b pos) (b2 fa fb modI):=⟨y7e ha.un hb.un⟩
theorem y2z(ha:ZC X a fa)(hb:ZC X b fb):ZE X (.Compare a [.Lt] [b] pos) (mB (b2 fa fb ltI)):=⟨y97 ha.un hb.un⟩
theorem y8u(ha:ZC X a fa)(hb:ZC X b fb):ZE X (.Compare a [.Gt] [b] pos) (mB (b2 fa fb gtI)):=⟨y98 ha.un hb.un⟩
theorem Yyc(ha:ZC X a fa)(hb:ZC X b fb):ZT X (.Compare a [.Lt] [b] pos) (b2 fa fb ltI):=⟨y99 ha.un hb.un⟩
theorem y8v(ha:ZC X a fa)(hb:ZC X b fb):ZT X (.Compare a [.Gt] [b] pos) (b2 fa fb gtI):=⟨Yaaa ha.un hb.un⟩
theorem Ycf(hu:X.A.units+64 < cLine)(ha:ZC X a fa)(hb:ZC X b fb):ZE X (.Compare a [.Eq] [b] pos) (mB (b2 fa fb (eqM false))):=⟨Yaab hu ha.un hb.un⟩
theorem y20(hu:X.A.units+64 < cLine)(ha:ZC X a fa)(hb:ZC X b fb):ZE X (.Compare a [.NotEq] [b] pos) (mB (b2 fa fb (eqM true))):=⟨Yaac hu ha.un hb.un⟩
theorem Yaw(hu:X.A.units+64 < cLine)(ha:ZC X a fa)(hb:ZC X b fb):ZT X (.Compare a [.Eq] [b] pos) (b2 fa fb (eqM false)):=⟨Yaad hu ha.un hb.un⟩
theorem Ymo(hu:X.A.units+64 < cLine)(ha:ZC X a fa)(hb:ZC X b fb):ZT X (.Compare a [.NotEq] [b] pos) (b2 fa fb (eqM true)):=⟨Yaae hu ha.un hb.un⟩
theorem Ymp(hu:X.A.units+64 < cLine)(ha:ZC X a fa)(hb:ZC X b fb)(hm:behindInMarks .In b=false:=by with_unfolding_all rfl):ZE X (.Compare a [.In] [b] pos) (mB (b2 fa fb (inM false))):=⟨Yaaf hu ha.un hb.un hm⟩
theorem y21(hu:X.A.units+64 < cLine)(ha:ZC X a fa)(hb:ZC X b fb)(hm:behindInMarks .In b=false:=by with_unfolding_all rfl):ZT X (.Compare a [.In] [b] pos) (b2 fa fb (inM false)):=⟨Yaag hu ha.un hb.un hm⟩
theorem Yyd(hu:X.A.units+64 < cLine)(ha:ZC X a fa)(hb:ZC X b fb)(hm:behindInMarks .NotIn b=false:=by with_unfolding_all rfl):ZT X (.Compare a [.NotIn] [b] pos) (b2 fa fb (inM true)):=⟨y7f hu ha.un hb.un hm⟩
end
section
variable {K:W.Frag} {X:Cx} {a b c e tg elt iter ie ke:Expr} {es rest ifs:List Expr} {fa fb f fe fk:Ro->Option D} {fc fd:Ro->Option Bool} {ga gl:Ro->Option (List D)} {pos p pos' p2 pos2 px:Pos} {x:Str} {id T:String} {r:List V->Hp->VK->Prop} {g:List D->Option D} {gf:List D->Option (List D)} {st:Stmt} {sts:List Stmt} {fs gs:Ro->Option Out} {scope:Scope} {N:List Str} {src:List (Option Nat)} {gt:D->Ro->Option Ro} {P:Program} {w:World} {mg:Str->Option Value} {base:Heap} {ta:TA}
theorem Ybf(ha:ZC X a fa)(he:∀whole,isTrue a X.env whole=(do let v <-whole;standAt a.pos;holding [v] (truthy v)):=by intro _;rfl):ZT X a (b1 fa truD):=⟨y7g ha.un he⟩
theorem Yed(ha:ZT X a fc):ZW X (.BoolOp .And [a] pos) fc:=⟨y38 ha.un⟩
theorem Yhb(ha:ZT X a fc):ZW X (.BoolOp .Or [a] pos) fc:=⟨y7h ha.un⟩
theorem Yga(ha:ZT X a fc)(hb:ZW X (.BoolOp .And (b::rest) pos) fd):ZW X (.BoolOp .And (a::b::rest) pos) (andT fc fd):=⟨y7j ha.un hb.un⟩
theorem Yhv(ha:ZT X a fc)(hb:ZW X (.BoolOp .Or (b::rest) pos) fd):ZW X (.BoolOp .Or (a::b::rest) pos) (orT fc fd):=⟨Yaah ha.un hb.un⟩
theorem Yep(ha:ZT X a fc):ZT X (.UnaryOp .Not a pos) (notT fc):=⟨y7k ha.un⟩
theorem Ydo(ha:ZE X a fa):ZE X (.BoolOp .And [a] pos) fa:=⟨y4a ha.un⟩
theorem Ynt(ha:ZE X a fa):ZE X (.BoolOp .Or [a] pos) fa:=⟨y7l ha.un⟩
theorem Yeq(ha:ZE X a fa)(hb:ZE X (.BoolOp .And (b::rest) pos) fb):ZE X (.BoolOp .And (a::b::rest) pos) (andV fa fb):=⟨y7m ha.un hb.un⟩
theorem Yqa(ha:ZE X a fa)(hb:ZE X (.BoolOp .Or (b::rest) pos) fb):ZE X (.BoolOp .Or (a::b::rest) pos) (orV fa fb):=⟨Yaai ha.un hb.un⟩
theorem Yye(ha:ZE X a fa):ZE X (.UnaryOp .Not a pos) (notV fa):=⟨y7n ha.un⟩
theorem Yyf(hc:ZT X c fc)(ha:ZE X a fa)(hb:ZE X b fb):ZE X (.IfExp c a b pos) (ifV fc fa fb):=⟨Yaaj hc.un ha.un hb.un⟩
theorem Yyg(ha:ZC X a fa)(hb:ZC X b fb):ZE X (.Compare a [.Is] [b] pos) (mB (b2 fa fb (isN false))):=⟨y7o ha.un hb.un⟩
theorem y1f(ha:ZC X a fa)(hb:ZC X b fb):ZE X (.Compare a [.IsNot] [b] pos) (mB (b2 fa fb (isN true))):=⟨y4b ha.un hb.un⟩
theorem Yyh(ha:ZC X a fa)(hb:ZC X b fb):ZT X (.Compare a [.Is] [b] pos) (b2 fa fb (isN false)):=⟨y7p ha.un hb.un⟩
theorem Ynu(ha:ZC X a fa)(hb:ZC X b fb):ZT X (.Compare a [.IsNot] [b] pos) (b2 fa fb (isN true)):=⟨y4c ha.un hb.un⟩
theorem Yi(ha:ZC X a fa)(hb:ZC X b fb)(hs:Yen b:=by intro _ _;rfl):ZE X (.Subscript a b pos) (b2 fa fb ixD):=⟨Ywr ha.un hb.un hs⟩
theorem Yqb{lo hi:Option Expr}{fl fh:Option (Ro->Option D)}{p2:Pos}(ha:ZC X a fa)(hl:ZO X lo fl)(hh:ZO X hi fh):ZF X (.Subscript a (.Slice lo hi none p2) pos) (slF fa fl fh):=⟨y0l ha.un hl.un hh.un⟩
theorem y22 :ZO X none none:=⟨Yaak ⟩
theorem Ytu(h:ZC X e f):ZO X (some e) (some f):=⟨Yaal h.un⟩
theorem Yai{g:Ro->Option (List D)}(h:ZF X e g):ZE X e (lF g):=⟨MF.me h.un⟩
theorem Yj :ZA X [] aNil:=⟨y2k ⟩
theorem Yb(ha:ZE X e f)(hr:ZA X es ga)(hs:starEach (e::es) X.env=(false,eval e X.env)::starEach es X.env:=by rfl):ZA X (e::es) (Yg f ga):=⟨Yws ha.un hr.un hs⟩
theorem Ys :ZCA X [] aNil:=⟨Ykh ⟩
theorem Yr(ha:ZC X e f)(hr:ZCA X es ga)(hs:starEach (e::es) X.env=(false,eval e X.env)::starEach es X.env:=by rfl):ZCA X (e::es) (Yg f ga):=⟨Yho ha.un hr.un hs⟩
theorem Yac{x1}(h:ZA X es ga):ZE X (.Tuple es x1 pos) (dTup ga):=⟨y7r h.un⟩
theorem Ycw(h:ZA X es ga):ZF X (.List es pos) (dLst ga):=⟨y2l h.un⟩
theorem y9(hc:Ydl X (.builtin id) r)(hr:SemC X.K r g)(hg:Gl X x)(hm:X.mg x=none)(hv:bootBuiltins x=some (.builtin id))(ha:ZCA X (e::es) ga)(hn:x≠"__name__":=by decide)(hdb:(x==("__debug__":Str))=false:=by decide)(he:starEach (e::es) X.env=(false,eval e X.env)::starEach es X.env:=by rfl)(hpl:(backTo pos (starEach es X.env)).any (·.1)=false:=by rfl):ZE X (.Call (.Name x p) (e::es) [] pos) (cC ga g):=⟨y0m hc hr hg hm hv ha.un hn hdb he hpl⟩
theorem Ygb(hc:Ydl X (.builtin id) r)(hr:SemF X.K r gf)(hg:Gl X x)(hm:X.mg x=none)(hv:bootBuiltins x=some (.builtin id))(ha:ZCA X (e::es) ga)(hn:x≠"__name__":=by decide)(hdb:(x==("__debug__":Str))=false:=by decide)(he:starEach (e::es) X.env=(false,eval e X.env)::starEach es X.env:=by rfl)(hpl:(backTo pos (starEach es X.env)).any (·.1)=false:=by rfl):ZF X (.Call (.Name x p) (e::es) [] pos) (cF ga gf):=⟨y0n hc hr hg hm hv ha.un hn hdb he hpl⟩
theorem Ya6(hc:Ydl X (.type T) r)(hr:SemC X.K r g)(hg:Gl X x)(hm:X.mg x=none)(hv:bootBuiltins x=some (.type T))(ha:ZCA X (e::es) ga)(hn:x≠"__name__":=by decide)(hdb:(x==("__debug__":Str))=false:=by decide)(he:starEach (e::es) X.env=(false,eval e X.env)::starEach es X.env:=by rfl)(hpl:(backTo pos (starEach es X.env)).any (·.1)=false:=by rfl):ZE X (.Call (.Name x p) (e::es) [] pos) (cC ga g):=⟨Ywu hc hr hg hm hv ha.un hn hdb he hpl⟩
theorem Ye9(hc:Ydl X (.type T) r)(hr:SemF X.K r gf)(hg:Gl X x)(hm:X.mg x=none)(hv:bootBuiltins x=some (.type T))(ha:ZCA X (e::es) ga)(hn:x≠"__name__":=by decide)(hdb:(x==("__debug__":Str))=false:=by decide)(he:starEach (e::es) X.env=(false,eval e X.env)::starEach es X.env:=by rfl)(hpl:(backTo pos (starEach es X.env)).any (·.1)=false:=by rfl):ZF X (.Call (.Name x p) (e::es) [] pos) (cF ga gf):=⟨Ywv hc hr hg hm hv ha.un hn hdb he hpl⟩
theorem Yu :ZB X [] sNil:=⟨y7s ⟩
theorem Yl(h1:ZS X st fs)(h2:ZB X sts gs):ZB X (st::sts) (sSeq fs gs):=⟨y4f h1.un h2.un⟩
theorem Ym(h1:ZS X st fs):ZB X [st] fs:=⟨y7t h1.un⟩
theorem Yer(is:List Nat)(h:ZS X st fs):ZS X st (wF is fs):=⟨y7u is h.un⟩
theorem Yad(i:Nat){x:Str}(hN:X.N.Nodup)(he:ZE X e f)(hi:X.N[i]?=some x:=by rfl)(hx:Loc X.env.scope x:=by first | exact Or.inl rfl | exact Or.inr rfl)(hs:swapsWith e (some (.Name x pos')) pos.line X.env=pure false:=by rfl)(hf:X.fn x=true\/X.env.scope.names.lookup x=some .local:=by first | exact .inl rfl | exact .inr rfl):ZS X (.Assign [.Name x pos'] e pos) (sSet i f):=⟨y2o i hN he.un hi hx hs hf⟩
theorem Ygc(i:Nat){x:Str}(hN:X.N.Nodup)(he:ZF X e gl)(hi:X.N[i]?=some x:=by rfl)(hx:Loc X.env.scope x:=by first | exact Or.inl rfl | exact Or.inr rfl)(hs:swapsWith e (some (.Name x pos')) pos.line X.env=pure false:=by rfl)(hf:X.fn x=true\/X.env.scope.names.lookup x=some .local:=by first | exact .inl rfl | exact .inr rfl):ZS X (.Assign [.Name x pos'] e pos) (sOwn i gl):=⟨y7x i hN he.un hi hx hs hf⟩
theorem Yo(he:ZE X e f):ZS X (.Return (some e) pos) (sRet f):=⟨y7y he.un⟩
theorem Yaa{c:Expr}{a b:List Stmt}{fc:Ro->Option Bool}(hc:ZT X c fc)(ha:ZB X a fs)(hb:ZB X b gs):ZS X (.If c a b pos) (sIf fc fs gs):=⟨Yaam hc.un ha.un hb.un⟩
theorem y5b(i:Nat){x:Str}(hN:X.N.Nodup)(he:ZC X e f)(hi:X.N[i]?=some x:=by rfl)(hx:Loc X.env.scope x:=by first | exact Or.inl rfl | exact Or.inr rfl)(hf:X.fn x=true\/X.env.scope.names.lookup x=some .local:=by first | exact .inl rfl | exact .inr rfl):ZS X (.AugAssign (.Name x pos') .Add e pos) (sInc i f):=⟨y7z i hN he.un hi hx hf⟩
theorem Ygo(i:Nat){x:Str}{p2 apos cpos:Pos}(he:ZE X e f)(hN:X.N[i]?=some x:=by rfl)(hv:Vis X.env.scope x:=by first | exact Or.inl rfl | exact Or.inr (Or.inl rfl) | exact Or.inr (Or.inr rfl))(hd:(x==("__debug__":Str))=false:=by decide)(hcd:(x==("__classdict__":Str))=false:=by decide)(hse:swapsWith (.Call (.Attribute (.Name x p2) "append" apos) [e] [] cpos) none pos.line X.env=pure false:=by rfl)(hs:starEach [e] X.env=[(false,eval e X.env)]:=by rfl)(hfew:((backTo cpos (starEach [e] X.env)).all (fun x=>!x.1)&&(backToKw cpos (keywordEach [] X.env)).all (fun x=>x.1.isSome)&&decide ([e].length+([]:List Keyword).length+(if ([]:List Keyword).isEmpty then 0 else 1) < 30))=true:=by rfl)(hline:(apos.endLine==cpos.line)=true:=by rfl)(hbase:attributeBase (.Name x p2) "append" X.env (eval (.Name x p2) X.env)=eval (.Name x p2) X.env:=by rfl):ZS X (.Expr (.Call (.Attribute (.Name x p2) "append" apos) [e] [] cpos) pos) (sMut i f appD):=⟨Yww i he.un hN hv hd hcd hse hs hfew hline hbase⟩
theorem Yag{l:Expr}(hl:ZE X l f):ZI X tg l (b1 f Yn):=⟨y71 hl.un⟩
theorem Ygp{a:Expr}{ga:Ro->Option (List D)}{p:Pos}(hg:Gl X "range")(hm:X.mg "range"=none)(ha:ZA X [a] ga)(hs:starEach [a] X.env=[(false,eval a X.env)]:=by rfl):ZI X tg (.Call (.Name "range" p) [a] [] pos) (cF ga rng1):=⟨Yw0 hg hm ha.un hs⟩
theorem Ymq{a b:Expr}{ga:Ro->Option (List D)}{p:Pos}(hg:Gl X "range")(hm:X.mg "range"=none)(ha:ZA X [a,b] ga)(hs:starEach [a,b] X.env=[(false,eval a X.env),(false,eval b X.env)]:=by rfl)(hs2:starEach [b] X.env=[(false,eval b X.env)]:=by rfl):ZI X tg (.Call (.Name "range" p) [a,b] [] pos) (cF ga rng2):=⟨Yw1 hg hm ha.un hs hs2⟩
theorem Yv(i:Nat){x:Str}(hN:X.N.Nodup)(hi:X.N[i]?=some x:=by rfl)(hx:Loc X.env.scope x:=by first | exact Or.inl rfl | exact Or.inr rfl)(hf:X.fn x=true\/X.env.scope.names.lookup x=some .local:=by first | exact .inl rfl | exact .inr rfl):ZG X (.Name x pos) (gSet i):=⟨y4g i hN hi hx hf⟩
theorem Ycx{iter:Expr}{body:List Stmt}{gt:D->Ro->Option Ro}(hp:PassesOwn (model X.prog X.w) X.A X.env X.xe)(hc:X.calm=true)(hi:ZI X tg iter gl)(hg:ZG X tg gt)(hb:ZB X body fs)(hs:∀x,foldedSetIterable iter X.env x=pure x:=by intro _;rfl):ZS X (.For tg iter body [] pos) (sFor gl gt fs):=⟨y72 hp hc hi.un hg.un hb.un hs⟩
theorem Yqc{c:Expr}{body:List Stmt}{fc:Ro->Option Bool}(n:Nat)(hp:PassesOwn (model X.prog X.w) X.A X.env X.xe)(hc:ZT X c fc)(hb:ZB X body fs):ZS X (.While c body [] pos) (Ydk fc fs n):=⟨y0p n hp hc.un hb.un⟩
theorem Ya5 :ZIfs X X.K [] tY:=⟨y73 ⟩
theorem Yat(S:CompSc X.N X.env.scope N src scope)(hc:X.calm=true)(hit:ZI X tg iter gl)(hg:∀cl C fp s H,ZG (Ya3 X scope N cl C fp s H) tg gt)(hi:∀cl C fp s H,ZIfs (Ya3 X scope N cl C fp s H) X.K ifs fc)(he:∀cl C fp s H,ZE (Ya3 X scope N cl C fp s H) elt fe)(hle:∀ρ d ρ1,gt d (capR src ρ)=some ρ1->Le (capR src ρ) ρ1)(hs:∀x,foldedSetIterable iter X.env x=pure x:=by intro _;rfl):ZF X (.ListComp elt [⟨tg,iter,ifs,0⟩] scope pos) (Ybq gl src gt fc fe):=⟨y4i S hc hit.un (fun cl C fp s H=>(hg cl C fp s H).un) (fun cl C fp s H=>(hi cl C fp s H).un) (fun cl C fp s H=>(he cl C fp s H).un) hle hs⟩
theorem Yhw(i:Nat){y:Str}{py spos:Pos}(hN:X.N.Nodup)(S:CompSc X.N X.env.scope N src scope)(hc:X.calm=true)(hit:ZI X tg iter gl)(hg:∀cl C fp s H,ZG (Ya3 X scope N cl C fp s H) tg gt)(hi:∀cl C fp s H,ZIfs (Ya3 X scope N cl C fp s H) X.K ifs fc)(he:∀cl C fp s H,ZE (Ya3 X scope N cl C fp s H) elt fe)(hle:∀ρ d ρ1,gt d (capR src ρ)=some ρ1->Le (capR src ρ) ρ1)(hsw:swapsWith (.ListComp elt [⟨tg,iter,ifs,0⟩] scope pos) (some (.Name y py)) spos.line X.env=pure true:=by rfl)(hy:X.N[i]?=some y:=by rfl)(hx:Loc X.env.scope y:=by first | exact Or.inl rfl | exact Or.inr rfl)(hf:X.fn y=true\/X.env.scope.names.lookup y=some .local:=by first | exact .inl rfl | exact .inr rfl)(hs:∀x,foldedSetIterable iter X.env x=pure x:=by intro _;rfl):ZS X (.Assign [.Name y py] (.ListComp elt [⟨tg,iter,ifs,0⟩] scope pos) spos) (sOwn i (Ybq gl src gt fc fe)):=⟨y4j i hN S hc hit.un (fun cl C fp s H=>(hg cl C fp s H).un) (fun cl C fp s H=>(hi cl C fp s H).un) (fun cl C fp s H=>(he cl C fp s H).un) hle hsw hy hx hf hs⟩
theorem Ymr{x qual:Str}{st:Stmt}{f:Addr}{fd:FuncData}{N ps:List Str}{k n m:Nat}{fb:Ro->Option Out}(F:Fun K x qual st f fd)(S:FnScope N ps (defScope st))(hn:N.length=n)(hm:ps.length=m)(hb:∀(cdv:Value) (A:Around) (outer:List Env) (s:Shared) (H:Hp) (E:XK),Room k (A.deeper (envOfC qual (defScope st) s.heap.objs.size f cdv))->ZB (cxOf CX0 P w K mg base N qual (defScope st) f cdv A outer s H E).nox (defBody st) fb):FnOk P w K mg base CX0 (k+1) f fd ps (spOf K m (runB m n fb)):=Yw3 F S hn hm (fun cdv A outer s H E hr=>(hb cdv A outer s H E hr).un)
theorem Yk{j k n:Nat}{x:Str}{p:Pos}{ps:List Str}{fn:List D->Option D}(c:Okf X.prog X.w X.K X.mg X.base j n x ps fn)(hr:Room k X.A)(hg:Gl X x)(ha:ZA X (e::es) ga)(hl:∀ρ l,ga ρ=some l->l.length=n)(hj:j<=k:=by first | exact qu _ | lia)(hdb:(x==("__debug__":Str))=false:=by decide)(he:starEach (e::es) X.env=(false,eval e X.env)::starEach es X.env:=by rfl)(hpl:(backTo pos (starEach es X.env)).any (·.1)=false:=by rfl):ZE X (.Call (.Name x p) (e::es) [] pos) (cC ga fn):=⟨y0q c hr hg ha.un hl hj hdb he hpl⟩
theorem Yhc(ha:ZC X a fa)(hb:ZC X b fb):ZE X (.BinOp a .Add b pos) (b2 fa fb addI):=⟨y75 ha.un hb.un⟩
theorem Yhd(ha:ZC X a fa):ZE X (.UnaryOp .USub a pos) (b1 fa negI):=⟨y76 ha.un⟩
theorem Yyi(ha:ZC X a fa)(hb:ZC X b fb):ZF X (.BinOp a .Add b pos) (b2 fa fb catD):=⟨y77 ha.un hb.un⟩
theorem Yhe{T:String}{tn:Str}{p p2:Pos}(ha:ZC X a fa)(hg:Gl X "isinstance")(hg2:Gl X tn)(hm:X.mg "isinstance"=none)(hm2:X.mg tn=none)(hv2:bootBuiltins tn=some (.type T))(hk:Kit T)(hv:bootBuiltins "isinstance"=some (.builtin "isinstance"):=by decide +kernel)(hn2:tn≠"__name__":=by decide)(hd2:(tn==("__debug__":Str))=false:=by decide)(hs:starEach [a,.Name tn p2] X.env=(false,eval a X.env)::starEach [.Name tn p2] X.env:=by rfl)(hs2:starEach [.Name tn p2] X.env=(false,eval (.Name tn p2) X.env)::starEach [] X.env:=by rfl)(hpl:(backTo pos (starEach [.Name tn p2] X.env)).any (·.1)=false:=by rfl):ZE X (.Call (.Name "isinstance" p) [a,.Name tn p2] [] pos) (mB (b1 fa (isiD T))):=⟨y78 ha.un hg hg2 hm hm2 hv2 hk hv hn2 hd2 hs hs2 hpl⟩
theorem Yu6(hc:X.calm=true)(hg:Gl X "tuple")(hm:X.mg "tuple"=none)(hg2:Gl X "reversed")(hm2:X.mg "reversed"=none)(ha:ZC X e f)(hs:starEach [e] X.env=[(false,eval e X.env)]:=by rfl)(he:starEach [.Call (.Name "reversed" p2) [e] [] pos2] X.env=[(false,eval (.Call (.Name "reversed" p2) [e] [] pos2) X.env)]:=by rfl):ZE X (.Call (.Name "tuple" p) [.Call (.Name "reversed" p2) [e] [] pos2] [] pos) (fun ρ=>(revF f ρ).map D.tup):=⟨Yxe hc hg hm hg2 hm2 ha.un hs he⟩
theorem Yu7(i:Nat){x:Str}{p2 apos cpos:Pos}(he:ZE X e f)(hN:X.N[i]?=some x:=by rfl)(hv:Vis X.env.scope x:=by first | exact Or.inl rfl | exact Or.inr (Or.inl rfl) | exact Or.inr (Or.inr rfl))(hd:(x==("__debug__":Str))=false:=by decide)(hcd:(x==("__classdict__":Str))=false:=by decide)(hse:swapsWith (.Call (.Attribute (.Name x p2) "extend" apos) [e] [] cpos) none pos.line X.env=pure false:=by rfl)(hs:starEach [e] X.env=[(false,eval e X.env)]:=by rfl)(hfew:((backTo cpos (starEach [e] X.env)).all (fun x=>!x.1)&&(backToKw cpos (keywordEach [] X.env)).all (fun x=>x.1.isSome)&&decide ([e].length+([]:List Keyword).length+(if ([]:List Keyword).isEmpty then 0 else 1) < 30))=true:=by rfl)(hline:(apos.endLine==cpos.line)=true:=by rfl)(hbase:attributeBase (.Name x p2) "extend" X.env (eval (.Name x p2) X.env)=eval (.Name x p2) X.env:=by rfl):ZS X (.Expr (.Call (.Attribute (.Name x p2) "extend" apos) [e] [] cpos) pos) (sMut i f extD):=⟨Yxf i he.un hN hv hd hcd hse hs hfew hline hbase⟩
theorem Yyj{kvs:List (Str × Str)}(g:GD X.K X.w X.mg x kvs)(hg:Gl X x)(hk:ZC X ke fk)(hs:NoSl ke:=by intro _ _;rfl)(hd:(x==("__debug__":Str))=false:=by decide):ZE X (.Subscript (.Name x px) ke pos) (b1 fk (Yxi kvs)):=⟨y0w g hg hk.un hs hd⟩
theorem Yb0(hu:X.A.units+64 < cLine)(ha:ZC X a fa)(hb:ZC X b fb)(hs:Yen b:=by intro _ _;rfl):ZE X (.Subscript a b pos) (b2 fa fb getT):=⟨y4r hu ha.un hb.un hs⟩
theorem Yyk(hu:X.A.units+64 < cLine)(ha:ZC X a fa)(hb:ZC X b fb)(hm:behindInMarks .In b=false:=by with_unfolding_all rfl):ZE X (.Compare a [.In] [b] pos) (mB (b2 fa fb (hasT false))):=⟨y8h hu ha.un hb.un hm⟩
theorem Yyl(hu:X.A.units+64 < cLine)(ha:ZC X a fa)(hb:ZC X b fb)(hm:behindInMarks .In b=false:=by with_unfolding_all rfl):ZT X (.Compare a [.In] [b] pos) (b2 fa fb (hasT false)):=⟨y8i hu ha.un hb.un hm⟩
theorem y1g(hu:X.A.units+64 < cLine)(ha:ZC X a fa)(hb:ZC X b fb)(hm:behindInMarks .NotIn b=false:=by with_unfolding_all rfl):ZT X (.Compare a [.NotIn] [b] pos) (b2 fa fb (hasT true)):=⟨y4s hu ha.un hb.un hm⟩
theorem y1h(hu:X.A.units+64 < cLine)(i:Nat){x:Str}{ie:Expr}{p2 p3:Pos}(hb:ZC X ie fb)(he:ZE X e f)(hN:X.N[i]?=some x:=by rfl)(hv:Vis X.env.scope x:=by first | exact Or.inl rfl | exact Or.inr (Or.inl rfl) | exact Or.inr (Or.inr rfl))(hd:(x==("__debug__":Str))=false:=by decide)(hcd:(x==("__classdict__":Str))=false:=by decide)(ha:∀v,assign (.Subscript (.Name x p2) ie p3) X.env v=(do
 let ov <-holding [v] (eval (.Name x p2) X.env)
 let iv <-holding [v,ov] (eval ie X.env)
 standAt p3
 holding [v,ov,iv] (setItem ov iv v)
 release [v,ov,iv] []):=by intro _;rfl) (hs:swapsWithSole [.Subscript (.Name x p2) ie p3] e pos.line X.env=pure false:=by rfl) (hw:swappedStores [.Subscript (.Name x p2) ie p3] e X.env=pure none:=by rfl) (h1:(assignEach [.Subscript (.Name x p2) ie p3] X.env).map (·.2)=[assign (.Subscript (.Name x p2) ie p3) X.env]:=by rfl):ZS X (.Assign [.Subscript (.Name x p2) ie p3] e pos) (sPut i fb f):=⟨y4t hu i hb.un he.un hN hv hd hcd ha hs hw h1⟩
theorem y1i(hu:X.A.units+64 < cLine)(i:Nat){x:Str}{ke ve:Expr}{fk fv:Ro->Option D}{pos' dpos:Pos}(hN:X.N.Nodup)(hk:ZE X ke fk)(hv:ZE X ve fv)(hi:X.N[i]?=some x:=by rfl)(hx:Loc X.env.scope x:=by first | exact Or.inl rfl | exact Or.inr rfl)(hs:swapsWith (.Dict [some ke] [ve] dpos) (some (.Name x pos')) pos.line X.env=pure false:=by rfl)(hf:X.fn x=true\/X.env.scope.names.lookup x=some .local:=by first | exact .inl rfl | exact .inr rfl):ZS X (.Assign [.Name x pos'] (.Dict [some ke] [ve] dpos) pos) (Yxl i fk fv):=⟨y4u hu i hN hk.un hv.un hi hx hs hf⟩
theorem y1j{X:Cx}{es:List Expr}{pos:Pos}(ns:List Int)(h:Yr1 es=some ns:=by decide +kernel):ZF X (.List es pos) (Ykp ns):=⟨Yxo ns h⟩
theorem y1k(X:Cx)(pos' pos p1 p2:Pos)(x:Str)(i:Nat)(es:List Expr)(b:Expr)(fb:Ro->Option D)(ns:List Int)(hN:X.N.Nodup)(h:Yr1 es=some ns)(hi:X.N[i]?=some x)(hx:Loc X.env.scope x)(hf:X.fn x=true\/X.env.scope.names.lookup x=some .local)(hs:Yen b)(hb:ZC X b fb):ZS X (.Assign [.Name x pos'] (.Subscript (.List es p1) b p2) pos) (sSet i (b2 (lF (Ykp ns)) fb ixD)):=⟨y4v X pos' pos p1 p2 x i es b fb ns hN h hi hx hf hs hb.un⟩
end
section
variable {X:Cx} {a b c e f':Expr} {fa fb fc f fz:Ro->Option D} {pos:Pos} {st:Stmt} {K:W.Frag}
theorem Yhx :ZS X st nS:=⟨y02 ⟩
theorem Ytv(hu:X.A.units+64 < cLine)(ha:ZC X a fa)(hb:ZC X b fb)(hs:Yen b:=by intro _ _;rfl):ZE X (.Subscript a b pos) (b2 fa fb getI):=⟨y4y hu ha.un hb.un hs⟩
theorem y1l(hu:X.A.units+64 < cLine)(ha:ZC X a fa)(hb:ZC X b fb)(hm:behindInMarks .NotIn b=false:=by with_unfolding_all rfl):ZT X (.Compare a [.NotIn] [b] pos) (b2 fa fb (hasI true)):=⟨y4z hu ha.un hb.un hm⟩
theorem y1m(i:Nat){x:Str}{pos' dpos:Pos}(hN:X.N.Nodup)(hi:X.N[i]?=some x:=by rfl)(hx:Loc X.env.scope x:=by first | exact Or.inl rfl | exact Or.inr rfl)(hs:swapsWith (.Dict [] [] dpos) (some (.Name x pos')) pos.line X.env=pure false:=by rfl)(hf:X.fn x=true\/X.env.scope.names.lookup x=some .local:=by first | exact .inl rfl | exact .inr rfl):ZS X (.Assign [.Name x pos'] (.Dict [] [] dpos) pos) (y04 i):=⟨y40 i hN hi hx hs hf⟩
theorem Yym(ha:ZC X a fa)(hb:ZC X b fb):ZE X (.BinOp a .RShift b pos) (b2 fa fb shrI):=⟨y8n ha.un hb.un⟩
theorem y5c(ha:ZC X a fa)(hb:ZC X b fb):ZE X (.Compare a [.Is] [b] pos) (mB (b2 fa fb (isB false))):=⟨y8p ha.un hb.un⟩
theorem y1n(hu:X.A.units+64 < cLine)(ha:ZC X a fa)(hb:ZC X b fb)(hm:behindInMarks .NotIn b=false:=by with_unfolding_all rfl):ZT X (.Compare a [.NotIn] [b] pos) (b2 fa fb (hasN true)):=⟨y46 hu ha.un hb.un hm⟩
theorem Yyn{lo hi:Option Expr}{fl fh:Option (Ro->Option D)}{p2:Pos}(ha:ZC X a fa)(hl:ZO X lo fl)(hh:ZO X hi fh):ZE X (.Subscript a (.Slice lo hi none p2) pos) (slD fa fl fh):=⟨y1b ha.un hl.un hh.un⟩
end
theorem Yhy{X:Cx}{c:Expr}{f:Ro->Option Bool}(h:ZT X c f):ZIfs X X.K [c] f:=⟨y3y h.un⟩
theorem Yd0{X:Cx}{e:Expr}{f:Ro->Option Bool}(h:ZW X e f):ZT X e f:=⟨PW.pt h.un⟩
end
section
section
variable {X:Cx} {e:Expr} {f:Ro->Option D} {p p2 pos pos2:Pos}
theorem Yqd(hc:X.calm=true)(hu:X.A.units+64 < cLine)(hg:Gl X "sorted")(hm:X.mg "sorted"=none)(hg2:Gl X "set")(hm2:X.mg "set"=none)(ha:ZC X e f)(hs:starEach [e] X.env=[(false,eval e X.env)]:=by rfl)(he:starEach [.Call (.Name "set" p2) [e] [] pos2] X.env=[(false,eval (.Call (.Name "set" p2) [e] [] pos2) X.env)]:=by rfl)(hpl:(backTo pos2 (starEach [] X.env)).any (·.1)=false:=by rfl)(hpl2:(backTo pos (starEach [] X.env)).any (·.1)=false:=by rfl):ZF X (.Call (.Name "sorted" p) [.Call (.Name "set" p2) [e] [] pos2] [] pos) (Yhu f):=⟨Yr8 hc hu hg hm hg2 hm2 ha.un hs he hpl hpl2⟩
theorem y1o{a b:Expr}{fa fb:Ro->Option D}(ha:ZC X a fa)(hb:ZC X b fb):ZE X (.BinOp a .Add b pos) (b2 fa fb Yyb):=⟨y49 ha.un hb.un⟩
end
end
section
variable {K:W.Frag}
def Yaav(K:W.Frag)(j:Nat)(x:Option (Option V))(H0 G0:Hp)(F:Ends):Out->Prop
 | .nx ρ'=>∀σ' H' G',SR K H0 G0 σ' H' G' ρ'->σ'[j]?=x->F.nx σ' H'
 | .rt _=>False
 | .bk ρ'=>∀σ' H' G',SR K H0 G0 σ' H' G' ρ'->σ'[j]?=x->F.bk σ' H'
 | .ct ρ'=>∀σ' H' G',SR K H0 G0 σ' H' G' ρ'->σ'[j]?=x->F.ct σ' H'
def sOfK(K:W.Frag)(j:Nat)(f:Ro->Option Out):TS:=fun F σ H=>∃ρ out H0 G0 G,f ρ=some out/\SR K H0 G0 σ H G ρ/\Yaav K j σ[j]? H0 G0 F out
structure KS(j:Nat)(X:Cx)(st:Stmt)(f:Ro->Option Out):Prop where
 un:PS X st (sOfK X.K j f)
structure KB(j:Nat)(X:Cx)(sts:List Stmt)(f:Ro->Option Out):Prop where
 un:PSs X sts (sOfK X.K j f)
def sOfR(K:W.Frag)(j r:Nat)(fb:Ro->Option Out):TS:=fun F σ H=>∃ρ ρ' l d H0 G0 G,fb ρ=some (.nx ρ')/\getO j ρ'=some l/\getV r (frz [r] ρ')=some d/\SR K H0 G0 σ H G ρ/\
 ∀v σ' H' G',SR K H0 G0 σ' H' G' (frz [r] ρ')->σ'[j]?=σ[j]?->Rp K G' d v->F.rt v H'
structure KR(j r:Nat)(X:Cx)(sts:List Stmt)(f:Ro->Option Out):Prop where
 un:PSs X sts (sOfR X.K j r f)
def sOfL(K:W.Frag)(gl:Ro->Option (List D))(fb:Ro->Option Out):TS:=fun F σ H=>∃ρ ρ' l H0 G0 G,fb ρ=some (.nx ρ')/\gl ρ'=some l/\SR K H0 G0 σ H G ρ/\
 ∀p xs H' G',Gr H0 G0 H' G'->H0 p=none->G' p=none->H' p=some (.lst xs)->RpL K G' l xs->F.rt (.ref p) H'
structure KL(gl:Ro->Option (List D))(X:Cx)(sts:List Stmt)(f:Ro->Option Out):Prop where
 un:PSs X sts (sOfL X.K gl f)
theorem len1{us:List Value}(h:us.length=1):∃a0,us=[a0]:=List.length_eq_one_iff.mp h
theorem len2{us:List Value}(h:us.length=2):∃a0 a1,us=[a0,a1]:=by
 cases us with
 | nil=>cases h
 | cons a us=>
   obtain⟨b0,rfl⟩:=len1 (Nat.succ.inj h)
   exact⟨a,b0,rfl⟩
theorem len3{us:List Value}(h:us.length=3):∃a0 a1 a2,us=[a0,a1,a2]:=by
 cases us with
 | nil=>cases h
 | cons a us=>
   obtain⟨b0,b1,rfl⟩:=len2 (Nat.succ.inj h)
   exact⟨a,b0,b1,rfl⟩
theorem len4{us:List Value}(h:us.length=4):∃a0 a1 a2 a3,us=[a0,a1,a2,a3]:=by
 cases us with
 | nil=>cases h
 | cons a us=>
   obtain⟨b0,b1,b2,rfl⟩:=len3 (Nat.succ.inj h)
   exact⟨a,b0,b1,b2,rfl⟩
theorem len5{us:List Value}(h:us.length=5):∃a0 a1 a2 a3 a4,us=[a0,a1,a2,a3,a4]:=by
 cases us with
 | nil=>cases h
 | cons a us=>
   obtain⟨b0,b1,b2,b3,rfl⟩:=len4 (Nat.succ.inj h)
   exact⟨a,b0,b1,b2,b3,rfl⟩
theorem len6{us:List Value}(h:us.length=6):∃a0 a1 a2 a3 a4 a5,us=[a0,a1,a2,a3,a4,a5]:=by
 cases us with
 | nil=>cases h
 | cons a us=>
   obtain⟨b0,b1,b2,b3,b4,rfl⟩:=len5 (Nat.succ.inj h)
   exact⟨a,b0,b1,b2,b3,b4,rfl⟩
theorem len7{us:List Value}(h:us.length=7):∃a0 a1 a2 a3 a4 a5 a6,us=[a0,a1,a2,a3,a4,a5,a6]:=by
 cases us with
 | nil=>cases h
 | cons a us=>
   obtain⟨b0,b1,b2,b3,b4,b5,rfl⟩:=len6 (Nat.succ.inj h)
   exact⟨a,b0,b1,b2,b3,b4,b5,rfl⟩
end
end M
namespace M
open PySem L2
theorem nr{α:Sort _}{a b:α}(h:a=b):a=b:=h
section
variable {ρ:Ro}
@[simp] theorem Yaaw{α:Type}(fa fb:Ro->Option D)(g:D->D->Option α):b2 fa fb g ρ=(fa ρ).bind fun x=>(fb ρ).bind fun y=>g x y:=nr rfl
@[simp] theorem ap_b1{α:Type}(fa:Ro->Option D)(g:D->Option α):b1 fa g ρ=(fa ρ).bind g:=nr rfl
@[simp] theorem ap_kD(d:D):kD d ρ=some d:=nr rfl
@[simp] theorem ap_mB(f:Ro->Option Bool):mB f ρ=(f ρ).map D.bl:=nr rfl
@[simp] theorem ap_andT(f g:Ro->Option Bool):andT f g ρ=(f ρ).bind fun k=>if k=true then g ρ else some false:=nr rfl
@[simp] theorem ap_orT(f g:Ro->Option Bool):orT f g ρ=(f ρ).bind fun k=>if k=true then some true else g ρ:=nr rfl
@[simp] theorem ap_notT(f:Ro->Option Bool):notT f ρ=(f ρ).map (!·):=nr rfl
@[simp] theorem ap_andV(f g:Ro->Option D):andV f g ρ=((f ρ).bind blD).bind fun k=>if k=true then g ρ else some (.bl false):=nr rfl
@[simp] theorem ap_orV(f g:Ro->Option D):orV f g ρ=((f ρ).bind blD).bind fun k=>if k=true then some (.bl true)else g ρ:=nr rfl
@[simp] theorem ap_notV(f:Ro->Option D):notV f ρ=((f ρ).bind blD).map fun k=>.bl (!k):=nr rfl
@[simp] theorem ap_ifV(c:Ro->Option Bool)(f g:Ro->Option D):ifV c f g ρ=(c ρ).bind fun k=>if k=true then f ρ else g ρ:=nr rfl
@[simp] theorem ap_lF(f:Ro->Option (List D)):lF f ρ=(f ρ).map D.lst:=nr rfl
@[simp] theorem ap_aNil:aNil ρ=some []:=nr rfl
@[simp] theorem ap_aCons(f:Ro->Option D)(g:Ro->Option (List D)):Yg f g ρ=(f ρ).bind fun d=>(g ρ).map (d::·):=nr rfl
@[simp] theorem ap_dTup(f:Ro->Option (List D)):dTup f ρ=(f ρ).bind fun l=>if l.length<=cap6 then some (.tup l)else none:=nr rfl
@[simp] theorem ap_dLst(f:Ro->Option (List D)):dLst f ρ=(f ρ).bind fun l=>if l.length<=cap6 then some l else none:=nr rfl
@[simp] theorem ap_cC(f:Ro->Option (List D))(g:List D->Option D):cC f g ρ=(f ρ).bind g:=nr rfl
@[simp] theorem ap_cF(f:Ro->Option (List D))(g:List D->Option (List D)):cF f g ρ=(f ρ).bind g:=nr rfl
@[simp] theorem ap_slF(f:Ro->Option D)(lo hi:Option (Ro->Option D)):slF f lo hi ρ=((f ρ).bind lstD).bind fun l=>(optI lo ρ).bind fun i=>(optI hi ρ).bind fun j=>some (cutD l i j):=nr rfl
@[simp] theorem ap_optN:optI none ρ=some none:=nr rfl
@[simp] theorem ap_optS(f:Ro->Option D):optI (some f) ρ=((f ρ).bind intD).map some:=nr rfl
@[simp] theorem ap_sNil:sNil ρ=some (.nx ρ):=nr rfl
@[simp] theorem ap_sSet(i:Nat)(f:Ro->Option D):sSet i f ρ=(f ρ).map fun d=>.nx (ρ.set i (some (.sh d))):=nr rfl
@[simp] theorem ap_sOwn(i:Nat)(f:Ro->Option (List D)):sOwn i f ρ=(f ρ).map fun l=>.nx (ρ.set i (some (.ow l))):=nr rfl
@[simp] theorem y5d(f:Ro->Option D):sRet f ρ=(f ρ).map .rt:=nr rfl
@[simp] theorem ap_sIf(c:Ro->Option Bool)(f g:Ro->Option Out):sIf c f g ρ=(c ρ).bind fun k=>if k=true then f ρ else g ρ:=nr rfl
@[simp] theorem ap_sMut(i:Nat)(f:Ro->Option D)(g:List D->D->Option (List D)):sMut i f g ρ=(getO i ρ).bind fun l=>(f ρ).bind fun d=>(g l d).map fun l'=>.nx (ρ.set i (some (.ow l'))):=nr rfl
@[simp] theorem ap_sFor(gl:Ro->Option (List D))(gt:D->Ro->Option Ro)(fb:Ro->Option Out):sFor gl gt fb ρ=(gl ρ).bind fun ds=>forM gt fb ds ρ:=nr rfl
@[simp] theorem ap_fComp(gl:Ro->Option (List D))(src:List (Option Nat))(gt:D->Ro->Option Ro)(fc:Ro->Option Bool)(fe:Ro->Option D):Ybq gl src gt fc fe ρ=(gl ρ).bind fun ds=>Yeb gt fc fe (capR src ρ) ds:=nr rfl
@[simp] theorem Yaax(is:List Nat)(f:Ro->Option Out):wF is f ρ=f (frz is ρ):=nr rfl
@[simp] theorem ap_tY:tY ρ=some true:=nr rfl
@[simp] theorem ap_gSet(i:Nat)(d:D):gSet i d ρ=some (ρ.set i (some (.sh d))):=nr rfl
def y5e(g:Ro->Option Out):Out->Option Out
 | .nx ρ'=>g ρ'
 | o=>some o
@[simp] theorem y1p(g:Ro->Option Out)(ρ':Ro):y5e g (.nx ρ')=g ρ':=nr rfl
@[simp] theorem thenS_rt(g:Ro->Option Out)(d:D):y5e g (.rt d)=some (.rt d):=nr rfl
@[simp] theorem Yyo(f g:Ro->Option Out):sSeq f g ρ=(f ρ).bind (y5e g):=nr rfl
def endB:Out->Option D
 | .rt d=>some d
 | .nx _=>some .non
 | _=>none
@[simp] theorem endB_rt(d:D):endB (.rt d)=some d:=nr rfl
theorem Yx{k n:Nat}{fb:Ro->Option Out}{ds:List D}(h:ds.length=k):runB k n fb ds=(fb (Yq n ds)).bind endB:=by
 unfold runB
 rw[if_pos h]
 rfl
@[simp] theorem frz_nil:frz [] ρ=ρ:=nr rfl
@[simp] theorem frz_cons(i:Nat)(is:List Nat):frz (i::is) ρ=frz is (frz1 i ρ):=nr rfl
end
@[simp] theorem i2_int(C:Int->Int->Bool)(g:Int->Int->Int)(i j:Int):i2 C g (.int i) (.int j)=if C i j=true then some (.int (g i j))else none:=nr rfl
@[simp] theorem add_int'(i j:Int):addI (.int i) (.int j)=some (.int (i+j)):=nr rfl
@[simp] theorem sub_int'(i j:Int):subI (.int i) (.int j)=some (.int (i - j)):=nr rfl
theorem y1q{i j:Int}(h:-(2 ^ 64) < i/\i < 2 ^ 64):mulI (.int i) (.int j)=some (.int (i * j)):=by
 simp only[mulI,i2]
 rw[if_pos]
 simp only[Bool.or_eq_true,Qf,decide_eq_true_eq]
 exact .inl h
@[simp] theorem y1r{i j:Int}(h:0 < j)(h':j < 1073741824):divI (.int i) (.int j)=some (.int (i / j)):=by
 simp only[divI,i2]
 rw[if_pos]
 simp only[Qf,decide_eq_true_eq]
 exact⟨h,h'⟩
@[simp] theorem Yhz{i j:Int}(h:0 < j):modI (.int i) (.int j)=some (.int (i % j)):=by
 simp only[modI,i2]
 rw[if_pos]
 simp only[decide_eq_true_eq]
 exact h
@[simp] theorem lt_int'(i j:Int):ltI (.int i) (.int j)=some (decide (i < j)):=nr rfl
@[simp] theorem gt_int'(i j:Int):gtI (.int i) (.int j)=some (decide (j < i)):=nr rfl
@[simp] theorem blD_bl(b:Bool):blD (.bl b)=some b:=nr rfl
@[simp] theorem truD_bl(b:Bool):truD (.bl b)=some b:=nr rfl
@[simp] theorem truD_lst(l:List D):truD (.lst l)=some (!l.isEmpty):=nr rfl
@[simp] theorem itemsOf_tup(l:List D):Yn (.tup l)=some l:=nr rfl
@[simp] theorem itemsOf_lst(l:List D):Yn (.lst l)=some l:=nr rfl
@[simp] theorem itemsOf_scr(ns:List Int):Yn (.scr ns)=some (ns.map D.int):=nr rfl
@[simp] theorem lenC_one(c:D):lenC [c]=(Yn c).map fun l=>.int l.length:=nr rfl
@[simp] theorem tupC_one(c:D):tupC [c]=(Yn c).map D.tup:=nr rfl
@[simp] theorem listF_one(c:D):Yut [c]=Yn c:=nr rfl
@[simp] theorem intC_bl(b:Bool):intC [.bl b]=some (.int (if b then 1 else 0)):=nr rfl
@[simp] theorem y5f(c:D)(i:Int):ixD c (.int i)=(Yn c).bind fun l=>atI l i:=nr rfl
@[simp] theorem lstD_lst(l:List D):lstD (.lst l)=some l:=nr rfl
@[simp] theorem lstD_scr(ns:List Int):lstD (.scr ns)=some (ns.map D.int):=nr rfl
@[simp] theorem intD_int(i:Int):intD (.int i)=some i:=nr rfl
@[simp] theorem negI_int(i:Int):negI (.int i)=some (.int (-i)):=nr rfl
@[simp] theorem Yyp(i j:Int):eqD (.int i) (.int j)=(i==j):=by simp[eqD,toPy,PyData.eqv]
@[simp] theorem Yyq(i j:Bool):eqD (.bl i) (.bl j)=(i==j):=by simp[eqD,toPy,PyData.eqv]
@[simp] theorem Yr9(i j:Str):eqD (.str i) (.str j)=(i==j):=by simp[eqD,toPy,PyData.eqv]
@[simp] theorem Ysa(l m:List D):eqD (.tup l) (.tup m)=eqL l m:=by simp[eqD,eqL,toPy,PyData.eqv]
@[simp] theorem eqD_lst(l m:List D):eqD (.lst l) (.lst m)=eqL l m:=by simp[eqD,eqL,toPy,PyData.eqv]
@[simp] theorem Yyr:eqL [] []=true:=by simp[eqL,Ydf,PyData.eqvAll]
@[simp] theorem Ynv(a b:D)(l m:List D):eqL (a::l) (b::m)=(eqD a b&&eqL l m):=by simp[eqL,eqD,Ydf,PyData.eqvAll]
@[simp] theorem eqL_nc(b:D)(m:List D):eqL [] (b::m)=false:=by simp[eqL,Ydf,PyData.eqvAll]
@[simp] theorem eqL_cn(b:D)(m:List D):eqL (b::m) []=false:=by simp[eqL,Ydf,PyData.eqvAll]
@[simp] theorem dep_int(i:Int):dep (.int i)=0:=by simp[dep]
@[simp] theorem dep_bl(i:Bool):dep (.bl i)=0:=by simp[dep]
@[simp] theorem dep_str(i:Str):dep (.str i)=0:=by simp[dep]
@[simp] theorem dep_non:dep .non=0:=by simp[dep]
@[simp] theorem dep_tup(l:List D):dep (.tup l)=depL l+1:=by simp[dep]
@[simp] theorem dep_lst(l:List D):dep (.lst l)=depL l+1:=by simp[dep]
@[simp] theorem depL_nil:depL []=0:=by simp[depL]
@[simp] theorem Yys(d:D)(l:List D):depL (d::l)=max (dep d) (depL l):=by simp[depL]
theorem Yh0{neg:Bool}{d e:D}(h:dep d<=60)(h':dep e<=60):eqM neg d e=some (if neg then !eqD d e else eqD d e):=by
 unfold eqM
 rw[if_pos ⟨h,h'⟩]
theorem Yyt{neg:Bool}{d c:D}{l:List D}(hc:Yn c=some l)(h:dep d<=60)(h':depL l<=60):inM neg d c=some (if neg then !inD d l else inD d l):=by
 unfold inM
 rw[hc,qd,if_pos ⟨h',h⟩]
theorem Yku{gt:D->Ro->Option Ro}{fc:Ro->Option Bool}{fe:Ro->Option D}{ρ:Ro}{α:Type}(enc:α->D)(p:α->Bool)(f:α->D):∀(l:List α),(∀a∈l,∃ρ1,gt (enc a) ρ=some ρ1/\fc ρ1=some (p a)/\(p a=true->fe ρ1=some (f a)))->
 Yeb gt fc fe ρ (l.map enc)=some ((l.filter p).map f)
 | [],_=>rfl
 | a::l,h=>by
   obtain⟨ρ1,h1,h2,h3⟩:=h a qh
   have ih:=Yku enc p f l fun b hb=>h b (qg _ hb)
   rw[Qc,Yeb,h1,qd,h2,qd]
   cases hp:p a with
   | true=>
     rw[if_pos rfl,h3 hp,qd,ih,List.filter_cons_of_pos hp]
     rfl
   | false=>rw[if_neg qi,ih,List.filter_cons_of_neg (by rw[hp];exact qi)]
@[simp] theorem atI_zero{α:Type}(a:α)(l:List α):atI (a::l) 0=some a:=by
 have:=Yim (xs:=a::l) (j:=0) (v:=a) rfl
 simpa using this
@[simp] theorem atI_one{α:Type}(a b:α)(l:List α):atI (a::b::l) 1=some b:=by
 have:=Yim (xs:=a::b::l) (j:=1) (v:=b) rfl
 simpa using this
theorem y8w{α:Type}{l:List α}{i:Int}{j:Nat}{v:α}(hi:i=(j:Int))(h:l[j]?=some v):atI l i=some v:=by
 subst hi
 exact Yim h
theorem Ygq{gt:D->Ro->Option Ro}{fb:Ro->Option Out}{α:Type}(enc:α->D)(I:List α->Ro->Prop):∀(l pre:List α) (ρ:Ro),I pre ρ->
 (∀q a r ρ,pre++l=q++a::r->I q ρ->∃ρ1 ρ2,gt (enc a) ρ=some ρ1/\fb ρ1=some (.nx ρ2)/\I (q++[a]) ρ2)->∃ρ',M.forM gt fb (l.map enc) ρ=some (.nx ρ')/\I (pre++l) ρ'
 | [],pre,ρ,h0,_=>⟨ρ,rfl,by rw[List.append_nil];exact h0⟩
 | a::l,pre,ρ,h0,hs=>by
   obtain⟨ρ1,ρ2,e1,e2,h2⟩:=hs pre a l ρ rfl h0
   obtain⟨ρ',e3,h3⟩:=Ygq enc I l (pre++[a]) ρ2 h2 fun q b r ρ e hI=>hs q b r ρ (by rw[<-e,List.append_assoc];rfl) hI
   refine⟨ρ',?_,by rw[List.append_assoc]at h3;exact h3⟩
   rw[Qc,M.forM,e1,qd,e2,qd]
   exact e3
theorem Ytw{gt:D->Ro->Option Ro}{fb:Ro->Option Out}{α:Type}(enc:α->D)(p:α->Bool)(d:D)(I:Ro->Prop):∀(l:List α) (ρ:Ro),I ρ->
 (∀a∈l,∀ρ,I ρ->∃ρ1,gt (enc a) ρ=some ρ1/\((p a=true/\∃ρ2,fb ρ1=some (.nx ρ2)/\I ρ2)\/(p a=false/\fb ρ1=some (.rt d))))->
 (l.all p=true/\∃ρ',M.forM gt fb (l.map enc) ρ=some (.nx ρ')/\I ρ')\/(l.all p=false/\M.forM gt fb (l.map enc) ρ=some (.rt d))
 | [],ρ,h0,_=>.inl ⟨rfl,ρ,rfl,h0⟩
 | a::l,ρ,h0,hs=>by
   obtain⟨ρ1,e1,h⟩:=hs a qh ρ h0
   rw[Qc,M.forM,e1,qd,List.all_cons]
   rcases h with⟨hp,ρ2,e2,h2⟩ | ⟨hp,e2⟩
   ·rw[e2,qd,hp,Bool.true_and]
    exact Ytw enc p d I l ρ2 h2 fun b hb=>hs b (qg _ hb)
   ·rw[e2,qd,hp,Bool.false_and]
    exact .inr ⟨rfl,rfl⟩
theorem Yhf(a n:Int):rngD a n=(List.range (n - a).toNat).map fun i=>D.int (a+(i:Nat)):=rfl
theorem Ykv{n:Int}(h:-1000000<=n)(h':n<=1000000):rng1 [.int n]=some (rngD 0 n):=by
 have hcap:(cap6:Int)=1000000:=by decide
 simp only[rng1]
 rw[if_pos]
 simp only[Qf,decide_eq_true_eq]
 lia
theorem Yyu{a n:Int}(h:-1000000<=n)(h':n<=1000000)(h2:-1000000<=a)(h3:a<=1000000):rng2 [.int a,.int n]=some (rngD a n):=by
 have hcap:(cap6:Int)=1000000:=by decide
 simp only[rng2]
 rw[if_pos]
 simp only[Qf,decide_eq_true_eq]
 lia
theorem Ysb{α:Type}{l:List α}{i:Int}(h0:0<=i)(h:i < (l.length:Int)):∃v,v∈l/\atI l i=some v:=by
 have hk:i.toNat < l.length:=by lia
 exact⟨l[i.toNat],List.getElem_mem hk,y8w (j:=i.toNat) (by lia) (qq hk)⟩
theorem Ygr{α:Type}{l:List α}{i:Nat}(h:i < l.length):atI l (i:Int)=some l[i]:=Yim (qq h)
theorem Yd1{α β:Type}(f:α->β)(l:List α)(i:Int):atI (l.map f) i=(atI l i).map f:=by
 unfold atI
 rw[qf]
 cases ixN l.length i with
 | none=>rfl
 | some j=>
   show(l.map f)[j]?=(l[j]?).map f
   rw[Qg]
end M
namespace M
open PySem L2
@[simp] theorem nat_eq_iff(x b:Nat):((x:Int)=(b:Int))↔x=b:=by lia
@[simp] theorem eqM_int(neg:Bool)(i j:Int):eqM neg (.int i) (.int j)=some (if neg then !decide (i=j)else decide (i=j)):=by
 rw[Yh0 (by simp) (by simp),Yyp];rfl
@[simp] theorem eqM_bl(neg:Bool)(i j:Bool):eqM neg (.bl i) (.bl j)=some (if neg then !(i==j)else i==j):=by
 rw[Yh0 (by simp) (by simp),Yyq]
@[simp] theorem isN_non(neg:Bool):isN neg .non .non=some (if neg then false else true):=by cases neg<;>rfl
@[simp] theorem isN_int(neg:Bool)(i:Int):isN neg (.int i) .non=some (if neg then true else false):=by cases neg<;>rfl
@[simp] theorem isN_tup(neg:Bool)(l:List D):isN neg (.tup l) .non=some (if neg then true else false):=by cases neg<;>rfl
@[simp] theorem isN_bl(neg:Bool)(l:Bool):isN neg (.bl l) .non=some (if neg then true else false):=by cases neg<;>rfl
@[simp] theorem Yfi{α:Type}(f:α->Bool):∀l:List α,blsD (l.map fun a=>.bl (f a))=some (l.map f)
 | []=>rfl
 | a::l=>by rw[Qc,blsD,Yfi f l];rfl
@[simp] theorem Ykw{α:Type}(f:α->Int):∀l:List α,Yc9 (l.map fun a=>.int (f a))=some (l.map f)
 | []=>rfl
 | a::l=>by rw[Qc,Yc9,Ykw f l];rfl
@[simp] theorem Ygd(l:List Int):Yc9 (l.map D.int)=some l:=by simpa using Ykw id l
@[simp] theorem anyC_lst(l:List D):anyC [.lst l]=(blsD l).map fun bs=>.bl (bs.any id):=nr rfl
@[simp] theorem allC_lst(l:List D):allC [.lst l]=(blsD l).map fun bs=>.bl (bs.all id):=nr rfl
@[simp] theorem ap_sInc{ρ:Ro}(i:Nat)(f:Ro->Option D):sInc i f ρ=(getV i ρ).bind fun x=>(f ρ).bind fun y=>(i2 (fun _ _=>true) (fun a b=>a+b) x y).map fun z=>.nx (ρ.set i (some (.sh z))):=nr rfl
@[simp] theorem Yyv:cap6=1000000:=nr rfl
@[simp] theorem gV0(d:D)(r:Ro):getV 0 (some (.sh d)::r)=some d:=nr rfl
@[simp] theorem gC0(d:D)(r:Ro):getC 0 (some (.sh d)::r)=some d:=nr rfl
@[simp] theorem gC0o(l:List D)(r:Ro):getC 0 (some (.ow l)::r)=some (.lst l):=nr rfl
@[simp] theorem gO0(l:List D)(r:Ro):getO 0 (some (.ow l)::r)=some l:=nr rfl
@[simp] theorem gVs(n:Nat)(b:Option B)(r:Ro):getV (n+1) (b::r)=getV n r:=by simp[getV]
@[simp] theorem gCs(n:Nat)(b:Option B)(r:Ro):getC (n+1) (b::r)=getC n r:=by simp[getC]
@[simp] theorem gOs(n:Nat)(b:Option B)(r:Ro):getO (n+1) (b::r)=getO n r:=by simp[getO]
@[simp] theorem frz0o(l:List D)(r:Ro):frz1 0 (some (.ow l)::r)=some (.sh (.lst l))::r:=nr rfl
@[simp] theorem frz0s(d:D)(r:Ro):frz1 0 (some (.sh d)::r)=some (.sh d)::r:=nr rfl
@[simp] theorem frz_s(n:Nat)(b:Option B)(r:Ro):frz1 (n+1) (b::r)=b::frz1 n r:=by
 unfold frz1
 rw[List.getElem?_cons_succ]
 cases h:r[n]? with
 | none=>rfl
 | some o=>
   cases o with
   | none=>rfl
   | some b=>cases b<;>rfl
theorem y5g{a b:List D}(h:a.length+b.length<=1000000):catD (.lst a) (.lst b)=some (a++b):=if_pos h
theorem Ysc{l:List D}{d:D}(h:l.length < 1000000):appD l d=some (l++[d]):=if_pos h
theorem Yes{fe:Ro->Option D}{r:Ro}{α:Type}{enc:α->D}(f:α->D){l:List α}(h:∀a∈l,fe (some (.sh (enc a))::r)=some (f a)):Yeb (gSet 0) tY fe (none::r) (l.map enc)=some (l.map f):=by
 have:=Yku (gt:=gSet 0) (fc:=tY) (fe:=fe) (ρ:=none::r) enc (fun _=>true) f l fun a ha=>⟨_,rfl,rfl,fun _=>h a ha⟩
 rw[List.filter_eq_self.mpr (fun _ _=>rfl)]at this
 exact this
theorem Ytx{fc:Ro->Option Bool}{fe:Ro->Option D}{r:Ro}{α:Type}{enc:α->D}(p:α->Bool)(f:α->D){l:List α}(h1:∀a∈l,fc (some (.sh (enc a))::r)=some (p a))(h2:∀a∈l,p a=true->fe (some (.sh (enc a))::r)=some (f a)) :
 Yeb (gSet 0) fc fe (none::r) (l.map enc)=some ((l.filter p).map f):=
 Yku (gt:=gSet 0) enc p f l fun a ha=>⟨_,rfl,h1 a ha,h2 a ha⟩
end M
namespace Bk
open PySem L2 M
abbrev Say:=Nat × Bool
inductive Kd where
 | e | s | i | n
 deriving DecidableEq
inductive Rl where
 | ei (l:List Say)
 | su (b:List Nat) (o:Bool)
 | im (b:List Nat) (h:Option Nat)
 deriving DecidableEq
def kS:Kd->Str
 | .e=>Str.ofString "eithers"
 | .s=>Str.ofString "sums"
 | .i=>Str.ofString "ifs"
 | .n=>Str.ofString "nots"
def kdD(k:Kd):D:=.str (kS k)
abbrev nD(n:Nat):D:=.int n
def sayD(s:Say):D:=.tup [.int s.1,.bl s.2]
def optD:Option Nat->D
 | none=>.non
 | some n=>.int n
def rlD:Rl->D
 | .ei l=>.tup (l.map sayD)
 | .su b o=>.tup [.tup (b.map nD),.bl o]
 | .im b h=>.tup [.tup (b.map nD),optD h]
def Ygx(k:Kd)(R:List Rl):D:=.tup [kdD k,.tup (R.map rlD)]
@[simp] theorem dep_kd(k:Kd):dep (kdD k)=0:=by simp[kdD]
@[simp] theorem dep_say(s:Say):dep (sayD s)=1:=by simp[sayD]
@[simp] theorem dep_opt(h:Option Nat):dep (optD h)=0:=by cases h<;>simp[optD]
theorem y8x:∀{k j:Kd},kS k=kS j->k=j:=by
 intro k j
 cases k<;>cases j<;>first | (intro _;rfl) | (intro h;exact absurd h (by decide +kernel))
@[simp] theorem y8y(k j:Kd):eqD (kdD k) (kdD j)=decide (k=j):=by
 rw[kdD,kdD,Yr9]
 by_cases h:k=j
 ·simp[h]
 ·have h':¬kS k=kS j:=fun e=>h (y8x e)
  simp[h,h']
theorem Yty(neg:Bool)(k j:Kd):eqM neg (kdD k) (kdD j)=some (if neg then !decide (k=j)else decide (k=j)):=by
 rw[Yh0 (by simp) (by simp),y8y]
@[simp] theorem eqM_e(neg:Bool)(k:Kd):eqM neg (kdD k) (.str (Str.ofString "eithers"))=some (if neg then !decide (k=.e)else decide (k=.e)):=Yty neg k .e
@[simp] theorem eqM_s(neg:Bool)(k:Kd):eqM neg (kdD k) (.str (Str.ofString "sums"))=some (if neg then !decide (k=.s)else decide (k=.s)):=Yty neg k .s
@[simp] theorem eqM_i(neg:Bool)(k:Kd):eqM neg (kdD k) (.str (Str.ofString "ifs"))=some (if neg then !decide (k=.i)else decide (k=.i)):=Yty neg k .i
@[simp] theorem eqM_n(neg:Bool)(k:Kd):eqM neg (kdD k) (.str (Str.ofString "nots"))=some (if neg then !decide (k=.n)else decide (k=.n)):=Yty neg k .n
@[simp] theorem y1s(a b:Nat):eqD (nD a) (nD b)=decide (a=b):=by
 rw[nD,nD,Yyp]
 by_cases h:a=b
 ·simp[h]
 ·have:¬(a:Int)=b:=by lia
  simp[h,this]
@[simp] theorem Yyw(s t:Say):eqD (sayD s) (sayD t)=decide (s=t):=by
 obtain⟨a,p⟩:=s
 obtain⟨b,q⟩:=t
 have:=y1s a b
 simp only[nD]at this
 simp only[sayD,Ysa,Ynv,this,Yyq,Yyr,Bool.and_true]
 by_cases h1:a=b<;>by_cases h2:p=q<;>simp[h1,h2]
theorem Ynw{α:Type} [DecidableEq α] {enc:α->D} (he:∀a b,eqD (enc a) (enc b)=decide (a=b)) (s:α):∀l:List α,inD (enc s) (l.map enc)=decide (s∈l)
 | []=>by simp[inD]
 | t::l=>by
   have ih:=Ynw he s l
   unfold inD at ih ⊢
   rw[Qc,List.any_cons,ih,he]
   by_cases h1:t=s
   ·simp[h1]
   ·have h1':¬s=t:=fun e=>h1 e.symm
    simp[h1,h1']
theorem Ynx{n:Nat}:∀{l:List D},(∀d∈l,dep d<=n)->depL l<=n
 | [],_=>by simp
 | d::l,h=>by
   rw[Yys]
   exact Nat.max_le.mpr ⟨h d qh,Ynx fun e he=>h e (qg _ he)⟩
theorem Yyx{α:Type} [DecidableEq α] {enc:α->D} (he:∀a b,eqD (enc a) (enc b)=decide (a=b)):∀l m:List α,eqL (l.map enc) (m.map enc)=decide (l=m)
 | [],[]=>by simp
 | [],b::m=>by simp
 | a::l,[]=>by simp
 | a::l,b::m=>by
   rw[Qc,Qc,Ynv,he,Yyx he l m]
   by_cases h1:a=b<;>by_cases h2:l=m<;>simp[h1,h2]
theorem Yyy{α:Type}{enc:α->D}{n:Nat}(h:∀a,dep (enc a)<=n)(l:List α):depL (l.map enc)<=n:=Ynx fun d hd=>by
 obtain⟨x,_,rfl⟩:=qx hd
 exact h x
theorem y23{c:D}(s:Say)(l:List Say)(neg:Bool)(hc:Yn c=some (l.map sayD)):inM neg (sayD s) c=some (if neg then !decide (s∈l)else decide (s∈l)):=by
 rw[Yyt hc (by simp) (Ynx fun d hd=>by obtain⟨x,_,rfl⟩:=qx hd;simp),Ynw Yyw]
 by_cases hm:s∈l<;>simp[hm]
theorem in_n{c:D}(s:Nat)(l:List Nat)(neg:Bool)(hc:Yn c=some (l.map nD)):inM neg (nD s) c=some (if neg then !decide (s∈l)else decide (s∈l)):=by
 rw[Yyt hc (by simp) (Ynx fun d hd=>by obtain⟨x,_,rfl⟩:=qx hd;simp),Ynw y1s]
@[simp] theorem y5h(s:Say):(Yn (sayD s)).bind (fun l=>atI l 0)=some (.int s.1):=by simp[sayD]
@[simp] theorem ix_say1(s:Say):(Yn (sayD s)).bind (fun l=>atI l 1)=some (.bl s.2):=by simp[sayD]
@[simp] theorem y1t(l:List Say):Yn (rlD (.ei l))=some (l.map sayD):=nr rfl
@[simp] theorem items_su(b:List Nat)(o:Bool):Yn (rlD (.su b o))=some [.tup (b.map nD),.bl o]:=nr rfl
@[simp] theorem items_im(b:List Nat)(h:Option Nat):Yn (rlD (.im b h))=some [.tup (b.map nD),optD h]:=nr rfl
@[simp] theorem items_book(k:Kd)(R:List Rl):Yn (Ygx k R)=some [kdD k,.tup (R.map rlD)]:=nr rfl
def at'(ev:List Bool)(n:Nat):Bool:=ev.getD n false
theorem y1u{ev:List Bool}{n:Nat}(h:n < ev.length):atI (ev.map D.bl) (n:Int)=some (.bl (at' ev n)):=by
 rw[Yd1,Ygr h]
 simp[at',h]
def In(k:Kd)(n:Nat):Rl->Prop
 | .ei l=>k=.e/\∀s∈l,s.1 < n
 | .su b _=>k=.s/\∀x∈b,x < n
 | .im b h=>(k=.i\/k=.n)/\(∀x∈b,x < n)/\∀x,h=some x->x < n
def slt(s t:Say):Prop:=s.1 < t.1\/(s.1=t.1/\s.2=false/\t.2=true)
def Srt:Rl->Prop
 | .ei l=>l.length<=2/\l.Pairwise slt
 | .su b _=>b.Pairwise (· < ·)
 | .im b _=>b.Pairwise (· < ·)
def hd(ev:List Bool)(w:Bool):Option Nat->Bool
 | none=>false
 | some x=>at' ev x==w
def nth(R:List Rl)(i:Nat):Rl:=R.getD i (.ei [])
def so(k:Kd)(ev:List Bool):Rl->Bool
 | .ei l=>l.any fun s=>at' ev s.1==s.2
 | .su b o=>decide ((b.filter (at' ev)).length % 2=1)==o
 | .im b h=>(b.any fun x=>at' ev x != decide (k=.i))||hd ev (decide (k=.i)) h
end Bk
namespace Bk
def brk(k:Kd)(ev:List Bool)(R:List Rl):List Nat:=(List.range R.length).filter fun i=>!so k ev (nth R i)
end Bk
namespace Bk
open PySem L2 M
theorem y5i(l:List Say):D.tup (l.map sayD)=rlD (.ei l):=rfl
def sz:Rl->Nat
 | .ei l=>l.length
 | .su b _=>b.length
 | .im b _=>b.length
theorem Yyz{n:Nat}:∀{l:List Nat} {a:Nat},l.Pairwise (· < ·)->(∀x∈l,a<=x/\x < n)->l.length<=n - a
 | [],_,_,_=>Qh _
 | x::l,a,h,hl=>by
   have hx:=hl x qh
   have hp:=List.pairwise_cons.mp h
   have ih:=Yyz (n:=n) (l:=l) (a:=x+1) hp.2 fun y hy=>⟨hp.1 y hy,(hl y (qg _ hy)).2⟩
   rw[qr]
   lia
theorem y24{n:Nat}{l:List Nat}(h:l.Pairwise (· < ·))(hl:∀x∈l,x < n):l.length<=n:=Yyz (a:=0) h fun x hx=>⟨Qh _,hl x hx⟩
theorem Yaay{k:Kd}{n:Nat}{r:Rl}(hi:In k n r)(hs:Srt r):sz r<=n+2:=by
 cases r with
 | ei l=>exact Qj hs.1 (by lia)
 | su b o=>exact Qj (y24 hs hi.2) (by lia)
 | im b o=>exact Qj (y24 hs hi.2.1) (by lia)
end Bk
namespace Bk
def bcs:Rl->List Nat
 | .ei l=>l.map (·.1)
 | .su b _=>b
 | .im b none=>b
 | .im b (some x)=>b++[x]
end Bk
namespace Bk
open PySem L2 M
def vd:Kd->Rl
 | .e=>.ei []
 | .s=>.su [] true
 | _=>.im [] none
end Bk
namespace M
open PySem PySem.Spec PyProof.Rows L2
section
variable {K:W.Frag}
section
variable {X:Cx} {pos:Pos}
def sAsg(f:Ro->Option D)(gt:D->Ro->Option Ro):Ro->Option Out:=fun ρ=>(f ρ).bind fun d=>(gt d ρ).map Out.nx
theorem y8z{tg e:Expr}{f:Ro->Option D}{gt:D->Ro->Option Ro}(hg:MG X tg gt)(he:ME X e f)(hs:swapsWithSole [tg] e pos.line X.env=pure false:=by rfl)(hw:swappedStores [tg] e X.env=pure none:=by rfl)
 (h1:(assignEach [tg] X.env).map (·.2)=[assign tg X.env]:=by rfl):MS X (.Assign [tg] e pos) (sAsg f gt):=PS.imp (y2a he hg hs hw h1) fun F σ H hx_=>by
 obtain⟨ρ,out,H0,G0,G,e,s,h⟩:=hx_
 obtain⟨d,h1,e⟩:=qa e
 obtain⟨ρ',h2,rfl⟩:=qc e
 exact tOf.at h1 s fun v H1 G1 g1 r1 s1=>⟨d,ρ,ρ',_,_,G1,h2,s1,r1,fun σ' s'=>h _ H1 G1 s'⟩
@[simp] theorem ap_sAsg{ρ:Ro}(f:Ro->Option D)(gt:D->Ro->Option Ro):sAsg f gt ρ=(f ρ).bind fun d=>(gt d ρ).map Out.nx:=nr1 rfl
theorem y5j{tg e:Expr}{f:Ro->Option D}{gt:D->Ro->Option Ro}(hg:ZG X tg gt)(he:ZE X e f)(hs:swapsWithSole [tg] e pos.line X.env=pure false:=by rfl)(hw:swappedStores [tg] e X.env=pure none:=by rfl)
 (h1:(assignEach [tg] X.env).map (·.2)=[assign tg X.env]:=by rfl):ZS X (.Assign [tg] e pos) (sAsg f gt):=⟨y8z hg.un he.un hs hw h1⟩
end
end
section
section
variable {prog:Program} {w:World} {A:Around} {E:Value->Shared->Prop} {X:Cx} {pos:Pos}
theorem Yms{it t:Addr}{items:Array Value}(hne:t≠it):∀(n i:Nat) (s:Shared) (Q:List Value->Shared->Prop),s.heap.IsListIter it t i->s.heap.IsList t items->i+n<=items.size->
 (∀h':Heap,h'.IsListIter it t (i+n)->Heap.SameBut it s.heap h'->Q ((items.toList.drop i).take n) { s with heap:=h' })->wpAny (model prog w) A (draw (.ref it) n) Q E s
 | 0,i,s,Q,hit,_,_,hQ=>by
   show wpAny _ _ (pure []) Q E s
   exact wpAny_pure (by simpa using hQ s.heap hit (Heap.SameBut.refl ..))
 | n+1,i,s,Q,hit,ht,hle,hQ=>by
   have hlt:i < items.size:=by omega
   show wpAny _ _ (pyNext (.ref it) >>= _) Q E s
   refine wpAny_bind (wpAny_pyNext_list_item hit ht (x:=items[i]) (by simp[hlt]) fun h₁ hit₁ hs₁=>?_)
   refine wpAny_bind (wpAny_holding (Yms hne n (i+1) _ _ hit₁ (ht.extBut hs₁.extBut hne) (by omega) fun h₂ hit₂ hs₂=>wpAny_pure ?_))
   have hd:items.toList.drop i=items[i]::items.toList.drop (i+1):=by simp[List.drop_eq_getElem_cons,hlt]
   have:=hQ h₂ (by rw[show i+(n+1)=i+1+n by omega];exact hit₂) (hs₁.trans hs₂)
   rw[hd,List.take_succ_cons]at this
   exact this
theorem Yiv{s:Shared}{t:Addr}{items:Array Value}{Q:List Value->Shared->Prop}(hh:A.handled=none)(ht:s.heap.IsList t items)
 (hQ:∀h',Heap.ExtBut s.heap.objs.size s.heap h'->Q items.toList { s with heap:=h' }):wpAny (model prog w) A (unpackItems (.ref t) items.size none) Q E s:=by
 have hlt:t≠s.heap.objs.size:=by obtain⟨o,ho,_⟩:=ht;exact qm (ql ho)
 unfold unpackItems
 refine wpAny_bind ?_
 ·unfold notIterableAtAll
  refine wpAny_bind (wpAny_specialOf ht.typeIs slot_list_iter.lookup ?_)
  refine wpAny_pure ?_
  simp only[Qm,if_false]
  refine wpAny_bind (wpAny_holding (wpAny_pyIter_list ht ?_))
  refine wpAny_bind (wpAny_holding (Yms hlt items.size 0 _ _ ⟨_,qp _ rfl,rfl,rfl⟩ (ht.push _) (by omega) fun h₁ hit₁ hs₁=>?_))
  have hall:List.take items.size (List.drop 0 items.toList)=items.toList:=by
   rw[List.drop_zero];exact List.take_of_length_le (by simp)
  rw[hall]
  rw[if_neg (by simp)]
  have ht₁:h₁.IsList t items:=(ht.push _).extBut hs₁.extBut hlt
  refine wpAny_bind (wpAny_holding (wpAny_pyNext_list_end hh hit₁ ht₁ (by simp) fun h₂ he₂=>?_))
  simp only[Option.isSome_none,Qm,if_false]
  refine wpAny_pure (hQ h₂ fun b o hb e=>he₂ b o hb (hs₁.extBut b o hb (qe _ e)))
theorem Yh1{s:Shared}{env:Env}{elts:List Expr}{x1}{pos:Pos}{t:Addr}{items:Array Value}{Q:Unit->Shared->Prop}(hh:A.handled=none)(ht:s.heap.IsList t items)
 (hn:(assignEach elts env).length=items.size) (hstar:(assignEach elts env).findIdx? (·.1)=none)
 (h:∀h',Heap.ExtBut s.heap.objs.size s.heap h'->wpAny (model prog w) A (assignInOrder ((assignEach elts env).map (·.2)) items.toList) Q E { s with heap:=h' }) :
 wpAny (model prog w) A (assign (.Tuple elts x1 pos) env (.ref t)) Q E s:=by
 rw[assign_Tuple]
 refine wpAny_bind (wpAny_standAt ?_)
 unfold unpack
 rw[hn,hstar]
 exact wpAny_bind (wpAny_holding (Yiv hh ht h))
def Yaaz(K:W.Frag)(n:Nat)(t:TGs):TG:=fun v σ H Q=>∃a xs,v=.ref a/\SqL K H a xs/\xs.length=n/\t xs σ H Q
theorem y5k{es:List Expr}{k:Nat}{t:TGs}{n:Nat}(hc:X.calm=true)(h:PGs X es t)
 (hn:(assignEach es X.env).length=n:=by rfl) (hst:(assignEach es X.env).findIdx? (·.1)=none:=by rfl):PG X (.Tuple es k pos) (Yaaz X.K n t):=by
 intro pins s σ H v u Q I r hw
 obtain⟨a,xs,e1,hq,hl,hw⟩:=hw
 subst e1
 cases r
 obtain⟨its,rv,⟨o,nn,ho,hcl,_,hd⟩,hz⟩:=I.list hq
 refine Yh1 (I.ok.hd hc) ⟨o,ho,hcl,nn,hd⟩ (by simp[hn,<-hl,rv.length]) hst fun h' hx=>?_
 have I1:Inv X pins σ H { s with heap:=h' }:=I.kept (t':=s.toks) fun b o e=>hx b o (qm (ql e)) e
 exact h pins _ σ H xs _ Q I1 (by simpa using rv) hw
def Ytz(i j k:Nat):D->Ro->Option Ro:=fun d ρ=>match d with
 | .lst [a,b,c]=>some (((ρ.set i (some (.sh a))).set j (some (.sh b))).set k (some (.sh c)))
 | _=>none
theorem y1v(i j k:Nat){x y z:Str}{px py pz:Pos}{n:Nat}(hc:X.calm=true)(hN:X.N.Nodup)(hi:X.N[i]?=some x:=by rfl)(hj:X.N[j]?=some y:=by rfl)(hk:X.N[k]?=some z:=by rfl)(hx:Loc X.env.scope x:=by first | exact Or.inl rfl | exact Or.inr rfl)(hy:Loc X.env.scope y:=by first | exact Or.inl rfl | exact Or.inr rfl)(hz:Loc X.env.scope z:=by first | exact Or.inl rfl | exact Or.inr rfl)
 (hf:X.fn x=true\/X.env.scope.names.lookup x=some .local:=by first | exact .inl rfl | exact .inr rfl) (hf2:X.fn y=true\/X.env.scope.names.lookup y=some .local:=by first | exact .inl rfl | exact .inr rfl) (hf3:X.fn z=true\/X.env.scope.names.lookup z=some .local:=by first | exact .inl rfl | exact .inr rfl):MG X (.Tuple [.Name x px,.Name y py,.Name z pz] n pos) (Ytz i j k):=
 PG.imp (y5k (n:=3) hc (Ym6 (Ym5 hN hi hx hf) (Ym6 (Ym5 hN hj hy hf2) (Ym6 (Ym5 hN hk hz hf3) y3g)))) fun v σ H Q hx_=>by
  obtain⟨d,ρ,ρ',H0,G0,G,e,s,r,h⟩:=hx_
  match d,e,r with
  | .lst [a,b,c],e,r=>
    cases e
    rw[Rp]at r
    obtain⟨p,xs,rfl,g,rl⟩:=r
    rw[RpL]at rl
    obtain⟨u,us,rfl,ru,rl⟩:=rl
    rw[RpL]at rl
    obtain⟨w,ws,rfl,rw',rl⟩:=rl
    obtain⟨t,rfl,rt⟩:=Yki rl
    exact⟨p,[u,w,t],rfl,.inl (Ydg s.seen g),rfl,u,[w,t],rfl,w,[t],rfl,t,[],rfl,rfl,h _ (((s.set_sh i ru).set_sh j rw').set_sh k rt)⟩
@[simp] theorem ap_gTripL{ρ:Ro}(i j k:Nat)(a b c:D):Ytz i j k (.lst [a,b,c]) ρ=some (((ρ.set i (some (.sh a))).set j (some (.sh b))).set k (some (.sh c))):=nr1 rfl
theorem Yy0(i j k:Nat){x y z:Str}{px py pz:Pos}{n:Nat}(hc:X.calm=true)(hN:X.N.Nodup)(hi:X.N[i]?=some x:=by rfl)(hj:X.N[j]?=some y:=by rfl)(hk:X.N[k]?=some z:=by rfl)(hx:Loc X.env.scope x:=by first | exact Or.inl rfl | exact Or.inr rfl)(hy:Loc X.env.scope y:=by first | exact Or.inl rfl | exact Or.inr rfl)(hz:Loc X.env.scope z:=by first | exact Or.inl rfl | exact Or.inr rfl)
 (hf:X.fn x=true\/X.env.scope.names.lookup x=some .local:=by first | exact .inl rfl | exact .inr rfl) (hf2:X.fn y=true\/X.env.scope.names.lookup y=some .local:=by first | exact .inl rfl | exact .inr rfl) (hf3:X.fn z=true\/X.env.scope.names.lookup z=some .local:=by first | exact .inl rfl | exact .inr rfl):ZG X (.Tuple [.Name x px,.Name y py,.Name z pz] n pos) (Ytz i j k):=
 ⟨y1v i j k hc hN hi hj hk hx hy hz hf hf2 hf3⟩
end
end
section
set_option maxRecDepth 100000
section
variable {prog:Program} {w:World} {A:Around} {E:Value->Shared->Prop} {s:Shared}
abbrev KvT:=List Int × Addr × Value
def Yaa0(h:Heap)(u:Value)(p:KvT):Prop:=∃t o n,u=.ref t/\h.get? t=some o/\o.cls=.type "tuple"/\o.data=.seq #[.ref p.2.1,p.2.2] n
def Yt0(h:Heap):List Value->List KvT->Prop
 | [],[]=>True
 | u::us,p::ps=>Yaa0 h u p/\Yt0 h us ps
 | _,_=>False
theorem Yy1{xs:List KvT}{k:List Int}(h:k∉xs.map (·.1)):atKey xs k=none:=by
 refine atKey_none_of_get fun j p e=>h ?_
 exact List.mem_map.mpr ⟨(k,p),List.mem_of_getElem? e,rfl⟩
theorem dulT{h0:Heap}{d it L:Addr}{items:List Value}{R:Result->Shared->Prop}(hu:A.units+8 < cLine)(hh:A.handled=none)(hd0:h0.get? d=none)(hi0:h0.get? it=none)(hdi:d≠it)(hL:h0.IsList L items.toArray) :
 ∀(ps:List KvT) (i:Nat) (c:Int) (kvs:List KvT) (s:Shared),Yt0 h0 (items.drop i) ps->kvs.length+ps.length<=sizeLine->((kvs++ps).map (·.1)).Nodup->(∀h',OldH h0 h'->∀x∈kvs++ps,(tupleKind (Yah prog w)).is h' x.1 x.2.1)->
 s.heap.IsListIter it L i->OldH h0 s.heap->s.heap.DictOfH (tupleKind (Yah prog w)) d kvs->
 (∀h' tk,OldH h0 h'->h'.DictOfH (tupleKind (Yah prog w)) d (kvs++ps)->R (.ok (.ret .none)) { s with heap:=h',toks:=tk })->
 codeAny (model prog w) A (.builtin "dict.update.loop" ⟨[.ref d,.ref it,.int c 0,.none],[]⟩) R s:=by
 intro ps
 induction ps with
 | nil=>
   intro i c kvs s hp hz hnd hks hit ho hd hR
   have hL':s.heap.IsList L items.toArray:=let ⟨o,e,r⟩:=hL;⟨o,ho _ _ e,r⟩
   have hx:items.toArray[i]?=none:=by
    cases hdr:items.drop i with
    | nil=>simpa using hdr
    | cons u us=>rw[hdr]at hp;exact hp.elim
   refine codeAny_builtin Yhs ?_
   rw[Around.under_plainId Ydb _]
   show wpAny _ A.in1 (pyNext (.ref it) >>= _) _ _ s
   refine wpAny_bind (wpAny_pyNext_list_end (A:=A.in1) hh hit hL' hx fun h' hs=>?_)
   show wpAny _ A.in1 (Builtin.Dict.addKeywords d [] >>= _) _ _ _
   have old':OldH h0 h':=fun b ob q=>hs b ob (fun z=>by rw[z,hi0]at q;cases q) (ho b ob q)
   obtain⟨o,es,ep,g1,g2,g3,g4,g5,g6⟩:=hd
   rw[List.append_nil]at hR hks
   refine wpAny_bind (wpAny_pure (wpAny_pure (hR h' s.toks old' ⟨o,es,ep,hs _ _ hdi g1,g2,g3,g4,fun x hx=>hks h' old' x hx,g6⟩)))
 | cons p ps ih=>
   intro i c kvs s hp hz hnd hks hit ho hd hR
   have hL':s.heap.IsList L items.toArray:=let ⟨o,e,r⟩:=hL;⟨o,ho _ _ e,r⟩
   cases hdr:items.drop i with
   | nil=>rw[hdr]at hp;exact hp.elim
   | cons u us=>
     rw[hdr]at hp
     obtain⟨⟨t,ob,n,rfl,ht,hc,hdat⟩,hp⟩:=hp
     have hx:items.toArray[i]?=some (.ref t):=by
      have:=congrArg List.head? hdr
      simpa [List.head?_drop]using this
     have hus:us=items.drop (i+1):=by
      have:=congrArg List.tail hdr
      simpa using this.symm
     refine codeAny_builtin Yhs ?_
     rw[Around.under_plainId Ydb _]
     show wpAny _ A.in1 (pyNext (.ref it) >>= _) _ _ s
     refine wpAny_bind (wpAny_pyNext_list_item hit hL' hx fun h1 hi1 hs1=>?_)
     have ho1:=OldH.but hi0 ho hs1
     obtain⟨o,es,ep,g1,g2,g3,g4,g5,g6⟩:=hd
     have hd1:h1.DictOfH (tupleKind (Yah prog w)) d kvs:=⟨o,es,ep,by rw[hs1.2 d hdi];exact g1,g2,g3,g4,fun x hx=>hks h1 ho1 x (List.mem_append.mpr (.inl hx)),g6⟩
     have ht1:=ho1 _ _ ht
     have hT:(Shared.TypeIs { s with heap:=h1 } (.ref t) "tuple"):=⟨ob,ht1,hc⟩
     show wpAny _ A.in1 (holding [Value.ref t] _ >>= _) _ _ _
     refine wpAny_bind (wpAny_holding (wpAny_bind (wpAny_tryCatch ?_)))
     unfold Builtin.Dict.pairItems
     refine wpAny_bind (wpAny_typeOf hT ?_)
     rw[if_pos (by decide)]
     refine wpAny_bind (wpAny_seqItems ht1 hdat (wpAny_pure ?_))
     show wpAny _ A.in1 (holding [Value.ref p.2.1,p.2.2] (dictSet d (.ref p.2.1) p.2.2)) _ _ _
     have hlen:=qr (a:=p) (as:=ps)
     have hnew:p.1∉kvs.map (·.1):=fun z=>by
      rw[Qn,List.nodup_append]at hnd
      exact hnd.2.2 _ z p.1 (by simp) rfl
     refine wpAny_holding (wpAny_dictSet_heap (s:={ s with heap:=h1 }) (knd:=tupleKind (Yah prog w)) (k:=p.1) (a:=p.2.1) (xs:=kvs) (hsz:=by omega) (by show A.in1.units < cLine;have:A.in1.units=A.units+1:=rfl;omega) (hks h1 ho1 p (by simp)) hd1 fun h2 hd2 hs2=>?_)
     rw[storedH_new (Yy1 hnew)]at hd2
     have e:kvs++p::ps=(kvs++[(p.1,p.2.1,p.2.2)])++ps:=by simp
     refine wpAny_pure ⟨plainId_quiet Ydb _,?_⟩
     refine ih (i+1) (c+1) _ _ (by rw[<-hus];exact hp) (by rw[qy,List.length_singleton];omega) (by rw[<-e];exact hnd) (fun h' o'=>by rw[<-e];exact hks h' o') (IsListIter.but hi1 hs2 (Ne.symm hdi)) (OldH.but hd0 ho1 hs2) hd2 fun h' tk' o' d'=>hR h' tk' o' (by rw[e];exact d')
theorem Yjs{L:Addr}{its:List Value}{ps:List KvT}{Q:Value->Shared->Prop}(hu:A.units+64 < cLine)(hh:A.handled=none)(hL:PlainL s.heap L its.toArray)(hp:Yt0 s.heap its ps)(hz:ps.length<=sizeLine)(hnd:(ps.map (·.1)).Nodup)
 (hks:∀h',OldH s.heap h'->∀x∈ps,(tupleKind (Yah prog w)).is h' x.1 x.2.1)
 (hQ:∀h' tk,OldH s.heap h'->h'.DictOfH (tupleKind (Yah prog w)) s.heap.objs.size ps->Q (.ref s.heap.objs.size) { s with heap:=h',toks:=tk }) :
 wpAny (model prog w) A (call (.type "dict") [.ref L]) Q E s:=by
 generalize hO:({ cls:=.type "dict",data:=.dict #[] }:Obj)=dO
 refine callType_codes (Q₁:=fun obj s₁=>obj=.ref s.heap.objs.size/\s₁={ s with heap:=s.heap.push dO }) F.kt_called_dict (F.kt_typeCall_dict_1 _) F.entry_dict_init (kt_code_dict_new _ ⟨rfl,by rw[hO]⟩) ?_
 rintro obj s₁ ⟨rfl,rfl⟩
 have hnew:(s.heap.push dO).DictOfH (tupleKind (Yah prog w)) s.heap.objs.size []:=by rw[<-hO];exact Heap.DictOfH.new s.heap
 refine⟨hnew.typeIs,F.args_dict_init_2 _ _,?_⟩
 unfold Builtin.«dict.__init__»
 refine wpAny_bind ?_
 unfold Builtin.Dict.selfAndRest
 refine wpAny_bind (wpAny_notOrdered_dict hnew.typeIs ?_)
 show wpAny _ _ (pure (s.heap.objs.size,[Value.ref L])) _ _ _
 refine wpAny_pure ?_
 show wpAny _ _ (Builtin.Dict.updateFrom "dict.__init__" s.heap.objs.size (.ref L) [] .none) _ _ _
 unfold Builtin.Dict.updateFrom
 obtain⟨o,n,e,h1,h2,h3⟩:=hL
 have e':(s.heap.push dO).get? L=some o:=qe _ e
 have hT:Shared.TypeIs { s with heap:=s.heap.push dO } (.ref L) "list":=⟨o,e',h1⟩
 refine wpAny_bind (wpAny_typeOf hT ?_)
 rw[if_pos (by decide)]
 refine wpAny_bind (Yxv (A:=A.in1.in1) (s:={ s with heap:=s.heap.push dO }) e' h1 h2 h3 (by simp[hh]) fun h' tk keep=>?_)
 rw[if_pos (by rfl)]
 refine wpAny_bind (wpAny_rule (wpAny_bind ?_))
 have hL':h'.IsList L its.toArray:=⟨o,keep _ _ e',h1,n,h3⟩
 refine wpAny_pyIter_list (s:={ s with heap:=h',toks:=tk }) hL' ?_
 have old1:OldH s.heap h':=fun b ob q=>keep _ _ (qe _ q)
 obtain⟨od,es,ep,hod,hrest⟩:=id hnew
 have hd':=keep _ _ hod
 have hlt:s.heap.objs.size < h'.objs.size:=ql hd'
 generalize hI:({ cls:=.type "list_iterator",data:=.fields #[.ref L,.int 0 0] }:Obj)=iO
 refine wpAny_pure ⟨plainId_quiet Ydb _,?_⟩
 refine dulT (h0:=s.heap) ?_ (by simp[hh]) (Heap.get?_none_of_le (qu _)) (Heap.get?_none_of_le (Nat.le_of_lt hlt)) (qm hlt) ⟨o,e,h1,n,h3⟩ ps 0 0 [] _ (by simpa using hp) (by simpa using hz) (by simpa using hnd) (by simpa using hks) ?_ (fun b ob q=>qe _ (old1 b ob q)) ?_ fun h2 tk2 o2 d2=>?_
 ·show A.in1.units+8 < cLine
  have:A.in1.units=A.units+1:=rfl
  omega
 ·exact⟨iO,qp _ (by rw[<-hI];rfl),by rw[<-hI],by rw[<-hI];rfl⟩
 ·obtain⟨r1,r2,r3,_,r5⟩:=hrest
  exact⟨od,es,ep,qe _ hd',r1,r2,r3,fun x hx=>(nomatch hx),r5⟩
 ·exact⟨rfl,hQ h2 tk2 o2 d2⟩
end
abbrev QvT:=(List Int × Addr) × V
def Yny(H:Hp):List V->List QvT->Prop
 | [],[]=>True
 | x::xs,q::qs=>(∃b ys,x=.ref b/\H b=some (.tup [.ref q.1.2,q.2])/\H q.1.2=some (.tup ys)/\Yfg ys=some q.1.1)/\Yny H xs qs
 | _,_=>False
theorem Yy2:∀{qs:List QvT} {ps:List KvT},ps.map (fun p=>(p.1,p.2.1))=qs.map (·.1)->zipX (qs.map (·.1)) (ps.map (·.2.2))=ps
 | [],[],_=>rfl
 | q::qs,p::ps,h=>by
   rw[Qc,Qc]at h
   injection h with h1 h2
   have ih:=Yy2 h2
   unfold zipX at ih ⊢
   rw[Qc,Qc,List.zip_cons_cons,Qc,ih,<-h1]
 | [],_::_,h=>by cases h
 | _::_,[],h=>by cases h
section
variable {X:Cx}
theorem Ymt{pins:List (Addr × Obj)}{s:Shared}{σ:L2.St}{H:Hp}(I:Inv X pins σ H s):∀{ys:List V} {its:List Value} {qs:List QvT},Yny H ys qs->Vals ys its->∃ps:List KvT,Yt0 s.heap its ps/\ps.map (fun p=>(p.1,p.2.1))=qs.map (·.1)/\Vals (qs.map (·.2)) (ps.map (·.2.2))/\∀p∈ps,∃zs,H p.2.1=some (.tup zs)/\Yfg zs=some p.1
 | [],its,[],_,r=>by
   cases r
   exact⟨[],trivial,rfl,.nil,fun p hp=>(nomatch hp)⟩
 | y::ys,its,q::qs,h,r=>by
   obtain⟨⟨b,zs,rfl,hb,hk,hn⟩,h⟩:=h
   cases r with
   | cons r1 r2=>
     cases r1
     obtain⟨ps,h1,h2,h3,h4⟩:=Ymt I h r2
     obtain⟨its2,rv,⟨o,e,hc,n,hd⟩,_⟩:=I.tuple (xs:=[.ref q.1.2,q.2]) (.of hb)
     cases rv with
     | cons ra rb=>
       cases rb with
       | cons rc rd=>
         cases rd
         cases ra
         refine⟨(q.1.1,q.1.2,_)::ps,⟨⟨b,o,n,rfl,e,hc,hd⟩,h1⟩,by rw[Qc,Qc,h2],.cons rc h3,fun p hp=>?_⟩
         rcases qt hp with rfl | hp
         ·exact⟨zs,hk,hn⟩
         ·exact h4 p hp
 | [],_,_::_,h,_=>h.elim
 | _::_,_,[],h,_=>h.elim
def y80(K:W.Frag):List V->Hp->VK->Prop:=fun xs H Q=>∃a ys qs,xs=[.ref a]/\SqL K H a ys/\Yny H ys qs/\qs.length < cap6/\(qs.map (·.1.1)).Nodup/\∀p ep,H p=none->Q (.ref p) (upd H p (dTo p (qs.map (·.1)) (qs.map (·.2)) ep))
theorem Yu8(hu:X.A.units+64 < cLine)(hc:X.calm=true):Ydl X (.type "dict") (y80 X.K):=by
 intro pins s σ H xs us Q I r h
 obtain⟨a,ys,qs,rfl,hq,hv,hl,hnd,q⟩:=h
 obtain⟨u,rfl,rx⟩:=Yg5 r
 cases rx
 have hh:X.A.handled=none:=I.ok.hd hc
 obtain⟨its,rv,pl,hz⟩:=I.list hq
 obtain⟨ps,h1,h2,h3,h4⟩:=Ymt I hv rv
 have hcap:cap6=1000000:=rfl
 have hlen:ps.length=qs.length:=by
  have:=congrArg List.length h2
  simpa using this
 have hps:ps.length<=sizeLine:=by rw[hlen,sizeLine_eq];omega
 have hk:ps.map (·.1)=qs.map (·.1.1):=by
  have:=congrArg (List.map Prod.fst) h2
  rw[Qd,Qd]at this
  exact this
 have hd:(s.heap.objs.size==sysModules)=false:=beq_eq_false_iff_ne.mpr (Ne.symm (qm I.big))
 refine Yjs hu hh pl h1 hps (by rw[hk];exact hnd) (fun h' old x hx=>?_) fun h' tk old dd=>?_
 ·obtain⟨zs,e1,e2⟩:=h4 x hx
  exact Yg8 (P:=X.prog) (w:=X.w) (I.kept (t':=s.toks) (h':=h') fun b o e=>old b o e).hok e1 e2
 ·rw[<-Yy2 h2]at dd
  obtain⟨ep,new⟩:=Yp1 hd h3 dd
  exact⟨.ref s.heap.objs.size,_,I.laid (t':=tk) (fun b o e=>old b o e) (qu _) (new _),rfl,q _ ep (I.hok.fresh (qu _))⟩
end
def Yjg:List D->Option (List (D × D))
 | []=>some []
 | .tup [k,v]::l=>(Yjg l).map ((k,v)::·)
 | _=>none
def Ynz:D->Option (List (D × D))
 | .lst l=>Yjg l
 | _=>none
variable {K:W.Frag}
theorem Ymu{G H:Hp}(s:Same G H):∀{l:List D} {ps:List (D × D)} {kn:List (List Int)} {xs:List V},Yjg l=some ps->Ygw (ps.map (·.1))=some kn->RpL K G l xs->
 ∃qs:List QvT,Yny H xs qs/\qs.map (·.1.1)=kn/\RpL K G (ps.map (·.1)) (qs.map fun q=>V.ref q.1.2)/\RpL K G (ps.map (·.2)) (qs.map (·.2))/\qs.length=ps.length/\∀q∈qs,∃ys,G q.1.2=some (.tup ys)/\Yfg ys=some q.1.1
 | [],ps,kn,xs,e,ek,r=>by
   rw[Yjg]at e
   cases e
   rw[List.map_nil,Ygw]at ek
   cases ek
   rw[RpL]at r
   subst r
   exact⟨[],trivial,rfl,.nil,.nil,rfl,fun q hq=>(nomatch hq)⟩
 | d::l,ps,kn,xs,e,ek,r=>by
   unfold Yjg at e
   split at e
   case h_1 he=>cases he
   case h_2 k v l' he=>
    injection he with he1 he2
    subst he1 he2
    obtain⟨ps',h1,rfl⟩:=qc e
    rw[RpL]at r
    obtain⟨x,xr,rfl,rx,rr⟩:=r
    rw[Qc,Ygw]at ek
    obtain⟨n,hn,ek⟩:=qa ek
    obtain⟨kn',ek',rfl⟩:=qc ek
    obtain⟨qs,h2,h3,h4,h5,h6,h7⟩:=Ymu s h1 ek' rr
    rw[Rp]at rx
    obtain⟨b,ys,rfl,hb,ry⟩:=rx
    rw[RpL]at ry
    obtain⟨y1,yr,rfl,r1,ry⟩:=ry
    rw[RpL]at ry
    obtain⟨y2,yr,rfl,r2,ry⟩:=ry
    rw[RpL]at ry
    subst ry
    obtain⟨kb,zs,rfl,k1,k2,k3⟩:=Yp0 (H:=H) hn (Ct.of s r1)
    refine⟨((n,kb),y2)::qs,⟨⟨b,zs,rfl,s _ _ hb,k1,k3⟩,h2⟩,by rw[Qc,h3],.cons r1 h4,.cons r2 h5,by rw[qr,qr,h6],fun q hq=>?_⟩
    rcases qt hq with rfl | hq
    ·exact⟨zs,k2,k3⟩
    ·exact h7 q hq
   case h_3=>cases e
section
variable {X:Cx} {e:Expr} {f:Ro->Option D} {pos:Pos}
def Yu9(i:Nat)(f:Ro->Option D):Ro->Option Out:=fun ρ=>((f ρ).bind Ynz).bind fun ps=>(Ygw (ps.map (·.1))).bind fun kn=>if ps.length < cap6/\kn.Nodup then some (.nx (ρ.set i (some (.od true (ps.map (·.1)) (ps.map (·.2))))))else none
theorem y5l(hu:X.A.units+64 < cLine)(hc:X.calm=true)(i:Nat){x:Str}{pos' p2 cpos:Pos}(hN:X.N.Nodup)(hg:Gl X "dict")(hm:X.mg "dict"=none)(ha:MC X e f)(hi:X.N[i]?=some x:=by rfl)(hx:Loc X.env.scope x:=by first | exact Or.inl rfl | exact Or.inr rfl)
 (hst:starEach [e] X.env=[(false,eval e X.env)]:=by rfl) (hpl:(backTo cpos (starEach [] X.env)).any (·.1)=false:=by rfl)
 (hs:swapsWith (.Call (.Name "dict" p2) [e] [] cpos) (some (.Name x pos')) pos.line X.env=pure false:=by rfl)
 (hf:X.fn x=true\/X.env.scope.names.lookup x=some .local:=by first | exact .inl rfl | exact .inr rfl):MS X (.Assign [.Name x pos'] (.Call (.Name "dict" p2) [e] [] cpos) pos) (Yu9 i f):=
 PS.imp (Ypd hN hi hx (Yf2 (Yu8 hu hc) hg hm (by decide +kernel) (Yho ha Ykh hst) (by decide) (by decide) hst hpl) hs hf) fun F σ H hx_=>by
  obtain⟨ρ,out,H0,G0,G,e,s,h⟩:=hx_
  unfold Yu9 at e
  obtain⟨ps,h1,e⟩:=qa e
  obtain⟨kn,hkn,e⟩:=qa e
  obtain⟨d,h2,h3⟩:=qa h1
  split at e
  case isFalse=>cases e
  rename_i hcap
  cases e
  refine tCAof.at (show Yg f aNil ρ=some [d] by simp[Yg,aNil,h2]) s fun vs H1 G1 g1 r1 s1=>?_
  obtain⟨v,rfl,rv⟩:=Ydh r1
  cases d with
  | lst l=>
    rw[Ct]at rv
    obtain⟨a,xs,rfl,hq,rl⟩:=rv
    obtain⟨qs,k1,k2,k3,k4,k5,k6⟩:=Ymu s1.seen (show Yjg l=some ps from h3) hkn rl
    refine⟨a,xs,qs,rfl,.inl hq,k1,by rw[k5];exact hcap.1,by rw[k2];exact hcap.2,fun p ep hp=>?_⟩
    refine h _ _ G1 (s1.set_od i (.hid s1.seen hp _) hp (s1.seen.free hp) (kxs:=qs.map fun q=>V.ref q.1.2) (vxs:=qs.map (·.2)) (.inr ⟨rfl,qs.map (·.1),ep,Yw,by simp,by rw[Qd];exact(by rw[<-k2]at hcap;exact hcap.2),by rw[Qd];rfl,fun q hq=>?_⟩) k3 k4)
    obtain⟨q',hq',rfl⟩:=qx hq
    exact k6 q' hq'
  | _=>cases h3
@[simp] theorem Yt1{ρ:Ro}(i:Nat):Yu9 i f ρ=((f ρ).bind Ynz).bind fun ps=>(Ygw (ps.map (·.1))).bind fun kn=>if ps.length < cap6/\kn.Nodup then some (.nx (ρ.set i (some (.od true (ps.map (·.1)) (ps.map (·.2))))))else none:=nr1 rfl
theorem y1w(hu:X.A.units+64 < cLine)(hc:X.calm=true)(i:Nat){x:Str}{pos' p2 cpos:Pos}(hN:X.N.Nodup)(hg:Gl X "dict")(hm:X.mg "dict"=none)(ha:ZC X e f)(hi:X.N[i]?=some x:=by rfl)(hx:Loc X.env.scope x:=by first | exact Or.inl rfl | exact Or.inr rfl)
 (hst:starEach [e] X.env=[(false,eval e X.env)]:=by rfl) (hpl:(backTo cpos (starEach [] X.env)).any (·.1)=false:=by rfl)
 (hs:swapsWith (.Call (.Name "dict" p2) [e] [] cpos) (some (.Name x pos')) pos.line X.env=pure false:=by rfl)
 (hf:X.fn x=true\/X.env.scope.names.lookup x=some .local:=by first | exact .inl rfl | exact .inr rfl):ZS X (.Assign [.Name x pos'] (.Call (.Name "dict" p2) [e] [] cpos) pos) (Yu9 i f):=⟨y5l hu hc i hN hg hm ha.un hi hx hst hpl hs hf⟩
end
end
section
set_option maxRecDepth 100000
section
variable {prog:Program} {w:World} {A:Around} {E:Value->Shared->Prop} {s:Shared}
def DRaw(h:Heap)(d:Addr)(es:Array DictEntry)(ep:Nat):Prop:=∃o,h.get? d=some o/\o.ExactDict/\o.data=.dict es ep
theorem DRaw.typeIs{d:Addr}{es:Array DictEntry}{ep:Nat}(hm:DRaw s.heap d es ep):s.TypeIs (.ref d) "dict":=by
 obtain⟨o,ho,hc,_⟩:=hm
 exact⟨o,ho,hc.1⟩
theorem Yqe{d:Addr}{es:Array DictEntry}{ep:Nat}{Q:Value->Shared->Prop}(hd:(d==sysModules)=false)(hm:DRaw s.heap d es ep)
 (hQ:Q (.ref s.heap.objs.size) { s with heap:=s.heap.push { cls:=.type "dict_keyiterator",data:=.fields #[.ref d,.int 0 0,.int es.size 0,.int ep 0] } }):wpAny (model prog w) A (pyIter (.ref d)) Q E s:=by
 have hT:=hm.typeIs
 obtain⟨o,ho,hc,hdat⟩:=hm
 refine wpAny_pyIter_slot hT F.slot_dict_iter (wpAny_call_entry F.slot_dict_iter hT F.entry_dict_iter ?_ (F.args_dict_iter_1 _))
 unfold Builtin.«dict.__iter__»
 refine wpAny_bind ?_
 unfold Builtin.Dict.dictSlotNone
 refine wpAny_bind (wpAny_notOrdered_dict hT ?_)
 show wpAny _ _ (pure (Value.ref d)) _ _ s
 refine wpAny_pure ?_
 show wpAny _ _ (Builtin.Dict.showsAll d >>= _) _ _ s
 unfold Builtin.Dict.showsAll
 rw[if_neg (by rw[hd];exact qi)]
 refine wpAny_bind (wpAny_pure ?_)
 refine wpAny_bind (wpAny_dictEntries ho hdat ?_)
 refine wpAny_bind (wpAny_dictEpoch ho hdat ?_)
 refine wpAny_bind (wpAny_newObj_type (wpAny_pure ⟨_,rfl,"dict_keyiterator",_,⟨_,qp _ rfl,rfl⟩,F.slot_dict_keyiterator_next.lookup,?_⟩))
 simpa [rawInt]using hQ
theorem Yg2{it d:Addr}{i ep:Nat}{es:Array DictEntry}{Q:Option Value->Shared->Prop}(hit:s.heap.IsKeyIter it d i es.size ep)(hm:DRaw s.heap d es ep)(hx:i < es.size)
 (hQ:∀h':Heap,h'.IsKeyIter it d (i+1) es.size ep->Heap.SameBut it s.heap h'->Q (some es[i].key) { s with heap:=h' }):wpAny (model prog w) A (pyNext (.ref it)) Q E s:=by
 obtain⟨o,ho,hc,hd⟩:=id hit
 obtain⟨od,hod,hcd,hdd⟩:=hm
 unfold pyNext
 refine wpAny_bind (wpAny_attempt (wpAny_callSpecial?_slot (name:=Str.ofString "__next__") hit.typeIs F.slot_dict_keyiterator_next
  (wpAny_call_entry F.slot_dict_keyiterator_next hit.typeIs F.entry_dict_keyiterator_next ?_ (F.args_dict_keyiterator_next_1 _))))
 refine wpAny_bind (wpAny_pure ?_)
 refine wpAny_bind ?_
 refine wpAny_bind ?_
 first | refine wpAny_bind (wpAny_typeNameOfWhole_keyiter hit.typeIs (wpAny_pure ?_)) | refine wpAny_bind (wpAny_typeNameOf_keyiter hit.typeIs (wpAny_pure ?_))
 refine wpAny_bind (wpAny_fieldsOf ho hd ?_)
 have hown:Builtin.Dict_items.ownsTuple "dict_keyiterator"=false:=by decide
 simp only[hown,Qm,if_false]
 show wpAny _ _ (if (Value.ref d==Value.none)=true then _ else _) _ _ s
 rw[if_neg (show ¬((Value.ref d==Value.none)=true) from qi)]
 refine wpAny_bind (wpAny_pure ?_)
 refine wpAny_bind (wpAny_dictEntries hod hdd ?_)
 rw[if_neg (by simp)]
 refine wpAny_bind (wpAny_pure ?_)
 refine wpAny_bind (wpAny_dictEpoch hod hdd ?_)
 rw[if_neg (by simp)]
 refine wpAny_pure ?_
 simp only[show ¬((i:Int) < 0) from by omega,if_false,Int.toNat_natCast,Qs hx]
 refine wpAny_bind ?_
 first | refine wpAny_bind (wpAny_typeNameOfWhole_keyiter hit.typeIs (wpAny_pure ?_)) | refine wpAny_bind (wpAny_typeNameOf_keyiter hit.typeIs (wpAny_pure ?_))
 refine wpAny_bind (wpAny_isOneOf_keyiter hit.typeIs ?_)
 show wpAny _ _ (setField (.ref it) 1 (rawInt ((i:Int)+1)) >>= _) _ _ s
 refine wpAny_bind (wpAny_setField ho hd (by simp) ?_)
 have hit':(s.heap.update it (Obj.mapFields (·.setIfInBounds 1 (rawInt ((i:Int)+1))))).IsKeyIter it d (i+1) es.size ep:=
  ⟨_,Heap.get?_update_self _ ho (Obj.isFreed_of_fields (Obj.data_mapFields hd _)),(Obj.cls_mapFields ..).trans hc,by rw[Obj.data_mapFields hd];simp[rawInt]⟩
 refine wpAny_bind (wpAny_holding ?_)
 refine wpAny_bind (wpAny_isOneOf_keyiter (s:={ s with heap:=s.heap.update it (Obj.mapFields (·.setIfInBounds 1 (rawInt ((i:Int)+1)))) }) hit'.typeIs ?_)
 show wpAny _ _ (pure es[i].key) _ _ _
 exact wpAny_pure (wpAny_pure ⟨_,rfl,wpAny_pure (hQ _ hit' (Heap.SameBut.update ..))⟩)
theorem Yh2{it d:Addr}{i ep:Nat}{es:Array DictEntry}{Q:Option Value->Shared->Prop}(hh:A.handled=none)(hit:s.heap.IsKeyIter it d i es.size ep)(hm:DRaw s.heap d es ep)(hge:es.size<=i)
 (hQ:∀h',Heap.ExtBut it s.heap h'->Q none { s with heap:=h' }):wpAny (model prog w) A (pyNext (.ref it)) Q E s:=by
 obtain⟨o,ho,hc,hd⟩:=id hit
 obtain⟨od,hod,hcd,hdd⟩:=hm
 unfold pyNext
 refine wpAny_bind (wpAny_attempt (wpAny_callSpecial?_slot (name:=Str.ofString "__next__") hit.typeIs F.slot_dict_keyiterator_next
  (wpAny_call_entry F.slot_dict_keyiterator_next hit.typeIs F.entry_dict_keyiterator_next ?_ (F.args_dict_keyiterator_next_1 _))))
 refine wpAny_bind (wpAny_pure ?_)
 refine wpAny_bind ?_
 refine wpAny_bind ?_
 first | refine wpAny_bind (wpAny_typeNameOfWhole_keyiter hit.typeIs (wpAny_pure ?_)) | refine wpAny_bind (wpAny_typeNameOf_keyiter hit.typeIs (wpAny_pure ?_))
 refine wpAny_bind (wpAny_fieldsOf ho hd ?_)
 have hown:Builtin.Dict_items.ownsTuple "dict_keyiterator"=false:=by decide
 simp only[hown,Qm,if_false]
 show wpAny _ _ (if (Value.ref d==Value.none)=true then _ else _) _ _ s
 rw[if_neg (show ¬((Value.ref d==Value.none)=true) from qi)]
 refine wpAny_bind (wpAny_pure ?_)
 refine wpAny_bind (wpAny_dictEntries hod hdd ?_)
 rw[if_neg (by simp)]
 refine wpAny_bind (wpAny_pure ?_)
 refine wpAny_bind (wpAny_dictEpoch hod hdd ?_)
 rw[if_neg (by simp)]
 refine wpAny_pure ?_
 simp only[show ¬((i:Int) < 0) from by omega,if_false,Int.toNat_natCast,Array.getElem?_eq_none hge]
 refine wpAny_bind ?_
 first | refine wpAny_bind (wpAny_typeNameOfWhole_keyiter hit.typeIs (wpAny_pure ?_)) | refine wpAny_bind (wpAny_typeNameOf_keyiter hit.typeIs (wpAny_pure ?_))
 show wpAny _ _ (setField (.ref it) 0 .none >>= _) _ _ s
 refine wpAny_bind (wpAny_setField ho hd (by simp) ?_)
 show wpAny _ _ (newExc (.type "StopIteration") [] >>= _) _ _ _
 refine wpAny_bind ?_
 simp only[newExc,newTuple]
 refine wpAny_bind (wpAny_newObj_type ?_ (by size_fits))
 refine wpAny_bind (m:=firstArgMember _ _) (wpAny_of_eq (a:=Value.none) (by first | rfl | (simp only[firstArgMember];rfl)) ?_)
 refine wpAny_newObj_type ?_ (by size_fits)
 simp only[raiseNew]
 refine wpAny_bind (wpAny_handled ?_)
 rw[show A.in1.handled=none from hh]
 refine wpAny_bind (wpAny_pure (wpAny_throw ?_))
 refine wpAny_bind (wpAny_isInstance (T:="StopIteration") (b:=true) ⟨_,qp _ rfl,rfl⟩ isSubtype_stop ?_)
 exact wpAny_pure (hQ _ (((Heap.SameBut.update ..).extBut.push _).push _))
end
def Itk(a:Addr)(nks:List (List Int × Addr))(vxs:List V)(ep:Nat):It:=
 ⟨fun i H=>H a=some (dTo a nks vxs ep)/\i < nks.length,fun i H x H'=>H'=H/\∃p,nks[i]?=some p/\x=.ref p.2,fun i H=>H a=some (dTo a nks vxs ep)/\nks.length<=i⟩
theorem Yn0{P:Program}{w:World}{H:Hp}{h:Heap}{a:Addr}{nks:List (List Int × Addr)}{vxs:List V}{ep:Nat}(ok:HOk P w H h)(e:H a=some (dTo a nks vxs ep))(hl:nks.length=vxs.length) :
 (a==sysModules)=false/\∃es:Array DictEntry,DRaw h a es ep/\es.size=nks.length/\∀(i:Nat) (hi:i < es.size) p,nks[i]?=some p->es[i].key=.ref p.2:=by
 obtain⟨⟨hs,us,o,es,r,h1,h2,h3,h4⟩,_⟩:=(show ObjOk P w H h a (dTo a nks vxs ep) from ok a _ e)
 have hu:us.length=nks.length:=by rw[hl,r.length]
 have hsz:es.size=nks.length:=by
  have:=congrArg List.length h4
  simp at this
  omega
 refine⟨hs,es,⟨o,h1,h2,h3⟩,hsz,fun i hi p hp=>?_⟩
 have hz:es.toList[i]?=some es[i]:=by simp[hi]
 rw[h4,Qg]at hz
 obtain⟨hi2,hp2⟩:=qo hp
 have hui:i < us.length:=by omega
 have hzip:(nks.zip us)[i]?=some (p,us[i]):=by
  rw[List.getElem?_zip_eq_some]
  exact⟨hp,qq hui⟩
 rw[hzip]at hz
 have:=Option.some.inj hz
 rw[<-this]
theorem Yy3{P:Program}{w:World}{K:W.Frag}{tg:Expr}{nks:List (List Int × Addr)}{vxs:List V}{ep:Nat}(hl:nks.length=vxs.length)(a it:Addr):Turn P w K tg (Itk a nks vxs ep) [it] it (fun i h=>h.IsKeyIter it a i nks.length ep) where
 mem:=by simp
 obj:=fun i h st b hb=>by
  have e:b=it:=by simpa using hb
  subst e
  obtain⟨o,e,c,d⟩:=st
  exact⟨o,e,fun v z=>by rw[d]at z;cases z⟩
 keep:=fun i h h' st k=>by
  obtain⟨o,e,r⟩:=st
  exact⟨o,k it (by simp) o e,r⟩
 item:=by
  intro X hP hw hK hc i pins s σ H E I hf st hg
  subst hP hw hK
  obtain⟨hq,hx⟩:=hg
  obtain⟨hsm,es,dr,hsz,hkey⟩:=Yn0 I.hok hq hl
  obtain⟨f0,f1,f2,f3,f4,f5⟩:=hf it (by simp)
  have hp:nks[i]?=some nks[i]:=qq hx
  rw[<-hsz]at st
  refine Yg2 st dr (by omega) fun h' st' sb=>?_
  have I1:Inv X pins σ H { s with heap:=h' }:=I.turned (t':=s.toks) (fun b o hb e=>(sb.2 b hb).trans e) f0 f1 f3 f4 f5
  obtain⟨o,e,c,d⟩:=id st'
  rw[hkey i (by omega) _ hp]
  rw[hsz]at st'
  exact⟨.ref nks[i].2,rfl,Yz6 (s:={ s with heap:=h' }) e c d (by decide) ⟨.ref nks[i].2,H,I1,rfl,⟨rfl,_,hp,rfl⟩,st',fun b hb=>(hf b hb).1⟩⟩
 done:=by
  intro X hP hw hK hc i pins s σ H E I hf st hg
  subst hP hw hK
  obtain⟨hq,hx⟩:=hg
  obtain⟨hsm,es,dr,hsz,hkey⟩:=Yn0 I.hok hq hl
  obtain⟨f0,f1,f2,f3,f4,f5⟩:=hf it (by simp)
  rw[<-hsz]at st
  exact Yh2 (I.ok.hd hc) st dr (by omega) fun h' eb=>⟨rfl,I.turned (t':=s.toks) (fun b o hb e=>eb b o hb e) f0 f1 f3 f4 f5⟩
 self:=fun _ _ _ _ _ st h=>wpAny_pyIter_keyiter st h
section
variable {X:Cx} {tg:Expr}
def y81(tl:TE):TI:=fun σ H R=>tl σ H fun x H1=>∃a nks vxs ep,x=.ref a/\H1 a=some (dTo a nks vxs ep)/\nks.length=vxs.length/\R (Itk a nks vxs ep) H1
theorem y1x{l:Expr}{tl:TE}(hl:PE X l tl):PI X tg l (y81 tl):=by
 intro pins s σ H R I h
 refine thn (hl pins s σ H _ I h) fun v s1 hx_=>?_
 obtain⟨x,H1,I1,r1,q1⟩:=hx_
 obtain⟨a,nks,vxs,ep,e,hq,hlen,q⟩:=q1
 subst e
 cases r1
 obtain⟨hsm,es,dr,hsz,hkey⟩:=Yn0 I1.hok hq hlen
 refine Yqe hsm dr ?_
 rw[hsz]
 refine⟨s1.heap.objs.size,[s1.heap.objs.size],_,_,H1,rfl,I1.kept (t':=s1.toks) fun b o e=>qe _ e,Yy3 hlen a _,⟨_,qp _ rfl,rfl,rfl⟩,fun b hb=>?_,q⟩
 have e:b=s1.heap.objs.size:=by simpa using hb
 subst e
 exact I1.fpOk (qu _) (I1.hok.fresh (qu _))
end
def Yiw:D->Option (List D)
 | .dct true ks _=>if ks.length<=cap6 then some ks else none
 | _=>none
section
variable {X:Cx} {tg:Expr} {f:Ro->Option D}
theorem y1y{l:Expr}(hl:ME X l f):MI X tg l (b1 f Yiw):=PI.imp (y1x hl) fun σ H R hx_=>by
 obtain⟨ρ,ds,H0,G0,G,e,s,h⟩:=hx_
 obtain⟨c,h1,h2⟩:=Ycr e
 refine tOf.at h1 s fun v H1 G1 g1 r1 s1=>?_
 unfold Yiw at h2
 split at h2
 case h_2=>cases h2
 rename_i ks vs
 split at h2
 case isFalse=>cases h2
 rename_i hcap
 cases h2
 rw[Rp]at r1
 obtain⟨a,kxs,vxs,rfl,dc,rk,rv⟩:=r1
 rcases dc with⟨z,_⟩ | ⟨_,nks,ep,d1,d2,d3,rfl,d5⟩
 ·cases z
 refine⟨a,nks,vxs,ep,rfl,s1.seen _ _ d1,d2,h _ H1 G1 g1 (Ywx (Yeo hcap) fun i H2 G2 e1 e2=>⟨fun d hd=>?_,fun hi=>⟨e2 _ _ (e1 _ _ d1),?_⟩⟩)⟩
 ·obtain⟨x,hx,rx⟩:=rk.get hd
  have hlt:i < nks.length:=by
   have:=(qo hx).1
   simpa using this
  refine⟨⟨e2 _ _ (e1 _ _ d1),hlt⟩,fun y H3 q=>⟨q.1,?_⟩⟩
  obtain⟨p,hp,rfl⟩:=q.2
  rw[Qg,hp]at hx
  cases hx
  exact rx.mono e1
 ·have:=rk.length
  simp at this
  omega
theorem Yy4{l:Expr}(hl:ZE X l f):ZI X tg l (b1 f Yiw):=⟨y1y hl.un⟩
@[simp] theorem Ysd(ks vs:List D):Yiw (.dct true ks vs)=if ks.length<=cap6 then some ks else none:=nr1 rfl
end
end
section
set_option maxRecDepth 100000
section
variable {prog:Program} {w:World} {A:Around} {E:Value->Shared->Prop} {s:Shared} {X:Cx}
theorem DRaw.keep{h h':Heap}{d:Addr}{es:Array DictEntry}{ep:Nat}(hm:DRaw h d es ep)(k:∀o,h.get? d=some o->h'.get? d=some o):DRaw h' d es ep:=by
 obtain⟨o,ho,r⟩:=hm
 exact⟨o,k o ho,r⟩
theorem Yqf{h h':Heap}{it d:Addr}{i n ep:Nat}(hm:h.IsKeyIter it d i n ep)(k:∀o,h.get? it=some o->h'.get? it=some o):h'.IsKeyIter it d i n ep:=by
 obtain⟨o,ho,r⟩:=hm
 exact⟨o,k o ho,r⟩
theorem Yva(hh:A.handled=none)(I d:Addr)(hne:d≠I)(es:Array DictEntry)(ep:Nat) :
 Walks prog w A I [I,d] [I] es.size (fun i v=>∃hi:i < es.size,v=es[i].key) (fun i h=>h.IsKeyIter I d i es.size ep/\DRaw h d es ep) where
 sub:=fun b hb=>by simp at hb;simp[hb]
 frame:=fun _ _ _ st hk=>⟨Yqf st.1 fun o e=>hk I (by simp) o e,st.2.keep fun o e=>hk d (by simp) o e⟩
 item:=fun i s Q E hi st hQ=>Yg2 st.1 st.2 hi fun h' st' sb=>hQ _ h' s.toks ⟨hi,rfl⟩ ⟨st',st.2.keep fun o e=>(sb.2 d hne).trans e⟩ fun b o hb e=>(sb.2 b (by simpa using hb)).trans e
 done:=fun s Q E st hQ=>Yh2 hh st.1 st.2 (qu _) fun h' eb=>hQ h' s.toks fun b o hb e=>eb b o (by simpa using hb) e
 self:=fun i s Q E st h=>wpAny_pyIter_keyiter st.1 h
theorem y1z{d:Addr}{es:Array DictEntry}{ep:Nat}(lo:(d==sysModules)=false):W.KdlSrc prog w "dict" d d es.size (fun i v=>∃hi:i < es.size,v=es[i].key) (fun h=>DRaw h d es ep) where
 type:=fun _ hm=>hm.typeIs
 there:=fun _ hm=>⟨let ⟨_,ho,_⟩:=hm;ql ho,let ⟨_,ho,_⟩:=hm;ql ho⟩
 keep:=fun _ _ hm hk=>hm.keep fun o e=>hk d (.inl rfl) o e
 notList:=by decide
 notTuple:=by decide
 hint:=fun _ _ _ _ hm hq=>W.kdl_hint_dict hm.typeIs hq
 iter:=fun _ s hh hm=>⟨_,_,(fun _ _ hq=>Yqe lo hm hq),Yva hh _ d (by obtain⟨_,ho,_⟩:=hm;exact qm (ql ho)) es ep,⟨⟨_,qp _ rfl,rfl,rfl⟩,hm.keep fun o e=>qe _ e⟩⟩
def y25:List V->Hp->VK->Prop:=fun xs H Q=>∃a nks vxs ep,xs=[.ref a]/\H a=some (dTo a nks vxs ep)/\nks.length=vxs.length/\nks.length<=sizeLine/\∀l,H l=none->Q (.ref l) (upd H l (.lst (nks.map fun p=>V.ref p.2)))
theorem Ymv(hc:X.calm=true):Ydl X (.type "list") y25:=by
 intro pins s σ H xs us Q I r h
 obtain⟨a,nks,vxs,ep,rfl,hq,hl,hz,q⟩:=h
 obtain⟨u,rfl,rx⟩:=Yg5 r
 cases rx
 have hh:X.A.handled=none:=I.ok.hd hc
 obtain⟨hsm,es,dr,hsz,hkey⟩:=Yn0 I.hok hq hl
 refine W.kdl_call (y1z hsm) hh dr (by omega) fun h' tk acc c kp e hit=>?_
 have hv:Vals (nks.map fun p=>V.ref p.2) acc.toList:=by
  have hacc:acc.toList=nks.map fun p=>Value.ref p.2:=by
   refine List.ext_getElem? fun i=>?_
   by_cases hi:i < es.size
   ·have hia:i < acc.size:=by rw[hit.1];exact hi
    have h1:acc[i]?=some acc[i]:=Qs hia
    obtain⟨_,e2⟩:=hit.2 i _ h1
    have hin:i < nks.length:=by omega
    rw[hkey i hi _ (qq hin)]at e2
    rw[Array.getElem?_toList,h1,e2,Qg,qq hin]
    rfl
   ·rw[List.getElem?_eq_none (by rw[qj,hit.1];omega),List.getElem?_eq_none (by rw[qf];omega)]
  rw[hacc]
  clear hacc hkey hq hl hz hsz q
  induction nks with
  | nil=>exact .nil
  | cons p nks ih=>exact .cons rfl ih
 exact⟨.ref s.heap.objs.size,_,I.laid (t':=tk) kp (qu _) (show ObjOk X.prog X.w _ h' _ (.lst _) from⟨by rw[qf];exact hz,acc.toList,c,hv,by simpa using e⟩),rfl,q _ (I.hok.fresh (qu _))⟩
def Yh3:List D->Option (List D)
 | [.dct true ks _]=>if ks.length<=cap6 then some ks else none
 | _=>none
theorem Yqg:SemF X.K y25 Yh3:=by
 intro vs ds l H G Q h s r q
 unfold Yh3 at h
 split at h
 case h_2=>cases h
 rename_i ks vs0
 split at h
 case isFalse=>cases h
 rename_i hcap
 cases h
 obtain⟨v,rfl,rv⟩:=Ydh r
 rw[Ct]at rv
 obtain⟨a,kxs,vxs,rfl,dc,rk,rv⟩:=rv
 rcases dc with⟨z,_⟩ | ⟨_,nks,ep,d1,d2,d3,rfl,d5⟩
 ·cases z
 have hlen:=rk.length
 simp at hlen
 exact⟨a,nks,vxs,ep,rfl,d1,d2,by rw[hlen];exact Yeo hcap,fun m hm=>q m _ _ G (.hid s hm _) hm (s.free hm) Yw rk⟩
@[simp] theorem Yvb(ks vs:List D):Yh3 [.dct true ks vs]=if ks.length<=cap6 then some ks else none:=nr1 rfl
end
end
section
set_option maxRecDepth 100000
theorem Yqh:∀{ms:List Int} {wx:List V} {mv:List (Key × Value)} {kvs:List (Key × V)} {vs:List (Key × Value)},ms.length=wx.length->KV (zK ms wx) mv->KV kvs vs->KV (Ye8 kvs (ms.zip wx)) (merged vs mv)
 | [],[],mv,kvs,vs,_,h,r=>by
   cases h
   exact r
 | m::ms,x::wx,mv,kvs,vs,hl,h,r=>by
   rw[Yf7]at h
   cases h with
   | cons h1 h2=>
     rename_i q mv
     obtain⟨e1,e2⟩:=h1
     have e1':q.1=Sum.inl m:=e1.symm
     show KV (Ye8 (putK kvs (Sum.inl m) x) (ms.zip wx)) (merged (stored vs q.1 q.2) mv)
     rw[e1']
     exact Yqh (by simpa using hl) h2 (r.put (Sum.inl m) e2)
 | [],_::_,_,_,_,h,_,_=>by simp at h
 | _::_,[],_,_,_,h,_,_=>by simp at h
section
variable {X:Cx}
def rUpd:V->List V->Hp->VK->Prop:=fun x vs H Q=>∃(d o:Addr) (kvs:List (Key × V)) (ms:List Int) (wx:List V),x=.ref d/\vs=[.ref o]/\d≠o/\H d=some (.dK kvs)/\H o=some (.dK (zK ms wx))/\ms.length=wx.length/\kvs.length+wx.length < cap6/\Q .non (upd H d (.dK (Ye8 kvs (ms.zip wx))))
theorem Yy5:MtM X "dict.update" rUpd:=by
 intro pins s σ H x vs v us Q I rx rv h
 obtain⟨d,o,kvs,ms,wx,rfl,rfl,hne,hd,ho,hl,hz,q⟩:=h
 cases rx
 obtain⟨u,rfl,ru⟩:=Yg5 rv
 cases ru
 obtain⟨z1,lo1,dv,r1,dd⟩:=(show ObjOk X.prog X.w H s.heap d (.dK kvs) from I.hok d _ hd)
 obtain⟨z2,lo2,ov,r2,od⟩:=(show ObjOk X.prog X.w H s.heap o (.dK (zK ms wx)) from I.hok o _ ho)
 have l1:dv.length=kvs.length:=r1.length.symm
 have l2:ov.length=wx.length:=by
  have:=r2.length
  rw[y2t _ _ hl]at this
  omega
 have hcap:cap6=1000000:=rfl
 have hzl:(ms.zip wx).length=wx.length:=by rw[List.length_zip];omega
 refine call_meetsIn PySem.F.slot_dict_update dd.typeIs PySem.F.entry_dict_update (PySem.F.args_dict_update_2 _ _) (meets_dict_update (Yay X.prog X.w) d o hne lo2) ⟨dv,ov,dd,od,by rw[l1,l2,sizeLine_eq];omega,fun h' dd' _ same=>?_⟩
 have hn:=Yit (ms.zip wx) kvs
 refine⟨.non,_,Yro (t':=s.toks) I (by rw[hd];exact True.intro) same (let ⟨q,_,_,hq,_⟩:=dd';⟨q,hq⟩) (y2d (by rw[sizeLine_eq];omega) lo1 (Yqh hl r2 r1) dd'),rfl,q⟩
end
variable {K:W.Frag}
theorem y26{G:Hp}:∀{ms:List Int} {ds:List D} {wx:List V},ms.length=wx.length->RpL K G ds wx->DQ K G (ms.zip ds) (ms.zip wx)
 | [],ds,wx,hl,r=>by
   have:wx=[]:=List.eq_nil_of_length_eq_zero (by simpa using hl.symm)
   subst this
   exact trivial
 | m::ms,ds,wx,hl,r=>by
   cases wx with
   | nil=>simp at hl
   | cons x wx=>
     cases ds with
     | nil=>
       rw[RpL]at r
       cases r
     | cons d ds=>
       rw[RpL]at r
       obtain⟨y,q,e,r1,r2⟩:=r
       injection e with e1 e2
       subst e1 e2
       exact⟨⟨rfl,r1⟩,y26 (by simpa using hl) r2⟩
section
variable {X:Cx} {e:Expr} {f:Ro->Option D} {pos:Pos}
def updD(l:List D × List D):D->Option (List D × List D)
 | .dct false ks vs=>(Yc9 l.1).bind fun ns=>(Yc9 ks).bind fun ms=>if l.2.length+vs.length < cap6 then some ((dctG ns l.2 (ms.zip vs)).1.map D.int,(dctG ns l.2 (ms.zip vs)).2)else none
 | _=>none
def sUpd(i:Nat)(f:Ro->Option D):Ro->Option Out:=fun ρ=>(Ylt i ρ).bind fun l=>(f ρ).bind fun d=>(updD l d).map fun l'=>.nx (ρ.set i (some (.od false l'.1 l'.2)))
theorem Yy6(i:Nat){x:Str}{p2 apos cpos:Pos}(he:ME X e f)(hN:X.N[i]?=some x:=by rfl)(hv:Vis X.env.scope x:=by first | exact Or.inl rfl | exact Or.inr (Or.inl rfl) | exact Or.inr (Or.inr rfl))
 (hd:(x==("__debug__":Str))=false:=by decide) (hcd:(x==("__classdict__":Str))=false:=by decide) (hse:swapsWith (.Call (.Attribute (.Name x p2) "update" apos) [e] [] cpos) none pos.line X.env=pure false:=by rfl)
 (hs:starEach [e] X.env=[(false,eval e X.env)]:=by rfl)
 (hfew:((backTo cpos (starEach [e] X.env)).all (fun x=>!x.1)&&(backToKw cpos (keywordEach [] X.env)).all (fun x=>x.1.isSome)&&decide ([e].length+([]:List Keyword).length+(if ([]:List Keyword).isEmpty then 0 else 1) < 30))=true:=by rfl)
 (hline:(apos.endLine==cpos.line)=true:=by rfl) (hbase:attributeBase (.Name x p2) "update" X.env (eval (.Name x p2) X.env)=eval (.Name x p2) X.env:=by rfl) :
 MS X (.Expr (.Call (.Attribute (.Name x p2) "update" apos) [e] [] cpos) pos) (sUpd i f):=
 PS.imp (Yrm (y3v PySem.F.plainAttrs_dict PySem.F.slot_dict_update PySem.F.type_dict_update Yy5 (Yme hN hv hd hcd) (Yf1 he Yj8 hs) hbase hfew hline hs rfl) hse) fun F σ H hx_=>by
  obtain⟨ρ,out,H0,G0,G,e,s,h⟩:=hx_
  unfold sUpd at e
  obtain⟨l,h1,e⟩:=qa e
  obtain⟨d,h2,e⟩:=qa e
  obtain⟨l',h3,rfl⟩:=qc e
  unfold updD at h3
  split at h3
  case h_2=>cases h3
  rename_i ks vs
  obtain⟨ns,h4,h3⟩:=qa h3
  obtain⟨ms,h5,h3⟩:=qa h3
  split at h3
  case isFalse=>cases h3
  rename_i hcap
  cases h3
  have hod:=Yu1 h1
  obtain⟨a0,kx0,vx0,ha0,_,_,dc0,rk0,_⟩:=s.od i _ _ _ hod
  obtain⟨q1,_,_,_⟩:=Yuz h4 dc0 rk0
  refine⟨_,ha0,.inr (.inr (.inl ⟨rfl,.inl ⟨_,q1⟩⟩)),tOf.at h2 s fun v H1 G1 g1 r1 s1=>?_⟩
  obtain⟨a,kxs,vxs,ha,hG,hH0,dc,rk,rv⟩:=s1.od i _ _ _ hod
  rw[ha0]at ha
  cases ha
  obtain⟨e1,e2,e3,e4⟩:=Yuz h4 dc rk
  rw[Rp]at r1
  obtain⟨b,kx2,vx2,rfl,dc2,rk2,rv2⟩:=r1
  obtain⟨f1,f2,f3,f4⟩:=Yuz h5 dc2 rk2
  have hne:a0≠b:=fun z=>by rw[z,f1]at hG;cases hG
  have hl1:=rv.length
  have hl2:=rv2.length
  obtain⟨vx',k1,k2,k3,k4⟩:=Ykr (y26 f3 rv2) e2 e3 rv
  refine⟨a0,b,zK ns vxs,ms,vx2,rfl,rfl,hne,e1,s1.seen _ _ f1,f3,by rw[y2t _ _ e3];omega,?_⟩
  exact h σ _ G1 (s1.mutd hod ha0 (kxs:=(dctG ns l.2 (ms.zip vs)).1.map V.int) (vxs:=vx') (y4x (by rw[<-k1];exact Yw) k2 k3) (.ints _) k4)
theorem Ymw(i:Nat){x:Str}{p2 apos cpos:Pos}(he:ZE X e f)(hN:X.N[i]?=some x:=by rfl)(hv:Vis X.env.scope x:=by first | exact Or.inl rfl | exact Or.inr (Or.inl rfl) | exact Or.inr (Or.inr rfl))
 (hd:(x==("__debug__":Str))=false:=by decide) (hcd:(x==("__classdict__":Str))=false:=by decide) (hse:swapsWith (.Call (.Attribute (.Name x p2) "update" apos) [e] [] cpos) none pos.line X.env=pure false:=by rfl)
 (hs:starEach [e] X.env=[(false,eval e X.env)]:=by rfl)
 (hfew:((backTo cpos (starEach [e] X.env)).all (fun x=>!x.1)&&(backToKw cpos (keywordEach [] X.env)).all (fun x=>x.1.isSome)&&decide ([e].length+([]:List Keyword).length+(if ([]:List Keyword).isEmpty then 0 else 1) < 30))=true:=by rfl)
 (hline:(apos.endLine==cpos.line)=true:=by rfl) (hbase:attributeBase (.Name x p2) "update" X.env (eval (.Name x p2) X.env)=eval (.Name x p2) X.env:=by rfl) :
 ZS X (.Expr (.Call (.Attribute (.Name x p2) "update" apos) [e] [] cpos) pos) (sUpd i f):=⟨Yy6 i he.un hN hv hd hcd hse hs hfew hline hbase⟩
@[simp] theorem Yse{ρ:Ro}(i:Nat):sUpd i f ρ=(Ylt i ρ).bind fun l=>(f ρ).bind fun d=>(updD l d).map fun l'=>.nx (ρ.set i (some (.od false l'.1 l'.2))):=nr1 rfl
end
end
section
variable {K:W.Frag}
section
variable {X:Cx} {e:Expr} {f:Ro->Option D} {pos:Pos}
def dctF(f:Ro->Option D):Ro->Option D:=fun ρ=>((f ρ).bind pairsOf).bind fun ps=>if ps.length < cap6 then some (.dct false ((dctG [] [] ps).1.map D.int) (dctG [] [] ps).2)else none
theorem y82(hc:X.calm=true){p2 cpos:Pos}(hg:Gl X "dict")(hm:X.mg "dict"=none)(ha:MC X e f)(hst:starEach [e] X.env=[(false,eval e X.env)]:=by rfl)(hpl:(backTo cpos (starEach [] X.env)).any (·.1)=false:=by rfl) :
 ME X (.Call (.Name "dict" p2) [e] [] cpos) (dctF f):=
 PE.imp (Yf2 (Yu3 hc) hg hm (by decide +kernel) (Yho ha Ykh hst) (by decide) (by decide) hst hpl) fun σ H Q hx_=>by
  obtain⟨ρ,out,H0,G0,G,e,s,h⟩:=hx_
  unfold dctF at e
  obtain⟨ps,h1,e⟩:=qa e
  obtain⟨d,h2,h3⟩:=qa h1
  split at e
  case isFalse=>cases e
  rename_i hcap
  cases e
  refine tCAof.at (show Yg f aNil ρ=some [d] by simp[Yg,aNil,h2]) s fun vs H1 G1 g1 r1 s1=>?_
  obtain⟨v,rfl,rv⟩:=Ydh r1
  cases d with
  | lst l=>
    rw[Ct]at rv
    obtain⟨a,xs,rfl,hq,rl⟩:=rv
    obtain⟨qs,h4,h5⟩:=Yp4 s1.seen (show Yf8 l=some ps from h3) rl
    refine⟨a,xs,qs,rfl,.inl hq,h4,by rw[h5.length];exact hcap,fun p hp=>?_⟩
    obtain⟨vx',k1,k2,k3,k4⟩:=Ykr (ns:=[]) (ds:=[]) (vxs:=[]) h5 List.nodup_nil rfl .nil
    have gn:=Gr.new (p:=p) s1.seen hp (.dK (Ye8 [] qs))
    refine h _ _ _ (g1.trans gn) ?_
    rw[Rp]
    exact⟨p,(dctG [] [] ps).1.map V.int,vx',rfl,y4x (by rw[<-k1];exact Yw) k2 k3,.ints _,k4.mono gn.g⟩
  | _=>cases h3
@[simp] theorem Yy7{ρ:Ro}:dctF f ρ=((f ρ).bind pairsOf).bind fun ps=>if ps.length < cap6 then some (.dct false ((dctG [] [] ps).1.map D.int) (dctG [] [] ps).2)else none:=nr1 rfl
end
end
section
section
variable {X:Cx} {e:Expr} {f:Ro->Option D} {pos:Pos}
theorem Ysf(hc:X.calm=true){p2 cpos:Pos}(hg:Gl X "dict")(hm:X.mg "dict"=none)(ha:ZC X e f)(hst:starEach [e] X.env=[(false,eval e X.env)]:=by rfl)(hpl:(backTo cpos (starEach [] X.env)).any (·.1)=false:=by rfl) :
 ZE X (.Call (.Name "dict" p2) [e] [] cpos) (dctF f):=⟨y82 hc hg hm ha.un hst hpl⟩
end
end
end M
namespace Lw
open PySem PySem.Spec PyProof.Rows L2 M
def top(i:Nat):Stmt:=PySem.Challenge.pw_duskbook_k44_eithers_won.main.body.getD i (.Pass ⟨0,0,0,0⟩)
def gt_EXCHANGED_KINDS:List (Str × Str):=[((Str.ofString "eithers"),(Str.ofString "eithers")),((Str.ofString "sums"),(Str.ofString "sums")),((Str.ofString "ifs"),(Str.ofString "nots")),((Str.ofString "nots"),(Str.ofString "ifs"))]
set_option maxHeartbeats 4000000
def Fq(K:W.Frag)(mg:Str->Option Value)(x:Str)(i:Nat):Prop:=∃a fd,Fun K x x (top i) a fd/\mg x=some (.ref a)
def Fk(K:W.Frag)(x:Str)(i:Nat):Prop:=∃a fd,W.nsIn K mainGlobals x=some (some (.ref a))/\Fun K x x (top i) a fd
theorem Fk.on{K:W.Frag}{h:Heap}{mg:Str->Option Value}{x:Str}{i:Nat}(F:Fk K x i)(X:K.In h)(G:h.Ns mainGlobals mg):Fq K mg x i:=by
 obtain⟨a,fd,n,f⟩:=F
 exact⟨a,fd,f,W.mg_of X G n⟩
theorem fk_mk{K:W.Frag}{x:Str}{i:Nat}{f:Addr}{oc:Value}{od an:Option Addr}{osl:Array (Option Value)}{kV doc pm cdv ct:Value}(a:W.nsIn K mainGlobals x=some (some (.ref f)))(l:K.lookup f=some ⟨oc,od,.func (W.fnOf x x (defArgs (top i)) (defBody (top i)) (defScope (top i)) .none kV doc pm an cdv ct),osl⟩)(c:W.codeIn K cdv x=true)(k:W.keepIn K (.ref f)=true):Fk K x i:=⟨_,_,a,y2e l c k⟩
theorem fns{N ps:List Str}{sc:Scope}(a:sc.kind=.function:=by rfl)(b:sc.isCoroutine=false:=by rfl)(c:sc.isGenerator=false:=by rfl)(d:N.Nodup:=by decide +kernel)(e:N.take ps.length=ps:=by rfl)(f:∀x∈ps,sc.names.lookup x=some .local\/sc.names.lookup x=some .cell:=by decide +kernel)(g:∀y∈sc.names,y.2≠.free:=by decide +kernel):FnScope N ps sc:=⟨a,b,c,d,e,f,g⟩
def Bnd(x:Str)(i:Nat)(ps:List Str):Prop:=∀(kV doc pm:Value) (an:Option Addr) (cdv ct:Value) (us:List Value),us.length=ps.length->bindArgs (W.fnOf x x (defArgs (top i)) (defBody (top i)) (defScope (top i)) .none kV doc pm an cdv ct) ⟨us,[]⟩=pure (ps.zip us)
theorem okfn{P:Program}{w:World}{K:W.Frag}{mg:Str->Option Value}{base:Heap}{x:Str}{i k n m:Nat}{N ps:List Str}{fb:Ro->Option Out}(F:Fq K mg x i)(S:FnScope N ps (defScope (top i)))(hb:∀{f:Addr} {cdv:Value} {A:Around} {outer:List Env} {s:Shared} {H:Hp} {E:XK},Room k (A.deeper (envOfC x (defScope (top i)) s.heap.objs.size f cdv))->ZB (cxOf CX0 P w K mg base N x (defScope (top i)) f cdv A outer s H E).nox (defBody (top i)) fb)(hn:N.length=n:=by rfl)(hm:ps.length=m:=by rfl)(B:Bnd x i ps:=by(intro _ _ _ _ _ _ us hl;first | (obtain⟨_,rfl⟩:=len1 hl;rfl) | (obtain⟨_,_,rfl⟩:=len2 hl;rfl) | (obtain⟨_,_,_,rfl⟩:=len3 hl;rfl) | (obtain⟨_,_,_,_,rfl⟩:=len4 hl;rfl) | (obtain⟨_,_,_,_,_,rfl⟩:=len5 hl;rfl) | (obtain⟨_,_,_,_,_,_,rfl⟩:=len6 hl;rfl) | (obtain⟨_,_,_,_,_,_,_,rfl⟩:=len7 hl;rfl))):Okf P w K mg base (k+1) m x ps (runB m n fb):=by
 obtain⟨a,fd,f,h⟩:=F
 exact y74 f (f.binds B) h (Ymr (k:=k) f S hn hm fun _ _ _ _ _ _ hr=>hb hr)
theorem okfr{P:Program}{w:World}{K:W.Frag}{mg:Str->Option Value}{base:Heap}{x:Str}{i m L:Nat}{ps:List Str}{mr:Nat->List D->Option D}(F:Fq K mg x i)(h0:mr 0=fun _=>none)(hs:∀{k j:Nat},Okf P w K mg base k m x ps (mr j)->L<=k->Okf P w K mg base (k+1) m x ps (mr (j+1)))(hm:ps.length=m:=by rfl)(B:Bnd x i ps:=by(intro _ _ _ _ _ _ us hl;first | (obtain⟨_,rfl⟩:=len1 hl;rfl) | (obtain⟨_,_,rfl⟩:=len2 hl;rfl) | (obtain⟨_,_,_,rfl⟩:=len3 hl;rfl) | (obtain⟨_,_,_,_,rfl⟩:=len4 hl;rfl) | (obtain⟨_,_,_,_,_,rfl⟩:=len5 hl;rfl) | (obtain⟨_,_,_,_,_,_,rfl⟩:=len6 hl;rfl) | (obtain⟨_,_,_,_,_,_,_,rfl⟩:=len7 hl;rfl))):∀j,Okf P w K mg base (L+j) m x ps (mr j)
 | 0=>by
   obtain⟨a,fd,f,h⟩:=F
   rw[h0]
   exact y0t f (f.binds B) h hm
 | j+1=>hs (okfr F h0 hs hm B j) (Nat.le_add_right _ _)
theorem aL1{f0:Ro->Option D}:∀ρ l,Yg f0 aNil ρ=some l->l.length=1:=Yf5 fun _ _ h=>y0o h
theorem aL2{f0 f1:Ro->Option D}:∀ρ l,Yg f0 (Yg f1 aNil) ρ=some l->l.length=2:=Yf5 aL1
theorem aL3{f0 f1 f2:Ro->Option D}:∀ρ l,Yg f0 (Yg f1 (Yg f2 aNil)) ρ=some l->l.length=3:=Yf5 aL2
theorem aL4{f0 f1 f2 f3:Ro->Option D}:∀ρ l,Yg f0 (Yg f1 (Yg f2 (Yg f3 aNil))) ρ=some l->l.length=4:=Yf5 aL3
theorem aL5{f0 f1 f2 f3 f4:Ro->Option D}:∀ρ l,Yg f0 (Yg f1 (Yg f2 (Yg f3 (Yg f4 aNil)))) ρ=some l->l.length=5:=Yf5 aL4
structure Bl(K:W.Frag)(w:World)(mg:Str->Option Value):Prop where
 Len:mg "len"=none
 Range:mg "range"=none
 List:mg "list"=none
 Tuple:mg "tuple"=none
 Int:mg "int"=none
 Bool:mg "bool"=none
 Str:mg "str"=none
 Sorted:mg "sorted"=none
 Any:mg "any"=none
 All:mg "all"=none
 Isinstance:mg "isinstance"=none
 Reversed:mg "reversed"=none
 Set:mg "set"=none
 Min:mg "min"=none
 Dict:mg "dict"=none
 g_EXCHANGED_KINDS:GD K w mg "EXCHANGED_KINDS" gt_EXCHANGED_KINDS
 f1:Fq K mg "beacons_with" 1
 f4:Fq K mg "contrary" 4
 f5:Fq K mg "led_to" 5
 f6:Fq K mg "is_road" 6
 f7:Fq K mg "traced" 7
 f8:Fq K mg "ways_from" 8
 f14:Fq K mg "exchanged_rule" 14
 f15:Fq K mg "exchanged" 15
 f17:Fq K mg "either_holds" 17
 f18:Fq K mg "sum_holds" 18
 f19:Fq K mg "if_holds" 19
 f20:Fq K mg "rule_holds" 20
 f23:Fq K mg "beacons_in" 23
 f24:Fq K mg "is_void" 24
 f33:Fq K mg "is_broken" 33
 f34:Fq K mg "lead_there_and_back" 34
 f35:Fq K mg "clash_good" 35
 f36:Fq K mg "cross_good" 36
 f37:Fq K mg "late_good" 37
 f43:Fq K mg "either_paper_good" 43
 f44:Fq K mg "storm_good" 44
 f46:Fq K mg "sayings_of" 46
 f47:Fq K mg "lead_to_one_another" 47
 f48:Fq K mg "clash_found" 48
 f49:Fq K mg "cross_found" 49
 f50:Fq K mg "late_found" 50
 f51:Fq K mg "storms_paper" 51
 f52:Fq K mg "free_saying" 52
 f53:Fq K mg "truths_made" 53
 f54:Fq K mg "plan_row" 54
 f55:Fq K mg "either_outcome" 55
 f57:Fq K mg "rows_by_beacon" 57
 f58:Fq K mg "is_plan_row" 58
 f59:Fq K mg "come_to" 59
 f60:Fq K mg "either_is_kept" 60
 f61:Fq K mg "plan_good" 61
 f70:Fq K mg "keeper_good" 70
 f72:Fq K mg "good" 72
 f74:Fq K mg "_law_cell" 74
 f75:Fq K mg "_law_mixed" 75
 f76:Fq K mg "_law_hands" 76
 f78:Fq K mg "_law_rule" 78
 f79:Fq K mg "_law_plain" 79
 f80:Fq K mg "_law_truths" 80
 f81:Fq K mg "_law_good" 81
 f82:Fq K mg "_law_drawn" 82
 f83:Fq K mg "_law_rule_more" 83
section
variable {P:Program} {w:World} {K:W.Frag} {mg:Str->Option Value} {base:Heap}
theorem Ykx:FnScope ["hands","start","hand"] ["hands","start","hand"] (defScope (top 1)):=fns
theorem cs_beacons_with_0:CompSc ["hands","start","hand"] (defScope (top 1)) ["beacon","hands","hand"] [none,some 0,some 2] (fsc [(".0",.local),("beacon",.local),("hand",.free),("hands",.free)]):=Yz (by decide +kernel)
def Ycy:Ro->Option Bool:=(b2 (b2 (getC 1) (getC 0) ixD) (getC 2) (eqM false))
def Ycz:Ro->Option D:=(getV 0)
def Yg3:Ro->Option Out:=(sRet (lF (Ybq (cF (Yg (getV 1) (Yg (cC (Yg (getC 0) aNil) lenC) aNil)) rng2) [none,some 0,some 2] (gSet 0) (Ycy) (Ycz))))
def Yav:List D->Option D:=runB 3 3 Yg3
theorem Ybb(bl:Bl K w mg):Okf P w K mg base 1 3 "beacons_with" ["hands","start","hand"] Yav:=by
 refine okfn bl.f1 Ykx fun hr=>?_
 exact(Ym (Yo (Yai (Yat cs_beacons_with_0 rfl (Ymq rfl bl.Range (Yb (Ye 1) (Yb (y9 Yak Yct rfl bl.Len PySem.boot_len (Yr (Yd 0) Ys)) Yj))) (fun _ _ _ _ _=>(Yv 0 cs_beacons_with_0.nd)) (fun _ _ _ _ _=>(Yhy (Yaw hr.units (Yc (Yi (Yd 1) (Yd 0))) (Yd 2)))) (fun _ _ _ _ _=>(Ye 0)) (Yau (i:=0) rfl)))))
theorem Ysg:FnScope ["saying"] ["saying"] (defScope (top 4)):=fns
def Yix:Ro->Option Out:=(sRet (dTup (Yg (b2 (getC 0) (kD (.int 0)) ixD) (Yg (notV (b2 (getC 0) (kD (.int 1)) ixD)) aNil))))
def Ya7:List D->Option D:=runB 1 1 Yix
theorem Yb8(bl:Bl K w mg):Okf P w K mg base 1 1 "contrary" ["saying"] Ya7:=by
 refine okfn bl.f4 Ysg fun hr=>?_
 exact(Ym (Yo (Yac (Yb (Yi (Yd 0) (Yc Yh)) (Yb (Yye (Yi (Yd 0) (Yc Yh))) Yj)))))
theorem sc_led_to:FnScope ["book","saying","against","led","rule","others"] ["book","saying"] (defScope (top 5)):=fns
theorem cs_led_to_0:CompSc ["book","saying","against","led","rule","others"] (defScope (top 5)) ["other","against"] [none,some 2] (fsc [(".0",.local),("other",.local),("against",.free)]):=Yz (by decide +kernel)
def Yhg:Ro->Option Bool:=(b2 (getC 0) (getC 1) (eqM true))
def Yhh:Ro->Option D:=(getV 0)
def Yd2:Ro->Option Out:=(sIf (b2 (getC 2) (getC 4) (inM false)) (sSeq (sOwn 5 (Ybq (b1 (getV 4) Yn) [none,some 2] (gSet 0) (Yhg) (Yhh))) (sMut 3 (ifV (b1 (getC 5) truD) (b2 (getC 5) (kD (.int 0)) ixD) (getV 2)) appD)) sNil)
@[simp] def Yvc:Ro->Option Out:=(wF [3] (sRet (getV 3)))
@[simp] def Yvd:Ro->Option Out:=(sSeq (sFor (b1 (b2 (getC 0) (kD (.int 1)) ixD) Yn) (gSet 4) Yd2) Yvc)
@[simp] def Yve:Ro->Option Out:=(sSeq (sOwn 3 (dLst aNil)) Yvd)
def Yt2:Ro->Option Out:=(sSeq (sSet 2 (cC (Yg (getV 1) aNil) Ya7)) Yve)
def Yh4:List D->Option D:=runB 2 6 Yt2
theorem Yqi(bl:Bl K w mg):Okf P w K mg base 2 2 "led_to" ["book","saying"] Yh4:=by
 refine okfn bl.f5 sc_led_to fun hr=>?_
 exact(Yl (Yad 2 sc_led_to.nd (Yk (Yb8 bl) hr rfl (Yb (Ye 1) Yj) aL1)) (Yl (Ygc 3 sc_led_to.nd (Ycw Yj)) (Yl (Ycx PassesOwn.never rfl (Yag (Yi (Yd 0) (Yc Yh))) (Yv 4 sc_led_to.nd) (Ym (Yaa (y21 hr.units (Yd 2) (Yd 4)) (Yl (Yhw 5 sc_led_to.nd cs_led_to_0 rfl (Yag (Ye 4)) (fun _ _ _ _ _=>(Yv 0 cs_led_to_0.nd)) (fun _ _ _ _ _=>(Yhy (Ymo hr.units (Yd 0) (Yd 1)))) (fun _ _ _ _ _=>(Ye 0)) (Yau (i:=0) rfl)) (Ym (Ygo 3 (Yyf (Ybf (Yd 5)) (Yi (Yd 5) (Yc Yh)) (Ye 2))))) Yu))) (Ym (Yer [3] (Yo (Ye 3)))))))
theorem sc_is_road:FnScope ["book","road","place"] ["book","road"] (defScope (top 6)):=fns
def Yee:Ro->Option Out:=(sIf (b2 (b2 (getC 1) (getC 2) ixD) (cC (Yg (getV 0) (Yg (b2 (getC 1) (b2 (getC 2) (kD (.int 1)) subI) ixD) aNil)) Yh4) (inM true)) (sRet (kD (.bl false))) sNil)
def Yky:Ro->Option Out:=(sSeq (sFor (cF (Yg (kD (.int 1)) (Yg (cC (Yg (getC 1) aNil) lenC) aNil)) rng2) (gSet 2) Yee) (sRet (mB (b2 (cC (Yg (getC 1) aNil) lenC) (kD (.int 0)) gtI))))
def Yfa:List D->Option D:=runB 2 3 Yky
theorem Yiy(bl:Bl K w mg):Okf P w K mg base 3 2 "is_road" ["book","road"] Yfa:=by
 refine okfn bl.f6 sc_is_road fun hr=>?_
 exact(Yl (Ycx PassesOwn.never rfl (Ymq rfl bl.Range (Yb Yh (Yb (y9 Yak Yct rfl bl.Len PySem.boot_len (Yr (Yd 1) Ys)) Yj))) (Yv 2 sc_is_road.nd) (Ym (Yaa (Yyd hr.units (Yc (Yi (Yd 1) (Yd 2))) (Yc (Yk (Yqi bl) hr rfl (Yb (Ye 0) (Yb (Yi (Yd 1) (Yc (Yiu (Yd 2) (Yc Yh)))) Yj)) aL2))) (Ym (Yo Yby)) Yu))) (Ym (Yo (y8u (Yc (y9 Yak Yct rfl bl.Len PySem.boot_len (Yr (Yd 1) Ys))) (Yc Yh)))))
theorem sc_traced:FnScope ["ahead","last","road","saying"] ["ahead","last"] (defScope (top 7)):=fns
def Yfj:Ro->Option Out:=(sSeq (sMut 2 (getV 3) appD) (sSet 3 (b2 (getC 0) (getC 3) getT)))
@[simp] def Yvf:Ro->Option Out:=(sRet (fun ρ=>(revF (getC 2) ρ).map D.tup))
@[simp] def Yvg:Ro->Option Out:=(sSeq (Ydk (b2 (getC 3) (kD .non) (isN true)) Yfj 4000) Yvf)
@[simp] def Yvh:Ro->Option Out:=(sSeq (sSet 3 (getV 1)) Yvg)
def Yt3:Ro->Option Out:=(sSeq (sOwn 2 (dLst aNil)) Yvh)
def Yef:List D->Option D:=runB 2 4 Yt3
theorem Yge(bl:Bl K w mg):Okf P w K mg base 1 2 "traced" ["ahead","last"] Yef:=by
 refine okfn bl.f7 sc_traced fun hr=>?_
 exact(Yl (Ygc 2 sc_traced.nd (Ycw Yj)) (Yl (Yad 3 sc_traced.nd (Ye 1)) (Yl (Yqc 4000 PassesOwn.never (Ynu (Yd 3) (Yc Ybx)) (Yl (Ygo 2 (Ye 3)) (Ym (Yad 3 sc_traced.nd (Yb0 hr.units (Yd 0) (Yd 3)))))) (Ym (Yo (Yu6 rfl rfl bl.Tuple rfl bl.Reversed (Yd 2)))))))
theorem sc_ways_from:FnScope ["book","saying","ahead","reached","place","led"] ["book","saying"] (defScope (top 8)):=fns
def Ybm:Ro->Option Out:=(sIf (b2 (getC 5) (getC 2) (hasT true)) (sSeq (sPut 2 (getC 5) (b2 (getC 3) (getC 4) ixD)) (sMut 3 (getV 5) appD)) sNil)
def Ybz:Ro->Option Out:=(sSeq (sFor (b1 (cC (Yg (getV 0) (Yg (b2 (getC 3) (getC 4) ixD) aNil)) Yh4) Yn) (gSet 5) Ybm) (sInc 4 (kD (.int 1))))
@[simp] def Yfk:Ro->Option Out:=(wF [2] (sRet (getV 2)))
@[simp] def Yn1:Ro->Option Out:=(sSeq (Ydk (b2 (getC 4) (cC (Yg (getC 3) aNil) lenC) ltI) Ybz 4000) Yfk)
@[simp] def Yn2:Ro->Option Out:=(sSeq (sSet 4 (kD (.int 0))) Yn1)
@[simp] def Yn3:Ro->Option Out:=(sSeq (sOwn 3 (dLst (Yg (getV 1) aNil))) Yn2)
def Ykz:Ro->Option Out:=(sSeq (Yxl 2 (getV 1) (kD .non)) Yn3)
def Yc0:List D->Option D:=runB 2 6 Ykz
theorem Yqj(bl:Bl K w mg):Okf P w K mg base 3 2 "ways_from" ["book","saying"] Yc0:=by
 refine okfn bl.f8 sc_ways_from fun hr=>?_
 exact(Yl (y1i hr.units 2 sc_ways_from.nd (Ye 1) Ybx) (Yl (Ygc 3 sc_ways_from.nd (Ycw (Yb (Ye 1) Yj))) (Yl (Yad 4 sc_ways_from.nd Yh) (Yl (Yqc 4000 PassesOwn.never (Yyc (Yd 4) (Yc (y9 Yak Yct rfl bl.Len PySem.boot_len (Yr (Yd 3) Ys)))) (Yl (Ycx PassesOwn.never rfl (Yag (Yk (Yqi bl) hr rfl (Yb (Ye 0) (Yb (Yi (Yd 3) (Yd 4)) Yj)) aL2)) (Yv 5 sc_ways_from.nd) (Ym (Yaa (y1g hr.units (Yd 5) (Yd 2)) (Yl (y1h hr.units 2 (Yd 5) (Yi (Yd 3) (Yd 4))) (Ym (Ygo 3 (Ye 5)))) Yu))) (Ym (y5b 4 sc_ways_from.nd (Yc Yh))))) (Ym (Yer [2] (Yo (Ye 2))))))))
theorem Yiz:FnScope ["kind","rule"] ["kind","rule"] (defScope (top 14)):=fns
theorem cs_exchanged_rule_0:CompSc ["kind","rule"] (defScope (top 14)) ["saying"] [none] (fsc [(".0",.local),("saying",.local),("contrary",.globalImplicit)]):=Yz (by decide +kernel)
def Yb9:Ro->Option D:=(cC (Yg (getV 0) aNil) Ya7)
@[simp] def Yh5:Ro->Option Out:=(sRet (getV 1))
@[simp] def Yh6:Ro->Option Out:=(sSeq (sIf (b2 (getC 0) (kD (.str "sums")) (eqM false)) (sRet (dTup (Yg (b2 (getC 1) (kD (.int 0)) ixD) (Yg (mB (b2 (b2 (getC 1) (kD (.int 1)) ixD) (mB (b2 (b2 (cC (Yg (b2 (getC 1) (kD (.int 0)) ixD) aNil) lenC) (kD (.int 2)) modI) (kD (.int 1)) (eqM false))) (eqM true))) aNil)))) sNil) Yh5)
def Yb1:Ro->Option Out:=(sSeq (sIf (b2 (getC 0) (kD (.str "eithers")) (eqM false)) (sRet (cC (Yg (lF (cF (Yg (lF (Ybq (b1 (getV 1) Yn) [none] (gSet 0) tY (Yb9))) aNil) Yjp)) aNil) tupC)) sNil) Yh6)
def Yb2:List D->Option D:=runB 2 2 Yb1
theorem Yi0(bl:Bl K w mg):Okf P w K mg base 2 2 "exchanged_rule" ["kind","rule"] Yb2:=by
 refine okfn bl.f14 Yiz fun hr=>?_
 exact(Yl (Yaa (Yaw hr.units (Yd 0) (Yc Yt)) (Ym (Yo (Ya6 Yap Ydy rfl bl.Tuple boot_tuple (Yr (Yc (Yai (Ygb Yda Ydz rfl bl.Sorted boot_sorted (Yr (Yc (Yai (Yat cs_exchanged_rule_0 rfl (Yag (Ye 1)) (fun _ _ _ _ _=>(Yv 0 cs_exchanged_rule_0.nd)) (fun _ _ _ _ _=>Ya5) (fun _ _ _ _ _=>(Yk (Yb8 bl) hr rfl (Yb (Ye 0) Yj) aL1)) (Yau (i:=0) rfl)))) Ys)))) Ys)))) Yu) (Yl (Yaa (Yaw hr.units (Yd 0) (Yc Yt)) (Ym (Yo (Yac (Yb (Yi (Yd 1) (Yc Yh)) (Yb (y20 hr.units (Yc (Yi (Yd 1) (Yc Yh))) (Yc (Ycf hr.units (Yc (Ya4 (Yc (y9 Yak Yct rfl bl.Len PySem.boot_len (Yr (Yc (Yi (Yd 1) (Yc Yh))) Ys))) (Yc Yh))) (Yc Yh)))) Yj))))) Yu) (Ym (Yo (Ye 1)))))
theorem sc_exchanged:FnScope ["book","kind"] ["book"] (defScope (top 15)):=fns
theorem cs_exchanged_0:CompSc ["book","kind"] (defScope (top 15)) ["rule","kind"] [none,some 1] (fsc [(".0",.local),("rule",.local),("exchanged_rule",.globalImplicit),("kind",.free)]):=Yz (by decide +kernel)
def Yet:Ro->Option D:=(cC (Yg (getV 1) (Yg (getV 0) aNil)) Yb2)
def Yk0:Ro->Option Out:=(sSeq (sSet 1 (b2 (getC 0) (kD (.int 0)) ixD)) (sRet (dTup (Yg (b1 (getC 1) (Yxi gt_EXCHANGED_KINDS)) (Yg (cC (Yg (lF (Ybq (b1 (b2 (getC 0) (kD (.int 1)) ixD) Yn) [none,some 1] (gSet 0) tY (Yet))) aNil) tupC) aNil)))))
def Yd3:List D->Option D:=runB 1 2 Yk0
theorem Yjh(bl:Bl K w mg):Okf P w K mg base 3 1 "exchanged" ["book"] Yd3:=by
 refine okfn bl.f15 sc_exchanged fun hr=>?_
 exact(Yl (Yad 1 sc_exchanged.nd (Yi (Yd 0) (Yc Yh))) (Ym (Yo (Yac (Yb (Yyj bl.g_EXCHANGED_KINDS rfl (Yd 1)) (Yb (Ya6 Yap Ydy rfl bl.Tuple boot_tuple (Yr (Yc (Yai (Yat cs_exchanged_0 rfl (Yag (Yi (Yd 0) (Yc Yh))) (fun _ _ _ _ _=>(Yv 0 cs_exchanged_0.nd)) (fun _ _ _ _ _=>Ya5) (fun _ _ _ _ _=>(Yk (Yi0 bl) hr rfl (Yb (Ye 1) (Yb (Ye 0) Yj)) aL2)) (Yau (i:=0) rfl)))) Ys)) Yj))))))
theorem Yk1:FnScope ["rule","evening"] ["rule","evening"] (defScope (top 17)):=fns
theorem cs_either_holds_0:CompSc ["rule","evening"] (defScope (top 17)) ["saying","evening"] [none,some 1] (fsc [(".0",.local),("saying",.local),("evening",.free)]):=Yz (by decide +kernel)
def Yc1:Ro->Option D:=(mB (b2 (b2 (getC 1) (b2 (getC 0) (kD (.int 0)) ixD) ixD) (b2 (getC 0) (kD (.int 1)) ixD) (eqM false)))
def Yg4:Ro->Option Out:=(sRet (cC (Yg (lF (Ybq (b1 (getV 0) Yn) [none,some 1] (gSet 0) tY (Yc1))) aNil) anyC))
def Yc6:List D->Option D:=runB 2 2 Yg4
theorem Yk2(bl:Bl K w mg):Okf P w K mg base 1 2 "either_holds" ["rule","evening"] Yc6:=by
 refine okfn bl.f17 Yk1 fun hr=>?_
 exact(Ym (Yo (y9 (Yhp rfl) Ynl rfl bl.Any boot_any (Yr (Yc (Yai (Yat cs_either_holds_0 rfl (Yag (Ye 0)) (fun _ _ _ _ _=>(Yv 0 cs_either_holds_0.nd)) (fun _ _ _ _ _=>Ya5) (fun _ _ _ _ _=>(Ycf hr.units (Yc (Yi (Yd 1) (Yc (Yi (Yd 0) (Yc Yh))))) (Yc (Yi (Yd 0) (Yc Yh))))) (Yau (i:=0) rfl)))) Ys))))
theorem sc_sum_holds:FnScope ["rule","evening","lit_ones"] ["rule","evening"] (defScope (top 18)):=fns
theorem cs_sum_holds_0:CompSc ["rule","evening","lit_ones"] (defScope (top 18)) ["beacon","evening"] [none,some 1] (fsc [(".0",.local),("beacon",.local),("evening",.free)]):=Yz (by decide +kernel)
def Yeu:Ro->Option Bool:=(b1 (b2 (getC 1) (getC 0) ixD) truD)
def Yev:Ro->Option D:=(getV 0)
def Yk3:Ro->Option Out:=(sSeq (sOwn 2 (Ybq (b1 (b2 (getC 0) (kD (.int 0)) ixD) Yn) [none,some 1] (gSet 0) (Yeu) (Yev))) (sRet (mB (b2 (mB (b2 (b2 (cC (Yg (getC 2) aNil) lenC) (kD (.int 2)) modI) (kD (.int 1)) (eqM false))) (b2 (getC 0) (kD (.int 1)) ixD) (eqM false)))))
def Yfl:List D->Option D:=runB 2 3 Yk3
theorem Yqk(bl:Bl K w mg):Okf P w K mg base 1 2 "sum_holds" ["rule","evening"] Yfl:=by
 refine okfn bl.f18 sc_sum_holds fun hr=>?_
 exact(Yl (Yhw 2 sc_sum_holds.nd cs_sum_holds_0 rfl (Yag (Yi (Yd 0) (Yc Yh))) (fun _ _ _ _ _=>(Yv 0 cs_sum_holds_0.nd)) (fun _ _ _ _ _=>(Yhy (Ybf (Yc (Yi (Yd 1) (Yd 0)))))) (fun _ _ _ _ _=>(Ye 0)) (Yau (i:=0) rfl)) (Ym (Yo (Ycf hr.units (Yc (Ycf hr.units (Yc (Ya4 (Yc (y9 Yak Yct rfl bl.Len PySem.boot_len (Yr (Yd 2) Ys))) (Yc Yh))) (Yc Yh))) (Yc (Yi (Yd 0) (Yc Yh)))))))
theorem Ysh:FnScope ["rule","evening","lit"] ["rule","evening","lit"] (defScope (top 19)):=fns
theorem cs_if_holds_0:CompSc ["rule","evening","lit"] (defScope (top 19)) ["beacon","evening","lit"] [none,some 1,some 2] (fsc [(".0",.local),("beacon",.local),("evening",.free),("lit",.free)]):=Yz (by decide +kernel)
def Yfm:Ro->Option D:=(mB (b2 (b2 (getC 1) (getC 0) ixD) (getC 2) (eqM true)))
def Ygs:Ro->Option Out:=(sSeq (sIf (b1 (cC (Yg (lF (Ybq (b1 (b2 (getC 0) (kD (.int 0)) ixD) Yn) [none,some 1,some 2] (gSet 0) tY (Yfm))) aNil) anyC) truD) (sRet (kD (.bl true))) sNil) (sRet (andV (mB (b2 (b2 (getC 0) (kD (.int 1)) ixD) (kD .non) (isN true))) (mB (b2 (b2 (getC 1) (b2 (getC 0) (kD (.int 1)) ixD) ixD) (getC 2) (eqM false))))))
def Ygt:List D->Option D:=runB 3 3 Ygs
theorem Ysi(bl:Bl K w mg):Okf P w K mg base 1 3 "if_holds" ["rule","evening","lit"] Ygt:=by
 refine okfn bl.f19 Ysh fun hr=>?_
 exact(Yl (Yaa (Ybf (Yc (y9 (Yhp rfl) Ynl rfl bl.Any boot_any (Yr (Yc (Yai (Yat cs_if_holds_0 rfl (Yag (Yi (Yd 0) (Yc Yh))) (fun _ _ _ _ _=>(Yv 0 cs_if_holds_0.nd)) (fun _ _ _ _ _=>Ya5) (fun _ _ _ _ _=>(y20 hr.units (Yc (Yi (Yd 1) (Yd 0))) (Yd 2))) (Yau (i:=0) rfl)))) Ys)))) (Ym (Yo Yby)) Yu) (Ym (Yo (Yeq (y1f (Yc (Yi (Yd 0) (Yc Yh))) (Yc Ybx)) (Ydo (Ycf hr.units (Yc (Yi (Yd 1) (Yc (Yi (Yd 0) (Yc Yh))))) (Yd 2)))))))
theorem Yn4:FnScope ["kind","rule","evening"] ["kind","rule","evening"] (defScope (top 20)):=fns
@[simp] def Ylu:Ro->Option Out:=(sRet (cC (Yg (getV 1) (Yg (getV 2) (Yg (mB (b2 (getC 0) (kD (.str "ifs")) (eqM false))) aNil))) Ygt))
@[simp] def Ylv:Ro->Option Out:=(sSeq (sIf (b2 (getC 0) (kD (.str "sums")) (eqM false)) (sRet (cC (Yg (getV 1) (Yg (getV 2) aNil)) Yfl)) sNil) Ylu)
def Ydc:Ro->Option Out:=(sSeq (sIf (b2 (getC 0) (kD (.str "eithers")) (eqM false)) (sRet (cC (Yg (getV 1) (Yg (getV 2) aNil)) Yc6)) sNil) Ylv)
def Yeg:List D->Option D:=runB 3 3 Ydc
theorem Yn5(bl:Bl K w mg):Okf P w K mg base 2 3 "rule_holds" ["kind","rule","evening"] Yeg:=by
 refine okfn bl.f20 Yn4 fun hr=>?_
 exact(Yl (Yaa (Yaw hr.units (Yd 0) (Yc Yt)) (Ym (Yo (Yk (Yk2 bl) hr rfl (Yb (Ye 1) (Yb (Ye 2) Yj)) aL2))) Yu) (Yl (Yaa (Yaw hr.units (Yd 0) (Yc Yt)) (Ym (Yo (Yk (Yqk bl) hr rfl (Yb (Ye 1) (Yb (Ye 2) Yj)) aL2))) Yu) (Ym (Yo (Yk (Ysi bl) hr rfl (Yb (Ye 1) (Yb (Ye 2) (Yb (Ycf hr.units (Yd 0) (Yc Yt)) Yj))) aL3)))))
theorem Yn6:FnScope ["kind","rule"] ["kind","rule"] (defScope (top 23)):=fns
theorem cs_beacons_in_0:CompSc ["kind","rule"] (defScope (top 23)) ["saying"] [none] (fsc [(".0",.local),("saying",.local)]):=Yz (by decide +kernel)
def Yd4:Ro->Option D:=(b2 (getC 0) (kD (.int 0)) ixD)
@[simp] def Ylw:Ro->Option Out:=(sRet (lF (b2 (lF (cF (Yg (b2 (getC 1) (kD (.int 0)) ixD) aNil) Yut)) (lF (dLst (Yg (b2 (getC 1) (kD (.int 1)) ixD) aNil))) catD)))
@[simp] def Ylx:Ro->Option Out:=(sSeq (sIf (orT (b2 (getC 0) (kD (.str "sums")) (eqM false)) (b2 (b2 (getC 1) (kD (.int 1)) ixD) (kD .non) (isN false))) (sRet (lF (cF (Yg (b2 (getC 1) (kD (.int 0)) ixD) aNil) Yut))) sNil) Ylw)
def Ydd:Ro->Option Out:=(sSeq (sIf (b2 (getC 0) (kD (.str "eithers")) (eqM false)) (sRet (lF (Ybq (b1 (getV 1) Yn) [none] (gSet 0) tY (Yd4)))) sNil) Ylx)
def Yeh:List D->Option D:=runB 2 2 Ydd
theorem Yn7(bl:Bl K w mg):Okf P w K mg base 1 2 "beacons_in" ["kind","rule"] Yeh:=by
 refine okfn bl.f23 Yn6 fun hr=>?_
 exact(Yl (Yaa (Yaw hr.units (Yd 0) (Yc Yt)) (Ym (Yo (Yai (Yat cs_beacons_in_0 rfl (Yag (Ye 1)) (fun _ _ _ _ _=>(Yv 0 cs_beacons_in_0.nd)) (fun _ _ _ _ _=>Ya5) (fun _ _ _ _ _=>(Yi (Yd 0) (Yc Yh))) (Yau (i:=0) rfl))))) Yu) (Yl (Yaa (Yd0 (Yhv (Yaw hr.units (Yd 0) (Yc Yt)) (Yhb (Yyh (Yc (Yi (Yd 1) (Yc Yh))) (Yc Ybx))))) (Ym (Yo (Yai (Ye9 Yf3 Ynh rfl bl.List boot_list (Yr (Yc (Yi (Yd 1) (Yc Yh))) Ys))))) Yu) (Ym (Yo (Yai (Yyi (Yc (Yai (Ye9 Yf3 Ynh rfl bl.List boot_list (Yr (Yc (Yi (Yd 1) (Yc Yh))) Ys)))) (Yc (Yai (Ycw (Yb (Yi (Yd 1) (Yc Yh)) Yj))))))))))
theorem Yvi:FnScope ["kind","rule"] ["kind","rule"] (defScope (top 24)):=fns
def Yk4:Ro->Option Out:=(sRet (andV (mB (b2 (cC (Yg (cC (Yg (getV 0) (Yg (getV 1) aNil)) Yeh) aNil) lenC) (kD (.int 0)) (eqM false))) (notV (cC (Yg (getV 0) (Yg (getV 1) (Yg (dTup aNil) aNil))) Yeg))))
def Yh7:List D->Option D:=runB 2 2 Yk4
theorem Yvj(bl:Bl K w mg):Okf P w K mg base 3 2 "is_void" ["kind","rule"] Yh7:=by
 refine okfn bl.f24 Yvi fun hr=>?_
 exact(Ym (Yo (Yeq (Ycf hr.units (Yc (y9 Yak Yct rfl bl.Len PySem.boot_len (Yr (Yc (Yk (Yn7 bl) hr rfl (Yb (Ye 0) (Yb (Ye 1) Yj)) aL2)) Ys))) (Yc Yh)) (Ydo (Yye (Yk (Yn5 bl) hr rfl (Yb (Ye 0) (Yb (Ye 1) (Yb (Yac Yj) Yj))) aL3))))))
theorem Yql:FnScope ["book"] ["book"] (defScope (top 33)):=fns
theorem cs_is_broken_0:CompSc ["book"] (defScope (top 33)) ["rule","book"] [none,some 0] (fsc [(".0",.local),("rule",.local),("is_void",.globalImplicit),("book",.free)]):=Yz (by decide +kernel)
def Yew:Ro->Option D:=(cC (Yg (b2 (getC 1) (kD (.int 0)) ixD) (Yg (getV 0) aNil)) Yh7)
def Yk5:Ro->Option Out:=(sRet (cC (Yg (lF (Ybq (b1 (b2 (getC 0) (kD (.int 1)) ixD) Yn) [none,some 0] (gSet 0) tY (Yew))) aNil) anyC))
def Yc2:List D->Option D:=runB 1 1 Yk5
theorem Yji(bl:Bl K w mg):Okf P w K mg base 4 1 "is_broken" ["book"] Yc2:=by
 refine okfn bl.f33 Yql fun hr=>?_
 exact(Ym (Yo (y9 (Yhp rfl) Ynl rfl bl.Any boot_any (Yr (Yc (Yai (Yat cs_is_broken_0 rfl (Yag (Yi (Yd 0) (Yc Yh))) (fun _ _ _ _ _=>(Yv 0 cs_is_broken_0.nd)) (fun _ _ _ _ _=>Ya5) (fun _ _ _ _ _=>(Yk (Yvj bl) hr rfl (Yb (Yi (Yd 1) (Yc Yh)) (Yb (Ye 0) Yj)) aL2)) (Yau (i:=0) rfl)))) Ys))))
theorem Yfz:FnScope ["book","road","other"] ["book","road","other"] (defScope (top 34)):=fns
def Yax:Ro->Option Out:=(sSeq (sIf (orT (notT (b1 (cC (Yg (getV 0) (Yg (getV 1) aNil)) Yfa) truD)) (notT (b1 (cC (Yg (getV 0) (Yg (getV 2) aNil)) Yfa) truD))) (sRet (kD (.bl false))) sNil) (sRet (andV (mB (b2 (b2 (getC 1) (b1 (kD (.int 1)) negI) ixD) (b2 (getC 2) (kD (.int 0)) ixD) (eqM false))) (mB (b2 (b2 (getC 2) (b1 (kD (.int 1)) negI) ixD) (b2 (getC 1) (kD (.int 0)) ixD) (eqM false))))))
def Yal:List D->Option D:=runB 3 3 Yax
theorem Ycq(bl:Bl K w mg):Okf P w K mg base 4 3 "lead_there_and_back" ["book","road","other"] Yal:=by
 refine okfn bl.f34 Yfz fun hr=>?_
 exact(Yl (Yaa (Yd0 (Yhv (Yep (Ybf (Yc (Yk (Yiy bl) hr rfl (Yb (Ye 0) (Yb (Ye 1) Yj)) aL2)))) (Yhb (Yep (Ybf (Yc (Yk (Yiy bl) hr rfl (Yb (Ye 0) (Yb (Ye 2) Yj)) aL2))))))) (Ym (Yo Yby)) Yu) (Ym (Yo (Yeq (Ycf hr.units (Yc (Yi (Yd 1) (Yc (Yhd (Yc Yh))))) (Yc (Yi (Yd 2) (Yc Yh)))) (Ydo (Ycf hr.units (Yc (Yi (Yd 2) (Yc (Yhd (Yc Yh))))) (Yc (Yi (Yd 1) (Yc Yh)))))))))
theorem Yn8:FnScope ["road","other","book"] ["road","other","book"] (defScope (top 35)):=fns
def Yjj:Ro->Option Out:=(sRet (andV (cC (Yg (getV 2) (Yg (getV 0) (Yg (getV 1) aNil))) Yal) (mB (b2 (b2 (getC 0) (b1 (kD (.int 1)) negI) ixD) (cC (Yg (b2 (getC 0) (kD (.int 0)) ixD) aNil) Ya7) (eqM false)))))
def Yei:List D->Option D:=runB 3 3 Yjj
theorem Yn9(bl:Bl K w mg):Okf P w K mg base 5 3 "clash_good" ["road","other","book"] Yei:=by
 refine okfn bl.f35 Yn8 fun hr=>?_
 exact(Ym (Yo (Yeq (Yk (Ycq bl) hr rfl (Yb (Ye 2) (Yb (Ye 0) (Yb (Ye 1) Yj))) aL3) (Ydo (Ycf hr.units (Yc (Yi (Yd 0) (Yc (Yhd (Yc Yh))))) (Yc (Yk (Yb8 bl) hr rfl (Yb (Yi (Yd 0) (Yc Yh)) Yj) aL1)))))))
theorem Yoa:FnScope ["road","book","storms"] ["road","book","storms"] (defScope (top 36)):=fns
def Yjk:Ro->Option Out:=(sSeq (sIf (orT (notT (b1 (cC (Yg (getV 1) (Yg (getV 0) aNil)) Yfa) truD)) (b2 (b2 (getC 0) (kD (.int 0)) ixD) (b2 (getC 0) (b1 (kD (.int 1)) negI) ixD) (eqM false))) (sRet (kD (.bl false))) sNil) (sRet (andV (mB (b2 (b2 (b2 (getC 0) (kD (.int 0)) ixD) (kD (.int 0)) ixD) (getC 2) (inM false))) (mB (b2 (b2 (b2 (getC 0) (b1 (kD (.int 1)) negI) ixD) (kD (.int 0)) ixD) (getC 2) (inM false))))))
def Yej:List D->Option D:=runB 3 3 Yjk
theorem Yob(bl:Bl K w mg):Okf P w K mg base 4 3 "cross_good" ["road","book","storms"] Yej:=by
 refine okfn bl.f36 Yoa fun hr=>?_
 exact(Yl (Yaa (Yd0 (Yhv (Yep (Ybf (Yc (Yk (Yiy bl) hr rfl (Yb (Ye 1) (Yb (Ye 0) Yj)) aL2)))) (Yhb (Yaw hr.units (Yc (Yi (Yd 0) (Yc Yh))) (Yc (Yi (Yd 0) (Yc (Yhd (Yc Yh))))))))) (Ym (Yo Yby)) Yu) (Ym (Yo (Yeq (Ymp hr.units (Yc (Yi (Yc (Yi (Yd 0) (Yc Yh))) (Yc Yh))) (Yd 2)) (Ydo (Ymp hr.units (Yc (Yi (Yc (Yi (Yd 0) (Yc (Yhd (Yc Yh))))) (Yc Yh))) (Yd 2)))))))
theorem Yqm:FnScope ["road","other","book","keepers","storms"] ["road","other","book","keepers","storms"] (defScope (top 37)):=fns
def Yk6:Ro->Option Out:=(sSeq (sIf (notT (b1 (cC (Yg (getV 2) (Yg (getV 0) (Yg (getV 1) aNil))) Yal) truD)) (sRet (kD (.bl false))) sNil) (sRet (andV (mB (b2 (b2 (b2 (getC 0) (kD (.int 0)) ixD) (kD (.int 0)) ixD) (getC 4) (inM false))) (andV (mB (b2 (b2 (b2 (getC 0) (b1 (kD (.int 1)) negI) ixD) (kD (.int 0)) ixD) (getC 3) (inM false))) (mB (b2 (b2 (b2 (getC 0) (b1 (kD (.int 1)) negI) ixD) (kD (.int 0)) ixD) (b2 (b2 (getC 0) (kD (.int 0)) ixD) (kD (.int 0)) ixD) ltI))))))
def Yfn:List D->Option D:=runB 5 5 Yk6
theorem Yqn(bl:Bl K w mg):Okf P w K mg base 5 5 "late_good" ["road","other","book","keepers","storms"] Yfn:=by
 refine okfn bl.f37 Yqm fun hr=>?_
 exact(Yl (Yaa (Yep (Ybf (Yc (Yk (Ycq bl) hr rfl (Yb (Ye 2) (Yb (Ye 0) (Yb (Ye 1) Yj))) aL3)))) (Ym (Yo Yby)) Yu) (Ym (Yo (Yeq (Ymp hr.units (Yc (Yi (Yc (Yi (Yd 0) (Yc Yh))) (Yc Yh))) (Yd 4)) (Yeq (Ymp hr.units (Yc (Yi (Yc (Yi (Yd 0) (Yc (Yhd (Yc Yh))))) (Yc Yh))) (Yd 3)) (Ydo (y2z (Yc (Yi (Yc (Yi (Yd 0) (Yc (Yhd (Yc Yh))))) (Yc Yh))) (Yc (Yi (Yc (Yi (Yd 0) (Yc Yh))) (Yc Yh))))))))))
theorem Ygy:FnScope ["paper","book","keepers","storms"] ["paper","book","keepers","storms"] (defScope (top 43)):=fns
@[simp] def Ygf:Ro->Option Out:=(sRet (kD (.bl false)))
@[simp] def Ygg:Ro->Option Out:=(sSeq (sIf (b2 (b2 (getC 0) (kD (.int 0)) ixD) (kD (.str "late")) (eqM false)) (sRet (cC (Yg (b2 (getC 0) (kD (.int 1)) ixD) (Yg (b2 (getC 0) (kD (.int 2)) ixD) (Yg (getV 1) (Yg (getV 2) (Yg (getV 3) aNil))))) Yfn)) sNil) Ygf)
@[simp] def Ygh:Ro->Option Out:=(sSeq (sIf (b2 (b2 (getC 0) (kD (.int 0)) ixD) (kD (.str "cross")) (eqM false)) (sRet (cC (Yg (b2 (getC 0) (kD (.int 1)) ixD) (Yg (getV 1) (Yg (getV 3) aNil))) Yej)) sNil) Ygg)
def Ybg:Ro->Option Out:=(sSeq (sIf (b2 (b2 (getC 0) (kD (.int 0)) ixD) (kD (.str "clash")) (eqM false)) (sRet (cC (Yg (b2 (getC 0) (kD (.int 1)) ixD) (Yg (b2 (getC 0) (kD (.int 2)) ixD) (Yg (getV 1) aNil))) Yei)) sNil) Ygh)
def y8:List D->Option D:=runB 4 4 Ybg
theorem Ygz(bl:Bl K w mg):Okf P w K mg base 6 4 "either_paper_good" ["paper","book","keepers","storms"] y8:=by
 refine okfn bl.f43 Ygy fun hr=>?_
 exact(Yl (Yaa (Yaw hr.units (Yc (Yi (Yd 0) (Yc Yh))) (Yc Yt)) (Ym (Yo (Yk (Yn9 bl) hr rfl (Yb (Yi (Yd 0) (Yc Yh)) (Yb (Yi (Yd 0) (Yc Yh)) (Yb (Ye 1) Yj))) aL3))) Yu) (Yl (Yaa (Yaw hr.units (Yc (Yi (Yd 0) (Yc Yh))) (Yc Yt)) (Ym (Yo (Yk (Yob bl) hr rfl (Yb (Yi (Yd 0) (Yc Yh)) (Yb (Ye 1) (Yb (Ye 3) Yj))) aL3))) Yu) (Yl (Yaa (Yaw hr.units (Yc (Yi (Yd 0) (Yc Yh))) (Yc Yt)) (Ym (Yo (Yk (Yqn bl) hr rfl (Yb (Yi (Yd 0) (Yc Yh)) (Yb (Yi (Yd 0) (Yc Yh)) (Yb (Ye 1) (Yb (Ye 2) (Yb (Ye 3) Yj))))) aL5))) Yu) (Ym (Yo Yby)))))
theorem sc_storm_good:FnScope ["paper","book","hands","start","keepers","storms"] ["paper","book","hands","start"] (defScope (top 44)):=fns
def Yek(rec:List D->Option D):Ro->Option Out:=(sSeq (sIf (b2 (b2 (getC 1) (kD (.int 0)) ixD) (kD (.str "nots")) (eqM false)) (sRet (cC (Yg (getV 0) (Yg (cC (Yg (getV 1) aNil) Yd3) (Yg (getV 2) (Yg (getV 3) aNil)))) rec)) sNil) (sSeq (sSet 4 (cC (Yg (getV 2) (Yg (getV 3) (Yg (kD (.str "keeper")) aNil))) Yav)) (sSeq (sSet 5 (cC (Yg (getV 2) (Yg (getV 3) (Yg (kD (.str "storm")) aNil))) Yav)) (sSeq (sIf (b2 (b2 (getC 0) (kD (.int 0)) ixD) (kD (.str "broken")) (eqM false)) (sRet (cC (Yg (getV 1) aNil) Yc2)) sNil) (sSeq (sIf (b2 (b2 (getC 1) (kD (.int 0)) ixD) (kD (.str "eithers")) (eqM false)) (sRet (cC (Yg (getV 0) (Yg (getV 1) (Yg (getV 4) (Yg (getV 5) aNil)))) y8)) sNil) (sSeq (sIf (andT (b2 (b2 (getC 0) (kD (.int 0)) ixD) (kD (.str "odd")) (eqM false)) (b2 (b2 (getC 1) (kD (.int 0)) ixD) (kD (.str "sums")) (eqM false))) nS sNil) (sSeq (sIf (andT (b2 (b2 (getC 0) (kD (.int 0)) ixD) (kD (.str "lone")) (eqM false)) (b2 (b2 (getC 1) (kD (.int 0)) ixD) (kD (.str "ifs")) (eqM false))) nS sNil) (sRet (kD (.bl false))))))))))
def Yaz:Nat->List D->Option D
 | 0=>fun _=>none
 | k+1=>runB 4 6 (Yek (Yaz k))
def Ybc:List D->Option D:=Yaz 12
theorem Yly(bl:Bl K w mg){k j:Nat}(rc:Okf P w K mg base k 4 "storm_good" ["paper","book","hands","start"] (Yaz j))(hk:6<=k):Okf P w K mg base (k+1) 4 "storm_good" ["paper","book","hands","start"] (Yaz (j+1)):=by
 refine okfn bl.f44 sc_storm_good fun hr=>?_
 exact(Yl (Yaa (Yaw hr.units (Yc (Yi (Yd 1) (Yc Yh))) (Yc Yt)) (Ym (Yo (Yk rc hr rfl (Yb (Ye 0) (Yb (Yk (Yjh bl) hr rfl (Yb (Ye 1) Yj) aL1) (Yb (Ye 2) (Yb (Ye 3) Yj)))) aL4))) Yu) (Yl (Yad 4 sc_storm_good.nd (Yk (Ybb bl) hr rfl (Yb (Ye 2) (Yb (Ye 3) (Yb Yt Yj))) aL3)) (Yl (Yad 5 sc_storm_good.nd (Yk (Ybb bl) hr rfl (Yb (Ye 2) (Yb (Ye 3) (Yb Yt Yj))) aL3)) (Yl (Yaa (Yaw hr.units (Yc (Yi (Yd 0) (Yc Yh))) (Yc Yt)) (Ym (Yo (Yk (Yji bl) hr rfl (Yb (Ye 1) Yj) aL1))) Yu) (Yl (Yaa (Yaw hr.units (Yc (Yi (Yd 1) (Yc Yh))) (Yc Yt)) (Ym (Yo (Yk (Ygz bl) hr rfl (Yb (Ye 0) (Yb (Ye 1) (Yb (Ye 4) (Yb (Ye 5) Yj)))) aL4))) Yu) (Yl (Yaa (Yd0 (Yga (Yaw hr.units (Yc (Yi (Yd 0) (Yc Yh))) (Yc Yt)) (Yed (Yaw hr.units (Yc (Yi (Yd 1) (Yc Yh))) (Yc Yt))))) (Ym Yhx) Yu) (Yl (Yaa (Yd0 (Yga (Yaw hr.units (Yc (Yi (Yd 0) (Yc Yh))) (Yc Yt)) (Yed (Yaw hr.units (Yc (Yi (Yd 1) (Yc Yh))) (Yc Yt))))) (Ym Yhx) Yu) (Ym (Yo Yby)))))))))
theorem Yoc(bl:Bl K w mg):Okf P w K mg base 18 4 "storm_good" ["paper","book","hands","start"] Ybc:=okfr (L:=6) (mr:=Yaz) bl.f44 rfl (Yly bl) (j:=12)
theorem sc_sayings_of:FnScope ["beacons","sayings","beacon"] ["beacons"] (defScope (top 46)):=fns
def Yd5:Ro->Option Out:=(sMut 1 (lF (dLst (Yg (dTup (Yg (getV 2) (Yg (kD (.bl false)) aNil))) (Yg (dTup (Yg (getV 2) (Yg (kD (.bl true)) aNil))) aNil)))) extD)
@[simp] def Ylz:Ro->Option Out:=(wF [1] (sRet (getV 1)))
@[simp] def Yl0:Ro->Option Out:=(sSeq (sFor (b1 (getV 0) Yn) (gSet 2) Yd5) Ylz)
def Yjl:Ro->Option Out:=(sSeq (sOwn 1 (dLst aNil)) Yl0)
def Yas:List D->Option D:=runB 1 3 Yjl
theorem Ybh(bl:Bl K w mg):Okf P w K mg base 1 1 "sayings_of" ["beacons"] Yas:=by
 refine okfn bl.f46 sc_sayings_of fun hr=>?_
 exact(Yl (Ygc 1 sc_sayings_of.nd (Ycw Yj)) (Yl (Ycx PassesOwn.never rfl (Yag (Ye 0)) (Yv 2 sc_sayings_of.nd) (Ym (Yu7 1 (Yai (Ycw (Yb (Yac (Yb (Ye 2) (Yb Yby Yj))) (Yb (Yac (Yb (Ye 2) (Yb Yby Yj))) Yj))))))) (Ym (Yer [1] (Yo (Ye 1))))))
theorem Yf0:FnScope ["ways","saying","other"] ["ways","saying","other"] (defScope (top 47)):=fns
def Ybs:Ro->Option Out:=(sRet (andV (mB (b2 (getC 2) (b2 (getC 0) (getC 1) getT) (hasT false))) (mB (b2 (getC 1) (b2 (getC 0) (getC 2) getT) (hasT false)))))
def Yam:List D->Option D:=runB 3 3 Ybs
theorem Ybr(bl:Bl K w mg):Okf P w K mg base 1 3 "lead_to_one_another" ["ways","saying","other"] Yam:=by
 refine okfn bl.f47 Yf0 fun hr=>?_
 exact(Ym (Yo (Yeq (Yyk hr.units (Yd 2) (Yc (Yb0 hr.units (Yd 0) (Yd 1)))) (Ydo (Yyk hr.units (Yd 1) (Yc (Yb0 hr.units (Yd 0) (Yd 2))))))))
theorem sc_clash_found:FnScope ["ways","saying","other"] ["ways"] (defScope (top 48)):=fns
def Yb3:Ro->Option Out:=(sSeq (sSet 2 (cC (Yg (getV 1) aNil) Ya7)) (sIf (b1 (cC (Yg (getV 0) (Yg (getV 1) (Yg (getV 2) aNil))) Yam) truD) (sRet (dTup (Yg (kD (.str "clash")) (Yg (cC (Yg (b2 (getC 0) (getC 1) getT) (Yg (getV 2) aNil)) Yef) (Yg (cC (Yg (b2 (getC 0) (getC 2) getT) (Yg (getV 1) aNil)) Yef) aNil))))) sNil))
def Yfo:Ro->Option Out:=(sSeq (sFor (b1 (getV 0) Yiw) (gSet 1) Yb3) (sRet (kD .non)))
def Ycg:List D->Option D:=runB 1 3 Yfo
theorem Yl1(bl:Bl K w mg):Okf P w K mg base 2 1 "clash_found" ["ways"] Ycg:=by
 refine okfn bl.f48 sc_clash_found fun hr=>?_
 exact(Yl (Ycx PassesOwn.never rfl (Yy4 (Ye 0)) (Yv 1 sc_clash_found.nd) (Yl (Yad 2 sc_clash_found.nd (Yk (Yb8 bl) hr rfl (Yb (Ye 1) Yj) aL1)) (Ym (Yaa (Ybf (Yc (Yk (Ybr bl) hr rfl (Yb (Ye 0) (Yb (Ye 1) (Yb (Ye 2) Yj))) aL3))) (Ym (Yo (Yac (Yb Yt (Yb (Yk (Yge bl) hr rfl (Yb (Yb0 hr.units (Yd 0) (Yd 1)) (Yb (Ye 2) Yj)) aL2) (Yb (Yk (Yge bl) hr rfl (Yb (Yb0 hr.units (Yd 0) (Yd 2)) (Yb (Ye 1) Yj)) aL2) Yj)))))) Yu)))) (Ym (Yo Ybx)))
theorem sc_cross_found:FnScope ["ways","storms","saying","other"] ["ways","storms"] (defScope (top 49)):=fns
def Ybl:Ro->Option Out:=(sIf (andT (b2 (getC 3) (getC 2) (eqM true)) (b2 (getC 3) (b2 (getC 0) (getC 2) getT) (hasT false))) (sRet (dTup (Yg (kD (.str "cross")) (Yg (cC (Yg (b2 (getC 0) (getC 2) getT) (Yg (getV 3) aNil)) Yef) aNil)))) sNil)
def Yb4:Ro->Option Out:=(sFor (b1 (cC (Yg (getV 1) aNil) Yas) Yn) (gSet 3) Ybl)
def Yfp:Ro->Option Out:=(sSeq (sFor (b1 (cC (Yg (getV 1) aNil) Yas) Yn) (gSet 2) Yb4) (sRet (kD .non)))
def Ych:List D->Option D:=runB 2 4 Yfp
theorem Yl2(bl:Bl K w mg):Okf P w K mg base 2 2 "cross_found" ["ways","storms"] Ych:=by
 refine okfn bl.f49 sc_cross_found fun hr=>?_
 exact(Yl (Ycx PassesOwn.never rfl (Yag (Yk (Ybh bl) hr rfl (Yb (Ye 1) Yj) aL1)) (Yv 2 sc_cross_found.nd) (Ym (Ycx PassesOwn.never rfl (Yag (Yk (Ybh bl) hr rfl (Yb (Ye 1) Yj) aL1)) (Yv 3 sc_cross_found.nd) (Ym (Yaa (Yd0 (Yga (Ymo hr.units (Yd 3) (Yd 2)) (Yed (Yyl hr.units (Yd 3) (Yc (Yb0 hr.units (Yd 0) (Yd 2))))))) (Ym (Yo (Yac (Yb Yt (Yb (Yk (Yge bl) hr rfl (Yb (Yb0 hr.units (Yd 0) (Yd 2)) (Yb (Ye 3) Yj)) aL2) Yj))))) Yu))))) (Ym (Yo Ybx)))
theorem sc_late_found:FnScope ["ways","keepers","storms","saying","other"] ["ways","keepers","storms"] (defScope (top 50)):=fns
def Ybt:Ro->Option Out:=(sIf (andT (b2 (b2 (getC 4) (kD (.int 0)) ixD) (b2 (getC 3) (kD (.int 0)) ixD) ltI) (b1 (cC (Yg (getV 0) (Yg (getV 3) (Yg (getV 4) aNil))) Yam) truD)) (sRet (dTup (Yg (kD (.str "late")) (Yg (cC (Yg (b2 (getC 0) (getC 3) getT) (Yg (getV 4) aNil)) Yef) (Yg (cC (Yg (b2 (getC 0) (getC 4) getT) (Yg (getV 3) aNil)) Yef) aNil))))) sNil)
def Yci:Ro->Option Out:=(sFor (b1 (cC (Yg (getV 1) aNil) Yas) Yn) (gSet 4) Ybt)
def Ygi:Ro->Option Out:=(sSeq (sFor (b1 (cC (Yg (getV 2) aNil) Yas) Yn) (gSet 3) Yci) (sRet (kD .non)))
def Yde:List D->Option D:=runB 3 5 Ygi
theorem Yod(bl:Bl K w mg):Okf P w K mg base 2 3 "late_found" ["ways","keepers","storms"] Yde:=by
 refine okfn bl.f50 sc_late_found fun hr=>?_
 exact(Yl (Ycx PassesOwn.never rfl (Yag (Yk (Ybh bl) hr rfl (Yb (Ye 2) Yj) aL1)) (Yv 3 sc_late_found.nd) (Ym (Ycx PassesOwn.never rfl (Yag (Yk (Ybh bl) hr rfl (Yb (Ye 1) Yj) aL1)) (Yv 4 sc_late_found.nd) (Ym (Yaa (Yd0 (Yga (Yyc (Yc (Yi (Yd 4) (Yc Yh))) (Yc (Yi (Yd 3) (Yc Yh)))) (Yed (Ybf (Yc (Yk (Ybr bl) hr rfl (Yb (Ye 0) (Yb (Ye 3) (Yb (Ye 4) Yj))) aL3)))))) (Ym (Yo (Yac (Yb Yt (Yb (Yk (Yge bl) hr rfl (Yb (Yb0 hr.units (Yd 0) (Yd 3)) (Yb (Ye 4) Yj)) aL2) (Yb (Yk (Yge bl) hr rfl (Yb (Yb0 hr.units (Yd 0) (Yd 4)) (Yb (Ye 3) Yj)) aL2) Yj)))))) Yu))))) (Ym (Yo Ybx)))
theorem sc_storms_paper:FnScope ["book","ways","keepers","storms","found","papers"] ["book","ways","keepers","storms"] (defScope (top 51)):=fns
theorem cs_storms_paper_0:CompSc ["book","ways","keepers","storms","found","papers"] (defScope (top 51)) ["paper"] [none] (fsc [(".0",.local),("paper",.local)]):=Yz (by decide +kernel)
def Yae:Ro->Option Bool:=(b2 (getC 0) (kD .non) (isN true))
def Yan:Ro->Option D:=(getV 0)
@[simp] def Yjt:Ro->Option Out:=(sRet (ifV (b1 (getC 5) truD) (b2 (getC 5) (kD (.int 0)) ixD) (kD .non)))
@[simp] def Yju:Ro->Option Out:=(sSeq (wF [4] (sOwn 5 (Ybq (b1 (getV 4) Yn) [none] (gSet 0) (Yae) (Yan)))) Yjt)
@[simp] def Yjv:Ro->Option Out:=(sSeq (sOwn 4 (dLst (Yg (cC (Yg (getV 1) aNil) Ycg) (Yg (cC (Yg (getV 1) (Yg (getV 3) aNil)) Ych) (Yg (cC (Yg (getV 1) (Yg (getV 2) (Yg (getV 3) aNil))) Yde) aNil))))) Yju)
def Yao:Ro->Option Out:=(sSeq (sIf (b1 (cC (Yg (getV 0) aNil) Yc2) truD) (sRet (dTup (Yg (kD (.str "broken")) aNil))) sNil) Yjv)
def Ybn:List D->Option D:=runB 4 6 Yao
theorem Yk7(bl:Bl K w mg):Okf P w K mg base 5 4 "storms_paper" ["book","ways","keepers","storms"] Ybn:=by
 refine okfn bl.f51 sc_storms_paper fun hr=>?_
 exact(Yl (Yaa (Ybf (Yc (Yk (Yji bl) hr rfl (Yb (Ye 0) Yj) aL1))) (Ym (Yo (Yac (Yb Yt Yj)))) Yu) (Yl (Ygc 4 sc_storms_paper.nd (Ycw (Yb (Yk (Yl1 bl) hr rfl (Yb (Ye 1) Yj) aL1) (Yb (Yk (Yl2 bl) hr rfl (Yb (Ye 1) (Yb (Ye 3) Yj)) aL2) (Yb (Yk (Yod bl) hr rfl (Yb (Ye 1) (Yb (Ye 2) (Yb (Ye 3) Yj))) aL3) Yj))))) (Yl (Yer [4] (Yhw 5 sc_storms_paper.nd cs_storms_paper_0 rfl (Yag (Ye 4)) (fun _ _ _ _ _=>(Yv 0 cs_storms_paper_0.nd)) (fun _ _ _ _ _=>(Yhy (Ynu (Yd 0) (Yc Ybx)))) (fun _ _ _ _ _=>(Ye 0)) (Yau (i:=0) rfl))) (Ym (Yo (Yyf (Ybf (Yd 5)) (Yi (Yd 5) (Yc Yh)) Ybx))))))
theorem sc_free_saying:FnScope ["keeper","ways","dark"] ["keeper","ways"] (defScope (top 52)):=fns
def Yfq:Ro->Option Out:=(sSeq (sSet 2 (dTup (Yg (getV 0) (Yg (kD (.bl false)) aNil)))) (sRet (ifV (b2 (cC (Yg (getV 2) aNil) Ya7) (b2 (getC 1) (getC 2) getT) (hasT false)) (cC (Yg (getV 2) aNil) Ya7) (getV 2))))
def Ybi:List D->Option D:=runB 2 3 Yfq
theorem Yl3(bl:Bl K w mg):Okf P w K mg base 2 2 "free_saying" ["keeper","ways"] Ybi:=by
 refine okfn bl.f52 sc_free_saying fun hr=>?_
 exact(Yl (Yad 2 sc_free_saying.nd (Yac (Yb (Ye 0) (Yb Yby Yj)))) (Ym (Yo (Yyf (Yyl hr.units (Yc (Yk (Yb8 bl) hr rfl (Yb (Ye 2) Yj) aL1)) (Yc (Yb0 hr.units (Yd 1) (Yd 2)))) (Yk (Yb8 bl) hr rfl (Yb (Ye 2) Yj) aL1) (Ye 2)))))
theorem sc_truths_made:FnScope ["ways","keepers","storms","truths","saying","keeper"] ["ways","keepers","storms"] (defScope (top 53)):=fns
def Ydi:Ro->Option Out:=(sUpd 3 (dctF (lF (cF (Yg (b2 (getC 0) (getC 4) getT) aNil) Yh3))))
def Yb5:Ro->Option Out:=(sIf (b2 (getC 5) (getC 3) (hasI true)) (sUpd 3 (dctF (lF (cF (Yg (b2 (getC 0) (cC (Yg (getV 5) (Yg (getV 0) aNil)) Ybi) getT) aNil) Yh3)))) sNil)
@[simp] def Yd6:Ro->Option Out:=(wF [3] (sRet (getV 3)))
@[simp] def Yk8:Ro->Option Out:=(sSeq (sFor (b1 (getV 1) Yn) (gSet 5) Yb5) Yd6)
@[simp] def Yk9:Ro->Option Out:=(sSeq (sFor (b1 (cC (Yg (getV 2) aNil) Yas) Yn) (gSet 4) Ydi) Yk8)
def Yh8:Ro->Option Out:=(sSeq (y04 3) Yk9)
def Ydp:List D->Option D:=runB 3 6 Yh8
theorem Yl4(bl:Bl K w mg):Okf P w K mg base 3 3 "truths_made" ["ways","keepers","storms"] Ydp:=by
 refine okfn bl.f53 sc_truths_made fun hr=>?_
 exact(Yl (y1m 3 sc_truths_made.nd) (Yl (Ycx PassesOwn.never rfl (Yag (Yk (Ybh bl) hr rfl (Yb (Ye 2) Yj) aL1)) (Yv 4 sc_truths_made.nd) (Ym (Ymw 3 (Ysf rfl rfl bl.Dict (Yc (Yai (Ye9 (Ymv rfl) Yqg rfl bl.List boot_list (Yr (Yc (Yb0 hr.units (Yd 0) (Yd 4))) Ys)))))))) (Yl (Ycx PassesOwn.never rfl (Yag (Ye 1)) (Yv 5 sc_truths_made.nd) (Ym (Yaa (y1l hr.units (Yd 5) (Yd 3)) (Ym (Ymw 3 (Ysf rfl rfl bl.Dict (Yc (Yai (Ye9 (Ymv rfl) Yqg rfl bl.List boot_list (Yr (Yc (Yb0 hr.units (Yd 0) (Yc (Yk (Yl3 bl) hr rfl (Yb (Ye 5) (Yb (Ye 0) Yj)) aL2)))) Ys))))))) Yu))) (Ym (Yer [3] (Yo (Ye 3)))))))
theorem sc_plan_row:FnScope ["keeper","ways","storms","truths","saying"] ["keeper","ways","storms","truths"] (defScope (top 54)):=fns
def Ydq:Ro->Option Out:=(sIf (b1 (cC (Yg (getV 1) (Yg (getV 4) (Yg (dTup (Yg (getV 0) (Yg (kD (.bl true)) aNil))) aNil))) Yam) truD) (sRet (dTup (Yg (getV 0) (Yg (b2 (getC 4) (kD (.int 0)) ixD) (Yg (b2 (getC 4) (kD (.int 1)) ixD) aNil))))) sNil)
def Yi1:Ro->Option Out:=(sSeq (sFor (b1 (cC (Yg (getV 2) aNil) Yas) Yn) (gSet 4) Ydq) (sRet (dTup (Yg (getV 0) (Yg (kD .non) (Yg (b2 (getC 3) (getC 0) getI) aNil))))))
def Ydv:List D->Option D:=runB 4 5 Yi1
theorem Ysj(bl:Bl K w mg):Okf P w K mg base 2 4 "plan_row" ["keeper","ways","storms","truths"] Ydv:=by
 refine okfn bl.f54 sc_plan_row fun hr=>?_
 exact(Yl (Ycx PassesOwn.never rfl (Yag (Yk (Ybh bl) hr rfl (Yb (Ye 2) Yj) aL1)) (Yv 4 sc_plan_row.nd) (Ym (Yaa (Ybf (Yc (Yk (Ybr bl) hr rfl (Yb (Ye 1) (Yb (Ye 4) (Yb (Yac (Yb (Ye 0) (Yb Yby Yj))) Yj))) aL3))) (Ym (Yo (Yac (Yb (Ye 0) (Yb (Yi (Yd 4) (Yc Yh)) (Yb (Yi (Yd 4) (Yc Yh)) Yj)))))) Yu))) (Ym (Yo (Yac (Yb (Ye 0) (Yb Ybx (Yb (Ytv hr.units (Yd 3) (Yd 0)) Yj)))))))
theorem sc_either_outcome:FnScope ["book","hands","start","keepers","storms","ways","paper","truths"] ["book","hands","start"] (defScope (top 55)):=fns
theorem cs_either_outcome_0:CompSc ["book","hands","start","keepers","storms","ways","paper","truths"] (defScope (top 55)) ["saying","book"] [none,some 0] (fsc [(".0",.local),("saying",.local),("ways_from",.globalImplicit),("book",.free)]):=Yz (by decide +kernel)
theorem cs_either_outcome_1:CompSc ["book","hands","start","keepers","storms","ways","paper","truths"] (defScope (top 55)) ["keeper","ways","storms","truths"] [none,some 5,some 4,some 7] (fsc [(".0",.local),("keeper",.local),("plan_row",.globalImplicit),("storms",.free),("truths",.free),("ways",.free)]):=Yz (by decide +kernel)
def Ya2:Ro->Option D:=(dTup (Yg (getV 0) (Yg (cC (Yg (getV 1) (Yg (getV 0) aNil)) Yc0) aNil)))
def Yca:Ro->Option D:=(cC (Yg (getV 0) (Yg (getV 1) (Yg (getV 2) (Yg (getV 3) aNil)))) Ydv)
@[simp] def Yh9:Ro->Option Out:=(wF [5] (sRet (dTup (Yg (kD (.str "keeper")) (Yg (dTup (Yg (kD (.str "plan")) (Yg (cC (Yg (lF (Ybq (b1 (getV 3) Yn) [none,some 5,some 4,some 7] (gSet 0) tY (Yca))) aNil) tupC) aNil))) aNil)))))
@[simp] def Yia:Ro->Option Out:=(sSeq (wF [5] (sSet 7 (cC (Yg (getV 5) (Yg (getV 3) (Yg (getV 4) aNil))) Ydp))) Yh9)
@[simp] def Ycj:Ro->Option Out:=(sSeq (sIf (b2 (getC 6) (kD .non) (isN true)) (sRet (dTup (Yg (kD (.str "storm")) (Yg (getV 6) aNil)))) sNil) Yia)
@[simp] def Yba:Ro->Option Out:=(sSeq (wF [5] (sSet 6 (cC (Yg (getV 0) (Yg (getV 5) (Yg (getV 3) (Yg (getV 4) aNil)))) Ybn))) Ycj)
@[simp] def Yib:Ro->Option Out:=(sSeq (Yu9 5 (lF (Ybq (b1 (cC (Yg (lF (b2 (getC 3) (getC 4) catD)) aNil) Yas) Yn) [none,some 0] (gSet 0) tY (Ya2)))) Yba)
@[simp] def Yic:Ro->Option Out:=(sSeq (sSet 4 (cC (Yg (getV 1) (Yg (getV 2) (Yg (kD (.str "storm")) aNil))) Yav)) Yib)
def Ydj:Ro->Option Out:=(sSeq (sSet 3 (cC (Yg (getV 1) (Yg (getV 2) (Yg (kD (.str "keeper")) aNil))) Yav)) Yic)
def Yaj:List D->Option D:=runB 3 8 Ydj
theorem Yfb(bl:Bl K w mg):Okf P w K mg base 6 3 "either_outcome" ["book","hands","start"] Yaj:=by
 refine okfn bl.f55 sc_either_outcome fun hr=>?_
 exact(Yl (Yad 3 sc_either_outcome.nd (Yk (Ybb bl) hr rfl (Yb (Ye 1) (Yb (Ye 2) (Yb Yt Yj))) aL3)) (Yl (Yad 4 sc_either_outcome.nd (Yk (Ybb bl) hr rfl (Yb (Ye 1) (Yb (Ye 2) (Yb Yt Yj))) aL3)) (Yl (y1w hr.units rfl 5 sc_either_outcome.nd rfl bl.Dict (Yc (Yai (Yat cs_either_outcome_0 rfl (Yag (Yk (Ybh bl) hr rfl (Yb (Yai (Yyi (Yd 3) (Yd 4))) Yj) aL1)) (fun _ _ _ _ _=>(Yv 0 cs_either_outcome_0.nd)) (fun _ _ _ _ _=>Ya5) (fun _ _ _ _ _=>(Yac (Yb (Ye 0) (Yb (Yk (Yqj bl) hr rfl (Yb (Ye 1) (Yb (Ye 0) Yj)) aL2) Yj)))) (Yau (i:=0) rfl))))) (Yl (Yer [5] (Yad 6 sc_either_outcome.nd (Yk (Yk7 bl) hr rfl (Yb (Ye 0) (Yb (Ye 5) (Yb (Ye 3) (Yb (Ye 4) Yj)))) aL4))) (Yl (Yaa (Ynu (Yd 6) (Yc Ybx)) (Ym (Yo (Yac (Yb Yt (Yb (Ye 6) Yj))))) Yu) (Yl (Yer [5] (Yad 7 sc_either_outcome.nd (Yk (Yl4 bl) hr rfl (Yb (Ye 5) (Yb (Ye 3) (Yb (Ye 4) Yj))) aL3))) (Ym (Yer [5] (Yo (Yac (Yb Yt (Yb (Yac (Yb Yt (Yb (Ya6 Yap Ydy rfl bl.Tuple boot_tuple (Yr (Yc (Yai (Yat cs_either_outcome_1 rfl (Yag (Ye 3)) (fun _ _ _ _ _=>(Yv 0 cs_either_outcome_1.nd)) (fun _ _ _ _ _=>Ya5) (fun _ _ _ _ _=>(Yk (Ysj bl) hr rfl (Yb (Ye 0) (Yb (Ye 1) (Yb (Ye 2) (Yb (Ye 3) Yj)))) aL4)) (Yau (i:=0) rfl)))) Ys)) Yj))) Yj))))))))))))
theorem Yi2:FnScope ["rows"] ["rows"] (defScope (top 57)):=fns
theorem cs_rows_by_beacon_0:CompSc ["rows"] (defScope (top 57)) ["row"] [none] (fsc [(".0",.local),("row",.local)]):=Yz (by decide +kernel)
def Ybj:Ro->Option D:=(dTup (Yg (b2 (getC 0) (kD (.int 0)) ixD) (Yg (getV 0) aNil)))
def Yfw:Ro->Option Out:=(sRet (dctF (lF (Ybq (b1 (getV 0) Yn) [none] (gSet 0) tY (Ybj)))))
def Yb6:List D->Option D:=runB 1 1 Yfw
theorem Yi3(bl:Bl K w mg):Okf P w K mg base 1 1 "rows_by_beacon" ["rows"] Yb6:=by
 refine okfn bl.f57 Yi2 fun hr=>?_
 exact(Ym (Yo (Ysf rfl rfl bl.Dict (Yc (Yai (Yat cs_rows_by_beacon_0 rfl (Yag (Ye 0)) (fun _ _ _ _ _=>(Yv 0 cs_rows_by_beacon_0.nd)) (fun _ _ _ _ _=>Ya5) (fun _ _ _ _ _=>(Yac (Yb (Yi (Yd 0) (Yc Yh)) (Yb (Ye 0) Yj)))) (Yau (i:=0) rfl)))))))
theorem Yl5:FnScope ["row","storms"] ["row","storms"] (defScope (top 58)):=fns
def Ydr:Ro->Option Out:=(sRet (orV (mB (b2 (b2 (getC 0) (kD (.int 1)) ixD) (kD .non) (isN false))) (andV (mB (b2 (b2 (getC 0) (kD (.int 1)) ixD) (getC 1) (inM false))) (mB (b2 (b2 (getC 0) (kD (.int 1)) ixD) (b2 (getC 0) (kD (.int 0)) ixD) ltI)))))
def Yds:List D->Option D:=runB 2 2 Ydr
theorem Yl6(bl:Bl K w mg):Okf P w K mg base 1 2 "is_plan_row" ["row","storms"] Yds:=by
 refine okfn bl.f58 Yl5 fun hr=>?_
 exact(Ym (Yo (Yqa (Yyg (Yc (Yi (Yd 0) (Yc Yh))) (Yc Ybx)) (Ynt (Yeq (Ymp hr.units (Yc (Yi (Yd 0) (Yc Yh))) (Yd 1)) (Ydo (y2z (Yc (Yi (Yd 0) (Yc Yh))) (Yc (Yi (Yd 0) (Yc Yh))))))))))
theorem sc_come_to:FnScope ["saying","plan","row"] ["saying","plan"] (defScope (top 59)):=fns
@[simp] def Ysk:Ro->Option Out:=(sRet (dTup (Yg (b2 (getC 2) (kD (.int 1)) ixD) (Yg (mB (b2 (b2 (getC 0) (kD (.int 1)) ixD) (b2 (getC 2) (kD (.int 2)) ixD) (eqM false))) aNil))))
@[simp] def Ysl:Ro->Option Out:=(sSeq (sSet 2 (b2 (getC 1) (b2 (getC 0) (kD (.int 0)) ixD) getI)) Ysk)
def Yla:Ro->Option Out:=(sSeq (sIf (b2 (b2 (getC 0) (kD (.int 0)) ixD) (getC 1) (hasN true)) (sRet (getV 0)) sNil) Ysl)
def Yid:List D->Option D:=runB 2 3 Yla
theorem Yvk(bl:Bl K w mg):Okf P w K mg base 1 2 "come_to" ["saying","plan"] Yid:=by
 refine okfn bl.f59 sc_come_to fun hr=>?_
 exact(Yl (Yaa (y1n hr.units (Yc (Yi (Yd 0) (Yc Yh))) (Yd 1)) (Ym (Yo (Ye 0))) Yu) (Yl (Yad 2 sc_come_to.nd (Ytv hr.units (Yd 1) (Yc (Yi (Yd 0) (Yc Yh))))) (Ym (Yo (Yac (Yb (Yi (Yd 2) (Yc Yh)) (Yb (Ycf hr.units (Yc (Yi (Yd 0) (Yc Yh))) (Yc (Yi (Yd 2) (Yc Yh)))) Yj)))))))
theorem sc_either_is_kept:FnScope ["rule","plan","ends"] ["rule","plan"] (defScope (top 60)):=fns
theorem cs_either_is_kept_0:CompSc ["rule","plan","ends"] (defScope (top 60)) ["saying","plan"] [none,some 1] (fsc [(".0",.local),("saying",.local),("come_to",.globalImplicit),("plan",.free)]):=Yz (by decide +kernel)
theorem cs_either_is_kept_1:CompSc ["rule","plan","ends"] (defScope (top 60)) ["end","ends"] [none,some 2] (fsc [(".0",.local),("end",.local),("contrary",.globalImplicit),("ends",.free)]):=Yz (by decide +kernel)
def Ycb:Ro->Option D:=(cC (Yg (getV 0) (Yg (getV 1) aNil)) Yid)
def Ybk:Ro->Option D:=(orV (mB (b2 (getC 0) (dTup (Yg (kD .non) (Yg (kD (.bl true)) aNil))) (eqM false))) (mB (b2 (cC (Yg (getV 0) aNil) Ya7) (getC 1) (inM false))))
def Yfx:Ro->Option Out:=(sSeq (sOwn 2 (Ybq (b1 (getV 0) Yn) [none,some 1] (gSet 0) tY (Ycb))) (wF [2] (sRet (cC (Yg (lF (Ybq (b1 (getV 2) Yn) [none,some 2] (gSet 0) tY (Ybk))) aNil) anyC))))
def Yb7:List D->Option D:=runB 2 3 Yfx
theorem Yi4(bl:Bl K w mg):Okf P w K mg base 2 2 "either_is_kept" ["rule","plan"] Yb7:=by
 refine okfn bl.f60 sc_either_is_kept fun hr=>?_
 exact(Yl (Ygc 2 sc_either_is_kept.nd (Yat cs_either_is_kept_0 rfl (Yag (Ye 0)) (fun _ _ _ _ _=>(Yv 0 cs_either_is_kept_0.nd)) (fun _ _ _ _ _=>Ya5) (fun _ _ _ _ _=>(Yk (Yvk bl) hr rfl (Yb (Ye 0) (Yb (Ye 1) Yj)) aL2)) (Yau (i:=0) rfl))) (Ym (Yer [2] (Yo (y9 (Yhp rfl) Ynl rfl bl.Any boot_any (Yr (Yc (Yai (Yat cs_either_is_kept_1 rfl (Yag (Ye 2)) (fun _ _ _ _ _=>(Yv 0 cs_either_is_kept_1.nd)) (fun _ _ _ _ _=>Ya5) (fun _ _ _ _ _=>(Yqa (Ycf hr.units (Yd 0) (Yc (Yac (Yb Ybx (Yb Yby Yj))))) (Ynt (Ymp hr.units (Yc (Yk (Yb8 bl) hr rfl (Yb (Ye 0) Yj) aL1)) (Yd 1))))) (Yau (i:=0) rfl)))) Ys))))))
theorem sc_plan_good:FnScope ["rows","book","keepers","storms","plan"] ["rows","book","keepers","storms"] (defScope (top 61)):=fns
theorem cs_plan_good_0:CompSc ["rows","book","keepers","storms","plan"] (defScope (top 61)) ["row"] [none] (fsc [(".0",.local),("row",.local)]):=Yz (by decide +kernel)
theorem cs_plan_good_1:CompSc ["rows","book","keepers","storms","plan"] (defScope (top 61)) ["row","storms"] [none,some 3] (fsc [(".0",.local),("row",.local),("is_plan_row",.globalImplicit),("storms",.free)]):=Yz (by decide +kernel)
theorem cs_plan_good_2:CompSc ["rows","book","keepers","storms","plan"] (defScope (top 61)) ["rule","plan"] [none,some 4] (fsc [(".0",.local),("rule",.local),("either_is_kept",.globalImplicit),("plan",.free)]):=Yz (by decide +kernel)
def Yex:Ro->Option D:=(b2 (getC 0) (kD (.int 0)) ixD)
def Yey:Ro->Option D:=(cC (Yg (getV 0) (Yg (getV 1) aNil)) Yds)
def Yez:Ro->Option D:=(cC (Yg (getV 0) (Yg (getV 1) aNil)) Yb7)
@[simp] def Yoe:Ro->Option Out:=(sRet (cC (Yg (lF (Ybq (b1 (b2 (getC 1) (kD (.int 1)) ixD) Yn) [none,some 4] (gSet 0) tY (Yez))) aNil) allC))
@[simp] def Yof:Ro->Option Out:=(sSeq (sSet 4 (cC (Yg (getV 0) aNil) Yb6)) Yoe)
def Yfr:Ro->Option Out:=(sSeq (sIf (orT (b2 (lF (Ybq (b1 (getV 0) Yn) [none] (gSet 0) tY (Yex))) (getC 2) (eqM true)) (notT (b1 (cC (Yg (lF (Ybq (b1 (getV 0) Yn) [none,some 3] (gSet 0) tY (Yey))) aNil) allC) truD))) (sRet (kD (.bl false))) sNil) Yof)
def Yfs:List D->Option D:=runB 4 5 Yfr
theorem Yqo(bl:Bl K w mg):Okf P w K mg base 3 4 "plan_good" ["rows","book","keepers","storms"] Yfs:=by
 refine okfn bl.f61 sc_plan_good fun hr=>?_
 exact(Yl (Yaa (Yd0 (Yhv (Ymo hr.units (Yc (Yai (Yat cs_plan_good_0 rfl (Yag (Ye 0)) (fun _ _ _ _ _=>(Yv 0 cs_plan_good_0.nd)) (fun _ _ _ _ _=>Ya5) (fun _ _ _ _ _=>(Yi (Yd 0) (Yc Yh))) (Yau (i:=0) rfl)))) (Yd 2)) (Yhb (Yep (Ybf (Yc (y9 (Ye7 rfl) Yis rfl bl.All boot_all (Yr (Yc (Yai (Yat cs_plan_good_1 rfl (Yag (Ye 0)) (fun _ _ _ _ _=>(Yv 0 cs_plan_good_1.nd)) (fun _ _ _ _ _=>Ya5) (fun _ _ _ _ _=>(Yk (Yl6 bl) hr rfl (Yb (Ye 0) (Yb (Ye 1) Yj)) aL2)) (Yau (i:=0) rfl)))) Ys)))))))) (Ym (Yo Yby)) Yu) (Yl (Yad 4 sc_plan_good.nd (Yk (Yi3 bl) hr rfl (Yb (Ye 0) Yj) aL1)) (Ym (Yo (y9 (Ye7 rfl) Yis rfl bl.All boot_all (Yr (Yc (Yai (Yat cs_plan_good_2 rfl (Yag (Yi (Yd 1) (Yc Yh))) (fun _ _ _ _ _=>(Yv 0 cs_plan_good_2.nd)) (fun _ _ _ _ _=>Ya5) (fun _ _ _ _ _=>(Yk (Yi4 bl) hr rfl (Yb (Ye 0) (Yb (Ye 1) Yj)) aL2)) (Yau (i:=0) rfl)))) Ys))))))
theorem sc_keeper_good:FnScope ["paper","book","hands","start","keepers","storms"] ["paper","book","hands","start"] (defScope (top 70)):=fns
def Yie(rec:List D->Option D):Ro->Option Out:=(sSeq (sIf (b2 (b2 (getC 1) (kD (.int 0)) ixD) (kD (.str "nots")) (eqM false)) (sRet (cC (Yg (getV 0) (Yg (cC (Yg (getV 1) aNil) Yd3) (Yg (getV 2) (Yg (getV 3) aNil)))) rec)) sNil) (sSeq (sSet 4 (cC (Yg (getV 2) (Yg (getV 3) (Yg (kD (.str "keeper")) aNil))) Yav)) (sSeq (sSet 5 (cC (Yg (getV 2) (Yg (getV 3) (Yg (kD (.str "storm")) aNil))) Yav)) (sSeq (sIf (andT (b2 (b2 (getC 0) (kD (.int 0)) ixD) (kD (.str "plan")) (eqM false)) (b2 (b2 (getC 1) (kD (.int 0)) ixD) (kD (.str "eithers")) (eqM false))) (sRet (cC (Yg (b2 (getC 0) (kD (.int 1)) ixD) (Yg (getV 1) (Yg (getV 4) (Yg (getV 5) aNil)))) Yfs)) sNil) (sSeq (sIf (andT (b2 (b2 (getC 0) (kD (.int 0)) ixD) (kD (.str "sums")) (eqM false)) (b2 (b2 (getC 1) (kD (.int 0)) ixD) (kD (.str "sums")) (eqM false))) nS sNil) (sSeq (sIf (andT (b2 (b2 (getC 0) (kD (.int 0)) ixD) (kD (.str "rows")) (eqM false)) (b2 (b2 (getC 1) (kD (.int 0)) ixD) (kD (.str "ifs")) (eqM false))) nS sNil) (sRet (kD (.bl false)))))))))
def Ybo:Nat->List D->Option D
 | 0=>fun _=>none
 | k+1=>runB 4 6 (Yie (Ybo k))
def Yck:List D->Option D:=Ybo 12
theorem Ylb(bl:Bl K w mg){k j:Nat}(rc:Okf P w K mg base k 4 "keeper_good" ["paper","book","hands","start"] (Ybo j))(hk:3<=k):Okf P w K mg base (k+1) 4 "keeper_good" ["paper","book","hands","start"] (Ybo (j+1)):=by
 refine okfn bl.f70 sc_keeper_good fun hr=>?_
 exact(Yl (Yaa (Yaw hr.units (Yc (Yi (Yd 1) (Yc Yh))) (Yc Yt)) (Ym (Yo (Yk rc hr rfl (Yb (Ye 0) (Yb (Yk (Yjh bl) hr rfl (Yb (Ye 1) Yj) aL1) (Yb (Ye 2) (Yb (Ye 3) Yj)))) aL4))) Yu) (Yl (Yad 4 sc_keeper_good.nd (Yk (Ybb bl) hr rfl (Yb (Ye 2) (Yb (Ye 3) (Yb Yt Yj))) aL3)) (Yl (Yad 5 sc_keeper_good.nd (Yk (Ybb bl) hr rfl (Yb (Ye 2) (Yb (Ye 3) (Yb Yt Yj))) aL3)) (Yl (Yaa (Yd0 (Yga (Yaw hr.units (Yc (Yi (Yd 0) (Yc Yh))) (Yc Yt)) (Yed (Yaw hr.units (Yc (Yi (Yd 1) (Yc Yh))) (Yc Yt))))) (Ym (Yo (Yk (Yqo bl) hr rfl (Yb (Yi (Yd 0) (Yc Yh)) (Yb (Ye 1) (Yb (Ye 4) (Yb (Ye 5) Yj)))) aL4))) Yu) (Yl (Yaa (Yd0 (Yga (Yaw hr.units (Yc (Yi (Yd 0) (Yc Yh))) (Yc Yt)) (Yed (Yaw hr.units (Yc (Yi (Yd 1) (Yc Yh))) (Yc Yt))))) (Ym Yhx) Yu) (Yl (Yaa (Yd0 (Yga (Yaw hr.units (Yc (Yi (Yd 0) (Yc Yh))) (Yc Yt)) (Yed (Yaw hr.units (Yc (Yi (Yd 1) (Yc Yh))) (Yc Yt))))) (Ym Yhx) Yu) (Ym (Yo Yby))))))))
theorem Yl7(bl:Bl K w mg):Okf P w K mg base 15 4 "keeper_good" ["paper","book","hands","start"] Yck:=okfr (L:=3) (mr:=Ybo) bl.f70 rfl (Ylb bl) (j:=12)
theorem y5m:FnScope ["paper","book","hands","start","hand"] ["paper","book","hands","start","hand"] (defScope (top 72)):=fns
def Yy8:Ro->Option Out:=(sSeq (sIf (b2 (getC 4) (kD (.str "keeper")) (eqM false)) (sRet (cC (Yg (getV 0) (Yg (getV 1) (Yg (getV 2) (Yg (getV 3) aNil)))) Yck)) sNil) (sRet (cC (Yg (getV 0) (Yg (getV 1) (Yg (getV 2) (Yg (getV 3) aNil)))) Ybc)))
def Ymx:List D->Option D:=runB 5 5 Yy8
theorem y5n(bl:Bl K w mg):Okf P w K mg base 19 5 "good" ["paper","book","hands","start","hand"] Ymx:=by
 refine okfn bl.f72 y5m fun hr=>?_
 exact(Yl (Yaa (Yaw hr.units (Yd 4) (Yc Yt)) (Ym (Yo (Yk (Yl7 bl) hr rfl (Yb (Ye 0) (Yb (Ye 1) (Yb (Ye 2) (Yb (Ye 3) Yj)))) aL4))) Yu) (Ym (Yo (Yk (Yoc bl) hr rfl (Yb (Ye 0) (Yb (Ye 1) (Yb (Ye 2) (Yb (Ye 3) Yj)))) aL4))))
theorem Ysm:FnScope ["script","k"] ["script","k"] (defScope (top 74)):=fns
def Yi5:Ro->Option Out:=(sSeq (sIf (b2 (getC 1) (cC (Yg (getC 0) aNil) lenC) ltI) (sRet (b2 (getC 0) (getC 1) ixD)) sNil) (sRet (kD (.int 0))))
def Ybp:List D->Option D:=runB 2 2 Yi5
theorem Yc3(bl:Bl K w mg):Okf P w K mg base 1 2 "_law_cell" ["script","k"] Ybp:=by
 refine okfn bl.f74 Ysm fun hr=>?_
 exact(Yl (Yaa (Yyc (Yd 1) (Yc (y9 Yak Yct rfl bl.Len PySem.boot_len (Yr (Yd 0) Ys)))) (Ym (Yo (Yi (Yd 0) (Yd 1)))) Yu) (Ym (Yo Yh)))
theorem Yqp:FnScope ["cell","by"] ["cell","by"] (defScope (top 75)):=fns
def Ylc:Ro->Option Out:=(sRet (b2 (b2 (b2 (getC 0) (kD (.int 2305843009213693951)) modI) (getC 1) mulI) (kD (.int 2305843009213693951)) modI))
def Ybu:List D->Option D:=runB 2 2 Ylc
theorem Yel(bl:Bl K w mg):Okf P w K mg base 1 2 "_law_mixed" ["cell","by"] Ybu:=by
 refine okfn bl.f75 Yqp fun hr=>?_
 exact(Ym (Yo (Ya4 (Yc (y5a (Yc (Ya4 (Yd 0) (Yc Yh))) (Yd 1))) (Yc Yh))))
theorem sc_law_hands:FnScope ["cell","many","left"] ["cell","many"] (defScope (top 76)):=fns
theorem cs_law_hands_0:CompSc ["cell","many","left"] (defScope (top 76)) ["k","left"] [none,some 2] (fsc [(".0",.local),("k",.local),("left",.free)]):=Yz (by decide +kernel)
def Yc7:Ro->Option D:=(b2 (lF (dLst (Yg (kD (.str "keeper")) (Yg (kD (.str "storm")) aNil)))) (b2 (b2 (getC 1) (getC 0) shrI) (kD (.int 2)) modI) ixD)
def Yld:Ro->Option Out:=(sSeq (sSet 2 (cC (Yg (getV 0) (Yg (kD (.int 1442695040888963407)) aNil)) Ybu)) (sRet (cC (Yg (lF (Ybq (cF (Yg (getV 1) aNil) rng1) [none,some 2] (gSet 0) tY (Yc7))) aNil) tupC)))
def Yd7:List D->Option D:=runB 2 3 Yld
theorem Yjm(bl:Bl K w mg):Okf P w K mg base 2 2 "_law_hands" ["cell","many"] Yd7:=by
 refine okfn bl.f76 sc_law_hands fun hr=>?_
 exact(Yl (Yad 2 sc_law_hands.nd (Yk (Yel bl) hr rfl (Yb (Ye 0) (Yb Yh Yj)) aL2)) (Ym (Yo (Ya6 Yap Ydy rfl bl.Tuple boot_tuple (Yr (Yc (Yai (Yat cs_law_hands_0 rfl (Ygp rfl bl.Range (Yb (Ye 1) Yj)) (fun _ _ _ _ _=>(Yv 0 cs_law_hands_0.nd)) (fun _ _ _ _ _=>Ya5) (fun _ _ _ _ _=>(Yi (Yc (Yai (Ycw (Yb Yt (Yb Yt Yj))))) (Yc (Ya4 (Yc (Yym (Yd 1) (Yd 0))) (Yc Yh))))) (Yau (i:=0) rfl)))) Ys)))))
theorem sc_law_rule:FnScope ["kind","cell","start","many","left","size","picked","k"] ["kind","cell","start","many"] (defScope (top 78)):=fns
theorem cs_law_rule_0:CompSc ["kind","cell","start","many","left","size","picked","k"] (defScope (top 78)) ["k","picked","left"] [none,some 6,some 4] (fsc [(".0",.local),("k",.local),("left",.free),("picked",.free)]):=Yz (by decide +kernel)
def Ycl:Ro->Option Out:=(sSeq (sIf (b2 (b2 (getC 2) (b2 (getC 4) (b2 (getC 3) (getC 2) subI) modI) addI) (getC 6) (inM true)) (sMut 6 (b2 (getC 2) (b2 (getC 4) (b2 (getC 3) (getC 2) subI) modI) addI) appD) sNil) (sSet 4 (b2 (getC 4) (b2 (getC 3) (getC 2) subI) divI)))
def Ydt:Ro->Option D:=(dTup (Yg (b2 (getC 1) (getC 0) ixD) (Yg (mB (b2 (b2 (b2 (getC 2) (getC 0) shrI) (kD (.int 2)) modI) (kD (.int 1)) (eqM false))) aNil)))
@[simp] def Yog:Ro->Option Out:=(sRet (dTup (Yg (cC (Yg (lF (cF (Yg (getC 6) aNil) Yjp)) aNil) tupC) (Yg (b2 (getC 2) (b2 (b2 (getC 4) (kD (.int 4)) divI) (b2 (getC 3) (getC 2) subI) modI) addI) aNil))))
@[simp] def Yqq:Ro->Option Out:=(sSeq (sIf (b2 (b2 (getC 4) (kD (.int 4)) modI) (kD (.int 1)) (eqM false)) (sOwn 6 (slF (getC 6) (some (kD (.int 1))) none)) sNil) Yog)
@[simp] def Yqr:Ro->Option Out:=(sSeq (sIf (b2 (b2 (getC 4) (kD (.int 4)) modI) (kD (.int 0)) (eqM false)) (sRet (dTup (Yg (cC (Yg (lF (cF (Yg (getC 6) aNil) Yjp)) aNil) tupC) (Yg (kD .non) aNil)))) sNil) Yqq)
@[simp] def Yqs:Ro->Option Out:=(sSeq (sIf (b2 (getC 0) (kD (.str "sums")) (eqM false)) (sRet (dTup (Yg (cC (Yg (lF (cF (Yg (getC 6) aNil) Yjp)) aNil) tupC) (Yg (mB (b2 (b2 (getC 4) (kD (.int 2)) modI) (kD (.int 1)) (eqM false))) aNil)))) sNil) Yqr)
@[simp] def Yqt:Ro->Option Out:=(sSeq (sIf (b2 (getC 0) (kD (.str "eithers")) (eqM false)) (wF [6] (sRet (cC (Yg (lF (cF (Yg (lF (Ybq (cF (Yg (cC (Yg (getC 6) aNil) lenC) aNil) rng1) [none,some 6,some 4] (gSet 0) tY (Ydt))) aNil) Yjp)) aNil) tupC))) sNil) Yqs)
@[simp] def Yqu:Ro->Option Out:=(sSeq (sFor (cF (Yg (getV 5) aNil) rng1) (gSet 7) Ycl) Yqt)
@[simp] def Yqv:Ro->Option Out:=(sSeq (sOwn 6 (dLst aNil)) Yqu)
@[simp] def Yqw:Ro->Option Out:=(sSeq (sSet 4 (b2 (getC 4) (kD (.int 8)) divI)) Yqv)
@[simp] def Yqx:Ro->Option Out:=(sSeq (sIf (b2 (getC 0) (kD (.str "eithers")) (eqM false)) (sSet 5 (cC (Yg (getC 5) (Yg (kD (.int 2)) aNil)) minC)) sNil) Yqw)
@[simp] def Yqy:Ro->Option Out:=(sSeq (sSet 5 (b2 (lF (Ykp [1,2,2,2,1,2,3,4])) (b2 (getC 4) (kD (.int 8)) modI) ixD)) Yqx)
def Ydw:Ro->Option Out:=(sSeq (sSet 4 (cC (Yg (getV 1) (Yg (kD (.int 1181783497276652981)) aNil)) Ybu)) Yqy)
def Ygu:List D->Option D:=runB 4 8 Ydw
theorem Ysn(bl:Bl K w mg):Okf P w K mg base 2 4 "_law_rule" ["kind","cell","start","many"] Ygu:=by
 refine okfn bl.f78 sc_law_rule fun hr=>?_
 exact(Yl (Yad 4 sc_law_rule.nd (Yk (Yel bl) hr rfl (Yb (Ye 1) (Yb Yh Yj)) aL2)) (Yl (y1k _ _ _ _ _ _ 5 _ _ _ [1,2,2,2,1,2,3,4] sc_law_rule.nd (by decide +kernel) rfl (by first | exact Or.inl rfl | exact Or.inr rfl) (by first | exact .inl rfl | exact .inr rfl) (by intro _ _;rfl) (Yc (Ya4 (Yd 4) (Yc Yh)))) (Yl (Yaa (Yaw hr.units (Yd 0) (Yc Yt)) (Ym (Yad 5 sc_law_rule.nd (y9 (Ypg rfl) Yxs rfl bl.Min boot_min (Yr (Yd 5) (Yr (Yc Yh) Ys))))) Yu) (Yl (Yad 4 sc_law_rule.nd (Yf9 (Yd 4) (Yc Yh))) (Yl (Ygc 6 sc_law_rule.nd (Ycw Yj)) (Yl (Ycx PassesOwn.never rfl (Ygp rfl bl.Range (Yb (Ye 5) Yj)) (Yv 7 sc_law_rule.nd) (Yl (Yaa (Yyd hr.units (Yc (Yhc (Yd 2) (Yc (Ya4 (Yd 4) (Yc (Yiu (Yd 3) (Yd 2))))))) (Yd 6)) (Ym (Ygo 6 (Yhc (Yd 2) (Yc (Ya4 (Yd 4) (Yc (Yiu (Yd 3) (Yd 2)))))))) Yu) (Ym (Yad 4 sc_law_rule.nd (Yf9 (Yd 4) (Yc (Yiu (Yd 3) (Yd 2)))))))) (Yl (Yaa (Yaw hr.units (Yd 0) (Yc Yt)) (Ym (Yer [6] (Yo (Ya6 Yap Ydy rfl bl.Tuple boot_tuple (Yr (Yc (Yai (Ygb Yda Ydz rfl bl.Sorted boot_sorted (Yr (Yc (Yai (Yat cs_law_rule_0 rfl (Ygp rfl bl.Range (Yb (y9 Yak Yct rfl bl.Len PySem.boot_len (Yr (Yd 6) Ys)) Yj)) (fun _ _ _ _ _=>(Yv 0 cs_law_rule_0.nd)) (fun _ _ _ _ _=>Ya5) (fun _ _ _ _ _=>(Yac (Yb (Yi (Yd 1) (Yd 0)) (Yb (Ycf hr.units (Yc (Ya4 (Yc (Yym (Yd 2) (Yd 0))) (Yc Yh))) (Yc Yh)) Yj)))) (Yau (i:=0) rfl)))) Ys)))) Ys))))) Yu) (Yl (Yaa (Yaw hr.units (Yd 0) (Yc Yt)) (Ym (Yo (Yac (Yb (Ya6 Yap Ydy rfl bl.Tuple boot_tuple (Yr (Yc (Yai (Ygb Yda Ydz rfl bl.Sorted boot_sorted (Yr (Yd 6) Ys)))) Ys)) (Yb (Ycf hr.units (Yc (Ya4 (Yd 4) (Yc Yh))) (Yc Yh)) Yj))))) Yu) (Yl (Yaa (Yaw hr.units (Yc (Ya4 (Yd 4) (Yc Yh))) (Yc Yh)) (Ym (Yo (Yac (Yb (Ya6 Yap Ydy rfl bl.Tuple boot_tuple (Yr (Yc (Yai (Ygb Yda Ydz rfl bl.Sorted boot_sorted (Yr (Yd 6) Ys)))) Ys)) (Yb Ybx Yj))))) Yu) (Yl (Yaa (Yaw hr.units (Yc (Ya4 (Yd 4) (Yc Yh))) (Yc Yh)) (Ym (Ygc 6 sc_law_rule.nd (Yqb (fl:=(some (kD (.int 1)))) (fh:=none) (Yd 6) (Ytu (Yc Yh)) y22))) Yu) (Ym (Yo (Yac (Yb (Ya6 Yap Ydy rfl bl.Tuple boot_tuple (Yr (Yc (Yai (Ygb Yda Ydz rfl bl.Sorted boot_sorted (Yr (Yd 6) Ys)))) Ys)) (Yb (Yhc (Yd 2) (Yc (Ya4 (Yc (Yf9 (Yd 4) (Yc Yh))) (Yc (Yiu (Yd 3) (Yd 2)))))) Yj)))))))))))))))
theorem Yqz:FnScope ["part"] ["part"] (defScope (top 79)):=fns
theorem cs_law_plain_0:CompSc ["part"] (defScope (top 79)) ["one"] [none] (fsc [(".0",.local),("one",.local),("_law_plain",.globalImplicit)]):=Yz (by decide +kernel)
def Ye0(rec:List D->Option D):Ro->Option D:=(cC (Yg (getV 0) aNil) rec)
def Yc4(rec:List D->Option D):Ro->Option Out:=(sSeq (sIf (b1 (mB (b1 (getC 0) (isiD "tuple"))) truD) (sRet (cC (Yg (lF (Ybq (b1 (getV 0) Yn) [none] (gSet 0) tY (Ye0 rec))) aNil) allC)) sNil) (sRet (orV (mB (b2 (getC 0) (kD .non) (isN false))) (orV (mB (b1 (getC 0) (isiD "str"))) (mB (b1 (getC 0) (isiD "int")))))))
def Yy:Nat->List D->Option D
 | 0=>fun _=>none
 | k+1=>runB 1 1 (Yc4 (Yy k))
def Yc5:List D->Option D:=Yy 12
theorem Yoh(bl:Bl K w mg){k j:Nat}(rc:Okf P w K mg base k 1 "_law_plain" ["part"] (Yy j))(hk:0<=k):Okf P w K mg base (k+1) 1 "_law_plain" ["part"] (Yy (j+1)):=by
 refine okfn bl.f79 Yqz fun hr=>?_
 exact(Yl (Yaa (Ybf (Yc (Yhe (Yd 0) rfl rfl bl.Isinstance bl.Tuple boot_tuple (Ykk)))) (Ym (Yo (y9 (Ye7 rfl) Yis rfl bl.All boot_all (Yr (Yc (Yai (Yat cs_law_plain_0 rfl (Yag (Ye 0)) (fun _ _ _ _ _=>(Yv 0 cs_law_plain_0.nd)) (fun _ _ _ _ _=>Ya5) (fun _ _ _ _ _=>(Yk rc hr rfl (Yb (Ye 0) Yj) aL1)) (Yau (i:=0) rfl)))) Ys)))) Yu) (Ym (Yo (Yqa (Yyg (Yd 0) (Yc Ybx)) (Yqa (Yhe (Yd 0) rfl rfl bl.Isinstance bl.Str boot_str (y4n)) (Ynt (Yhe (Yd 0) rfl rfl bl.Isinstance bl.Int boot_int (y4m))))))))
theorem Yq0(bl:Bl K w mg):Okf P w K mg base 12 1 "_law_plain" ["part"] Yc5:=okfr (L:=0) (mr:=Yy) bl.f79 rfl (Yoh bl) (j:=12)
theorem Yoi:FnScope ["paper"] ["paper"] (defScope (top 80)):=fns
theorem cs_law_truths_0:CompSc ["paper"] (defScope (top 80)) ["row"] [none] (fsc [(".0",.local),("row",.local),("isinstance",.globalImplicit),("bool",.globalImplicit)]):=Yz (by decide +kernel)
theorem cs_law_truths_1:CompSc ["paper"] (defScope (top 80)) ["road"] [none] (fsc [(".0",.local),("road",.local),("all",.globalImplicit)]):=Yz (by decide +kernel)
theorem Yle(env:Env)(h:env.scope=defScope (top 80)):relabel (fsc [(".0",.local),("road",.local),("all",.globalImplicit)]) env=(fsc [(".0",.local),("road",.local),("all",.globalImplicit)]):=by unfold relabel Env.kindOf;rw[h];rfl
theorem Ylf:(["saying"]:List Str).Nodup:=by decide +kernel
theorem Ylg(env:Env)(h:env.scope=defScope (top 80)):CompSc ["road"] (relabel (fsc [(".0",.local),("road",.local),("all",.globalImplicit)]) env) ["saying"] [none] (fsc [(".0",.local),("saying",.local),("isinstance",.globalImplicit),("bool",.globalImplicit)]):=by rw[Yle env h];exact Yz (by decide +kernel)
def Yd8:Ro->Option D:=(mB (b1 (b2 (getC 0) (kD (.int 2)) ixD) (isiD "bool")))
def Yd9:Ro->Option D:=(mB (b1 (b2 (getC 0) (kD (.int 1)) ixD) (isiD "bool")))
def Ycm:Ro->Option D:=(cC (Yg (lF (Ybq (b1 (getV 0) Yn) [none] (gSet 0) tY (Yd9))) aNil) allC)
@[simp] def Yl8:Ro->Option Out:=(sRet (kD (.bl true)))
@[simp] def Yl9:Ro->Option Out:=(sSeq (sIf (b2 (b2 (getC 0) (kD (.int 0)) ixD) (lF (dLst (Yg (kD (.str "clash")) (Yg (kD (.str "cross")) (Yg (kD (.str "late")) aNil))))) (inM false)) (sRet (cC (Yg (lF (Ybq (b1 (slD (getC 0) (some (kD (.int 1))) none) Yn) [none] (gSet 0) tY (Ycm))) aNil) allC)) sNil) Yl8)
def Yem:Ro->Option Out:=(sSeq (sIf (orT (b2 (b2 (getC 0) (kD (.int 0)) ixD) (kD (.str "plan")) (eqM false)) (b2 (b2 (getC 0) (kD (.int 0)) ixD) (kD (.str "sums")) (eqM false))) (sRet (cC (Yg (lF (Ybq (b1 (b2 (getC 0) (kD (.int 1)) ixD) Yn) [none] (gSet 0) tY (Yd8))) aNil) allC)) sNil) Yl9)
def Ya0:List D->Option D:=runB 1 1 Yem
theorem Yoj(bl:Bl K w mg):Okf P w K mg base 1 1 "_law_truths" ["paper"] Ya0:=by
 refine okfn bl.f80 Yoi fun hr=>?_
 exact(Yl (Yaa (Yd0 (Yhv (Yaw hr.units (Yc (Yi (Yd 0) (Yc Yh))) (Yc Yt)) (Yhb (Yaw hr.units (Yc (Yi (Yd 0) (Yc Yh))) (Yc Yt))))) (Ym (Yo (y9 (Ye7 rfl) Yis rfl bl.All boot_all (Yr (Yc (Yai (Yat cs_law_truths_0 rfl (Yag (Yi (Yd 0) (Yc Yh))) (fun _ _ _ _ _=>(Yv 0 cs_law_truths_0.nd)) (fun _ _ _ _ _=>Ya5) (fun _ _ _ _ _=>(Yhe (Yc (Yi (Yd 0) (Yc Yh))) rfl rfl bl.Isinstance bl.Bool boot_bool (Ytj))) (Yau (i:=0) rfl)))) Ys)))) Yu) (Yl (Yaa (y21 hr.units (Yc (Yi (Yd 0) (Yc Yh))) (Yc (Yai (Ycw (Yb Yt (Yb Yt (Yb Yt Yj))))))) (Ym (Yo (y9 (Ye7 rfl) Yis rfl bl.All boot_all (Yr (Yc (Yai (Yat cs_law_truths_1 rfl (Yag (Yyn (fl:=(some (kD (.int 1)))) (fh:=none) (Yd 0) (Ytu (Yc Yh)) y22)) (fun _ _ _ _ _=>(Yv 0 cs_law_truths_1.nd)) (fun _ _ _ _ _=>Ya5) (fun _ _ _ _ _=>(y9 (Ye7 rfl) Yis rfl bl.All boot_all (Yr (Yc (Yai (Yat (Ylg _ rfl) rfl (Yag (Ye 0)) (fun _ _ _ _ _=>(Yv 0 Ylf)) (fun _ _ _ _ _=>Ya5) (fun _ _ _ _ _=>(Yhe (Yc (Yi (Yd 0) (Yc Yh))) rfl rfl bl.Isinstance bl.Bool boot_bool (Ytj))) (Yau (i:=0) rfl)))) Ys))) (Yau (i:=0) rfl)))) Ys)))) Yu) (Ym (Yo Yby))))
theorem Yso:FnScope ["found","book","hands","start"] ["found","book","hands","start"] (defScope (top 81)):=fns
@[simp] def Yq1:Ro->Option Out:=(sRet (mB (b2 (cC (Yg (b2 (getC 0) (kD (.int 1)) ixD) (Yg (getV 1) (Yg (getV 2) (Yg (getV 3) (Yg (b2 (getC 0) (kD (.int 0)) ixD) aNil))))) Ymx) (kD (.bl true)) (isB false))))
@[simp] def Yq2:Ro->Option Out:=(sSeq (sIf (orT (andT (b2 (b2 (getC 0) (kD (.int 0)) ixD) (kD (.str "keeper")) (eqM true)) (b2 (b2 (getC 0) (kD (.int 0)) ixD) (kD (.str "storm")) (eqM true))) (orT (notT (b1 (cC (Yg (b2 (getC 0) (kD (.int 1)) ixD) aNil) Yc5) truD)) (notT (b1 (cC (Yg (b2 (getC 0) (kD (.int 1)) ixD) aNil) Ya0) truD)))) (sRet (kD (.bl false))) sNil) Yq1)
def Yi6:Ro->Option Out:=(sSeq (sIf (orT (notT (b1 (mB (b1 (getC 0) (isiD "tuple"))) truD)) (orT (b2 (cC (Yg (getC 0) aNil) lenC) (kD (.int 2)) (eqM true)) (notT (b1 (mB (b1 (b2 (getC 0) (kD (.int 1)) ixD) (isiD "tuple"))) truD)))) (sRet (kD (.bl false))) sNil) Yq2)
def Ybv:List D->Option D:=runB 4 4 Yi6
theorem Ylh(bl:Bl K w mg):Okf P w K mg base 20 4 "_law_good" ["found","book","hands","start"] Ybv:=by
 refine okfn bl.f81 Yso fun hr=>?_
 exact(Yl (Yaa (Yd0 (Yhv (Yep (Ybf (Yc (Yhe (Yd 0) rfl rfl bl.Isinstance bl.Tuple boot_tuple (Ykk))))) (Yhv (Ymo hr.units (Yc (y9 Yak Yct rfl bl.Len PySem.boot_len (Yr (Yd 0) Ys))) (Yc Yh)) (Yhb (Yep (Ybf (Yc (Yhe (Yc (Yi (Yd 0) (Yc Yh))) rfl rfl bl.Isinstance bl.Tuple boot_tuple (Ykk))))))))) (Ym (Yo Yby)) Yu) (Yl (Yaa (Yd0 (Yhv (Yd0 (Yga (Ymo hr.units (Yc (Yi (Yd 0) (Yc Yh))) (Yc Yt)) (Yed (Ymo hr.units (Yc (Yi (Yd 0) (Yc Yh))) (Yc Yt))))) (Yhv (Yep (Ybf (Yc (Yk (Yq0 bl) hr rfl (Yb (Yi (Yd 0) (Yc Yh)) Yj) aL1)))) (Yhb (Yep (Ybf (Yc (Yk (Yoj bl) hr rfl (Yb (Yi (Yd 0) (Yc Yh)) Yj) aL1)))))))) (Ym (Yo Yby)) Yu) (Ym (Yo (y5c (Yc (Yk (y5n bl) hr rfl (Yb (Yi (Yd 0) (Yc Yh)) (Yb (Ye 1) (Yb (Ye 2) (Yb (Ye 3) (Yb (Yi (Yd 0) (Yc Yh)) Yj))))) aL5)) (Yc Yby))))))
theorem sc_law_drawn:FnScope ["kind","script","many","start","hands","way","more","far","rules"] ["kind","script"] (defScope (top 82)):=fns
theorem cs_law_drawn_0:CompSc ["kind","script","many","start","hands","way","more","far","rules"] (defScope (top 82)) ["k","hands","more"] [none,some 4,some 6] (fsc [(".0",.local),("k",.local),("int",.globalImplicit),("hands",.free),("more",.free)]):=Yz (by decide +kernel)
theorem cs_law_drawn_1:CompSc ["kind","script","many","start","hands","way","more","far","rules"] (defScope (top 82)) ["cell","kind","start","far"] [none,some 0,some 3,some 7] (fsc [(".0",.local),("cell",.local),("_law_rule",.globalImplicit),("far",.free),("kind",.free),("start",.free)]):=Yz (by decide +kernel)
def Ye1:Ro->Option D:=(b2 (lF (dLst (Yg (kD (.str "storm")) (Yg (kD (.str "keeper")) aNil)))) (cC (Yg (orV (mB (b2 (b2 (getC 1) (getC 0) ixD) (kD (.str "keeper")) (eqM false))) (mB (b2 (b2 (getC 2) (getC 0) ixD) (kD (.str "keeper")) (eqM false)))) aNil) intC) ixD)
def Ye2:Ro->Option D:=(cC (Yg (getV 1) (Yg (getV 0) (Yg (getV 2) (Yg (getV 3) aNil)))) Ygu)
@[simp] def Yok:Ro->Option Out:=(sRet (lF (dLst (Yg (dTup (Yg (getV 0) (Yg (cC (Yg (getC 8) aNil) tupC) aNil))) (Yg (getV 4) (Yg (getV 3) aNil))))))
@[simp] def Yol:Ro->Option Out:=(sSeq (sOwn 8 (Ybq (b1 (lF (slF (getC 1) (some (kD (.int 4))) (some (b2 (kD (.int 4)) (b2 (b2 (getC 5) (kD (.int 32)) divI) (kD (.int 41)) modI) addI)))) Yn) [none,some 0,some 3,some 7] (gSet 0) tY (Ye2))) Yok)
@[simp] def Ydu:Ro->Option Out:=(sSeq (sSet 7 (cC (Yg (getC 2) (Yg (b2 (getC 3) (b2 (lF (Ykp [60,60,60,3,6,12,6,12,6])) (b2 (b2 (getC 5) (kD (.int 3)) divI) (kD (.int 9)) modI) ixD) addI) aNil)) minC)) Yol)
@[simp] def Ybw:Ro->Option Out:=(sSeq (sIf (b2 (b2 (getC 5) (kD (.int 3)) modI) (kD (.int 0)) (eqM false)) (sSeq (sSet 6 (cC (Yg (cC (Yg (getV 1) (Yg (kD (.int 3)) aNil)) Ybp) (Yg (getV 2) aNil)) Yd7)) (sSet 4 (cC (Yg (lF (Ybq (cF (Yg (getV 2) aNil) rng1) [none,some 4,some 6] (gSet 0) tY (Ye1))) aNil) tupC))) sNil) Ydu)
@[simp] def Yom:Ro->Option Out:=(sSeq (sSet 5 (cC (Yg (cC (Yg (getV 1) (Yg (kD (.int 2)) aNil)) Ybp) (Yg (kD (.int 1865811235122147685)) aNil)) Ybu)) Ybw)
@[simp] def Yon:Ro->Option Out:=(sSeq (sSet 4 (cC (Yg (cC (Yg (getV 1) (Yg (kD (.int 1)) aNil)) Ybp) (Yg (getV 2) aNil)) Yd7)) Yom)
@[simp] def Yoo:Ro->Option Out:=(sSeq (sSet 3 (b2 (b2 (cC (Yg (getV 1) (Yg (kD (.int 0)) aNil)) Ybp) (kD (.int 60)) divI) (getC 2) modI)) Yon)
def Yhi:Ro->Option Out:=(sSeq (sSet 2 (b2 (kD (.int 1)) (b2 (cC (Yg (getV 1) (Yg (kD (.int 0)) aNil)) Ybp) (kD (.int 60)) modI) addI)) Yoo)
def Yea:List D->Option D:=runB 2 9 Yhi
theorem Yq3(bl:Bl K w mg):Okf P w K mg base 3 2 "_law_drawn" ["kind","script"] Yea:=by
 refine okfn bl.f82 sc_law_drawn fun hr=>?_
 exact(Yl (Yad 2 sc_law_drawn.nd (Yhc (Yc Yh) (Yc (Ya4 (Yc (Yk (Yc3 bl) hr rfl (Yb (Ye 1) (Yb Yh Yj)) aL2)) (Yc Yh))))) (Yl (Yad 3 sc_law_drawn.nd (Ya4 (Yc (Yf9 (Yc (Yk (Yc3 bl) hr rfl (Yb (Ye 1) (Yb Yh Yj)) aL2)) (Yc Yh))) (Yd 2))) (Yl (Yad 4 sc_law_drawn.nd (Yk (Yjm bl) hr rfl (Yb (Yk (Yc3 bl) hr rfl (Yb (Ye 1) (Yb Yh Yj)) aL2) (Yb (Ye 2) Yj)) aL2)) (Yl (Yad 5 sc_law_drawn.nd (Yk (Yel bl) hr rfl (Yb (Yk (Yc3 bl) hr rfl (Yb (Ye 1) (Yb Yh Yj)) aL2) (Yb Yh Yj)) aL2)) (Yl (Yaa (Yaw hr.units (Yc (Ya4 (Yd 5) (Yc Yh))) (Yc Yh)) (Yl (Yad 6 sc_law_drawn.nd (Yk (Yjm bl) hr rfl (Yb (Yk (Yc3 bl) hr rfl (Yb (Ye 1) (Yb Yh Yj)) aL2) (Yb (Ye 2) Yj)) aL2)) (Ym (Yad 4 sc_law_drawn.nd (Ya6 Yap Ydy rfl bl.Tuple boot_tuple (Yr (Yc (Yai (Yat cs_law_drawn_0 rfl (Ygp rfl bl.Range (Yb (Ye 2) Yj)) (fun _ _ _ _ _=>(Yv 0 cs_law_drawn_0.nd)) (fun _ _ _ _ _=>Ya5) (fun _ _ _ _ _=>(Yi (Yc (Yai (Ycw (Yb Yt (Yb Yt Yj))))) (Yc (Ya6 Yv4 y4e rfl bl.Int boot_int (Yr (Yc (Yqa (Ycf hr.units (Yc (Yi (Yd 1) (Yd 0))) (Yc Yt)) (Ynt (Ycf hr.units (Yc (Yi (Yd 2) (Yd 0))) (Yc Yt))))) Ys))))) (Yau (i:=0) rfl)))) Ys))))) Yu) (Yl (Yad 7 sc_law_drawn.nd (y9 (Ypg rfl) Yxs rfl bl.Min boot_min (Yr (Yd 2) (Yr (Yc (Yhc (Yd 3) (Yc (Yi (Yc (Yai (y1j [60,60,60,3,6,12,6,12,6]))) (Yc (Ya4 (Yc (Yf9 (Yd 5) (Yc Yh))) (Yc Yh))))))) Ys)))) (Yl (Yhw 8 sc_law_drawn.nd cs_law_drawn_1 rfl (Yag (Yai (Yqb (fl:=(some (kD (.int 4)))) (fh:=(some (b2 (kD (.int 4)) (b2 (b2 (getC 5) (kD (.int 32)) divI) (kD (.int 41)) modI) addI))) (Yd 1) (Ytu (Yc Yh)) (Ytu (Yc (Yhc (Yc Yh) (Yc (Ya4 (Yc (Yf9 (Yd 5) (Yc Yh))) (Yc Yh))))))))) (fun _ _ _ _ _=>(Yv 0 cs_law_drawn_1.nd)) (fun _ _ _ _ _=>Ya5) (fun _ _ _ _ _=>(Yk (Ysn bl) hr rfl (Yb (Ye 1) (Yb (Ye 0) (Yb (Ye 2) (Yb (Ye 3) Yj)))) aL4)) (Yau (i:=0) rfl)) (Ym (Yo (Yai (Ycw (Yb (Yac (Yb (Ye 0) (Yb (Ya6 Yap Ydy rfl bl.Tuple boot_tuple (Yr (Yd 8) Ys)) Yj))) (Yb (Ye 4) (Yb (Ye 3) Yj))))))))))))))
theorem sc_law_rule_more:FnScope ["found","hands","start","pick","fixed","row","other"] ["found","hands","start","pick"] (defScope (top 83)):=fns
theorem cs_law_rule_more_0:CompSc ["found","hands","start","pick","fixed","row","other"] (defScope (top 83)) ["row"] [none] (fsc [(".0",.local),("row",.local)]):=Yz (by decide +kernel)
def Ycn:Ro->Option Bool:=(b2 (b2 (getC 0) (kD (.int 1)) ixD) (kD .non) (isN false))
def Yco:Ro->Option D:=(getV 0)
@[simp] def Yi7:Ro->Option Out:=(sRet (cC (Yg (lF (Yhu (lF (dLst (Yg (dTup (Yg (getV 2) (Yg (mB (b2 (b2 (getC 3) (kD (.int 2)) modI) (kD (.int 1)) (eqM false))) aNil))) (Yg (dTup (Yg (getV 6) (Yg (mB (b2 (b2 (b2 (getC 3) (kD (.int 256)) divI) (kD (.int 2)) modI) (kD (.int 1)) (eqM false))) aNil))) aNil)))))) aNil) tupC))
@[simp] def Yi8:Ro->Option Out:=(sSeq (sSet 6 (b2 (getC 2) (b2 (b2 (getC 3) (kD (.int 2)) divI) (b2 (cC (Yg (getC 1) aNil) lenC) (getC 2) subI) modI) addI)) Yi7)
def Ycp:Ro->Option Out:=(sSeq (sIf (b2 (b2 (getC 0) (kD (.int 0)) ixD) (kD (.str "keeper")) (eqM false)) (sSeq (sOwn 4 (Ybq (b1 (b2 (b2 (getC 0) (kD (.int 1)) ixD) (kD (.int 1)) ixD) Yn) [none] (gSet 0) (Ycn) (Yco))) (sSeq (sIf (b2 (cC (Yg (getC 4) aNil) lenC) (kD (.int 0)) gtI) (sSeq (sSet 5 (b2 (getC 4) (b2 (getC 3) (cC (Yg (getC 4) aNil) lenC) modI) ixD)) (sRet (dTup (Yg (dTup (Yg (b2 (getC 5) (kD (.int 0)) ixD) (Yg (b2 (getC 5) (kD (.int 2)) ixD) aNil))) aNil)))) sNil) (sRet (dTup (Yg (dTup (Yg (getV 2) (Yg (kD (.bl false)) aNil))) (Yg (dTup (Yg (getV 2) (Yg (kD (.bl true)) aNil))) aNil)))))) sNil) Yi8)
def Yaq:List D->Option D:=runB 4 7 Ycp
theorem Yjw(bl:Bl K w mg):Okf P w K mg base 1 4 "_law_rule_more" ["found","hands","start","pick"] Yaq:=by
 refine okfn bl.f83 sc_law_rule_more fun hr=>?_
 exact(Yl (Yaa (Yaw hr.units (Yc (Yi (Yd 0) (Yc Yh))) (Yc Yt)) (Yl (Yhw 4 sc_law_rule_more.nd cs_law_rule_more_0 rfl (Yag (Yi (Yc (Yi (Yd 0) (Yc Yh))) (Yc Yh))) (fun _ _ _ _ _=>(Yv 0 cs_law_rule_more_0.nd)) (fun _ _ _ _ _=>(Yhy (Yyh (Yc (Yi (Yd 0) (Yc Yh))) (Yc Ybx)))) (fun _ _ _ _ _=>(Ye 0)) (Yau (i:=0) rfl)) (Yl (Yaa (y8v (Yc (y9 Yak Yct rfl bl.Len PySem.boot_len (Yr (Yd 4) Ys))) (Yc Yh)) (Yl (Yad 5 sc_law_rule_more.nd (Yi (Yd 4) (Yc (Ya4 (Yd 3) (Yc (y9 Yak Yct rfl bl.Len PySem.boot_len (Yr (Yd 4) Ys))))))) (Ym (Yo (Yac (Yb (Yac (Yb (Yi (Yd 5) (Yc Yh)) (Yb (Yi (Yd 5) (Yc Yh)) Yj))) Yj))))) Yu) (Ym (Yo (Yac (Yb (Yac (Yb (Ye 2) (Yb Yby Yj))) (Yb (Yac (Yb (Ye 2) (Yb Yby Yj))) Yj))))))) Yu) (Yl (Yad 6 sc_law_rule_more.nd (Yhc (Yd 2) (Yc (Ya4 (Yc (Yf9 (Yd 3) (Yc Yh))) (Yc (Yiu (Yc (y9 Yak Yct rfl bl.Len PySem.boot_len (Yr (Yd 1) Ys))) (Yd 2))))))) (Ym (Yo (Ya6 Yap Ydy rfl bl.Tuple boot_tuple (Yr (Yc (Yai (Yqd rfl hr.units rfl bl.Sorted rfl bl.Set (Yc (Yai (Ycw (Yb (Yac (Yb (Ye 2) (Yb (Ycf hr.units (Yc (Ya4 (Yd 3) (Yc Yh))) (Yc Yh)) Yj))) (Yb (Yac (Yb (Ye 6) (Yb (Ycf hr.units (Yc (Ya4 (Yc (Yf9 (Yd 3) (Yc Yh))) (Yc Yh))) (Yc Yh)) Yj))) Yj)))))))) Ys))))))
theorem sc_law:FnScope ["script","book","hands","start","found","pick","more","again"] ["script"] (defScope (top 84)):=fns
def Yop:Ro->Option Out:=(sRet (andV (cC (Yg (getV 7) (Yg (getV 6) (Yg (getV 2) (Yg (getV 3) aNil)))) Ybv) (mB (b2 (b2 (getC 7) (kD (.int 0)) ixD) (b2 (getC 4) (kD (.int 0)) ixD) (eqM false)))))
def Yoq:Ro->Option Out:=(sSeq (sSet 7 (cC (Yg (getV 6) (Yg (lF (cF (Yg (getC 2) aNil) Yut)) (Yg (getV 3) aNil))) Yaj)) Yop)
def Yor:Ro->Option Out:=(sSeq (sSet 6 (dTup (Yg (kD (.str "eithers")) (Yg (b2 (b2 (getC 1) (kD (.int 1)) ixD) (dTup (Yg (cC (Yg (getV 4) (Yg (getV 2) (Yg (getV 3) (Yg (getV 5) aNil)))) Yaq) aNil)) Yyb) aNil)))) Yoq)
def Yos:Ro->Option Out:=(sSeq (sSet 5 (cC (Yg (cC (Yg (getV 0) (Yg (kD (.int 3)) aNil)) Ybp) (Yg (kD (.int 2049848353892358983)) aNil)) Ybu)) Yor)
def Yot:Ro->Option Out:=(sSeq (sIf (notT (b1 (cC (Yg (getV 4) (Yg (getV 1) (Yg (getV 2) (Yg (getV 3) aNil)))) Ybv) truD)) (sRet (kD (.bl false))) sNil) Yos)
def You:Ro->Option Out:=(sSeq (sSet 4 (cC (Yg (getV 1) (Yg (getV 2) (Yg (getV 3) aNil))) Yaj)) Yot)
def y5o:Ro->Option Out:=(sSeq (sAsg (cC (Yg (kD (.str "eithers")) (Yg (getV 0) aNil)) Yea) (Ytz 1 2 3)) You)
def Ysp:List D->Option D:=runB 1 8 y5o
theorem y83(bl:Bl K w mg){a:Addr}{fd:FuncData}(F:Fun K "law" "law" (top 84) a fd):FnOk P w K mg base CX0 21 a fd ["script"] (spOf K 1 Ysp):=by
 refine Ymr (k:=20) F sc_law rfl rfl fun cdv A outer s H E hr=>?_
 exact(Yl (y5j (Yy0 1 2 3 rfl sc_law.nd) (Yk (Yq3 bl) hr rfl (Yb Yt (Yb (Ye 0) Yj)) aL2)) (Yl (Yad 4 sc_law.nd (Yk (Yfb bl) hr rfl (Yb (Ye 1) (Yb (Ye 2) (Yb (Ye 3) Yj))) aL3)) (Yl (Yaa (Yep (Ybf (Yc (Yk (Ylh bl) hr rfl (Yb (Ye 4) (Yb (Ye 1) (Yb (Ye 2) (Yb (Ye 3) Yj)))) aL4)))) (Ym (Yo Yby)) Yu) (Yl (Yad 5 sc_law.nd (Yk (Yel bl) hr rfl (Yb (Yk (Yc3 bl) hr rfl (Yb (Ye 0) (Yb Yh Yj)) aL2) (Yb Yh Yj)) aL2)) (Yl (Yad 6 sc_law.nd (Yac (Yb Yt (Yb (y1o (Yc (Yi (Yd 1) (Yc Yh))) (Yc (Yac (Yb (Yk (Yjw bl) hr rfl (Yb (Ye 4) (Yb (Ye 2) (Yb (Ye 3) (Yb (Ye 5) Yj)))) aL4) Yj)))) Yj)))) (Yl (Yad 7 sc_law.nd (Yk (Yfb bl) hr rfl (Yb (Ye 6) (Yb (Yai (Ye9 Yf3 Ynh rfl bl.List boot_list (Yr (Yd 2) Ys))) (Yb (Ye 3) Yj))) aL3)) (Ym (Yo (Yeq (Yk (Ylh bl) hr rfl (Yb (Ye 7) (Yb (Ye 6) (Yb (Ye 2) (Yb (Ye 3) Yj)))) aL4) (Ydo (Ycf hr.units (Yc (Yi (Yd 7) (Yc Yh))) (Yc (Yi (Yd 4) (Yc Yh))))))))))))))
end
abbrev Yov:Nat:=21
theorem all_mk{l:W.OpenLaw}{w:World}{K:W.Frag}{h:Heap}{mg:Str->Option Value}{fa uo:Addr}(X:K.In h)(G:h.Ns mainGlobals mg)(hfa:mg "law"=some (.ref fa))
 {ux uq:Option Addr} {uy:Array (Option Value)} {uz ut uu uv um uw:Value}
 (F_beacons_with:Fk K "beacons_with" 1)
 (F_contrary:Fk K "contrary" 4)
 (F_led_to:Fk K "led_to" 5)
 (F_is_road:Fk K "is_road" 6)
 (F_traced:Fk K "traced" 7)
 (F_ways_from:Fk K "ways_from" 8)
 (F_exchanged_rule:Fk K "exchanged_rule" 14)
 (F_exchanged:Fk K "exchanged" 15)
 (F_either_holds:Fk K "either_holds" 17)
 (F_sum_holds:Fk K "sum_holds" 18)
 (F_if_holds:Fk K "if_holds" 19)
 (F_rule_holds:Fk K "rule_holds" 20)
 (F_beacons_in:Fk K "beacons_in" 23)
 (F_is_void:Fk K "is_void" 24)
 (F_is_broken:Fk K "is_broken" 33)
 (F_lead_there_and_back:Fk K "lead_there_and_back" 34)
 (F_clash_good:Fk K "clash_good" 35)
 (F_cross_good:Fk K "cross_good" 36)
 (F_late_good:Fk K "late_good" 37)
 (F_either_paper_good:Fk K "either_paper_good" 43)
 (F_storm_good:Fk K "storm_good" 44)
 (F_sayings_of:Fk K "sayings_of" 46)
 (F_lead_to_one_another:Fk K "lead_to_one_another" 47)
 (F_clash_found:Fk K "clash_found" 48)
 (F_cross_found:Fk K "cross_found" 49)
 (F_late_found:Fk K "late_found" 50)
 (F_storms_paper:Fk K "storms_paper" 51)
 (F_free_saying:Fk K "free_saying" 52)
 (F_truths_made:Fk K "truths_made" 53)
 (F_plan_row:Fk K "plan_row" 54)
 (F_either_outcome:Fk K "either_outcome" 55)
 (F_rows_by_beacon:Fk K "rows_by_beacon" 57)
 (F_is_plan_row:Fk K "is_plan_row" 58)
 (F_come_to:Fk K "come_to" 59)
 (F_either_is_kept:Fk K "either_is_kept" 60)
 (F_plan_good:Fk K "plan_good" 61)
 (F_keeper_good:Fk K "keeper_good" 70)
 (F_good:Fk K "good" 72)
 (F_law_cell:Fk K "_law_cell" 74)
 (F_law_mixed:Fk K "_law_mixed" 75)
 (F_law_hands:Fk K "_law_hands" 76)
 (F_law_rule:Fk K "_law_rule" 78)
 (F_law_plain:Fk K "_law_plain" 79)
 (F_law_truths:Fk K "_law_truths" 80)
 (F_law_good:Fk K "_law_good" 81)
 (F_law_drawn:Fk K "_law_drawn" 82)
 (F_law_rule_more:Fk K "_law_rule_more" 83)
 (u0:W.nsIn K mainGlobals "law"=some (some (.ref uo))) (u4:K.lookup uo=some ⟨uz,ux,.func (W.fnOf "law" "law" (defArgs (top 84)) (defBody (top 84)) (defScope (top 84)) .none ut uu uv uq um uw),uy⟩) (u5:W.codeIn K um "law"=true) (u6:W.keepIn K (.ref uo)=true)
 {ua:Addr} {uj:_} {ub uc ud ue uf ug uh ui:_} (uk:W.nsIn K mainGlobals "EXCHANGED_KINDS"=some (some (.ref ua))) (ul:K.lookup ua=some ⟨.type "dict",none,.dict #[⟨PyData.keyHash w.params (Str.ofString "eithers"),.str "eithers" ub,.str "eithers" uc⟩,⟨PyData.keyHash w.params (Str.ofString "sums"),.str "sums" ud,.str "sums" ue⟩,⟨PyData.keyHash w.params (Str.ofString "ifs"),.str "ifs" uf,.str "nots" ug⟩,⟨PyData.keyHash w.params (Str.ofString "nots"),.str "nots" uh,.str "ifs" ui⟩] uj,#[]⟩)
 (z_len:W.nsIn K mainGlobals "len"=some none)
 (z_range:W.nsIn K mainGlobals "range"=some none)
 (z_list:W.nsIn K mainGlobals "list"=some none)
 (z_tuple:W.nsIn K mainGlobals "tuple"=some none)
 (z_int:W.nsIn K mainGlobals "int"=some none)
 (z_bool:W.nsIn K mainGlobals "bool"=some none)
 (z_str:W.nsIn K mainGlobals "str"=some none)
 (z_sorted:W.nsIn K mainGlobals "sorted"=some none)
 (z_any:W.nsIn K mainGlobals "any"=some none)
 (z_all:W.nsIn K mainGlobals "all"=some none)
 (z_isinstance:W.nsIn K mainGlobals "isinstance"=some none)
 (z_reversed:W.nsIn K mainGlobals "reversed"=some none)
 (z_set:W.nsIn K mainGlobals "set"=some none)
 (z_min:W.nsIn K mainGlobals "min"=some none)
 (z_dict:W.nsIn K mainGlobals "dict"=some none)
 : ∃fd:FuncData,(∀(s:Shared) (v:Value),BindsTo s fd ⟨[v],[]⟩ [("script",v)])/\∀base:Heap,K.In base->base.Ns mainGlobals mg->FnOk l.prog w K mg base CX0 Yov fa fd ["script"] (spOf K 1 Ysp):=by
 have e:=hfa.symm.trans (W.mg_of X G u0)
 cases e
 have bl:Bl K w mg:=⟨W.mg_none_of X G z_len,W.mg_none_of X G z_range,W.mg_none_of X G z_list,W.mg_none_of X G z_tuple,W.mg_none_of X G z_int,W.mg_none_of X G z_bool,W.mg_none_of X G z_str,W.mg_none_of X G z_sorted,W.mg_none_of X G z_any,W.mg_none_of X G z_all,W.mg_none_of X G z_isinstance,W.mg_none_of X G z_reversed,W.mg_none_of X G z_set,W.mg_none_of X G z_min,W.mg_none_of X G z_dict,⟨_,_,_,_,W.mg_of X G uk,ul,⟨rfl,rfl,rfl⟩,rfl,(.cons ⟨rfl,⟨_,rfl⟩,⟨_,rfl⟩,by decide +kernel⟩ (.cons ⟨rfl,⟨_,rfl⟩,⟨_,rfl⟩,by decide +kernel⟩ (.cons ⟨rfl,⟨_,rfl⟩,⟨_,rfl⟩,by decide +kernel⟩ (.cons ⟨rfl,⟨_,rfl⟩,⟨_,rfl⟩,by decide +kernel⟩ .nil))))⟩,F_beacons_with.on X G,F_contrary.on X G,F_led_to.on X G,F_is_road.on X G,F_traced.on X G,F_ways_from.on X G,F_exchanged_rule.on X G,F_exchanged.on X G,F_either_holds.on X G,F_sum_holds.on X G,F_if_holds.on X G,F_rule_holds.on X G,F_beacons_in.on X G,F_is_void.on X G,F_is_broken.on X G,F_lead_there_and_back.on X G,F_clash_good.on X G,F_cross_good.on X G,F_late_good.on X G,F_either_paper_good.on X G,F_storm_good.on X G,F_sayings_of.on X G,F_lead_to_one_another.on X G,F_clash_found.on X G,F_cross_found.on X G,F_late_found.on X G,F_storms_paper.on X G,F_free_saying.on X G,F_truths_made.on X G,F_plan_row.on X G,F_either_outcome.on X G,F_rows_by_beacon.on X G,F_is_plan_row.on X G,F_come_to.on X G,F_either_is_kept.on X G,F_plan_good.on X G,F_keeper_good.on X G,F_good.on X G,F_law_cell.on X G,F_law_mixed.on X G,F_law_hands.on X G,F_law_rule.on X G,F_law_plain.on X G,F_law_truths.on X G,F_law_good.on X G,F_law_drawn.on X G,F_law_rule_more.on X G⟩
 have u7:=y2e (st:=(top 84)) u4 u5 u6
 refine⟨W.fnOf "law" "law" (defArgs (top 84)) (defBody (top 84)) (defScope (top 84)) .none ut uu uv uq um uw,fun s v=>.of_eq rfl,fun base _ _=>?_⟩
 exact y83 bl u7
theorem walk(hlaw:∀ns:List Int,ns.length<=63->Ysp [.scr ns]=some (.bl true)){l:W.OpenLaw}{q:Program}{loose:List Str}{XP:(Str->Option Value)->Heap->Prop}{YP:World->Heap->Prop}{d:DefRec}{K:Params->W.Frag}(hn:l.most=some 63)(hdf:d.params.defaults=[])
 (hY:∀(w:World) (h:Heap),YP w h->(K w.params).In h)
 (F:∀(w:World) (mg:Str->Option Value) (fa:Addr) (h:Heap),(K w.params).In h->h.Ns mainGlobals mg->mg d.name=some (.ref fa)->
  ∃fd:FuncData,(∀(s:Shared) (u:Value),BindsTo s fd ⟨[u],[]⟩ [("script",u)])/\∀base:Heap,(K w.params).In base->base.Ns mainGlobals mg->FnOk l.prog w (K w.params) mg base CX0 Yov fa fd ["script"] (spOf (K w.params) 1 Ysp)) :
 W.WalkO q loose XP YP l.row.toRowW d [] (fun f vs=>PySem.call f vs):=
 L2.walk_of (n:=63) (k:=Yov) (x:="script") (CX:=fun _=>CX0) (sp:=fun w=>spOf (K w.params) 1 Ysp) hn (by decide) hdf ⟨rfl,by decide,by decide⟩ hY F
  (fun w H a ns hl _ hS=>⟨rfl,[.scr ns],.bl true,H,Same.refl H,.one (by rw[Rp];exact⟨a,rfl,hS⟩),hlaw ns hl,fun v H' G' g r=>by rw[Rp]at r;exact r⟩) fun _ _ _ _ _ z=>z
end Lw
namespace Lw
open PySem L2 M Bk
theorem Yq4(ns:List Int)(k:Nat):Ybp [.scr ns,.int k]=some (.int (ns.getD k 0)):=by
 rw[Ybp,Yx (by rfl)]
 by_cases h:k < ns.length
 ·have e:atI (ns.map D.int) (k:Int)=some (.int ns[k]):=by
   rw[Yd1,Ygr h]
   rfl
  simp[Yi5,Yq,h,e]
 ·simp[Yi5,Yq,h]
end Lw
namespace Lw
open PySem L2 M Bk
theorem y5p(ns:List Int)(a b:Nat):cutD (ns.map D.int) (some (a:Int)) (some (b:Int))=((ns.drop (min a ns.length)).take (min b ns.length - min a ns.length)).map D.int:=by
 unfold cutD
 rw[HT.sIx_nat,HT.sIx_nat]
 simp
theorem drawn{fe:Ro->Option D}{r:Ro}{P:Rl->Prop}(h:∀c:Int,∃x:Rl,P x/\fe (some (.sh (.int c))::r)=some (rlD x)):∀cells:List Int,∃R:List Rl,R.length=cells.length/\(∀x∈R,P x)/\Yeb (gSet 0) tY fe (none::r) (cells.map D.int)=some (R.map rlD)
 | []=>⟨[],rfl,fun _ h=>(nomatch h),rfl⟩
 | c::cells=>by
   obtain⟨R,h1,h2,h3⟩:=drawn h cells
   obtain⟨x,hx,hr⟩:=h c
   refine⟨x::R,by simp[h1],fun y hy=>?_,?_⟩
   ·rcases qt hy with rfl | hy
    ·exact hx
    ·exact h2 y hy
   ·rw[Qc,Yeb,h3]
    simp[hr]
end Lw
namespace Lw
open PySem L2 M Bk
theorem Yow(c m:Int):∃v:Int,0<=v/\Ybu [.int c,.int m]=some (.int v):=by
 refine⟨c % 2305843009213693951 * m % 2305843009213693951,Int.emod_nonneg _ (by decide),?_⟩
 rw[Ybu,Yx (by rfl)]
 have h1:0<=c % 2305843009213693951:=Int.emod_nonneg _ (by decide)
 have h2:c % 2305843009213693951 < 2305843009213693951:=Int.emod_lt_of_pos _ (by decide)
 have h3:mulI (.int (c % 2305843009213693951)) (.int m)=some (.int (c % 2305843009213693951 * m)):=y1q ⟨by omega,by omega⟩
 simp[Ylc,Yq,h3]
end Lw
namespace Lw
open PySem L2 M Bk
section
variable {c:D} {ev:List Bool} (hc:Yn c=some (ev.map D.bl))
include hc
theorem Yma{l:List Say}(hl:∀s∈l,s.1 < ev.length):Yc6 [rlD (.ei l),c]=some (.bl (l.any fun s=>at' ev s.1==s.2)):=by
 have h:=Yes (fe:=Yc1) (r:=[some (.sh c)]) (enc:=sayD) (fun s=>.bl (at' ev s.1==s.2)) (l:=l) (fun s hs=>by
  simp[Yc1,hc,y1u (hl s hs)])
 rw[Yc6,Yx (by rfl)]
 simp[Yg4,Yq,capR,h,Function.comp_def]
theorem Ysq{b:List Nat}{o:Bool}(hl:∀x∈b,x < ev.length):Yfl [rlD (.su b o),c]=some (.bl (decide ((b.filter (at' ev)).length % 2=1)==o)):=by
 have h:=Ytx (fc:=Yeu) (fe:=Yev) (r:=[some (.sh c)]) (enc:=nD) (at' ev) nD (l:=b) (fun s hs=>by
  simp[Yeu,hc,nD,y1u (hl s hs)]) (fun s _ _=>by simp[Yev])
 have e:∀n:Nat,decide (((n:Nat):Int) % 2=1)=decide (n % 2=1):=fun n=>by
  by_cases z:n % 2=1
  ·have:((n:Nat):Int) % 2=1:=by omega
   simp[z,this]
  ·have:¬((n:Nat):Int) % 2=1:=by omega
   simp[z,this]
 rw[Yfl,Yx (by rfl)]
 simp[Yk3,Yq,capR,h,e]
theorem Ymy{b:List Nat}{h:Option Nat}{w:Bool}(hl:∀x∈b,x < ev.length)(hh:∀x,h=some x->x < ev.length):Ygt [rlD (.im b h),c,.bl w]=some (.bl ((b.any fun x=>at' ev x != w)||hd ev w h)):=by
 have h1:=Yes (fe:=Yfm) (r:=[some (.sh c),some (.sh (.bl w))]) (enc:=nD) (fun x=>.bl (at' ev x != w)) (l:=b) (fun s hs=>by
  simp[Yfm,hc,nD,y1u (hl s hs),bne])
 rw[Ygt,Yx (by rfl)]
 cases hb:(b.any fun x=>at' ev x != w)with
 | true=>simp[Ygs,Yq,capR,h1,Function.comp_def,hb]
 | false=>
   cases h with
   | none=>simp[Ygs,Yq,capR,h1,Function.comp_def,hb,optD,hd]
   | some x=>simp[Ygs,Yq,capR,h1,Function.comp_def,hb,optD,hd,hc,y1u (hh x rfl)]
theorem Yq5{k:Kd}{r:Rl}(hr:In k ev.length r):Yeg [kdD k,rlD r,c]=some (.bl (so k ev r)):=by
 rw[Yeg,Yx (by rfl)]
 cases r with
 | ei l=>
   obtain⟨rfl,hl⟩:=hr
   simp[Ydc,Yq,Yma hc hl,so]
 | su b o=>
   obtain⟨rfl,hl⟩:=hr
   simp[Ydc,Yq,Ysq hc hl,so]
 | im b h=>
   obtain⟨hk,hl,hh⟩:=hr
   rcases hk with rfl | rfl
   ·simp[Ydc,Yq,Ymy hc hl hh,so]
   ·simp[Ydc,Yq,Ymy hc hl hh,so]
end
end Lw
namespace Lw
open PySem L2 M Bk
theorem Yq6{k:Kd}{n:Nat}{r:Rl}(hr:In k n r)(hs:sz r<=999999):Yeh [kdD k,rlD r]=some (.lst ((bcs r).map nD)):=by
 rw[Yeh,Yx (by rfl)]
 cases r with
 | ei l=>
   obtain⟨rfl,_⟩:=hr
   have h:=Yes (fe:=Yd4) (r:=[]) (enc:=sayD) (fun s=>nD s.1) (l:=l) (fun s _=>by simp[Yd4])
   simp[Ydd,Yq,capR,h,bcs,Function.comp_def]
 | su b o=>
   obtain⟨rfl,_⟩:=hr
   simp[Ydd,Yq,bcs]
 | im b h=>
   obtain⟨hk,_⟩:=hr
   have hke:¬k=.e:=by rcases hk with rfl | rfl<;>decide
   have hks:¬k=.s:=by rcases hk with rfl | rfl<;>decide
   have hs':b.length+1<=1000000:=by simp[sz]at hs;omega
   cases h with
   | none=>simp[Ydd,Yq,bcs,hke,hks,optD]
   | some x=>simp[Ydd,Yq,bcs,hke,hks,optD,catD,hs']
end Lw
namespace Lw
open PySem L2 M Bk
end Lw
namespace Lw
open PySem L2 M Bk
def flS(s:Say):Say:=(s.1,!s.2)
theorem Yfc(s:Say):Ya7 [sayD s]=some (sayD (flS s)):=by
 rw[Ya7,Yx (by rfl)]
 simp[Yix,Yq,sayD,flS]
end Lw
namespace Lw
open PySem L2 M Bk
def srtS:List Say->List Say
 | [a,b]=>if plt b.1 b.2 a.1 a.2=true then [b,a]else [a,b]
 | l=>l
theorem y5q{l:List Say}(h:l.length<=2):Yjp [.lst (l.map sayD)]=some ((srtS l).map sayD):=by
 match l,h with
 | [],_=>rfl
 | [a],_=>rfl
 | [a,b],_=>
   have e:Yjp [.lst ([a,b].map sayD)]=some (if plt b.1 b.2 a.1 a.2=true then [sayD b,sayD a]else [sayD a,sayD b]):=rfl
   rw[e,srtS]
   split<;>rfl
end Lw
namespace Lw
open PySem L2 M Bk
theorem Yy9{k:Kd}{n:Nat}{r:Rl}(hr:In k n r)(hs:sz r<=999999):Yh7 [kdD k,rlD r]=some (.bl (eqD (rlD r) (rlD (vd k)))):=by
 rw[Yh7,Yx (by rfl)]
 have hb:=Yq6 hr hs
 by_cases h0:bcs r=[]
 ·have hin:In k 0 r:=by
   cases r with
   | ei l=>
     simp[bcs]at h0
     subst h0
     exact⟨hr.1,by simp⟩
   | su l o=>
     simp[bcs]at h0
     subst h0
     exact⟨hr.1,by simp⟩
   | im l o=>
     cases o with
     | none=>
       simp[bcs]at h0
       subst h0
       exact⟨hr.1,by simp,by simp⟩
     | some x=>simp[bcs]at h0
  have hh:=Yq5 (c:=.tup []) (ev:=[]) rfl (k:=k) (r:=r) hin
  have he:eqD (rlD r) (rlD (vd k))=!so k [] r:=by
   cases r with
   | ei l=>
     obtain⟨rfl,_⟩:=hr
     simp[bcs]at h0
     subst h0
     simp[rlD,vd,so]
   | su l o=>
     obtain⟨rfl,_⟩:=hr
     simp[bcs]at h0
     subst h0
     cases o<;>simp[rlD,vd,so]
   | im l o=>
     cases o with
     | none=>
       simp[bcs]at h0
       subst h0
       have:eqD .non .non=true:=by simp[eqD,toPy,PyData.eqv]
       rcases hr.1 with rfl | rfl<;>simp[rlD,vd,so,optD,hd,this]
     | some x=>simp[bcs]at h0
  rw[h0]at hb
  simp at hb
  simp[Yk4,Yq,hb,hh,he]
 ·have hlen:¬((bcs r).length:Int)=0:=by
   intro z
   exact h0 (List.length_eq_zero_iff.mp (by omega))
  have he:eqD (rlD r) (rlD (vd k))=false:=by
   cases r with
   | ei l=>
     obtain⟨rfl,_⟩:=hr
     cases l with
     | nil=>simp[bcs]at h0
     | cons s l=>simp[rlD,vd]
   | su l o=>
     obtain⟨rfl,_⟩:=hr
     cases l with
     | nil=>simp[bcs]at h0
     | cons s l=>simp[rlD,vd]
   | im l o=>
     have e1:∀x:Nat,eqD (.int (x:Int)) .non=false:=fun x=>by simp[eqD,toPy,PyData.eqv]
     cases l with
     | nil=>cases o with
       | none=>simp[bcs]at h0
       | some x=>rcases hr.1 with rfl | rfl<;>simp[rlD,vd,optD,e1]
     | cons s l=>rcases hr.1 with rfl | rfl<;>simp[rlD,vd]
  simp[Yk4,Yq,hb,h0,he]
end Lw
namespace Lw
open PySem L2 M Bk
def exR:Rl->Rl
 | .ei l=>.ei (srtS (l.map flS))
 | .su l o=>.su l (o != decide (l.length % 2=1))
 | .im l h=>.im l h
def exK:Kd->Kd
 | .e=>.e
 | .s=>.s
 | .i=>.n
 | .n=>.i
theorem Yaa1{k:Kd}{n:Nat}{r:Rl}(h:In k n r)(hs:Srt r):In (exK k) n (exR r)/\Srt (exR r):=by
 cases r with
 | ei l=>
   obtain⟨rfl,h⟩:=h
   obtain⟨h1,h2⟩:=hs
   match l,h1,h2,h with
   | [],_,_,h=>exact⟨⟨rfl,h⟩,by simp[exR,srtS,Srt]⟩
   | [(x,p)],_,_,h=>
     simp at h
     simp[exR,srtS,flS,Srt,Bk.In,exK,h]
   | [(x,p),(y,q)],_,h2,h=>
     simp[slt]at h2 h
     simp only[exR,Qc,List.map_nil,srtS,flS]
     rcases h2 with e | ⟨rfl,rfl,rfl⟩
     ·have h1:¬((y:Int)=x):=by omega
      have h2:¬((y:Int) < x):=by omega
      simp[plt,h1,h2,Bk.In,Srt,exK,h,slt,e]
     ·simp[plt,Bk.In,Srt,exK,h,slt]
 | su l o=>
   obtain⟨rfl,h⟩:=h
   exact⟨⟨rfl,h⟩,hs⟩
 | im l h=>
   obtain⟨hk,h⟩:=h
   refine⟨⟨?_,h⟩,hs⟩
   rcases hk with rfl | rfl
   ·exact .inr rfl
   ·exact .inl rfl
theorem Yjx{k:Kd}{n:Nat}{r:Rl}(h:In k n r)(hs:Srt r):Yb2 [kdD k,rlD r]=some (rlD (exR r)):=by
 rw[Yb2,Yx (by rfl)]
 cases r with
 | ei l=>
   obtain⟨rfl,_⟩:=h
   have h1:=Yes (fe:=Yb9) (r:=[]) (enc:=sayD) (fun s=>sayD (flS s)) (l:=l) (fun s _=>by simp[Yb9,Yfc])
   have h2:=y5q (l:=l.map flS) (by simpa using hs.1)
   rw[Qd]at h2
   simp[Function.comp_def]at h2
   simp[Yb1,Yq,capR,h1,h2,exR,y5i]
 | su l o=>
   obtain⟨rfl,_⟩:=h
   have e:((l.length:Int) % 2=1)↔(l.length % 2=1):=by omega
   simp[Yb1,Yq,exR,e]
   cases o<;>by_cases h:l.length % 2=1<;>simp[h,rlD,e]
 | im l h=>
   obtain⟨hk,_⟩:=h
   rcases hk with rfl | rfl<;>simp[Yb1,Yq,exR]
theorem Yza(k:Kd):Yxi gt_EXCHANGED_KINDS (kdD k)=some (kdD (exK k)):=by
 have h:gt_EXCHANGED_KINDS.lookup (kS k)=some (kS (exK k)):=by cases k<;>decide +kernel
 show(gt_EXCHANGED_KINDS.lookup (kS k)).map D.str=_
 rw[h]
 rfl
theorem Ysr{k:Kd}{n:Nat}{R:List Rl}(h:∀r∈R,In k n r/\Srt r):Yd3 [Ygx k R]=some (Ygx (exK k) (R.map exR)):=by
 rw[Yd3,Yx (by rfl)]
 have h1:=Yes (fe:=Yet) (r:=[some (.sh (kdD k))]) (enc:=rlD) (fun r=>rlD (exR r)) (l:=R) (fun r hr=>by simp[Yet,Yjx (h r hr).1 (h r hr).2])
 simp[Yk0,Yq,Ygx,capR,Yza,h1,Function.comp_def]
end Lw
namespace Lw
open PySem L2 M Bk
def hdD(b:Bool):D:=.str (if b=true then Str.ofString "keeper" else Str.ofString "storm")
theorem Yli(c:Int)(n:Nat)(hn:n<=1000):∃hs:List Bool,hs.length=n/\Yd7 [.int c,.int n]=some (.tup (hs.map hdD)):=by
 obtain⟨v,hv0,hv⟩:=Yow c 1442695040888963407
 rw[Yd7,Yx (by rfl)]
 have hr:=Ykv (n:=(n:Int)) (by omega) (by omega)
 rw[Yhf]at hr
 have hc:=Yes (fe:=Yc7) (r:=[some (.sh (.int v))]) (enc:=fun i:Nat=>D.int (0+(i:Nat))) (fun i:Nat=>hdD (decide (v / 2 ^ i % 2=0))) (l:=List.range ((n:Int) - 0).toNat) (fun i _=>by
  have h1:=Yxt v i
  have h2:v / 2 ^ i % 2=0\/v / 2 ^ i % 2=1:=by omega
  have e0:(0:Int)+(i:Int)=(i:Int):=by omega
  rw[e0]
  rcases h2 with h2 | h2
  ·simp[Yc7,h1,h2,hdD]
  ·simp[Yc7,h1,h2,hdD])
 refine⟨(List.range n).map fun i:Nat=>decide (v / 2 ^ i % 2=0),by simp,?_⟩
 simp[Yld,Yq,hv,hr,capR]at hc ⊢
 rw[hc]
 simp[Function.comp_def]
end Lw
namespace Lw
open PySem L2 M Bk
theorem Yq7(l:List Nat)(hn:l.Nodup)(hl:l.length < 64):∃l':List Nat,l'.Perm l/\l'.Pairwise (· < ·)/\Yjp [.lst (l.map nD)]=some (l'.map nD):=by
 have e1:l.map nD=(l.map Int.ofNat).map D.int:=by simp[nD,Function.comp_def]
 have hp:=Ygn (l.map Int.ofNat)
 have hs:=Yf6 (l.map Int.ofNat)
 have e2:∃l':List Nat,Yls (l.map Int.ofNat)=l'.map Int.ofNat:=by
  have hm:∀x∈Yls (l.map Int.ofNat),0<=x:=fun x hx=>by
   obtain⟨y,_,rfl⟩:=qx (hp.mem_iff.mp hx)
   exact Int.natCast_nonneg y
  refine⟨(Yls (l.map Int.ofNat)).map Int.toNat,?_⟩
  rw[Qd]
  refine(List.map_id _).symm.trans (List.map_congr_left fun x hx=>?_)
  have:=hm x hx
  simp[Function.comp_def]
  omega
 obtain⟨l',e2⟩:=e2
 rw[e2]at hp hs
 have hp':l'.Perm l:=by
  have:=hp.map Int.toNat
  simpa [Function.comp_def]using this
 refine⟨l',hp',?_,?_⟩
 ·have hn':l'.Nodup:=hp'.nodup_iff.mpr hn
  have hs':l'.Pairwise (·<=·):=by
   have:=List.pairwise_map.mp hs
   exact this.imp fun h=>by simpa using h
  exact(hs'.and hn').imp fun h=>Nat.lt_of_le_of_ne h.1 h.2
 ·show y0s (l.map nD)=_
  rw[e1]
  unfold y0s
  rw[Ygd]
  simp[hl,e2,nD,Function.comp_def]
theorem Yzb(l:List Say)(h:l.length<=2)(hn:(l.map (·.1)).Nodup):∃l':List Say,l'.Perm l/\l'.Pairwise slt/\Yjp [.lst (l.map sayD)]=some (l'.map sayD):=by
 match l,h,hn with
 | [],_,_=>exact⟨[],.refl _,.nil,rfl⟩
 | [a],_,_=>exact⟨[a],.refl _,by simp,rfl⟩
 | [a,b],_,hn=>
   have hab:a.1≠b.1:=by simpa using hn
   have e:Yjp [.lst ([a,b].map sayD)]=some (if plt b.1 b.2 a.1 a.2=true then [sayD b,sayD a]else [sayD a,sayD b]):=rfl
   obtain⟨x,p⟩:=a
   obtain⟨y,q⟩:=b
   have hxy:¬(y:Int)=(x:Int):=fun z=>hab (by simp;omega)
   cases hp:plt (y:Int) q (x:Int) p with
   | true=>
     refine⟨[(y,q),(x,p)],.swap _ _ [],?_,by rw[e];simp[hp]⟩
     unfold plt at hp
     rw[if_neg hxy]at hp
     simp at hp
     simp[slt,hp]
   | false=>
     refine⟨[(x,p),(y,q)],.refl _,?_,by rw[e];simp[hp]⟩
     unfold plt at hp
     rw[if_neg hxy]at hp
     simp at hp
     have:x < y:=by omega
     simp[slt,this]
theorem y5r(k:Kd)(c:Int)(st n:Nat)(h0:st < n)(hn:n<=1000):∃r:Rl,In k n r/\Srt r/\(∀x∈bcs r,st<=x)/\Ygu [kdD k,.int c,.int st,.int n]=some (rlD r):=by
 obtain⟨v,hv0,hv⟩:=Yow c 1181783497276652981
 have hd0:(0:Int) < (n:Int) - st:=by omega
 have hd1:(n:Int) - st < 1073741824:=by omega
 have hmod:∀x:Int,modI (.int x) (.int ((n:Int) - st))=some (.int (x % ((n:Int) - st))):=fun x=>Yhz hd0
 have hdiv:∀x:Int,divI (.int x) (.int ((n:Int) - st))=some (.int (x / ((n:Int) - st))):=fun x=>y1r hd0 hd1
 have hbe:∀x:Int,∃b:Nat,st<=b/\b < n/\(st:Int)+x % ((n:Int) - st)=(b:Int):=fun x=>by
  have h1:=Int.emod_nonneg x (show(n:Int) - st≠0 by omega)
  have h2:=Int.emod_lt_of_pos x hd0
  exact⟨((st:Int)+x % ((n:Int) - st)).toNat,by omega,by omega,by omega⟩
 have hst:Yq 8 [kdD k,.int c,.int st,.int n]=[some (.sh (kdD k)),some (.sh (.int c)),some (.sh (.int st)),some (.sh (.int n)),none,none,none,none]:=rfl
 rw[Ygu,Yx (by rfl),hst]
 obtain⟨sz0,hsm,hsa⟩:=Ysb (l:=([1,2,2,2,1,2,3,4]:List Int)) (i:=v % 8) (by omega) (by simp;omega)
 have hsz0:1<=sz0/\sz0<=4:=by
  simp at hsm
  omega
 have hix:atI [D.int 1,D.int 2,D.int 2,D.int 2,D.int 1,D.int 2,D.int 3,D.int 4] (v % 8)=some (.int sz0):=by
  rw[show[D.int 1,D.int 2,D.int 2,D.int 2,D.int 1,D.int 2,D.int 3,D.int 4]=([1,2,2,2,1,2,3,4]:List Int).map D.int from rfl,Yd1,hsa]
  rfl
 have hki:∀ρ:Ro,Ykp [1,2,2,2,1,2,3,4] ρ=some (([1,2,2,2,1,2,3,4]:List Int).map D.int):=fun ρ=>by
  unfold Ykp
  rw[if_pos (by decide)]
 have loop:∀(size:Int),0<=size->size<=4->∃(l:List Nat) (left:Int) (y:Option B),(l.length:Int)<=size/\l.Nodup/\(∀x∈l,st<=x/\x < n)/\
  M.forM (gSet 7) Ycl ((List.range (size - 0).toNat).map fun i:Nat=>D.int (0+(i:Nat))) [some (.sh (kdD k)),some (.sh (.int c)),some (.sh (.int st)),some (.sh (.int n)),some (.sh (.int (v / 8))),some (.sh (.int size)),some (.ow []),none] =
   some (.nx [some (.sh (kdD k)),some (.sh (.int c)),some (.sh (.int st)),some (.sh (.int n)),some (.sh (.int left)),some (.sh (.int size)),some (.ow (l.map nD)),y]):=by
  intro size hs0 hs4
  obtain⟨ρ',e1,l,left,y,hl,hnd,hlt,rfl⟩:=Ygq (gt:=gSet 7) (fb:=Ycl) (fun i:Nat=>D.int (0+(i:Nat))) (fun pre ρ=>∃(l:List Nat) (left:Int) (y:Option B),l.length<=pre.length/\l.Nodup/\(∀s∈l,st<=s/\s < n)/\
   ρ=[some (.sh (kdD k)),some (.sh (.int c)),some (.sh (.int st)),some (.sh (.int n)),some (.sh (.int left)),some (.sh (.int size)),some (.ow (l.map nD)),y]) (List.range (size - 0).toNat) []
   [some (.sh (kdD k)),some (.sh (.int c)),some (.sh (.int st)),some (.sh (.int n)),some (.sh (.int (v / 8))),some (.sh (.int size)),some (.ow []),none] ⟨[],v / 8,none,qu _,.nil,by simp,rfl⟩ (by
    rintro q a r ρ e ⟨l,left,y,hl,hnd,hlt,rfl⟩
    have hq:q.length < 1000:=by have:=congrArg List.length e;simp at this;omega
    have hcap:l.length < 1000000:=by omega
    obtain⟨b,hb1,hb2,hb⟩:=hbe left
    have hin:=in_n (c:=.lst (l.map nD)) b l true rfl
    simp only[nD]at hin
    by_cases hm:b∈l
    ·refine⟨_,_,rfl,?_,l,left / ((n:Int) - st),some (.sh (.int (0+(a:Int)))),by simp;omega,hnd,hlt,rfl⟩
     simp[Ycl,hmod,hdiv,hb,hin,hm,nD]
    ·refine⟨_,_,rfl,?_,l++[b],left / ((n:Int) - st),some (.sh (.int (0+(a:Int)))),by simp;omega,?_,?_,rfl⟩
     ·simp[Ycl,hmod,hdiv,hb,hin,hm,appD,hcap,nD]
     ·rw[List.nodup_append]
      refine⟨hnd,by simp,?_⟩
      intro x hx y hy z
      simp at hy
      subst hy
      exact hm (z ▸ hx)
     ·intro s hs
      rcases qv hs with hs | hs
      ·exact hlt s hs
      ·simp at hs
       subst hs
       exact⟨hb1,hb2⟩)
  refine⟨l,left,y,?_,hnd,hlt,e1⟩
  simp at hl
  omega
 by_cases hk:k=.e
 ·subst hk
  obtain⟨size,hsz,hs0,hs2⟩:∃size:Int,(if (2:Int) < sz0 then 2 else sz0)=size/\0<=size/\size<=2:=⟨_,rfl,by split<;>omega,by split<;>omega⟩
  obtain⟨l,left,y,hl,hnd,hlt,e1⟩:=loop size hs0 (by omega)
  have hr:=Ykv (n:=size) (by omega) (by omega)
  rw[Yhf]at hr
  have hr2:=Ykv (n:=(l.length:Int)) (by omega) (by omega)
  rw[Yhf]at hr2
  have hc:=Yes (fe:=Ydt) (r:=[some (.sh (.lst (l.map nD))),some (.sh (.int left))]) (enc:=fun i:Nat=>D.int (0+(i:Nat))) (fun i:Nat=>sayD (l.getD i 0,decide (left / 2 ^ i % 2=1))) (l:=List.range ((l.length:Int) - 0).toNat) (fun i hi=>by
   have hi':i < l.length:=by simpa using hi
   have h1:=Yxt left i
   have e0:(0:Int)+(i:Int)=(i:Int):=by omega
   have hat:atI (l.map nD) (i:Int)=some (.int (l.getD i 0:Nat)):=by
    rw[Yd1,Ygr hi']
    simp[hi',nD]
   rw[e0]
   simp[Ydt,h1,hat,sayD])
  generalize hsl:(List.range l.length).map (fun i:Nat=>((l.getD i 0,decide (left / 2 ^ i % 2=1)):Say))=sl
  have hsl1:sl.map (·.1)=l:=by
   rw[<-hsl,Qd]
   refine List.ext_getElem (by simp) fun i h1 h2=>?_
   simp[h2]
  obtain⟨l',hp,hpw,hs⟩:=Yzb sl (by rw[<-hsl];simp;omega) (by rw[hsl1];exact hnd)
  have hmem:∀s∈l',st<=s.1/\s.1 < n:=fun s hs=>hlt s.1 (by rw[<-hsl1];exact List.mem_map_of_mem (hp.mem_iff.mp hs))
  refine⟨.ei l',⟨rfl,fun s hs=>(hmem s hs).2⟩,⟨by rw[hp.length_eq,<-hsl];simp;omega,hpw⟩,fun x hx=>?_,?_⟩
  ·obtain⟨s,hs',rfl⟩:=qx hx
   exact(hmem s hs').1
  ·have hc':Yeb (gSet 0) tY Ydt [none,some (.sh (.lst (l.map nD))),some (.sh (.int left))] ((List.range ((l.length:Int) - 0).toNat).map fun i:Nat=>D.int (0+(i:Nat)))=some (sl.map sayD):=by
    rw[hc,<-hsl,Qd]
    simp[Function.comp_def]
   simp[Ydw,hv,hki,hix,hsz,hr]at e1 ⊢
   rw[e1]
   simp[hr2,capR]at hc' ⊢
   rw[hc']
   simp[hs,rlD]
 ·obtain⟨l,left,y,hl,hnd,hlt,e1⟩:=loop sz0 (by omega) hsz0.2
  have hr:=Ykv (n:=sz0) (by omega) (by omega)
  rw[Yhf]at hr
  obtain⟨l',hp,hpw,hs⟩:=Yq7 l hnd (by omega)
  have hmem:∀s∈l',st<=s/\s < n:=fun s hs=>hlt s (hp.mem_iff.mp hs)
  by_cases hks:k=.s
  ·subst hks
   refine⟨.su l' (decide (left % 2=1)),⟨rfl,fun s hs=>(hmem s hs).2⟩,hpw,fun x hx=>(hmem x hx).1,?_⟩
   simp[Ydw,hv,hki,hix,hr]at e1 ⊢
   rw[e1]
   simp[hs,rlD]
  ·have hki2:k=.i\/k=.n:=by cases k<;>simp at hk hks ⊢
   by_cases h4:left % 4=0
   ·refine⟨.im l' none,⟨hki2,fun s hs=>(hmem s hs).2,fun x hx=>by cases hx⟩,hpw,fun x hx=>(hmem x hx).1,?_⟩
    simp[Ydw,hv,hki,hix,hr,hk,hks]at e1 ⊢
    rw[e1]
    simp[hs,rlD,hks,h4,hk,optD]
   ·obtain⟨b,hb1,hb2,hb⟩:=hbe (left / 4)
    by_cases h1:left % 4=1
    ·have hcut:cutD (l.map nD) (some 1) none=(l.map nD).drop 1:=by
      have hm:=HT.sIx_nat (l.map nD).length 0 1
      unfold cutD
      simp at hm
      simp[hm,HT.sIx]
      cases l with
      | nil=>simp
      | cons a l=>simp;exact List.take_of_length_le (by simp)
     obtain⟨m,hpm,hpwm,hsm'⟩:=Yq7 (l.drop 1) (hnd.sublist (List.drop_sublist 1 l)) (by simp;omega)
     have hmm:∀s∈m,st<=s/\s < n:=fun s hs=>hlt s (List.mem_of_mem_drop (hpm.mem_iff.mp hs))
     refine⟨.im m (some b),⟨hki2,fun s hs=>(hmm s hs).2,fun x hx=>by cases hx;exact hb2⟩,hpwm,fun x hx=>?_,?_⟩
     ·simp[bcs]at hx
      rcases hx with hx | rfl
      ·exact(hmm x hx).1
      ·exact hb1
     ·simp[Ydw,hv,hki,hix,hr,hk,hks]at e1 ⊢
      rw[e1]
      simp at hsm'
      simp[hs,rlD,hks,h4,h1,hk,optD,hcut,hmod,hb,hsm']
    ·refine⟨.im l' (some b),⟨hki2,fun s hs=>(hmem s hs).2,fun x hx=>by cases hx;exact hb2⟩,hpw,fun x hx=>?_,?_⟩
     ·simp[bcs]at hx
      rcases hx with hx | rfl
      ·exact(hmem x hx).1
      ·exact hb1
     ·simp[Ydw,hv,hki,hix,hr,hk,hks]at e1 ⊢
      rw[e1]
      simp[hs,rlD,hks,h4,h1,hk,optD,hmod,hb]
end Lw
namespace Lw
open PySem L2 M Bk
theorem y84(a b:Bool):eqM false (hdD a) (hdD b)=some (a==b):=by
 rw[Yh0 (by simp[hdD]) (by simp[hdD])]
 cases a<;>cases b<;>decide +kernel
def ofH(hs:List Bool)(st:Nat)(b:Bool):List Nat:=(List.range hs.length).filter fun i=>decide (st<=i)&&(hs.getD i false==b)
theorem Ya1{c:D}(hs:List Bool)(hc:Yn c=some (hs.map hdD))(hl:hs.length<=1000)(st:Nat)(hst:st<=hs.length)(b:Bool):Yav [c,.int st,hdD b]=some (.lst ((ofH hs st b).map nD)):=by
 rw[Yav,Yx (by rfl)]
 have hr:=Yyu (a:=(st:Int)) (n:=(hs.length:Int)) (by omega) (by omega) (by omega) (by omega)
 rw[Yhf]at hr
 have hcm:=Ytx (fc:=Ycy) (fe:=Ycz) (r:=[some (.sh c),some (.sh (hdD b))]) (enc:=fun i:Nat=>D.int ((st:Int)+(i:Nat))) (fun i:Nat=>hs.getD (st+i) false==b) (fun i:Nat=>nD (st+i)) (l:=List.range ((hs.length:Int) - st).toNat) (fun i hi=>by
  have hi':st+i < hs.length:=by simp at hi;omega
  have e0:(st:Int)+(i:Int)=((st+i:Nat):Int):=by omega
  have hat:atI (hs.map hdD) ((st+i:Nat):Int)=some (hdD (hs.getD (st+i) false)):=by
   rw[Yd1,Ygr hi']
   simp[hi']
  rw[e0]
  simp only[Ycy,Yaaw,gCs,gC0,qd,y5f,hc,hat,y84]) (fun i _ _=>by simp[Ycz,nD])
 have he:(((List.range ((hs.length:Int) - st).toNat).filter fun i:Nat=>hs.getD (st+i) false==b).map fun i:Nat=>nD (st+i))=(ofH hs st b).map nD:=by
  unfold ofH
  have h1:List.range hs.length=List.range st++(List.range (hs.length - st)).map (st+·):=by
   rw[<-List.range_add]
   congr 1
   omega
  rw[h1,List.filter_append,List.filter_map]
  have h2:(List.range st).filter (fun i=>decide (st<=i)&&(hs.getD i false==b))=[]:=by
   rw[List.filter_eq_nil_iff]
   intro x hx
   have:=Qa hx
   simp
   omega
  have h3:((hs.length:Int) - st).toNat=hs.length - st:=by omega
  rw[h2,h3,Qk,Qd]
  simp[Function.comp_def]
 have h3:((hs.length:Int) - st).toNat=hs.length - st:=by omega
 rw[he,h3]at hcm
 rw[h3]at hr
 simp[Yg3,Yq,hc,hr,capR,hcm]
end Lw
namespace Lw
open PySem L2 M Bk
def isV(k:Kd)(r:Rl):Bool:=eqD (rlD r) (rlD (vd k))
theorem Ylj{k:Kd}{n:Nat}{R:List Rl}(hR:∀r∈R,In k n r/\sz r<=999999):Yc2 [Ygx k R]=some (.bl (R.any (isV k))):=by
 rw[Yc2,Yx (by rfl)]
 have hc:=Yes (fe:=Yew) (r:=[some (.sh (Ygx k R))]) (enc:=rlD) (fun r=>D.bl (isV k r)) (l:=R) (fun r hr=>by
  have:=Yy9 (hR r hr).1 (hR r hr).2
  simp[Yew,this,isV])
 simp[Yk5,Yq,capR,hc,List.any_map,Function.comp_def]
abbrev Yzc:D:=.tup [.str "broken"]
theorem y85{r:Rl}{n:Nat}(h:In .n n r):isV .i (exR r)=isV .n r:=by
 cases r with
 | ei l=>cases h.1
 | su l o=>cases h.1
 | im l o=>rfl
theorem Yfy{a b:String}(h:(Str.ofString a==Str.ofString b)=false)(neg:Bool):eqM neg (.str (Str.ofString a)) (.str (Str.ofString b))=some neg:=by
 rw[Yh0 (by simp) (by simp),Yr9,h]
 cases neg<;>rfl
theorem Yfd(a:String)(neg:Bool):eqM neg (.str (Str.ofString a)) (.str (Str.ofString a))=some (!neg):=by
 rw[Yh0 (by simp) (by simp),Yr9]
 cases neg<;>simp
theorem Yif(j:Nat){k:Kd}(hk:k≠.n){n:Nat}{R:List Rl}(hR:∀r∈R,In k n r/\Srt r)(hn:n<=60){c:D}{hs:List Bool}(hc:Yn c=some (hs.map hdD))(hl:hs.length<=1000){st:Nat}(hst:st<=hs.length) :
 Yaz (j+1) [Yzc,Ygx k R,c,.int st]=some (.bl (R.any (isV k))):=by
 rw[Yaz,Yx (by rfl)]
 have h1:=Ylj (k:=k) (n:=n) (R:=R) (fun r hr=>⟨(hR r hr).1,by have:=Yaay (hR r hr).1 (hR r hr).2;omega⟩)
 have b1:=Ya1 hs hc hl st hst true
 have b2:=Ya1 hs hc hl st hst false
 simp[hdD]at b1 b2
 have e1:=Yfd "broken" false
 simp at e1
 simp[Yek,Yq,hk,b1,b2,e1,h1]
theorem Yq8{k:Kd}{n:Nat}{R:List Rl}(hR:∀r∈R,In k n r/\Srt r)(hn:n<=60){c:D}{hs:List Bool}(hc:Yn c=some (hs.map hdD))(hl:hs.length<=1000){st:Nat}(hst:st<=hs.length) :
 Ybc [Yzc,Ygx k R,c,.int st]=some (.bl (R.any (isV k))):=by
 by_cases hk:k=.n
 ·subst hk
  have hx:=Ysr hR
  have hX:∀r∈R.map exR,In .i n r/\Srt r:=fun r hr=>by
   obtain⟨q,hq,rfl⟩:=qx hr
   exact Yaa1 (hR q hq).1 (hR q hq).2
  have h1:=Yif 10 (k:=.i) (by decide) hX hn hc hl hst
  have ha:(R.map exR).any (isV .i)=R.any (isV .n):=by
   have:∀Q:List Rl,(∀r∈Q,In .n n r)->(Q.map exR).any (isV .i)=Q.any (isV .n):=by
    intro Q
    induction Q with
    | nil=>intro _;rfl
    | cons r Q ih=>
      intro h
      rw[Qc,List.any_cons,List.any_cons,y85 (h r qh),ih fun q hq=>h q (qg _ hq)]
   exact this R fun r hr=>(hR r hr).1
  rw[ha]at h1
  rw[Ybc,Yaz,Yx (by rfl)]
  simp only[exK]at hx
  simp[Yek,Yq,hx,h1]
 ·exact Yif 11 hk hR hn hc hl hst
end Lw
namespace Lw
open PySem L2 M Bk
def tabH:List Int:=(List.range 120).map fun i=>pH (((i / 2:Nat):Int),decide (i % 2=1))
def Yox:List Int->Bool
 | []=>true
 | a::l=>!(l.contains a)&&Yox l
set_option maxRecDepth 100000 in
theorem y86:Yox tabH=true:=by decide +kernel
theorem Yig:∀{l:List Int},Yox l=true->l.Nodup
 | [],_=>.nil
 | a::l,h=>by
   rw[Yox,Qf]at h
   refine List.nodup_cons.mpr ⟨fun hm=>?_,Yig h.2⟩
   have:l.contains a=true:=by simpa using hm
   rw[this]at h
   exact Bool.noConfusion h.1
def sIdx(s:Say):Nat:=2 * s.1+if s.2 then 1 else 0
theorem y27(s:Say)(h:s.1 < 60):tabH[sIdx s]?=some (pH ((s.1:Int),s.2)):=by
 obtain⟨b,l⟩:=s
 have hi:sIdx (b,l) < 120:=by cases l<;>simp[sIdx]at *<;>omega
 unfold tabH
 rw[Qg,List.getElem?_range hi,Option.map_some]
 cases l
 ·have e1:sIdx (b,false) / 2=b:=by simp[sIdx]
  have e2:sIdx (b,false) % 2=0:=by simp[sIdx]
  dsimp only
  rw[e1,e2]
  rfl
 ·have e1:sIdx (b,true) / 2=b:=by simp only[sIdx,if_true];omega
  have e2:sIdx (b,true) % 2=1:=by simp only[sIdx,if_true];omega
  dsimp only
  rw[e1,e2]
  rfl
theorem y87{T:List Int}(hn:T.Nodup){i j:Nat}{x:Int}(h1:T[i]?=some x)(h2:T[j]?=some x):i=j:=by
 obtain⟨hi,a1⟩:=qo h1
 obtain⟨hj,a2⟩:=qo h2
 exact(List.getElem_inj hn).mp (a1.trans a2.symm)
theorem Yvl{s t:Say}(h:sIdx s=sIdx t):s=t:=by
 obtain⟨b,l⟩:=s
 obtain⟨c,m⟩:=t
 cases l<;>cases m<;>simp[sIdx]at h ⊢<;>omega
theorem Yaa2{s t:Say}(hs:s.1 < 60)(ht:t.1 < 60)(hst:s≠t):pH ((s.1:Int),s.2)≠pH ((t.1:Int),t.2):=fun e=>by
 have h1:=y27 s hs
 have h2:=y27 t ht
 rw[<-e]at h2
 exact hst (Yvl (y87 (Yig y86) h1 h2))
theorem Yzd{n:Nat}{s t:Say}(hs:s.1 < n)(ht:t.1 < n)(hn:n<=60):∃l:List Say,(∀x∈l,x=s\/x=t)/\Srt (.ei l)/\Yns [sayD s,sayD t]=some (l.map sayD):=by
 have hp:prsD [sayD s,sayD t]=some [((s.1:Int),s.2),((t.1:Int),t.2)]:=rfl
 by_cases e:s=t
 ·subst e
  refine⟨[s],fun x hx=>.inl (by simpa using hx),⟨by simp,by simp⟩,?_⟩
  unfold Yns
  rw[hp,qd]
  dsimp only
  rw[if_pos rfl]
  rfl
 ·have hne:((s.1:Int),s.2)≠((t.1:Int),t.2):=fun z=>e (by
   have h1:=congrArg Prod.fst z
   have h2:=congrArg Prod.snd z
   exact Prod.ext (by simpa using h1) h2)
  have hh:=Yaa2 (s:=s) (t:=t) (by omega) (by omega) e
  generalize hP:plt (t.1:Int) t.2 (s.1:Int) s.2=b
  refine⟨if b=true then [t,s]else [s,t],fun x hx=>?_,⟨by split<;>simp,?_⟩,?_⟩
  ·split at hx<;>simp at hx<;>rcases hx with rfl | rfl<;>simp
  ·obtain⟨x,p⟩:=s
   obtain⟨y,q⟩:=t
   unfold plt at hP
   dsimp only at hP
   by_cases hxy:(y:Int)=x
   ·rw[if_pos hxy]at hP
    have:x=y:=by omega
    subst this
    have hpq:p≠q:=fun z=>e (by rw[z])
    cases p<;>cases q<;>simp at hP hpq<;>subst hP<;>simp[slt]
   ·rw[if_neg hxy]at hP
    subst hP
    by_cases hlt:(y:Int) < x
    ·simp[hlt,slt];omega
    ·simp[hlt,slt];omega
  ·unfold Yns
   rw[hp,qd]
   dsimp only
   rw[if_neg hne,if_pos hh,hP]
   cases b<;>rfl
end Lw
namespace Lw
open PySem L2 M Bk
theorem Yi9(neg:Bool)(a b:Say):eqM neg (sayD a) (sayD b)=some (if neg then !decide (a=b)else decide (a=b)):=by
 rw[Yh0 (by simp) (by simp),Yyw]
def Ymb(ag:Say)(l:List Say):Option Say:=if ag∈l then some ((l.filter fun t=>!decide (t=ag)).headD ag)else none
def ledL(L:List (List Say))(s:Say):List Say:=L.filterMap (Ymb (flS s))
abbrev eiD(l:List Say):D:=rlD (.ei l)
abbrev bkE(L:List (List Say)):D:=.tup [kdD .e,.tup (L.map eiD)]
theorem Yt4{L:List (List Say)}(hL:L.length<=1000)(s:Say):Yh4 [bkE L,sayD s]=some (.lst ((ledL L s).map sayD)):=by
 have hcap:∀pre:List (List Say),(∃r,[]++L=pre++r)->(ledL pre s).length < 1000000:=fun pre ⟨r,e⟩=>by
  have h1:(ledL pre s).length<=pre.length:=List.length_filterMap_le _ _
  have h2:=congrArg List.length e
  simp at h2
  omega
 obtain⟨ρ',e1,y,z,rfl⟩:=Ygq (gt:=gSet 4) (fb:=Yd2) eiD (fun pre ρ=>∃(y z:Option B),
  ρ=[some (.sh (bkE L)),some (.sh (sayD s)),some (.sh (sayD (flS s))),some (.ow ((ledL pre s).map sayD)),y,z]) L []
  [some (.sh (bkE L)),some (.sh (sayD s)),some (.sh (sayD (flS s))),some (.ow []),none,none] ⟨none,none,rfl⟩ (by
   rintro q l r ρ e ⟨y,z,rfl⟩
   have hc:=hcap q ⟨_,e⟩
   have hin:=y23 (c:=eiD l) (flS s) l false rfl
   have hap:ledL (q++[l]) s=ledL q s++(Ymb (flS s) l).toList:=by
    simp only[ledL,List.filterMap_append]
    cases h:Ymb (flS s) l<;>simp[h]
   by_cases hm:flS s∈l
   ·have hcm:=Ytx (fc:=Yhg) (fe:=Yhh) (r:=[some (.sh (sayD (flS s)))]) (enc:=sayD) (fun t=>!decide (t=flS s)) sayD (l:=l) (fun x _=>by
     simp[Yhg,Yi9]) (fun x _ _=>by simp[Yhh])
    have ho:Ymb (flS s) l=some ((l.filter fun t=>!decide (t=flS s)).headD (flS s)):=by rw[Ymb,if_pos hm]
    rw[ho]at hap
    generalize (l.filter fun t=>!decide (t=flS s))=os at hcm hap
    have happ:∀d:D,appD ((ledL q s).map sayD) d=some ((ledL q s).map sayD++[d]):=fun d=>Ysc (by simpa using hc)
    refine⟨_,_,rfl,?_,some (.sh (eiD l)),some (.ow (os.map sayD)),rfl⟩
    cases os with
    | nil=>simp[Yd2,hin,hm,capR,hcm,happ,hap]
    | cons o os=>simp[Yd2,hin,hm,capR,hcm,happ,hap]
   ·have ho:Ymb (flS s) l=none:=by rw[Ymb,if_neg hm]
    rw[ho]at hap
    refine⟨_,_,rfl,?_,some (.sh (eiD l)),z,rfl⟩
    simp[Yd2,hin,hm,hap])
 rw[Yh4,Yx (by rfl)]
 simp[Yt2,Yq,Yfc]
 rw[e1]
 simp
def at0(road:List Say)(i:Nat):Say:=road.getD i (0,false)
theorem Yss{road:List Say}{i:Nat}(h:i < road.length):atI (road.map sayD) (i:Int)=some (sayD (at0 road i)):=by
 rw[Yd1,Ygr h]
 simp[at0,h]
def stO(L:List (List Say))(road:List Say)(i:Nat):Bool:=decide (at0 road (i+1)∈ledL L (at0 road i))
def okR(L:List (List Say))(road:List Say):Bool:=decide (0 < road.length)&&(List.range (road.length - 1)).all (stO L road)
theorem Ylk{c:D}{L:List (List Say)}(hL:L.length<=1000){road:List Say}(hc:Yn c=some (road.map sayD))(hl:road.length<=200):Yfa [bkE L,c]=some (.bl (okR L road)):=by
 rw[Yfa,Yx (by rfl)]
 have e:((road.length:Int) - 1).toNat=road.length - 1:=by omega
 have hall:=Ytw (gt:=gSet 2) (fb:=Yee) (fun i:Nat=>D.int (1+(i:Nat))) (stO L road) (.bl false)
  (fun ρ=>∃y,ρ=[some (.sh (bkE L)),some (.sh c),y]) (List.range (road.length - 1)) [some (.sh (bkE L)),some (.sh c),none] ⟨_,rfl⟩ (by
   rintro i hi ρ ⟨y,rfl⟩
   have hi':i+1 < road.length:=by
    have:=Qa hi
    omega
   have a1:atI (road.map sayD) (1+(i:Int))=some (sayD (at0 road (i+1))):=by
    have:=Yss hi'
    rw[show((i+1:Nat):Int)=1+(i:Int) by omega]at this
    exact this
   have a2:atI (road.map sayD) (i:Int)=some (sayD (at0 road i)):=Yss (by omega)
   have hi1:1+(i:Int) - 1=(i:Int):=by omega
   have hled:=Yt4 hL (at0 road i)
   have hin:inM true (sayD (at0 road (i+1))) (.lst ((ledL L (at0 road i)).map sayD))=some (!stO L road i):=y23 (at0 road (i+1)) (ledL L (at0 road i)) true rfl
   refine⟨_,rfl,?_⟩
   generalize bkE L=bk at *
   cases hm:stO L road i with
   | true=>exact .inl ⟨rfl,[some (.sh bk),some (.sh c),some (.sh (.int (1+(i:Int))))],by simp[Yee,hc,a1,a2,hi1,hled,hin,hm],_,rfl⟩
   | false=>exact .inr ⟨rfl,by simp[Yee,hc,a1,a2,hi1,hled,hin,hm]⟩)
 have hr:=Yyu (a:=1) (n:=(road.length:Int)) (by omega) (by omega) (by decide) (by decide)
 rw[Yhf,e]at hr
 unfold okR
 generalize bkE L=bk at *
 rcases hall with⟨h1,ρ',e1,y,rfl⟩ | ⟨h1,e1⟩
 ·rw[h1]
  simp[Yky,Yq,hc,hr,e1]
 ·rw[h1]
  simp[Yky,Yq,hc,hr,e1]
end Lw
namespace Lw
open PySem L2 M Bk
def Ymc(l:List Say):Say:=at0 l (l.length - 1)
theorem Yll{l:List Say}(h:0 < l.length):atI (l.map sayD) (-1)=some (sayD (Ymc l)):=by
 have e:ixN (l.map sayD).length (-1)=some (l.length - 1):=by
  unfold ixN
  rw[qf,if_neg (by omega),if_pos (by omega)]
  congr 1
  omega
 unfold atI
 have hx:l[l.length - 1]?=some (l[l.length - 1]'(by omega)):=qq _
 rw[e,qd,Qg,Ymc,at0,List.getD_eq_getElem?_getD,hx]
 rfl
theorem Ylm{l:List Say}(h:0 < l.length):atI (l.map sayD) 0=some (sayD (at0 l 0)):=Yss (i:=0) h
theorem Yln{L:List (List Say)}{l:List Say}(h:okR L l=true):0 < l.length:=by
 unfold okR at h
 rw[Qf]at h
 exact of_decide_eq_true h.1
theorem Yhj(L:List (List Say)):Ygx .e (L.map Rl.ei)=bkE L:=by simp[Ygx,bkE,Function.comp_def]
def there(L:List (List Say))(o k:List Say):Bool:=okR L o&&(okR L k&&(decide (Ymc o=at0 k 0)&&decide (Ymc k=at0 o 0)))
theorem y5s{L:List (List Say)}(hL:L.length<=1000){o k:List Say}{co ck:D}(ho:Yn co=some (o.map sayD))(hk:Yn ck=some (k.map sayD))(hol:o.length<=200)(hkl:k.length<=200) :
 Yal [bkE L,co,ck]=some (.bl (there L o k)):=by
 have h1:=Ylk hL ho hol
 have h2:=Ylk hL hk hkl
 rw[Yal,Yx (by rfl)]
 unfold there
 generalize bkE L=bk at *
 cases d1:okR L o with
 | false=>simp[Yax,Yq,h1,d1]
 | true=>
   cases d2:okR L k with
   | false=>simp[Yax,Yq,h1,h2,d1,d2]
   | true=>
     have p1:=Yln d1
     have p2:=Yln d2
     have a1:=Yll p1
     have a2:=Yll p2
     have a3:=Ylm p1
     have a4:=Ylm p2
     by_cases e:Ymc o=at0 k 0
     ·simp[Yax,Yq,h1,h2,d1,d2,ho,hk,a1,a2,a3,a4,Yi9,e]
     ·simp[Yax,Yq,h1,h2,d1,d2,ho,hk,a1,a2,a3,a4,Yi9,e]
abbrev ppr(x:String)(ps:List D):D:=.tup (.str (Str.ofString x)::ps)
def Yt5(x:String)(l:List String):Prop:=∀y∈l,(Str.ofString x==Str.ofString y)=false
theorem Yst{R:List Rl}{c:D}{hs:List Bool}(hc:Yn c=some (hs.map hdD))(hl:hs.length<=1000){st:Nat}(hst:st<=hs.length){x:String}{ps:List D}(hx:Yt5 x ["broken"]){d:Bool}
 (h:y8 [ppr x ps,Ygx .e R,.lst ((ofH hs st true).map nD),.lst ((ofH hs st false).map nD)]=some (.bl d)):Ybc [ppr x ps,Ygx .e R,c,.int st]=some (.bl d):=by
 rw[Ybc,Yaz,Yx (by rfl)]
 have b1:=Ya1 hs hc hl st hst true
 have b2:=Ya1 hs hc hl st hst false
 simp[hdD]at b1 b2
 have e1:=Yfy (hx "broken" (by simp)) false
 simp[Yek,Yq,b1,b2,e1]at h ⊢
 rw[h]
 simp
end Lw
namespace Lw
open PySem L2 M Bk
abbrev Prw:=Nat × Option Nat × Bool
def prwD(r:Prw):D:=.tup [.int r.1,optD r.2.1,.bl r.2.2]
@[simp] theorem Yih(r:Prw):Yn (prwD r)=some [.int r.1,optD r.2.1,.bl r.2.2]:=nr rfl
theorem Yze(a b c:D):atI [a,b,c] 1=some b:=rfl
theorem Yvm(a b c:D):atI [a,b,c] 2=some c:=rfl
abbrev End:=Option Nat × Bool
def endD(e:End):D:=.tup [optD e.1,.bl e.2]
@[simp] theorem Yzf(e:End):Yn (endD e)=some [optD e.1,.bl e.2]:=nr rfl
theorem Yoy(neg:Bool)(b:Option Nat):isN neg (optD b) .non=some (if neg then !decide (b=none)else decide (b=none)):=by
 cases b<;>cases neg<;>rfl
theorem y10(a b:Option Nat):eqD (optD a) (optD b)=decide (a=b):=by
 cases a with
 | none=>
   cases b with
   | none=>simp[optD,eqD,toPy,PyData.eqv]
   | some y=>simp[optD,eqD,toPy,PyData.eqv]
 | some x=>
   cases b with
   | none=>simp[optD,eqD,toPy,PyData.eqv]
   | some y=>exact(y1s x y).trans (by simp)
theorem Yzg(e f:End):eqD (endD e) (endD f)=decide (e=f):=by
 obtain⟨a,p⟩:=e
 obtain⟨b,q⟩:=f
 simp only[endD,Ysa,Ynv,y10,Yyq,Yyr,Bool.and_true]
 by_cases h1:a=b<;>by_cases h2:p=q<;>simp[h1,h2]
theorem Yoz(e:End):dep (endD e)<=60:=by simp[endD]
theorem y88(e:End)(l:List End):inM false (endD e) (.lst (l.map endD))=some (decide (e∈l)):=by
 rw[Yyt rfl (Yoz e) (Yyy Yoz l),Ynw Yzg]
 simp
theorem y5t(e f:End):eqM false (endD e) (endD f)=some (decide (e=f)):=by
 rw[Yh0 (Yoz e) (Yoz f),Yzg]
 simp
theorem y5u(neg:Bool)(a b:List Nat):eqM neg (.lst (a.map nD)) (.lst (b.map nD))=some (if neg then !decide (a=b)else decide (a=b)):=by
 have h:∀l:List Nat,depL (l.map nD)<=1:=fun l=>Yyy (fun x=>by simp) l
 have h1:=h a
 have h2:=h b
 have e:eqD (.lst (a.map nD)) (.lst (b.map nD))=eqL (a.map nD) (b.map nD):=by simp
 rw[Yh0 (by simp;omega) (by simp;omega),e,Yyx y1s]
def Yar(rows:List Prw)(s:Say):End:=
 match rows.find? (fun r=>r.1==s.1)with
 | none=>(some s.1,s.2)
 | some r=>(r.2.1,s.2==r.2.2)
def Yg0(rows:List Prw):D:=.dct false (rows.map fun r=>nD r.1) (rows.map prwD)
theorem Ylo:∀rows:List Prw,Yf8 (rows.map fun r=>.tup [.int r.1,prwD r])=some (rows.map fun r=>((r.1:Int),prwD r))
 | []=>rfl
 | r::l=>by rw[Qc,Yf8,Ylo l];rfl
theorem Yt6{α:Type}:∀(ps:List (Int × α)) (ns:List Int) (vs:List α),(ns++ps.map (·.1)).Nodup->dctG ns vs ps=(ns++ps.map (·.1),vs++ps.map (·.2))
 | [],ns,vs,_=>by simp[dctG]
 | p::ps,ns,vs,h=>by
   have hp:p.1∉ns:=fun hm=>by
    rw[List.nodup_append]at h
    exact h.2.2 _ hm p.1 (by simp) rfl
   rw[dctG,putG,if_neg hp]
   have h':((ns++[p.1])++ps.map (·.1)).Nodup:=by simpa using h
   rw[Yt6 ps _ _ h']
   simp
theorem Ysu{l:List Nat}(h:l.Nodup):(l.map fun x:Nat=>(x:Int)).Nodup:=by
 induction l with
 | nil=>simp
 | cons a l ih=>
   rw[Qc,List.nodup_cons]
   rw[List.nodup_cons]at h
   refine⟨fun hm=>?_,ih h.2⟩
   obtain⟨b,hb,e⟩:=qx hm
   have:b=a:=by omega
   exact h.1 (this ▸ hb)
theorem Yjy{rows:List Prw}(hl:rows.length<=1000)(hn:(rows.map (·.1)).Nodup):Yb6 [.tup (rows.map prwD)]=some (Yg0 rows):=by
 have hc:=Yes (fe:=Ybj) (r:=[]) (enc:=prwD) (fun r=>.tup [.int r.1,prwD r]) (l:=rows) (fun r _=>by
  have hi:=Yih r
  generalize prwD r=rr at *
  simp[Ybj,hi])
 have h1:pairsOf (.lst (rows.map fun r=>.tup [.int r.1,prwD r]))=some (rows.map fun r=>((r.1:Int),prwD r)):=Ylo rows
 have hn2:=Ysu hn
 have hd:=Yt6 (rows.map fun r=>((r.1:Int),prwD r)) [] [] (by
  rw[Qk,Qd]
  rw[Qd]at hn2
  exact hn2)
 have hlen:(rows.map fun r=>((r.1:Int),prwD r)).length < 1000000:=by rw[qf];omega
 rw[Yb6,Yx (by rfl)]
 have hcomp:(lF (Ybq (b1 (getV 0) Yn) [none] (gSet 0) tY Ybj)) [some (.sh (.tup (rows.map prwD)))]=some (.lst (rows.map fun r=>.tup [.int r.1,prwD r])):=by
  simp[capR,hc]
 have hst:Yq 1 [D.tup (rows.map prwD)]=[some (.sh (.tup (rows.map prwD)))]:=rfl
 rw[Yfw,hst,y5d,Yy7,hcomp,qd,h1,qd,Yyv,if_pos hlen,hd]
 simp[Yg0,Function.comp_def]
theorem Yq9(x:Nat):∀rows:List Prw,Yaf (rows.map fun r=>((r.1:Nat):Int)) (rows.map prwD) (x:Int)=(rows.find? (fun r=>r.1==x)).map prwD
 | []=>rfl
 | r::l=>by
   rw[Qc,Qc,Yaf,Yq9 x l,List.find?_cons]
   by_cases h:r.1=x
   ·simp[h]
   ·have h':¬((r.1:Nat):Int)=(x:Int):=by omega
    have h2:(r.1==x)=false:=by simp[h]
    rw[if_neg h',h2]
theorem Yzh(rows:List Prw)(s:Say):Yid [sayD s,Yg0 rows]=some (endD (Yar rows s)):=by
 have hf:=Yq9 s.1 rows
 have hi:Yc9 (rows.map fun r=>nD r.1)=some (rows.map fun r=>((r.1:Nat):Int)):=Ykw _ rows
 have hg:getI (Yg0 rows) (.int (s.1:Int))=(rows.find? (fun r=>r.1==s.1)).map prwD:=by
  rw[Yg0,Yno,hi,qd,hf]
 have hh:hasN true (.int (s.1:Int)) (Yg0 rows)=some (rows.find? (fun r=>r.1==s.1)).isNone:=by
  rw[Yg0,y09,hi,Option.map_some]
  congr 1
  cases hq:rows.find? (fun r=>r.1==s.1)with
  | none=>
    rw[List.find?_eq_none]at hq
    have:¬(s.1:Int)∈rows.map fun r=>((r.1:Nat):Int):=fun hm=>by
     obtain⟨r,hr,e⟩:=qx hm
     have:=hq r hr
     simp at this
     omega
    simp only[decide_eq_false this]
    rfl
  | some r=>
    have h1:=List.mem_of_find?_eq_some hq
    have h2:=List.find?_some hq
    simp at h2
    have:(s.1:Int)∈rows.map fun r=>((r.1:Nat):Int):=List.mem_map.mpr ⟨r,h1,by omega⟩
    simp only[decide_eq_true this]
    rfl
 rw[Yid,Yx (by rfl)]
 have hp:∀d,Yn (Yg0 rows)=some d->True:=fun _ _=>trivial
 generalize Yg0 rows=pl at *
 unfold Yar
 cases hq:rows.find? (fun r=>r.1==s.1)with
 | none=>
   rw[hq]at hh
   have hs:endD (some s.1,s.2)=sayD s:=rfl
   simp only
   rw[hs]
   have h0:=y5h s
   generalize sayD s=ss at *
   obtain⟨it,hit,h0⟩:=qa h0
   simp[Yla,Yq,hit,h0,hh]
 | some r=>
   rw[hq]at hh hg
   have hs:Yn (sayD s)=some [.int s.1,.bl s.2]:=rfl
   have hr:=Yih r
   generalize sayD s=ss at *
   rw[Option.map_some]at hg
   generalize prwD r=rr at *
   simp[Yla,Yq,hs,hh,hg,hr,Yze,Yvm,endD]
def flE(e:End):End:=(e.1,!e.2)
theorem Ysv(e:End):Ya7 [endD e]=some (endD (flE e)):=by
 rw[Ya7,Yx (by rfl)]
 have h:=Yzf e
 have h2:endD (flE e)=.tup [optD e.1,.bl !e.2]:=rfl
 rw[h2]
 generalize endD e=ee at *
 simp[Yix,Yq,h]
def Ye3(es:List End):Bool:=es.any fun e=>decide (e=(none,true))||decide (flE e∈es)
theorem Yjz(rows:List Prw)(l:List Say):Yb7 [rlD (.ei l),Yg0 rows]=some (.bl (Ye3 (l.map (Yar rows)))):=by
 have h1:=Yes (fe:=Ycb) (r:=[some (.sh (Yg0 rows))]) (enc:=sayD) (fun s=>endD (Yar rows s)) (l:=l) (fun s _=>by
  have h:=Yzh rows s
  generalize Yg0 rows=pl at *
  simp[Ycb,h])
 have e1:(l.map fun s=>endD (Yar rows s))=(l.map (Yar rows)).map endD:=by rw[Qd];rfl
 rw[e1]at h1
 generalize l.map (Yar rows)=es at *
 have h2:=Yes (fe:=Ybk) (r:=[some (.sh (.lst (es.map endD)))]) (enc:=endD) (fun e=>.bl (decide (e=(none,true))||decide (flE e∈es))) (l:=es) (fun e _=>by
  have q1:=y5t e (none,true)
  have q2:=y88 (flE e) es
  have q3:=Ysv e
  have q4:endD (none,true)=.tup [.non,.bl true]:=rfl
  rw[q4]at q1
  generalize es.map endD=ee at *
  generalize endD e=e0 at *
  generalize endD (flE e)=e2 at *
  by_cases hd:e=(none,true)
  ·rw[decide_eq_true hd]at q1 ⊢
   simp[Ybk,q1]
  ·rw[decide_eq_false hd]at q1 ⊢
   simp[Ybk,q1,q2,q3])
 rw[Yb7,Yx (by rfl)]
 have hit:=y1t l
 generalize Yg0 rows=pl at *
 generalize rlD (.ei l)=ll at *
 generalize hee:es.map endD=ee at *
 simp[Yfx,Yq,hit,capR,h1,h2,Ye3,Function.comp_def]
def rowP(S:List Nat)(r:Prw):Bool:=match r.2.1 with
 | none=>true
 | some x=>decide (x∈S)&&decide (x < r.1)
theorem Yo0(r:Prw)(S:List Nat):Yds [prwD r,.lst (S.map nD)]=some (.bl (rowP S r)):=by
 rw[Yds,Yx (by rfl)]
 have hr:=Yih r
 generalize prwD r=rr at *
 unfold rowP
 cases h:r.2.1 with
 | none=>
   rw[h]at hr
   have i1:=Yoy false none
   simp[Ydr,Yq,hr,Yze,Yvm,i1]
 | some x=>
   rw[h]at hr
   have i1:=Yoy false (some x)
   have i2:=in_n (c:=.lst (S.map nD)) x S false rfl
   have i3:optD (some x)=.int x:=rfl
   rw[i3]at hr i1
   simp only[nD]at i2
   by_cases hm:x∈S
   ·simp[Ydr,Yq,hr,Yze,Yvm,i1,i2,hm]
   ·simp[Ydr,Yq,hr,Yze,Yvm,i1,i2,hm]
def Ysw(rows:List Prw)(L:List (List Say))(K S:List Nat):Bool:=decide (rows.map (·.1)=K)&&rows.all (rowP S)&&L.all fun l=>Ye3 (l.map (Yar rows))
theorem Ysx{rows:List Prw}(hl:rows.length<=1000)(L:List (List Say)){K:List Nat}(hK:K.Nodup)(S:List Nat) :
 Yfs [.tup (rows.map prwD),Ygx .e (L.map Rl.ei),.lst (K.map nD),.lst (S.map nD)]=some (.bl (Ysw rows L K S)):=by
 have h0:=Yes (fe:=Yex) (r:=[]) (enc:=prwD) (fun r=>nD r.1) (l:=rows) (fun r _=>by
  have hi:=Yih r
  generalize prwD r=rr at *
  simp[Yex,hi])
 have e0:(rows.map fun r=>nD r.1)=(rows.map (·.1)).map nD:=by rw[Qd];rfl
 rw[e0]at h0
 have h1:=Yes (fe:=Yey) (r:=[some (.sh (.lst (S.map nD)))]) (enc:=prwD) (fun r=>.bl (rowP S r)) (l:=rows) (fun r _=>by
  have h:=Yo0 r S
  generalize prwD r=rr at *
  generalize S.map nD=SS at *
  simp[Yey,h])
 have hq:=y5u true (rows.map (·.1)) K
 rw[Yfs,Yx (by rfl)]
 have hall:blsD (rows.map fun r=>D.bl (rowP S r))=some (rows.map (rowP S)):=Yfi _ rows
 have hb:Yn (Ygx .e (L.map Rl.ei))=some [kdD .e,.tup ((L.map Rl.ei).map rlD)]:=rfl
 by_cases hk:rows.map (·.1)=K
 ·have hn:(rows.map (·.1)).Nodup:=by rw[hk];exact hK
  have hd:=Yjy hl hn
  have h2:=Yes (fe:=Yez) (r:=[some (.sh (Yg0 rows))]) (enc:=fun l=>rlD (.ei l)) (fun l=>.bl (Ye3 (l.map (Yar rows)))) (l:=L) (fun l _=>by
   have h:=Yjz rows l
   generalize Yg0 rows=pl at *
   generalize rlD (.ei l)=ll at *
   simp[Yez,h])
  have e2:(L.map fun l=>rlD (.ei l))=(L.map Rl.ei).map rlD:=by rw[Qd];rfl
  rw[e2]at h2
  have hall2:blsD (L.map fun l=>D.bl (Ye3 (l.map (Yar rows))))=some (L.map fun l=>Ye3 (l.map (Yar rows))):=Yfi _ L
  simp only[hk,decide_true]at hq
  have ep:Ysw rows L K S=(rows.all (rowP S)&&L.all fun l=>Ye3 (l.map (Yar rows))):=by simp[Ysw,hk]
  rw[ep]
  rw[hk]at h0
  generalize Ygx .e (L.map Rl.ei)=bk at *
  generalize Yg0 rows=pl at *
  generalize (L.map Rl.ei).map rlD=LL at *
  generalize (L.map fun l=>D.bl (Ye3 (l.map (Yar rows))))=KK2 at *
  generalize hkp:(fun l:List Say=>Ye3 (l.map (Yar rows)))=kp at *
  generalize (rows.map fun r=>D.bl (rowP S r))=RB at *
  generalize hrp:rowP S=rp at *
  generalize rows.map prwD=RR at *
  generalize K.map nD=KK at *
  generalize S.map nD=SS at *
  cases ha:rows.all rp with
  | true=>simp[Yfr,Yq,capR,h0,h1,hq,hall,ha,Function.comp_def,hd,hb,h2,hall2]
  | false=>simp[Yfr,Yq,capR,h0,h1,hq,hall,ha,Function.comp_def]
 ·have ep:Ysw rows L K S=false:=by simp[Ysw,hk]
  rw[ep]
  simp only[hk,decide_false]at hq
  generalize Ygx .e (L.map Rl.ei)=bk at *
  generalize (rows.map (·.1)).map nD=R1 at *
  generalize rows.map prwD=RR at *
  generalize K.map nD=KK at *
  generalize S.map nD=SS at *
  simp[Yfr,Yq,capR,h0,hq]
end Lw
namespace Lw
open PySem L2 M Bk
end Lw
namespace Lw
open PySem L2 M Bk
def Ygj(l:List Say):Prop:=l.length<=2/\l.Nodup
theorem fl2(s:Say):flS (flS s)=s:=by
 obtain⟨a,b⟩:=s
 simp[flS]
theorem Yaa3(s:Say):flS s≠s:=by
 obtain⟨a,b⟩:=s
 simp[flS]
def ed(L:List (List Say))(s t:Say):Prop:=∃l∈L,flS s∈l/\t∈l/\(t=flS s->l.length=1)
theorem y5v{L:List (List Say)}{s t:Say}(h:ed L s t):ed L (flS t) (flS s):=by
 obtain⟨l,hl,h1,h2,h3⟩:=h
 refine⟨l,hl,by rw[fl2];exact h2,h1,fun e=>h3 ?_⟩
 rw[fl2]at e
 exact e.symm
inductive Rch (L:List (List Say)) (s:Say):Say->Prop
 | refl:Rch L s s
 | step {t u:Say}:Rch L s t->ed L t u->Rch L s u
theorem Rch.trans{L:List (List Say)}{s t u:Say}(h:Rch L s t)(h':Rch L t u):Rch L s u:=by
 induction h' with
 | refl=>exact h
 | step _ e ih=>exact .step ih e
theorem Rch.one{L:List (List Say)}{s t:Say}(h:ed L s t):Rch L s t:=.step .refl h
theorem Rch.skew{L:List (List Say)}{s t:Say}(h:Rch L s t):Rch L (flS t) (flS s):=by
 induction h with
 | refl=>exact .refl
 | step _ e ih=>exact(Rch.one (y5v e)).trans ih
theorem Rch.mono{L L':List (List Say)}(hL:∀l∈L,l∈L'){s t:Say}(h:Rch L s t):Rch L' s t:=by
 induction h with
 | refl=>exact .refl
 | step _ e ih=>
   obtain⟨l,hl,r⟩:=e
   exact .step ih ⟨l,hL l hl,r⟩
theorem Yo1(rows:List Prw)(s:Say):Yar rows (flS s)=flE (Yar rows s):=by
 unfold Yar
 have e:(flS s).1=s.1:=rfl
 rw[e]
 cases rows.find? (fun r=>r.1==s.1)with
 | none=>rfl
 | some r=>
   show(r.2.1,(!s.2)==r.2.2)=(r.2.1,!(s.2==r.2.2))
   cases s.2<;>cases r.2.2<;>rfl
theorem Yt7(e:End):flE e≠e:=by
 obtain⟨a,b⟩:=e
 simp[flE]
theorem y5w{a b:End}(h:flE a=flE b):a=b:=by
 obtain⟨a1,a2⟩:=a
 obtain⟨b1,b2⟩:=b
 unfold flE at h
 injection h with h1 h2
 simp at h1 h2
 rw[h1,h2]
def leE(a b:End):Prop:=a=(none,false)\/b=(none,true)\/a=b
theorem Yzi{a b c:End}(h:leE a b)(h':leE b c):leE a c:=by
 rcases h with h | h | h
 ·exact .inl h
 ·rcases h' with h' | h' | h'
  ·rw[h]at h'
   cases h'
  ·exact .inr (.inl h')
  ·exact .inr (.inl (by rw[<-h',h]))
 ·rw[h]
  exact h'
theorem y5x{rows:List Prw}{l:List Say}(hl:Ygj l)(hk:Ye3 (l.map (Yar rows))=true){s t:Say}(h1:flS s∈l)(h2:t∈l)(h3:t=flS s->l.length=1):leE (Yar rows s) (Yar rows t):=by
 have hall:∀x∈l,x=flS s\/x=t:=fun x hx=>by
  obtain⟨g1,g2⟩:=hl
  match l,g1,g2,h1,h2,h3,hx with
  | [a],_,_,h1,h2,h3,hx=>
    simp at h1 hx
    exact .inl (by rw[hx,h1])
  | [a,b],_,g2,h1,h2,h3,hx=>
    have hts:t≠flS s:=fun z=>by have:=h3 z;simp at this
    simp at h1 h2 hx
    rcases hx with rfl | rfl
    ·rcases h1 with e | e
     ·exact .inl e.symm
     ·rcases h2 with e2 | e2
      ·exact .inr e2.symm
      ·exact absurd (e2.trans e.symm) hts
    ·rcases h1 with e | e
     ·rcases h2 with e2 | e2
      ·exact absurd (e2.trans e.symm) hts
      ·exact .inr e2.symm
     ·exact .inl e.symm
 unfold Ye3 at hk
 obtain⟨e,he,hp⟩:=List.any_eq_true.mp hk
 obtain⟨x,hx,rfl⟩:=qx he
 rw[Bool.or_eq_true,decide_eq_true_eq,decide_eq_true_eq]at hp
 have hfs:=Yo1 rows s
 have key:∀y∈l,flE (Yar rows x)=Yar rows y->leE (Yar rows s) (Yar rows t):=fun y hy e=>by
  rcases hall x hx with rfl | rfl
  ·rw[hfs]at e
   have e2:Yar rows s=Yar rows y:=by
    have:flE (flE (Yar rows s))=Yar rows s:=by simp[flE]
    rw[this]at e
    exact e
   rcases hall y hy with rfl | rfl
   ·rw[hfs]at e2
    exact absurd e2.symm (Yt7 _)
   ·exact .inr (.inr e2)
  ·rcases hall y hy with rfl | rfl
   ·rw[hfs]at e
    exact .inr (.inr (y5w e).symm)
   ·exact absurd e (Yt7 _)
 rcases hp with hp | hp
 ·rcases hall x hx with rfl | rfl
  ·rw[hfs]at hp
   refine .inl ?_
   have:flE (flE (Yar rows s))=Yar rows s:=by simp[flE]
   rw[<-this,hp]
   rfl
  ·exact .inr (.inl hp)
 ·obtain⟨y,hy,e⟩:=qx hp
  exact key y hy e.symm
theorem Yt8{rows:List Prw}{L:List (List Say)}(hL:∀l∈L,Ygj l)(hk:∀l∈L,Ye3 (l.map (Yar rows))=true){s t:Say}(h:Rch L s t):leE (Yar rows s) (Yar rows t):=by
 induction h with
 | refl=>exact .inr (.inr rfl)
 | step _ e ih=>
   obtain⟨l,hl,h1,h2,h3⟩:=e
   exact Yzi ih (y5x (hL l hl) (hk l hl) h1 h2 h3)
theorem Yt9{rows:List Prw}{s:Say}(h:s.1∉rows.map (·.1)):Yar rows s=(some s.1,s.2):=by
 unfold Yar
 have e:rows.find? (fun r=>r.1==s.1)=none:=by
  rw[List.find?_eq_none]
  intro q hq z
  exact h (List.mem_map.mpr ⟨q,hq,by simpa using z⟩)
 rw[e]
theorem Yzj{rows:List Prw}{s:Say}(h:s.1∈rows.map (·.1)):∃r∈rows,r.1=s.1/\Yar rows s=(r.2.1,s.2==r.2.2):=by
 unfold Yar
 cases e:rows.find? (fun r=>r.1==s.1)with
 | none=>
   rw[List.find?_eq_none]at e
   obtain⟨q,hq,z⟩:=qx h
   exact absurd (by simpa using z) (e q hq)
 | some r=>exact⟨r,List.mem_of_find?_eq_some e,by simpa using List.find?_some e,rfl⟩
structure GoodE(L:List (List Say))(K S:List Nat)(rows:List Prw):Prop where
 ks:rows.map (·.1)=K
 row:∀r∈rows,rowP S r=true
 kept:∀l∈L,Ye3 (l.map (Yar rows))=true
inductive BadE (L:List (List Say)) (K S:List Nat):Prop
 | broken:[]∈L->BadE L K S
 | clash (s:Say):Rch L s (flS s)->Rch L (flS s) s->BadE L K S
 | cross (s t:Say):s.1∈S->t.1∈S->s≠t->Rch L s t->BadE L K S
 | late (s t:Say):s.1∈S->t.1∈K->t.1 < s.1->Rch L s t->Rch L t s->BadE L K S
theorem BadE.mono{L L':List (List Say)}{K S:List Nat}(hL:∀l∈L,l∈L')(h:BadE L K S):BadE L' K S:=by
 cases h with
 | broken h=>exact .broken (hL _ h)
 | clash s h1 h2=>exact .clash s (h1.mono hL) (h2.mono hL)
 | cross s t h1 h2 h3 h4=>exact .cross s t h1 h2 h3 (h4.mono hL)
 | late s t h1 h2 h3 h4 h5=>exact .late s t h1 h2 h3 (h4.mono hL) (h5.mono hL)
theorem y28{L:List (List Say)}(hL:∀l∈L,Ygj l){K S:List Nat}(hSK:∀x∈S,x∉K){rows:List Prw}(g:GoodE L K S rows):¬BadE L K S:=fun h=>by
 have hst:∀s:Say,s.1∈S->Yar rows s=(some s.1,s.2):=fun s hs=>Yt9 (by rw[g.ks];exact hSK _ hs)
 have half:∀s:Say,Rch L s (flS s)->Yar rows s=(none,false):=fun s h1=>by
  have e:=Yt8 hL g.kept h1
  rw[Yo1]at e
  rcases e with e | e | e
  ·exact e
  ·have:flE (flE (Yar rows s))=Yar rows s:=by simp[flE]
   rw[<-this,e]
   rfl
  ·exact absurd e.symm (Yt7 _)
 cases h with
 | broken h=>
   have:=g.kept [] h
   cases this
 | clash s h1 h2=>
   have e1:=half s h1
   have e2:=half (flS s) (by rw[fl2];exact h2)
   rw[Yo1,e1]at e2
   cases e2
 | cross s t hs ht hne h1=>
   have e:=Yt8 hL g.kept h1
   rw[hst s hs,hst t ht]at e
   rcases e with e | e | e
   ·cases e
   ·cases e
   ·apply hne
    injection e with e1 e2
    injection e1 with e1
    exact Prod.ext e1 e2
 | late s t hs ht hlt h1 h2=>
   have e1:=Yt8 hL g.kept h1
   have e2:=Yt8 hL g.kept h2
   rw[hst s hs]at e1 e2
   have e3:Yar rows t=(some s.1,s.2):=by
    rcases e1 with e | e | e
    ·cases e
    ·rcases e2 with e' | e' | e'
     ·rw[e]at e'
      cases e'
     ·cases e'
     ·exact e'
    ·exact e.symm
   obtain⟨r,hr,he,hc⟩:=Yzj (rows:=rows) (s:=t) (by rw[g.ks];exact ht)
   rw[e3]at hc
   injection hc with hc1 _
   have hrow:=g.row r hr
   unfold rowP at hrow
   rw[<-hc1]at hrow
   have hrow':(decide (s.1∈S)&&decide (s.1 < r.1))=true:=hrow
   rw[Qf,decide_eq_true_eq,decide_eq_true_eq]at hrow'
   omega
end Lw
namespace Lw
open PySem L2 M Bk
def tied(L:List (List Say))(S:List Nat)(k:Nat)(s:Say):Prop:=s.1∈S/\Rch L s (k,true)/\Rch L (k,true) s
def loose(L:List (List Say))(S:List Nat)(k:Nat):Prop:=∀s,¬tied L S k s
structure PlanOf(L:List (List Say))(K S:List Nat)(τ:Nat->Bool)(rows:List Prw):Prop where
 ks:rows.map (·.1)=K
 row:∀r∈rows,(∃s,tied L S r.1 s/\r.2=(some s.1,s.2))\/(loose L S r.1/\r.2=(none,τ r.1))
structure Tr(L:List (List Say))(K S:List Nat)(τ:Nat->Bool):Prop where
 one:∀k∈K,loose L S k->∀s:Say,s.1∈S->∀v,Rch L s (k,v)->τ k=v
 two:∀k∈K,loose L S k->∀j∈K,loose L S j->∀v,Rch L (k,τ k) (j,v)->τ j=v
theorem Yua{L:List (List Say)}{K S:List Nat}(nb:¬BadE L K S){s t:Say}(hs:s.1∈S)(ht:t.1∈S)(h:Rch L s t):s=t:=
 Classical.byContradiction fun z=>nb (.cross s t hs ht z h)
theorem cls{L:List (List Say)}{K S:List Nat}{τ:Nat->Bool}{rows:List Prw}(hSK:∀x∈S,x∉K)(hp:PlanOf L K S τ rows){a:Say}(ha:a.1∈S\/a.1∈K) :
 (∃e:Say,e.1∈S/\Yar rows a=(some e.1,e.2)/\Rch L a e/\Rch L e a)\/(a.1∈K/\loose L S a.1/\Yar rows a=(none,a.2==τ a.1)):=by
 rcases ha with ha | ha
 ·exact .inl ⟨a,ha,Yt9 (by rw[hp.ks];exact hSK _ ha),.refl,.refl⟩
 ·obtain⟨r,hr,he,hc⟩:=Yzj (rows:=rows) (s:=a) (by rw[hp.ks];exact ha)
  rcases hp.row r hr with⟨s,ht,hs⟩ | ⟨hlo,hs⟩
  ·left
   rw[hs]at hc
   obtain⟨t1,t2,t3⟩:=ht
   rw[he]at t2 t3
   obtain⟨a1,a2⟩:=a
   cases a2 with
   | true=>
     refine⟨s,t1,?_,t3,t2⟩
     rw[hc]
     show(some s.1,true==s.2)=(some s.1,s.2)
     cases s.2<;>rfl
   | false=>
     refine⟨flS s,t1,?_,t2.skew,t3.skew⟩
     rw[hc]
     show(some s.1,false==s.2)=(some s.1,!s.2)
     cases s.2<;>rfl
  ·right
   rw[hs,he]at hc
   rw[he]at hlo
   exact⟨ha,hlo,hc⟩
theorem Yii{es:List End}(h:((none,true):End)∈es):Ye3 es=true:=by
 unfold Ye3
 exact List.any_eq_true.mpr ⟨_,h,by simp⟩
theorem y11{es:List End}{e:End}(h:e∈es)(h2:flE e∈es):Ye3 es=true:=by
 unfold Ye3
 exact List.any_eq_true.mpr ⟨e,h,by simp[h2]⟩
theorem y5y{a:Say}{v:Bool}(h:¬v=a.2):(a.1,v)=flS a:=by
 obtain⟨x,y⟩:=a
 unfold flS
 cases v<;>cases y<;>first | rfl | exact absurd rfl h
theorem Yra{L:List (List Say)}{K S:List Nat}{τ:Nat->Bool}{rows:List Prw}(hSK:∀x∈S,x∉K)(nb:¬BadE L K S)(hp:PlanOf L K S τ rows)(ht:Tr L K S τ){a b:Say}(ha:a.1∈S\/a.1∈K)(hb:b.1∈S\/b.1∈K)(h:Rch L (flS a) b) :
 Yar rows a=(none,true)\/Yar rows b=(none,true)\/flE (Yar rows a)=Yar rows b:=by
 have h':Rch L (flS b) a:=by
  have:=h.skew
  rw[fl2]at this
  exact this
 rcases cls hSK hp ha with⟨e,e1,e2,e3,e4⟩ | ⟨a1,a2,a3⟩
 ·rcases cls hSK hp hb with⟨f,f1,f2,f3,f4⟩ | ⟨b1,b2,b3⟩
  ·have:=Yua nb (s:=flS e) (t:=f) e1 f1 ((e3.skew.trans h).trans f3)
   refine .inr (.inr ?_)
   rw[e2,f2,<-this]
   rfl
  ·have:=ht.one b.1 b1 b2 (flS e) e1 b.2 (e3.skew.trans h)
   refine .inr (.inl ?_)
   rw[b3,this]
   simp
 ·by_cases hv:τ a.1=a.2
  ·refine .inl ?_
   rw[a3,hv]
   simp
  ·rcases cls hSK hp hb with⟨f,f1,f2,f3,f4⟩ | ⟨b1,b2,b3⟩
   ·have:=ht.one a.1 a1 a2 (flS f) f1 a.2 (f3.skew.trans h')
    exact absurd this hv
   ·refine .inr (.inl ?_)
    have e:=y5y hv
    have:=ht.two a.1 a1 a2 b.1 b1 b2 b.2 (by rw[e];exact h)
    rw[b3,this]
    simp
theorem Yzk{L:List (List Say)}(hL:∀l∈L,Ygj l){K S:List Nat}(hin:∀l∈L,∀s∈l,s.1∈S\/s.1∈K)(hSK:∀x∈S,x∉K)(nb:¬BadE L K S){τ:Nat->Bool}{rows:List Prw}(hp:PlanOf L K S τ rows)(ht:Tr L K S τ):GoodE L K S rows:=by
 refine⟨hp.ks,fun r hr=>?_,fun l hl=>?_⟩
 ·rcases hp.row r hr with⟨s,⟨t1,t2,t3⟩,hs⟩ | ⟨_,hs⟩
  ·have hrK:r.1∈K:=by rw[<-hp.ks];exact List.mem_map_of_mem (f:=(·.1)) hr
   have hlt:s.1 < r.1:=by
    rcases Nat.lt_trichotomy s.1 r.1 with h | h | h
    ·exact h
    ·exact absurd hrK (by rw[<-h];exact hSK _ t1)
    ·exact absurd (.late s (r.1,true) t1 hrK h t2 t3) nb
   unfold rowP
   rw[hs]
   show(decide (s.1∈S)&&decide (s.1 < r.1))=true
   simp[t1,hlt]
  ·unfold rowP
   rw[hs]
 ·obtain⟨g1,g2⟩:=hL l hl
  match l,g1,g2,hl with
  | [],_,_,hl=>exact absurd (.broken hl) nb
  | [a],_,_,hl=>
    have h:Rch L (flS a) a:=.one ⟨[a],hl,by rw[fl2];simp,by simp,fun _=>rfl⟩
    have ha:=hin [a] hl a (by simp)
    rcases Yra hSK nb hp ht ha ha h with e | e | e
    ·exact Yii (by simp[e])
    ·exact Yii (by simp[e])
    ·exact absurd e (Yt7 _)
  | [a,b],_,g2,hl=>
    have hab:¬a=b:=by simpa using g2
    have h:Rch L (flS a) b:=.one ⟨[a,b],hl,by rw[fl2];simp,by simp,fun z=>absurd (by rw[z,fl2]) hab⟩
    rcases Yra hSK nb hp ht (hin _ hl a (by simp)) (hin _ hl b (by simp)) h with e | e | e
    ·exact Yii (by simp[e])
    ·exact Yii (by simp[e])
    ·exact y11 (e:=Yar rows a) (by simp) (by rw[e];simp)
def updF(L:List (List Say))(s:Say)(f g:Nat->Option Bool):Prop:=∀j,(∀v,Rch L s (j,v)->(g j).isSome=true)/\(∀v,g j=some v->Rch L s (j,v)\/((∀u,¬Rch L s (j,u))/\f j=some v))/\((∀u,¬Rch L s (j,u))->g j=f j)
structure Ph1(L:List (List Say))(T:List Say)(f:Nat->Option Bool):Prop where
 up:∀j v,f j=some v->∃s∈T,Rch L s (j,v)
 dom:∀j,∀s∈T,∀v,Rch L s (j,v)->(f j).isSome=true
theorem y5z(L:List (List Say)):Ph1 L [] fun _=>none:=⟨fun j v h=>(nomatch h),fun j s hs=>(nomatch hs)⟩
theorem y12{L:List (List Say)}{T:List Say}{s:Say}{f g:Nat->Option Bool}(h:Ph1 L T f)(hu:updF L s f g):Ph1 L (T++[s]) g:=by
 refine⟨fun j v hj=>?_,fun j t ht v hr=>?_⟩
 ·rcases(hu j).2.1 v hj with w | ⟨_,w⟩
  ·exact⟨s,by simp,w⟩
  ·obtain⟨t,ht,hr⟩:=h.up j v w
   exact⟨t,by simp[ht],hr⟩
 ·by_cases z:∃u,Rch L s (j,u)
  ·obtain⟨u,hz⟩:=z
   exact(hu j).1 u hz
  ·have z':∀u,¬Rch L s (j,u):=fun u hu=>z ⟨u,hu⟩
   rw[(hu j).2.2 z']
   rcases qv ht with ht | ht
   ·exact h.dom j t ht v hr
   ·rw[Ql]at ht
    rw[ht]at hr
    exact absurd hr (z' v)
theorem Ysy(k:Nat)(v:Bool):flS (k,v)=(k,!v):=rfl
theorem Yzl{L:List (List Say)}{K S:List Nat}(nb:¬BadE L K S){k:Nat}(hlo:loose L S k){s t:Say}(hs:s.1∈S)(ht:t.1∈S){v u:Bool}(h1:Rch L s (k,v))(h2:Rch L t (k,u)):v=u:=by
 refine Classical.byContradiction fun z=>?_
 have e:(k,u)=flS (k,v):=by
  rw[Ysy]
  cases v<;>cases u<;>first | rfl | exact absurd rfl z
 rw[e]at h2
 have h3:=h2.skew
 rw[fl2]at h3
 have h4:=Yua nb (s:=s) (t:=flS t) hs ht (h1.trans h3)
 have h5:Rch L (k,v) s:=by rw[h4];exact h3
 cases v with
 | true=>exact hlo s ⟨hs,h1,h5⟩
 | false=>
   refine hlo (flS s) ⟨hs,?_,?_⟩
   ·have:=h5.skew
    exact this
   ·have:=h1.skew
    exact this
structure Ph2(L:List (List Say))(K S:List Nat)(f:Nat->Option Bool):Prop where
 one:∀k,loose L S k->∀s:Say,s.1∈S->∀v,Rch L s (k,v)->f k=some v
 two:∀k j,loose L S k->loose L S j->∀v u,f k=some v->Rch L (k,v) (j,u)->f j=some u
 dom:∀k,¬loose L S k->(f k).isSome=true
theorem Yzm{L:List (List Say)}{K S:List Nat}(nb:¬BadE L K S){T:List Say}(hT:∀s:Say,s∈T↔s.1∈S){f:Nat->Option Bool}(h:Ph1 L T f):Ph2 L K S f:=by
 have one:∀k,loose L S k->∀s:Say,s.1∈S->∀v,Rch L s (k,v)->f k=some v:=fun k hlo s hs v hr=>by
  have hd:=h.dom k s ((hT s).mpr hs) v hr
  cases e:f k with
  | none=>rw[e]at hd;cases hd
  | some u=>
    obtain⟨t,ht,hrt⟩:=h.up k u e
    rw[Yzl nb hlo hs ((hT t).mp ht) hr hrt]
 refine⟨one,fun k j hk hj v u e hr=>?_,fun k hk=>?_⟩
 ·obtain⟨t,ht,hrt⟩:=h.up k v e
  exact one j hj t ((hT t).mp ht) u (hrt.trans hr)
 ·have:∃s,tied L S k s:=Classical.byContradiction fun z=>hk fun s hs=>z ⟨s,hs⟩
  obtain⟨s,t1,t2,_⟩:=this
  exact h.dom k s ((hT s).mpr t1) true t2
def y89(L:List (List Say))(k:Nat)(l:Say):Prop:=l.1=k/\¬Rch L l (flS l)
theorem y13{L:List (List Say)}{K S:List Nat}(nb:¬BadE L K S){f g:Nat->Option Bool}(h:Ph2 L K S f){k:Nat}(hk:f k=none){l:Say}(hl:y89 L k l)(hu:updF L l f g):Ph2 L K S g/\(g k).isSome=true/\∀j,(f j).isSome=true->(g j).isSome=true:=by
 have hlo:loose L S k:=Classical.byContradiction fun z=>by
  have:=h.dom k z
  rw[hk]at this
  cases this
 have hone:∀j v u,Rch L l (j,v)->Rch L l (j,u)->v=u:=fun j v u h1 h2=>by
  refine Classical.byContradiction fun z=>hl.2 ?_
  have e:(j,u)=flS (j,v):=by
   rw[Ysy]
   cases v<;>cases u<;>first | rfl | exact absurd rfl z
  rw[e]at h2
  have h3:=h2.skew
  rw[fl2]at h3
  exact h1.trans h3
 have hset:∀j v,Rch L l (j,v)->g j=some v:=fun j v hr=>by
  have hd:=(hu j).1 v hr
  cases e:g j with
  | none=>rw[e]at hd;cases hd
  | some u=>
    rcases(hu j).2.1 u e with w | ⟨w,_⟩
    ·rw[hone j v u hr w]
    ·exact absurd hr (w v)
 have hstay:∀j,loose L S j->∀v,f j=some v->g j=some v:=fun j hj v e=>by
  by_cases z:∃u,Rch L l (j,u)
  ·obtain⟨u,hz⟩:=z
   have:u=v:=Classical.byContradiction fun ne=>by
    have e2:(j,u)=flS (j,v):=by
     rw[Ysy]
     cases v<;>cases u<;>first | rfl | exact absurd rfl ne
    rw[e2]at hz
    have h3:=hz.skew
    rw[fl2]at h3
    have hfl:flS l=(k,!l.2):=by rw[<-hl.1];rfl
    rw[hfl]at h3
    have:=h.two j k hj hlo v (!l.2) e h3
    rw[hk]at this
    cases this
   rw[hset j u hz,this]
  ·rw[(hu j).2.2 fun u hu=>z ⟨u,hu⟩]
   exact e
 refine⟨⟨fun j hj s hs v hr=>hstay j hj v (h.one j hj s hs v hr),fun i j hi hj v u e hr=>?_,fun j hj=>?_⟩,?_,fun j hj=>?_⟩
 ·rcases(hu i).2.1 v e with w | ⟨_,w⟩
  ·exact hset j u (w.trans hr)
  ·exact hstay j hj u (h.two i j hi hj v u w hr)
 ·have hd:=h.dom j hj
  by_cases z:∃u,Rch L l (j,u)
  ·obtain⟨u,hz⟩:=z
   rw[hset j u hz]
   rfl
  ·rw[(hu j).2.2 fun u hu=>z ⟨u,hu⟩]
   exact hd
 ·have:Rch L l (k,l.2):=by rw[<-hl.1];exact .refl
  rw[hset k l.2 this]
  rfl
 ·by_cases z:∃u,Rch L l (j,u)
  ·obtain⟨u,hz⟩:=z
   rw[hset j u hz]
   rfl
  ·rw[(hu j).2.2 fun u hu=>z ⟨u,hu⟩]
   exact hj
theorem Yaa4{L:List (List Say)}{K S:List Nat}{f:Nat->Option Bool}(h:Ph2 L K S f)(hd:∀k∈K,(f k).isSome=true):Tr L K S fun k=>(f k).getD false:=by
 have hv:∀k∈K,f k=some ((f k).getD false):=fun k hk=>by
  have:=hd k hk
  cases e:f k with
  | none=>rw[e]at this;cases this
  | some v=>rfl
 refine⟨fun k hk hlo s hs v hr=>?_,fun k hk hlo j hj hlj v hr=>?_⟩
 ·rw[h.one k hlo s hs v hr]
  rfl
 ·rw[h.two k j hlo hlj _ v (hv k hk) hr]
  rfl
end Lw
namespace Lw
open PySem L2 M Bk
def kN(s:Say):List Int:=[(s.1:Int),if s.2 then 1 else 0]
theorem Yzn{s t:Say}(h:kN s=kN t):s=t:=by
 obtain⟨a,b⟩:=s
 obtain⟨c,d⟩:=t
 unfold kN at h
 injection h with h1 h2
 injection h2 with h2 _
 have e1:a=c:=by
  have:(a:Int)=(c:Int):=h1
  omega
 have e2:b=d:=by cases b<;>cases d<;>first | rfl | (simp at h2)
 rw[e1,e2]
theorem Yij(s:Say):nKey (sayD s)=some (kN s):=rfl
theorem Yfe:∀l:List Say,Ygw (l.map sayD)=some (l.map kN)
 | []=>rfl
 | s::l=>by
   rw[Qc,Ygw,Yij,qd,Yfe l]
   rfl
theorem mem_kN{s:Say}{l:List Say}:kN s∈l.map kN↔s∈l:=by
 constructor
 ·intro h
  obtain⟨t,ht,e⟩:=qx h
  rw[<-Yzn e]
  exact ht
 ·exact fun h=>List.mem_map_of_mem h
theorem Yub(neg:Bool)(s:Say)(l:List Say)(vs:List D):hasT neg (sayD s) (.dct true (l.map sayD) vs)=some (decide (s∈l) != neg):=by
 show(Ygw (l.map sayD)).bind _=_
 rw[Yfe,qd,Yij,Option.map_some,decide_eq_decide.mpr mem_kN]
def optS:Option Say->D
 | none=>.non
 | some s=>sayD s
abbrev Wy:=List (Say × Option Say)
def kyW(W:Wy):List Say:=W.map (·.1)
def wyD(W:Wy):D:=.dct true ((kyW W).map sayD) (W.map fun p=>optS p.2)
structure WOk(L:List (List Say))(s:Say)(W:Wy):Prop where
 nd:(kyW W).Nodup
 hd:∃X,W=(s,none)::X
 par:∀i p,W[i]?=some p->0 < i->∃(k:Nat) (q:Say × Option Say),k < i/\W[k]?=some q/\p.2=some q.1/\p.1∈ledL L q.1
theorem y14{L:List (List Say)}{s:Say}{W:Wy}(h:WOk L s W){j:Nat}{q:Say × Option Say}(hj:W[j]?=some q){t:Say}(ht:t∈ledL L q.1)(hn:t∉kyW W):WOk L s (W++[(t,some q.1)]):=by
 refine⟨?_,?_,fun i p hi hp=>?_⟩
 ·unfold kyW
  rw[Qn,List.nodup_append]
  refine⟨h.nd,by simp,fun x hx y hy e=>?_⟩
  simp at hy
  subst hy e
  exact hn hx
 ·obtain⟨X,e⟩:=h.hd
  exact⟨X++[(t,some q.1)],by rw[e];rfl⟩
 ·by_cases hlt:i < W.length
  ·rw[Qr hlt]at hi
   obtain⟨k,r,h1,h2,h3⟩:=h.par i p hi hp
   exact⟨k,r,h1,by rw[Qr (by omega)];exact h2,h3⟩
  ·rw[List.getElem?_append_right (by omega)]at hi
   have hi0:i - W.length=0:=by
    by_cases z:i - W.length=0
    ·exact z
    ·rw[List.getElem?_eq_none (by simp;omega)]at hi
     cases hi
   rw[hi0]at hi
   have:p=(t,some q.1):=(Option.some.inj hi).symm
   subst this
   have hjl:j < W.length:=(qo hj).1
   exact⟨j,q,by omega,by rw[Qr hjl];exact hj,rfl,ht⟩
def stW(bk:D)(s:Say)(W:Wy)(j:Nat)(y:Option B):Ro:=[some (.sh bk),some (.sh (sayD s)),some (.od true ((kyW W).map sayD) (W.map fun p=>optS p.2)),some (.ow ((kyW W).map sayD)),some (.sh (.int (j:Int))),y]
theorem y50{W:Wy}(hl:W.length<=1000){t:Say}(hn:t∉kyW W)(d:D):putD ((kyW W).map sayD) (W.map fun p=>optS p.2) (sayD t) d=some ((kyW W).map sayD++[sayD t],(W.map fun p=>optS p.2)++[d]):=by
 unfold putD
 rw[Yfe,qd,Yij,qd,if_pos (by rw[qf];show W.length < 1000000;omega),if_neg (fun z=>hn (mem_kN.mp z))]
theorem Yja{L:List (List Say)}{s:Say}{bk:D}{j:Nat}{q:Say × Option Say}:∀(ts:List Say) (W:Wy) (y:Option B),WOk L s W->W.length+ts.length<=1000->W[j]?=some q->(∀t∈ts,t∈ledL L q.1)->
 ∃(X:Wy) (y':Option B),WOk L s (W++X)/\(∀t∈ts,t∈kyW (W++X))/\(∀p∈X,p.1∈ts)/\M.forM (gSet 5) Ybm (ts.map sayD) (stW bk s W j y)=some (.nx (stW bk s (W++X) j y'))
 | [],W,y,hW,_,_,_=>⟨[],y,by rw[List.append_nil];exact hW,fun t ht=>(nomatch ht),fun p hp=>(nomatch hp),by rw[List.append_nil];rfl⟩
 | t::ts,W,y,hW,hl,hj,ht=>by
   have hat:atI ((kyW W).map sayD) (j:Int)=some (sayD q.1):=by
    have hjl:j < W.length:=(qo hj).1
    rw[Yd1]
    have:(kyW W)[j]?=some q.1:=by unfold kyW;rw[Qg,hj];rfl
    rw[Yim this]
    rfl
   rw[Qc,M.forM]
   have hg:gSet 5 (sayD t) (stW bk s W j y)=some (stW bk s W j (some (.sh (sayD t)))):=rfl
   rw[hg,qd]
   have hl':W.length+ts.length+1<=1000:=by rw[qr]at hl;omega
   have hh:=Yub true t (kyW W) (W.map fun p=>optS p.2)
   by_cases hm:t∈kyW W
   ·have e1:Ybm (stW bk s W j (some (.sh (sayD t))))=some (.nx (stW bk s W j (some (.sh (sayD t))))):=by
     simp only[hm,decide_true]at hh
     unfold stW
     generalize (kyW W).map sayD=KW at *
     generalize (W.map fun p=>optS p.2)=VW at *
     generalize sayD t=dt at *
     generalize sayD s=ds at *
     simp[Ybm,hh]
    obtain⟨X,y',h1,h2,h3,h4⟩:=Yja ts W (some (.sh (sayD t))) hW (by omega) hj fun u hu=>ht u (qg _ hu)
    refine⟨X,y',h1,fun u hu=>?_,fun p hp=>qg _ (h3 p hp),?_⟩
    ·rcases qt hu with rfl | hu
     ·unfold kyW
      rw[Qn]
      exact List.mem_append.mpr (.inl hm)
     ·exact h2 u hu
    ·rw[e1,qd]
     exact h4
   ·have hW':=y14 hW hj (ht t (by simp)) hm
    have e1:Ybm (stW bk s W j (some (.sh (sayD t))))=some (.nx (stW bk s (W++[(t,some q.1)]) j (some (.sh (sayD t))))):=by
     simp only[hm,decide_false]at hh
     have hp:=y50 (by omega) hm (sayD q.1)
     have happ:appD ((kyW W).map sayD) (sayD t)=some ((kyW W).map sayD++[sayD t]):=Ysc (by unfold kyW;simp;omega)
     have k1:(kyW (W++[(t,some q.1)])).map sayD=(kyW W).map sayD++[sayD t]:=by unfold kyW;rw[Qn,Qn];rfl
     have k2:((W++[(t,some q.1)]).map fun p=>optS p.2)=(W.map fun p=>optS p.2)++[sayD q.1]:=by rw[Qn];rfl
     unfold stW
     rw[k1,k2]
     clear k1 k2
     generalize (kyW W).map sayD=KW at *
     generalize (W.map fun p=>optS p.2)=VW at *
     generalize sayD t=dt at *
     generalize sayD s=ds at *
     generalize sayD q.1=dq at *
     have hod:y0z 2 [some (.sh bk),some (.sh ds),some (.od true KW VW),some (.ow KW),some (.sh (.int (j:Int))),some (.sh dt)]=some (KW,VW):=rfl
     have hput:sPut 2 (getC 5) (b2 (getC 3) (getC 4) ixD) [some (.sh bk),some (.sh ds),some (.od true KW VW),some (.ow KW),some (.sh (.int (j:Int))),some (.sh dt)]=some (.nx [some (.sh bk),some (.sh ds),some (.od true (KW++[dt]) (VW++[dq])),some (.ow KW),some (.sh (.int (j:Int))),some (.sh dt)]):=by
      unfold sPut
      rw[hod]
      simp[hat,hp]
     simp[Ybm,hh,hput,happ]
    have hj2:(W++[(t,some q.1)])[j]?=some q:=by
     rw[Qr (qo hj).1]
     exact hj
    obtain⟨X,y',h1,h2,h3,h4⟩:=Yja ts (W++[(t,some q.1)]) (some (.sh (sayD t))) hW' (by rw[qy,List.length_singleton];omega) hj2 fun u hu=>ht u (qg _ hu)
    rw[List.append_assoc]at h1 h2 h4
    refine⟨[(t,some q.1)]++X,y',h1,fun u hu=>?_,fun p hp=>?_,?_⟩
    ·rcases qt hu with rfl | hu
     ·unfold kyW
      simp
     ·exact h2 u hu
    ·rcases qv hp with hp | hp
     ·rw[Ql]at hp
      rw[hp]
      simp
     ·exact qg _ (h3 p hp)
    ·rw[e1,qd]
     exact h4
theorem Yuc:∀(n:Nat) (l:List Nat),l.Nodup->(∀x∈l,x < n)->l.length<=n
 | 0,l,_,h=>by
   cases l with
   | nil=>simp
   | cons a l=>exact absurd (h a qh) (by omega)
 | n+1,l,hn,h=>by
   have h1:=Yuc n (l.erase n) (hn.erase n) fun x hx=>by
    obtain⟨h1,h2⟩:=(hn.mem_erase_iff).mp hx
    have:=h x h2
    omega
   rw[List.length_erase]at h1
   split at h1<;>omega
theorem Yrb{W:Wy}(hn:(kyW W).Nodup)(h:∀s∈kyW W,s.1 < 60):W.length<=120:=by
 have hm:((kyW W).map fun s:Say=>2 * s.1+(if s.2 then 1 else 0)).Nodup:=by
  rw[List.Nodup,List.pairwise_map]
  refine hn.imp fun {a b} hab e=>hab ?_
  obtain⟨a1,a2⟩:=a
  obtain⟨b1,b2⟩:=b
  cases a2<;>cases b2<;>simp at e<;>first | (exfalso;omega) | (rw[show a1=b1 by omega])
 have:=Yuc 120 _ hm fun x hx=>by
  obtain⟨s,hs,rfl⟩:=qx hx
  have:=h s hs
  cases s.2<;>simp<;>omega
 simpa [kyW]using this
theorem y9a{L:List (List Say)}(hL:∀l∈L,∀s∈l,s.1 < 60){s t:Say}(h:t∈ledL L s):t.1 < 60:=by
 unfold ledL at h
 obtain⟨l,hl,e⟩:=List.mem_filterMap.mp h
 unfold Ymb at e
 split at e
 ·rename_i hm
  injection e with e
  subst e
  cases hf:l.filter fun t=>!decide (t=flS s)with
  | nil=>exact hL l hl _ hm
  | cons a r=>
    have:a∈l.filter fun t=>!decide (t=flS s):=by rw[hf];simp
    exact hL l hl a (Qb this).1
 ·cases e
def Yo2(L:List (List Say))(W:Wy)(j:Nat):Prop:=∀k q,W[k]?=some q->k < j->∀t∈ledL L q.1,t∈kyW W
theorem Yvn{L:List (List Say)}(hLl:L.length<=500)(hL:∀l∈L,∀s∈l,s.1 < 60){s:Say}:∀(m fuel j:Nat) (W:Wy) (y:Option B),121<=j+m->m+1<=fuel->WOk L s W->(∀t∈kyW W,t.1 < 60)->j<=W.length->Yo2 L W j->
 ∃(W':Wy) (j':Nat) (y':Option B),WOk L s W'/\(∀t∈kyW W',t.1 < 60)/\Yo2 L W' W'.length/\Ydk (b2 (getC 4) (cC (Yg (getC 3) aNil) lenC) ltI) Ybz fuel (stW (bkE L) s W j y)=some (.nx (stW (bkE L) s W' j' y')):=by
 intro m
 induction m with
 | zero=>
   intro fuel j W y h1 h2 hW h60 hj hc
   have:=Yrb hW.nd h60
   omega
 | succ m ih=>
   intro fuel j W y h1 h2 hW h60 hj hc
   cases fuel with
   | zero=>omega
   | succ fuel=>
     have hcond:(b2 (getC 4) (cC (Yg (getC 3) aNil) lenC) ltI) (stW (bkE L) s W j y)=some (decide (j < W.length)):=by
      have hlen:(((kyW W).map sayD).length:Int)=(W.length:Int):=by unfold kyW;simp
      unfold stW
      generalize (kyW W).map sayD=KW at *
      generalize (W.map fun p=>optS p.2)=VW at *
      by_cases z:j < W.length
      ·have:(j:Int) < (W.length:Int):=by omega
       simp[hlen,z,this]
      ·have:¬(j:Int) < (W.length:Int):=by omega
       simp[hlen,z,this]
     rw[Ydk,hcond]
     by_cases hlt:j < W.length
     ·have hq:W[j]?=some W[j]:=qq hlt
      have hled:=Yt4 (L:=L) (by omega) W[j].1
      have hWl:=Yrb hW.nd h60
      have hll:(ledL L W[j].1).length<=500:=Qj (List.length_filterMap_le _ _) hLl
      obtain⟨X,y1,k1,k2,k3,k4⟩:=Yja (bk:=bkE L) (j:=j) (q:=W[j]) (ledL L W[j].1) W y hW (by omega) hq fun t ht=>ht
      have hbody:Ybz (stW (bkE L) s W j y)=some (.nx (stW (bkE L) s (W++X) (j+1) y1)):=by
       have hat:atI ((kyW W).map sayD) (j:Int)=some (sayD W[j].1):=by
        rw[Yd1]
        have:(kyW W)[j]?=some W[j].1:=by unfold kyW;rw[Qg,hq];rfl
        rw[Yim this]
        rfl
       have hinc:((j+1:Nat):Int)=(j:Int)+1:=by omega
       unfold stW at k4 ⊢
       rw[hinc]
       generalize (kyW (W++X)).map sayD=KX at *
       generalize ((W++X).map fun p=>optS p.2)=VX at *
       generalize (kyW W).map sayD=KW at *
       generalize (W.map fun p=>optS p.2)=VW at *
       generalize sayD W[j].1=dq at *
       generalize sayD s=ds at *
       generalize (ledL L W[j].1).map sayD=LL at *
       generalize bkE L=bk at *
       simp[Ybz,hat,hled,k4]
      have h60':∀t∈kyW (W++X),t.1 < 60:=fun t ht=>by
       unfold kyW at ht
       rw[Qn]at ht
       rcases qv ht with ht | ht
       ·exact h60 t ht
       ·obtain⟨p,hp,rfl⟩:=qx ht
        exact y9a hL (k3 p hp)
      have hc':Yo2 L (W++X) (j+1):=fun k q hk hkj t ht=>by
       by_cases e:k=j
       ·subst e
        rw[Qr hlt,hq]at hk
        cases hk
        exact k2 t ht
       ·rw[Qr (by omega)]at hk
        have:=hc k q hk (by omega) t ht
        unfold kyW at this ⊢
        rw[Qn]
        exact List.mem_append.mpr (.inl this)
      obtain⟨W',j',y',r1,r2,r3,r4⟩:=ih fuel (j+1) (W++X) y1 (by omega) (by omega) k1 h60' (by rw[qy];omega) hc'
      refine⟨W',j',y',r1,r2,r3,?_⟩
      rw[qd,decide_eq_true hlt,if_pos rfl,hbody,qd]
      exact r4
     ·refine⟨W,j,y,hW,h60,fun k q hk hkl=>hc k q hk (by omega),?_⟩
      rw[qd,decide_eq_false hlt,if_neg qi]
structure Ways(L:List (List Say))(s:Say)(W:Wy):Prop extends WOk L s W where
 cl:Yo2 L W W.length
 lt:∀t∈kyW W,t.1 < 60
theorem Ysz{L:List (List Say)}(hLl:L.length<=500)(hL:∀l∈L,∀s∈l,s.1 < 60){s:Say}(hs:s.1 < 60):∃W:Wy,Ways L s W/\Yc0 [bkE L,sayD s]=some (wyD W):=by
 have h0:WOk L s [(s,none)]:=⟨by simp[kyW],⟨[],rfl⟩,fun i p hi hp=>by
  rw[List.getElem?_eq_none (by simp;omega)]at hi
  cases hi⟩
 obtain⟨W,j,y,h1,h2,h3,h4⟩:=Yvn hLl hL (s:=s) 121 4000 0 [(s,none)] none (by omega) (by omega) h0 (fun t ht=>by simp[kyW]at ht;rw[ht];exact hs) (Qh _) (fun k q _ hk=>by omega)
 refine⟨W,{ h1 with cl:=h3,lt:=h2 },?_⟩
 rw[Yc0,Yx (by rfl)]
 have hst0:Yq 6 [bkE L,sayD s]=[some (.sh (bkE L)),some (.sh (sayD s)),none,none,none,none]:=rfl
 have hdisp:Yxl 2 (getV 1) (kD .non) [some (.sh (bkE L)),some (.sh (sayD s)),none,none,none,none]=some (.nx [some (.sh (bkE L)),some (.sh (sayD s)),some (.od true [sayD s] [.non]),none,none,none]):=rfl
 rw[hst0,Ykz,Yyo,hdisp,qd,y1p]
 have h4':Ydk (b2 (getC 4) (cC (Yg (getC 3) aNil) lenC) ltI) Ybz 4000 [some (.sh (bkE L)),some (.sh (sayD s)),some (.od true [sayD s] [.non]),some (.ow [sayD s]),some (.sh (.int 0)),none]=some (.nx (stW (bkE L) s W j y)):=h4
 have h5:Yfk (stW (bkE L) s W j y)=some (.rt (wyD W)):=rfl
 generalize stW (bkE L) s W j y=sw at *
 generalize wyD W=wd at *
 generalize sayD s=ds at *
 generalize bkE L=bk at *
 simp[h4',h5,-Yfk]
end Lw
namespace Lw
open PySem L2 M Bk
theorem Yzo{L:List (List Say)}(hL:∀l∈L,Ygj l){s t:Say}:t∈ledL L s↔ed L s t:=by
 unfold ledL ed
 rw[List.mem_filterMap]
 constructor
 ·rintro⟨l,hl,e⟩
  unfold Ymb at e
  split at e
  ·rename_i hm
   injection e with e
   cases hf:l.filter fun t=>!decide (t=flS s)with
   | nil=>
     rw[hf]at e
     have e':flS s=t:=e
     refine⟨l,hl,hm,by rw[<-e'];exact hm,fun _=>?_⟩
     have hall:∀x∈l,x=flS s:=fun x hx=>by
      rw[List.filter_eq_nil_iff]at hf
      have:=hf x hx
      simpa using this
     obtain⟨_,g2⟩:=hL l hl
     match l,g2,hm,hall with
     | [a],_,_,_=>rfl
     | a::b::r,g2,_,hall=>
       have h1:=hall a (by simp)
       have h2:=hall b (by simp)
       rw[h1,h2]at g2
       simp at g2
   | cons a r=>
     rw[hf]at e
     have e':a=t:=e
     have ha:a∈l.filter fun t=>!decide (t=flS s):=by rw[hf];simp
     obtain⟨a1,a2⟩:=Qb ha
     refine⟨l,hl,hm,by rw[<-e'];exact a1,fun z=>?_⟩
     rw[<-e']at z
     simp[z]at a2
  ·cases e
 ·rintro⟨l,hl,h1,h2,h3⟩
  refine⟨l,hl,?_⟩
  unfold Ymb
  rw[if_pos h1]
  obtain⟨g1,g2⟩:=hL l hl
  by_cases e:t=flS s
  ·have hlen:=h3 e
   match l,hlen,h1 with
   | [a],_,h1=>
     have ha:flS s=a:=by simpa using h1
     rw[e,ha]
     simp
  ·have hf:l.filter (fun t=>!decide (t=flS s))=[t]:=by
    match l,g1,g2,h1,h2 with
    | [a],_,_,h1,h2=>
      simp at h1 h2
      exact absurd (h2.trans h1.symm) e
    | [a,b],_,g2,h1,h2=>
      simp at h1 h2
      rcases h1 with h1 | h1
      ·have h2':t=b:=h2.resolve_left fun z=>e (z.trans h1.symm)
       subst h2'
       rw[List.filter_cons_of_neg (by simp[h1]),List.filter_cons_of_pos (by simpa using e)]
       rfl
      ·have h2':t=a:=h2.resolve_right fun z=>e (z.trans h1.symm)
       subst h2'
       rw[List.filter_cons_of_pos (by simpa using e),List.filter_cons_of_neg (by simp[h1])]
       rfl
   rw[hf]
   rfl
theorem Yj4{L:List (List Say)}(hL:∀l∈L,Ygj l){s:Say}{W:Wy}(h:Ways L s W){t:Say}:t∈kyW W↔Rch L s t:=by
 have key:∀(n i:Nat) p,i < n->W[i]?=some p->Rch L s p.1:=fun n=>by
  induction n with
  | zero=>intro i p hi;omega
  | succ n ih=>
    intro i p hi hp
    by_cases h0:i=0
    ·subst h0
     obtain⟨X,e⟩:=h.hd
     rw[e]at hp
     cases hp
     exact .refl
    ·obtain⟨k,q,k1,k2,k3,k4⟩:=h.par i p hp (by omega)
     exact .step (ih k q (by omega) k2) ((Yzo hL).mp k4)
 constructor
 ·intro ht
  obtain⟨p,hp,rfl⟩:=qx ht
  obtain⟨i,hi,e⟩:=List.mem_iff_getElem.mp hp
  exact key (i+1) i p (by omega) (by rw[qq hi,e])
 ·intro hr
  induction hr with
  | refl=>
    obtain⟨X,e⟩:=h.hd
    rw[e]
    simp[kyW]
  | step _ e ih=>
    obtain⟨p,hp,rfl⟩:=qx ih
    obtain⟨i,hi,e2⟩:=List.mem_iff_getElem.mp hp
    exact h.cl i p (by rw[qq hi,e2]) hi _ ((Yzo hL).mpr e)
inductive BackP (L:List (List Say)) (s:Say):List Say->Say->Prop
 | one:BackP L s [s] s
 | cons {p:List Say} {q t:Say}:BackP L s p q->t∈ledL L q->BackP L s (t::p) t
theorem Yo3{β:Type}:∀{W:List (Say × β)} {i:Nat} {p:Say × β},(W.map (·.1)).Nodup->W[i]?=some p->Yaf ((W.map (·.1)).map kN) (W.map (·.2)) (kN p.1)=some p.2
 | [],i,p,_,h=>by simp at h
 | w::W,i,p,hn,h=>by
   rw[Qc,List.nodup_cons]at hn
   rw[Qc,Qc,Qc,Yaf]
   cases i with
   | zero=>
     simp at h
     subst h
     rw[if_pos rfl]
   | succ i=>
     rw[List.getElem?_cons_succ]at h
     have hm:p.1∈W.map (·.1):=List.mem_map_of_mem (f:=(·.1)) (List.mem_of_getElem? h)
     rw[if_neg (fun z=>hn.1 (by rw[Yzn z];exact hm))]
     exact Yo3 hn.2 h
theorem y15{W:Wy}(hn:(kyW W).Nodup){i:Nat}{p:Say × Option Say}(h:W[i]?=some p):getT (wyD W) (sayD p.1)=some (optS p.2):=by
 show(Ygw ((kyW W).map sayD)).bind _=_
 rw[Yfe,qd,Yij,qd]
 have:=Yo3 (W:=W.map fun p=>(p.1,optS p.2)) (i:=i) (p:=(p.1,optS p.2)) (by rw[Qd];exact hn) (by rw[Qg,h];rfl)
 have e1:((W.map fun p=>(p.1,optS p.2)).map (·.1))=kyW W:=by rw[Qd];rfl
 have e2:((W.map fun p=>(p.1,optS p.2)).map (·.2))=W.map fun p=>optS p.2:=by rw[Qd];rfl
 rw[e1,e2]at this
 exact this
theorem Yvo{L:List (List Say)}{s:Say}{W:Wy}(h:WOk L s W)(hl:W.length<=120)(d1:Option B):∀(n fuel i:Nat) (p:Say × Option Say) (R:List Say),i < n->i+2<=fuel->R.length+i<=500->W[i]?=some p->
 ∃b:List Say,BackP L s b p.1/\b.length<=i+1/\Ydk (b2 (getC 3) (kD .non) (isN true)) Yfj fuel [some (.sh (wyD W)),d1,some (.ow (R.map sayD)),some (.sh (sayD p.1))]=some (.nx [some (.sh (wyD W)),d1,some (.ow ((R++b).map sayD)),some (.sh .non)]):=by
 intro n
 induction n with
 | zero=>intro fuel i p R hi;omega
 | succ n ih=>
   intro fuel i p R hi hf hRl hp
   cases fuel with
   | zero=>omega
   | succ fuel=>
     have hcond:∀(x:Say) (R:List Say),(b2 (getC 3) (kD .non) (isN true)) [some (.sh (wyD W)),d1,some (.ow (R.map sayD)),some (.sh (sayD x))]=some true:=fun x R=>rfl
     have hend:∀R:List Say,(b2 (getC 3) (kD .non) (isN true)) [some (.sh (wyD W)),d1,some (.ow (R.map sayD)),some (.sh .non)]=some false:=fun R=>rfl
     have hg:=y15 h.nd hp
     have hstep:Yfj [some (.sh (wyD W)),d1,some (.ow (R.map sayD)),some (.sh (sayD p.1))]=some (.nx [some (.sh (wyD W)),d1,some (.ow ((R++[p.1]).map sayD)),some (.sh (optS p.2))]):=by
      have happ:appD (R.map sayD) (sayD p.1)=some (R.map sayD++[sayD p.1]):=Ysc (by rw[qf];omega)
      rw[Qn]
      generalize wyD W=wd at *
      generalize R.map sayD=RR at *
      have hs1:[p.1].map sayD=[sayD p.1]:=rfl
      rw[hs1]
      generalize sayD p.1=dp at *
      generalize optS p.2=op at *
      simp[Yfj,happ,hg]
     rw[Ydk,hcond,qd,if_pos rfl,hstep,qd]
     by_cases h0:i=0
     ·subst h0
      obtain⟨X,e⟩:=h.hd
      rw[e]at hp
      cases hp
      refine⟨[s],.one,by simp,?_⟩
      cases fuel with
      | zero=>omega
      | succ fuel=>
        show Ydk _ _ (fuel+1) [some (.sh (wyD W)),d1,some (.ow ((R++[s]).map sayD)),some (.sh .non)]=_
        rw[Ydk,hend,qd,if_neg qi]
     ·obtain⟨k,q,k1,k2,k3,k4⟩:=h.par i p hp (by omega)
      obtain⟨b,b1,b2',b3⟩:=ih fuel k q (R++[p.1]) (by omega) (by omega) (by simp;omega) k2
      refine⟨p.1::b,.cons b1 k4,by simp;omega,?_⟩
      rw[k3]
      have e:R++p.1::b=(R++[p.1])++b:=by simp
      rw[e]
      exact b3
structure Road(L:List (List Say))(s t:Say)(r:List Say):Prop where
 ok:okR L r=true
 fst:at0 r 0=s
 lst:Ymc r=t
 len:r.length<=120
theorem Yo4{r:List Say}{i:Nat}(h:i < r.length)(x:Say):at0 (r++[x]) i=at0 r i:=by
 unfold at0
 rw[List.getD_eq_getElem?_getD,List.getD_eq_getElem?_getD,Qr h]
theorem Yzp(r:List Say)(x:Say):at0 (r++[x]) r.length=x:=by
 unfold at0
 rw[List.getD_eq_getElem?_getD]
 simp
theorem Yzq{L:List (List Say)}{s t:Say}{b:List Say}(h:BackP L s b t):okR L b.reverse=true/\at0 b.reverse 0=s/\Ymc b.reverse=t:=by
 induction h with
 | one=>
   refine⟨?_,rfl,rfl⟩
   unfold okR
   simp
 | @cons p q t _ hm ih=>
   obtain⟨h1,h2,h3⟩:=ih
   have hpos:=Yln h1
   rw[List.reverse_cons]
   refine⟨?_,by rw[Yo4 hpos];exact h2,?_⟩
   ·unfold okR at h1 ⊢
    rw[Qf,List.all_eq_true]at h1 ⊢
    refine⟨by simp,fun i hi=>?_⟩
    have hi':=Qa hi
    rw[qy,List.length_singleton]at hi'
    unfold stO
    by_cases e:i+1 < p.reverse.length
    ·have:=h1.2 i (List.mem_range.mpr (by omega))
     unfold stO at this
     rw[Yo4 e,Yo4 (by omega)]
     exact this
    ·have e2:i+1=p.reverse.length:=by omega
     rw[e2,Yzp,Yo4 (by omega)]
     have:at0 p.reverse i=q:=by
      rw[<-h3]
      unfold Ymc
      congr 1
      omega
     rw[this]
     exact decide_eq_true hm
   ·unfold Ymc
    rw[qy,List.length_singleton,Nat.add_sub_cancel,Yzp]
theorem Yik{L:List (List Say)}{s:Say}{W:Wy}(h:Ways L s W){t:Say}(ht:t∈kyW W):∃r:List Say,Road L s t r/\Yef [wyD W,sayD t]=some (.tup (r.map sayD)):=by
 obtain⟨p,hp,rfl⟩:=qx ht
 obtain⟨i,hi,e⟩:=List.mem_iff_getElem.mp hp
 have hl:=Yrb h.nd h.lt
 obtain⟨b,b1,b2',b3⟩:=Yvo h.toWOk hl (some (.sh (sayD p.1))) (i+1) 4000 i p [] (by omega) (by omega) (by simp;omega) (by rw[qq hi,e])
 obtain⟨r1,r2,r3⟩:=Yzq b1
 refine⟨b.reverse,⟨r1,r2,r3,by rw[List.length_reverse];omega⟩,?_⟩
 rw[Yef,Yx (by rfl)]
 have hst0:Yq 4 [wyD W,sayD p.1]=[some (.sh (wyD W)),some (.sh (sayD p.1)),none,none]:=rfl
 rw[hst0]
 rw[Qk,List.map_nil]at b3
 rw[List.map_reverse]
 generalize b.map sayD=BB at *
 generalize wyD W=wd at *
 generalize sayD p.1=dp at *
 have hrev:revF (getC 2) [some (.sh wd),some (.sh dp),some (.ow BB),some (.sh .non)]=some BB.reverse:=rfl
 simp[Yt3,b3,hrev]
end Lw
namespace Lw
open PySem L2 M Bk
theorem Yft{gt:D->Ro->Option Ro}{fb:Ro->Option Out}{α:Type}(enc:α->D)(I:List α->Ro->Prop)(O:D->Prop):∀(l pre:List α) (ρ:Ro),I pre ρ->
 (∀q a r ρ,pre++l=q++a::r->I q ρ->∃ρ1,gt (enc a) ρ=some ρ1/\((∃ρ2,fb ρ1=some (.nx ρ2)/\I (q++[a]) ρ2)\/∃d,fb ρ1=some (.rt d)/\O d))->
 (∃ρ',M.forM gt fb (l.map enc) ρ=some (.nx ρ')/\I (pre++l) ρ')\/∃d,M.forM gt fb (l.map enc) ρ=some (.rt d)/\O d
 | [],pre,ρ,h0,_=>.inl ⟨ρ,rfl,by rw[List.append_nil];exact h0⟩
 | a::l,pre,ρ,h0,hs=>by
   obtain⟨ρ1,e1,h⟩:=hs pre a l ρ rfl h0
   rw[Qc,M.forM,e1,qd]
   rcases h with⟨ρ2,e2,h2⟩ | ⟨d,e2,h2⟩
   ·rw[e2,qd]
    have:=Yft enc I O l (pre++[a]) ρ2 h2 fun q b r ρ e=>hs q b r ρ (by rw[<-e];simp)
    rw[List.append_assoc]at this
    exact this
   ·rw[e2,qd]
    exact .inr ⟨d,rfl,h2⟩
def sayL(B:List Nat):List Say:=B.flatMap fun b=>[(b,false),(b,true)]
theorem mem_sayL{B:List Nat}{s:Say}:s∈sayL B↔s.1∈B:=by
 unfold sayL
 rw[List.mem_flatMap]
 constructor
 ·rintro⟨b,hb,h⟩
  simp at h
  rcases h with rfl | rfl<;>exact hb
 ·intro h
  refine⟨s.1,h,?_⟩
  obtain⟨a,b⟩:=s
  cases b<;>simp
theorem Yo5(B:List Nat):(sayL B).length=2 * B.length:=by
 induction B with
 | nil=>rfl
 | cons b B ih=>
   have:sayL (b::B)=[(b,false),(b,true)]++sayL B:=rfl
   rw[this,qy,ih,qr]
   simp
   omega
theorem Ycc{c:D}{B:List Nat}(hc:Yn c=some (B.map nD))(hB:B.length<=1000):Yas [c]=some (.lst ((sayL B).map sayD)):=by
 obtain⟨ρ',e1,y2,rfl⟩:=Ygq (gt:=gSet 2) (fb:=Yd5) nD (fun pre ρ=>∃y2:Option M.B,ρ=[some (.sh c),some (.ow ((sayL pre).map sayD)),y2]) B []
  [some (.sh c),some (.ow []),none] ⟨none,rfl⟩ (by
   rintro q b r ρ e ⟨y2,rfl⟩
   have hq:q.length<=1000:=by
    have:=congrArg List.length e
    simp at this
    omega
   refine⟨_,[some (.sh c),some (.ow ((sayL (q++[b])).map sayD)),some (.sh (nD b))],rfl,?_,_,rfl⟩
   have hap:(sayL (q++[b])).map sayD=(sayL q).map sayD++[.tup [.int (b:Int),.bl false],.tup [.int (b:Int),.bl true]]:=by
    unfold sayL
    rw[List.flatMap_append,Qn]
    rfl
   have hx:=Yo5 q
   have hext:extD ((sayL q).map sayD) (.lst [.tup [.int (b:Int),.bl false],.tup [.int (b:Int),.bl true]])=some ((sayL q).map sayD++[.tup [.int (b:Int),.bl false],.tup [.int (b:Int),.bl true]]):=by
    unfold extD
    simp
    omega
   rw[hap]
   generalize (sayL q).map sayD=SQ at *
   simp[Yd5,hext])
 rw[Qk]at e1
 rw[Yas,Yx (by rfl)]
 generalize (sayL B).map sayD=SB at *
 generalize B.map nD=BB at *
 simp[Yjl,Yq,hc,e1]
def wsD(A:List Say)(wf:Say->Wy):D:=.dct true (A.map sayD) (A.map fun s=>wyD (wf s))
theorem Ye4{A:List Say}{wf:Say->Wy}(hn:A.Nodup){s:Say}(h:s∈A):getT (wsD A wf) (sayD s)=some (wyD (wf s)):=by
 show(Ygw (A.map sayD)).bind _=_
 rw[Yfe,qd,Yij,qd]
 obtain⟨i,hi,e⟩:=List.mem_iff_getElem.mp h
 have:=Yo3 (W:=A.map fun s=>(s,wyD (wf s))) (i:=i) (p:=(s,wyD (wf s))) (by rw[Qd];simpa [Function.comp_def]using hn) (by rw[Qg,qq hi,e];rfl)
 have e1:((A.map fun s=>(s,wyD (wf s))).map (·.1))=A:=by rw[Qd];simp[Function.comp_def]
 have e2:((A.map fun s=>(s,wyD (wf s))).map (·.2))=A.map fun s=>wyD (wf s):=by rw[Qd];rfl
 rw[e1,e2]at this
 exact this
structure WsOk(L:List (List Say))(A:List Say)(wf:Say->Wy):Prop where
 nd:A.Nodup
 all:∀s∈A,Ways L s (wf s)
theorem Yj5{W:Wy}(t:Say):hasT false (sayD t) (wyD W)=some (decide (t∈kyW W)):=by
 unfold wyD
 rw[Yub]
 simp
theorem Yzr{L:List (List Say)}{A:List Say}{wf:Say->Wy}(h:WsOk L A wf){s t:Say}(hs:s∈A)(ht:t∈A):Yam [wsD A wf,sayD s,sayD t]=some (.bl (decide (t∈kyW (wf s))&&decide (s∈kyW (wf t)))):=by
 have g1:=Ye4 (wf:=wf) h.nd hs
 have g2:=Ye4 (wf:=wf) h.nd ht
 have h1:=Yj5 (W:=wf s) t
 have h2:=Yj5 (W:=wf t) s
 rw[Yam,Yx (by rfl)]
 generalize wsD A wf=ws at *
 generalize wyD (wf s)=w1 at *
 generalize wyD (wf t)=w2 at *
 generalize sayD s=ds at *
 generalize sayD t=dt at *
 cases hb:decide (t∈kyW (wf s))with
 | true=>
   rw[hb]at h1
   simp[Ybs,Yq,g1,g2,h1,h2]
 | false=>
   rw[hb]at h1
   simp[Ybs,Yq,g1,h1]
inductive StormP (L:List (List Say)) (K S:List Nat):D->Prop
 | clash {s:Say} {a b:List Say}:Road L s (flS s) a->Road L (flS s) s b->StormP L K S (.tup [.str "clash",.tup (a.map sayD),.tup (b.map sayD)])
 | cross {s t:Say} {a:List Say}:s.1∈S->t.1∈S->s≠t->Road L s t a->StormP L K S (.tup [.str "cross",.tup (a.map sayD)])
 | late {s t:Say} {a b:List Say}:s.1∈S->t.1∈K->t.1 < s.1->Road L s t a->Road L t s b->StormP L K S (.tup [.str "late",.tup (a.map sayD),.tup (b.map sayD)])
theorem Yo6{L:List (List Say)}{A:List Say}(hAl:A.length<=1000){wf:Say->Wy}(h:WsOk L A wf)(hfl:∀s∈A,flS s∈A)(K S:List Nat) :
 (∃d,StormP L K S d/\Ycg [wsD A wf]=some d)\/((∀s∈A,¬(flS s∈kyW (wf s)/\s∈kyW (wf (flS s))))/\Ycg [wsD A wf]=some .non):=by
 have hloop:=Yft (gt:=gSet 1) (fb:=Yb3) sayD (fun pre ρ=>(∀s∈pre,¬(flS s∈kyW (wf s)/\s∈kyW (wf (flS s))))/\∃y1 y2:Option M.B,ρ=[some (.sh (wsD A wf)),y1,y2]) (StormP L K S) A []
  [some (.sh (wsD A wf)),none,none] ⟨fun s hs=>(nomatch hs),none,none,rfl⟩ (by
   rintro q s r ρ e ⟨hq,y1,y2,rfl⟩
   rw[Qk]at e
   have hs:s∈A:=by rw[e];simp
   have hc:=Yfc s
   have hl:=Yzr h hs (hfl s hs)
   refine⟨[some (.sh (wsD A wf)),some (.sh (sayD s)),y2],rfl,?_⟩
   by_cases hm:flS s∈kyW (wf s)/\s∈kyW (wf (flS s))
   ·right
    obtain⟨a,ra,ea⟩:=Yik (h.all s hs) hm.1
    obtain⟨b,rb,eb⟩:=Yik (h.all _ (hfl s hs)) hm.2
    refine⟨_,?_,.clash ra rb⟩
    have g1:=Ye4 (wf:=wf) h.nd hs
    have g2:=Ye4 (wf:=wf) h.nd (hfl s hs)
    simp only[hm.1,hm.2,decide_true,Bool.and_self]at hl
    generalize wsD A wf=ws at *
    generalize wyD (wf s)=w1 at *
    generalize wyD (wf (flS s))=w2 at *
    generalize a.map sayD=AA at *
    generalize b.map sayD=BB at *
    generalize sayD (flS s)=df at *
    generalize sayD s=ds at *
    simp[Yb3,hc,hl,g1,g2,ea,eb]
   ·left
    have hl2:(decide (flS s∈kyW (wf s))&&decide (s∈kyW (wf (flS s))))=false:=by
     cases hz:(decide (flS s∈kyW (wf s))&&decide (s∈kyW (wf (flS s))))with
     | false=>rfl
     | true=>
       rw[Qf,decide_eq_true_eq,decide_eq_true_eq]at hz
       exact absurd hz hm
    rw[hl2]at hl
    refine⟨[some (.sh (wsD A wf)),some (.sh (sayD s)),some (.sh (sayD (flS s)))],?_,fun t ht=>?_,_,_,rfl⟩
    ·generalize wsD A wf=ws at *
     generalize sayD (flS s)=df at *
     generalize sayD s=ds at *
     simp[Yb3,hc,hl]
    ·rcases qv ht with ht | ht
     ·exact hq t ht
     ·rw[Ql]at ht
      rw[ht]
      exact hm)
 have hk:Yiw (wsD A wf)=some (A.map sayD):=by
  unfold wsD
  rw[Ysd,if_pos (by rw[qf];show A.length<=1000000;omega)]
 rw[Ycg,Yx (by rfl)]
 rcases hloop with⟨ρ',e1,hq,y1,y2,rfl⟩ | ⟨d,e1,hd⟩
 ·rw[Qk]at hq
  refine .inr ⟨hq,?_⟩
  generalize wsD A wf=ws at *
  generalize A.map sayD=AA at *
  simp[Yfo,Yq,hk,e1]
 ·refine .inl ⟨d,hd,?_⟩
  generalize wsD A wf=ws at *
  generalize A.map sayD=AA at *
  simp[Yfo,Yq,hk,e1]
end Lw
namespace Lw
open PySem L2 M Bk
theorem Yo7{L:List (List Say)}{A:List Say}{wf:Say->Wy}(h:WsOk L A wf){S:List Nat}(hSl:S.length<=1000)(hS:∀s∈sayL S,s∈A)(K:List Nat) :
 (∃d,StormP L K S d/\Ych [wsD A wf,.lst (S.map nD)]=some d)\/((∀s∈sayL S,∀t∈sayL S,¬(t≠s/\t∈kyW (wf s)))/\Ych [wsD A wf,.lst (S.map nD)]=some .non):=by
 have hso:=Ycc (c:=.lst (S.map nD)) (B:=S) rfl hSl
 have hloop:=Yft (gt:=gSet 2) (fb:=Yb4) sayD (fun pre ρ=>(∀s∈pre,∀t∈sayL S,¬(t≠s/\t∈kyW (wf s)))/\∃y2 y3:Option M.B,ρ=[some (.sh (wsD A wf)),some (.sh (.lst (S.map nD))),y2,y3]) (StormP L K S) (sayL S) []
  [some (.sh (wsD A wf)),some (.sh (.lst (S.map nD))),none,none] ⟨fun s hs=>(nomatch hs),none,none,rfl⟩ (by
   rintro q s r ρ e ⟨hq,y2,y3,rfl⟩
   rw[Qk]at e
   have hsS:s∈sayL S:=by rw[e];simp
   have hs:=hS s hsS
   have g1:=Ye4 (wf:=wf) h.nd hs
   refine⟨[some (.sh (wsD A wf)),some (.sh (.lst (S.map nD))),some (.sh (sayD s)),y3],rfl,?_⟩
   have hin:=Yft (gt:=gSet 3) (fb:=Ybl) sayD (fun pre ρ=>(∀t∈pre,¬(t≠s/\t∈kyW (wf s)))/\∃y3:Option M.B,ρ=[some (.sh (wsD A wf)),some (.sh (.lst (S.map nD))),some (.sh (sayD s)),y3]) (StormP L K S) (sayL S) []
    [some (.sh (wsD A wf)),some (.sh (.lst (S.map nD))),some (.sh (sayD s)),y3] ⟨fun s hs=>(nomatch hs),y3,rfl⟩ (by
     rintro q' t r' ρ e' ⟨hq',y3',rfl⟩
     rw[Qk]at e'
     have htS:t∈sayL S:=by rw[e'];simp
     have hne:=Yi9 true t s
     have hh:=Yj5 (W:=wf s) t
     refine⟨[some (.sh (wsD A wf)),some (.sh (.lst (S.map nD))),some (.sh (sayD s)),some (.sh (sayD t))],rfl,?_⟩
     have tail:¬(t≠s/\t∈kyW (wf s))->(∀u∈q'++[t],¬(u≠s/\u∈kyW (wf s))):=fun hm u hu=>by
      rcases qv hu with hu | hu
      ·exact hq' u hu
      ·rw[Ql]at hu
       rw[hu]
       exact hm
     by_cases hts:t=s
     ·left
      refine⟨[some (.sh (wsD A wf)),some (.sh (.lst (S.map nD))),some (.sh (sayD s)),some (.sh (sayD t))],?_,tail (fun z=>z.1 hts),_,rfl⟩
      simp only[hts,decide_true,if_true,Bool.not_true]at hne
      rw[hts]
      generalize wsD A wf=ws at *
      generalize sayD s=ds at *
      simp[Ybl,hne]
     ·simp only[hts,decide_false,if_true,Bool.not_false]at hne
      by_cases hm:t∈kyW (wf s)
      ·right
       obtain⟨a,ra,ea⟩:=Yik (h.all s hs) hm
       refine⟨_,?_,.cross (mem_sayL.mp hsS) (mem_sayL.mp htS) (fun z=>hts z.symm) ra⟩
       simp only[hm,decide_true]at hh
       generalize wsD A wf=ws at *
       generalize wyD (wf s)=w1 at *
       generalize a.map sayD=AA at *
       generalize sayD s=ds at *
       generalize sayD t=dt at *
       simp[Ybl,hne,g1,hh,ea]
      ·left
       refine⟨[some (.sh (wsD A wf)),some (.sh (.lst (S.map nD))),some (.sh (sayD s)),some (.sh (sayD t))],?_,tail (fun z=>hm z.2),_,rfl⟩
       simp only[hm,decide_false]at hh
       generalize wsD A wf=ws at *
       generalize wyD (wf s)=w1 at *
       generalize sayD s=ds at *
       generalize sayD t=dt at *
       simp[Ybl,hne,g1,hh])
   rcases hin with⟨ρ2,e1,hq2,y4,rfl⟩ | ⟨d,e1,hd⟩
   ·left
    rw[Qk]at hq2
    refine⟨[some (.sh (wsD A wf)),some (.sh (.lst (S.map nD))),some (.sh (sayD s)),y4],?_,fun u hu=>?_,_,_,rfl⟩
    ·generalize (sayL S).map sayD=SL at *
     generalize wsD A wf=ws at *
     generalize sayD s=ds at *
     generalize S.map nD=SS at *
     simp[Yb4,hso,e1]
    ·rcases qv hu with hu | hu
     ·exact hq u hu
     ·rw[Ql]at hu
      rw[hu]
      exact hq2
   ·right
    refine⟨d,?_,hd⟩
    generalize (sayL S).map sayD=SL at *
    generalize wsD A wf=ws at *
    generalize sayD s=ds at *
    generalize S.map nD=SS at *
    simp[Yb4,hso,e1])
 rw[Ych,Yx (by rfl)]
 rcases hloop with⟨ρ',e1,hq,y1,y2,rfl⟩ | ⟨d,e1,hd⟩
 ·rw[Qk]at hq
  refine .inr ⟨hq,?_⟩
  generalize wsD A wf=ws at *
  generalize (sayL S).map sayD=AA at *
  generalize S.map nD=SS at *
  simp[Yfp,Yq,hso,e1]
 ·refine .inl ⟨d,hd,?_⟩
  generalize wsD A wf=ws at *
  generalize (sayL S).map sayD=AA at *
  generalize S.map nD=SS at *
  simp[Yfp,Yq,hso,e1]
def mutW(wf:Say->Wy)(s t:Say):Prop:=t.1 < s.1/\t∈kyW (wf s)/\s∈kyW (wf t)
theorem Yrc{L:List (List Say)}{A:List Say}{wf:Say->Wy}(h:WsOk L A wf){K S:List Nat}(hKl:K.length<=1000)(hSl:S.length<=1000)(hK:∀s∈sayL K,s∈A)(hS:∀s∈sayL S,s∈A) :
 (∃d,StormP L K S d/\Yde [wsD A wf,.lst (K.map nD),.lst (S.map nD)]=some d)\/((∀s∈sayL S,∀t∈sayL K,¬mutW wf s t)/\Yde [wsD A wf,.lst (K.map nD),.lst (S.map nD)]=some .non):=by
 have hso:=Ycc (c:=.lst (S.map nD)) (B:=S) rfl hSl
 have hko:=Ycc (c:=.lst (K.map nD)) (B:=K) rfl hKl
 have hloop:=Yft (gt:=gSet 3) (fb:=Yci) sayD (fun pre ρ=>(∀s∈pre,∀t∈sayL K,¬mutW wf s t)/\∃y2 y3:Option M.B,ρ=[some (.sh (wsD A wf)),some (.sh (.lst (K.map nD))),some (.sh (.lst (S.map nD))),y2,y3]) (StormP L K S) (sayL S) []
  [some (.sh (wsD A wf)),some (.sh (.lst (K.map nD))),some (.sh (.lst (S.map nD))),none,none] ⟨fun s hs=>(nomatch hs),none,none,rfl⟩ (by
   rintro q s r ρ e ⟨hq,y2,y3,rfl⟩
   rw[Qk]at e
   have hsS:s∈sayL S:=by rw[e];simp
   have hs:=hS s hsS
   have g1:=Ye4 (wf:=wf) h.nd hs
   refine⟨[some (.sh (wsD A wf)),some (.sh (.lst (K.map nD))),some (.sh (.lst (S.map nD))),some (.sh (sayD s)),y3],rfl,?_⟩
   have hin:=Yft (gt:=gSet 4) (fb:=Ybt) sayD (fun pre ρ=>(∀t∈pre,¬mutW wf s t)/\∃y3:Option M.B,ρ=[some (.sh (wsD A wf)),some (.sh (.lst (K.map nD))),some (.sh (.lst (S.map nD))),some (.sh (sayD s)),y3]) (StormP L K S) (sayL K) []
    [some (.sh (wsD A wf)),some (.sh (.lst (K.map nD))),some (.sh (.lst (S.map nD))),some (.sh (sayD s)),y3] ⟨fun s hs=>(nomatch hs),y3,rfl⟩ (by
     rintro q' t r' ρ e' ⟨hq',y3',rfl⟩
     rw[Qk]at e'
     have htK:t∈sayL K:=by rw[e'];simp
     have ht:=hK t htK
     have g2:=Ye4 (wf:=wf) h.nd ht
     have hl:=Yzr h hs ht
     have hsi:Yn (sayD s)=some [.int (s.1:Int),.bl s.2]:=rfl
     have hti:Yn (sayD t)=some [.int (t.1:Int),.bl t.2]:=rfl
     refine⟨[some (.sh (wsD A wf)),some (.sh (.lst (K.map nD))),some (.sh (.lst (S.map nD))),some (.sh (sayD s)),some (.sh (sayD t))],rfl,?_⟩
     have tail:¬mutW wf s t->(∀u∈q'++[t],¬mutW wf s u):=fun hm u hu=>by
      rcases qv hu with hu | hu
      ·exact hq' u hu
      ·rw[Ql]at hu
       rw[hu]
       exact hm
     by_cases hlt:t.1 < s.1
     ·have hltI:(t.1:Int) < (s.1:Int):=by omega
      by_cases hm:t∈kyW (wf s)/\s∈kyW (wf t)
      ·right
       obtain⟨a,ra,ea⟩:=Yik (h.all s hs) hm.1
       obtain⟨b,rb,eb⟩:=Yik (h.all t ht) hm.2
       refine⟨_,?_,.late (mem_sayL.mp hsS) (mem_sayL.mp htK) hlt ra rb⟩
       simp only[hm.1,hm.2,decide_true,Bool.and_self]at hl
       generalize wsD A wf=ws at *
       generalize wyD (wf s)=w1 at *
       generalize wyD (wf t)=w2 at *
       generalize a.map sayD=AA at *
       generalize b.map sayD=BB at *
       generalize sayD s=ds at *
       generalize sayD t=dt at *
       simp[Ybt,hsi,hti,hlt,hltI,hl,g1,g2,ea,eb]
      ·left
       refine⟨[some (.sh (wsD A wf)),some (.sh (.lst (K.map nD))),some (.sh (.lst (S.map nD))),some (.sh (sayD s)),some (.sh (sayD t))],?_,tail (fun z=>hm z.2),_,rfl⟩
       have hl2:(decide (t∈kyW (wf s))&&decide (s∈kyW (wf t)))=false:=by
        cases hz:(decide (t∈kyW (wf s))&&decide (s∈kyW (wf t)))with
        | false=>rfl
        | true=>
          rw[Qf,decide_eq_true_eq,decide_eq_true_eq]at hz
          exact absurd hz hm
       rw[hl2]at hl
       generalize wsD A wf=ws at *
       generalize sayD s=ds at *
       generalize sayD t=dt at *
       simp[Ybt,hsi,hti,hlt,hltI,hl]
     ·left
      have hltI:¬(t.1:Int) < (s.1:Int):=by omega
      refine⟨[some (.sh (wsD A wf)),some (.sh (.lst (K.map nD))),some (.sh (.lst (S.map nD))),some (.sh (sayD s)),some (.sh (sayD t))],?_,tail (fun z=>hlt z.1),_,rfl⟩
      generalize wsD A wf=ws at *
      generalize sayD s=ds at *
      generalize sayD t=dt at *
      simp[Ybt,hsi,hti,hlt,hltI])
   rcases hin with⟨ρ2,e1,hq2,y4,rfl⟩ | ⟨d,e1,hd⟩
   ·left
    rw[Qk]at hq2
    refine⟨[some (.sh (wsD A wf)),some (.sh (.lst (K.map nD))),some (.sh (.lst (S.map nD))),some (.sh (sayD s)),y4],?_,fun u hu=>?_,_,_,rfl⟩
    ·generalize (sayL K).map sayD=SL at *
     generalize wsD A wf=ws at *
     generalize sayD s=ds at *
     generalize S.map nD=SS at *
     generalize K.map nD=KK at *
     simp[Yci,hko,e1]
    ·rcases qv hu with hu | hu
     ·exact hq u hu
     ·rw[Ql]at hu
      rw[hu]
      exact hq2
   ·right
    refine⟨d,?_,hd⟩
    generalize (sayL K).map sayD=SL at *
    generalize wsD A wf=ws at *
    generalize sayD s=ds at *
    generalize S.map nD=SS at *
    generalize K.map nD=KK at *
    simp[Yci,hko,e1])
 rw[Yde,Yx (by rfl)]
 rcases hloop with⟨ρ',e1,hq,y1,y2,rfl⟩ | ⟨d,e1,hd⟩
 ·rw[Qk]at hq
  refine .inr ⟨hq,?_⟩
  generalize wsD A wf=ws at *
  generalize (sayL S).map sayD=AA at *
  generalize S.map nD=SS at *
  generalize K.map nD=KK at *
  simp[Ygi,Yq,hso,e1]
 ·refine .inl ⟨d,hd,?_⟩
  generalize wsD A wf=ws at *
  generalize (sayL S).map sayD=AA at *
  generalize S.map nD=SS at *
  generalize K.map nD=KK at *
  simp[Ygi,Yq,hso,e1]
end Lw
namespace Lw
open PySem L2 M Bk
theorem y9b(l:List Say):isV .e (.ei l)=decide (l=[]):=by
 show eqD (.tup (l.map sayD)) (.tup [])=decide (l=[])
 rw[Ysa]
 cases l with
 | nil=>simp
 | cons a l=>
   have:eqL ((a::l).map sayD) []=false:=by simp[eqL,Ydf,PyData.eqvAll]
   rw[this]
   simp
theorem Yud(L:List (List Say)):(L.map Rl.ei).any (isV .e)=decide ([]∈L):=by
 rw[List.any_map]
 cases h:decide ([]∈L)with
 | true=>
   have:=of_decide_eq_true h
   exact List.any_eq_true.mpr ⟨[],this,by show isV .e (.ei [])=true;rw[y9b];rfl⟩
 | false=>
   have hn:=of_decide_eq_false h
   rw[List.any_eq_false]
   intro l hl
   show ¬isV .e (.ei l)=true
   rw[y9b,decide_eq_true_eq]
   exact fun z=>hn (by rw[<-z];exact hl)
def InE(L:List (List Say))(st n:Nat):Prop:=∀l∈L,Srt (.ei l)/\∀s∈l,st<=s.1/\s.1 < n
theorem Yzs{L:List (List Say)}{st n:Nat}(h:InE L st n):Yc2 [bkE L]=some (.bl (decide ([]∈L))):=by
 have hb:=Ylj (k:=.e) (n:=n) (R:=L.map Rl.ei) (fun r hr=>by
  obtain⟨l,hl,rfl⟩:=qx hr
  refine⟨⟨rfl,fun s hs=>((h l hl).2 s hs).2⟩,?_⟩
  have:=(h l hl).1.1
  show l.length<=999999
  omega)
 rw[Yud,Yhj]at hb
 exact hb
theorem Ycd{L:List (List Say)}{K S:List Nat}{d:D}(h:StormP L K S d):∃l,d=.tup l:=by
 cases h
 ·exact⟨_,rfl⟩
 ·exact⟨_,rfl⟩
 ·exact⟨_,rfl⟩
def Yrd(L:List (List Say))(K S:List Nat)(d:D):Prop:=StormP L K S d\/([]∈L/\d=.tup [.str "broken"])
theorem Ymd{L:List (List Say)}(hL:∀l∈L,Ygj l){st n:Nat}(hin:InE L st n){K S:List Nat}(hKl:K.length<=60)(hSl:S.length<=60)(hall:∀x,st<=x->x < n->x∈S\/x∈K){A:List Say}(hA:∀s:Say,s∈A↔s.1∈S\/s.1∈K)(hAl:A.length<=1000){wf:Say->Wy}(h:WsOk L A wf) :
 (∃d,Yrd L K S d/\Ybn [bkE L,wsD A wf,.lst (K.map nD),.lst (S.map nD)]=some d)\/(¬BadE L K S/\Ybn [bkE L,wsD A wf,.lst (K.map nD),.lst (S.map nD)]=some .non):=by
 have hb:=Yzs hin
 have hK:∀s∈sayL K,s∈A:=fun s hs=>(hA s).mpr (.inr (mem_sayL.mp hs))
 have hS:∀s∈sayL S,s∈A:=fun s hs=>(hA s).mpr (.inl (mem_sayL.mp hs))
 have hfl:∀s∈A,flS s∈A:=fun s hs=>(hA _).mpr ((hA s).mp hs)
 have q1:=Yo6 hAl h hfl K S
 have q2:=Yo7 h (S:=S) (by omega) hS K
 have q3:=Yrc h (K:=K) (S:=S) (by omega) (by omega) hK hS
 rw[Ybn,Yx (by rfl)]
 by_cases h0:[]∈L
 ·left
  refine⟨_,.inr ⟨h0,rfl⟩,?_⟩
  simp only[h0,decide_true]at hb
  generalize wsD A wf=ws at *
  generalize bkE L=bk at *
  simp[Yao,Yq,hb]
 ·simp only[h0,decide_false]at hb
  have a0:∀(a:D) (l:List D),atI (a::l) 0=some a:=fun a l=>by unfold atI ixN;simp
  rcases q1 with⟨d1,s1,e1⟩ | ⟨n1,e1⟩
  ·left
   refine⟨d1,.inl s1,?_⟩
   obtain⟨l1,rfl⟩:=Ycd s1
   clear s1
   rcases q2 with⟨d2,s2,e2⟩ | ⟨n2,e2⟩
   ·obtain⟨l2,rfl⟩:=Ycd s2
    rcases q3 with⟨d3,s3,e3⟩ | ⟨n3,e3⟩
    ·obtain⟨l3,rfl⟩:=Ycd s3
     generalize wsD A wf=ws at *
     generalize bkE L=bk at *
     simp[Yao,Yq,hb,e1,e2,e3,capR,Yeb,Yae,Yan,a0]
    ·generalize wsD A wf=ws at *
     generalize bkE L=bk at *
     simp[Yao,Yq,hb,e1,e2,e3,capR,Yeb,Yae,Yan,a0]
   ·rcases q3 with⟨d3,s3,e3⟩ | ⟨n3,e3⟩
    ·obtain⟨l3,rfl⟩:=Ycd s3
     generalize wsD A wf=ws at *
     generalize bkE L=bk at *
     simp[Yao,Yq,hb,e1,e2,e3,capR,Yeb,Yae,Yan,a0]
    ·generalize wsD A wf=ws at *
     generalize bkE L=bk at *
     simp[Yao,Yq,hb,e1,e2,e3,capR,Yeb,Yae,Yan,a0]
  ·rcases q2 with⟨d2,s2,e2⟩ | ⟨n2,e2⟩
   ·left
    refine⟨d2,.inl s2,?_⟩
    obtain⟨l2,rfl⟩:=Ycd s2
    rcases q3 with⟨d3,s3,e3⟩ | ⟨n3,e3⟩
    ·obtain⟨l3,rfl⟩:=Ycd s3
     generalize wsD A wf=ws at *
     generalize bkE L=bk at *
     simp[Yao,Yq,hb,e1,e2,e3,capR,Yeb,Yae,Yan,a0]
    ·generalize wsD A wf=ws at *
     generalize bkE L=bk at *
     simp[Yao,Yq,hb,e1,e2,e3,capR,Yeb,Yae,Yan,a0]
   ·rcases q3 with⟨d3,s3,e3⟩ | ⟨n3,e3⟩
    ·left
     refine⟨d3,.inl s3,?_⟩
     obtain⟨l3,rfl⟩:=Ycd s3
     generalize wsD A wf=ws at *
     generalize bkE L=bk at *
     simp[Yao,Yq,hb,e1,e2,e3,capR,Yeb,Yae,Yan,a0]
    ·right
     refine⟨fun hbad=>?_,?_⟩
     ·have hr:∀s∈A,∀t,t∈kyW (wf s)↔Rch L s t:=fun s hs t=>Yj4 hL (h.all s hs)
      cases hbad with
      | broken z=>exact h0 z
      | clash s z1 z2=>
        have hsA:s∈A:=by
         have hne:s≠flS s:=fun z=>Yaa3 s z.symm
         have:s.1∈S\/s.1∈K:=by
          have key:∀t,Rch L s t->t=s\/∃l∈L,t∈l:=fun t ht=>by
           cases ht with
           | refl=>exact .inl rfl
           | step _ e=>
             obtain⟨l,hl,_,h2,_⟩:=e
             exact .inr ⟨l,hl,h2⟩
          rcases key _ z1 with z | ⟨l,hl,hm⟩
          ·exact absurd z.symm hne
          ·obtain⟨g1,g2⟩:=(hin l hl).2 _ hm
           exact hall s.1 g1 g2
         exact(hA s).mpr this
        exact n1 s hsA ⟨(hr s hsA _).mpr z1,(hr _ (hfl s hsA) _).mpr z2⟩
      | cross s t z1 z2 z3 z4=>exact n2 s (mem_sayL.mpr z1) t (mem_sayL.mpr z2) ⟨fun z=>z3 z.symm,(hr s ((hA s).mpr (.inl z1)) _).mpr z4⟩
      | late s t z1 z2 z3 z4 z5=>exact n3 s (mem_sayL.mpr z1) t (mem_sayL.mpr z2) ⟨z3,(hr s ((hA s).mpr (.inl z1)) _).mpr z4,(hr t ((hA t).mpr (.inr z2)) _).mpr z5⟩
     ·generalize wsD A wf=ws at *
      generalize bkE L=bk at *
      simp[Yao,Yq,hb,e1,e2,e3,capR,Yeb,Yae]
end Lw
namespace Lw
open PySem L2 M Bk
theorem Yue{β:Type}(i:Int)(y:β)(k:Int):∀{ns:List Int} {vs:List β},ns.length=vs.length->i∈ns->Yaf ns (setK ns vs i y) k=if k=i then some y else Yaf ns vs k
 | [],_,_,h=>(nomatch h)
 | n::ns,[],hl,_=>by simp at hl
 | n::ns,v::vs,hl,h=>by
   rw[setK]
   by_cases e:n=i
   ·subst e
    rw[if_pos rfl,Yaf,Yaf]
    by_cases e2:n=k
    ·rw[if_pos e2,if_pos e2.symm]
    ·rw[if_neg e2,if_neg (fun z=>e2 z.symm),if_neg e2]
   ·have h':i∈ns:=by
     rcases qt h with z | z
     ·exact absurd z.symm e
     ·exact z
    rw[if_neg e,Yaf,Yaf,Yue i y k (by simpa using hl) h']
    by_cases e2:n=k
    ·rw[if_pos e2,if_pos e2,if_neg (fun z=>e (e2.trans z))]
    ·rw[if_neg e2,if_neg e2]
theorem Yuf{β:Type}(i:Int)(y:β)(k:Int):∀{ns:List Int} {vs:List β},ns.length=vs.length->i∉ns->Yaf (ns++[i]) (vs++[y]) k=if k=i then some y else Yaf ns vs k
 | [],[],_,_=>by
   show Yaf [i] [y] k=_
   rw[Yaf]
   by_cases e:i=k
   ·rw[if_pos e,if_pos e.symm]
   ·rw[if_neg e,if_neg (fun z=>e z.symm)]
 | [],_::_,hl,_=>by simp at hl
 | n::ns,[],hl,_=>by simp at hl
 | n::ns,v::vs,hl,h=>by
   rw[List.cons_append,List.cons_append,Yaf,Yaf,Yuf i y k (by simpa using hl) (fun z=>h (qg _ z))]
   by_cases e:n=k
   ·rw[if_pos e,if_pos e,if_neg (fun z=>h (by rw[<-z,<-e];simp))]
   ·rw[if_neg e,if_neg e]
theorem y16{β:Type}{ns:List Int}{vs:List β}(hl:ns.length=vs.length)(i:Int)(y:β)(k:Int):Yaf (putG ns vs i y).1 (putG ns vs i y).2 k=if k=i then some y else Yaf ns vs k:=by
 unfold putG
 by_cases h:i∈ns
 ·rw[if_pos h]
  exact Yue i y k hl h
 ·rw[if_neg h]
  exact Yuf i y k hl h
def Yjb{β:Type}(k:Int):List (Int × β)->Option β->Option β
 | [],z=>z
 | p::ps,z=>Yjb k ps (if k=p.1 then some p.2 else z)
theorem Yo8{β:Type}(k:Int):∀(ps:List (Int × β)) {ns:List Int} {vs:List β},ns.length=vs.length->Yaf (dctG ns vs ps).1 (dctG ns vs ps).2 k=Yjb k ps (Yaf ns vs k)
 | [],_,_,_=>rfl
 | p::ps,ns,vs,hl=>by
   rw[dctG,Yo8 k ps (Ynq hl),y16 hl]
   rfl
theorem Yzt{β:Type}:∀(ps:List (Int × β)) {ns:List Int} {vs:List β},ns.Nodup->ns.length=vs.length->(dctG ns vs ps).1.Nodup/\(dctG ns vs ps).1.length=(dctG ns vs ps).2.length
 | [],_,_,h1,h2=>⟨h1,h2⟩
 | p::ps,ns,vs,h1,h2=>by
   rw[dctG]
   exact Yzt ps (Ymn h1) (Ynq h2)
theorem Yre{β:Type}(k:Int):∀{ms:List Int} {ws:List β} {z:Option β},ms.length=ws.length->ms.Nodup->Yjb k (ms.zip ws) z=(Yaf ms ws k).or z
 | [],[],z,_,_=>by
   show z=(none:Option β).or z
   rfl
 | [],_::_,_,hl,_=>by simp at hl
 | _::_,[],_,hl,_=>by simp at hl
 | m::ms,w::ws,z,hl,hn=>by
   rw[List.nodup_cons]at hn
   rw[List.zip_cons_cons,Yjb,Yre k (by simpa using hl) hn.2,Yaf]
   by_cases e:k=m
   ·subst e
    have hnone:Yaf ms ws k=none:=(Ycv (by simpa using hl.symm)).mpr hn.1
    rw[if_pos rfl,if_pos rfl,hnone]
    rfl
   ·rw[if_neg e,if_neg (fun z=>e z.symm)]
theorem Yrf{β:Type}(k:Int):∀{ps:List (Int × β)} {z:Option β} {y:β},Yjb k ps z=some y->(k,y)∈ps\/((∀p∈ps,p.1≠k)/\z=some y)
 | [],z,y,h=>.inr ⟨fun p hp=>(nomatch hp),h⟩
 | p::ps,z,y,h=>by
   rw[Yjb]at h
   rcases Yrf k h with h1 | ⟨h1,h2⟩
   ·exact .inl (qg _ h1)
   ·by_cases e:k=p.1
    ·rw[if_pos e]at h2
     injection h2 with h2
     left
     rw[e,<-h2]
     exact qh
    ·rw[if_neg e]at h2
     exact .inr ⟨fun q hq=>by
      rcases qt hq with rfl | hq
      ·exact fun z=>e z.symm
      ·exact h1 q hq,h2⟩
theorem Yjc{β:Type}(k:Int):∀{ps:List (Int × β)} {z:Option β},(∃p∈ps,p.1=k)\/z.isSome=true->(Yjb k ps z).isSome=true
 | [],z,h=>by
   rcases h with⟨p,hp,_⟩ | h
   ·cases hp
   ·exact h
 | p::ps,z,h=>by
   rw[Yjb]
   refine Yjc k ?_
   rcases h with⟨q,hq,e⟩ | h
   ·rcases qt hq with rfl | hq
    ·right
     rw[if_pos e.symm]
     rfl
    ·exact .inl ⟨q,hq,e⟩
   ·right
    by_cases e:k=p.1
    ·rw[if_pos e]
     rfl
    ·rw[if_neg e]
     exact h
theorem Ymz{β:Type}(k:Int):∀{ps:List (Int × β)} {z:Option β},(∀p∈ps,p.1≠k)->Yjb k ps z=z
 | [],z,_=>rfl
 | p::ps,z,h=>by
   rw[Yjb,if_neg (fun e=>h p qh e.symm)]
   exact Ymz k fun q hq=>h q (qg _ hq)
structure Tru(ns:List Int)(vs:List Bool):Prop where
 nd:ns.Nodup
 len:ns.length=vs.length
def truF(ns:List Int)(vs:List Bool)(j:Nat):Option Bool:=Yaf ns vs (j:Int)
def prs(l:List Say):List (Int × Bool):=l.map fun s=>((s.1:Int),s.2)
def truU(ns:List Int)(vs:List Bool)(l:List Say):List Int × List Bool:=dctG ns vs ((dctG [] [] (prs l)).1.zip (dctG [] [] (prs l)).2)
theorem Yzu{ns:List Int}{vs:List Bool}(h:Tru ns vs)(l:List Say):Tru (truU ns vs l).1 (truU ns vs l).2:=by
 obtain⟨h1,h2⟩:=Yzt ((dctG [] [] (prs l)).1.zip (dctG [] [] (prs l)).2) h.nd h.len
 exact⟨h1,h2⟩
theorem Yug{L:List (List Say)}(hL:∀l∈L,Ygj l){s:Say}{W:Wy}(hW:Ways L s W){ns:List Int}{vs:List Bool}(h:Tru ns vs):updF L s (truF ns vs) (truF (truU ns vs (kyW W)).1 (truU ns vs (kyW W)).2):=fun j=>by
 obtain⟨d1,d2⟩:=Yzt (prs (kyW W)) (ns:=[]) (vs:=[]) List.nodup_nil rfl
 have hf:∀k:Int,Yaf (truU ns vs (kyW W)).1 (truU ns vs (kyW W)).2 k=(Yjb k (prs (kyW W)) none).or (Yaf ns vs k):=fun k=>by
  unfold truU
  rw[Yo8 k _ h.len,Yre k d2 d1,Yo8 k (prs (kyW W)) (ns:=[]) (vs:=[]) rfl]
  rfl
 have hm:∀v,Rch L s (j,v)↔((j:Int),v)∈prs (kyW W):=fun v=>by
  rw[<-Yj4 hL hW]
  constructor
  ·intro hx
   exact List.mem_map.mpr ⟨(j,v),hx,rfl⟩
  ·intro hx
   obtain⟨t,ht,e⟩:=qx hx
   injection e with e1 e2
   have:t=(j,v):=Prod.ext (by
    have:(t.1:Int)=(j:Int):=e1
    show t.1=j
    omega) e2
   rw[<-this]
   exact ht
 have hno:(∀u,¬Rch L s (j,u))->∀p∈prs (kyW W),p.1≠(j:Int):=fun hu p hp e=>by
  refine hu p.2 ((hm p.2).mpr ?_)
  rw[<-e]
  exact hp
 unfold truF
 refine⟨fun v hv=>?_,fun v hv=>?_,fun hu=>?_⟩
 ·rw[hf]
  have:=Yjc (j:Int) (ps:=prs (kyW W)) (z:=none) (.inl ⟨_,(hm v).mp hv,rfl⟩)
  cases e:Yjb (j:Int) (prs (kyW W)) none with
  | none=>rw[e]at this;cases this
  | some y=>rfl
 ·rw[hf]at hv
  cases e:Yjb (j:Int) (prs (kyW W)) none with
  | some y=>
    rw[e]at hv
    have hyv:y=v:=Option.some.inj hv
    subst hyv
    rcases Yrf _ e with w | ⟨_,w⟩
    ·exact .inl ((hm y).mpr w)
    ·cases w
  | none=>
    rw[e]at hv
    refine .inr ⟨fun u hu=>?_,hv⟩
    have:=Yjc (j:Int) (ps:=prs (kyW W)) (z:=none) (.inl ⟨_,(hm u).mp hu,rfl⟩)
    rw[e]at this
    cases this
 ·rw[hf,Ymz _ (hno hu)]
  rfl
end Lw
namespace Lw
open PySem L2 M Bk
theorem Yzv(i:Int)(y:Bool):∀(ns:List Int) (vs:List Bool),setK ns (vs.map D.bl) i (.bl y)=(setK ns vs i y).map D.bl
 | [],vs=>by cases vs<;>simp[setK]
 | n::ns,[]=>by simp[setK]
 | n::ns,v::vs=>by
   rw[Qc,setK,setK]
   by_cases e:n=i
   ·rw[if_pos e,if_pos e]
    rfl
   ·rw[if_neg e,if_neg e,Yzv i y ns vs]
    rfl
theorem Ys0:∀(ps:List (Int × Bool)) (ns:List Int) (vs:List Bool),dctG ns (vs.map D.bl) (ps.map fun p=>(p.1,D.bl p.2))=((dctG ns vs ps).1,(dctG ns vs ps).2.map D.bl)
 | [],ns,vs=>rfl
 | p::ps,ns,vs=>by
   rw[Qc,dctG,dctG]
   have e:putG ns (vs.map D.bl) p.1 (.bl p.2)=((putG ns vs p.1 p.2).1,(putG ns vs p.1 p.2).2.map D.bl):=by
    unfold putG
    by_cases h:p.1∈ns
    ·rw[if_pos h,if_pos h,Yzv]
    ·rw[if_neg h,if_neg h]
     simp
   rw[e]
   exact Ys0 ps _ _
theorem Yrg:∀l:List Say,Yf8 (l.map sayD)=some ((prs l).map fun p=>(p.1,D.bl p.2))
 | []=>rfl
 | s::l=>by
   rw[Qc]
   show Yf8 (.tup [.int (s.1:Int),.bl s.2]::l.map sayD)=_
   rw[Yf8,Yrg l]
   rfl
theorem y29{W:Wy}(hl:W.length<=1000)(f:Ro->Option D)(ρ:Ro)(hf:f ρ=some (.lst ((kyW W).map sayD))) :
 dctF f ρ=some (.dct false ((dctG [] [] (prs (kyW W))).1.map D.int) ((dctG [] [] (prs (kyW W))).2.map D.bl)):=by
 have h1:pairsOf (.lst ((kyW W).map sayD))=some ((prs (kyW W)).map fun p=>(p.1,D.bl p.2)):=Yrg (kyW W)
 have h2:=Ys0 (prs (kyW W)) [] []
 rw[List.map_nil]at h2
 have hlen:((prs (kyW W)).map fun p=>(p.1,D.bl p.2)).length < 1000000:=by simp[prs,kyW];omega
 rw[Yy7,hf,qd,h1,qd,Yyv,if_pos hlen,h2]
theorem y17{W:Wy}:(kyW W).length=W.length:=by simp[kyW]
theorem Yj6{β:Type}:∀(ps:List (Int × β)) (ns:List Int) (vs:List β),(dctG ns vs ps).2.length<=vs.length+ps.length
 | [],_,vs=>by simp[dctG]
 | p::ps,ns,vs=>by
   rw[dctG]
   have:=Yj6 ps (putG ns vs p.1 p.2).1 (putG ns vs p.1 p.2).2
   have h2:(putG ns vs p.1 p.2).2.length<=vs.length+1:=by
    unfold putG
    split
    ·rw[Yfh];omega
    ·simp
   rw[qr]
   omega
theorem Yzw{W:Wy}{ns:List Int}{vs:List Bool}(hv:vs.length<=500000)(hl:W.length<=1000) :
 updD (ns.map D.int,vs.map D.bl) (.dct false ((dctG [] [] (prs (kyW W))).1.map D.int) ((dctG [] [] (prs (kyW W))).2.map D.bl))=some ((truU ns vs (kyW W)).1.map D.int,(truU ns vs (kyW W)).2.map D.bl):=by
 have hz:=Yj6 (prs (kyW W)) [] []
 have hp:(prs (kyW W)).length=W.length:=by simp[prs,kyW]
 show(Yc9 (ns.map D.int)).bind (fun ns'=>((Yc9 ((dctG [] [] (prs (kyW W))).1.map D.int)).bind fun ms=>if (vs.map D.bl).length+((dctG [] [] (prs (kyW W))).2.map D.bl).length < cap6 then some ((dctG ns' (vs.map D.bl) (ms.zip ((dctG [] [] (prs (kyW W))).2.map D.bl))).1.map D.int,(dctG ns' (vs.map D.bl) (ms.zip ((dctG [] [] (prs (kyW W))).2.map D.bl))).2)else none))=_
 rw[Ygd,qd,Ygd,qd,if_pos (by
  rw[qf,qf]
  show _ < 1000000
  simp at hz
  omega)]
 have e:(dctG [] [] (prs (kyW W))).1.zip ((dctG [] [] (prs (kyW W))).2.map D.bl)=((dctG [] [] (prs (kyW W))).1.zip (dctG [] [] (prs (kyW W))).2).map fun p=>(p.1,D.bl p.2):=by
  rw[List.zip_map_right]
  rfl
 rw[e,Ys0]
 rfl
theorem Ys1{L:List (List Say)}(hL:∀l∈L,Ygj l){K S:List Nat}(nb:¬BadE L K S){A:List Say}{wf:Say->Wy}(h:WsOk L A wf){k:Nat}(hk:(k,false)∈A)(hk2:(k,true)∈A) :
 ∃l:Say,l∈A/\y89 L k l/\Ybi [.int (k:Int),wsD A wf]=some (sayD l):=by
 have g:=Ye4 (wf:=wf) h.nd hk
 have hh:=Yj5 (W:=wf (k,false)) (k,true)
 have hc:=Yfc (k,false)
 have hfk:flS (k,false)=(k,true):=rfl
 rw[hfk]at hc
 have hr:∀t,t∈kyW (wf (k,false))↔Rch L (k,false) t:=fun t=>Yj4 hL (h.all _ hk)
 have hd:D.tup [.int (k:Int),.bl false]=sayD (k,false):=rfl
 by_cases hm:(k,true)∈kyW (wf (k,false))
 ·refine⟨(k,true),hk2,⟨rfl,fun z=>nb (.clash (k,true) z ((hr _).mp hm))⟩,?_⟩
  simp only[hm,decide_true]at hh
  rw[Ybi,Yx (by rfl)]
  generalize wsD A wf=ws at *
  generalize wyD (wf (k,false))=w1 at *
  generalize sayD (k,true)=dt at *
  generalize sayD (k,false)=df at *
  simp[Yfq,Yq,hd,hc,g,hh]
 ·refine⟨(k,false),hk,⟨rfl,fun z=>hm ((hr _).mpr z)⟩,?_⟩
  simp only[hm,decide_false]at hh
  rw[Ybi,Yx (by rfl)]
  generalize wsD A wf=ws at *
  generalize wyD (wf (k,false))=w1 at *
  generalize sayD (k,true)=dt at *
  generalize sayD (k,false)=df at *
  simp[Yfq,Yq,hd,hc,g,hh]
theorem Yuh{A:List Say}{wf:Say->Wy}{s:Say}(hW:(wf s).length<=1000):Yh3 [wyD (wf s)]=some ((kyW (wf s)).map sayD):=by
 unfold wyD
 rw[Yvb,if_pos (by rw[qf,y17];show _<=1000000;omega)]
theorem Yui(ns:List Int)(vs:List Bool)(W:Wy)(hl:W.length<=120):(truU ns vs (kyW W)).2.length<=vs.length+120:=by
 unfold truU
 have h1:=Yj6 ((dctG [] [] (prs (kyW W))).1.zip (dctG [] [] (prs (kyW W))).2) ns vs
 have h2:=Yj6 (prs (kyW W)) [] []
 have hp:(prs (kyW W)).length=W.length:=by simp[prs,kyW]
 rw[List.length_zip]at h1
 simp at h2
 omega
theorem Yo9{L:List (List Say)}(hL:∀l∈L,Ygj l){K S:List Nat}(hKl:K.length<=60)(hSl:S.length<=60)(nb:¬BadE L K S){A:List Say}(hA:∀s:Say,s∈A↔s.1∈S\/s.1∈K){wf:Say->Wy}(h:WsOk L A wf) :
 ∃(ns:List Int) (vs:List Bool),Tru ns vs/\Ph2 L K S (truF ns vs)/\(∀k∈K,(truF ns vs k).isSome=true)/\Ydp [wsD A wf,.lst (K.map nD),.lst (S.map nD)]=some (.dct false (ns.map D.int) (vs.map D.bl)):=by
 have hso:=Ycc (c:=.lst (S.map nD)) (B:=S) rfl (by omega)
 have hsl:=Yo5 S
 obtain⟨ρ1,e1,ns1,vs1,y4,t1,p1,l1,rfl⟩:=Ygq (gt:=gSet 4) (fb:=Ydi) sayD (fun pre ρ=>∃(ns:List Int) (vs:List Bool) (y4:Option M.B),Tru ns vs/\Ph1 L pre (truF ns vs)/\vs.length<=120 * pre.length/\
  ρ=[some (.sh (wsD A wf)),some (.sh (.lst (K.map nD))),some (.sh (.lst (S.map nD))),some (.od false (ns.map D.int) (vs.map D.bl)),y4,none]) (sayL S) []
  [some (.sh (wsD A wf)),some (.sh (.lst (K.map nD))),some (.sh (.lst (S.map nD))),some (.od false [] []),none,none] ⟨[],[],none,⟨List.nodup_nil,rfl⟩,y5z L,by simp,rfl⟩ (by
   rintro q s r ρ e ⟨ns,vs,y4,t0,p0,l0,rfl⟩
   rw[Qk]at e
   have hsA:s∈A:=(hA s).mpr (.inl (mem_sayL.mp (by rw[e];simp)))
   have hW:=h.all s hsA
   have hWl:=Yrb hW.nd hW.lt
   have hq:q.length<=120:=by
    have:=congrArg List.length e
    simp at this
    omega
   have g:=Ye4 (wf:=wf) h.nd hsA
   have hlk:=Yuh (A:=A) (wf:=wf) (s:=s) (by omega)
   have hdc:=y29 (W:=wf s) (by omega) (lF (cF (Yg (b2 (getC 0) (getC 4) getT) aNil) Yh3)) [some (.sh (wsD A wf)),some (.sh (.lst (K.map nD))),some (.sh (.lst (S.map nD))),some (.od false (ns.map D.int) (vs.map D.bl)),some (.sh (sayD s)),none] (by
    generalize wsD A wf=ws at *
    generalize wyD (wf s)=w1 at *
    generalize sayD s=ds at *
    simp[g,hlk])
   have hup:=Yzw (W:=wf s) (ns:=ns) (vs:=vs) (by omega) (by omega)
   refine⟨[some (.sh (wsD A wf)),some (.sh (.lst (K.map nD))),some (.sh (.lst (S.map nD))),some (.od false (ns.map D.int) (vs.map D.bl)),some (.sh (sayD s)),none],[some (.sh (wsD A wf)),some (.sh (.lst (K.map nD))),some (.sh (.lst (S.map nD))),some (.od false ((truU ns vs (kyW (wf s))).1.map D.int) ((truU ns vs (kyW (wf s))).2.map D.bl)),some (.sh (sayD s)),none],rfl,?_,_,_,_,Yzu t0 _,y12 p0 (Yug hL hW t0),?_,rfl⟩
   ·have hgo:Ylt 3 [some (.sh (wsD A wf)),some (.sh (.lst (K.map nD))),some (.sh (.lst (S.map nD))),some (.od false (ns.map D.int) (vs.map D.bl)),some (.sh (sayD s)),none]=some (ns.map D.int,vs.map D.bl):=rfl
    rw[Ydi,Yse,hgo,qd,hdc,qd,hup]
    rfl
   ·have:=Yui ns vs (wf s) hWl
    rw[qy,List.length_singleton]
    omega)
 rw[Qk]at p1 l1
 have ph:=Yzm (K:=K) nb (T:=sayL S) (fun s=>mem_sayL) p1
 obtain⟨ρ2,e2,ns2,vs2,y5,t2,p2,k2,l2,rfl⟩:=Ygq (gt:=gSet 5) (fb:=Yb5) nD (fun pre ρ=>∃(ns:List Int) (vs:List Bool) (y5:Option M.B),Tru ns vs/\Ph2 L K S (truF ns vs)/\(∀k∈pre,(truF ns vs k).isSome=true)/\vs.length<=20000+120 * pre.length/\
  ρ=[some (.sh (wsD A wf)),some (.sh (.lst (K.map nD))),some (.sh (.lst (S.map nD))),some (.od false (ns.map D.int) (vs.map D.bl)),y4,y5]) K []
  [some (.sh (wsD A wf)),some (.sh (.lst (K.map nD))),some (.sh (.lst (S.map nD))),some (.od false (ns1.map D.int) (vs1.map D.bl)),y4,none] ⟨ns1,vs1,none,t1,ph,fun k hk=>(nomatch hk),by simp;omega,rfl⟩ (by
   rintro q k r ρ e ⟨ns,vs,y5,t0,p0,k0,l0,rfl⟩
   rw[Qk]at e
   have hkK:k∈K:=by rw[e];simp
   have hq:q.length<=60:=by
    have:=congrArg List.length e
    simp at this
    omega
   have hhas:hasI true (.int (k:Int)) (.dct false (ns.map D.int) (vs.map D.bl))=some (decide ((k:Int)∈ns) != true):=by rw[Ynp,Ygd];rfl
   by_cases hm:(k:Int)∈ns
   ·refine⟨_,[some (.sh (wsD A wf)),some (.sh (.lst (K.map nD))),some (.sh (.lst (S.map nD))),some (.od false (ns.map D.int) (vs.map D.bl)),y4,some (.sh (nD k))],rfl,?_,ns,vs,_,t0,p0,fun j hj=>?_,by simp;omega,rfl⟩
    ·rw[decide_eq_true hm]at hhas
     generalize wsD A wf=ws at *
     generalize ns.map D.int=NN at *
     generalize vs.map D.bl=VV at *
     simp[Yb5,hhas,-Ynp]
    ·rcases qv hj with hj | hj
     ·exact k0 j hj
     ·rw[Ql]at hj
      subst hj
      unfold truF
      cases z:Yaf ns vs (j:Int)with
      | some v=>rfl
      | none=>exact absurd hm ((Ycv t0.len.symm).mp z)
   ·have hnone:truF ns vs k=none:=(Ycv t0.len.symm).mpr hm
    obtain⟨l,hlA,hfr,hfs⟩:=Ys1 hL nb h (k:=k) ((hA _).mpr (.inr hkK)) ((hA _).mpr (.inr hkK))
    have hW:=h.all l hlA
    have hWl:=Yrb hW.nd hW.lt
    have g:=Ye4 (wf:=wf) h.nd hlA
    have hlk:=Yuh (A:=A) (wf:=wf) (s:=l) (by omega)
    have hdc:=y29 (W:=wf l) (by omega) (lF (cF (Yg (b2 (getC 0) (cC (Yg (getV 5) (Yg (getV 0) aNil)) Ybi) getT) aNil) Yh3)) [some (.sh (wsD A wf)),some (.sh (.lst (K.map nD))),some (.sh (.lst (S.map nD))),some (.od false (ns.map D.int) (vs.map D.bl)),y4,some (.sh (nD k))] (by
     generalize wsD A wf=ws at *
     generalize wyD (wf l)=w1 at *
     generalize sayD l=ds at *
     simp[hfs,g,hlk])
    have hup:=Yzw (W:=wf l) (ns:=ns) (vs:=vs) (by omega) (by omega)
    obtain⟨s1,s2,s3⟩:=y13 nb p0 hnone hfr (Yug hL hW t0)
    refine⟨_,[some (.sh (wsD A wf)),some (.sh (.lst (K.map nD))),some (.sh (.lst (S.map nD))),some (.od false ((truU ns vs (kyW (wf l))).1.map D.int) ((truU ns vs (kyW (wf l))).2.map D.bl)),y4,some (.sh (nD k))],rfl,?_,_,_,_,Yzu t0 _,s1,fun j hj=>?_,?_,rfl⟩
    ·have hgo:Ylt 3 [some (.sh (wsD A wf)),some (.sh (.lst (K.map nD))),some (.sh (.lst (S.map nD))),some (.od false (ns.map D.int) (vs.map D.bl)),y4,some (.sh (nD k))]=some (ns.map D.int,vs.map D.bl):=rfl
     have hup2:sUpd 3 (dctF (lF (cF (Yg (b2 (getC 0) (cC (Yg (getV 5) (Yg (getV 0) aNil)) Ybi) getT) aNil) Yh3))) [some (.sh (wsD A wf)),some (.sh (.lst (K.map nD))),some (.sh (.lst (S.map nD))),some (.od false (ns.map D.int) (vs.map D.bl)),y4,some (.sh (nD k))]=some (.nx [some (.sh (wsD A wf)),some (.sh (.lst (K.map nD))),some (.sh (.lst (S.map nD))),some (.od false ((truU ns vs (kyW (wf l))).1.map D.int) ((truU ns vs (kyW (wf l))).2.map D.bl)),y4,some (.sh (nD k))]):=by
      rw[Yse,hgo,qd,hdc,qd,hup]
      rfl
     rw[decide_eq_false hm]at hhas
     generalize (truU ns vs (kyW (wf l))).1.map D.int=N2 at *
     generalize (truU ns vs (kyW (wf l))).2.map D.bl=V2 at *
     generalize wsD A wf=ws at *
     generalize ns.map D.int=NN at *
     generalize vs.map D.bl=VV at *
     simp[Yb5,hhas,hup2,-Ynp,-Yse]
    ·rcases qv hj with hj | hj
     ·exact s3 j (k0 j hj)
     ·rw[Ql]at hj
      subst hj
      exact s2
    ·have:=Yui ns vs (wf l) hWl
     rw[qy,List.length_singleton]
     omega)
 rw[Qk]at k2
 refine⟨ns2,vs2,t2,p2,k2,?_⟩
 rw[Ydp,Yx (by rfl)]
 have h3:Yd6 [some (.sh (wsD A wf)),some (.sh (.lst (K.map nD))),some (.sh (.lst (S.map nD))),some (.od false (ns2.map D.int) (vs2.map D.bl)),y4,y5]=some (.rt (.dct false (ns2.map D.int) (vs2.map D.bl))):=rfl
 generalize wsD A wf=ws at *
 generalize ns2.map D.int=N2 at *
 generalize vs2.map D.bl=V2 at *
 generalize ns1.map D.int=N1 at *
 generalize vs1.map D.bl=V1 at *
 generalize (sayL S).map sayD=SL at *
 generalize S.map nD=SS at *
 generalize K.map nD=KK at *
 simp[Yh8,Yq,hso,e1,e2,h3,-Yd6]
theorem Yvp{L:List (List Say)}(hL:∀l∈L,Ygj l){K S:List Nat}(hSl:S.length<=60){A:List Say}(hA:∀s:Say,s∈A↔s.1∈S\/s.1∈K){wf:Say->Wy}(h:WsOk L A wf){ns:List Int}{vs:List Bool}(ht:Tru ns vs){k:Nat}(hk:k∈K)(hd:(truF ns vs k).isSome=true) :
 ∃r:Prw,r.1=k/\((∃s,tied L S k s/\r.2=(some s.1,s.2))\/(loose L S k/\r.2=(none,(truF ns vs k).getD false)))/\Ydv [.int (k:Int),wsD A wf,.lst (S.map nD),.dct false (ns.map D.int) (vs.map D.bl)]=some (prwD r):=by
 have hso:=Ycc (c:=.lst (S.map nD)) (B:=S) rfl (by omega)
 have hkA:(k,true)∈A:=(hA _).mpr (.inr hk)
 have hr:∀s∈A,∀t,t∈kyW (wf s)↔Rch L s t:=fun s hs t=>Yj4 hL (h.all s hs)
 have hdt:D.tup [.int (k:Int),.bl true]=sayD (k,true):=rfl
 have hloop:=Yft (gt:=gSet 4) (fb:=Ydq) sayD (fun pre ρ=>(∀s∈pre,¬tied L S k s)/\∃y4:Option M.B,ρ=[some (.sh (.int (k:Int))),some (.sh (wsD A wf)),some (.sh (.lst (S.map nD))),some (.sh (.dct false (ns.map D.int) (vs.map D.bl))),y4]) (fun d=>∃s,tied L S k s/\d=prwD (k,some s.1,s.2)) (sayL S) []
  [some (.sh (.int (k:Int))),some (.sh (wsD A wf)),some (.sh (.lst (S.map nD))),some (.sh (.dct false (ns.map D.int) (vs.map D.bl))),none] ⟨fun s hs=>(nomatch hs),none,rfl⟩ (by
   rintro q s r ρ e ⟨hq,y4,rfl⟩
   rw[Qk]at e
   have hsS:s.1∈S:=mem_sayL.mp (by rw[e];simp)
   have hsA:s∈A:=(hA s).mpr (.inl hsS)
   have hl:=Yzr h hsA hkA
   have hsi:Yn (sayD s)=some [.int (s.1:Int),.bl s.2]:=rfl
   refine⟨[some (.sh (.int (k:Int))),some (.sh (wsD A wf)),some (.sh (.lst (S.map nD))),some (.sh (.dct false (ns.map D.int) (vs.map D.bl))),some (.sh (sayD s))],rfl,?_⟩
   by_cases hm:(k,true)∈kyW (wf s)/\s∈kyW (wf (k,true))
   ·right
    refine⟨prwD (k,some s.1,s.2),?_,s,⟨hsS,(hr s hsA _).mp hm.1,(hr _ hkA _).mp hm.2⟩,rfl⟩
    have hpd:prwD (k,some s.1,s.2)=.tup [.int (k:Int),.int (s.1:Int),.bl s.2]:=rfl
    rw[hpd]
    simp only[hm.1,hm.2,decide_true,Bool.and_self]at hl
    rw[<-hdt]at hl
    generalize wsD A wf=ws at *
    generalize sayD s=ds at *
    generalize S.map nD=SS at *
    generalize ns.map D.int=NN at *
    generalize vs.map D.bl=VV at *
    simp[Ydq,hl,hsi]
   ·left
    have hl2:(decide ((k,true)∈kyW (wf s))&&decide (s∈kyW (wf (k,true))))=false:=by
     cases hz:(decide ((k,true)∈kyW (wf s))&&decide (s∈kyW (wf (k,true))))with
     | false=>rfl
     | true=>
       rw[Qf,decide_eq_true_eq,decide_eq_true_eq]at hz
       exact absurd hz hm
    rw[hl2,<-hdt]at hl
    refine⟨[some (.sh (.int (k:Int))),some (.sh (wsD A wf)),some (.sh (.lst (S.map nD))),some (.sh (.dct false (ns.map D.int) (vs.map D.bl))),some (.sh (sayD s))],?_,fun t ht=>?_,_,rfl⟩
    ·generalize wsD A wf=ws at *
     generalize sayD s=ds at *
     generalize S.map nD=SS at *
     generalize ns.map D.int=NN at *
     generalize vs.map D.bl=VV at *
     simp[Ydq,hl]
    ·rcases qv ht with ht | ht
     ·exact hq t ht
     ·rw[Ql]at ht
      rw[ht]
      exact fun z=>hm ⟨(hr s hsA _).mpr z.2.1,(hr _ hkA _).mpr z.2.2⟩)
 rw[Ydv,Yx (by rfl)]
 rcases hloop with⟨ρ',e1,hq,y4,rfl⟩ | ⟨d,e1,s,hs,rfl⟩
 ·rw[Qk]at hq
  refine⟨(k,none,(truF ns vs k).getD false),rfl,.inr ⟨fun s hs=>hq s (mem_sayL.mpr hs.1) hs,rfl⟩,?_⟩
  have hget:getI (.dct false (ns.map D.int) (vs.map D.bl)) (.int (k:Int))=some (.bl ((truF ns vs k).getD false)):=by
   rw[Yno,Ygd,qd]
   have:∀(ns:List Int) (vs:List Bool),Yaf ns (vs.map D.bl) (k:Int)=(Yaf ns vs (k:Int)).map D.bl:=fun ns=>by
    induction ns with
    | nil=>intro vs;cases vs<;>rfl
    | cons n ns ih=>
      intro vs
      cases vs with
      | nil=>rfl
      | cons v vs=>
        rw[Qc,Yaf,Yaf]
        by_cases e:n=(k:Int)
        ·rw[if_pos e,if_pos e]
         rfl
        ·rw[if_neg e,if_neg e]
         exact ih vs
   rw[this]
   unfold truF at hd ⊢
   cases z:Yaf ns vs (k:Int)with
   | none=>rw[z]at hd;cases hd
   | some v=>rfl
  have hpd:prwD (k,none,(truF ns vs k).getD false)=.tup [.int (k:Int),.non,.bl ((truF ns vs k).getD false)]:=rfl
  rw[hpd]
  generalize (truF ns vs k).getD false=tv at *
  generalize wsD A wf=ws at *
  generalize (sayL S).map sayD=SL at *
  generalize S.map nD=SS at *
  generalize ns.map D.int=NN at *
  generalize vs.map D.bl=VV at *
  simp[Yi1,Yq,hso,e1,hget,-Yno]
 ·refine⟨(k,some s.1,s.2),rfl,.inl ⟨s,hs,rfl⟩,?_⟩
  generalize prwD (k,some s.1,s.2)=pd at *
  generalize wsD A wf=ws at *
  generalize (sayL S).map sayD=SL at *
  generalize S.map nD=SS at *
  generalize ns.map D.int=NN at *
  generalize vs.map D.bl=VV at *
  simp[Yi1,Yq,hso,e1]
end Lw
namespace Lw
open PySem L2 M Bk
theorem Yzx{hs:List Bool}{st:Nat}{b:Bool}{x:Nat}(h:x∈ofH hs st b):x < hs.length:=Qa (Qb h).1
theorem y51{hs:List Bool}{st x:Nat}(h1:st<=x)(h2:x < hs.length):x∈ofH hs st false\/x∈ofH hs st true:=by
 have hm:∀b,hs.getD x false=b->x∈ofH hs st b:=fun b hb=>by
  unfold ofH
  rw[List.mem_filter,List.mem_range]
  exact⟨h2,by simp[h1,<-hb]⟩
 cases hb:hs.getD x false with
 | false=>exact .inl (hm _ hb)
 | true=>exact .inr (hm _ hb)
theorem Ypa{hs:List Bool}{st:Nat}:∀x∈ofH hs st false,x∉ofH hs st true:=fun x h1 h2=>by
 unfold ofH at h1 h2
 have g1:=(Qb h1).2
 have g2:=(Qb h2).2
 simp at g1 g2
 have e1:=g1.2
 have e2:=g2.2
 rw[e1]at e2
 cases e2
theorem Ys2{l:List Say}(h:Srt (.ei l)):Ygj l:=⟨h.1,h.2.imp fun {a b} hab z=>by
 subst z
 rcases hab with h | ⟨_,h1,h2⟩
 ·omega
 ·rw[h1]at h2
  cases h2⟩
theorem Ym0:∀{B:List Nat},B.Nodup->(sayL B).Nodup
 | [],_=>List.nodup_nil
 | b::B,h=>by
   rw[List.nodup_cons]at h
   have e:sayL (b::B)=[(b,false),(b,true)]++sayL B:=rfl
   rw[e,List.nodup_append]
   refine⟨by simp,Ym0 h.2,fun x hx y hy z=>?_⟩
   subst z
   have hb:=mem_sayL.mp hy
   simp at hx
   rcases hx with rfl | rfl
   ·exact h.1 hb
   ·exact h.1 hb
theorem Yrh(wf:Say->Wy):∀A:List Say,Yjg (A.map fun s=>.tup [sayD s,wyD (wf s)])=some (A.map fun s=>(sayD s,wyD (wf s)))
 | []=>rfl
 | s::A=>by
   rw[Qc,Yjg,Yrh wf A]
   rfl
def outD(storm:Bool)(pp:D):D:=.tup [.str (if storm=true then Str.ofString "storm" else Str.ofString "keeper"),pp]
def plD(rows:List Prw):List D:=[.str "plan",.tup (rows.map prwD)]
theorem Yj0{L:List (List Say)}(hLl:L.length<=100){c:D}{hs:List Bool}(hc:Yn c=some (hs.map hdD))(hl:hs.length<=60){st:Nat}(hst:st<=hs.length)(hin:InE L st hs.length) :
 (∃d,Yrd L (ofH hs st true) (ofH hs st false) d/\Yaj [bkE L,c,.int st]=some (outD true d))\/
 (∃rows,GoodE L (ofH hs st true) (ofH hs st false) rows/\Yaj [bkE L,c,.int st]=some (outD false (.tup (plD rows)))):=by
 have hL:∀l∈L,Ygj l:=fun l hm=>Ys2 (hin l hm).1
 have hL60:∀l∈L,∀s∈l,s.1 < 60:=fun l hm s hs=>by have:=((hin l hm).2 s hs).2;omega
 have bw1:=Ya1 hs hc (by omega) st hst true
 have bw2:=Ya1 hs hc (by omega) st hst false
 simp only[hdD,if_true,Qm,if_false]at bw1 bw2
 have hKpw:(ofH hs st true).Pairwise (· < ·):=List.Pairwise.filter _ List.pairwise_lt_range
 have hSpw:(ofH hs st false).Pairwise (· < ·):=List.Pairwise.filter _ List.pairwise_lt_range
 have hSK:=Ypa (hs:=hs) (st:=st)
 have hall:∀x,st<=x->x < hs.length->x∈ofH hs st false\/x∈ofH hs st true:=fun x h1 h2=>y51 h1 h2
 have hSl:(ofH hs st false).length<=60:=Qj (List.length_filter_le _ _) (by simpa using hl)
 have hKl:(ofH hs st true).length<=60:=Qj (List.length_filter_le _ _) (by simpa using hl)
 have hS60:∀x∈ofH hs st false,x < 60:=fun x hx=>Qi (Yzx hx) hl
 have hK60:∀x∈ofH hs st true,x < 60:=fun x hx=>Qi (Yzx hx) hl
 generalize ofH hs st false=S at *
 generalize ofH hs st true=K at *
 have hin2:∀l∈L,∀s∈l,s.1∈S\/s.1∈K:=fun l hm s hs=>hall s.1 ((hin l hm).2 s hs).1 ((hin l hm).2 s hs).2
 have hKSn:(K++S).Nodup:=by
  rw[List.nodup_append]
  exact⟨hKpw.imp fun h=>qm h,hSpw.imp fun h=>qm h,fun x hx y hy z=>hSK y hy (by rw[<-z];exact hx)⟩
 have hAn:=Ym0 hKSn
 have hAm:∀s:Say,s∈sayL (K++S)↔s.1∈S\/s.1∈K:=fun s=>by
  rw[mem_sayL,List.mem_append]
  exact⟨fun h=>h.symm,fun h=>h.symm⟩
 have hAl:(sayL (K++S)).length<=1000:=by rw[Yo5,qy];omega
 have hw:∀s:Say,∃W:Wy,s.1 < 60->Ways L s W/\Yc0 [bkE L,sayD s]=some (wyD W):=fun s=>by
  by_cases h60:s.1 < 60
  ·obtain⟨W,h1,h2⟩:=Ysz (L:=L) (by omega) hL60 h60
   exact⟨W,fun _=>⟨h1,h2⟩⟩
  ·exact⟨[],fun z=>absurd z h60⟩
 obtain⟨wf,hwf⟩:∃wf:Say->Wy,∀s:Say,s.1 < 60->Ways L s (wf s)/\Yc0 [bkE L,sayD s]=some (wyD (wf s)):=⟨fun s=>Classical.choose (hw s),fun s=>Classical.choose_spec (hw s)⟩
 have hA60:∀s∈sayL (K++S),s.1 < 60:=fun s hs=>by
  rcases(hAm s).mp hs with h | h
  ·exact hS60 _ h
  ·exact hK60 _ h
 have hso:=Ycc (c:=.lst ((K++S).map nD)) (B:=K++S) rfl (by rw[qy];omega)
 generalize sayL (K++S)=A at *
 have hws:WsOk L A wf:=⟨hAn,fun s hs=>(hwf s (hA60 s hs)).1⟩
 have hcat:catD (.lst (K.map nD)) (.lst (S.map nD))=some ((K++S).map nD):=by rw[y5g (by simp;omega),Qn]
 have hcm:=Yes (fe:=Ya2) (r:=[some (.sh (bkE L))]) (enc:=sayD) (fun s=>.tup [sayD s,wyD (wf s)]) (l:=A) (fun s hs=>by
  have:=(hwf s (hA60 s hs)).2
  generalize wyD (wf s)=w1 at *
  generalize sayD s=ds at *
  generalize bkE L=bk at *
  simp[Ya2,this])
 have hpt:Ynz (.lst (A.map fun s=>.tup [sayD s,wyD (wf s)]))=some (A.map fun s=>(sayD s,wyD (wf s))):=Yrh wf A
 have hk1:(A.map fun s=>(sayD s,wyD (wf s))).map (·.1)=A.map sayD:=by rw[Qd];rfl
 have hk2:(A.map fun s=>(sayD s,wyD (wf s))).map (·.2)=A.map fun s=>wyD (wf s):=by rw[Qd];rfl
 have hkn:(A.map kN).Nodup:=by
  rw[List.Nodup,List.pairwise_map]
  exact hAn.imp fun hab e=>hab (Yzn e)
 have hst0:Yq 8 [bkE L,c,.int (st:Int)]=[some (.sh (bkE L)),some (.sh c),some (.sh (.int st)),none,none,none,none,none]:=rfl
 rw[Yaj,Yx (by rfl),hst0]
 have hdct:Yu9 5 (lF (Ybq (b1 (cC (Yg (lF (b2 (getC 3) (getC 4) catD)) aNil) Yas) Yn) [none,some 0] (gSet 0) tY (Ya2))) [some (.sh (bkE L)),some (.sh c),some (.sh (.int st)),some (.sh (.lst (K.map nD))),some (.sh (.lst (S.map nD))),none,none,none] =
  some (.nx [some (.sh (bkE L)),some (.sh c),some (.sh (.int st)),some (.sh (.lst (K.map nD))),some (.sh (.lst (S.map nD))),some (.od true (A.map sayD) (A.map fun s=>wyD (wf s))),none,none]):=by
  have hcomp:(lF (Ybq (b1 (cC (Yg (lF (b2 (getC 3) (getC 4) catD)) aNil) Yas) Yn) [none,some 0] (gSet 0) tY (Ya2))) [some (.sh (bkE L)),some (.sh c),some (.sh (.int st)),some (.sh (.lst (K.map nD))),some (.sh (.lst (S.map nD))),none,none,none]=some (.lst (A.map fun s=>.tup [sayD s,wyD (wf s)])):=by
   generalize (A.map fun s=>D.tup [sayD s,wyD (wf s)])=A2 at *
   generalize A.map sayD=A1 at *
   generalize (K++S).map nD=KS at *
   generalize K.map nD=KK at *
   generalize S.map nD=SS at *
   generalize bkE L=bk at *
   simp[hcat,hso,capR,hcm]
  rw[Yt1,hcomp,qd,hpt,qd,hk1,Yfe,qd,if_pos ⟨by rw[qf];show A.length < 1000000;omega,hkn⟩,hk2]
  rfl
 have pre:Ydj [some (.sh (bkE L)),some (.sh c),some (.sh (.int st)),none,none,none,none,none]=Yba [some (.sh (bkE L)),some (.sh c),some (.sh (.int st)),some (.sh (.lst (K.map nD))),some (.sh (.lst (S.map nD))),some (.od true (A.map sayD) (A.map fun s=>wyD (wf s))),none,none]:=by
  generalize (A.map fun s=>wyD (wf s))=A2 at *
  generalize A.map sayD=A1 at *
  generalize K.map nD=KK at *
  generalize S.map nD=SS at *
  generalize bkE L=bk at *
  simp[Ydj,bw1,bw2,hdct,-Yba,-Yt1]
 rw[pre]
 have hsp:=Ymd hL hin hKl hSl hall hAm hAl hws
 have hfz:∀y6 y7:Option M.B,frz [5] [some (.sh (bkE L)),some (.sh c),some (.sh (.int st)),some (.sh (.lst (K.map nD))),some (.sh (.lst (S.map nD))),some (.od true (A.map sayD) (A.map fun s=>wyD (wf s))),y6,y7]=[some (.sh (bkE L)),some (.sh c),some (.sh (.int st)),some (.sh (.lst (K.map nD))),some (.sh (.lst (S.map nD))),some (.sh (wsD A wf)),y6,y7]:=fun _ _=>rfl
 have h3:∀d,Ybn [bkE L,wsD A wf,.lst (K.map nD),.lst (S.map nD)]=some d->Yba [some (.sh (bkE L)),some (.sh c),some (.sh (.int st)),some (.sh (.lst (K.map nD))),some (.sh (.lst (S.map nD))),some (.od true (A.map sayD) (A.map fun s=>wyD (wf s))),none,none]=Ycj [some (.sh (bkE L)),some (.sh c),some (.sh (.int st)),some (.sh (.lst (K.map nD))),some (.sh (.lst (S.map nD))),some (.sh (wsD A wf)),some (.sh d),none]:=fun d hd=>by
  rw[Yba,Yyo,Yaax,hfz]
  generalize wsD A wf=ws at *
  generalize K.map nD=KK at *
  generalize S.map nD=SS at *
  generalize bkE L=bk at *
  simp[hd,-Ycj]
 rcases hsp with⟨d,hd,e⟩ | ⟨nb,e⟩
 ·refine .inl ⟨d,hd,?_⟩
  rw[h3 d e]
  obtain⟨l,rfl⟩:∃l,d=.tup l:=by
   rcases hd with hd | ⟨_,hd⟩
   ·exact Ycd hd
   ·exact⟨_,hd⟩
  generalize wsD A wf=ws at *
  simp[outD]
 ·obtain⟨ns,vs,t0,p2,kd,etr⟩:=Yo9 hL hKl hSl nb hAm hws
  have hrow:∀k,∃r:Prw,k∈K->r.1=k/\((∃s,tied L S k s/\r.2=(some s.1,s.2))\/(loose L S k/\r.2=(none,(truF ns vs k).getD false)))/\Ydv [.int (k:Int),wsD A wf,.lst (S.map nD),.dct false (ns.map D.int) (vs.map D.bl)]=some (prwD r):=fun k=>by
   by_cases hk:k∈K
   ·obtain⟨r,hr⟩:=Yvp hL hSl hAm hws t0 hk (kd k hk)
    exact⟨r,fun _=>hr⟩
   ·exact⟨(0,none,false),fun z=>absurd z hk⟩
  obtain⟨rf,hrf⟩:∃rf:Nat->Prw,∀k∈K,(rf k).1=k/\((∃s,tied L S k s/\(rf k).2=(some s.1,s.2))\/(loose L S k/\(rf k).2=(none,(truF ns vs k).getD false)))/\Ydv [.int (k:Int),wsD A wf,.lst (S.map nD),.dct false (ns.map D.int) (vs.map D.bl)]=some (prwD (rf k)):=⟨fun k=>Classical.choose (hrow k),fun k=>Classical.choose_spec (hrow k)⟩
  refine .inr ⟨K.map rf,Yzk hL hin2 hSK nb (τ:=fun k=>(truF ns vs k).getD false) ⟨?_,fun r hr=>?_⟩ (Yaa4 p2 kd),?_⟩
  ·rw[Qd]
   exact(List.map_congr_left fun k hk=>(hrf k hk).1).trans (List.map_id K)
  ·obtain⟨k,hk,rfl⟩:=qx hr
   obtain⟨g1,g2,_⟩:=hrf k hk
   rw[g1]
   exact g2
  ·rw[h3 .non e]
   have hc1:=Yes (fe:=Yca) (r:=[some (.sh (wsD A wf)),some (.sh (.lst (S.map nD))),some (.sh (.dct false (ns.map D.int) (vs.map D.bl)))]) (enc:=nD) (fun k=>prwD (rf k)) (l:=K) (fun k hk=>by
    have:=(hrf k hk).2.2
    generalize wsD A wf=ws at *
    generalize prwD (rf k)=pr at *
    generalize S.map nD=SS at *
    generalize ns.map D.int=NN at *
    generalize vs.map D.bl=VV at *
    simp[Yca,this])
   have e5:(K.map fun k=>prwD (rf k))=(K.map rf).map prwD:=by rw[Qd];rfl
   rw[e5]at hc1
   unfold plD
   generalize (K.map rf).map prwD=RW at *
   generalize wsD A wf=ws at *
   generalize S.map nD=SS at *
   generalize K.map nD=KK at *
   generalize ns.map D.int=NN at *
   generalize vs.map D.bl=VV at *
   generalize bkE L=bk at *
   simp[etr,capR,hc1,outD]
end Lw
namespace Lw
open PySem L2 M Bk
theorem InE.rl{L:List (List Say)}{st n:Nat}(h:InE L st n):∀r∈L.map Rl.ei,In .e n r/\Srt r:=fun r hr=>by
 obtain⟨l,hl,rfl⟩:=qx hr
 exact⟨⟨rfl,fun s hs=>((h l hl).2 s hs).2⟩,(h l hl).1⟩
theorem Ylp{L:List (List Say)}{s t:Say}{r:List Say}(h:Road L s t r):atI (r.map sayD) 0=some (sayD s)/\atI (r.map sayD) (-1)=some (sayD t):=by
 have p:=Yln h.ok
 exact⟨by rw[Ylm p,h.fst],by rw[Yll p,h.lst]⟩
theorem Yil{L:List (List Say)}(hL:∀l∈L,Ygj l){s t:Say}{r:List Say}(h:Road L s t r):Rch L s t:=by
 have hp:=Yln h.ok
 have hall:∀i,i+1 < r.length->at0 r (i+1)∈ledL L (at0 r i):=fun i hi=>by
  have g:=h.ok
  unfold okR at g
  rw[Qf,List.all_eq_true]at g
  exact of_decide_eq_true (g.2 i (List.mem_range.mpr (by omega)))
 have key:∀i,i < r.length->Rch L s (at0 r i):=fun i=>by
  induction i with
  | zero=>
    intro _
    rw[h.fst]
    exact .refl
  | succ i ih=>
    intro hi
    exact .step (ih (by omega)) ((Yzo hL).mp (hall i hi))
 have g:=key (r.length - 1) (by omega)
 have e:=h.lst
 unfold Ymc at e
 rw[e]at g
 exact g
theorem Yvq{L:List (List Say)}(hL:∀l∈L,Ygj l){K S:List Nat}{d:D}(h:Yrd L K S d):BadE L K S:=by
 rcases h with h | ⟨h,_⟩
 ·cases h with
  | clash h1 h2=>exact .clash _ (Yil hL h1) (Yil hL h2)
  | cross h1 h2 h3 h4=>exact .cross _ _ h1 h2 h3 (Yil hL h4)
  | late h1 h2 h3 h4 h5=>exact .late _ _ h1 h2 h3 (Yil hL h4) (Yil hL h5)
 ·exact .broken h
theorem Ys3{L:List (List Say)}(hL:L.length<=1000){K S:List Nat}{a b:Say}(ha:a.1∈S)(hb:b.1∈S)(hne:a≠b){out:List Say}(ho:Road L a b out) :
 y8 [ppr "cross" [.tup (out.map sayD)],bkE L,.lst (K.map nD),.lst (S.map nD)]=some (.bl true):=by
 have hr:=Ylk hL (c:=.tup (out.map sayD)) rfl (by have:=ho.len;omega)
 rw[ho.ok]at hr
 obtain⟨a1,a2⟩:=Ylp ho
 have hq:=Yi9 false a b
 simp only[hne,decide_false,Qm,if_false]at hq
 have i1:Yn (sayD a)=some [.int a.1,.bl a.2]:=rfl
 have i2:Yn (sayD b)=some [.int b.1,.bl b.2]:=rfl
 have n1:=in_n (c:=.lst (S.map nD)) a.1 S false rfl
 have n2:=in_n (c:=.lst (S.map nD)) b.1 S false rfl
 simp only[nD,ha,hb,decide_true,Qm,if_false]at n1 n2
 have hg:Yej [.tup (out.map sayD),bkE L,.lst (S.map nD)]=some (.bl true):=by
  rw[Yej,Yx (by rfl)]
  generalize bkE L=bk at *
  generalize sayD a=sa at *
  generalize sayD b=sb at *
  generalize out.map sayD=OO at *
  generalize S.map nD=SS at *
  simp[Yjk,Yq,hr,a1,a2,hq,i1,i2,n1,n2]
 have e1:=Yfy (a:="cross") (b:="clash") (by decide +kernel) false
 have e2:=Yfd "cross" false
 simp only[Bool.not_false]at e2
 have hpi:Yn (ppr "cross" [.tup (out.map sayD)])=some [.str "cross",.tup (out.map sayD)]:=rfl
 rw[y8,Yx (by rfl)]
 generalize ppr "cross" [.tup (out.map sayD)]=pp at *
 generalize bkE L=bk at *
 generalize out.map sayD=OO at *
 generalize S.map nD=SS at *
 generalize K.map nD=KK at *
 simp[Ybg,Yq,hpi,e1,e2,hg]
theorem Ym1{L:List (List Say)}(hL:L.length<=1000){a b:Say}{out back:List Say}(ho:Road L a b out)(hb:Road L b a back):Yal [bkE L,.tup (out.map sayD),.tup (back.map sayD)]=some (.bl true):=by
 have ht:=y5s hL (o:=out) (k:=back) (co:=.tup (out.map sayD)) (ck:=.tup (back.map sayD)) rfl rfl (by have:=ho.len;omega) (by have:=hb.len;omega)
 have hth:there L out back=true:=by
  unfold there
  rw[ho.ok,hb.ok,ho.lst,hb.fst,hb.lst,ho.fst]
  simp
 rw[hth]at ht
 exact ht
theorem Yvr{L:List (List Say)}(hL:L.length<=1000){K S:List Nat}{a b:Say}(ha:a.1∈S)(hb':b.1∈K)(hlt:b.1 < a.1){out back:List Say}(ho:Road L a b out)(hb:Road L b a back) :
 y8 [ppr "late" [.tup (out.map sayD),.tup (back.map sayD)],bkE L,.lst (K.map nD),.lst (S.map nD)]=some (.bl true):=by
 have ht:=Ym1 hL ho hb
 obtain⟨a1,a2⟩:=Ylp ho
 have i1:Yn (sayD a)=some [.int a.1,.bl a.2]:=rfl
 have i2:Yn (sayD b)=some [.int b.1,.bl b.2]:=rfl
 have at1:∀x y z:D,atI [x,y,z] 1=some y:=fun _ _ _=>rfl
 have at2:∀x y z:D,atI [x,y,z] 2=some z:=fun _ _ _=>rfl
 rw[y8,Yx (by rfl)]
 have n1:=in_n (c:=.lst (S.map nD)) a.1 S false rfl
 have n2:=in_n (c:=.lst (K.map nD)) b.1 K false rfl
 simp only[nD,ha,hb',decide_true,Qm,if_false]at n1 n2
 have hlt':(b.1:Int) < (a.1:Int):=by omega
 have hg:Yfn [.tup (out.map sayD),.tup (back.map sayD),bkE L,.lst (K.map nD),.lst (S.map nD)]=some (.bl true):=by
  rw[Yfn,Yx (by rfl)]
  generalize bkE L=bk at *
  generalize sayD a=sa at *
  generalize sayD b=sb at *
  generalize out.map sayD=OO at *
  generalize back.map sayD=OB at *
  generalize S.map nD=SS at *
  generalize K.map nD=KK at *
  simp[Yk6,Yq,ht,a1,a2,i1,i2,n1,n2,hlt,hlt']
 have e1:=Yfy (a:="late") (b:="clash") (by decide +kernel) false
 have e2:=Yfy (a:="late") (b:="cross") (by decide +kernel) false
 have e3:=Yfd "late" false
 simp only[Bool.not_false]at e3
 have hpi:Yn (ppr "late" [.tup (out.map sayD),.tup (back.map sayD)])=some [.str "late",.tup (out.map sayD),.tup (back.map sayD)]:=rfl
 generalize ppr "late" [.tup (out.map sayD),.tup (back.map sayD)]=pp at *
 generalize bkE L=bk at *
 generalize out.map sayD=OO at *
 generalize back.map sayD=OB at *
 generalize S.map nD=SS at *
 generalize K.map nD=KK at *
 simp[Ybg,Yq,hpi,e1,e2,e3,at1,at2,hg]
theorem Ys4{L:List (List Say)}(hL:L.length<=1000){K S:List Nat}{a:Say}{out back:List Say}(ho:Road L a (flS a) out)(hb:Road L (flS a) a back) :
 y8 [ppr "clash" [.tup (out.map sayD),.tup (back.map sayD)],bkE L,.lst (K.map nD),.lst (S.map nD)]=some (.bl true):=by
 have ht:=Ym1 hL ho hb
 obtain⟨a1,a2⟩:=Ylp ho
 have at1:∀x y z:D,atI [x,y,z] 1=some y:=fun _ _ _=>rfl
 have at2:∀x y z:D,atI [x,y,z] 2=some z:=fun _ _ _=>rfl
 have hq:=Yi9 false (flS a) (flS a)
 simp only[decide_true,Qm,if_false]at hq
 have hc:=Yfc a
 have hg:Yei [.tup (out.map sayD),.tup (back.map sayD),bkE L]=some (.bl true):=by
  rw[Yei,Yx (by rfl)]
  generalize bkE L=bk at *
  generalize sayD (flS a)=sb at *
  generalize sayD a=sa at *
  generalize out.map sayD=OO at *
  generalize back.map sayD=OB at *
  simp[Yjj,Yq,ht,a1,a2,hc,hq]
 have e1:=Yfd "clash" false
 simp only[Bool.not_false]at e1
 have hpi:Yn (ppr "clash" [.tup (out.map sayD),.tup (back.map sayD)])=some [.str "clash",.tup (out.map sayD),.tup (back.map sayD)]:=rfl
 rw[y8,Yx (by rfl)]
 generalize ppr "clash" [.tup (out.map sayD),.tup (back.map sayD)]=pp at *
 generalize bkE L=bk at *
 generalize out.map sayD=OO at *
 generalize back.map sayD=OB at *
 generalize S.map nD=SS at *
 generalize K.map nD=KK at *
 simp[Ybg,Yq,hpi,e1,at1,at2,hg]
theorem Ys5{L:List (List Say)}(hLl:L.length<=1000){hs:List Bool}(hl:hs.length<=60){st:Nat}(hst:st<=hs.length)(hin:InE L st hs.length){d:D}(h:Yrd L (ofH hs st true) (ofH hs st false) d) :
 Ybc [d,bkE L,.tup (hs.map hdD),.int st]=some (.bl true):=by
 rcases h with h | ⟨h,rfl⟩
 ·rw[<-Yhj]
  cases h with
  | clash h1 h2=>exact Yst (hs:=hs) rfl (by omega) hst (x:="clash") (by unfold Yt5;decide +kernel) (by rw[Yhj];exact Ys4 hLl h1 h2)
  | cross h1 h2 h3 h4=>exact Yst (hs:=hs) rfl (by omega) hst (x:="cross") (by unfold Yt5;decide +kernel) (by rw[Yhj];exact Ys3 hLl h1 h2 h3 h4)
  | late h1 h2 h3 h4 h5=>exact Yst (hs:=hs) rfl (by omega) hst (x:="late") (by unfold Yt5;decide +kernel) (by rw[Yhj];exact Yvr hLl h1 h2 h3 h4 h5)
 ·have g:=Yq8 (k:=.e) (n:=hs.length) hin.rl hl (c:=.tup (hs.map hdD)) (hs:=hs) rfl (by omega) hst
  rw[Yud,decide_eq_true h,Yhj]at g
  exact g
theorem Ys6{L:List (List Say)}{hs:List Bool}(hl:hs.length<=60){st:Nat}(hst:st<=hs.length){rows:List Prw}(h:GoodE L (ofH hs st true) (ofH hs st false) rows) :
 Yck [.tup (plD rows),bkE L,.tup (hs.map hdD),.int st]=some (.bl true):=by
 have bw1:=Ya1 (c:=.tup (hs.map hdD)) hs rfl (by omega) st hst true
 have bw2:=Ya1 (c:=.tup (hs.map hdD)) hs rfl (by omega) st hst false
 simp only[hdD,if_true,Qm,if_false]at bw1 bw2
 have hKpw:(ofH hs st true).Pairwise (· < ·):=List.Pairwise.filter _ List.pairwise_lt_range
 have hKl:(ofH hs st true).length<=60:=Qj (List.length_filter_le _ _) (by simpa using hl)
 have hrl:rows.length<=1000:=by
  have g:=congrArg List.length h.ks
  simp at g
  omega
 have hg:=Ysx hrl L (hKpw.imp fun h=>qm h) (ofH hs st false)
 have hpb:Ysw rows L (ofH hs st true) (ofH hs st false)=true:=by
  unfold Ysw
  rw[Qf,Qf,decide_eq_true_eq,List.all_eq_true,List.all_eq_true]
  exact⟨⟨h.ks,h.row⟩,h.kept⟩
 rw[hpb,Yhj]at hg
 clear hpb h
 rw[Yck,Ybo,Yx (by rfl)]
 have e1:=Yfd "plan" false
 have k1:=Yfy (a:="eithers") (b:="nots") (by decide +kernel) false
 have k3:=Yfd "eithers" false
 have hib:Yn (bkE L)=some [.str "eithers",.tup (L.map eiD)]:=rfl
 have hip:Yn (.tup (plD rows))=some [.str "plan",.tup (rows.map prwD)]:=rfl
 generalize (ofH hs st true).map nD=KK at *
 generalize (ofH hs st false).map nD=SS at *
 generalize D.tup (plD rows)=pp at *
 generalize rows.map prwD=WW at *
 generalize L.map eiD=RR at *
 generalize bkE L=bk at *
 generalize hs.map hdD=HH at *
 simp only[Bool.not_false]at e1 k3
 simp[Yie,Yq,hib,hip,bw1,bw2,e1,k1,k3,hg]
end Lw
namespace Lw
open PySem L2 M Bk
theorem Ym2{j:Nat}{l:List D}(h:∀d∈l,Yy j [d]=some (.bl true)):Yy (j+1) [.tup l]=some (.bl true):=by
 have hc:=Yes (fe:=Ye0 (Yy j)) (r:=[]) (enc:=fun d:D=>d) (fun _=>.bl true) (l:=l) (fun d hd=>by simp[Ye0,h d hd])
 rw[List.map_id']at hc
 have hb:blsD (l.map fun _=>D.bl true)=some (l.map fun _=>true):=Yfi (fun _:D=>true) l
 have hall:(l.map fun _=>true).all id=true:=by rw[List.all_map];exact List.all_eq_true.mpr fun _ _=>rfl
 rw[Yy,Yx (by rfl)]
 generalize (l.map fun _=>D.bl true)=B2 at *
 generalize (l.map fun _=>true)=B1 at *
 simp[Yc4,Yq,isiD,Yc8,Yjo,capR,hc,hb,hall]
theorem Yzy(j:Nat)(i:Int):Yy (j+1) [.int i]=some (.bl true):=by
 rw[Yy,Yx (by rfl)]
 simp[Yc4,Yq,isiD,Yc8,Yjo,isN,Ylr]
theorem y9c(j:Nat)(b:Bool):Yy (j+1) [.bl b]=some (.bl true):=by
 rw[Yy,Yx (by rfl)]
 simp[Yc4,Yq,isiD,Yc8,Yjo,isN,Ylr]
theorem y3a(j:Nat)(s:Str):Yy (j+1) [.str s]=some (.bl true):=by
 rw[Yy,Yx (by rfl)]
 simp[Yc4,Yq,isiD,Yc8,Yjo,isN,Ylr]
theorem y9d(j:Nat):Yy (j+1) [.non]=some (.bl true):=by
 rw[Yy,Yx (by rfl)]
 simp[Yc4,Yq,isiD,Yc8,Yjo,isN,Ylr]
theorem y9e(j:Nat)(s:Say):Yy (j+2) [sayD s]=some (.bl true):=Ym2 fun d hd=>by
 rcases qt hd with rfl | hd
 ·exact Yzy j _
 ·rw[Ql]at hd
  subst hd
  exact y9c j _
theorem y52(j:Nat)(r:List Say):Yy (j+3) [.tup (r.map sayD)]=some (.bl true):=Ym2 fun d hd=>by
 obtain⟨s,_,rfl⟩:=qx hd
 exact y9e j s
theorem Yvs(rows:List Prw):Yc5 [.tup (plD rows)]=some (.bl true):=by
 refine Ym2 (j:=11) fun d hd=>?_
 rcases qt hd with rfl | hd
 ·exact y3a 10 _
 ·rw[Ql]at hd
  subst hd
  refine Ym2 (j:=10) fun d hd=>?_
  obtain⟨r,_,rfl⟩:=qx hd
  refine Ym2 (j:=9) fun d hd=>?_
  rcases qt hd with rfl | hd
  ·exact Yzy 8 _
  ·rcases qt hd with rfl | hd
   ·cases r.2.1 with
    | none=>exact y9d 8
    | some x=>exact Yzy 8 _
   ·rw[Ql]at hd
    subst hd
    exact y9c 8 _
theorem Yfu(x:Str)(rs:List (List Say)):Yc5 [.tup (.str x::rs.map fun r=>.tup (r.map sayD))]=some (.bl true):=by
 refine Ym2 (j:=11) fun d hd=>?_
 rcases qt hd with rfl | hd
 ·exact y3a 10 _
 ·obtain⟨r,_,rfl⟩:=qx hd
  exact y52 8 r
theorem Ys7(rows:List Prw):Ya0 [.tup (plD rows)]=some (.bl true):=by
 have e1:=Yfd "plan" false
 simp only[Bool.not_false]at e1
 have hi:Yn (.tup (plD rows))=some [.str "plan",.tup (rows.map prwD)]:=rfl
 have hc:=Yes (fe:=Yd8) (r:=[]) (enc:=prwD) (fun _=>.bl true) (l:=rows) (fun r _=>by
  have hr:Yn (prwD r)=some [.int r.1,optD r.2.1,.bl r.2.2]:=rfl
  generalize optD r.2.1=o at *
  generalize prwD r=rr at *
  simp[Yd8,hr,Yvm,isiD,Yc8,Yjo])
 have hb:blsD (rows.map fun _=>D.bl true)=some (rows.map fun _=>true):=Yfi (fun _:Prw=>true) rows
 have hall:(rows.map fun _=>true).all id=true:=by rw[List.all_map];exact List.all_eq_true.mpr fun _ _=>rfl
 rw[Ya0,Yx (by rfl)]
 generalize D.tup (plD rows)=lo at *
 generalize (rows.map fun _=>D.bl true)=B2 at *
 generalize (rows.map fun _=>true)=B1 at *
 generalize rows.map prwD=RR at *
 simp[Yem,Yq,hi,e1,capR,hc,hb,hall]
theorem cut1(a:D)(l:List D):cutD (a::l) (some 1) none=l:=by
 unfold cutD
 have e1:HT.sIx (a::l).length 0 (some 1)=1:=by simp[HT.sIx]
 have e2:HT.sIx (a::l).length (a::l).length none=l.length+1:=rfl
 rw[e1,e2]
 simp
theorem Ygk{x:String}(hx:x="clash"\/x="cross"\/x="late")(rs:List (List Say)):Ya0 [.tup (.str (Str.ofString x)::rs.map fun r=>.tup (r.map sayD))]=some (.bl true):=by
 have e1:eqM false (.str (Str.ofString x)) (.str "plan")=some false:=by
  rcases hx with rfl | rfl | rfl<;>exact Yfy (by decide +kernel) false
 have e2:eqM false (.str (Str.ofString x)) (.str "sums")=some false:=by
  rcases hx with rfl | rfl | rfl<;>exact Yfy (by decide +kernel) false
 have e3:inM false (.str (Str.ofString x)) (.lst [.str "clash",.str "cross",.str "late"])=some true:=by
  rcases hx with rfl | rfl | rfl<;>decide +kernel
 have hrd:∀r:List Say,Ycm [some (.sh (.tup (r.map sayD)))]=some (.bl true):=fun r=>by
  have hc:=Yes (fe:=Yd9) (r:=[]) (enc:=sayD) (fun _=>.bl true) (l:=r) (fun s _=>by
   have hr:Yn (sayD s)=some [.int s.1,.bl s.2]:=rfl
   generalize sayD s=rr at *
   simp[Yd9,hr,isiD,Yc8,Yjo])
  have hb:blsD (r.map fun _=>D.bl true)=some (r.map fun _=>true):=Yfi (fun _:Say=>true) r
  have hall:(r.map fun _=>true).all id=true:=by rw[List.all_map];exact List.all_eq_true.mpr fun _ _=>rfl
  generalize (r.map fun _=>D.bl true)=B2 at *
  generalize (r.map fun _=>true)=B1 at *
  generalize r.map sayD=RR at *
  simp[Ycm,capR,hc,hb,hall]
 have hc:=Yes (fe:=Ycm) (r:=[]) (enc:=fun r:List Say=>D.tup (r.map sayD)) (fun _=>.bl true) (l:=rs) (fun r _=>hrd r)
 have hb:blsD (rs.map fun _=>D.bl true)=some (rs.map fun _=>true):=Yfi (fun _:List Say=>true) rs
 have hall:(rs.map fun _=>true).all id=true:=by rw[List.all_map];exact List.all_eq_true.mpr fun _ _=>rfl
 rw[Ya0,Yx (by rfl)]
 generalize (rs.map fun _=>D.bl true)=B2 at *
 generalize (rs.map fun _=>true)=B1 at *
 generalize (rs.map fun r=>D.tup (r.map sayD))=RR at *
 simp[Yem,Yq,e1,e2,e3,cut1,capR,hc,hb,hall]
theorem Ypb:Ya0 [.tup [.str "broken"]]=some (.bl true):=by
 have e1:=Yfy (a:="broken") (b:="plan") (by decide +kernel) false
 have e2:=Yfy (a:="broken") (b:="sums") (by decide +kernel) false
 have e3:inM false (.str "broken") (.lst [.str "clash",.str "cross",.str "late"])=some false:=by decide +kernel
 rw[Ya0,Yx (by rfl)]
 simp[Yem,Yq,e1,e2,e3]
theorem Ys8{L:List (List Say)}{K S:List Nat}{d:D}(h:Yrd L K S d):∃pl,d=.tup pl/\Yc5 [.tup pl]=some (.bl true)/\Ya0 [.tup pl]=some (.bl true):=by
 rcases h with h | ⟨h,rfl⟩
 ·cases h with
  | @clash s a b h1 h2=>exact⟨_,rfl,Yfu _ [a,b],Ygk (x:="clash") (.inl rfl) [a,b]⟩
  | @cross s t a h1 h2 h3 h4=>exact⟨_,rfl,Yfu _ [a],Ygk (x:="cross") (.inr (.inl rfl)) [a]⟩
  | @late s t a b h1 h2 h3 h4 h5=>exact⟨_,rfl,Yfu _ [a,b],Ygk (x:="late") (.inr (.inr rfl)) [a,b]⟩
 ·exact⟨_,rfl,Yfu _ [],Ypb⟩
theorem Ym3{pl:List D}{bk c:D}{st:Int}(w:Bool)(hpl:Yc5 [.tup pl]=some (.bl true))(htr:Ya0 [.tup pl]=some (.bl true))(hg:(w=true->Ybc [.tup pl,bk,c,.int st]=some (.bl true))/\(w=false->Yck [.tup pl,bk,c,.int st]=some (.bl true))) :
 Ybv [outD w (.tup pl),bk,c,.int st]=some (.bl true):=by
 have e1:=Yfy (a:="storm") (b:="keeper") (by decide +kernel) false
 have e2:=Yfy (a:="storm") (b:="keeper") (by decide +kernel) true
 have e3:=Yfd "storm" true
 have e4:=Yfd "keeper" true
 have e5:=Yfd "keeper" false
 simp only[Bool.not_false,Bool.not_true]at e3 e4 e5
 cases w with
 | true=>
   have h:=hg.1 rfl
   have hgd:Ymx [.tup pl,bk,c,.int st,.str "storm"]=some (.bl true):=by
    rw[Ymx,Yx (by rfl)]
    simp[Yy8,Yq,e1,h]
   rw[Ybv,Yx (by rfl)]
   simp[Yi6,Yq,outD,isiD,Yc8,Yjo,e2,e3,hpl,htr,hgd,isBl]
 | false=>
   have h:=hg.2 rfl
   have hgd:Ymx [.tup pl,bk,c,.int st,.str "keeper"]=some (.bl true):=by
    rw[Ymx,Yx (by rfl)]
    simp[Yy8,Yq,e5,h]
   rw[Ybv,Yx (by rfl)]
   simp[Yi6,Yq,outD,isiD,Yc8,Yjo,e4,hpl,htr,hgd,isBl]
end Lw
namespace Lw
open PySem L2 M Bk
theorem Yzz{n st:Nat}:∀{R:List Rl},(∀r∈R,In .e n r/\Srt r/\∀x∈bcs r,st<=x)->∃L:List (List Say),L.length=R.length/\InE L st n/\R.map rlD=L.map eiD
 | [],_=>⟨[],rfl,fun q hq=>(nomatch hq),rfl⟩
 | r::R,h=>by
   obtain⟨L,h1,h2,h3⟩:=Yzz fun x hx=>h x (qg _ hx)
   obtain⟨g1,g2,g3⟩:=h r qh
   cases r with
   | su b o=>cases g1.1
   | im b o=>rcases g1.1 with z | z<;>cases z
   | ei l=>
     refine⟨l::L,by simp[h1],fun q hq=>?_,?_⟩
     ·rcases qt hq with rfl | hq
      ·exact⟨g2,fun s hs=>⟨g3 s.1 (List.mem_map.mpr ⟨s,hs,rfl⟩),g1.2 s hs⟩⟩
      ·exact h2 q hq
     ·rw[Qc,Qc,h3]
theorem y18{L:List (List Say)}{st m n:Nat}(h:InE L st m)(hm:m<=n):InE L st n:=fun l hl=>⟨(h l hl).1,fun s hs=>⟨((h l hl).2 s hs).1,by have:=((h l hl).2 s hs).2;omega⟩⟩
theorem Yri(b:Bool):eqM false (hdD b) (.str "keeper")=some b:=by
 have e:D.str "keeper"=hdD true:=rfl
 rw[e,y84]
 cases b<;>rfl
theorem y9f{hs:List Bool}{i:Nat}(h:i < hs.length):atI (hs.map hdD) (i:Int)=some (hdD (hs.getD i false)):=by
 rw[Yd1,Ygr h]
 simp[h]
theorem Yrj(ns:List Int)(hns:ns.length<=63):∃(L:List (List Say)) (hs:List Bool) (st:Nat),L.length<=59/\hs.length<=60/\st < hs.length/\InE L st hs.length/\Yea [.str "eithers",.scr ns]=some (.lst [bkE L,.tup (hs.map hdD),.int (st:Int)]):=by
 have c0:=Yq4 ns 0
 have c1:=Yq4 ns 1
 have c2:=Yq4 ns 2
 have c3:=Yq4 ns 3
 generalize ns.getD 0 0=x0 at c0
 generalize ns.getD 1 0=x1 at c1
 generalize ns.getD 2 0=x2 at c2
 generalize ns.getD 3 0=x3 at c3
 simp at c0 c1 c2 c3
 obtain⟨n,hn⟩:∃n:Nat,1+x0 % 60=(n:Int):=⟨(1+x0 % 60).toNat,by omega⟩
 have hn60:n<=60:=by omega
 have hn1:1<=n:=by omega
 have hpI:(0:Int) < (n:Int):=by omega
 have q1:=Int.emod_nonneg (x0 / 60) (show(n:Int)≠0 by omega)
 have q2:=Int.emod_lt_of_pos (x0 / 60) hpI
 have hmod:modI (.int (x0 / 60)) (.int (n:Int))=some (.int (x0 / 60 % (n:Int))):=Yhz hpI
 obtain⟨st,hst⟩:∃s:Nat,x0 / 60 % (n:Int)=(s:Int):=⟨(x0 / 60 % (n:Int)).toNat,by omega⟩
 rw[hst]at hmod
 have hstn:st < n:=by omega
 obtain⟨h1,hl1,he1⟩:=Yli x1 n (by omega)
 obtain⟨h2,hl2,he2⟩:=Yli x3 n (by omega)
 obtain⟨v,hv0,hv⟩:=Yow x2 1865811235122147685
 have hg:=Ykv (n:=(n:Int)) (by omega) (by omega)
 rw[Yhf]at hg
 have el:((n:Int) - 0).toNat=n:=by omega
 rw[el]at hg
 simp only[Int.zero_add]at hg
 have hch:=Yes (fe:=Ye1) (r:=[some (.sh (.tup (h1.map hdD))),some (.sh (.tup (h2.map hdD)))]) (enc:=fun i:Nat=>D.int ((i:Nat):Int)) (fun i=>hdD (h1.getD i false||h2.getD i false)) (l:=List.range n) (fun i hi=>by
  have hin:=Qa hi
  have a1:=y9f (hs:=h1) (i:=i) (by omega)
  have a2:=y9f (hs:=h2) (i:=i) (by omega)
  have k1:=Yri (h1.getD i false)
  have k2:=Yri (h2.getD i false)
  generalize h1.getD i false=u1 at *
  generalize h2.getD i false=u2 at *
  generalize h1.map hdD=H1 at *
  generalize h2.map hdD=H2 at *
  generalize hd1:hdD u1=d1 at *
  generalize hd2:hdD u2=d2 at *
  cases u1<;>cases u2<;>simp[Ye1,a1,a2,k1,k2,hdD])
 have hmm:((List.range n).map fun i=>hdD (h1.getD i false||h2.getD i false))=((List.range n).map fun i=>h1.getD i false||h2.getD i false).map hdD:=by rw[Qd];rfl
 rw[hmm]at hch
 obtain⟨hs,hsl,hhand⟩:∃hs:List Bool,hs.length=n/\∀a7 a8:Option B,Ybw [some (.sh (.str "eithers")),some (.sh (.scr ns)),some (.sh (.int n)),some (.sh (.int st)),some (.sh (.tup (h1.map hdD))),some (.sh (.int v)),none,none,none]=Ybw [some (.sh (.str "eithers")),some (.sh (.scr ns)),some (.sh (.int n)),some (.sh (.int st)),some (.sh (.tup (h1.map hdD))),some (.sh (.int v)),none,none,none]/\∃z6:Option B,Ybw [some (.sh (.str "eithers")),some (.sh (.scr ns)),some (.sh (.int n)),some (.sh (.int st)),some (.sh (.tup (h1.map hdD))),some (.sh (.int v)),none,none,none]=Ydu [some (.sh (.str "eithers")),some (.sh (.scr ns)),some (.sh (.int n)),some (.sh (.int st)),some (.sh (.tup (hs.map hdD))),some (.sh (.int v)),z6,none,none]:=by
  by_cases hv3:v % 3=0
  ·refine⟨(List.range n).map fun i=>h1.getD i false||h2.getD i false,by simp,fun _ _=>⟨rfl,some (.sh (.tup (h2.map hdD))),?_⟩⟩
   generalize ((List.range n).map fun i=>h1.getD i false||h2.getD i false).map hdD=HS at *
   generalize h1.map hdD=H1 at *
   generalize h2.map hdD=H2 at *
   simp[hv3,c3,he2,hg,capR,hch,-Ydu]
  ·refine⟨h1,hl1,fun _ _=>⟨rfl,none,?_⟩⟩
   generalize h1.map hdD=H1 at *
   simp[hv3,-Ydu]
 obtain⟨_,z6,e4⟩:=hhand none none
 obtain⟨w,hwm,hwa⟩:=Ysb (l:=[60,60,60,3,6,12,6,12,(6:Int)]) (i:=v / 3 % 9) (Int.emod_nonneg _ (by decide)) (by have:=Int.emod_lt_of_pos (v / 3) (show(0:Int) < 9 by decide);simpa using this)
 have hw3:3<=w:=by
  simp at hwm
  omega
 have hwat:atI ([60,60,60,3,6,12,6,12,(6:Int)].map D.int) (v / 3 % 9)=some (.int w):=by rw[Yd1,hwa];rfl
 have hki:∀ρ:Ro,Ykp [60,60,60,3,6,12,6,12,6] ρ=some ([60,60,60,3,6,12,6,12,(6:Int)].map D.int):=fun _=>rfl
 obtain⟨far,hfar⟩:∃f:Nat,(if (st:Int)+w < (n:Int)then (st:Int)+w else (n:Int))=(f:Int):=⟨(if (st:Int)+w < (n:Int)then (st:Int)+w else (n:Int)).toNat,by split<;>omega⟩
 have hfar1:st < far/\far<=n:=by
  split at hfar<;>omega
 obtain⟨m,hm⟩:∃m:Nat,4+v / 32 % 41=(m:Int):=⟨(4+v / 32 % 41).toNat,by omega⟩
 have hcut:=y5p ns 4 m
 have hcl:((ns.drop (min 4 ns.length)).take (min m ns.length - min 4 ns.length)).length<=59:=by
  rw[List.length_take,List.length_drop]
  omega
 generalize (ns.drop (min 4 ns.length)).take (min m ns.length - min 4 ns.length)=cs at *
 have h4:((4:Nat):Int)=4:=rfl
 rw[h4]at hcut
 obtain⟨R0,hR0,hR1,hR2⟩:=drawn (fe:=Ye2) (r:=[some (.sh (.str "eithers")),some (.sh (.int (st:Int))),some (.sh (.int (far:Int)))]) (P:=fun r=>In .e far r/\Srt r/\∀x∈bcs r,st<=x) (fun c=>by
  obtain⟨r,g1,g2,g3,g4⟩:=y5r .e c st far hfar1.1 (by omega)
  refine⟨r,⟨g1,g2,g3⟩,?_⟩
  have hks:kdD .e=.str "eithers":=rfl
  rw[hks]at g4
  generalize rlD r=rr at *
  simp[Ye2,g4]) cs
 obtain⟨L,hRl,hRb,hRe⟩:=Yzz (st:=st) (n:=far) hR1
 rw[hRe]at hR2
 refine⟨L,hs,st,by omega,by omega,by omega,by rw[hsl];exact y18 hRb hfar1.2,?_⟩
 rw[Yea,Yx (by rfl)]
 have hst0:Yq 9 [.str "eithers",.scr ns]=[some (.sh (.str "eithers")),some (.sh (.scr ns)),none,none,none,none,none,none,none]:=rfl
 have pre:Yhi [some (.sh (.str "eithers")),some (.sh (.scr ns)),none,none,none,none,none,none,none]=Ybw [some (.sh (.str "eithers")),some (.sh (.scr ns)),some (.sh (.int n)),some (.sh (.int st)),some (.sh (.tup (h1.map hdD))),some (.sh (.int v)),none,none,none]:=by
  generalize h1.map hdD=H1 at *
  simp[Yhi,c0,hn,hmod,c1,he1,c2,hv,-Ybw]
 rw[hst0,pre,e4]
 have hbk:bkE L=.tup [.str "eithers",.tup (L.map eiD)]:=rfl
 rw[hbk]
 clear hhand e4 pre hch hmm hwm hwa
 generalize [60,60,60,3,6,12,6,12,(6:Int)].map D.int=WL at *
 generalize hs.map hdD=HS at *
 generalize L.map eiD=RR at *
 generalize cs.map D.int=CC at *
 simp[hki,hwat,hfar,hm,hcut,capR,hR2]
end Lw
namespace Lw
open PySem L2 M Bk
theorem Yz0:∀{rows:List Prw} {r:Prw},(rows.map (·.1)).Nodup->r∈rows->rows.find? (fun q=>q.1==r.1)=some r
 | q::rows,r,hn,hr=>by
   rw[Qc,List.nodup_cons]at hn
   rw[List.find?_cons]
   rcases qt hr with rfl | hr
   ·simp
   ·have hne:q.1≠r.1:=fun e=>hn.1 (List.mem_map.mpr ⟨r,hr,e.symm⟩)
    have:(q.1==r.1)=false:=by simpa using hne
    rw[this]
    exact Yz0 hn.2 hr
theorem Ys9{hs:List Bool}(hl:hs.length<=60){st:Nat}(hst:st < hs.length){L:List (List Say)}{rows:List Prw}(h:GoodE L (ofH hs st true) (ofH hs st false) rows)(v:Int) :
 ∃l:List Say,(Srt (.ei l)/\∀s∈l,st<=s.1/\s.1 < hs.length)/\Ye3 (l.map (Yar rows))=true/\Yaq [outD false (.tup (plD rows)),.tup (hs.map hdD),.int st,.int v]=some (eiD l):=by
 have e1:=Yfd "keeper" false
 simp only[Bool.not_false]at e1
 have hi:Yn (outD false (.tup (plD rows)))=some [.str "keeper",.tup (plD rows)]:=rfl
 have hi2:Yn (.tup (plD rows))=some [.str "plan",.tup (rows.map prwD)]:=rfl
 have hc:=Ytx (fc:=Ycn) (fe:=Yco) (r:=[]) (enc:=prwD) (fun r=>decide (r.2.1=none)) prwD (l:=rows) (fun r _=>by
  have hr:Yn (prwD r)=some [.int r.1,optD r.2.1,.bl r.2.2]:=rfl
  have hn:=Yoy false r.2.1
  simp only[Qm,if_false]at hn
  generalize optD r.2.1=o at *
  generalize prwD r=rr at *
  simp[Ycn,hr,Yze,hn]) (fun r _ _=>by simp[Yco])
 have hnd:(rows.map (·.1)).Nodup:=by
  rw[h.ks]
  have hKpw:(ofH hs st true).Pairwise (· < ·):=List.Pairwise.filter _ List.pairwise_lt_range
  exact hKpw.imp fun h=>qm h
 have hst0:Yq 7 [outD false (.tup (plD rows)),.tup (hs.map hdD),.int (st:Int),.int v]=[some (.sh (outD false (.tup (plD rows)))),some (.sh (.tup (hs.map hdD))),some (.sh (.int st)),some (.sh (.int v)),none,none,none]:=rfl
 have hm:∀r∈rows.filter fun r=>decide (r.2.1=none),r∈rows/\r.2.1=none:=fun r hr=>⟨(Qb hr).1,of_decide_eq_true (Qb hr).2⟩
 generalize (rows.filter fun r=>decide (r.2.1=none))=F at *
 have hlen:((F.map prwD).length:Int)=(F.length:Int):=by simp
 by_cases hp:0 < F.length
 ·have hpI:(0:Int) < (F.length:Int):=by omega
  obtain⟨r,hr,hra⟩:=Ysb (l:=F) (i:=v % (F.length:Int)) (Int.emod_nonneg _ (by omega)) (Int.emod_lt_of_pos _ hpI)
  have hat:atI (F.map prwD) (v % (F.length:Int))=some (prwD r):=by rw[Yd1,hra];rfl
  have hm1:modI (.int v) (.int (F.length:Int))=some (.int (v % (F.length:Int))):=Yhz hpI
  obtain⟨hr1,hr2⟩:=hm r hr
  have hk:r.1∈ofH hs st true:=by
   rw[<-h.ks]
   exact List.mem_map.mpr ⟨r,hr1,rfl⟩
  have hk1:st<=r.1:=by
   have:=(Qb hk).2
   simp at this
   exact this.1
  refine⟨[(r.1,r.2.2)],⟨⟨by simp,by simp⟩,fun s hs'=>?_⟩,?_,?_⟩
  ·rw[Ql]at hs'
   subst hs'
   exact⟨hk1,Yzx hk⟩
  ·have hcm:Yar rows (r.1,r.2.2)=(none,true):=by
    unfold Yar
    rw[Yz0 hnd hr1]
    show(r.2.1,r.2.2==r.2.2)=(none,true)
    rw[hr2]
    simp
   show Ye3 [Yar rows (r.1,r.2.2)]=true
   rw[hcm]
   rfl
  ·have hri:Yn (prwD r)=some [.int r.1,optD r.2.1,.bl r.2.2]:=rfl
   have hei:eiD [(r.1,r.2.2)]=.tup [.tup [.int r.1,.bl r.2.2]]:=rfl
   rw[Yaq,Yx (by rfl),hst0,hei]
   clear hm hnd h hra
   generalize optD r.2.1=o at *
   generalize prwD r=rr at *
   generalize v % (F.length:Int)=i1 at *
   generalize F.length=fl at *
   generalize F.map prwD=FF at *
   generalize rows.map prwD=RR at *
   generalize D.tup (plD rows)=pp at *
   generalize outD false pp=oo at *
   generalize hs.map hdD=HH at *
   simp[Ycp,hi,hi2,e1,capR,hc,hlen,hp,hm1,hat,hri,Yvm]
 ·have h0:F.length=0:=by omega
  refine⟨[(st,false),(st,true)],⟨⟨by simp,by simp[slt]⟩,fun s hs'=>?_⟩,?_,?_⟩
  ·rcases qt hs' with rfl | hs'
   ·exact⟨qu _,hst⟩
   ·rw[Ql]at hs'
    subst hs'
    exact⟨qu _,hst⟩
  ·have e:Yar rows (st,true)=flE (Yar rows (st,false)):=Yo1 rows (st,false)
   show Ye3 [Yar rows (st,false),Yar rows (st,true)]=true
   rw[e]
   unfold Ye3
   rw[List.any_eq_true]
   exact⟨Yar rows (st,false),by simp,by simp⟩
  ·have hei:eiD [(st,false),(st,true)]=.tup [.tup [.int st,.bl false],.tup [.int st,.bl true]]:=rfl
   rw[h0]at hlen
   rw[Yaq,Yx (by rfl),hst0,hei]
   clear hm hnd h
   generalize F.map prwD=FF at *
   generalize rows.map prwD=RR at *
   generalize D.tup (plD rows)=pp at *
   generalize outD false pp=oo at *
   generalize hs.map hdD=HH at *
   simp[Ycp,hi,hi2,e1,capR,hc,hlen]
theorem Yvt{hs:List Bool}(hl:hs.length<=60){st:Nat}(hst:st < hs.length)(d:D)(v:Int) :
 ∃l:List Say,(Srt (.ei l)/\∀s∈l,st<=s.1/\s.1 < hs.length)/\Yaq [outD true d,.tup (hs.map hdD),.int st,.int v]=some (eiD l):=by
 have e1:=Yfy (a:="storm") (b:="keeper") (by decide +kernel) false
 have hi:Yn (outD true d)=some [.str "storm",d]:=rfl
 have hlenH:((hs.map hdD).length:Int)=(hs.length:Int):=by simp
 have hdI:(0:Int) < (hs.length:Int) - (st:Int):=by omega
 have hm2:modI (.int (v / 2)) (.int ((hs.length:Int) - (st:Int)))=some (.int (v / 2 % ((hs.length:Int) - (st:Int)))):=Yhz hdI
 have g1:=Int.emod_nonneg (v / 2) (show(hs.length:Int) - (st:Int)≠0 by omega)
 have g2:=Int.emod_lt_of_pos (v / 2) hdI
 obtain⟨be,hbe⟩:∃b:Nat,(st:Int)+v / 2 % ((hs.length:Int) - (st:Int))=(b:Int):=⟨((st:Int)+v / 2 % ((hs.length:Int) - (st:Int))).toNat,by omega⟩
 obtain⟨l,k1,k2,k3⟩:=Yzd (n:=hs.length) (s:=(st,decide (v % 2=1))) (t:=(be,decide (v / 256 % 2=1))) (by omega) (by show be < hs.length;omega) hl
 refine⟨l,⟨k2,fun s hs'=>?_⟩,?_⟩
 ·rcases k1 s hs' with rfl | rfl
  ·exact⟨qu _,hst⟩
  ·exact⟨by show st<=be;omega,by show be < hs.length;omega⟩
 ·have hst0:Yq 7 [outD true d,.tup (hs.map hdD),.int (st:Int),.int v]=[some (.sh (outD true d)),some (.sh (.tup (hs.map hdD))),some (.sh (.int st)),some (.sh (.int v)),none,none,none]:=rfl
  have k3':Yns [.tup [.int st,.bl (decide (v % 2=1))],.tup [.int be,.bl (decide (v / 256 % 2=1))]]=some (l.map sayD):=k3
  have hei:eiD l=.tup (l.map sayD):=rfl
  rw[Yaq,Yx (by rfl),hst0,hei]
  clear k1 k2 k3
  generalize l.map sayD=LL at *
  generalize v / 2 % ((hs.length:Int) - (st:Int))=i2 at *
  generalize hs.length=hn at *
  generalize hs.map hdD=HH at *
  generalize outD true d=oo at *
  simp[Ycp,hi,e1,hlenH,hm2,hbe,lstL,k3']
end Lw
namespace Lw
open PySem L2 M Bk
theorem Yz1{L:List (List Say)}(hLl:L.length<=100){hs:List Bool}(hl:hs.length<=60){st:Nat}(hst:st<=hs.length)(hin:InE L st hs.length){c:D}(hc:Yn c=some (hs.map hdD)) :
 ∃(w:Bool) (pl:List D),Yaj [bkE L,c,.int st]=some (outD w (.tup pl))/\Ybv [outD w (.tup pl),bkE L,.tup (hs.map hdD),.int st]=some (.bl true)/\(w=true->BadE L (ofH hs st true) (ofH hs st false))/\(w=false->∃rows,GoodE L (ofH hs st true) (ofH hs st false) rows/\pl=plD rows):=by
 have hL:∀l∈L,Ygj l:=fun l hm=>Ys2 (hin l hm).1
 rcases Yj0 hLl hc hl hst hin with⟨d,hd,h⟩ | ⟨rows,hG,h⟩
 ·obtain⟨pl,rfl,p1,p2⟩:=Ys8 hd
  exact⟨true,pl,h,Ym3 true p1 p2 ⟨fun _=>Ys5 (by omega) hl hst hin hd,fun z=>(nomatch z)⟩,fun _=>Yvq hL hd,fun z=>(nomatch z)⟩
 ·exact⟨false,_,h,Ym3 false (Yvs _) (Ys7 _) ⟨fun z=>(nomatch z),fun _=>Ys6 hl hst hG⟩,fun z=>(nomatch z),fun _=>⟨rows,hG,rfl⟩⟩
theorem y9g(ns:List Int){bk hh:D}{st:Int}(h:Yea [.str "eithers",.scr ns]=some (.lst [bk,hh,.int st])) :
 y5o [some (.sh (.scr ns)),none,none,none,none,none,none,none]=You [some (.sh (.scr ns)),some (.sh bk),some (.sh hh),some (.sh (.int st)),none,none,none,none]:=by
 simp[y5o,h]
theorem y9h(a0:Option B){bk hh fo:D}{st:Int}(h:Yaj [bk,hh,.int st]=some fo) :
 You [a0,some (.sh bk),some (.sh hh),some (.sh (.int st)),none,none,none,none]=Yot [a0,some (.sh bk),some (.sh hh),some (.sh (.int st)),some (.sh fo),none,none,none]:=by
 simp[You,h]
theorem y9i(a0:Option B){bk hh fo:D}{st:Int}(h:Ybv [fo,bk,hh,.int st]=some (.bl true)) :
 Yot [a0,some (.sh bk),some (.sh hh),some (.sh (.int st)),some (.sh fo),none,none,none]=Yos [a0,some (.sh bk),some (.sh hh),some (.sh (.int st)),some (.sh fo),none,none,none]:=by
 simp[Yot,h]
theorem y9j(ns:List Int){x3 v:Int}(a1 a2 a3 a4:Option B)(c3:Ybp [.scr ns,.int 3]=some (.int x3))(h:Ybu [.int x3,.int 2049848353892358983]=some (.int v)) :
 Yos [some (.sh (.scr ns)),a1,a2,a3,a4,none,none,none]=Yor [some (.sh (.scr ns)),a1,a2,a3,a4,some (.sh (.int v)),none,none]:=by
 simp[Yos,c3,h]
theorem y9k{L:List (List Say)}(hL:L.length<=100){l:List Say}{hh fo:D}{st v:Int}(a0:Option B)(h:Yaq [fo,hh,.int st,.int v]=some (eiD l)) :
 Yor [a0,some (.sh (bkE L)),some (.sh hh),some (.sh (.int st)),some (.sh fo),some (.sh (.int v)),none,none]=Yoq [a0,some (.sh (bkE L)),some (.sh hh),some (.sh (.int st)),some (.sh fo),some (.sh (.int v)),some (.sh (bkE (L++[l]))),none]:=by
 have hbi:Yn (bkE L)=some [.str "eithers",.tup (L.map eiD)]:=rfl
 have htu:bkE (L++[l])=.tup [.str "eithers",.tup (L.map eiD++[eiD l])]:=by
  show D.tup [.str "eithers",.tup ((L++[l]).map eiD)]=_
  rw[Qn]
  rfl
 have hcat:Yyb (.tup (L.map eiD)) (.tup [eiD l])=some (.tup (L.map eiD++[eiD l])):=if_pos (by simp;omega)
 rw[htu]
 generalize eiD l=ll at *
 generalize L.map eiD=RR at *
 generalize bkE L=bk at *
 simp[Yor,hbi,h,hcat]
theorem y9l(a0 a1 a4 a5:Option B){tb fo:D}{hs:List Bool}{st:Int}(h:Yaj [tb,.lst (hs.map hdD),.int st]=some fo) :
 Yoq [a0,a1,some (.sh (.tup (hs.map hdD))),some (.sh (.int st)),a4,a5,some (.sh tb),none]=Yop [a0,a1,some (.sh (.tup (hs.map hdD))),some (.sh (.int st)),a4,a5,some (.sh tb),some (.sh fo)]:=by
 have hlf:Yut [.tup (hs.map hdD)]=some (hs.map hdD):=rfl
 generalize hs.map hdD=HS at *
 simp[Yoq,hlf,h]
theorem y9m(a0 a1 a5:Option B){tb hh p1 p2:D}{st:Int}{w:Bool}(h:Ybv [outD w p2,tb,hh,.int st]=some (.bl true)) :
 Yop [a0,a1,some (.sh hh),some (.sh (.int st)),some (.sh (outD w p1)),a5,some (.sh tb),some (.sh (outD w p2))]=some (.rt (.bl true)):=by
 have hi:∀p:D,Yn (outD w p)=some [.str (if w=true then Str.ofString "storm" else Str.ofString "keeper"),p]:=fun _=>rfl
 have he:eqM false (.str (if w=true then Str.ofString "storm" else Str.ofString "keeper")) (.str (if w=true then Str.ofString "storm" else Str.ofString "keeper"))=some true:=by
  cases w
  ·exact Yfd "keeper" false
  ·exact Yfd "storm" false
 have h1:=hi p1
 have h2:=hi p2
 generalize D.str (if w=true then Str.ofString "storm" else Str.ofString "keeper")=sw at *
 generalize outD w p1=o1 at *
 generalize outD w p2=o2 at *
 simp[Yop,h,h1,h2,he]
theorem law_true(ns:List Int)(hns:ns.length<=63):Ysp [.scr ns]=some (.bl true):=by
 rw[Ysp,Yx (by rfl)]
 have c3:=Yq4 ns 3
 generalize ns.getD 3 0=x3 at c3
 simp at c3
 obtain⟨L,hs,st,hRl,hl,hst,hin,hdr⟩:=Yrj ns hns
 obtain⟨v,_,hv⟩:=Yow x3 2049848353892358983
 obtain⟨w1,p1,o1,g1,s1,k1⟩:=Yz1 (L:=L) (by omega) hl (by omega) hin (c:=.tup (hs.map hdD)) rfl
 obtain⟨l,hli,hlk,hmo⟩:∃l:List Say,(Srt (.ei l)/\∀s∈l,st<=s.1/\s.1 < hs.length)/\(w1=false->∃rows,GoodE (L++[l]) (ofH hs st true) (ofH hs st false) rows)/\Yaq [outD w1 (.tup p1),.tup (hs.map hdD),.int st,.int v]=some (eiD l):=by
  cases w1 with
  | true=>
    obtain⟨l,q1,q2⟩:=Yvt hl hst (.tup p1) v
    exact⟨l,q1,fun z=>(nomatch z),q2⟩
  | false=>
    obtain⟨rows,hG,rfl⟩:=k1 rfl
    obtain⟨l,q1,q2,q3⟩:=Ys9 hl hst hG v
    refine⟨l,q1,fun _=>⟨rows,hG.ks,hG.row,fun l' hl'=>?_⟩,q3⟩
    rcases qv hl' with z | z
    ·exact hG.kept l' z
    ·rw[Ql]at z
     rw[z]
     exact q2
 have hin2:InE (L++[l]) st hs.length:=fun q hq=>(qv hq).elim (hin q) (fun z=>by
  rw[Ql]at z
  rw[z]
  exact hli)
 have hL2:∀l'∈L++[l],Ygj l':=fun l' hm=>Ys2 (hin2 l' hm).1
 obtain⟨w2,p2,o2,g2,s2,k2⟩:=Yz1 (L:=L++[l]) (by simp;omega) hl (by omega) hin2 (c:=.lst (hs.map hdD)) rfl
 have hw:w2=w1:=by
  cases w1 with
  | true=>
    cases w2 with
    | true=>rfl
    | false=>
      obtain⟨rows,hG,_⟩:=k2 rfl
      exact(y28 hL2 Ypa hG ((s1 rfl).mono fun l' hl'=>List.mem_append.mpr (.inl hl'))).elim
  | false=>
    cases w2 with
    | false=>rfl
    | true=>
      obtain⟨rows,hG⟩:=hlk rfl
      exact(y28 hL2 Ypa hG (s2 rfl)).elim
 subst hw
 have hst0:Yq 8 [D.scr ns]=[some (.sh (.scr ns)),none,none,none,none,none,none,none]:=rfl
 rw[hst0,y9g ns hdr,y9h _ o1,y9i _ g1,y9j ns _ _ _ _ c3 hv,y9k (by omega) _ hmo,y9l _ _ _ _ o2,y9m _ _ _ g2]
 rfl
end Lw
end
namespace Op
open PySem PySem.W PyProof.Rows PySem.Calls
set_option maxRecDepth 100000
noncomputable abbrev pg:Program:=PySem.Challenge.pw_duskbook_k44_eithers_won
noncomputable abbrev en(P:Params)(x:Str)(t:Nat)(v:Value):DictEntry:=⟨PyData.keyHash P x,.str x t,v⟩
noncomputable abbrev fn(name qual:Str)(s:Stmt)(dV kV doc pm:Value)(an:Option Addr)(cdv ct:Value)(g b:Nat):Data:=.func ⟨name,qual,L2.defArgs s,.stmts (L2.defBody s),L2.defScope s,g,[],dV,kV,doc,pm,an,cdv,ct,b⟩
noncomputable abbrev tu(l:List Value):Obj:=⟨.type "tuple",none,.seq ⟨l⟩ 0,#[]⟩
noncomputable abbrev fl:Obj:=⟨.none,none,.fields #[],#[]⟩
noncomputable abbrev oZ(x:Str)(i:Nat):Obj:=⟨.none,none,fn x x (Lw.top i) .none .none .none .none none .none .none 0 0,#[]⟩
noncomputable abbrev oF(x:Str)(i:Nat)(pm:Value)(c:Nat):Obj:=⟨.type "function",none,.func (fnOf x x (L2.defArgs (Lw.top i)) (L2.defBody (Lw.top i)) (L2.defScope (Lw.top i)) .none .none .none pm none (.ref c) .none),#[]⟩
noncomputable abbrev oC(x:Str)(t l n b:Nat)(u v:Value)(c k e:Nat):Obj:=⟨.type "code",none,.fields #[.str x t,.str x (t+1),.str "/claim/cut.py" (t+2),.int (.ofNat l) 0,.int (.ofNat n) 0,.int 0 0,.int 0 0,.int 3 0,.ref b,.bool true,.int (.ofNat k) 0,.ref (b+1),.none,u,v,.ref c,.int (.ofNat e) 0,.int (.ofNat l) 0,.str "/claim/cut.py" (e+1)],#[]⟩
noncomputable abbrev p0:Value:=(.str "duskbook.parts" 187)
noncomputable abbrev p1:Value:=(.str "duskbook.roads" 202)
noncomputable abbrev p2:Value:=(.str "duskbook.adding" 248)
noncomputable abbrev p3:Value:=(.str "duskbook.blends" 268)
noncomputable abbrev p4:Value:=(.str "duskbook.books" 295)
noncomputable abbrev p5:Value:=(.str "duskbook.deriving" 358)
noncomputable abbrev p6:Value:=(.str "duskbook.storming" 401)
noncomputable abbrev p7:Value:=(.str "duskbook.eitherways" 515)
noncomputable abbrev p8:Value:=(.str "duskbook.keeping" 609)
noncomputable abbrev p9:Value:=(.str "duskbook.checking" 714)
noncomputable abbrev p10:Value:=(.str "law_duskbook_k44_eithers_won" 727)
noncomputable def et0(P:Params):List DictEntry:=[en P "__doc__" 166 .none,en P "__package__" 167 .none,en P "__loader__" 168 (.builtin "__main__.__loader__#opaque"),en P "__spec__" 169 .none,en P "__annotations__" 170 (.ref 6),en P "__builtins__" 171 (.ref 4),en P "__file__" 173 (.str "/claim/cut.py" 172),en P "__cached__" 174 .none,en P "beacons_with" 194 (.ref 19),en P "is_rising" 201 (.ref 26),en P "contrary" 210 (.ref 33),en P "led_to" 216 (.ref 38),en P "is_road" 225 (.ref 45),en P "traced" 235 (.ref 52),en P "ways_from" 247 (.ref 59),en P "both_added" 257 (.ref 66),en P "added" 267 (.ref 73),en P "EXCHANGED_KINDS" 282 (.ref 74),en P "exchanged_rule" 288 (.ref 79),en P "exchanged" 294 (.ref 84),en P "either_holds" 302 (.ref 89),en P "sum_holds" 308 (.ref 94),en P "if_holds" 314 (.ref 99),en P "rule_holds" 323 (.ref 106),en P "broken_rules" 329 (.ref 111),en P "holds" 337 (.ref 118),en P "beacons_in" 343 (.ref 123),en P "is_void" 351 (.ref 130),en P "without" 357 (.ref 135),en P "is_place" 367 (.ref 142),en P "body_is_known" 373 (.ref 147),en P "is_step" 383 (.ref 154),en P "is_derivation" 394 (.ref 161),en P "derived" 400 (.ref 166),en P "is_broken" 408 (.ref 171),en P "lead_there_and_back" 417 (.ref 178),en P "clash_good" 426 (.ref 185),en P "cross_good" 435 (.ref 192),en P "late_good" 446 (.ref 199),en P "odd_good" 452 (.ref 204)]
noncomputable def et1(P:Params):List DictEntry:=[en P "first_ones" 458 (.ref 209),en P "is_first_part" 468 (.ref 216),en P "is_last_part" 480 (.ref 223),en P "lone_good" 492 (.ref 230),en P "either_paper_good" 502 (.ref 237),en P "storm_good" 514 (.ref 244),en P "sayings_of" 525 (.ref 251),en P "lead_to_one_another" 534 (.ref 258),en P "clash_found" 543 (.ref 265),en P "cross_found" 553 (.ref 272),en P "late_found" 564 (.ref 279),en P "storms_paper" 570 (.ref 284),en P "free_saying" 579 (.ref 291),en P "truths_made" 591 (.ref 298),en P "plan_row" 602 (.ref 305),en P "either_outcome" 608 (.ref 310),en P "rows_by_beacon" 616 (.ref 315),en P "is_plan_row" 624 (.ref 322),en P "come_to" 633 (.ref 329),en P "either_is_kept" 639 (.ref 334),en P "plan_good" 645 (.ref 339),en P "is_sum_row" 651 (.ref 344),en P "replaced" 662 (.ref 351),en P "sums_good" 668 (.ref 356),en P "are_some_of" 674 (.ref 361),en P "ahead_of" 680 (.ref 366),en P "is_row" 689 (.ref 373),en P "holds_where_lit" 695 (.ref 378),en P "rows_good" 701 (.ref 383),en P "keeper_good" 713 (.ref 390),en P "good" 726 (.ref 397),en P "_law_cell" 736 (.ref 404),en P "_law_mixed" 744 (.ref 411),en P "_law_hands" 750 (.ref 416),en P "_law_own" 756 (.ref 421),en P "_law_rule" 762 (.ref 426),en P "_law_plain" 768 (.ref 431),en P "_law_truths" 774 (.ref 436),en P "_law_good" 784 (.ref 443),en P "_law_drawn" 790 (.ref 448)]
noncomputable def et2(P:Params):List DictEntry:=[en P "_law_rule_more" 796 (.ref 453),en P "law" 810 (.ref 460)]
noncomputable def et(P:Params):List DictEntry:=et0 P++et1 P++et2 P
noncomputable abbrev ns(P:Params)(x:DictEntry)(n k:Nat):Obj:=⟨.type "dict",none,.dict ⟨x::(et P).take n⟩ k,#[]⟩
noncomputable def ff0:List Value:=[(.int (2) 0),(.int (0) 0),(.ref 18),(.int (4) 0),(.int (0) 0),(.ref 25),(.int (7) 0),(.int (0) 0),(.ref 32),(.int (9) 0),(.int (0) 0),(.ref 37),(.int (17) 0),(.int (0) 0),(.ref 44),(.int (22) 0),(.int (0) 0),(.ref 51),(.int (29) 0),(.int (0) 0),(.ref 58),(.int (41) 0),(.int (0) 0),(.ref 65),(.int (43) 0),(.int (0) 0),(.ref 72),(.int (50) 0),(.int (0) 0),(.ref 78),(.int (56) 0),(.int (0) 0),(.ref 83),(.int (60) 0),(.int (0) 0),(.ref 88),(.int (62) 0),(.int (0) 0),(.ref 93),(.int (65) 0)]
noncomputable def ff1:List Value:=[(.int (0) 0),(.ref 98),(.int (69) 0),(.int (0) 0),(.ref 105),(.int (75) 0),(.int (0) 0),(.ref 110),(.int (77) 0),(.int (0) 0),(.ref 117),(.int (79) 0),(.int (0) 0),(.ref 122),(.int (85) 0),(.int (0) 0),(.ref 129),(.int (87) 0),(.int (0) 0),(.ref 134),(.int (90) 0),(.int (0) 0),(.ref 141),(.int (92) 0),(.int (0) 0),(.ref 146),(.int (94) 0),(.int (0) 0),(.ref 153),(.int (99) 0),(.int (0) 0),(.ref 160),(.int (106) 0),(.int (0) 0),(.ref 165),(.int (110) 0),(.int (0) 0),(.ref 170),(.int (112) 0),(.int (0) 0)]
noncomputable def ff2:List Value:=[(.ref 177),(.int (116) 0),(.int (0) 0),(.ref 184),(.int (118) 0),(.int (0) 0),(.ref 191),(.int (122) 0),(.int (0) 0),(.ref 198),(.int (126) 0),(.int (0) 0),(.ref 203),(.int (133) 0),(.int (0) 0),(.ref 208),(.int (138) 0),(.int (0) 0),(.ref 215),(.int (142) 0),(.int (0) 0),(.ref 222),(.int (148) 0),(.int (0) 0),(.ref 229),(.int (154) 0),(.int (0) 0),(.ref 236),(.int (162) 0),(.int (0) 0),(.ref 243),(.int (177) 0),(.int (0) 0),(.ref 250),(.int (182) 0),(.int (0) 0),(.ref 257),(.int (184) 0),(.int (0) 0),(.ref 264)]
noncomputable def ff3:List Value:=[(.int (190) 0),(.int (0) 0),(.ref 271),(.int (196) 0),(.int (0) 0),(.ref 278),(.int (202) 0),(.int (0) 0),(.ref 283),(.int (208) 0),(.int (0) 0),(.ref 290),(.int (211) 0),(.int (0) 0),(.ref 297),(.int (219) 0),(.int (0) 0),(.ref 304),(.int (224) 0),(.int (0) 0),(.ref 309),(.int (234) 0),(.int (0) 0),(.ref 314),(.int (236) 0),(.int (0) 0),(.ref 321),(.int (238) 0),(.int (0) 0),(.ref 328),(.int (243) 0),(.int (0) 0),(.ref 333),(.int (246) 0),(.int (0) 0),(.ref 338),(.int (251) 0),(.int (0) 0),(.ref 343),(.int (253) 0)]
noncomputable def ff4:List Value:=[(.int (0) 0),(.ref 350),(.int (259) 0),(.int (0) 0),(.ref 355),(.int (264) 0),(.int (0) 0),(.ref 360),(.int (266) 0),(.int (0) 0),(.ref 365),(.int (268) 0),(.int (0) 0),(.ref 372),(.int (270) 0),(.int (0) 0),(.ref 377),(.int (272) 0),(.int (0) 0),(.ref 382),(.int (279) 0),(.int (0) 0),(.ref 389),(.int (292) 0),(.int (0) 0),(.ref 396),(.int (297) 0),(.int (0) 0),(.ref 403),(.int (301) 0),(.int (0) 0),(.ref 410),(.int (303) 0),(.int (0) 0),(.ref 415),(.int (306) 0),(.int (0) 0),(.ref 420),(.int (308) 0),(.int (0) 0)]
noncomputable def ff5:List Value:=[(.ref 425),(.int (328) 0),(.int (0) 0),(.ref 430),(.int (332) 0),(.int (0) 0),(.ref 435),(.int (338) 0),(.int (0) 0),(.ref 442),(.int (344) 0),(.int (0) 0),(.ref 447),(.int (355) 0),(.int (0) 0),(.ref 452),(.int (364) 0),(.int (0) 0),(.ref 459)]
noncomputable def ff:List Value:=ff0++ff1++ff2++ff3++ff4++ff5
noncomputable abbrev ft(n:Nat):Obj:=⟨.none,none,.fields ⟨ff.take n⟩,#[]⟩
noncomputable abbrev dF(x:Str)(i l n t b:Nat)(pm:Value)(k:Nat):List Obj:=[tu [],fl,oZ x i,oC x t l n b .none .none (b+2) k (t+3),oF x i pm (b+3)]
noncomputable abbrev dG(x:Str)(i l n t b:Nat)(pm:Value)(k:Nat)(u:List Value):List Obj:=[tu [],fl,tu u,tu [],oZ x i,oC x t l n b (.ref (b+2)) (.ref (b+3)) (b+4) k (t+3+u.length),oF x i pm (b+5)]
noncomputable def al0(P:Params):List Obj:=[boot_o_0 P,boot_o_1 P,boot_o_2 P,ns P (en P "__name__" 165 (.str "law_duskbook_k44_eithers_won" 727)) 82 83,boot_o_4 P,boot_o_5 P,boot_o_6 P,boot_o_7 P,boot_o_8 P,boot_o_9 P,boot_o_10 P,tu [],ft 219,⟨(.type "code"),none,(.fields #[(.str "<module>" 182),(.str "<module>" 183),(.str "/claim/cut.py" 184),(.int (1) 0),(.int (0) 0),(.int (0) 0),(.int (0) 0),(.int (0) 0),(.ref 11),(.bool false),(.int (181) 0),(.ref 12),.none,.none,.none,.none,(.int (185) 0),(.int (1) 0),(.str "/claim/cut.py" 186)]),#[]⟩,⟨(.type "frame"),none,.plain,#[(some (.ref 13)),(some (.ref 3)),(some (.ref 3)),none,(some (.str "__main__" 164)),none,(some (.ref 0))]⟩]++(dF "beacons_with" 1 2 3 189 15 p0 181++(dG "is_rising" 2 4 1 195 20 p0 181 [(.str "numbers" 198)]++(dG "contrary" 4 7 1 204 27 p1 181 [(.str "saying" 207)]++(dF "led_to" 5 9 2 211 34 p1 181++(dG "is_road" 6 17 2 217 39 p1 181 [(.str "book" 220),(.str "road" 221),(.str "place" 222)]++(dG "traced" 7 22 2 226 46 p1 181 [(.str "ahead" 229),(.str "last" 230),(.str "road" 231),(.str "saying" 232)]++(dG "ways_from" 8 29 2 236 53 p1 181 [(.str "book" 239),(.str "saying" 240),(.str "ahead" 241),(.str "reached" 242),(.str "place" 243),(.str "led" 244)]++(dG "both_added" 10 41 2 250 60 p2 181 [(.str "rule" 253),(.str "other" 254)]++(dG "added" 11 43 2 258 67 p2 181 [(.str "book" 261),(.str "places" 262),(.str "whole" 263),(.str "place" 264)]++([⟨(.type "dict"),none,(.dict #[en P "eithers" 270 (.str "eithers" 271),en P "sums" 272 (.str "sums" 273),en P "ifs" 274 (.str "nots" 275),en P "nots" 276 (.str "ifs" 277)] 4),#[]⟩]++(dF "exchanged_rule" 14 50 2 283 75 p3 181++(dF "exchanged" 15 56 1 289 80 p3 181++(dF "either_holds" 17 60 2 297 85 p4 181++(dF "sum_holds" 18 62 2 303 90 p4 181++(dF "if_holds" 19 65 3 309 95 p4 181++(dG "rule_holds" 20 69 3 315 100 p4 181 [(.str "kind" 318),(.str "rule" 319),(.str "evening" 320)]++(dF "broken_rules" 21 75 2 324 107 p4 181++(dG "holds" 22 77 2 330 112 p4 181 [(.str "book" 333),(.str "evening" 334)]++(dF "beacons_in" 23 79 2 338 119 p4 181++(dG "is_void" 24 85 2 344 124 p4 181 [(.str "kind" 347),(.str "rule" 348)]++(dF "without" 25 87 2 352 131 p4 181++(dG "is_place" 27 90 2 360 136 p5 181 [(.str "book" 363),(.str "place" 364)]++(dF "body_is_known" 28 92 2 368 143 p5 181++(dG "is_step" 29 94 3 374 148 p5 181 [(.str "book" 377),(.str "known" 378),(.str "place" 379),(.str "rule" 380)]))))))))))))))))))))))))
noncomputable def al1(P:Params):List Obj:=dG "is_derivation" 30 99 3 384 155 p5 181 [(.str "book" 387),(.str "facts" 388),(.str "places" 389),(.str "known" 390),(.str "place" 391)]++(dF "derived" 31 106 3 395 162 p5 181++(dF "is_broken" 33 110 1 403 167 p6 181++(dG "lead_there_and_back" 34 112 3 409 172 p6 181 [(.str "book" 412),(.str "road" 413),(.str "other" 414)]++(dG "clash_good" 35 116 3 418 179 p6 181 [(.str "road" 421),(.str "other" 422),(.str "book" 423)]++(dG "cross_good" 36 118 3 427 186 p6 181 [(.str "road" 430),(.str "book" 431),(.str "storms" 432)]++(dG "late_good" 37 122 5 436 193 p6 181 [(.str "road" 439),(.str "other" 440),(.str "book" 441),(.str "keepers" 442),(.str "storms" 443)]++(dF "odd_good" 38 126 3 447 200 p6 181++(dF "first_ones" 39 133 4 453 205 p6 181++(dG "is_first_part" 40 138 4 459 210 p6 181 [(.str "beacon" 462),(.str "places" 463),(.str "book" 464),(.str "storms" 465)]++(dG "is_last_part" 41 142 4 469 217 p6 181 [(.str "beacon" 472),(.str "places" 473),(.str "book" 474),(.str "facts" 475),(.str "rule" 476),(.str "known" 477)]++(dG "lone_good" 42 148 4 481 224 p6 181 [(.str "paper" 484),(.str "book" 485),(.str "keepers" 486),(.str "storms" 487),(.str "beacon" 488),(.str "facts" 489)]++(dG "either_paper_good" 43 154 4 493 231 p6 181 [(.str "paper" 496),(.str "book" 497),(.str "keepers" 498),(.str "storms" 499)]++(dG "storm_good" 44 162 4 503 238 p6 181 [(.str "paper" 506),(.str "book" 507),(.str "hands" 508),(.str "start" 509),(.str "keepers" 510),(.str "storms" 511)]++(dG "sayings_of" 46 177 1 517 245 p7 181 [(.str "beacons" 520),(.str "sayings" 521),(.str "beacon" 522)]++(dG "lead_to_one_another" 47 182 3 526 252 p7 181 [(.str "ways" 529),(.str "saying" 530),(.str "other" 531)]++(dG "clash_found" 48 184 1 535 259 p7 181 [(.str "ways" 538),(.str "saying" 539),(.str "other" 540)]++(dG "cross_found" 49 190 2 544 266 p7 181 [(.str "ways" 547),(.str "storms" 548),(.str "saying" 549),(.str "other" 550)]++(dG "late_found" 50 196 3 554 273 p7 181 [(.str "ways" 557),(.str "keepers" 558),(.str "storms" 559),(.str "saying" 560),(.str "other" 561)]++(dF "storms_paper" 51 202 4 565 280 p7 181++(dG "free_saying" 52 208 2 571 285 p7 181 [(.str "keeper" 574),(.str "ways" 575),(.str "dark" 576)]++(dG "truths_made" 53 211 3 580 292 p7 181 [(.str "ways" 583),(.str "keepers" 584),(.str "storms" 585),(.str "truths" 586),(.str "saying" 587),(.str "keeper" 588)]++(dG "plan_row" 54 219 4 592 299 p7 181 [(.str "keeper" 595),(.str "ways" 596),(.str "storms" 597),(.str "truths" 598),(.str "saying" 599)]++(dF "either_outcome" 55 224 3 603 306 p7 181++(dF "rows_by_beacon" 57 234 1 611 311 p8 181))))))))))))))))))))))))
noncomputable def al2(P:Params):List Obj:=dG "is_plan_row" 58 236 2 617 316 p8 181 [(.str "row" 620),(.str "storms" 621)]++(dG "come_to" 59 238 2 625 323 p8 181 [(.str "saying" 628),(.str "plan" 629),(.str "row" 630)]++(dF "either_is_kept" 60 243 2 634 330 p8 181++(dF "plan_good" 61 246 4 640 335 p8 181++(dF "is_sum_row" 62 251 2 646 340 p8 181++(dG "replaced" 63 253 2 652 345 p8 181 [(.str "rule" 655),(.str "sums" 656),(.str "whole" 657),(.str "beacon" 658),(.str "row" 659)]++(dF "sums_good" 64 259 4 663 352 p8 181++(dF "are_some_of" 65 264 2 669 357 p8 181++(dF "ahead_of" 66 266 2 675 362 p8 181++(dG "is_row" 67 268 3 681 367 p8 181 [(.str "row" 684),(.str "first" 685),(.str "keepers" 686)]++(dF "holds_where_lit" 68 270 3 690 374 p8 181++(dF "rows_good" 69 272 6 696 379 p8 181++(dG "keeper_good" 70 279 4 702 384 p8 181 [(.str "paper" 705),(.str "book" 706),(.str "hands" 707),(.str "start" 708),(.str "keepers" 709),(.str "storms" 710)]++(dG "good" 72 292 5 716 391 p9 181 [(.str "paper" 719),(.str "book" 720),(.str "hands" 721),(.str "start" 722),(.str "hand" 723)]++(dG "_law_cell" 74 297 2 729 398 p10 181 [(.str "script" 732),(.str "k" 733)]++(dG "_law_mixed" 75 301 2 737 405 p10 181 [(.str "cell" 740),(.str "by" 741)]++(dF "_law_hands" 76 303 2 745 412 p10 181++(dF "_law_own" 77 306 3 751 417 p10 181++(dF "_law_rule" 78 308 4 757 422 p10 181++(dF "_law_plain" 79 328 1 763 427 p10 181++(dF "_law_truths" 80 332 1 769 432 p10 181++(dG "_law_good" 81 338 4 775 437 p10 181 [(.str "found" 778),(.str "book" 779),(.str "hands" 780),(.str "start" 781)]++(dF "_law_drawn" 82 344 2 785 444 p10 181++(dF "_law_rule_more" 83 355 4 791 449 p10 181++(dG "law" 84 364 1 797 454 p10 181 [(.str "script" 800),(.str "book" 801),(.str "hands" 802),(.str "start" 803),(.str "found" 804),(.str "pick" 805),(.str "more" 806),(.str "again" 807)]))))))))))))))))))))))))
noncomputable def al(P:Params):List Obj:=al0 P++al1 P++al2 P
noncomputable def upd(l:List (Nat × Obj))(xs:List Obj):List Obj:=l.foldl (fun xs p=>xs.set p.1 p.2) xs
noncomputable def ev:List Obj->List Obj
 | []=>[]
 | [x]=>[x]
 | x::_::r=>x::ev r
noncomputable def bt:Nat->List Obj->BT
 | 0,_=>.nil
 | _+1,[]=>.nil
 | n+1,x::xs=>.node x (bt n (ev xs)) (bt n (ev xs.tail))
noncomputable abbrev bd:List Stmt:=behindTheImports pg
noncomputable abbrev sl(i n:Nat):List Stmt:=(bd.drop i).take n
noncomputable abbrev env:Env:={ scope:=pg.main.scope,locals:=mainNs,globals:=mainNs,cells:=[],code:=(.ref 13),frame:=some 14 }
noncomputable abbrev cE:Code:=.body bd env
noncomputable abbrev B:List Frame:=[topFrame ⟨0,0,0,0⟩]
noncomputable abbrev ss(n:Nat)(l:Params->List (Nat × Obj))(t:Nat)(w:World)(os:OsState):SharedT:=⟨bt 12 (upd (l w.params) ((al w.params).take n)),n,{},.mk [],boot_drawn,t,os⟩
noncomputable def h0(P:Params):Heap:=⟨⟨upd [(3,boot_o_3 P),(12,fl)] ((al P).take 15)⟩,{}⟩
noncomputable abbrev s0(w:World)(os:OsState):Shared:=⟨h0 w.params,.mk [],boot_drawn,187,os⟩
noncomputable abbrev s1:World->OsState->SharedT:=ss 15 (fun P=>[(3,boot_o_3 P),(12,fl)]) 187
noncomputable abbrev s2:World->OsState->SharedT:=ss 75 (fun P=>[(3,ns P (en P "__name__" 165 (.str "duskbook.blends" 268)) 18 19),(12,ft 27)]) 283
noncomputable abbrev s3:World->OsState->SharedT:=ss 148 (fun P=>[(3,ns P (en P "__name__" 165 (.str "duskbook.deriving" 358)) 31 32),(12,ft 66)]) 374
noncomputable abbrev s4:World->OsState->SharedT:=ss 224 (fun P=>[(3,ns P (en P "__name__" 165 (.str "duskbook.storming" 401)) 43 44),(12,ft 102)]) 481
noncomputable abbrev s5:World->OsState->SharedT:=ss 306 (fun P=>[(3,ns P (en P "__name__" 165 (.str "duskbook.eitherways" 515)) 55 56),(12,ft 138)]) 603
noncomputable abbrev s6:World->OsState->SharedT:=ss 384 (fun P=>[(3,ns P (en P "__name__" 165 (.str "duskbook.keeping" 609)) 69 70),(12,ft 180)]) 702
noncomputable abbrev s7:World->OsState->SharedT:=ss 461 (fun P=>[]) 811
noncomputable def h8(P:Params):Heap:=⟨⟨upd [] ((al P).take 461)⟩,{}⟩
noncomputable abbrev s8(w:World)(os:OsState):Shared:=⟨h8 w.params,.mk [],boot_drawn,811,os⟩
noncomputable abbrev sz(w:World)(os:OsState):Shared:=⟨boot_heap w.params,.mk [],boot_drawn,boot_toks,os⟩
theorem e0:∀w:World,(fun os=>topGo treeTable pg w 11 (some (.ref 6)) 12 (sz w os) (topStub pg))=fun os=>some (s0 w os,⟨denote treeTable cE,cE,⟨0,0,0,0⟩,B⟩):=by
 rw[W.Fast.te15667345088766844465,W.Fast.te14364793385576792824,W.Fast.te11892475500146522536];intro w;kernel_rfl
theorem e1:∀w:World,(fun os=>segRun treeTable pg w 11 (some (.ref 6)) 1 1 (s0 w os) (blockOf bd env cE ⟨0,0,0,0⟩ B))=fun os=>some (.next,(s1 w os).abs,cE,⟨0,0,0,0⟩):=by
 rw[W.Fast.te14374325043358763698,W.Fast.te14364793385576792824];intro w;kernel_rfl
theorem e2:∀w:World,(fun os=>segRunT treeTable pg w 11 (some (.ref 6)) 1 376 (s1 w os) (piecesOf (sl 0 14) env cE ⟨0,0,0,0⟩ B))=fun os=>some (.next,s2 w os,cE,⟨49,0,49,15⟩):=by
 rw[W.Fast.te10110043849684766642,W.Fast.te14364793385576792824];refine byRow2 "special-get-raises" ?_ ?_<;>(intro w;kernel_rfl)
theorem e3:∀w:World,(fun os=>segRunT treeTable pg w 11 (some (.ref 6)) 1 374 (s2 w os) (piecesOf (sl 14 15) env cE ⟨49,0,49,15⟩ B))=fun os=>some (.next,s3 w os,cE,⟨92,0,93,55⟩):=by
 rw[W.Fast.te10110043849684766642,W.Fast.te14364793385576792824];intro w;kernel_rfl
theorem e4:∀w:World,(fun os=>segRunT treeTable pg w 11 (some (.ref 6)) 1 371 (s3 w os) (piecesOf (sl 29 13) env cE ⟨92,0,93,55⟩ B))=fun os=>some (.next,s4 w os,cE,⟨142,0,147,67⟩):=by
 rw[W.Fast.te10110043849684766642,W.Fast.te14364793385576792824];intro w;kernel_rfl
theorem e5:∀w:World,(fun os=>segRunT treeTable pg w 11 (some (.ref 6)) 1 392 (s4 w os) (piecesOf (sl 42 13) env cE ⟨142,0,147,67⟩ B))=fun os=>some (.next,s5 w os,cE,⟨219,0,223,41⟩):=by
 rw[W.Fast.te10110043849684766642,W.Fast.te14364793385576792824];intro w;kernel_rfl
theorem e6:∀w:World,(fun os=>segRunT treeTable pg w 11 (some (.ref 6)) 1 395 (s5 w os) (piecesOf (sl 55 15) env cE ⟨219,0,223,41⟩ B))=fun os=>some (.next,s6 w os,cE,⟨272,0,278,71⟩):=by
 rw[W.Fast.te10110043849684766642,W.Fast.te14364793385576792824];intro w;kernel_rfl
theorem e7:∀w:World,(fun os=>segRunT treeTable pg w 11 (some (.ref 6)) 1 396 (s6 w os) (piecesOf (sl 70 15) env cE ⟨272,0,278,71⟩ B))=fun os=>some (.next,s7 w os,cE,⟨364,0,372,72⟩):=by
 rw[W.Fast.te10110043849684766642,W.Fast.te14364793385576792824];intro w;kernel_rfl
theorem e8:∀w:World,(fun os=>topRun treeTable pg w 11 (some (.ref 6)) 2 (s7 w os).abs ⟨doneF .next,cE,⟨364,0,372,72⟩,B⟩)=fun os=>some (s8 w os):=by
 rw[W.Fast.te14082659384304107361,W.Fast.te14364793385576792824];intro w;kernel_rfl
noncomputable abbrev m8:Nat:=2
noncomputable abbrev t8:List Stmt:=[]
noncomputable abbrev R(w:World)(os:OsState)(m:Nat)(s:Shared)(t:List Stmt)(p:Pos):Prop:=topRun treeTable pg w 11 (some (.ref 6)) m s (restOf t env cE p B)=some (s8 w os)
theorem r8(w:World)(os:OsState):R w os m8 (s7 w os).abs t8 ⟨364,0,372,72⟩:=congrFun (e8 w) os
noncomputable abbrev m7:Nat:=396+m8
noncomputable abbrev t7:List Stmt:=sl 70 15++t8
theorem r7(w:World)(os:OsState):R w os m7 (s6 w os).abs t7 ⟨272,0,278,71⟩:=piece_app (segRun_of (congrFun (e7 w) os)) (r8 w os)
noncomputable abbrev m6:Nat:=395+m7
noncomputable abbrev t6:List Stmt:=sl 55 15++t7
theorem r6(w:World)(os:OsState):R w os m6 (s5 w os).abs t6 ⟨219,0,223,41⟩:=piece_app (segRun_of (congrFun (e6 w) os)) (r7 w os)
noncomputable abbrev m5:Nat:=392+m6
noncomputable abbrev t5:List Stmt:=sl 42 13++t6
theorem r5(w:World)(os:OsState):R w os m5 (s4 w os).abs t5 ⟨142,0,147,67⟩:=piece_app (segRun_of (congrFun (e5 w) os)) (r6 w os)
noncomputable abbrev m4:Nat:=371+m5
noncomputable abbrev t4:List Stmt:=sl 29 13++t5
theorem r4(w:World)(os:OsState):R w os m4 (s3 w os).abs t4 ⟨92,0,93,55⟩:=piece_app (segRun_of (congrFun (e4 w) os)) (r5 w os)
noncomputable abbrev m3:Nat:=374+m4
noncomputable abbrev t3:List Stmt:=sl 14 15++t4
theorem r3(w:World)(os:OsState):R w os m3 (s2 w os).abs t3 ⟨49,0,49,15⟩:=piece_app (segRun_of (congrFun (e3 w) os)) (r4 w os)
noncomputable abbrev m2:Nat:=376+m3
noncomputable abbrev t2:List Stmt:=sl 0 14++t3
theorem r2(w:World)(os:OsState):R w os m2 (s1 w os).abs t2 ⟨0,0,0,0⟩:=piece_app (segRun_of (congrFun (e2 w) os)) (r3 w os)
theorem tb:bd=t2:=by kernel_rfl
theorem run(w:World)(os:OsState):topRun treeTable pg w 11 (some (.ref 6)) (12+(1+m2)) (sz w os) (topStub pg)=some (s8 w os):=by
 have r:=r2 w os
 unfold R at r
 rw[<-congrArg (fun x=>restOf x env cE ⟨0,0,0,0⟩ B) tb]at r
 exact go_top (congrFun (e0 w) os) (piece_block (congrFun (e1 w) os) r)
theorem op:∀w:World,(fencedOpening treeTable pg w 4722).map (fun s=>(s.heap,s.gens,s.drawn,s.toks))=some (boot_heap w.params,Array.mk [],boot_drawn,boot_toks):=
 boot_open (by kernel_rfl) (by decide) (fun s=>by kernel_rfl)
theorem size:∀w:World,((boot_heap w.params).isNs mainGlobals&&(Array.mk []:Array GenState).size==0,(boot_heap w.params).objs.size,(boot_heap w.params).nsMap mainGlobals "__annotations__")=(true,11,(some (.ref 6))):=by
 rw[W.Fast.te8920871248978507458];intro w;kernel_rfl
noncomputable def K(P:Params):Frag:=(nat_lit 3,ns P (en P "__name__" 165 (.str "law_duskbook_k44_eithers_won" 727)) 82 83)::(nat_lit 18,oC "beacons_with" 189 2 3 15 .none .none 17 181 192)::(nat_lit 19,oF "beacons_with" 1 p0 18)::(nat_lit 32,oC "contrary" 204 7 1 27 (.ref 29) (.ref 30) 31 181 208)::(nat_lit 33,oF "contrary" 4 p1 32)::(nat_lit 37,oC "led_to" 211 9 2 34 .none .none 36 181 214)::(nat_lit 38,oF "led_to" 5 p1 37)::(nat_lit 44,oC "is_road" 217 17 2 39 (.ref 41) (.ref 42) 43 181 223)::(nat_lit 45,oF "is_road" 6 p1 44)::(nat_lit 51,oC "traced" 226 22 2 46 (.ref 48) (.ref 49) 50 181 233)::(nat_lit 52,oF "traced" 7 p1 51)::(nat_lit 58,oC "ways_from" 236 29 2 53 (.ref 55) (.ref 56) 57 181 245)::(nat_lit 59,oF "ways_from" 8 p1 58)::(nat_lit 74,⟨(.type "dict"),none,(.dict #[en P "eithers" 270 (.str "eithers" 271),en P "sums" 272 (.str "sums" 273),en P "ifs" 274 (.str "nots" 275),en P "nots" 276 (.str "ifs" 277)] 4),#[]⟩)::(nat_lit 78,oC "exchanged_rule" 283 50 2 75 .none .none 77 181 286)::(nat_lit 79,oF "exchanged_rule" 14 p3 78)::(nat_lit 83,oC "exchanged" 289 56 1 80 .none .none 82 181 292)::(nat_lit 84,oF "exchanged" 15 p3 83)::(nat_lit 88,oC "either_holds" 297 60 2 85 .none .none 87 181 300)::(nat_lit 89,oF "either_holds" 17 p4 88)::(nat_lit 93,oC "sum_holds" 303 62 2 90 .none .none 92 181 306)::(nat_lit 94,oF "sum_holds" 18 p4 93)::(nat_lit 98,oC "if_holds" 309 65 3 95 .none .none 97 181 312)::(nat_lit 99,oF "if_holds" 19 p4 98)::(nat_lit 105,oC "rule_holds" 315 69 3 100 (.ref 102) (.ref 103) 104 181 321)::(nat_lit 106,oF "rule_holds" 20 p4 105)::(nat_lit 122,oC "beacons_in" 338 79 2 119 .none .none 121 181 341)::(nat_lit 123,oF "beacons_in" 23 p4 122)::(nat_lit 129,oC "is_void" 344 85 2 124 (.ref 126) (.ref 127) 128 181 349)::(nat_lit 130,oF "is_void" 24 p4 129)::(nat_lit 170,oC "is_broken" 403 110 1 167 .none .none 169 181 406)::(nat_lit 171,oF "is_broken" 33 p6 170)::(nat_lit 177,oC "lead_there_and_back" 409 112 3 172 (.ref 174) (.ref 175) 176 181 415)::(nat_lit 178,oF "lead_there_and_back" 34 p6 177)::(nat_lit 184,oC "clash_good" 418 116 3 179 (.ref 181) (.ref 182) 183 181 424)::(nat_lit 185,oF "clash_good" 35 p6 184)::(nat_lit 191,oC "cross_good" 427 118 3 186 (.ref 188) (.ref 189) 190 181 433)::(nat_lit 192,oF "cross_good" 36 p6 191)::(nat_lit 198,oC "late_good" 436 122 5 193 (.ref 195) (.ref 196) 197 181 444)::(nat_lit 199,oF "late_good" 37 p6 198)::(nat_lit 236,oC "either_paper_good" 493 154 4 231 (.ref 233) (.ref 234) 235 181 500)::(nat_lit 237,oF "either_paper_good" 43 p6 236)::(nat_lit 243,oC "storm_good" 503 162 4 238 (.ref 240) (.ref 241) 242 181 512)::(nat_lit 244,oF "storm_good" 44 p6 243)::(nat_lit 250,oC "sayings_of" 517 177 1 245 (.ref 247) (.ref 248) 249 181 523)::(nat_lit 251,oF "sayings_of" 46 p7 250)::(nat_lit 257,oC "lead_to_one_another" 526 182 3 252 (.ref 254) (.ref 255) 256 181 532)::(nat_lit 258,oF "lead_to_one_another" 47 p7 257)::(nat_lit 264,oC "clash_found" 535 184 1 259 (.ref 261) (.ref 262) 263 181 541)::(nat_lit 265,oF "clash_found" 48 p7 264)::(nat_lit 271,oC "cross_found" 544 190 2 266 (.ref 268) (.ref 269) 270 181 551)::(nat_lit 272,oF "cross_found" 49 p7 271)::(nat_lit 278,oC "late_found" 554 196 3 273 (.ref 275) (.ref 276) 277 181 562)::(nat_lit 279,oF "late_found" 50 p7 278)::(nat_lit 283,oC "storms_paper" 565 202 4 280 .none .none 282 181 568)::(nat_lit 284,oF "storms_paper" 51 p7 283)::(nat_lit 290,oC "free_saying" 571 208 2 285 (.ref 287) (.ref 288) 289 181 577)::(nat_lit 291,oF "free_saying" 52 p7 290)::(nat_lit 297,oC "truths_made" 580 211 3 292 (.ref 294) (.ref 295) 296 181 589)::(nat_lit 298,oF "truths_made" 53 p7 297)::(nat_lit 304,oC "plan_row" 592 219 4 299 (.ref 301) (.ref 302) 303 181 600)::(nat_lit 305,oF "plan_row" 54 p7 304)::(nat_lit 309,oC "either_outcome" 603 224 3 306 .none .none 308 181 606)::(nat_lit 310,oF "either_outcome" 55 p7 309)::(nat_lit 314,oC "rows_by_beacon" 611 234 1 311 .none .none 313 181 614)::(nat_lit 315,oF "rows_by_beacon" 57 p8 314)::(nat_lit 321,oC "is_plan_row" 617 236 2 316 (.ref 318) (.ref 319) 320 181 622)::(nat_lit 322,oF "is_plan_row" 58 p8 321)::(nat_lit 328,oC "come_to" 625 238 2 323 (.ref 325) (.ref 326) 327 181 631)::(nat_lit 329,oF "come_to" 59 p8 328)::(nat_lit 333,oC "either_is_kept" 634 243 2 330 .none .none 332 181 637)::(nat_lit 334,oF "either_is_kept" 60 p8 333)::(nat_lit 338,oC "plan_good" 640 246 4 335 .none .none 337 181 643)::(nat_lit 339,oF "plan_good" 61 p8 338)::(nat_lit 389,oC "keeper_good" 702 279 4 384 (.ref 386) (.ref 387) 388 181 711)::(nat_lit 390,oF "keeper_good" 70 p8 389)::(nat_lit 396,oC "good" 716 292 5 391 (.ref 393) (.ref 394) 395 181 724)::(nat_lit 397,oF "good" 72 p9 396)::(nat_lit 403,oC "_law_cell" 729 297 2 398 (.ref 400) (.ref 401) 402 181 734)::(nat_lit 404,oF "_law_cell" 74 p10 403)::(nat_lit 410,oC "_law_mixed" 737 301 2 405 (.ref 407) (.ref 408) 409 181 742)::(nat_lit 411,oF "_law_mixed" 75 p10 410)::(nat_lit 415,oC "_law_hands" 745 303 2 412 .none .none 414 181 748)::(nat_lit 416,oF "_law_hands" 76 p10 415)::(nat_lit 425,oC "_law_rule" 757 308 4 422 .none .none 424 181 760)::(nat_lit 426,oF "_law_rule" 78 p10 425)::(nat_lit 430,oC "_law_plain" 763 328 1 427 .none .none 429 181 766)::(nat_lit 431,oF "_law_plain" 79 p10 430)::(nat_lit 435,oC "_law_truths" 769 332 1 432 .none .none 434 181 772)::(nat_lit 436,oF "_law_truths" 80 p10 435)::(nat_lit 442,oC "_law_good" 775 338 4 437 (.ref 439) (.ref 440) 441 181 782)::(nat_lit 443,oF "_law_good" 81 p10 442)::(nat_lit 447,oC "_law_drawn" 785 344 2 444 .none .none 446 181 788)::(nat_lit 448,oF "_law_drawn" 82 p10 447)::(nat_lit 452,oC "_law_rule_more" 791 355 4 449 .none .none 451 181 794)::(nat_lit 453,oF "_law_rule_more" 83 p10 452)::(nat_lit 459,oC "law" 797 364 1 454 (.ref 456) (.ref 457) 458 181 808)::(nat_lit 460,oF "law" 84 p10 459)::[]
noncomputable def hk:Hook:=kHook K (3::18::19::32::33::37::38::44::45::51::52::58::59::74::78::79::83::84::88::89::93::94::98::99::105::106::122::123::129::130::170::171::177::178::184::185::191::192::198::199::236::237::243::244::250::251::257::258::264::265::271::272::278::279::283::284::290::291::297::298::304::305::309::310::314::315::321::322::328::329::333::334::338::339::389::390::396::397::403::404::410::411::415::416::425::426::430::431::435::436::442::443::447::448::452::453::459::460::[]) (fun _=>by kernel_rfl)
noncomputable def Q:Program:={ pg with main:={ pg.main with body:=[Lw.top 84] } }
noncomputable def ls:List Str:=(["beacons_with","is_rising","contrary","led_to","is_road","traced","ways_from","both_added","added","EXCHANGED_KINDS","exchanged_rule","exchanged","either_holds","sum_holds","if_holds","rule_holds","broken_rules","holds","beacons_in","is_void","without","is_place","body_is_known","is_step","is_derivation","derived","is_broken","lead_there_and_back","clash_good","cross_good","late_good","odd_good","first_ones","is_first_part","is_last_part","lone_good","either_paper_good","storm_good","sayings_of","lead_to_one_another","clash_found","cross_found","late_found","storms_paper","free_saying","truths_made","plan_row","either_outcome","rows_by_beacon","is_plan_row"]++["come_to","either_is_kept","plan_good","is_sum_row","replaced","sums_good","are_some_of","ahead_of","is_row","holds_where_lit","rows_good","keeper_good","good","_law_cell","_law_mixed","_law_hands","_law_own","_law_rule","_law_plain","_law_truths","_law_good","_law_drawn","_law_rule_more"]).map Str.ofString
noncomputable abbrev Xt(s:Shared):Bool:=xlAt Q [] s&&recOk (RowW.records (OpenRow.toRowW PySem.Challenge.rw_duskbook_k44_eithers_won.row)) s
theorem Yaa5:∀w:World,(fun os=>((staticsOk (importedModules pg.main.body) (boot_heap w.params) (h8 w.params)&&namesBound pg (h8 w.params)&&gensDone (s8 w os)&&laidKept (boot_heap w.params) (h8 w.params)),openSeen Q ls (importedModules pg.main.body) Xt true (s8 w os),Hook.obs hk (s8 w os)))=fun _=>(true,openGood Q ls,Hook.val hk w):=by
 rw[W.Fast.te5923862056798008813,W.Fast.te4187177175401517315];intro w;kernel_rfl
theorem left:LeftO pg Q ls Xt (Hook.obs hk) (Hook.val hk) 4722:=LeftO.of_pieces (H₁:=h8) (M:=12+(1+m2)) op size run (by decide) Yaa5
end Op
open PySem PySem.W PyProof.Rows
set_option maxRecDepth 100000 in
theorem PySem.Challenge.cw_duskbook_k44_eithers_won_holds : PySem.Challenge.rw_duskbook_k44_eithers_won.Holds := by
 w_on;o_law
 refine holds_open (q:=Op.Q) (loose:=Op.ls) (Xt:=Op.Xt) (XP:=XL Op.Q []) (Yf:=Hook.obs Op.hk) (Ya:=Hook.val Op.hk) (YP:=InK Op.K) (N:=4722) Op.left (Hook.of Op.hk) (Hook.keeps Op.hk) (fun s e=>xl_of s (Bool.and_eq_true_iff.mp e).1) XL.keeps (by rfl) (by rfl) (by rfl) (fun s e=>recFacts_of (Bool.and_eq_true_iff.mp e).2) (by rfl) (by assumption) (by decide +kernel) ⟨rfl,rfl,rfl,rfl,rfl,by decide +kernel⟩ ?hw ?hc
 (case hw=>w_witness2)
 k_fill
 refine Lw.walk Lw.law_true (l:=PySem.Challenge.rw_duskbook_k44_eithers_won) rfl rfl (K:=Op.K) (fun w h Y=>Y) ?F
 case F=>
  intro w mg fa h KX G hmg
  refine' Lw.all_mk KX G hmg ?_ ?_ ?_ ?_ ?_ ?_ ?_ ?_ ?_ ?_ ?_ ?_ ?_ ?_ ?_ ?_ ?_ ?_ ?_ ?_ ?_ ?_ ?_ ?_ ?_ ?_ ?_ ?_ ?_ ?_ ?_ ?_ ?_ ?_ ?_ ?_ ?_ ?_ ?_ ?_ ?_ ?_ ?_ ?_ ?_ ?_ ?_ ?_ ?_ ?_ ?_ ?_ ?_ ?_ ?_ ?_ ?_ ?_ ?_ ?_ ?_ ?_ ?_ ?_ ?_ ?_ ?_ ?_
  all_goals (try (first | (refine' Lw.fk_mk ?a ?l ?c ?k;(case a=>k_is);(case l=>k_is);(case c=>k_is);(case k=>k_is)) | k_is))
