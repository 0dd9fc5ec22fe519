import PyProof.Rows.All
import Wide.All
import OpenK.AllK
import Wide.FinOn
import Lean
import PyProof.EqAt
import PyProof.EqKinds
import PyProof.TupleCall
import KE.KIsAll
import PyProof.ExcAttrAll.ValueError
import PyProof.NeKinds
import PyProof.InstStoreFacts
import KE.KUnpackStar
import KE.KSortTup
import PyProof.EnumFor
import PyProof.EnumStmt
import PyProof.ListRange
import PyProof.TupleKey
import PyProof.SetKind
import PyProof.Rows.SetFrom
import PyProof.SetRoads
import PyProof.CollectWalk
import PyProof.WalksMore
import PyProof.Rows.SortWalk
import PyProof.DictKinds
import PyProof.DictCompW
import PyProof.DictRoadsH
import PySem.Challenge.RW_pickalike_k22_all_pairings
noncomputable section
set_option Elab.async false
set_option linter.all false
set_option maxRecDepth 100000
namespace L2
open PySem PySem.Spec PyProof.Rows
abbrev Key:=Sum Int Str
def Fw:Key->Value->Bool
 | .inl k,v=>Value.isInt k v
 | .inr x,v=>Value.isStrOf x v
def My (w:World):Key->Int
 | .inl k=>hashInt k
 | .inr x=>hashStr w x
theorem dD:∀{k:Key}{v:Value},Fw k v=true->(∃i t,k=Sum.inl i/\v=Value.int i t)\/(∃x t,k=Sum.inr x/\v=Value.str x t)
 | .inl i,v,h=>by
  obtain ⟨t,e⟩:=Value.isInt_shape (k:=i) (v:=v) h
  exact .inl ⟨i,t,rfl,e⟩
 | .inr x,v,h=>by
  obtain ⟨t,e⟩:=Value.isStrOf_shape (x:=x) (v:=v) h
  exact .inr ⟨x,t,rfl,e⟩
theorem Ja (a b:Int):decide ((Sum.inl a:Key)=Sum.inl b)=(a == b):=by
 by_cases e:a=b
 ·subst e;simp
 ·have h:¬(Sum.inl a:Key)=Sum.inl b:=fun q=>e (Sum.inl.inj q)
  rw [decide_eq_false h]
  exact (beq_eq_false_iff_ne.mpr e).symm
theorem Jd (a b:Str):decide ((Sum.inr a:Key)=Sum.inr b)=decide (a=b):=by
 by_cases e:a=b
 ·subst e;simp
 ·have h:¬(Sum.inr a:Key)=Sum.inr b:=fun q=>e (Sum.inr.inj q)
  rw [decide_eq_false h,decide_eq_false e]
theorem Jb (a:Int) (b:Str):decide ((Sum.inl a:Key)=Sum.inr b)=false:=decide_eq_false (fun q=>nomatch q)
theorem Jc (a:Str) (b:Int):decide ((Sum.inr a:Key)=Sum.inl b)=false:=decide_eq_false (fun q=>nomatch q)
def tU (prog:Program) (w:World):PySem.KeyKind prog w Key where
 is:=Fw
 hash:=My w
 inj:=fun v a b ha hb=>by
  rcases dD ha with ⟨i,t,rfl,rfl⟩ | ⟨x,t,rfl,rfl⟩
  ·rcases dD hb with ⟨j,u,rfl,e⟩ | ⟨y,u,rfl,e⟩
   ·injection e with e1 _;rw [e1]
   ·exact nomatch e
  ·rcases dD hb with ⟨j,u,rfl,e⟩ | ⟨y,u,rfl,e⟩
   ·exact nomatch e
   ·injection e with e1 _;rw [e1]
 byValue:=fun k v h=>by
  rcases dD h with ⟨i,t,rfl,rfl⟩ | ⟨x,t,rfl,rfl⟩ <;> rfl
 pyHash:=fun hv h=>by
  rcases dD hv with ⟨i,t,rfl,rfl⟩ | ⟨x,t,rfl,rfl⟩
  ·exact wpAny_pyHash_int h
  ·exact wpAny_pyHash_str h
 eqBool:=fun hu hv h=>by
  rcases dD hu with ⟨i,t,rfl,rfl⟩ | ⟨x,t,rfl,rfl⟩
  ·rcases dD hv with ⟨j,u,rfl,rfl⟩ | ⟨y,u,rfl,rfl⟩
   ·rw [Ja] at h;exact wpAny_eqBool_int h
   ·rw [Jb] at h;exact SeqAt.EqAt.int_str i t y u _ _ _ _ h
  ·rcases dD hv with ⟨j,u,rfl,rfl⟩ | ⟨y,u,rfl,rfl⟩
   ·rw [Jc] at h;exact SeqAt.EqAt.str_int x t j u _ _ _ _ h
   ·rw [Jd] at h;exact wpAny_eqBool_str h
 «strs»:=fun k x t v h=>by
  rcases dD h with ⟨i,u,rfl,e⟩ | ⟨y,u,rfl,e⟩
  ·exact nomatch e
  ·injection e with e1 _
   subst e1
   cases v <;> rfl
inductive V where
 | non | bl (b:Bool) | int (i:Int) | str (x:Str) | byt (b:Array UInt8) | flt (b:UInt64) | ref (a:Addr) | ty (n:String)
 deriving DecidableEq
def RelV:V->Value->Prop
 | .non,u=>u=Value.none
 | .bl b,u=>u=Value.bool b
 | .int i,u=>∃t,u=Value.int i t
 | .str x,u=>∃t,u=Value.str x t
 | .byt b,u=>∃t,u=Value.bytes b t
 | .flt b,u=>∃t,u=Value.float b t
 | .ref a,u=>u=Value.ref a
 | .ty n,u=>u=Value.type n
abbrev Vals:List V->List Value->Prop:=Paired RelV
theorem Vals.length {xs:List V}{us:List Value}(r:Vals xs us):xs.length=us.length:=Paired.length r
theorem Vals.get:∀{xs:List V}{us:List Value}{i:Nat}{x:V},Vals xs us->xs[i]?=some x->∃u,us[i]?=some u/\RelV x u
 | _,_,_,_,.nil,e=>by simp at e
 | _,_,0,_,.cons r _,e=>by simp at e;subst e;exact ⟨_,rfl,r⟩
 | _,_,i + 1,x,.cons _ t,e=>by
  obtain ⟨u,h1,h2⟩:=Vals.get (i:=i) (x:=x) t (by simpa using e)
  exact ⟨u,by simpa using h1,h2⟩
theorem Vals.set {x:V}{u:Value}(r:RelV x u):∀{xs:List V}{us:List Value}(i:Nat),Vals xs us->Vals (xs.set i x) (us.set i u)
 | _,_,_,.nil=>.nil
 | _,_,0,.cons _ t=>.cons r t
 | _,_,i + 1,.cons q t=>.cons q (Vals.set r i t)
theorem Vals.append:∀{xs ys:List V}{us ws:List Value},Vals xs us->Vals ys ws->Vals (xs++ys) (us++ws)
 | _,_,_,_,.nil,s=>s
 | _,_,_,_,.cons r t,s=>.cons r (Vals.append t s)
theorem Vals.take:∀{xs:List V}{us:List Value}(n:Nat),Vals xs us->Vals (xs.take n) (us.take n)
 | _,_,0,_=>.nil
 | _,_,_ + 1,.nil=>.nil
 | _,_,n + 1,.cons r t=>.cons r (Vals.take n t)
theorem Vals.drop:∀{xs:List V}{us:List Value}(n:Nat),Vals xs us->Vals (xs.drop n) (us.drop n)
 | _,_,0,r=>r
 | _,_,_ + 1,.nil=>.nil
 | _,_,n + 1,.cons _ t=>Vals.drop n t
def Ip:Option V->Option Value->Prop
 | some v,some u=>RelV v u
 | none,none=>True
 | _,_=>False
def KV {κ:Type}:List (κ×V)->List (κ×Value)->Prop:=Paired fun (p:κ×V) (q:κ×Value)=>p.1=q.1/\RelV p.2 q.2
def kV:Key->V
 | .inl i=>.int i
 | .inr x=>.str x
inductive HO where
  | lst (xs:List V)
  | tup (xs:List V)
  | dK (kvs:List (Key×V)) | dT (kvs:List (List Key×V))
  | set (S:Int->Bool) (n:Nat)
  | ins (C dx:Addr) (fs:List (Str×V))
  | own (x:Addr)
  | xd (fs:List (Str×V))
  | met (f x:Addr)
  | rng (lo hi:Int)
  | frz (o:Obj) (u:HO)
  | tbl (ps:Array Value)
  | ext (φ:Heap->Prop)
abbrev Hp:=Addr->Option HO
def upd (H:Hp) (a:Addr) (o:HO):Hp:=fun b=>if b=a then some o else H b
theorem bO {H:Hp}{a:Addr}{o:HO}:upd H a o a=some o:=by unfold upd;rw [if_pos rfl]
theorem bg {H:Hp}{a b:Addr}{o:HO}(h:b≠a):upd H a o b=H b:=by unfold upd;rw [if_neg h]
theorem dW {H:Hp}{a b:Addr}{o:HO}(h:H a=some o) (h':H b=none):a≠b:=by
 intro e;subst e;rw [h] at h';cases h'
section
variable (P:Program) (w:World)
def b9 (H:Hp) (h:Heap) (a:Addr):HO->Prop
 | .lst xs=>xs.length<=sizeLine/\∃(its:List Value) (n:Nat),Vals xs its/\h.get? a=some {cls:=.type "list",data:=.seq its.toArray n}
 | .tup xs=>xs.length<=sizeLine/\∃its:List Value,Vals xs its/\IsTup h a its.toArray
 | .dK kvs=>kvs.length<=sizeLine/\(a == sysModules)=false/\∃vs,KV kvs vs/\h.DictOf (tU P w) a vs
 | .dT kvs=>kvs.length<=sizeLine/\(a == sysModules)=false/\∃xs:List (List Key×Addr×Value),
   Paired (fun (p:List Key×V) (q:List Key×Addr×Value)=>p.1=q.1/\H q.2.1=some (.tup (p.1.map kV))/\RelV p.2 q.2.2) kvs xs/\
   ∃o es ep,h.get? a=some o/\o.ExactDict/\o.data=.dict es ep/\es.toList=xs.map (entryOfKey (tupleKind (tU P w)))/\(xs.map (·.1)).Nodup
 | .set S n=>h.SetOf (intKind P w) a S n
 | .ins C dx fs=>H dx=some (.own a)/\fs.length<=1000/\dx≠a/\h.get? a=some (W.instObj C dx)/\
   ∃mA,h.Ns1 dx mA/\(∀f,Ip (fs.lookup f) (mA f))/\PySem.Within mA (fs.map (·.1))
 | .own _=>∃o,h.get? a=some o
 | .xd fs=>∃mA,h.Ns1 a mA/\∀f,Ip (fs.lookup f) (mA f)
 | .rng lo hi=>∃t u v,h.get? a=some {cls:=.type "range",data:=.fields #[.int lo t,.int hi u,.int 1 v]}
 | .frz o u=>h.get? a=some o/\b9 H h a u
 | .tbl ps=>h.get? a=some {cls:=.none,data:=.fields ps}
 | .met f x=>h.get? a=some (W.methodObj (.ref f) (.ref x))
 | .ext φ=>φ h/\(∃o,h.get? a=some o)/\∀h1 h2:Heap,φ h1->(∀o,h1.get? a=some o->h2.get? a=some o)->φ h2
def fV (H:Hp) (h:Heap):Prop:=∀a o,H a=some o->b9 P w H h a o
end
section
variable {P:Program}{w:World}{H H':Hp}{h h':Heap}{a:Addr}{o:HO}
theorem b9.lt (x:b9 P w H h a o):a < h.objs.size:=by
 cases o with
 | lst xs=>obtain ⟨_,_,_,_,e⟩:=x;exact Heap.lt_size e
 | tup xs=>obtain ⟨_,_,_,p⟩:=x;exact p.lt
 | dK kvs=>obtain ⟨_,_,_,_,o,_,_,e,_⟩:=x;exact Heap.lt_size e
 | dT kvs=>obtain ⟨_,_,_,_,o,_,_,e,_⟩:=x;exact Heap.lt_size e
 | set S n=>obtain ⟨o,_,_,_,e,_⟩:=x;exact Heap.lt_size e
 | ins C dx fs=>obtain ⟨_,_,_,e,_⟩:=x;exact Heap.lt_size e
 | own y=>obtain ⟨_,e⟩:=x;exact Heap.lt_size e
 | xd fs=>obtain ⟨_,⟨_,_,_,e,_⟩,_⟩:=x;exact Heap.lt_size e
 | rng lo hi=>obtain ⟨_,_,_,e⟩:=x;exact Heap.lt_size e
 | frz ob u=>obtain ⟨e,_⟩:=x;exact Heap.lt_size e
 | tbl ps=>exact Heap.lt_size (show h.get? a=some _ from x)
 | met f y=>exact Heap.lt_size (show h.get? a=some _ from x)
 | ext φ=>obtain ⟨_,⟨_,e⟩,_⟩:=x;exact Heap.lt_size e
theorem Paired.mapP {α β:Type}{F G:α->β->Prop}:∀{l₁:List α}{l₂:List β},Paired F l₁ l₂->(∀a b,F a b->G a b)->Paired G l₁ l₂
 | _,_,.nil,_=>.nil
 | _,_,.cons r t,f=>.cons (f _ _ r) (Paired.mapP t f)
theorem b9.stay (x:b9 P w H h a o) (k:∀b u,(b=a\/H b=some (.own a))->h.get? b=some u->h'.get? b=some u)
  (ho:∀b,H b=some (.own a)->H' b=some (.own a)) (ht:∀b xs,H b=some (.tup xs)->H' b=some (.tup xs)):b9 P w H' h' a o:=by
 induction o with
 | lst xs=>obtain ⟨z,its,n,r,e⟩:=x;exact ⟨z,its,n,r,k _ _ (.inl rfl) e⟩
 | tup xs=>obtain ⟨z,its,r,ob,e,c⟩:=x;exact ⟨z,its,r,ob,k _ _ (.inl rfl) e,c⟩
 | dK kvs=>obtain ⟨z,y,vs,r,ob,es,ep,e,c⟩:=x;exact ⟨z,y,vs,r,ob,es,ep,k _ _ (.inl rfl) e,c⟩
 | dT kvs=>
  obtain ⟨z,y,xs,r,ob,es,ep,e,c⟩:=x
  exact ⟨z,y,xs,Paired.mapP r fun p q z=>⟨z.1,ht _ _ z.2.1,z.2.2⟩,ob,es,ep,k _ _ (.inl rfl) e,c⟩
 | set S n=>obtain ⟨ob,es,ep,t,e,c⟩:=x;exact ⟨ob,es,ep,t,k _ _ (.inl rfl) e,c⟩
 | ins C dx fs=>
  obtain ⟨d,z,ne,e,mA,⟨od,es,ep,e2,c⟩,r⟩:=x
  exact ⟨ho _ d,z,ne,k _ _ (.inl rfl) e,mA,⟨od,es,ep,k _ _ (.inr d) e2,c⟩,r⟩
 | own y=>obtain ⟨ob,e⟩:=x;exact ⟨ob,k _ _ (.inl rfl) e⟩
 | xd fs=>obtain ⟨mA,⟨od,es,ep,e,c⟩,r⟩:=x;exact ⟨mA,⟨od,es,ep,k _ _ (.inl rfl) e,c⟩,r⟩
 | rng lo hi=>obtain ⟨t,u,v,e⟩:=x;exact ⟨t,u,v,k _ _ (.inl rfl) e⟩
 | frz ob u ih=>obtain ⟨e,q⟩:=x;exact ⟨k _ _ (.inl rfl) e,ih q⟩
 | tbl ps=>
  have e:h.get? a=some {cls:=.none,data:=.fields ps}:=x
  show h'.get? a=some {cls:=.none,data:=.fields ps}
  exact k a _ (.inl rfl) e
 | met f y=>
  have e:h.get? a=some (W.methodObj (.ref f) (.ref y)):=x
  show h'.get? a=some (W.methodObj (.ref f) (.ref y))
  exact k a _ (.inl rfl) e
 | ext φ=>obtain ⟨p,⟨o,e⟩,st⟩:=x;exact ⟨st _ _ p fun o q=>k _ _ (.inl rfl) q,⟨o,k _ _ (.inl rfl) e⟩,st⟩
theorem fV.lt (x:fV P w H h) (e:H a=some o):a < h.objs.size:=(x a o e).lt
theorem fV.fresh (x:fV P w H h) (e:h.objs.size<=a):H a=none:=by
 cases q:H a with
 | none=>rfl
 | some u=>exact absurd (Nat.lt_of_lt_of_le (x.lt q) e) (Nat.lt_irrefl _)
theorem fV.kept (x:fV P w H h) (k:∀b u,h.get? b=some u->h'.get? b=some u):fV P w H h':=fun a o e=>
 (x a o e).stay (fun b u _ q=>k b u q) (fun _ q=>q) fun _ _ q=>q
theorem fV.laid (x:fV P w H h) (k:∀b u,h.get? b=some u->h'.get? b=some u) (hp:h.objs.size<=a) (new:b9 P w (upd H a o) h' a o):fV P w (upd H a o) h':=fun b u e=>by
 have hn:=x.fresh hp
 by_cases hb:b=a
 ·subst hb;rw [bO] at e;cases e;exact new
 ·rw [bg hb] at e
  exact (x b u e).stay (fun c v _ q=>k c v q) (fun c q=>by rw [bg (dW q hn)];exact q) fun c xs q=>by rw [bg (dW q hn)];exact q
end
def Rd (H:Hp) (a:Addr) (u:HO):Prop:=H a=some u\/∃o,H a=some (.frz o u)
theorem Rd.ok {P:Program}{w:World}{H:Hp}{h:Heap}{a:Addr}{u:HO}(r:Rd H a u) (x:fV P w H h):b9 P w H h a u:=by
 rcases r with r | ⟨o,r⟩
 ·exact x a u r
 ·obtain ⟨_,q⟩:=x a _ r
  exact q
def Fg:Option HO->Prop
 | some (.lst _)=>True
 | some (.dK _)=>True
 | some (.dT _)=>True
 | some (.set _ _)=>True
 | some (.ins _ _ _)=>True
 | some (.ext _)=>True
 | _=>False
section
variable {P:Program}{w:World}{H:Hp}{h h':Heap}{x e:Addr}{o':HO}
theorem fV.write (ok:fV P w H h) (mu:Fg (H x)) (he:e=x\/H e=some (.own x)) (k:∀b u,b≠e->h.get? b=some u->h'.get? b=some u) (NU:∃u,h'.get? e=some u)
  (new:b9 P w (upd H x o') h' x o'):fV P w (upd H x o') h':=fun b u q=>by
 have nown:∀c y,H c=some (.own y)->c≠x:=fun c y r z=>by subst z;rw [r] at mu;exact mu
 have ntup:∀c xs,H c=some (.tup xs)->c≠x:=fun c xs r z=>by subst z;rw [r] at mu;exact mu
 by_cases hb:b=x
 ·subst hb;rw [bO] at q;cases q;exact new
 ·rw [bg hb] at q
  by_cases NP:b=e
  ·have q':H b=some (.own x):=by
    rcases he with z | z
    ·exact absurd (NP.trans z) hb
    ·rw [NP];exact z
   rw [q] at q';cases q'
   obtain ⟨v,hv⟩:=NU
   exact ⟨v,by rw [NP];exact hv⟩
  ·refine (ok b u q).stay (fun c v hc r=>k c v ?_ r) (fun c r=>by rw [bg (nown c b r)];exact r) fun c xs r=>by rw [bg (ntup c xs r)];exact r
   rcases hc with rfl | hc
   ·exact NP
   ·rintro rfl
    rcases he with z | z
    ·exact nown c b hc z
    ·rw [hc] at z;cases z;exact hb rfl
end
structure Un (fs ex:List Addr) (H H':Hp) (h h':Heap):Prop where
 keep:∀b o,h.get? b=some o->H b=none->b∉fs->b∉ex->h'.get? b=some o
 slot:∀b o,h.get? b=some o->H b=none->b∈fs->b∉ex->∃sl,h'.get? b=some {o with slots:=sl}
 free:∀b o,h.get? b=some o->H b=none->b∉ex->H' b=none
 there:∀b o,h.get? b=some o->b∉ex->∃o',h'.get? b=some o'
 tups:∀b xs,H b=some (.tup xs)->H' b=some (.tup xs)
 frzs:∀b o u,H b=some (.frz o u)->H' b=some (.frz o u)
 tbls:∀b ps,H b=some (.tbl ps)->∃more,H' b=some (.tbl (ps++more))
section
variable {fs fs' ex ex':List Addr}{H H1 H2:Hp}{h h1 h2 h':Heap}{a x e:Addr}{o:HO}
theorem Un.any (u:Un fs ex H H1 h h1){b:Addr}{ob:Obj}(q:h.get? b=some ob) (n:H b=none) (hx:b∉ex):∃sl,h1.get? b=some {ob with slots:=sl}:=by
 by_cases hb:b∈fs
 ·exact u.slot b ob q n hb hx
 ·exact ⟨ob.slots,u.keep b ob q n hb hx⟩
theorem Un.kept (k:∀b u,h.get? b=some u->h'.get? b=some u):Un fs ex H H h h':=
 ⟨fun b ob q _ _ _=>k b ob q,fun b ob q _ _ _=>⟨ob.slots,k b ob q⟩,fun _ _ _ n _=>n,fun b ob q _=>⟨ob,k b ob q⟩,fun _ _ q=>q,fun _ _ _ q=>q,fun _ ps q=>⟨#[],by rw [q];simp⟩⟩
theorem Un.refl:Un fs ex H H h h:=Un.kept fun _ _ q=>q
theorem Un.laid (k:∀b u,h.get? b=some u->h'.get? b=some u) (hp:h.objs.size<=a) (hn:H a=none):Un fs ex H (upd H a o) h h' where
 keep:=fun b u q _ _ _=>k b u q
 slot:=fun b u q _ _ _=>⟨u.slots,k b u q⟩
 free:=fun b u q n _=>by rw [bg (Nat.ne_of_lt (Nat.lt_of_lt_of_le (Heap.lt_size q) hp))];exact n
 there:=fun b u q _=>⟨u,k b u q⟩
 tups:=fun b xs q=>by rw [bg (dW q hn)];exact q
 frzs:=fun b u xs q=>by rw [bg (dW q hn)];exact q
 tbls:=fun b ps q=>⟨#[],by rw [bg (dW q hn),q];simp⟩
theorem Un.write (mu:Fg (H x)) (he:e=x\/H e=some (.own x)) (k:∀b u,b≠e->h.get? b=some u->h'.get? b=some u) (NU:∃u,h'.get? e=some u):Un fs ex H (upd H x o) h h':=by
 have hx:∀b,H b=none->b≠x:=fun b n z=>by subst z;rw [n] at mu;exact mu
 have hb:∀b,H b=none->b≠e:=fun b n z=>by
  subst z
  rcases he with r | r
  ·exact hx b n r
  ·rw [n] at r;cases r
 have hm:∀b u,H b=some u->¬Fg (some u)->b≠x:=fun b u q nm z=>by subst z;rw [q] at mu;exact nm mu
 refine ⟨fun b u q n _ _=>k b u (hb b n) q,fun b u q n _ _=>⟨u.slots,k b u (hb b n) q⟩,fun b u q n _=>by rw [bg (hx b n)];exact n,fun b u q _=>?_,
  fun b xs q=>by rw [bg (hm b _ q fun z=>z)];exact q,fun b u xs q=>by rw [bg (hm b _ q fun z=>z)];exact q,fun b ps q=>⟨#[],by rw [bg (hm b _ q fun z=>z),q];simp⟩⟩
 by_cases NP:b=e
 ·subst NP;exact NU
 ·exact ⟨u,k b u NP q⟩
end
def FT (h:Heap) (H:Hp):List Addr:=(List.range h.objs.size).filter fun a=>(H a).isSome
def mZ (h:Heap) (H:Hp):Heap:=W.hideAll h (FT h H)
theorem B5 (h:Heap) (H:Hp):(mZ h H).objs.size=h.objs.size:=W.hideAll_size _ _
theorem DS {h:Heap}{H:Hp}{b:Addr}{o:Obj}(e:h.get? b=some o) (n:H b=none):(mZ h H).get? b=some o:=
 W.hideAll_get _ e fun hm=>by
  have q:(H b).isSome=true:=(List.mem_filter.mp hm).2
  rw [n] at q;simp at q
theorem GL {h:Heap}{H:Hp}{b:Addr}{o:Obj}(e:(mZ h H).get? b=some o):h.get? b=some o/\H b=none:=by
 have e':h.get? b=some o:=W.of_hideAll (FT h H) e
 refine ⟨e',?_⟩
 cases q:H b with
 | none=>rfl
 | some x=>
  have hm:b∈FT h H:=List.mem_filter.mpr ⟨List.mem_range.mpr (Heap.lt_size e'),by simp [q]⟩
  have z:(mZ h H).get? b=none:=W.hideAll_none (FT h H) hm
  rw [z] at e;cases e
def Gb (g h:Heap) (L:Addr):List (Addr×Obj):=(List.range h.objs.size).filterMap fun a=>if a=L\/(g.get? a).isSome=true then none else (h.get? a).map fun o=>(a,o)
def rest (g h:Heap) (L d:Addr):List (Addr×Obj):=(Gb g h L).filter fun p=>decide (p.1≠d)
structure Mod (K:W.Frag) (mg:Str->Option Value) (base:Heap):Prop where
 kin:K.In base
 glob:base.Ns mainGlobals mg
 blt:∃mb,base.Ns builtinsNs mb/\∀x:Str,x≠"__name__"->mb x=bootBuiltins x
 nolimit:base.NoLimit
structure Cx where
 prog:Program
 w:World
 K:W.Frag
 mg:Str->Option Value
 base:Heap
 A:Around
 N:List Str
 s₀:Shared
 H₀:Hp
 env:Env
 outer:List Env
 stack:List Env
 ex:List Addr
 fn:Str->Bool
 calm:Bool
 pn:List (Addr×Obj)
 xe:Value->Shared->Prop
def frs (l:List Env):List Addr:=l.filterMap (·.frame)
abbrev Cx.fs (X:Cx):List Addr:=frs X.outer
def jL (sc:Scope) (x:Str):Prop:=sc.names.lookup x=some .local\/sc.names.lookup x=some .cell\/sc.names.lookup x=some .free
def Loc (sc:Scope) (x:Str):Prop:=sc.names.lookup x=some .local\/sc.names.lookup x=some .cell
def Look (env:Env) (h:Heap) (m:Str->Option Value) (x:Str) (u:Value):Prop:=
 (env.kindOf x=some .local/\m x=some u)\/((env.kindOf x=some .cell\/env.kindOf x=some .free)/\∃c,env.cells.lookup x=some c/\h.IsCell c (some u))
structure Cx.Ok (X:Cx):Prop where
 mod:Mod X.K X.mg X.base
 kind:X.env.scope.kind=.function
 glob:X.env.globals=mainGlobals
 blt:X.env.builtins=builtinsNs
 above:X.s₀.heap.objs.size<=X.env.locals
 inj:∀x y c,X.env.cells.lookup x=some c->X.env.cells.lookup y=some c->x=y
 has:∀x,(X.env.kindOf x=some .cell\/X.env.kindOf x=some .free)->∃c,X.env.cells.lookup x=some c
 cab:∀x c,X.fn x=true->X.env.cells.lookup x=some c->X.s₀.heap.objs.size<=c
 hd:X.calm=true->X.A.handled=none
 frames:X.A.frames=some X.stack
 stk:X.stack=X.outer\/(X.stack=X.env::X.outer/\X.env.frame=some X.env.locals)
 exf:∀b∈X.ex,b≠X.env.locals/\∀x c,X.env.cells.lookup x=some c->c≠b
 bs:∀b o,X.base.get? b=some o->X.s₀.heap.get? b=some o/\X.H₀ b=none
 bsz:X.base.objs.size<=X.s₀.heap.objs.size
 noex:∀b o,X.base.get? b=some o->b∉X.ex
 exfs:∀b∈X.ex,b∉X.fs
 funs:X.s₀.heap.FunFrames X.base X.outer
 frf:∀b∈X.fs,X.H₀ b=none
structure Inv (X:Cx) (pins:List (Addr×Obj)) (σ:List (Option V)) (H:Hp) (s:Shared):Prop where
 ok:X.Ok
 os:s.os=X.s₀.os
 bare:AllBare s.gens
 base:Un X.fs X.ex X.H₀ H X.s₀.heap s.heap
 loc:∃m,s.heap.Ns X.env.locals m/\∀(i:Nat) (x:Str) (v:V),X.N[i]?=some x->σ[i]?=some (some v)->jL X.env.scope x->∃u,RelV v u/\Look X.env s.heap m x u
 cell:∀x c,X.env.cells.lookup x=some c->∃v,s.heap.IsCell c v
 free:H X.env.locals=none
 freeC:∀x c,X.env.cells.lookup x=some c->H c=none
 pin:∀p∈X.pn++pins,s.heap.get? p.1=some p.2/\H p.1=none/\p.1≠X.env.locals/\p.1∉X.fs/\∀v,p.2.data≠.cell v
 hok:fV X.prog X.w H s.heap
 len:σ.length=X.N.length
section
variable {X:Cx}{pins:List (Addr×Obj)}{σ:List (Option V)}{H H':Hp}{s:Shared}{h':Heap}
theorem Cx.Ok.nofr (ok:X.Ok){b:Addr}{o:Obj}(e:X.base.get? b=some o):b∉X.fs:=fun hb=>by
 have:=(ok.funs.mem hb).1
 rw [e] at this;cases this
theorem Inv.bs (I:Inv X pins σ H s):∀b o,X.base.get? b=some o->s.heap.get? b=some o/\H b=none:=fun b o e=>
 ⟨I.base.keep b o (I.ok.bs b o e).1 (I.ok.bs b o e).2 (I.ok.nofr e) (I.ok.noex b o e),I.base.free b o (I.ok.bs b o e).1 (I.ok.bs b o e).2 (I.ok.noex b o e)⟩
theorem Inv.bk (I:Inv X pins σ H s):∀b o,X.base.get? b=some o->s.heap.get? b=some o:=fun b o e=>(I.bs b o e).1
theorem Inv.mod (I:Inv X pins σ H s):Mod X.K X.mg X.base:=I.ok.mod
theorem Inv.kIn (I:Inv X pins σ H s):X.K.In s.heap:=I.ok.mod.kin.keeps I.bk
theorem Inv.lt (I:Inv X pins σ H s):X.env.locals < s.heap.objs.size:=let ⟨_,hn,_⟩:=I.loc;hn.lt
theorem Inv.sz (I:Inv X pins σ H s):X.s₀.heap.objs.size<=s.heap.objs.size:=Nat.le_trans I.ok.above (Nat.le_of_lt I.lt)
theorem Inv.nofs (I:Inv X pins σ H s){a:Addr}(h:s.heap.objs.size<=a):a∉X.fs:=fun hb=>by
 obtain ⟨_,o,ho,_⟩:=I.ok.funs.mem hb
 exact absurd (Nat.lt_of_lt_of_le (Heap.lt_size ho) (Nat.le_trans I.sz h)) (Nat.lt_irrefl _)
theorem Inv.cne (I:Inv X pins σ H s):∀x c,X.env.cells.lookup x=some c->c≠X.env.locals:=fun x c e z=>by
 obtain ⟨v,o,ho,hd⟩:=I.cell x c e
 obtain ⟨m,⟨o',es,ep,ho',hd',_⟩,_⟩:=I.loc
 rw [z,ho'] at ho;cases ho;rw [hd'] at hd;cases hd
theorem Inv.funs (I:Inv X pins σ H s):s.heap.FunFrames X.base X.outer:=by
 have all:∀(l:List Env),(∀b∈frs l,b∈X.fs)->X.s₀.heap.FunFrames X.base l->s.heap.FunFrames X.base l:=by
  intro l
  induction l with
  | nil=>intro _ _;trivial
  | cons env r ih=>
   intro hs hl
   obtain ⟨hk,⟨L,o,hf,hn,ho,hd⟩,hr⟩:=hl
   have hL:L∈X.fs:=hs L (by unfold frs;rw [List.filterMap_cons,hf];exact List.mem_cons_self)
   obtain ⟨sl,e⟩:=I.base.slot L o ho (I.ok.frf L hL) hL fun z=>I.ok.exfs L z hL
   exact ⟨hk,⟨L,_,hf,hn,e,hd⟩,ih (fun b hb=>hs b (by unfold frs;rw [List.filterMap_cons,hf];exact List.mem_cons_of_mem _ hb)) hr⟩
 exact all X.outer (fun _ hb=>hb) I.ok.funs
theorem Inv.stack (I:Inv X pins σ H s):s.heap.FunFrames X.base X.stack:=by
 rcases I.ok.stk with e | ⟨e,hf⟩
 ·rw [e];exact I.funs
 ·rw [e]
  obtain ⟨m,hn,_⟩:=I.loc
  refine .cons (by rw [I.ok.kind];decide) hf hn ?_ I.funs
  exact Heap.get?_none_of_le (Nat.le_trans I.ok.bsz I.ok.above)
theorem Inv.stkSub (I:Inv X pins σ H s):∀b∈frs X.stack,b∈X.env.locals::X.fs:=fun b hb=>by
 rcases I.ok.stk with e | ⟨e,hf⟩
 ·rw [e] at hb;exact List.mem_cons_of_mem _ hb
 ·rw [e] at hb
  unfold frs at hb
  rw [List.filterMap_cons,hf] at hb
  exact hb
theorem Inv.stkFree (I:Inv X pins σ H s):∀b∈frs X.stack,H b=none:=fun b hb=>by
 rcases List.mem_cons.mp (I.stkSub b hb) with e | hb
 ·rw [e];exact I.free
 ·obtain ⟨_,o,ho,_⟩:=I.ok.funs.mem hb
  exact I.base.free b o ho (I.ok.frf b hb) fun z=>I.ok.exfs b z hb
theorem Inv.step {g':Array GenState}{t':Nat}{d':Drawn}{ch:List Addr}(I:Inv X pins σ H s)
  (hch:∀b∈ch,(b∈X.ex\/X.s₀.heap.objs.size<=b)/\b≠X.env.locals/\(∀x c,X.env.cells.lookup x=some c->c≠b)/\∀p∈X.pn++pins,p.1≠b)
  (keep:∀b o,b≠X.env.locals->b∉X.fs->b∉ch->s.heap.get? b=some o->H b=none->h'.get? b=some o)
  (slot:∀b o,b≠X.env.locals->b∈X.fs->b∉ch->s.heap.get? b=some o->H b=none->∃sl,h'.get? b=some {o with slots:=sl}) (free:∀b o,b∉ch->s.heap.get? b=some o->H b=none->H' b=none)
  (there:∀b o,b∉ch->s.heap.get? b=some o->∃o',h'.get? b=some o')
  (tups:∀b xs,H b=some (.tup xs)->H' b=some (.tup xs)) (frzs:∀b o u,H b=some (.frz o u)->H' b=some (.frz o u)) (tbls:∀b ps,H b=some (.tbl ps)->∃more,H' b=some (.tbl (ps++more)))
  (ns:∀m,s.heap.Ns X.env.locals m->h'.Ns X.env.locals m) (hok:fV X.prog X.w H' h') (hg:AllBare g'):
  Inv X pins σ H' {s with heap:=h',gens:=g',drawn:=d',toks:=t'}:=by
 have neL:∀b o,X.s₀.heap.get? b=some o->b≠X.env.locals:=fun b o e=>Nat.ne_of_lt (Nat.lt_of_lt_of_le (Heap.lt_size e) I.ok.above)
 have neC:∀b o,X.s₀.heap.get? b=some o->b∉X.ex->b∉ch:=fun b o e hx hb=>by
  rcases (hch b hb).1 with z | z
  ·exact hx z
  ·exact absurd (Nat.lt_of_lt_of_le (Heap.lt_size e) z) (Nat.lt_irrefl _)
 have cellK:∀x c,X.env.cells.lookup x=some c->∀v,s.heap.IsCell c v->h'.IsCell c v:=fun x c e v ⟨o,ho,hd⟩=>by
  have nch:c∉ch:=fun z=>(hch c z).2.2.1 x c e rfl
  by_cases hc:c∈X.fs
  ·obtain ⟨sl,q⟩:=slot c o (I.cne x c e) hc nch ho (I.freeC x c e)
   exact ⟨_,q,hd⟩
  ·exact ⟨o,keep c o (I.cne x c e) hc nch ho (I.freeC x c e),hd⟩
 refine ⟨I.ok,I.os,hg,⟨fun b o e n hb hx=>?_,fun b o e n hb hx=>?_,fun b o e n hx=>?_,fun b o e hx=>?_,fun b xs e=>tups b xs (I.base.tups b xs e),fun b o xs e=>frzs b o xs (I.base.frzs b o xs e),fun b ps e=>?_⟩,?_,fun x c e=>?_,?_,fun x c e=>?_,fun p hp=>?_,hok,I.len⟩
 ·exact keep b o (neL b o e) hb (neC b o e hx) (I.base.keep b o e n hb hx) (I.base.free b o e n hx)
 ·obtain ⟨sl,e1⟩:=I.base.slot b o e n hb hx
  obtain ⟨sl',e2⟩:=slot b _ (neL b o e) hb (neC b o e hx) e1 (I.base.free b o e n hx)
  exact ⟨sl',e2⟩
 ·obtain ⟨o',e1⟩:=I.base.there b o e hx
  exact free b o' (neC b o e hx) e1 (I.base.free b o e n hx)
 ·obtain ⟨o',e1⟩:=I.base.there b o e hx
  exact there b o' (neC b o e hx) e1
 ·obtain ⟨m1,e1⟩:=I.base.tbls b ps e
  obtain ⟨m2,e2⟩:=tbls b _ e1
  exact ⟨m1++m2,by rw [e2,Array.append_assoc]⟩
 ·obtain ⟨m,hn,hl⟩:=I.loc
  refine ⟨m,ns m hn,fun i x v e1 e2 e3=>?_⟩
  obtain ⟨u,r,l⟩:=hl i x v e1 e2 e3
  refine ⟨u,r,?_⟩
  rcases l with l | ⟨k,c,e,z⟩
  ·exact .inl l
  ·exact .inr ⟨k,c,e,cellK x c e _ z⟩
 ·obtain ⟨v,z⟩:=I.cell x c e
  exact ⟨v,cellK x c e v z⟩
 ·obtain ⟨m,⟨o,_,_,ho,_⟩,_⟩:=I.loc
  exact free _ o (fun z=>(hch _ z).2.1 rfl) ho I.free
 ·obtain ⟨v,o,ho,hd⟩:=I.cell x c e
  exact free c o (fun z=>(hch c z).2.2.1 x c e rfl) ho (I.freeC x c e)
 ·obtain ⟨e,n,ne,nf,d⟩:=I.pin p hp
  have nch:p.1∉ch:=fun z=>(hch p.1 z).2.2.2 p hp rfl
  exact ⟨keep p.1 p.2 ne nf nch e n,free p.1 p.2 nch e n,ne,nf,d⟩
theorem Inv.un {t':Nat}(I:Inv X pins σ H s) (u:Un X.fs [] H H' s.heap h') (hok:fV X.prog X.w H' h'):Inv X pins σ H' {s with heap:=h',toks:=t'}:=by
 obtain ⟨m,⟨o,es,ep,ho,r⟩,_⟩:=id I.loc
 obtain ⟨sl,hL⟩:=u.any ho I.free (by simp)
 exact I.step (g':=s.gens) (d':=s.drawn) (ch:=[]) (fun _ z=>nomatch z) (fun b o _ hb _ e n=>u.keep b o e n hb (by simp)) (fun b o _ hb _ e n=>u.slot b o e n hb (by simp)) (fun b o _ e n=>u.free b o e n (by simp)) (fun b o _ e=>u.there b o e (by simp)) u.tups u.frzs u.tbls (fun m' hm=>by
  obtain ⟨o',es',ep',ho',r'⟩:=hm
  rw [ho] at ho';cases ho'
  exact ⟨_,es',ep',hL,r'⟩) hok I.bare
theorem Inv.call {g':Array GenState}{t':Nat}{d':Drawn}{ch:List Addr}(I:Inv X pins σ H s) (u:Un (frs X.stack) ch H H' s.heap h') (hok:fV X.prog X.w H' h') (hg:AllBare g')
  (hch:∀b∈ch,(b∈X.ex\/X.s₀.heap.objs.size<=b)/\b≠X.env.locals/\(∀x c,X.env.cells.lookup x=some c->c≠b)/\∀p∈X.pn++pins,p.1≠b):
  Inv X pins σ H' {s with heap:=h',gens:=g',drawn:=d',toks:=t'}:=by
 obtain ⟨m,⟨o,es,ep,ho,r⟩,_⟩:=id I.loc
 obtain ⟨sl,hL⟩:=u.any ho I.free fun z=>(hch _ z).2.1 rfl
 exact I.step (ch:=ch) hch (fun b o hL hb hc e n=>u.keep b o e n (fun z=>(List.mem_cons.mp (I.stkSub b z)).elim hL hb) hc) (fun b o _ _ hc e n=>u.any e n hc) (fun b o hc e n=>u.free b o e n hc) (fun b o hc e=>u.there b o e hc) u.tups u.frzs u.tbls (fun m' hm=>by
  obtain ⟨o',es',ep',ho',r'⟩:=hm
  rw [ho] at ho';cases ho'
  exact ⟨_,es',ep',hL,r'⟩) hok hg
theorem Inv.turned {t':Nat}{it:Addr}(I:Inv X pins σ H s) (k:∀b o,b≠it->s.heap.get? b=some o->h'.get? b=some o) (hn:H it=none) (hL:it≠X.env.locals)
  (h1:it∈X.ex\/X.s₀.heap.objs.size<=it) (h2:∀x c,X.env.cells.lookup x=some c->c≠it) (h3:∀p∈X.pn++pins,p.1≠it):Inv X pins σ H {s with heap:=h',toks:=t'}:=by
 have nit:∀b u,H b=some u->b≠it:=fun b u e z=>by rw [z,hn] at e;cases e
 refine I.step (g':=s.gens) (d':=s.drawn) (ch:=[it]) (fun b hb=>?_) (fun b o _ _ hc e _=>k b o (fun z=>hc (by simp [z])) e) (fun b o _ _ hc e _=>⟨o.slots,k b o (fun z=>hc (by simp [z])) e⟩) (fun _ _ _ _ n=>n)
  (fun b o hc e=>⟨o,k b o (fun z=>hc (by simp [z])) e⟩) (fun _ _ e=>e) (fun _ _ _ e=>e) (fun b ps e=>⟨#[],by rw [e];simp⟩) (fun m hm=>?_) (fun b u e=>?_) I.bare
 ·have e:b=it:=by simpa using hb
  subst e
  exact ⟨h1,hL,h2,h3⟩
 ·obtain ⟨o,es,ep,ho,r⟩:=hm
  exact ⟨o,es,ep,k _ o (Ne.symm hL) ho,r⟩
 ·refine (I.hok b u e).stay (fun c v hc q=>k c v ?_ q) (fun _ q=>q) fun _ _ q=>q
  rcases hc with z | z
  ·rw [z];exact nit b u e
  ·exact nit c _ z
theorem Inv.tok (I:Inv X pins σ H s) (t:Nat):Inv X pins σ H {s with toks:=t}:=I.un (h':=s.heap) (t':=t) Un.refl I.hok
theorem Inv.kept {t':Nat}(I:Inv X pins σ H s) (k:∀b u,s.heap.get? b=some u->h'.get? b=some u):Inv X pins σ H {s with heap:=h',toks:=t'}:=I.un (Un.kept k) (I.hok.kept k)
theorem Inv.laid {a:Addr}{o:HO}{t':Nat}(I:Inv X pins σ H s) (k:∀b u,s.heap.get? b=some u->h'.get? b=some u) (hp:s.heap.objs.size<=a) (new:b9 X.prog X.w (upd H a o) h' a o):
  Inv X pins σ (upd H a o) {s with heap:=h',toks:=t'}:=I.un (Un.laid k hp (I.hok.fresh hp)) (I.hok.laid k hp new)
theorem Inv.write {x e:Addr}{o:HO}{t':Nat}(I:Inv X pins σ H s) (mu:Fg (H x)) (he:e=x\/H e=some (.own x)) (k:∀b u,b≠e->s.heap.get? b=some u->h'.get? b=some u) (NU:∃u,h'.get? e=some u)
  (new:b9 X.prog X.w (upd H x o) h' x o):Inv X pins σ (upd H x o) {s with heap:=h',toks:=t'}:=I.un (Un.write mu he k NU) (I.hok.write mu he k NU new)
theorem Inv.pins_of {pins':List (Addr×Obj)}(I:Inv X pins σ H s) (h:∀p∈pins',s.heap.get? p.1=some p.2/\H p.1=none/\p.1≠X.env.locals/\p.1∉X.fs/\∀v,p.2.data≠.cell v):Inv X pins' σ H s:=
 ⟨I.ok,I.os,I.bare,I.base,I.loc,I.cell,I.free,I.freeC,fun p hp=>(List.mem_append.mp hp).elim (fun z=>I.pin p (List.mem_append_left _ z)) (h p),I.hok,I.len⟩
theorem xE {N:List Str}(hN:N.Nodup){i j:Nat}{x:Str}(a:N[i]?=some x) (b:N[j]?=some x):i=j:=by
 obtain ⟨h1,e1⟩:=List.getElem?_eq_some_iff.mp a
 obtain ⟨h2,e2⟩:=List.getElem?_eq_some_iff.mp b
 exact (List.getElem_inj hN).mp (e1.trans e2.symm)
theorem oO {M:Model}{A:Around}{E:Value->Shared->Prop}{i:Nat}{x:Str}{v:V}{u:Value}{Q:Unit->Shared->Prop}(I:Inv X pins σ H s) (hN:X.N.Nodup) (hi:X.N[i]?=some x) (hx:Loc X.env.scope x) (r:RelV v u)
  (h:∀s',Inv X pins (σ.set i (some v)) H s'->(∃a,Heap.SameBut a s.heap s'.heap/\(a=X.env.locals\/X.env.cells.lookup x=some a))->Q () s') (hf:X.fn x=true\/X.env.scope.names.lookup x=some .local:=by first | exact .inl rfl | exact .inr rfl | assumption):wpAny M A (storeName X.env x u) Q E s:=by
 obtain ⟨m,hn,hl⟩:=id I.loc
 have hcls:(X.env.scope.kind == .class || (X.env.scope.kind == .module && X.env.locals != X.env.globals))=false:=by rw [I.ok.kind];rfl
 have hiσ:i < σ.length:=by rw [I.len];exact (List.getElem?_eq_some_iff.mp hi).1
 have cne:=I.cne
 have tracked:∀{a:Addr}{h':Heap},(∃o,s.heap.get? a=some o/\H a=none)->Heap.SameBut a s.heap h'->fV X.prog X.w H h':=fun {a h'} ha hs b ob e=>by
  obtain ⟨_,_,hfree⟩:=ha
  refine (I.hok b ob e).stay (fun c w' hc q=>(hs.2 c ?_).trans q) (fun _ q=>q) fun _ _ q=>q
  rintro rfl
  rcases hc with rfl | hc
  ·rw [hfree] at e;cases e
  ·rw [hfree] at hc;cases hc
 rcases hx with hk | hk
 ·refine wpAny_storeName_local hk hn (fun h' hn' hs=>?_) hcls
  obtain ⟨oL,_,_,OW,_⟩:=id hn
  refine h _ ⟨I.ok,I.os,I.bare,⟨fun b o e n hb hx=>?_,fun b o e n hb hx=>?_,I.base.free,fun b o e hx=>?_,I.base.tups,I.base.frzs,I.base.tbls⟩,⟨_,hn',fun j y v' e1 e2 e3=>?_⟩,fun y c e=>?_,I.free,I.freeC,fun p hp=>?_,tracked ⟨oL,OW,I.free⟩ hs,by simpa using I.len⟩ ⟨_,hs,.inl rfl⟩
  ·exact (hs.2 b (Nat.ne_of_lt (Nat.lt_of_lt_of_le (Heap.lt_size e) I.ok.above))).trans (I.base.keep b o e n hb hx)
  ·obtain ⟨sl,e1⟩:=I.base.slot b o e n hb hx
   exact ⟨sl,(hs.2 b (Nat.ne_of_lt (Nat.lt_of_lt_of_le (Heap.lt_size e) I.ok.above))).trans e1⟩
  ·obtain ⟨o',e1⟩:=I.base.there b o e hx
   exact ⟨o',(hs.2 b (Nat.ne_of_lt (Nat.lt_of_lt_of_le (Heap.lt_size e) I.ok.above))).trans e1⟩
  ·by_cases hj:j=i
   ·subst hj
    rw [hi] at e1;cases e1
    rw [List.getElem?_set_self hiσ] at e2
    cases e2
    exact ⟨u,r,.inl ⟨hk,by simp⟩⟩
   ·rw [List.getElem?_set_ne (Ne.symm hj)] at e2
    obtain ⟨u',r',q⟩:=hl j y v' e1 e2 e3
    refine ⟨u',r',?_⟩
    rcases q with ⟨k,e⟩ | ⟨k,c,e,z⟩
    ·refine .inl ⟨k,?_⟩
     have:y≠x:=fun e=>hj (xE hN e1 (e▸hi))
     simp [this,e]
    ·exact .inr ⟨k,c,e,z.sameBut hs (cne y c e)⟩
  ·obtain ⟨w',z⟩:=I.cell y c e
   exact ⟨w',z.sameBut hs (cne y c e)⟩
  ·obtain ⟨e,n,ne,nf,d⟩:=I.pin p hp
   exact ⟨(hs.2 p.1 ne).trans e,n,ne,nf,d⟩
 ·have hfn:X.fn x=true:=by
   rcases hf with z | z
   ·exact z
   ·rw [z] at hk;cases hk
  obtain ⟨c,hc⟩:=I.ok.has x (.inl hk)
  obtain ⟨w',z⟩:=I.cell x c hc
  refine wpAny_storeName_cell I.ok.kind hk hc z (fun h' hc' hs=>?_)
  obtain ⟨oc,hoc,Ot⟩:=id z
  refine h {s with heap:=h'} ⟨I.ok,I.os,I.bare,⟨fun b o e n hb hx=>?_,fun b o e n hb hx=>?_,I.base.free,fun b o e hx=>?_,I.base.tups,I.base.frzs,I.base.tbls⟩,⟨m,hn.sameBut hs (Ne.symm (cne x c hc)),fun j y v' e1 e2 e3=>?_⟩,fun y c' e=>?_,I.free,I.freeC,fun p hp=>?_,tracked ⟨oc,hoc,I.freeC x c hc⟩ hs,by simpa using I.len⟩ ⟨c,hs,.inr hc⟩
  ·exact (hs.2 b (Nat.ne_of_lt (Nat.lt_of_lt_of_le (Heap.lt_size e) (I.ok.cab x c hfn hc)))).trans (I.base.keep b o e n hb hx)
  ·obtain ⟨sl,e1⟩:=I.base.slot b o e n hb hx
   exact ⟨sl,(hs.2 b (Nat.ne_of_lt (Nat.lt_of_lt_of_le (Heap.lt_size e) (I.ok.cab x c hfn hc)))).trans e1⟩
  ·obtain ⟨o',e1⟩:=I.base.there b o e hx
   exact ⟨o',(hs.2 b (Nat.ne_of_lt (Nat.lt_of_lt_of_le (Heap.lt_size e) (I.ok.cab x c hfn hc)))).trans e1⟩
  ·by_cases hj:j=i
   ·subst hj
    rw [hi] at e1;cases e1
    rw [List.getElem?_set_self hiσ] at e2
    cases e2
    exact ⟨u,r,.inr ⟨.inl hk,c,hc,hc'⟩⟩
   ·rw [List.getElem?_set_ne (Ne.symm hj)] at e2
    obtain ⟨u',r',q⟩:=hl j y v' e1 e2 e3
    refine ⟨u',r',?_⟩
    rcases q with q | ⟨k,c',e,z'⟩
    ·exact .inl q
    ·refine .inr ⟨k,c',e,z'.sameBut hs ?_⟩
     rintro rfl
     exact hj (xE hN e1 (I.ok.inj _ _ _ e hc▸hi))
  ·by_cases hcc:c'=c
   ·subst hcc;exact ⟨_,hc'⟩
   ·obtain ⟨w2,z2⟩:=I.cell y c' e
    exact ⟨w2,z2.sameBut hs hcc⟩
  ·obtain ⟨e,n,ne,nf,d⟩:=I.pin p hp
   refine ⟨(hs.2 p.1 ?_).trans e,n,ne,nf,d⟩
   intro q
   rw [q,hoc] at e
   have q':oc=p.2:=Option.some.inj e
   exact d w' (by rw [<-q'];exact Ot)
theorem yi {M:Model}{A:Around}{E:Value->Shared->Prop}{i:Nat}{x:Str}{v:V}{u:Value}{Q:Unit->Shared->Prop}(I:Inv X pins σ H s) (hN:X.N.Nodup) (hi:X.N[i]?=some x) (hx:Loc X.env.scope x) (r:RelV v u)
  (h:∀s',Inv X pins (σ.set i (some v)) H s'->Q () s') (hf:X.fn x=true\/X.env.scope.names.lookup x=some .local:=by first | exact .inl rfl | exact .inr rfl | assumption):wpAny M A (storeName X.env x u) Q E s:=
 oO I hN hi hx r (fun s' I' _=>h s' I') hf
theorem Inv.call' {s':Shared}{ch:List Addr}(I:Inv X pins σ H s) (ho:s'.os=s.os) (u:Un (frs X.stack) ch H H' s.heap s'.heap) (hok:fV X.prog X.w H' s'.heap) (hg:AllBare s'.gens)
  (hch:∀b∈ch,(b∈X.ex\/X.s₀.heap.objs.size<=b)/\b≠X.env.locals/\(∀x c,X.env.cells.lookup x=some c->c≠b)/\∀p∈X.pn++pins,p.1≠b):Inv X pins σ H' s':=by
 obtain ⟨h',g',d',t',o'⟩:=s'
 have e:o'=s.os:=ho
 subst e
 exact I.call (g':=g') (t':=t') (d':=d') u hok hg hch
end
abbrev XK:=Value->Option Addr->Hp->Prop
abbrev St:=List (Option V)
abbrev VK:=V->Hp->Prop
abbrev TE:=St->Hp->VK->Prop
abbrev TT:=St->Hp->(Bool->Hp->Prop)->Prop
abbrev TA:=St->Hp->(List V->Hp->Prop)->Prop
structure Ends where
 nx:St->Hp->Prop
 rt:VK
 bk:St->Hp->Prop:=fun _ _=>False
 ct:St->Hp->Prop:=fun _ _=>False
abbrev TS:=Ends->St->Hp->Prop
def EP (X:Cx) (pins:List (Addr×Obj)) (σ:St) (Q:VK) (u:Value) (s':Shared):Prop:=∃v H',Inv X pins σ H' s'/\RelV v u/\Q v H'
def TP (X:Cx) (pins:List (Addr×Obj)) (σ:St) (Q:Bool->Hp->Prop) (b:Bool) (s':Shared):Prop:=∃H',Inv X pins σ H' s'/\Q b H'
def AP (X:Cx) (pins:List (Addr×Obj)) (σ:St) (Q:List V->Hp->Prop) (us:List Value) (s':Shared):Prop:=∃vs H',Inv X pins σ H' s'/\Vals vs us/\Q vs H'
def SP (X:Cx) (pins:List (Addr×Obj)) (D:Ends) (f:Flow) (s':Shared):Prop:=
 match f with
 | .next=>∃σ' H',Inv X pins σ' H' s'/\D.nx σ' H'
 | .brk=>∃σ' H',Inv X pins σ' H' s'/\D.bk σ' H'
 | .cont=>∃σ' H',Inv X pins σ' H' s'/\D.ct σ' H'
 | .ret u=>∃v σ' H',Inv X pins σ' H' s'/\RelV v u/\D.rt v H'
def PE (X:Cx) (e:Expr) (t:TE):Prop:=
 ∀(pins:List (Addr×Obj)) (s:Shared) (σ:St) (H:Hp) (Q:VK),Inv X pins σ H s->t σ H Q->wpAny (model X.prog X.w) X.A (eval e X.env) (EP X pins σ Q) X.xe s
def PT (X:Cx) (e:Expr) (t:TT):Prop:=
 ∀(pins:List (Addr×Obj)) (s:Shared) (σ:St) (H:Hp) (Q:Bool->Hp->Prop),Inv X pins σ H s->t σ H Q->wpAny (model X.prog X.w) X.A (isTrue e X.env (eval e X.env)) (TP X pins σ Q) X.xe s
def PW (X:Cx) (e:Expr) (t:TT):Prop:=
 ∀(whole:Sem Value) (pins:List (Addr×Obj)) (s:Shared) (σ:St) (H:Hp) (Q:Bool->Hp->Prop),Inv X pins σ H s->t σ H Q->wpAny (model X.prog X.w) X.A (isTrue e X.env whole) (TP X pins σ Q) X.xe s
theorem PW.pt {X:Cx}{e:Expr}{t:TT}(h:PW X e t):PT X e t:=h _
def PA (X:Cx) (es:List Expr) (t:TA):Prop:=
 ∀(pos:Pos) (pins:List (Addr×Obj)) (s:Shared) (σ:St) (H:Hp) (Q:List V->Hp->Prop),Inv X pins σ H s->t σ H Q->wpAny (model X.prog X.w) X.A (spliced (backTo pos (starEach es X.env))) (AP X pins σ Q) X.xe s
def PS (X:Cx) (st:Stmt) (t:TS):Prop:=
 ∀(pins:List (Addr×Obj)) (s:Shared) (σ:St) (H:Hp) (D:Ends),Inv X pins σ H s->t D σ H->wpAny (model X.prog X.w) X.A (exec st X.env) (SP X pins D) X.xe s
def j5 (X:Cx) (st:List Stmt) (t:TS):Prop:=
 ∀(pins:List (Addr×Obj)) (s:Shared) (σ:St) (H:Hp) (D:Ends),Inv X pins σ H s->t D σ H->wpAny (model X.prog X.w) X.A (execs st X.env) (SP X pins D) X.xe s
theorem bM {α:Type}{t:Sem α}{Q Q':α->Shared->Prop}{M:Model}{A:Around}{E:Value->Shared->Prop}{s:Shared}(h:wpAny M A t Q E s) (hQ:∀a s,Q a s->Q' a s):wpAny M A t Q' E s:=wpAny_mono h hQ fun _ _ x=>x
section
variable {X:Cx}
theorem bin {a b:Expr}{ta tb:TE}(ha:PE X a ta) (hb:PE X b tb){pins:List (Addr×Obj)}{s:Shared}{σ:St}{H:Hp}{R:V->V->Hp->Prop}(I:Inv X pins σ H s) (h:ta σ H fun x H1=>tb σ H1 fun y H2=>R x y H2)
  {α:Type}{Q:α->Shared->Prop}{f:Value->Value->Sem α}
  (hf:∀v u s2 x y H2,Inv X pins σ H2 s2->RelV x v->RelV y u->R x y H2->wpAny (model X.prog X.w) X.A (f v u) Q X.xe s2):
  wpAny (model X.prog X.w) X.A (eval a X.env) (fun v s₁=>wpAny (model X.prog X.w) X.A (eval b X.env) (fun u s₂=>wpAny (model X.prog X.w) X.A (f v u) Q X.xe s₂) X.xe s₁) X.xe s:=by
 refine bM (ha pins s σ H _ I h) fun v s1 ⟨x,H1,I1,r1,q1⟩=>?_
 refine bM (hb pins s1 σ H1 _ I1 q1) fun u s2 ⟨y,H2,I2,r2,q2⟩=>?_
 exact hf v u s2 x y H2 I2 r1 r2 q2
def KR (i:Nat):TE:=fun σ H Q=>∃v,σ[i]?=some (some v)/\Q v H
def tC (v:V):TE:=fun _ H Q=>Q v H
theorem kE {i:Nat}{x:Str}{pos:Pos}(hN:X.N[i]?=some x) (hv:jL X.env.scope x) (hd:(x == ("__debug__":Str))=false:=by decide) (hcd:(x == ("__classdict__":Str))=false:=by decide):PE X (.Name x pos) (KR i):=by
 intro pins s σ H Q I h
 obtain ⟨v,e,h⟩:=h
 obtain ⟨m,hn,hl⟩:=I.loc
 obtain ⟨u,r,l⟩:=hl i x v hN e hv
 have fin:EP X pins σ Q u s:=⟨v,H,I,r,h⟩
 rcases l with ⟨hk,hm⟩ | ⟨hk,c,hc,hcell⟩
 ·exact wpAny_Name (wpAny_loadName_local I.ok.kind hk hn hm fin) hd
 ·rcases hk with hk | hk
  ·exact wpAny_Name (wpAny_loadName_cell I.ok.kind hk hc hcell fin) hd
  ·exact wpAny_Name (wpAny_loadName_free I.ok.kind hk hc hcell fin hcd) hd
theorem JW {i j pos}:PE X (.Constant (.int i) j pos) (tC (.int i)):=fun _ _ _ H _ I h=>wpAny_Constant_int ⟨.int i,H,I.tok _,⟨_,rfl⟩,h⟩
theorem LC {b j pos}:PE X (.Constant (.bool b) j pos) (tC (.bl b)):=fun _ _ _ H _ I h=>Constant_bool ⟨.bl b,H,I,rfl,h⟩
theorem J6 {x j pos}:PE X (.Constant (.str x) j pos) (tC (.str x)):=fun _ _ _ H _ I h=>Calls.Constant_str ⟨.str x,H,I.tok _,⟨_,rfl⟩,h⟩
def Gl (X:Cx) (x:Str):Prop:=X.env.kindOf x=some .globalImplicit
theorem zx {E:Value->Shared->Prop}{pins:List (Addr×Obj)}{s:Shared}{σ:St}{H:Hp}{x:Str}{u:Value}{pos:Pos}{Q:Value->Shared->Prop}(I:Inv X pins σ H s) (hg:Gl X x) (hm:X.mg x=some u) (h:Q u s)
  (hd:(x == ("__debug__":Str))=false:=by decide):wpAny (model X.prog X.w) X.A (eval (.Name x pos) X.env) Q E s:=
 Calls.Name_function_global I.ok.kind hg (Calls.loadGlobal_global (by rw [I.ok.glob];exact I.mod.glob.keeps I.bk) hm h) hd
theorem lW {E:Value->Shared->Prop}{pins:List (Addr×Obj)}{s:Shared}{σ:St}{H:Hp}{x:Str}{u:Value}{pos:Pos}{Q:Value->Shared->Prop}(I:Inv X pins σ H s) (hg:Gl X x) (hm:X.mg x=none) (hv:bootBuiltins x=some u) (h:Q u s)
  (hn:x≠"__name__":=by decide) (hd:(x == ("__debug__":Str))=false:=by decide):wpAny (model X.prog X.w) X.A (eval (.Name x pos) X.env) Q E s:=by
 obtain ⟨mb,h1,h2⟩:=I.mod.blt
 exact Calls.Name_function_global I.ok.kind hg (Calls.loadGlobal_builtin (by rw [I.ok.glob];exact I.mod.glob.keeps I.bk) hm (by rw [I.ok.blt];exact h1.keeps I.bk) ((h2 x hn).trans hv) h) hd
theorem Hq {x:Str}{v:V}{u:Value}{pos:Pos}(hg:Gl X x) (hm:X.mg x=some u) (r:RelV v u) (hd:(x == ("__debug__":Str))=false:=by decide):PE X (.Name x pos) (tC v):=
 fun _ _ _ H _ I h=>zx I hg hm ⟨v,H,I,r,h⟩ hd
theorem Hj {x:Str}{v:V}{u:Value}{pos:Pos}(hg:Gl X x) (hm:X.mg x=none) (hv:bootBuiltins x=some u) (r:RelV v u) (hn:x≠"__name__":=by decide) (hd:(x == ("__debug__":Str))=false:=by decide):PE X (.Name x pos) (tC v):=
 fun _ _ _ H _ I h=>lW I hg hm hv ⟨v,H,I,r,h⟩ hn hd
variable {a b:Expr}{ta tb:TE}{pos:Pos}
def PC (X:Cx) (op:CmpOp) (a b:Expr) (t:TE):Prop:=
 ∀(pins:List (Addr×Obj)) (s:Shared) (σ:St) (H:Hp) (Q:VK),Inv X pins σ H s->t σ H Q->
  wpAny (model X.prog X.w) X.A (eval a X.env) (fun v s₁=>wpAny (model X.prog X.w) X.A (eval b X.env) (fun u s₂=>wpAny (model X.prog X.w) X.A (compareOp op v u) (EP X pins σ Q) X.xe s₂) X.xe s₁) X.xe s
theorem Ef (b:Expr){op:CmpOp}(h:op≠.In) (h2:op≠.NotIn):behindInMarks op b=false:=by
 have e1:(op == CmpOp.In)=false:=by cases op <;> first | rfl | exact absurd rfl h
 have e2:(op == CmpOp.NotIn)=false:=by cases op <;> first | rfl | exact absurd rfl h2
 cases b <;> simp [behindInMarks,e1,e2]
def tB (t:TE):TT:=fun σ H Q=>t σ H fun x H1=>∃c,x=.bl c/\Q c H1
theorem M8 {op:CmpOp}{t:TE}(h:PC X op a b t) (h1:behindInMarks op b=false:=by first | exact Ef _ (by decide) (by decide) | rfl):PT X (.Compare a [op] [b] pos) (tB t):=by
 intro pins s σ H Q I hw
 refine wpAny_isTrue_Compare1 (bM (h pins s σ H _ I hw) fun v s1 h1=>bM h1 fun u s2 h2=>bM h2 fun c s3 ⟨x,H1,I1,r1,q1⟩=>?_) h1
 obtain ⟨d,rfl,q⟩:=q1
 cases r1
 exact wpAny_truthy_bool ⟨H1,I1,q⟩
theorem Kl {e:Expr}{t:TE}(h:PE X e t) (he:∀whole,isTrue e X.env whole=(do let v <-whole;standAt e.pos;holding [v] (truthy v)):=by intro _;rfl):PT X e (tB t):=by
 intro pins s σ H Q I hw
 refine isTrue_plain (bM (h pins s σ H _ I hw) fun v s1 ⟨x,H1,I1,r1,q1⟩=>?_) (he _)
 obtain ⟨d,rfl,q⟩:=q1
 cases r1
 exact wpAny_truthy_bool ⟨H1,I1,q⟩
variable {tA tB':TT}{rest:List Expr}
def MS (t u:TT):TT:=fun σ H Q=>t σ H fun c H1=>if c=true then u σ H1 Q else Q false H1
def Nc (t u:TT):TT:=fun σ H Q=>t σ H fun c H1=>if c=true then Q true H1 else u σ H1 Q
def MX (t:TT):TT:=fun σ H Q=>t σ H fun c H1=>Q (!c) H1
theorem HD (ha:PT X a tA):PW X (.BoolOp .And [a] pos) tA:=by
 intro wh pins s σ H Q I h
 refine isTrue_and (bM (ha pins s σ H Q I h) fun c s1 e=>?_)
 cases c with
 | true=>exact isTrue_and_nil e
 | false=>exact e
theorem Kp (ha:PT X a tA):PW X (.BoolOp .Or [a] pos) tA:=by
 intro wh pins s σ H Q I h
 refine isTrue_or (bM (ha pins s σ H Q I h) fun c s1 e=>?_)
 cases c with
 | false=>exact isTrue_or_nil e
 | true=>exact e
theorem Ko (ha:PT X a tA) (hb:PW X (.BoolOp .And (b::rest) pos) tB'):PW X (.BoolOp .And (a::b::rest) pos) (MS tA tB'):=by
 intro wh pins s σ H Q I h
 refine isTrue_and (bM (ha pins s σ H _ I h) fun c s1 ⟨H1,I1,q1⟩=>?_)
 cases c with
 | true=>exact hb wh pins s1 σ H1 Q I1 q1
 | false=>exact ⟨H1,I1,q1⟩
theorem LK (ha:PT X a tA) (hb:PW X (.BoolOp .Or (b::rest) pos) tB'):PW X (.BoolOp .Or (a::b::rest) pos) (Nc tA tB'):=by
 intro wh pins s σ H Q I h
 refine isTrue_or (bM (ha pins s σ H _ I h) fun c s1 ⟨H1,I1,q1⟩=>?_)
 cases c with
 | true=>exact ⟨H1,I1,q1⟩
 | false=>exact hb wh pins s1 σ H1 Q I1 q1
theorem Kh (ha:PT X a tA):PT X (.UnaryOp .Not a pos) (MX tA):=by
 intro pins s σ H Q I h
 exact isTrue_not (ha pins s σ H (fun c H1=>Q (!c) H1) I h)
def LX (ta tb:TE):TE:=fun σ H Q=>ta σ H fun x H1=>∃c,x=.bl c/\if c=true then tb σ H1 Q else Q (.bl false) H1
def MY (ta tb:TE):TE:=fun σ H Q=>ta σ H fun x H1=>∃c,x=.bl c/\if c=true then Q (.bl true) H1 else tb σ H1 Q
def L5 (ta:TE):TE:=fun σ H Q=>ta σ H fun x H1=>∃c,x=.bl c/\Q (.bl (!c)) H1
theorem JZ {op}{t:TE}(h:PE X a t):PE X (.BoolOp op [a] pos) t:=fun pins s σ H Q I hw=>BoolOp_one (h pins s σ H Q I hw)
theorem JU (ha:PE X a ta) (hb:PE X (.BoolOp .And (b::rest) pos) tb):PE X (.BoolOp .And (a::b::rest) pos) (LX ta tb):=by
 intro pins s σ H Q I h
 refine BoolOp_and (bM (ha pins s σ H _ I h) fun v s1 ⟨x,H1,I1,r1,q1⟩=>?_)
 obtain ⟨c,rfl,q1⟩:=q1
 cases r1
 refine wpAny_truthy_bool ?_
 cases c with
 | true=>exact hb pins s1 σ H1 Q I1 q1
 | false=>exact ⟨.bl false,H1,I1,rfl,q1⟩
theorem LH (ha:PE X a ta) (hb:PE X (.BoolOp .Or (b::rest) pos) tb):PE X (.BoolOp .Or (a::b::rest) pos) (MY ta tb):=by
 intro pins s σ H Q I h
 refine BoolOp_or (bM (ha pins s σ H _ I h) fun v s1 ⟨x,H1,I1,r1,q1⟩=>?_)
 obtain ⟨c,rfl,q1⟩:=q1
 cases r1
 refine wpAny_truthy_bool ?_
 cases c with
 | false=>exact hb pins s1 σ H1 Q I1 q1
 | true=>exact ⟨.bl true,H1,I1,rfl,q1⟩
theorem JY (ha:PE X a ta):PE X (.UnaryOp .Not a pos) (L5 ta):=by
 intro pins s σ H Q I h
 refine UnaryOp_ (bM (ha pins s σ H _ I h) fun v s1 ⟨x,H1,I1,r1,q1⟩=>?_)
 obtain ⟨c,rfl,q1⟩:=q1
 cases r1
 exact not_of (wpAny_truthy_bool ⟨.bl (!c),H1,I1,rfl,q1⟩)
end
def bZ (K:W.Frag) (H:Hp) (a:Addr) (xs:List V):Prop:=
 Rd H a (.lst xs)\/
  ∃(o:Obj) (its:Array Value) (n:Nat),K.lookup a=some o/\o.cls=.type "list"/\o.dict=none/\o.data=.seq its n/\its.size<=sizeLine/\Vals xs its.toList
def cQ (K:W.Frag) (H:Hp) (a:Addr) (xs:List V):Prop:=
 Rd H a (.tup xs)\/
  ∃(o:Obj) (its:Array Value) (n:Nat),K.lookup a=some o/\o.cls=.type "tuple"/\o.data=.seq its n/\its.size<=sizeLine/\Vals xs its.toList
def Mq:Value->Option V
 | .none=>some .non
 | .bool b=>some (.bl b)
 | .int i _=>some (.int i)
 | .str x _=>some (.str x)
 | .bytes b _=>some (.byt b)
 | .float b _=>some (.flt b)
 | .ref a=>some (.ref a)
 | .type n=>some (.ty n)
 | _=>none
theorem RelV.abs {x:V}{u:Value}(r:RelV x u):Mq u=some x:=by
 cases x with
 | non=>cases r;rfl
 | bl _=>cases r;rfl
 | int _=>obtain ⟨t,rfl⟩:=r;rfl
 | str _=>obtain ⟨t,rfl⟩:=r;rfl
 | byt _=>obtain ⟨t,rfl⟩:=r;rfl
 | flt _=>obtain ⟨t,rfl⟩:=r;rfl
 | ref _=>cases r;rfl
 | ty _=>cases r;rfl
theorem RelV.inj {x y:V}{u:Value}(r:RelV x u) (q:RelV y u):x=y:=Option.some.inj (r.abs.symm.trans q.abs)
theorem Vals.inj:∀{xs ys:List V}{us:List Value},Vals xs us->Vals ys us->xs=ys
 | _,_,_,.nil,.nil=>rfl
 | _,_,_,.cons r t,.cons r' t'=>by rw [r.inj r',Vals.inj t t']
section
variable {X:Cx}{pins:List (Addr×Obj)}{σ:St}{H:Hp}{s:Shared}{a:Addr}{xs ys:List V}
theorem bZ.of {K:W.Frag}(h:H a=some (.lst xs)):bZ K H a xs:=.inl (.inl h)
theorem Inv.list (I:Inv X pins σ H s) (h:bZ X.K H a xs):∃its:List Value,Vals xs its/\PlainL s.heap a its.toArray/\xs.length<=sizeLine:=by
 rcases h with h | ⟨o,its,n,hk,hc,hd,hs,hz,r⟩
 ·obtain ⟨z,its,n,r,e⟩:=h.ok I.hok
  exact ⟨its,r,⟨_,n,e,rfl,rfl,rfl⟩,z⟩
 ·refine ⟨its.toList,r,⟨o,n,I.kIn a o hk,hc,hd,by simpa using hs⟩,?_⟩
  have e:=r.length
  simp only [Array.length_toList] at e
  omega
theorem Inv.tuple (I:Inv X pins σ H s) (h:cQ X.K H a xs):∃its:List Value,Vals xs its/\IsTup s.heap a its.toArray/\xs.length<=sizeLine:=by
 rcases h with h | ⟨o,its,n,hk,hc,hs,hz,r⟩
 ·obtain ⟨z,its,r,p⟩:=h.ok I.hok
  exact ⟨its,r,p,z⟩
 ·refine ⟨its.toList,r,⟨o,I.kIn a o hk,hc,n,by simpa using hs⟩,?_⟩
  have e:=r.length
  simp only [Array.length_toList] at e
  omega
theorem Inv.list_inj (I:Inv X pins σ H s) (h:bZ X.K H a xs) (h':bZ X.K H a ys):xs=ys:=by
 obtain ⟨its,r,⟨o,n,e,_,_,d⟩,_⟩:=I.list h
 obtain ⟨its',r',⟨o',n',e',_,_,d'⟩,_⟩:=I.list h'
 rw [e] at e';cases e'
 rw [d] at d'
 injection d' with d1 _
 have:its=its':=by simpa using congrArg Array.toList d1
 subst this
 exact r.inj r'
theorem Inv.tuple_inj (I:Inv X pins σ H s) (h:cQ X.K H a xs) (h':cQ X.K H a ys):xs=ys:=by
 obtain ⟨its,r,⟨o,e,_,n,d⟩,_⟩:=I.tuple h
 obtain ⟨its',r',⟨o',e',_,n',d'⟩,_⟩:=I.tuple h'
 rw [e] at e';cases e'
 rw [d] at d'
 injection d' with d1 _
 have:its=its':=by simpa using congrArg Array.toList d1
 subst this
 exact r.inj r'
end
abbrev Cx.wish (X:Cx) (E:Value->Shared->Prop):Cx:={X with xe:=E}
abbrev Cx.nox (X:Cx):Cx:=X.wish fun _ _=>False
theorem Cx.Ok.wish {X:Cx}(ok:X.Ok) (E:Value->Shared->Prop):(X.wish E).Ok:=
 ⟨ok.mod,ok.kind,ok.glob,ok.blt,ok.above,ok.inj,ok.has,ok.cab,ok.hd,ok.frames,ok.stk,ok.exf,ok.bs,ok.bsz,ok.noex,ok.exfs,ok.funs,ok.frf⟩
theorem Cx.Ok.unwish {X:Cx}{E:Value->Shared->Prop}(ok:(X.wish E).Ok):X.Ok:=
 ⟨ok.mod,ok.kind,ok.glob,ok.blt,ok.above,ok.inj,ok.has,ok.cab,ok.hd,ok.frames,ok.stk,ok.exf,ok.bs,ok.bsz,ok.noex,ok.exfs,ok.funs,ok.frf⟩
section
variable {X:Cx}{pins:List (Addr×Obj)}{σ:St}{H:Hp}{s:Shared}{E:Value->Shared->Prop}
theorem Inv.wish (I:Inv X pins σ H s) (E:Value->Shared->Prop):Inv (X.wish E) pins σ H s:=⟨I.ok.wish E,I.os,I.bare,I.base,I.loc,I.cell,I.free,I.freeC,I.pin,I.hok,I.len⟩
theorem Inv.unwish (I:Inv (X.wish E) pins σ H s):Inv X pins σ H s:=⟨I.ok.unwish,I.os,I.bare,I.base,I.loc,I.cell,I.free,I.freeC,I.pin,I.hok,I.len⟩
theorem SP.unwish {D:Ends}{f:Flow}{s':Shared}(h:SP (X.wish E) pins D f s'):SP X pins D f s':=by
 cases f with
 | next=>obtain ⟨σ',H',I,q⟩:=h;exact ⟨σ',H',I.unwish,q⟩
 | brk=>obtain ⟨σ',H',I,q⟩:=h;exact ⟨σ',H',I.unwish,q⟩
 | cont=>obtain ⟨σ',H',I,q⟩:=h;exact ⟨σ',H',I.unwish,q⟩
 | ret u=>obtain ⟨v,σ',H',I,r,q⟩:=h;exact ⟨v,σ',H',I.unwish,r,q⟩
theorem j5.nox {st:List Stmt}{t:TS}(h:j5 X.nox st t):j5 X st t:=fun pins s σ H D I hw=>
 wpAny_mono (h pins s σ H D (I.wish _) hw) (fun _ _ q=>q.unwish) fun _ _ z=>False.elim z
end
section
variable {X:Cx}{st:Stmt}{rest:List Stmt}{t u:TS}{e:Expr}{te:TE}{pos:Pos}
def L4:TS:=fun D σ H=>D.nx σ H
def M0 (t u:TS):TS:=fun D σ H=>t {D with nx:=u D} σ H
theorem Hz:j5 X [] L4:=fun _ _ σ H _ I h=>wpAny_execs_nil ⟨σ,H,I,h⟩
theorem EL (h1:PS X st t) (h2:j5 X rest u):j5 X (st::rest) (M0 t u):=by
 intro pins s σ H D I h
 refine wpAny_execs_cons (bM (h1 pins s σ H {D with nx:=u D} I h) fun f s1 q=>?_)
 cases f with
 | next=>
  obtain ⟨σ',H',I',q⟩:=q
  exact h2 pins s1 σ' H' D I' q
 | ret v=>exact q
 | brk=>exact q
 | cont=>exact q
theorem HA (h1:PS X st t):j5 X [st] t:=by
 intro pins s σ H D I h
 refine wpAny_execs_cons (bM (h1 pins s σ H D I h) fun f s1 q=>?_)
 cases f with
 | next=>exact wpAny_execs_nil q
 | ret v=>exact q
 | brk=>exact q
 | cont=>exact q
theorem Inv.quiet {pins:List (Addr×Obj)}{σ:St}{H:Hp}{s:Shared}(I:Inv X pins σ H s):interactive X.env=false:=by simp [interactive,I.ok.kind]
def L3 (te:TE):TS:=fun D σ H=>te σ H fun _ H1=>D.nx σ H1
theorem mh (he:PE X e te) (hs:swapsWith e none pos.line X.env=pure false:=by rfl):PS X (.Expr e pos) (L3 te):=by
 intro pins s σ H D I h
 exact wpAny_Expr_any (bM (he pins s σ H _ I h) fun v s1 ⟨x,H1,I1,r1,q1⟩=>⟨σ,H1,I1,q1⟩) I.quiet hs
def MZ (te:TE):TS:=fun D σ H=>te σ H D.rt
theorem Kg (he:PE X e te):PS X (.Return (some e) pos) (MZ te):=by
 intro pins s σ H D I h
 exact wpAny_Return_some (bM (he pins s σ H _ I h) fun v s1 ⟨x,H1,I1,r1,q1⟩=>⟨x,σ,H1,I1,r1,q1⟩)
def MV (c:TT) (t u:TS):TS:=fun D σ H=>c σ H fun b H1=>if b=true then t D σ H1 else u D σ H1
theorem LJ {c:Expr}{a b:List Stmt}{tc:TT}(hc:PT X c tc) (ha:j5 X a t) (hb:j5 X b u):PS X (.If c a b pos) (MV tc t u):=by
 intro pins s σ H D I h
 refine wpAny_If (bM (hc pins s σ H _ I h) fun d s1 ⟨H1,I1,q1⟩=>?_)
 cases d with
 | true=>exact ha pins s1 σ H1 D I1 q1
 | false=>exact hb pins s1 σ H1 D I1 q1
end
abbrev TG:=V->St->Hp->(St->Hp->Prop)->Prop
abbrev qL:=List V->St->Hp->(St->Hp->Prop)->Prop
def PG (X:Cx) (target:Expr) (t:TG):Prop:=
 ∀(pins:List (Addr×Obj)) (s:Shared) (σ:St) (H:Hp) (v:V) (u:Value) (Q:St->Hp->Prop),Inv X pins σ H s->RelV v u->t v σ H Q->
  wpAny (model X.prog X.w) X.A (assign target X.env u) (fun _ s'=>∃σ' H',Inv X pins σ' H' s'/\Q σ' H') X.xe s
def we (X:Cx) (ts:List Expr) (t:qL):Prop:=
 ∀(pins:List (Addr×Obj)) (s:Shared) (σ:St) (H:Hp) (vs:List V) (us:List Value) (Q:St->Hp->Prop),Inv X pins σ H s->Vals vs us->t vs σ H Q->
  wpAny (model X.prog X.w) X.A (assignInOrder ((assignEach ts X.env).map (·.2)) us) (fun _ s'=>∃σ' H',Inv X pins σ' H' s'/\Q σ' H') X.xe s
abbrev Af:=V->V->V->Hp->(Hp->Prop)->Prop
def Io (X:Cx) (t:Af):Prop:=
 ∀(pins:List (Addr×Obj)) (s:Shared) (σ:St) (H:Hp) (o i v:V) (ov iv u:Value) (Q:Hp->Prop),Inv X pins σ H s->RelV o ov->RelV i iv->RelV v u->t o i v H Q->
  wpAny (model X.prog X.w) X.A (setItem ov iv u) (fun _ s'=>∃H',Inv X pins σ H' s'/\Q H') X.xe s
section
variable {X:Cx}{pos:Pos}
def Ft (i:Nat):TG:=fun v σ H Q=>Q (σ.set i (some v)) H
theorem Hr {i:Nat}{x:Str}(hN:X.N.Nodup) (hi:X.N[i]?=some x) (hx:Loc X.env.scope x) (hf:X.fn x=true\/X.env.scope.names.lookup x=some .local:=by first | exact .inl rfl | exact .inr rfl | assumption):PG X (.Name x pos) (Ft i):=by
 intro pins s σ H v u Q I r h
 exact wpAny_assign_Name (yi I hN hi hx r (fun s' I'=>⟨_,H,I',h⟩) hf)
def aI:qL:=fun vs σ H Q=>vs=[]/\Q σ H
def ao (t:TG) (u:qL):qL:=fun vs σ H Q=>∃v r,vs=v::r/\t v σ H fun σ' H'=>u r σ' H' Q
theorem Ht:we X [] aI:=by
 intro pins s σ H vs us Q I r h
 obtain ⟨e,h⟩:=h
 subst e
 cases r
 exact assignInOrder_nil ⟨σ,H,I,h⟩
theorem EF {e:Expr}{es:List Expr}{t:TG}{u:qL}(h1:PG X e t) (h2:we X es u)
  (hs:(assignEach (e::es) X.env).map (·.2)=assign e X.env::(assignEach es X.env).map (·.2):=by rfl):we X (e::es) (ao t u):=by
 intro pins s σ H vs us Q I r h
 obtain ⟨v,vr,e1,h⟩:=h
 subst e1
 cases r with
 | cons r rr=>
  rw [hs]
  refine assignInOrder_cons (bM (h1 pins s σ H _ _ _ I r h) fun _ s1 ⟨σ1,H1,I1,q1⟩=>?_)
  exact h2 pins s1 σ1 H1 _ _ Q I1 rr q1
def bD (K:W.Frag) (n:Nat) (t:qL):TG:=fun v σ H Q=>∃a xs,v=.ref a/\cQ K H a xs/\xs.length=n/\t xs σ H Q
theorem Kc {es:List Expr}{k:Nat}{t:qL}{n:Nat}(hc:X.calm=true) (h:we X es t)
  (hn:(assignEach es X.env).length=n:=by rfl) (hst:(assignEach es X.env).findIdx? (·.1)=none:=by rfl):PG X (.Tuple es k pos) (bD X.K n t):=by
 intro pins s σ H v u Q I r hw
 obtain ⟨a,xs,e1,hq,hl,hw⟩:=hw
 subst e1
 cases r
 obtain ⟨its,rv,ht,hz⟩:=I.tuple hq
 refine assign_Tuple_tuple (I.ok.hd hc) ht (by simp [hn,<-hl,rv.length]) hst fun h' hx=>?_
 have I1:Inv X pins σ H {s with heap:=h'}:=I.kept (t':=s.toks) fun b o e=>hx b o (Nat.ne_of_lt (Heap.lt_size e)) e
 exact h pins _ σ H xs _ Q I1 (by simpa using rv) hw
def Mt (to ti:TE) (t:Af):TG:=fun v σ H Q=>to σ H fun o H1=>ti σ H1 fun i H2=>t o i v H2 fun H3=>Q σ H3
theorem Ka {o i:Expr}{to ti:TE}{t:Af}(ho:PE X o to) (hi:PE X i ti) (hs:Io X t)
  (ha:∀v,assign (.Subscript o i pos) X.env v=(do
   let ov <-holding [v] (eval o X.env)
   let iv <-holding [v,ov] (eval i X.env)
   standAt pos
   holding [v,ov,iv] (setItem ov iv v)
   release [v,ov,iv] []):=by intro _;rfl):PG X (.Subscript o i pos) (Mt to ti t):=by
 intro pins s σ H v u Q I r h
 rw [ha]
 refine wpAny_bind (wpAny_holding (bM (ho pins s σ H _ I h) fun ov s1 ⟨x,H1,I1,r1,q1⟩=>?_))
 refine wpAny_bind (wpAny_holding (bM (hi pins s1 σ H1 _ I1 q1) fun iv s2 ⟨y,H2,I2,r2,q2⟩=>?_))
 refine wpAny_bind (wpAny_standAt (wpAny_bind (wpAny_holding (bM (hs pins s2 σ H2 x y v ov iv u _ I2 r1 r2 r q2) fun _ s3 ⟨H3,I3,q3⟩=>?_))))
 exact wpAny_release ⟨σ,H3,I3,q3⟩
def E8 (te:TE) (g:TG):TS:=fun D σ H=>te σ H fun x H1=>g x σ H1 D.nx
theorem CI {tg e:Expr}{te:TE}{g:TG}(he:PE X e te) (hg:PG X tg g) (hs:swapsWithSole [tg] e pos.line X.env=pure false:=by rfl) (hw:swappedStores [tg] e X.env=pure none:=by rfl)
  (h1:(assignEach [tg] X.env).map (·.2)=[assign tg X.env]:=by rfl):PS X (.Assign [tg] e pos) (E8 te g):=by
 intro pins s σ H D I h
 refine wpAny_Assign_stores (bM (he pins s σ H _ I h) fun v s1 ⟨x,H1,I1,r1,q1⟩=>?_) hs hw
 rw [h1]
 exact bM (hg pins s1 σ H1 x v _ I1 r1 q1) fun _ s2 q=>q
theorem CJ {i:Nat}{x:Str}{e:Expr}{te:TE}{pos':Pos}(hN:X.N.Nodup) (hi:X.N[i]?=some x) (hx:Loc X.env.scope x) (he:PE X e te) (hs:swapsWith e (some (.Name x pos')) pos.line X.env=pure false:=by rfl) (hf:X.fn x=true\/X.env.scope.names.lookup x=some .local:=by first | exact .inl rfl | exact .inr rfl | assumption):
  PS X (.Assign [.Name x pos'] e pos) (E8 te (Ft i)):=by
 intro pins s σ H D I h
 refine wpAny_Assign_Name (bM (he pins s σ H _ I h) fun v s1 ⟨y,H1,I1,r1,q1⟩=>?_) hs
 exact yi I1 hN hi hx r1 (fun s2 I2=>⟨_,H1,I2,q1⟩) hf
end
structure It where
 go:Nat->Hp->Prop
 yld:Nat->Hp->V->Hp->Prop
 stop:Nat->Hp->Prop
def iG (X:Cx) (pins:List (Addr×Obj)) (H:Hp) (b:Addr):Prop:=
 H b=none/\b≠X.env.locals/\b∉X.fs/\(b∈X.ex\/X.s₀.heap.objs.size<=b)/\(∀x c,X.env.cells.lookup x=some c->c≠b)/\∀p∈X.pn++pins,p.1≠b
theorem Inv.fpOk {X:Cx}{pins:List (Addr×Obj)}{σ:St}{H H':Hp}{s:Shared}{b:Addr}(I:Inv X pins σ H s) (hb:s.heap.objs.size<=b) (hn:H' b=none):iG X pins H' b:=by
 refine ⟨hn,Nat.ne_of_gt (Nat.lt_of_lt_of_le I.lt hb),I.nofs hb,.inr (Nat.le_trans I.sz hb),fun x c e z=>?_,fun p hp z=>?_⟩
 ·obtain ⟨v,q⟩:=I.cell x c e
  exact absurd (Nat.lt_of_lt_of_le q.lt (by rw [z];exact hb)) (Nat.lt_irrefl _)
 ·exact absurd (Nat.lt_of_lt_of_le (Heap.lt_size (I.pin p hp).1) (by rw [z];exact hb)) (Nat.lt_irrefl _)
structure Turn (P:Program) (w:World) (K:W.Frag) (tg:Expr) (J:It) (fp:List Addr) (it:Addr) (tn:Nat->Heap->Prop):Prop where
 mem:it∈fp
 obj:∀i h,tn i h->∀b∈fp,∃o,h.get? b=some o/\∀v,o.data≠.cell v
 keep:∀i h h',tn i h->(∀b∈fp,∀o,h.get? b=some o->h'.get? b=some o)->tn i h'
 item:∀(X:Cx),X.prog=P->X.w=w->X.K=K->X.calm=true->∀(i:Nat) (pins:List (Addr×Obj)) (s:Shared) (σ:St) (H:Hp) (E:Value->Shared->Prop),Inv X pins σ H s->(∀b∈fp,iG X pins H b)->tn i s.heap->J.go i H->
  wpAny (model P w) X.A (pyNext (.ref it)) (fun r s1=>∃u,r=some u/\
   wpAny (model P w) X.A (letOwnedTupleGo tg (.ref it) u) (fun _ s2=>∃x H',Inv X pins σ H' s2/\RelV x u/\J.yld i H x H'/\tn (i + 1) s2.heap/\∀b∈fp,H' b=none) E s1) E s
 done:∀(X:Cx),X.prog=P->X.w=w->X.K=K->X.calm=true->∀(i:Nat) (pins:List (Addr×Obj)) (s:Shared) (σ:St) (H:Hp) (E:Value->Shared->Prop),Inv X pins σ H s->(∀b∈fp,iG X pins H b)->tn i s.heap->J.stop i H->
  wpAny (model P w) X.A (pyNext (.ref it)) (fun r s1=>r=none/\Inv X pins σ H s1) E s
 self:∀(A:Around) (i:Nat) (s:Shared) (Q:Value->Shared->Prop) (E:Value->Shared->Prop),tn i s.heap->Q (.ref it) s->wpAny (model P w) A (pyIter (.ref it)) Q E s
abbrev TI:=St->Hp->(It->Hp->Prop)->Prop
def Mf (X:Cx) (pins:List (Addr×Obj)) (σ:St) (tg:Expr) (R:It->Hp->Prop) (itv:Value) (s2:Shared):Prop:=
 ∃(it:Addr) (fp:List Addr) (tn:Nat->Heap->Prop) (J:It) (H':Hp),itv=.ref it/\Inv X pins σ H' s2/\Turn X.prog X.w X.K tg J fp it tn/\tn 0 s2.heap/\(∀b∈fp,iG X pins H' b)/\R J H'
def PI (X:Cx) (tg iter:Expr) (wi:TI):Prop:=
 ∀(pins:List (Addr×Obj)) (s:Shared) (σ:St) (H:Hp) (R:It->Hp->Prop),Inv X pins σ H s->wi σ H R->
  wpAny (model X.prog X.w) X.A (eval iter X.env) (fun v s1=>wpAny (model X.prog X.w) X.A (pyIter v) (Mf X pins σ tg R) X.xe s1) X.xe s
theorem AH {M:Model}{A:Around}{E:Value->Shared->Prop}{s:Shared}{tg:Expr}{it:Addr}{u:Value}{o:Obj}{n:String}{vs:Array Value}{Q:Unit->Shared->Prop}(ho:s.heap.get? it=some o) (hc:o.cls=.type n) (hd:o.data=.fields vs)
  (hn:["enumerate","zip","dict_itemiterator","dict_reverseitemiterator","odict_iterator","itertools.zip_longest","itertools.pairwise"].contains n=false) (hQ:Q () s):wpAny M A (letOwnedTupleGo tg (.ref it) u) Q E s:=by
 unfold letOwnedTupleGo
 cases tg <;> first
  | exact wpAny_pure hQ
  | (cases u <;> first
    | exact wpAny_pure hQ
    | (refine wpAny_bind (wpAny_load ho ?_);rw [hc,hd];show wpAny M A (if (["enumerate","zip","dict_itemiterator","dict_reverseitemiterator","odict_iterator","itertools.zip_longest","itertools.pairwise"].contains n && vs[0]? == some (rawInt _))=true then _ else _) Q E s;rw [if_neg (by intro h;rw [hn,Bool.false_and] at h;cases h)];exact wpAny_pure hQ))
def Fc (K:W.Frag) (a:Addr):It:=
 ⟨fun i H=>∃xs x,bZ K H a xs/\xs[i]?=some x,fun i H x H'=>H'=H/\∀xs,bZ K H a xs->xs[i]?=some x,fun i H=>∃xs,bZ K H a xs/\xs.length<=i⟩
def Fd (K:W.Frag) (a:Addr):It:=
 ⟨fun i H=>∃xs x,cQ K H a xs/\xs[i]?=some x,fun i H x H'=>H'=H/\∀xs,cQ K H a xs->xs[i]?=some x,fun i H=>∃xs,cQ K H a xs/\xs.length<=i⟩
def Br (lo:Int) (n:Nat):It:=⟨fun i _=>i < n,fun i H x H'=>H'=H/\x=.int (lo + i),fun i _=>n<=i⟩
theorem De {P:Program}{w:World}{K:W.Frag}{tg:Expr}(a it:Addr):Turn P w K tg (Fc K a) [it] it (fun i h=>h.IsListIter it a i) where
 mem:=by simp
 obj:=fun i h st b hb=>by
  have e:b=it:=by simpa using hb
  subst e
  obtain ⟨o,e,c,d⟩:=st
  exact ⟨o,e,fun v z=>by rw [d] at z;cases z⟩
 keep:=fun i h h' st k=>st.at fun o e=>k it (by simp) o e
 item:=by
  intro X hP hw hK hc i pins s σ H E I hf st hg
  subst hP hw hK
  obtain ⟨xs,x,hq,hx⟩:=hg
  obtain ⟨its,rv,p,hz⟩:=I.list hq
  obtain ⟨u,hu,ru⟩:=rv.get hx
  obtain ⟨f0,f1,f2,f3,f4,f5⟩:=hf it (by simp)
  refine wpAny_pyNext_list_item st p.isList (x:=u) (by simpa using hu) fun h' st' sb=>?_
  have I1:Inv X pins σ H {s with heap:=h'}:=I.turned (t':=s.toks) (fun b o hb e=>(sb.2 b hb).trans e) f0 f1 f3 f4 f5
  obtain ⟨o,e,c,d⟩:=id st'
  exact ⟨u,rfl,AH (s:={s with heap:=h'}) e c d (by decide) ⟨x,H,I1,ru,⟨rfl,fun ys hy=>by rw [I.list_inj hy hq];exact hx⟩,st',fun b hb=>(hf b hb).1⟩⟩
 done:=by
  intro X hP hw hK hc i pins s σ H E I hf st hg
  subst hP hw hK
  obtain ⟨xs,hq,hx⟩:=hg
  obtain ⟨its,rv,p,hz⟩:=I.list hq
  obtain ⟨f0,f1,f2,f3,f4,f5⟩:=hf it (by simp)
  have hl:=rv.length
  exact wpAny_pyNext_list_end (I.ok.hd hc) st p.isList (by simp;omega) fun h' eb=>⟨rfl,I.turned (t':=s.toks) (fun b o hb e=>eb b o hb e) f0 f1 f3 f4 f5⟩
 self:=fun _ _ _ _ _ st h=>wpAny_pyIter_listiter st h
theorem Bk {P:Program}{w:World}{K:W.Frag}{tg:Expr}(a it:Addr):Turn P w K tg (Fd K a) [it] it (fun i h=>h.IsTupleIter it a i) where
 mem:=by simp
 obj:=fun i h st b hb=>by
  have e:b=it:=by simpa using hb
  subst e
  obtain ⟨o,e,c,d⟩:=st
  exact ⟨o,e,fun v z=>by rw [d] at z;cases z⟩
 keep:=fun i h h' st k=>st.at fun o e=>k it (by simp) o e
 item:=by
  intro X hP hw hK hc i pins s σ H E I hf st hg
  subst hP hw hK
  obtain ⟨xs,x,hq,hx⟩:=hg
  obtain ⟨its,rv,p,hz⟩:=I.tuple hq
  obtain ⟨u,hu,ru⟩:=rv.get hx
  obtain ⟨f0,f1,f2,f3,f4,f5⟩:=hf it (by simp)
  refine wpAny_pyNext_tuple_item st (show s.heap.IsTuple a its.toArray from p) (x:=u) (by simpa using hu) fun h' st' sb=>?_
  have I1:Inv X pins σ H {s with heap:=h'}:=I.turned (t':=s.toks) (fun b o hb e=>(sb.2 b hb).trans e) f0 f1 f3 f4 f5
  obtain ⟨o,e,c,d⟩:=id st'
  exact ⟨u,rfl,AH (s:={s with heap:=h'}) e c d (by decide) ⟨x,H,I1,ru,⟨rfl,fun ys hy=>by rw [I.tuple_inj hy hq];exact hx⟩,st',fun b hb=>(hf b hb).1⟩⟩
 done:=by
  intro X hP hw hK hc i pins s σ H E I hf st hg
  subst hP hw hK
  obtain ⟨xs,hq,hx⟩:=hg
  obtain ⟨its,rv,p,hz⟩:=I.tuple hq
  obtain ⟨f0,f1,f2,f3,f4,f5⟩:=hf it (by simp)
  have hl:=rv.length
  exact wpAny_pyNext_tuple_end (I.ok.hd hc) st (show s.heap.IsTuple a its.toArray from p) (by simp;omega) fun h' eb=>⟨rfl,I.turned (t':=s.toks) (fun b o hb e=>eb b o hb e) f0 f1 f3 f4 f5⟩
 self:=fun _ _ _ _ _ st h=>wpAny_pyIter_tupleiter st h
theorem Bj {P:Program}{w:World}{K:PySem.W.Frag}{tg:Expr}(it:Addr) (lo:Int) (n:Nat):Turn P w K tg (Br lo n) [it] it (fun i h=>IsRangeIter h it (lo + (i:Nat) * 1) ((n:Int) - (i:Nat)) 1) where
 mem:=by simp
 obj:=fun i h st b hb=>by
  have e:b=it:=by simpa using hb
  subst e
  exact ⟨_,st,fun v z=>by
   have z':Data.fields _=Data.cell v:=z
   cases z'⟩
 keep:=fun i h h' st k=>k it (by simp) _ st
 item:=by
  intro X hP hw hK hc i pins s σ H E I hf st hg
  subst hP hw hK
  obtain ⟨f0,f1,f2,f3,f4,f5⟩:=hf it (by simp)
  have W:=Walks.range (prog:=X.prog) (w:=X.w) (I.ok.hd hc) it lo 1 n
  refine W.item i s _ _ hg st fun v h' tk hv st' kk=>?_
  obtain ⟨t,rfl⟩:=hv
  have I1:Inv X pins σ H {s with heap:=h',toks:=tk}:=I.turned (fun b o hb e=>kk b o (by simpa using hb) e) f0 f1 f3 f4 f5
  refine ⟨_,rfl,AH (s:={s with heap:=h',toks:=tk}) (n:="range_iterator") st' rfl rfl (by decide) ⟨.int (lo + i),H,I1,⟨t,?_⟩,⟨rfl,rfl⟩,st',fun b hb=>(hf b hb).1⟩⟩
  rw [Int.mul_one]
 done:=by
  intro X hP hw hK hc i pins s σ H E I hf st hg
  subst hP hw hK
  obtain ⟨f0,f1,f2,f3,f4,f5⟩:=hf it (by simp)
  exact wpAny_pyNext_range_end (I.ok.hd hc) st (by have:n<=i:=hg;omega) fun h' eb=>⟨rfl,I.turned (t':=s.toks) (fun b o hb e=>eb b o hb e) f0 f1 f3 f4 f5⟩
 self:=fun _ _ _ _ _ st h=>wpAny_pyIter_rangeiter st h
section
variable {X:Cx}{tg:Expr}
theorem xS {pins:List (Addr×Obj)}{σ:St}{H:Hp}{s:Shared}{R:It->Hp->Prop}{E:Value->Shared->Prop}{lo hi:Int}{t u v:Tok}{tk:Nat}(I:Inv X pins σ H s) (h1:-(2 ^ 62)<=lo) (h2:lo < 2 ^ 62) (h3:-(2 ^ 62)<=hi) (h4:hi < 2 ^ 62)
  (q:R (Br lo (hi - lo).toNat) H):wpAny (model X.prog X.w) X.A (pyIter (.ref s.heap.objs.size)) (Mf X pins σ tg R) E {s with heap:=s.heap.push {cls:=.type "range",data:=.fields #[.int lo t,.int hi u,.int 1 v]},toks:=tk}:=by
 refine wpAny_pyIter_range (IsRange.new ..) (small_one h1 h2 h3 h4) ?_
 have I1:Inv X pins σ H {s with heap:=s.heap.push {cls:=.type "range",data:=.fields #[.int lo t,.int hi u,.int 1 v]},toks:=tk}:=I.kept fun b o e=>Heap.get?_push_of_some _ e
 refine ⟨(s.heap.push {cls:=.type "range",data:=.fields #[.int lo t,.int hi u,.int 1 v]}).objs.size,[(s.heap.push {cls:=.type "range",data:=.fields #[.int lo t,.int hi u,.int 1 v]}).objs.size],_,_,H,rfl,
  I1.kept (t':=tk) fun b o e=>Heap.get?_push_of_some _ e,Bj _ lo (hi - lo).toNat,?_,fun b hb=>?_,q⟩
 ·have e1:lo + ((0:Nat):Int) * 1=lo:=by simp
  have e2:(((hi - lo).toNat:Nat):Int) - ((0:Nat):Int)=Builtin.Range.rangeSize lo hi 1:=by rw [rangeSize_one];split <;> omega
  show IsRangeIter _ _ (lo + ((0:Nat):Int) * 1) ((((hi - lo).toNat:Nat):Int) - ((0:Nat):Int)) 1
  rw [e1,e2]
  exact Heap.get?_push_size _ rfl
 ·have e:b=(s.heap.push {cls:=.type "range",data:=.fields #[.int lo t,.int hi u,.int 1 v]}).objs.size:=by simpa using hb
  subst e
  exact I1.fpOk (Nat.le_refl _) (I1.hok.fresh (Nat.le_refl _))
def Ld (ta:TA):TI:=fun σ H R=>ta σ H fun vs H1=>∃j:Int,vs=[.int j]/\-(2 ^ 62)<=j/\j < 2 ^ 62/\R (Br 0 j.toNat) H1
def Le (ta:TA):TI:=fun σ H R=>ta σ H fun vs H1=>∃i j:Int,vs=[.int i,.int j]/\(-(2 ^ 62)<=i/\i < 2 ^ 62/\-(2 ^ 62)<=j/\j < 2 ^ 62)/\R (Br i (j - i).toNat) H1
theorem CB {a:Expr}{ta:TA}{p pos:Pos}(hg:Gl X "range") (hm:X.mg "range"=none) (ha:PA X [a] ta) (hs:starEach [a] X.env=[(false,eval a X.env)]:=by rfl):PI X tg (.Call (.Name "range" p) [a] [] pos) (Ld ta):=by
 intro pins s σ H R I h
 refine Call_ (lW I hg hm boot_range (PyProof.Rows.callWith_type1 (bM (ha pos pins s σ H _ I h) fun us s1 ⟨vs,H1,I1,r1,q1⟩=>?_) hs rfl))
 obtain ⟨j,e,q1,q2,q⟩:=q1
 subst e
 cases r1 with
 | cons r rr=>
  cases rr
  obtain ⟨t,rfl⟩:=r
  exact call_range_1 (xS I1 (by omega) (by omega) q1 q2 (by simpa using q))
theorem CC {a b:Expr}{ta:TA}{p pos:Pos}(hg:Gl X "range") (hm:X.mg "range"=none) (ha:PA X [a,b] ta) (hs:starEach [a,b] X.env=[(false,eval a X.env),(false,eval b X.env)]:=by rfl) (hs2:starEach [b] X.env=[(false,eval b X.env)]:=by rfl):
  PI X tg (.Call (.Name "range" p) [a,b] [] pos) (Le ta):=by
 intro pins s σ H R I h
 refine Call_ (lW I hg hm boot_range (PyProof.Rows.callWith_type1 (bM (ha pos pins s σ H _ I h) fun us s1 ⟨vs,H1,I1,r1,q1⟩=>?_) (by rw [hs,hs2]) (by rw [hs2];rfl)))
 obtain ⟨i,j,e,⟨q1,q2,q3,q4⟩,q⟩:=q1
 subst e
 cases r1 with
 | cons r rr=>
  cases rr with
  | cons r' rr=>
   cases rr
   obtain ⟨t,rfl⟩:=r
   obtain ⟨t',rfl⟩:=r'
   exact call_range_2 (xS I1 q1 q2 q3 q4 q)
def MU (wi:TI) (g:TG) (tb:TS):TS:=fun D σ H=>wi σ H fun J H1=>∃W:Nat->Nat->St->Hp->Prop,(∃m,W 0 m σ H1)/\∀i m σ H,W i m σ H->
 (J.stop i H/\D.nx σ H)\/(J.go i H/\∃N:St->Hp->Prop,(∀σ' H',N σ' H'->∃m',m' < m/\W (i + 1) m' σ' H')/\∀x H',J.yld i H x H'->g x σ H' fun σ2 H2=>tb {D with nx:=N,ct:=N,bk:=D.nx} σ2 H2)
def oF (fp:List Addr) (h:Heap):List (Addr×Obj):=fp.filterMap fun b=>(h.get? b).map fun o=>(b,o)
theorem jR {fp:List Addr}{h:Heap}{b:Addr}{o:Obj}(hb:b∈fp) (e:h.get? b=some o):(b,o)∈oF fp h:=List.mem_filterMap.mpr ⟨b,hb,by rw [e];rfl⟩
theorem Cf {fp:List Addr}{h:Heap}{p:Addr×Obj}(hp:p∈oF fp h):p.1∈fp/\h.get? p.1=some p.2:=by
 obtain ⟨b,hb,e⟩:=List.mem_filterMap.mp hp
 cases q:h.get? b with
 | none=>rw [q] at e;cases e
 | some o=>
  rw [q] at e
  have e':(b,o)=p:=Option.some.inj e
  subst e'
  exact ⟨hb,q⟩
theorem Inv.pinned {pins:List (Addr×Obj)}{σ:St}{H:Hp}{s:Shared}{fp:List Addr}(I:Inv X pins σ H s) (hf:∀b∈fp,iG X pins H b) (ho:∀b∈fp,∃o,s.heap.get? b=some o/\∀v,o.data≠.cell v):Inv X (pins++oF fp s.heap) σ H s:=
 I.pins_of fun p hp=>(List.mem_append.mp hp).elim (fun z=>I.pin p (List.mem_append_right _ z)) fun z=>by
  obtain ⟨hb,e⟩:=Cf z
  obtain ⟨f0,f1,f2,_⟩:=hf p.1 hb
  obtain ⟨o,e',d⟩:=ho p.1 hb
  rw [e] at e';cases e'
  exact ⟨e,f0,f1,f2,d⟩
theorem Inv.unpinned {pins pl:List (Addr×Obj)}{σ:St}{H:Hp}{s:Shared}(I:Inv X (pins++pl) σ H s):Inv X pins σ H s:=I.pins_of fun p hp=>I.pin p (List.mem_append_right _ (List.mem_append_left _ hp))
theorem Kf {iter:Expr}{body:List Stmt}{wi:TI}{g:TG}{tb:TS}{pos:Pos}(hp:PassesOwn (model X.prog X.w) X.A X.env X.xe) (hc:X.calm=true) (hi:PI X tg iter wi) (hg:PG X tg g) (hb:j5 X body tb)
  (hs:∀x,foldedSetIterable iter X.env x=pure x:=by intro _;rfl):PS X (.For tg iter body [] pos) (MU wi g tb):=by
 intro pins s σ H D I h
 refine wpAny_For (bM (hi pins s σ H _ I h) fun v s1 h1=>bM h1 fun itv s2 h2=>?_) hs
 obtain ⟨it,fp,tn,J,H2,e,I2,T,st2,f2,W,⟨m0,w0⟩,turn⟩:=h2
 subst e
 have stat:∀{H':Hp},(∀b∈fp,H' b=none)->∀b∈fp,iG X pins H' b:=fun hn b hb=>⟨hn b hb,(f2 b hb).2⟩
 refine codeAny_forLoop_any (fun n s'=>∃i σ' H',Inv X pins σ' H' s'/\tn i s'.heap/\(∀b∈fp,H' b=none)/\W i n σ' H') ?_ m0 ⟨0,σ,H2,I2,st2,fun b hb=>(f2 b hb).1,w0⟩
 rintro n s3 ⟨i,σ3,H3,I3,st3,fr3,w3⟩
 rcases turn i n σ3 H3 w3 with ⟨stop,qn⟩ | ⟨go,N,hN,step⟩
 ·refine wpAny_passesOwn hp (bM (T.done X rfl rfl rfl hc i pins s3 σ3 H3 X.xe I3 (stat fr3) st3 stop) fun r s4 ⟨hr,I4⟩=>?_)
  subst hr
  exact wpAny_execs_nil ⟨σ3,H3,I4,qn⟩
 ·refine wpAny_passesOwn hp (bM (T.item X rfl rfl rfl hc i pins s3 σ3 H3 X.xe I3 (stat fr3) st3 go) fun r s4 ⟨u,hr,h4⟩=>?_)
  subst hr
  refine wpAny_passesOwn hp (bM h4 fun _ s5 ⟨x,H5,I5,r5,y5,st5,fr5⟩=>?_)
  have I5':=I5.pinned (stat fr5) (T.obj _ _ st5)
  refine wpAny_passesOwn hp (bM (hg _ s5 σ3 H5 x u _ I5' r5 (step x H5 y5)) fun _ s6 ⟨σ6,H6,I6,q6⟩=>?_)
  refine wpAny_passesOwn hp (bM (hb _ s6 σ6 H6 _ I6 q6) fun f s7 q7=>?_)
  have again:∀{σ7:St}{H7:Hp},Inv X (pins++oF fp s5.heap) σ7 H7 s7->N σ7 H7->∃m,m < n/\∃i σ' H',Inv X pins σ' H' s7/\tn i s7.heap/\(∀b∈fp,H' b=none)/\W i m σ' H':=fun {σ7 H7} I7 n7=>by
   obtain ⟨m',hm,w7⟩:=hN σ7 H7 n7
   refine ⟨m',hm,i + 1,σ7,H7,I7.unpinned,T.keep _ _ _ st5 fun b hb o e=>(I7.pin (b,o) (List.mem_append_right _ (List.mem_append_right _ (jR hb e)))).1,fun b hb=>?_,w7⟩
   obtain ⟨o,e,d⟩:=T.obj _ _ st5 b hb
   exact (I7.pin (b,o) (List.mem_append_right _ (List.mem_append_right _ (jR hb e)))).2.1
  cases f with
  | next=>obtain ⟨σ7,H7,I7,n7⟩:=q7;exact again I7 n7
  | cont=>obtain ⟨σ7,H7,I7,n7⟩:=q7;exact again I7 n7
  | brk=>obtain ⟨σ7,H7,I7,q7⟩:=q7;exact ⟨σ7,H7,I7.unpinned,q7⟩
  | ret v=>obtain ⟨x7,σ7,H7,I7,r7,q7⟩:=q7;exact ⟨x7,σ7,H7,I7.unpinned,r7,q7⟩
end
abbrev R2:=V->V->Hp->VK->Prop
def cY (X:Cx) (f:Value->Value->Sem Value) (r:R2):Prop:=
 ∀(pins:List (Addr×Obj)) (s:Shared) (σ:St) (H:Hp) (x y:V) (v u:Value) (Q:VK),Inv X pins σ H s->RelV x v->RelV y u->r x y H Q->
  wpAny (model X.prog X.w) X.A (f v u) (EP X pins σ Q) X.xe s
def Iq (X:Cx) (f:Value->Sem Value) (r:V->Hp->VK->Prop):Prop:=
 ∀(pins:List (Addr×Obj)) (s:Shared) (σ:St) (H:Hp) (x:V) (v:Value) (Q:VK),Inv X pins σ H s->RelV x v->r x H Q->
  wpAny (model X.prog X.w) X.A (f v) (EP X pins σ Q) X.xe s
def bQ (X:Cx) (f:Value) (r:List V->Hp->VK->Prop):Prop:=
 ∀(pins:List (Addr×Obj)) (s:Shared) (σ:St) (H:Hp) (xs:List V) (us:List Value) (Q:VK),Inv X pins σ H s->Vals xs us->r xs H Q->
  wpAny (model X.prog X.w) X.A (call f us) (EP X pins σ Q) X.xe s
def Mp (X:Cx) (r:V->Hp->(Bool->Hp->Prop)->Prop):Prop:=
 ∀(pins:List (Addr×Obj)) (s:Shared) (σ:St) (H:Hp) (x:V) (v:Value) (Q:Bool->Hp->Prop),Inv X pins σ H s->RelV x v->r x H Q->
  wpAny (model X.prog X.w) X.A (truthy v) (TP X pins σ Q) X.xe s
def C_ (r:R2) (ta tb:TE):TE:=fun σ H Q=>ta σ H fun x H1=>tb σ H1 fun y H2=>r x y H2 Q
def Ng (r:V->Hp->VK->Prop) (ta:TE):TE:=fun σ H Q=>ta σ H fun x H1=>r x H1 Q
def rI (C:Int->Int->Prop) (g:Int->Int->V):R2:=fun x y H Q=>∃i j,x=.int i/\y=.int j/\C i j/\Q (g i j) H
def kH (g:Int->Int->V):R2:=fun x y H Q=>∃i j,x=.int i/\y=.int j/\Q (g i j) H
def rU (g:Int->V):V->Hp->VK->Prop:=fun x H Q=>∃i,x=.int i/\Q (g i) H
section
variable {X:Cx}{a b c:Expr}{ta tb tc:TE}{pos:Pos}
theorem Dy (ha:PE X a ta) (hb:PE X b tb){pins:List (Addr×Obj)}{s:Shared}{σ:St}{H:Hp}{R:V->V->Hp->Prop}(I:Inv X pins σ H s)
  (h:ta σ H fun x H1=>tb σ H1 fun y H2=>R x y H2){Q:Value->Shared->Prop}{f:Value->Value->Sem Value}
  (hf:∀v u s2 x y H2,Inv X pins σ H2 s2->RelV x v->RelV y u->R x y H2->wpAny (model X.prog X.w) X.A (f v u) Q X.xe s2):
  wpAny (model X.prog X.w) X.A (eval a X.env) (fun v s₁=>wpAny (model X.prog X.w) X.A (eval b X.env) (fun u s₂=>wpAny (model X.prog X.w) X.A (f v u) Q X.xe s₂) X.xe s₁) X.xe s:=by
 refine bM (ha pins s σ H _ I h) fun v s1 ⟨x,H1,I1,r1,q1⟩=>?_
 refine bM (hb pins s1 σ H1 _ I1 q1) fun u s2 ⟨y,H2,I2,r2,q2⟩=>?_
 exact hf v u s2 x y H2 I2 r1 r2 q2
theorem LF {op:Operator}{r:R2}(ho:cY X (binaryOp op) r) (ha:PE X a ta) (hb:PE X b tb):PE X (.BinOp a op b pos) (C_ r ta tb):=by
 intro pins s σ H Q I h
 exact wpAny_BinOp (Dy ha hb I h fun v u s2 x y H2 I2 rx ry q=>ho pins s2 σ H2 x y v u Q I2 rx ry q)
theorem LI {op:UnaryOp}{r:V->Hp->VK->Prop}(ho:Iq X (unaryOp op) r) (ha:PE X a ta):PE X (.UnaryOp op a pos) (Ng r ta):=by
 intro pins s σ H Q I h
 exact UnaryOp_ (bM (ha pins s σ H _ I h) fun v s1 ⟨x,H1,I1,r1,q1⟩=>ho pins s1 σ H1 x v Q I1 r1 q1)
theorem FD {f:Value->Value->Sem Value}{C:Int->Int->Prop}{g:Int->Int->Int}
  (rule:∀(i j:Int) (t u:Tok) (s:Shared) (Q:Value->Shared->Prop) (E:Value->Shared->Prop),C i j->Q (.int (g i j) s.toks) {s with toks:=s.toks + 1}->wpAny (model X.prog X.w) X.A (f (.int i t) (.int j u)) Q E s):
  cY X f (rI C fun i j=>.int (g i j)):=by
 intro pins s σ H x y v u Q I rx ry h
 obtain ⟨i,j,rfl,rfl,hc,q⟩:=h
 obtain ⟨t,rfl⟩:=rx
 obtain ⟨t',rfl⟩:=ry
 exact rule i j t t' s _ _ hc ⟨.int (g i j),H,I.tok _,⟨_,rfl⟩,q⟩
theorem Jm {f:Value->Value->Sem Value}{g:Int->Int->Int}
  (rule:∀(i j:Int) (t u:Tok) (s:Shared) (Q:Value->Shared->Prop) (E:Value->Shared->Prop),Q (.int (g i j) s.toks) {s with toks:=s.toks + 1}->wpAny (model X.prog X.w) X.A (f (.int i t) (.int j u)) Q E s):
  cY X f (kH fun i j=>.int (g i j)):=by
 intro pins s σ H x y v u Q I rx ry h
 obtain ⟨i,j,rfl,rfl,q⟩:=h
 obtain ⟨t,rfl⟩:=rx
 obtain ⟨t',rfl⟩:=ry
 exact rule i j t t' s _ _ ⟨.int (g i j),H,I.tok _,⟨_,rfl⟩,q⟩
theorem AR {f:Value->Value->Sem Value}{g:Int->Int->Bool}
  (rule:∀(i j:Int) (t u:Tok) (s:Shared) (Q:Value->Shared->Prop) (E:Value->Shared->Prop),Q (.bool (g i j)) s->wpAny (model X.prog X.w) X.A (f (.int i t) (.int j u)) Q E s):
  cY X f (kH fun i j=>.bl (g i j)):=by
 intro pins s σ H x y v u Q I rx ry h
 obtain ⟨i,j,rfl,rfl,q⟩:=h
 obtain ⟨t,rfl⟩:=rx
 obtain ⟨t',rfl⟩:=ry
 exact rule i j t t' s _ _ ⟨.bl (g i j),H,I,rfl,q⟩
def Mj (i j:Int):Prop:=0 < j/\j < 1073741824
def Mk (i j:Int):Prop:=0<=j/\j<=1000000/\i.natAbs < 2 ^ 64
def zW (i j:Int):Prop:=(-(2 ^ 64) < i/\i < 2 ^ 64)\/(-(2 ^ 64) < j/\j < 2 ^ 64)
theorem zW.ok {i j:Int}(h:zW i j):IntMulOk i j:=by
 rcases h with ⟨h1,h2⟩ | ⟨h1,h2⟩
 ·exact .of_left (intBits_le_64 h1 h2)
 ·exact .of_right (intBits_le_64 h1 h2)
theorem Cg:cY X (binaryOp .Add) (kH fun i j=>.int (i + j)):=Jm fun _ _ _ _ _ _ _ q=>add_int q
theorem Jt:cY X (binaryOp .Sub) (kH fun i j=>.int (i - j)):=Jm fun _ _ _ _ _ _ _ q=>sub_int q
theorem Jq:cY X (binaryOp .Mult) (rI zW fun i j=>.int (i * j)):=FD fun _ _ _ _ _ _ _ hc q=>mul_int q hc.ok
theorem GP:cY X (binaryOp .FloorDiv) (rI Mj fun i j=>.int (i / j)):=FD fun i j _ _ _ _ _ hc q=>by
 have h1:(0:Int) < j:=hc.1
 have h2:j < 1073741824:=hc.2
 exact floordiv_int (by omega) (by rw [Int.fdiv_eq_ediv_of_nonneg i (by omega)];exact q) (.inl (PyProof.noPylong_small (by omega)))
theorem Jp:cY X (binaryOp .Mod) (rI (fun _ j=>0 < j) fun i j=>.int (i % j)):=FD fun i j _ _ _ _ _ hc q=>by
 have h1:(0:Int) < j:=hc
 exact mod_int' (by omega) (by rw [Int.fmod_eq_emod_of_nonneg i (by omega)];exact q)
theorem Js:cY X (binaryOp .Pow) (rI Mk fun i j=>.int (i ^ j.toNat)):=FD fun _ _ _ _ _ _ _ hc q=>pow_int_small hc.1 hc.2.1 hc.2.2 q
theorem zV {f:Value->Sem Value}{g:Int->Int}
  (rule:∀(i:Int) (t:Tok) (s:Shared) (Q:Value->Shared->Prop) (E:Value->Shared->Prop),Q (.int (g i) s.toks) {s with toks:=s.toks + 1}->wpAny (model X.prog X.w) X.A (f (.int i t)) Q E s):
  Iq X f (rU fun i=>.int (g i)):=by
 intro pins s σ H x v Q I rx h
 obtain ⟨i,rfl,q⟩:=h
 obtain ⟨t,rfl⟩:=rx
 exact rule i t s _ _ ⟨.int (g i),H,I.tok _,⟨_,rfl⟩,q⟩
theorem K3:Iq X (unaryOp .USub) (rU fun i=>.int (-i)):=zV fun _ _ _ _ _ q=>neg_int q
theorem vN:cY X (compareOp .Lt) (kH fun i j=>.bl (decide (i < j))):=AR fun _ _ _ _ _ _ _ q=>lt_int q
theorem FE:cY X (compareOp .LtE) (kH fun i j=>.bl (decide (i<=j))):=AR fun _ _ _ _ _ _ _ q=>le_int q
theorem oZ:cY X (compareOp .Gt) (kH fun i j=>.bl (decide (j < i))):=AR fun _ _ _ _ _ _ _ q=>gt_int q
theorem Lq:cY X (compareOp .GtE) (kH fun i j=>.bl (decide (j<=i))):=AR fun _ _ _ _ _ _ _ q=>ge_int q
theorem cY.or {f:Value->Value->Sem Value}{r r':R2}(h:cY X f r) (h':cY X f r'):cY X f (fun x y H Q=>r x y H Q\/r' x y H Q):=by
 intro pins s σ H x y v u Q I rx ry q
 rcases q with q | q
 ·exact h pins s σ H x y v u Q I rx ry q
 ·exact h' pins s σ H x y v u Q I rx ry q
theorem xF (b:Expr){op:CmpOp}(h:op≠.In:=by decide) (h2:op≠.NotIn:=by decide):behindInMarks op b=false:=by
 have e1:(op == CmpOp.In)=false:=by cases op <;> first | rfl | exact absurd rfl h
 have e2:(op == CmpOp.NotIn)=false:=by cases op <;> first | rfl | exact absurd rfl h2
 cases b <;> simp [behindInMarks,e1,e2]
theorem Ho {op:CmpOp}{r:R2}(ho:cY X (compareOp op) r) (ha:PE X a ta) (hb:PE X b tb) (hm:behindInMarks op b=false):PE X (.Compare a [op] [b] pos) (C_ r ta tb):=by
 intro pins s σ H Q I h
 exact wpAny_Compare1 (Dy ha hb I h fun v u s2 x y H2 I2 rx ry q=>ho pins s2 σ H2 x y v u Q I2 rx ry q) hm
def FO (t:TE):TT:=fun σ H Q=>t σ H fun x H'=>∃k,x=.bl k/\Q k H'
theorem HB {op:CmpOp}{r:R2}(ho:cY X (compareOp op) r) (ha:PE X a ta) (hb:PE X b tb) (hm:behindInMarks op b=false):PT X (.Compare a [op] [b] pos) (FO (C_ r ta tb)):=by
 intro pins s σ H Q I h
 refine wpAny_isTrue_Compare1 (bM (ha pins s σ H _ I h) fun v s1 ⟨x,H1,I1,r1,q1⟩=>bM (hb pins s1 σ H1 _ I1 q1) fun u s2 ⟨y,H2,I2,r2,q2⟩=>
  bM (ho pins s2 σ H2 x y v u _ I2 r1 r2 q2) fun c s3 ⟨z,H3,I3,r3,k,e,q3⟩=>?_) hm
 subst e
 cases r3
 exact wpAny_truthy_bool ⟨H3,I3,q3⟩
def CZ (r r':R2) (ta tb tc:TE):TE:=fun σ H Q=>ta σ H fun x H1=>tb σ H1 fun y H2=>r x y H2 fun z H3=>∃k,z=.bl k/\
 (if k=true then tc σ H3 fun w' H4=>r' y w' H4 Q else Q (.bl false) H3)
theorem EM {op op':CmpOp}{r r':R2}(ho:cY X (compareOp op) r) (ho':cY X (compareOp op') r') (ha:PE X a ta) (hb:PE X b tb) (hc:PE X c tc)
  (hm:lastMarks [op,op'] [b,c]=false:=by with_unfolding_all rfl):PT X (.Compare a [op,op'] [b,c] pos) (FO (CZ r r' ta tb tc)):=by
 intro pins s σ H Q I h
 refine isTrue_chain (bM (ha pins s σ H _ I h) fun v s1 ⟨x,H1,I1,r1,q1⟩=>test_link (bM (hb pins s1 σ H1 _ I1 q1) fun u s2 ⟨y,H2,I2,r2,q2⟩=>
  bM (ho pins s2 σ H2 x y v u _ I2 r1 r2 q2) fun d s3 ⟨z,H3,I3,r3,k,e,q3⟩=>?_)) hm
 subst e
 cases r3
 refine wpAny_truthy_bool ?_
 cases k with
 | false=>
  obtain ⟨k',e',q'⟩:=q3
  cases e'
  exact ite_ff ⟨H3,I3,q'⟩
 | true=>
  refine ite_tt (test_last (bM (hc pins s3 σ H3 _ I3 q3) fun w' s4 ⟨z',H4,I4,r4,q4⟩=>bM (ho' pins s4 σ H4 y z' u w' _ I4 r2 r4 q4) fun d' s5 ⟨z2,H5,I5,r5,k2,e2,q5⟩=>?_))
  subst e2
  cases r5
  exact wpAny_truthy_bool ⟨H5,I5,q5⟩
def Dt (K:W.Frag) (x:V) (H:Hp) (k:Bool):Prop:=
 match x with
 | .non=>k=false
 | .bl b=>k=b
 | .int i=>k=(i != 0)
 | .str y=>y.length<=sizeLine/\k=((y.length:Int) != 0)
 | .byt y=>y.size<=sizeLine/\k=((y.size:Int) != 0)
 | .ref p=>(∃xs,bZ K H p xs/\k=!xs.isEmpty)\/(∃xs,cQ K H p xs/\k=!xs.isEmpty)\/∃kvs,H p=some (.dK kvs)/\k=!kvs.isEmpty
 | _=>False
theorem AI {κ:Type}{kvs:List (κ×V)}{vs:List (κ×Value)}(r:KV kvs vs):(!vs.isEmpty)=!kvs.isEmpty:=by
 cases r <;> rfl
theorem rP {xs:List V}{its:List Value}(r:Vals xs its):(!its.toArray.isEmpty)=!xs.isEmpty:=by
 cases r <;> simp
theorem lY:(sizeLine:Nat) < 2 ^ 63:=by rw [sizeLine_eq];decide
theorem KS:Mp X (fun x H Q=>∃k,Dt X.K x H k/\Q k H):=by
 intro pins s σ H x v Q I rx h
 obtain ⟨k,e,q⟩:=h
 have hl:=lY
 have hs:sizeLine=16777216:=sizeLine_eq
 cases x with
 | non=>
  cases rx
  have e':k=false:=e
  subst e'
  exact truthy_none ⟨H,I,q⟩
 | bl b=>
  cases rx
  have e':k=b:=e
  subst e'
  exact wpAny_truthy_bool ⟨H,I,q⟩
 | int i=>
  obtain ⟨t,rfl⟩:=rx
  have e':k=(i != 0):=e
  subst e'
  exact PySem.P.truthy_int ⟨H,I,q⟩
 | str y=>
  obtain ⟨t,rfl⟩:=rx
  obtain ⟨hy,e'⟩:y.length<=sizeLine/\k=((y.length:Int) != 0):=e
  subst e'
  exact PySem.P.truthy_str (by omega) ⟨H,I.tok _,q⟩
 | byt y=>
  obtain ⟨t,rfl⟩:=rx
  obtain ⟨hy,e'⟩:y.size<=sizeLine/\k=((y.size:Int) != 0):=e
  subst e'
  exact W.truthy_bytes (by omega) ⟨H,I.tok _,q⟩
 | ref p=>
  cases rx
  have e':(∃xs,bZ X.K H p xs/\k=!xs.isEmpty)\/(∃xs,cQ X.K H p xs/\k=!xs.isEmpty)\/∃kvs,H p=some (.dK kvs)/\k=!kvs.isEmpty:=e
  rcases e' with ⟨xs,hx,e'⟩ | ⟨xs,hx,e'⟩ | ⟨kvs,hx,e'⟩
  ·subst e'
   obtain ⟨its,r,pl,hz⟩:=I.list hx
   have hlen:=r.length
   exact wpAny_truthy_list pl.isList (by simp only [List.size_toArray];omega) ⟨H,I.tok _,by rw [rP r];exact q⟩
  ·subst e'
   obtain ⟨its,r,pl,hz⟩:=I.tuple hx
   have hlen:=r.length
   exact truthy_tuple pl (by simp only [List.size_toArray];omega) ⟨H,I.tok _,by rw [rP r];exact q⟩
  ·subst e'
   obtain ⟨hz,hS,vs,r,m⟩:kvs.length<=sizeLine/\(p == sysModules)=false/\∃vs,KV kvs vs/\s.heap.DictOf (tU X.prog X.w) p vs:=I.hok p _ hx
   have hlen:kvs.length=vs.length:=Paired.length r
   exact wpAny_truthy_dict hS m (by omega) ⟨H,I.tok _,by rw [AI r];exact q⟩
 | _=>exact (show False from e).elim
theorem EN (ha:PE X a ta) (he:∀whole,isTrue a X.env whole=(do let v <-whole;standAt a.pos;holding [v] (truthy v))):
  PT X a (fun σ H Q=>ta σ H fun x H'=>∃k,Dt X.K x H' k/\Q k H'):=by
 intro pins s σ H Q I h
 exact isTrue_plain (bM (ha pins s σ H _ I h) fun v s1 ⟨x,H1,I1,r1,q1⟩=>KS pins s1 σ H1 x v Q I1 r1 q1) (he _)
theorem rY:cY X (binaryOp .Add) (fun x y H Q=>∃i j,x=.str i/\y=.str j/\i.length + j.length<=sizeLine/\Q (.str (i++j)) H):=by
 intro pins s σ H x y v u Q I rx ry h
 obtain ⟨i,j,rfl,rfl,hz,q⟩:=h
 obtain ⟨t,rfl⟩:=rx
 obtain ⟨t',rfl⟩:=ry
 exact add_str (fun t' tk=>⟨.str (i++j),H,I.tok _,⟨_,rfl⟩,q⟩) hz
theorem vals1 {x:V}{us:List Value}(r:Vals [x] us):∃u,us=[u]/\RelV x u:=by
 cases r with
 | cons r1 r2=>cases r2;exact ⟨_,rfl,r1⟩
theorem vals2 {x y:V}{us:List Value}(r:Vals [x,y] us):∃u w',us=[u,w']/\RelV x u/\RelV y w':=by
 cases r with
 | cons r1 r2=>
  cases r2 with
  | cons r3 r4=>cases r4;exact ⟨_,_,rfl,r1,r3⟩
end
structure dS (k:Nat) (A:Around):Prop where
 hd:A.handled=none
 dp:A.depth + 3 * k + 5 < recursionLimit
 un:A.units + 16 * k + 200 < cLine
theorem dS.mono {j k:Nat}{A:Around}(r:dS k A) (h:j<=k):dS j A:=⟨r.hd,by have:=r.dp;omega,by have:=r.un;omega⟩
theorem dS.deeper {k:Nat}{A:Around}(r:dS (k + 1) A) (env:Env):dS k (A.deeper env):=
 ⟨r.hd,by have:=r.dp;show A.depth + 1 + 3 * k + 5 < _;omega,by have:=r.un;show A.units + 3 + 16 * k + 200 < _;omega⟩
theorem dS.depth {k:Nat}{A:Around}(r:dS k A):A.depth < recursionLimit:=by have:=r.dp;omega
theorem dS.units {k:Nat}{A:Around}(r:dS k A):A.units + 64 < cLine:=by have:=r.un;omega
def Bf:TA:=fun _ H Q=>Q [] H
def LZ (ta:TE) (tr:TA):TA:=fun σ H Q=>ta σ H fun x H1=>tr σ H1 fun xs H2=>Q (x::xs) H2
section
variable {X:Cx}{e:Expr}{es:List Expr}{te:TE}{t:TA}{pos:Pos}
theorem jd:PA X [] Bf:=fun _ _ _ _ H Q I h=>Calls.spliced_nil ⟨[],H,I,.nil,h⟩
theorem gm (ha:PE X e te) (hr:PA X es t) (hs:starEach (e::es) X.env=(false,eval e X.env)::starEach es X.env:=by rfl):PA X (e::es) (LZ te t):=by
 intro pos pins s σ H Q I h
 rw [hs]
 show wpAny _ _ (spliced ((false,eval e X.env)::backTo pos (starEach es X.env))) _ _ s
 refine Calls.spliced_cons (bM (ha pins s σ H _ I h) fun u s1 ⟨x,H1,I1,r1,q1⟩=>?_)
 exact bM (hr pos pins s1 σ H1 _ I1 q1) fun us s2 ⟨xs,H2,I2,r2,q2⟩=>⟨x::xs,H2,I2,.cons r1 r2,q2⟩
def M1 (t:TA):TE:=fun σ H Q=>t σ H fun xs H1=>xs.length<=sizeLine/\∀p,H1 p=none->Q (.ref p) (upd H1 p (.tup xs))
def MW (t:TA):TE:=fun σ H Q=>t σ H fun xs H1=>xs.length<=sizeLine/\∀p,H1 p=none->Q (.ref p) (upd H1 p (.lst xs))
theorem J_ {x1}(h:PA X es t):PE X (.Tuple es x1 pos) (M1 t):=by
 intro pins s σ H Q I hq
 refine wpAny_Tuple_spliced (bM (h pos pins s σ H _ I hq) fun us s1 ⟨xs,H1,I1,r,z,q⟩=>⟨by rw [<-r.length];exact z,?_⟩)
 have hf:H1 s1.heap.objs.size=none:=I1.hok.fresh (Nat.le_refl _)
 refine ⟨.ref s1.heap.objs.size,upd H1 s1.heap.objs.size (.tup xs),I1.laid (t':=s1.toks) (fun b u e=>Heap.get?_push_of_some _ e) (Nat.le_refl _) ?_,rfl,q _ hf⟩
 exact ⟨z,us,r,⟨_,Heap.get?_push_size _ rfl,rfl,_,rfl⟩⟩
theorem JX (h:PA X es t):PE X (.List es pos) (MW t):=by
 intro pins s σ H Q I hq
 refine wpAny_List_spliced (bM (h pos pins s σ H _ I hq) fun us s1 ⟨xs,H1,I1,r,z,q⟩=>⟨by rw [<-r.length];exact z,?_⟩)
 have hf:H1 s1.heap.objs.size=none:=I1.hok.fresh (Nat.le_refl _)
 refine ⟨.ref s1.heap.objs.size,upd H1 s1.heap.objs.size (.lst xs),I1.laid (t':=s1.toks) (fun b u e=>Heap.get?_push_of_some _ e) (Nat.le_refl _) ?_,rfl,q _ hf⟩
 exact ⟨z,us,0,r,Heap.get?_push_size _ rfl⟩
end
abbrev Sp:=List V->Hp->VK->XK->Prop
abbrev pI:=List Env->Hp->Shared->XK->Value->Shared->Prop
structure zY (P:Program) (w:World) (K:W.Frag) (mg:Str->Option Value) (base:Heap) (A:Around) (outer:List Env) (s:Shared) (H:Hp):Prop where
 frames:A.frames=some outer
 mod:Mod K mg base
 bs:∀b o,base.get? b=some o->s.heap.get? b=some o/\H b=none
 bsz:base.objs.size<=s.heap.objs.size
 funs:s.heap.FunFrames base outer
 frf:∀b∈frs outer,H b=none
 hok:fV P w H s.heap
 bare:AllBare s.gens
def CE (outer:List Env) (P:Program) (w:World) (H:Hp) (s:Shared) (Q:VK) (u:Value) (s':Shared):Prop:=
 ∃v H',s'.os=s.os/\AllBare s'.gens/\Un (frs outer) [] H H' s.heap s'.heap/\fV P w H' s'.heap/\RelV v u/\Q v H'
def CR (CX:pI) (outer:List Env) (P:Program) (w:World) (H:Hp) (s:Shared) (Q:VK) (E:XK) (r:Result) (s':Shared):Prop:=
 match r with
 | .ok (.ret u)=>CE outer P w H s Q u s'
 | .ok _=>False
 | .error e=>CX outer H s E e s'
structure jl (P:Program) (w:World) (K:W.Frag) (mg:Str->Option Value) (base:Heap) (CX:pI) (k:Nat) (f:Addr) (fd:FuncData) (ps:List Str) (sp:Sp):Prop where
 len:∀vs H Q E,sp vs H Q E->vs.length=ps.length
 run:∀(A:Around) (outer:List Env) (s:Shared) (H:Hp) (args:Args) (us:List Value) (vs:List V) (Q:VK) (E:XK),dS k A->zY P w K mg base A outer s H->BindsTo s fd args (ps.zip us)->Vals vs us->sp vs H Q E->
  codeAny (model P w) A (.call (.ref f) args) (CR CX outer P w H s Q E) s
section
variable {X:Cx}{pins:List (Addr×Obj)}{σ:St}{H:Hp}{s s':Shared}
theorem Inv.env0 (I:Inv X pins σ H s):zY X.prog X.w X.K X.mg X.base X.A X.stack s H:=
 ⟨I.ok.frames,I.ok.mod,I.bs,Nat.le_trans I.ok.bsz I.sz,I.stack,I.stkFree,I.hok,I.bare⟩
theorem Inv.after {Q:VK}{u:Value}(I:Inv X pins σ H s) (h:CE X.stack X.prog X.w H s Q u s'):EP X pins σ Q u s':=by
 obtain ⟨v,H',os,bare,un,hok,r,q⟩:=h
 obtain ⟨hh,g,d,t,os'⟩:=s'
 obtain rfl:os'=s.os:=os
 exact ⟨v,H',I.call (h':=hh) (g':=g) (d':=d) (t':=t) (ch:=[]) un hok bare (fun b z=>absurd z (by simp)),r,q⟩
end
def LY (sp:Sp) (dvs:List V) (E:XK) (t:TA):TE:=fun σ H Q=>t σ H fun vs H1=>sp (vs++dvs) H1 Q E
def Binds (K:W.Frag) (fd:FuncData) (ps:List Str) (ds:List Value):Prop:=
 ∀(s:Shared) (us:List Value),K.In s.heap->(us++ds).length=ps.length->BindsTo s fd ⟨us,[]⟩ (ps.zip (us++ds))
theorem Binds.all {K:W.Frag}{fd:FuncData}{ps:List Str}(h:∀us:List Value,us.length=ps.length->bindArgs fd ⟨us,[]⟩=pure (ps.zip us)):Binds K fd ps []:=fun s us _ hl=>by
 rw [List.append_nil] at hl ⊢
 exact .of_eq (h us hl)
def Passes (CX:pI) (X:Cx) (E:XK):Prop:=∀(pins:List (Addr×Obj)) (σ:St) (H:Hp) (s:Shared) (e:Value) (s':Shared),Inv X pins σ H s->CX X.stack H s E e s'->X.xe e s'
section
variable {X:Cx}{CX:pI}{k:Nat}{f C:Addr}{fd:FuncData}{ps:List Str}{sp:Sp}{dvs:List V}{ds:List Value}{E:XK}{x m:Str}{p pos apos:Pos}{e o:Expr}{es:List Expr}{ta:TE}{t:TA}
theorem KI {pins:List (Addr×Obj)}{σ:St}{H:Hp}{s:Shared}{Q:VK}{us:List Value}{vs:List V}(F:jl X.prog X.w X.K X.mg X.base CX k f fd ps sp) (hr:dS k X.A) (hb:Binds X.K fd ps ds) (hd:Vals dvs ds) (hx:Passes CX X E)
  (I:Inv X pins σ H s) (r:Vals vs us) (h:sp (vs++dvs) H Q E):wpAny (model X.prog X.w) X.A (call (.ref f) us) (EP X pins σ Q) X.xe s:=by
 have r2:Vals (vs++dvs) (us++ds):=r.append hd
 have hl:(us++ds).length=ps.length:=by rw [<-r2.length];exact F.len _ _ _ _ h
 refine wpAny_call (codeAny_mono (F.run X.A X.stack s H ⟨us,[]⟩ (us++ds) (vs++dvs) Q E hr I.env0 (hb s us I.kIn hl) r2 h) fun r s' hq=>?_)
 cases r with
 | error e=>exact hx pins σ H s e s' I hq
 | ok fl=>
  cases fl with
  | ret u=>exact I.after hq
  | next=>exact False.elim hq
  | brk=>exact False.elim hq
  | cont=>exact False.elim hq
theorem Hl (F:jl X.prog X.w X.K X.mg X.base CX k f fd ps sp) (hr:dS k X.A) (hg:Gl X x) (hm:X.mg x=some (.ref f)) (hk:W.keepIn X.K (.ref f)=true) (hb:Binds X.K fd ps ds) (hd:Vals dvs ds) (hx:Passes CX X E)
  (ha:PA X (e::es) t) (hdb:(x == ("__debug__":Str))=false:=by decide) (he:starEach (e::es) X.env=(false,eval e X.env)::starEach es X.env:=by rfl) (hpl:(backTo pos (starEach es X.env)).any (·.1)=false:=by rfl):
  PE X (.Call (.Name x p) (e::es) [] pos) (LY sp dvs E t):=by
 intro pins s σ H Q I h
 refine wpAny_Call_Name_kw (zx I hg hm ?_ hdb)
 refine W.callWith_K (h₀:=X.base) I.ok.mod.kin hk (bM (ha pos pins s σ H _ I h) fun us s1 ⟨vs,H1,I1,r,q⟩=>⟨I1.kIn,?_⟩) he hpl
 exact KI F hr hb hd hx I1 r q
end
structure bC (N P:List Str) (sc:Scope):Prop where
 kind:sc.kind=.function
 co:sc.isCoroutine=false
 gen:sc.isGenerator=false
 nd:N.Nodup
 pre:N.take P.length=P
 par:∀x∈P,sc.names.lookup x=some .local\/sc.names.lookup x=some .cell
 nofree:∀y∈sc.names,y.2≠.free
theorem ud {kindOf:Str->Option NameKind}{x:Str}:∀{binds:List (Str×Value)}{m:Str->Option Value},(∀v,(x,v)∉binds)->bindL kindOf binds m x=m x
 | [],_,_=>rfl
 | (n,v)::r,m,h=>by
  unfold bindL
  rw [ud fun w hw=>h w (List.mem_cons_of_mem _ hw)]
  split
  ·have:x≠n:=by rintro rfl;exact h v List.mem_cons_self
   simp [this]
  ·rfl
theorem ua {kindOf:Str->Option NameKind}{x:Str}:∀{binds:List (Str×Value)}{m:Str->Option Value},(∀v,(x,v)∉binds)->bindC kindOf binds m x=m x
 | [],_,_=>rfl
 | (n,v)::r,m,h=>by
  unfold bindC
  rw [ua fun w hw=>h w (List.mem_cons_of_mem _ hw)]
  split
  ·rfl
  ·have:x≠n:=by rintro rfl;exact h v List.mem_cons_self
   simp [this]
theorem uc {kindOf:Str->Option NameKind}{x:Str}{v:Value}:∀{P:List Str}{vs:List Value}{i:Nat}{m:Str->Option Value},P.Nodup->P[i]?=some x->vs[i]?=some v->kindOf x=some .local->
  bindL kindOf (P.zip vs) m x=some v
 | [],_,_,_,_,h,_,_=>by simp at h
 | _::_,[],_,_,_,_,h,_=>by simp at h
 | p::P,w::vs,0,m,nd,h1,h2,hk=>by
  simp at h1 h2;subst h1;subst h2
  show bindL kindOf ((p,w)::P.zip vs) m p=_
  unfold bindL
  rw [ud fun v hv=>(List.nodup_cons.mp nd).1 (List.of_mem_zip hv).1,if_pos hk]
  simp
 | p::P,w::vs,i + 1,m,nd,h1,h2,hk=>by
  show bindL kindOf ((p,w)::P.zip vs) m x=_
  unfold bindL
  exact uc (i:=i) (List.nodup_cons.mp nd).2 (by simpa using h1) (by simpa using h2) hk
theorem t_ {kindOf:Str->Option NameKind}{x:Str}{v:Value}:∀{P:List Str}{vs:List Value}{i:Nat}{m:Str->Option Value},P.Nodup->P[i]?=some x->vs[i]?=some v->kindOf x≠some .local->
  bindC kindOf (P.zip vs) m x=some v
 | [],_,_,_,_,h,_,_=>by simp at h
 | _::_,[],_,_,_,_,h,_=>by simp at h
 | p::P,w::vs,0,m,nd,h1,h2,hk=>by
  simp at h1 h2;subst h1;subst h2
  show bindC kindOf ((p,w)::P.zip vs) m p=_
  unfold bindC
  rw [ua fun v hv=>(List.nodup_cons.mp nd).1 (List.of_mem_zip hv).1,if_neg hk]
  simp
 | p::P,w::vs,i + 1,m,nd,h1,h2,hk=>by
  show bindC kindOf ((p,w)::P.zip vs) m x=_
  unfold bindC
  exact t_ (i:=i) (List.nodup_cons.mp nd).2 (by simpa using h1) (by simpa using h2) hk
def start (N:List Str) (vs:List V):St:=vs.map some++List.replicate (N.length - vs.length) none
def qb (CX:pI) (P:Program) (w:World) (K:W.Frag) (mg:Str->Option Value) (base:Heap) (N:List Str) (qual:Str) (scope:Scope) (f:Addr) (cd:Value) (A:Around) (outer:List Env) (s:Shared) (H:Hp) (E:XK):Cx where
 prog:=P
 w:=w
 K:=K
 mg:=mg
 base:=base
 A:=A.deeper (envOfC qual scope s.heap.objs.size f cd)
 N:=N
 s₀:=s
 H₀:=H
 env:=envOfC qual scope s.heap.objs.size f cd
 outer:=outer
 stack:=envOfC qual scope s.heap.objs.size f cd::outer
 ex:=[]
 calm:=true
 fn:=fun _=>true
 pn:=[]
 xe:=fun e s'=>wpAny (model P w) (A.deeper (envOfC qual scope s.heap.objs.size f cd)) (leaving (envOfC qual scope s.heap.objs.size f cd) e) (fun _ s''=>CX outer H s E e s'') (fun e' s''=>CX outer H s E e' s'') s'
theorem wV {sc:Scope}{n:Nat}{x:Str}(h:sc.names.lookup x=some .cell):∃c,(cellsFrom n sc.names []).lookup x=some c:=by
 have q:=W.cellsFrom_some sc.names n [] (.inl h)
 exact Option.isSome_iff_exists.mp q
theorem B6 {CX:pI}{P:Program}{w:World}{K:W.Frag}{mg:Str->Option Value}{base:Heap}{N ps:List Str}{qual:Str}{scope:Scope}{f:Addr}{cd:Value}{A:Around}{outer:List Env}{s s1:Shared}{H:Hp}{E:XK}{us:List Value}{vs:List V}
  (S:bC N ps scope) (hd:A.handled=none) (e0:zY P w K mg base A outer s H) (hl:vs.length=ps.length) (r:Vals vs us)
  (x:InCallC s s.heap.objs.size (bindL (envOfC qual scope s.heap.objs.size f cd).kindOf (ps.zip us) fun _=>none) (cellsFrom (s.heap.objs.size + 1) scope.names []) (bindC (envOfC qual scope s.heap.objs.size f cd).kindOf (ps.zip us) fun _=>none) s1):
  Inv (qb CX P w K mg base N qual scope f cd A outer s H E) [] (start N vs) H s1:=by
 have hpl:ps.length<=N.length:=by have:=congrArg List.length S.pre;rw [List.length_take] at this;omega
 obtain ⟨h1,tk,rfl,hk⟩:=x.done
 have noA:∀b:Addr,b∉(qb CX P w K mg base N qual scope f cd A outer s H E).ex:=fun b z=>absurd (show b∈([]:List Addr) from z) (by simp)
 refine ⟨⟨e0.mod,S.kind,rfl,rfl,Nat.le_refl _,fun y z c h1 h2=>?_,fun y hy=>?_,fun y c _ h=>?_,fun _=>hd,Around.frames_deeper e0.frames,.inr ⟨rfl,rfl⟩,fun b z=>absurd z (noA b),e0.bs,e0.bsz,fun b _ _=>noA b,fun b z=>absurd z (noA b),e0.funs,e0.frf⟩,
  rfl,e0.bare,Un.kept hk,⟨_,x.toInCall.ns,fun i y v h1 h2 h3=>?_⟩,fun y c h=>⟨_,x.cell y c h⟩,e0.hok.fresh (Nat.le_refl _),fun y c h=>?_,fun p hp=>absurd (show p∈([]:List (Addr×Obj)) from hp) (by simp),e0.hok.kept hk,?_⟩
 ·exact name_of_addr x.apart (PySem.mem_of_lookup h1) (PySem.mem_of_lookup h2)
 ·have hy:scope.names.lookup y=some .cell\/scope.names.lookup y=some .free:=hy
  rcases hy with hy | hy
  ·exact wV hy
  ·exact absurd rfl (S.nofree _ (PySem.mem_of_lookup hy))
 ·exact Nat.le_of_lt (x.above y c (PySem.mem_of_lookup h))
 ·have hi:i < vs.length:=by
   unfold start at h2
   by_cases hi:i < vs.length
   ·exact hi
   ·rw [List.getElem?_append_right (by simpa using hi)] at h2
    rw [List.getElem?_replicate] at h2
    split at h2 <;> cases h2
  have ha:vs[i]?=some v:=by
   unfold start at h2
   rw [List.getElem?_append_left (by simpa using hi),List.getElem?_map] at h2
   cases e:vs[i]? with
   | none=>rw [e] at h2;cases h2
   | some a=>rw [e] at h2;cases h2;rfl
  obtain ⟨u,hu,rv⟩:=r.get ha
  have hp:ps[i]?=some y:=by
   rw [<-S.pre,List.getElem?_take_of_lt (by omega)];exact h1
  have ndP:ps.Nodup:=by rw [<-S.pre];exact S.nd.sublist (List.take_sublist _ _)
  refine ⟨u,rv,?_⟩
  rcases S.par y (List.mem_of_getElem? hp) with k | k
  ·exact .inl ⟨k,uc ndP hp hu k⟩
  ·obtain ⟨c,e⟩:=wV (n:=s.heap.objs.size + 1) k
   refine .inr ⟨.inl k,c,e,?_⟩
   have q:=x.cell y c e
   rw [t_ ndP hp hu (by show scope.names.lookup y≠_;rw [k];decide)] at q
   exact q
 ·exact e0.hok.fresh (Nat.le_of_lt (x.above y c (PySem.mem_of_lookup h)))
 ·unfold start
  show _=N.length
  rw [List.length_append,List.length_map,List.length_replicate]
  omega
theorem Lc {CX:pI}{P:Program}{w:World}{K:W.Frag}{mg:Str->Option Value}{base:Heap}{k:Nat}{f:Addr}{name qual:Str}{params:Arguments}{body:List Stmt}{scope:Scope}{dV kV doc pm cdv ct oc:Value}{an od:Option Addr}
  {osl:Array (Option Value)}{N ps:List Str}{sp:Sp}(lk:K.lookup f=some ⟨oc,od,.func (W.fnOf name qual params body scope dV kV doc pm an cdv ct),osl⟩) (hcd:W.codeIn K cdv qual=true) (S:bC N ps scope)
  (len:∀vs H Q E,sp vs H Q E->vs.length=ps.length)
  (hbody:∀(A:Around) (outer:List Env) (s:Shared) (H:Hp) (vs:List V) (Q:VK) (E:XK),dS k (A.deeper (envOfC qual scope s.heap.objs.size f cdv))->sp vs H Q E->
   ∃t,j5 (qb CX P w K mg base N qual scope f cdv A outer s H E) body t/\t {nx:=fun _ H'=>Q .non H',rt:=Q} (start N vs) H):
  jl P w K mg base CX (k + 1) f (W.fnOf name qual params body scope dV kV doc pm an cdv ct) ps sp:=by
 refine ⟨len,fun A outer s H args us vs Q E hr e0 hb r NI=>?_⟩
 have hl:=len _ _ _ _ NI
 have KX:K.In s.heap:=e0.mod.kin.keeps fun b o e=>(e0.bs b o e).1
 have lim:s.heap.NoLimit:=e0.mod.nolimit.keeps fun b o e=>(e0.bs b o e).1
 have hkind:∀y∈ps.zip us,scope.names.lookup y.1=some .local\/(scope.names.lookup y.1=some .cell/\((cellsFrom (s.heap.objs.size + 1) scope.names []).lookup y.1).isSome=true):=fun ⟨n,v⟩ hy=>by
  rcases S.par n (List.of_mem_zip hy).1 with q | q
  ·exact .inl q
  ·exact .inr ⟨q,W.cellsFrom_some _ _ _ (.inl q)⟩
 refine codeAny_call_function hr.depth (KX _ _ lk) rfl S.co S.gen rfl (W.codeRec_of KX hcd) (hb _ _ _ _ ?_)
 refine wpAny_newFunctionEnv_cells S.kind hkind fun env he s1 x=>?_
 subst he
 refine ⟨lim.keeps x.toInCall.keep,codeAny_func ?_⟩
 obtain ⟨t,ht,hq⟩:=hbody A outer s H vs Q E (hr.deeper _) NI
 have I:Inv (qb CX P w K mg base N qual scope f cdv A outer s H E) [] (start N vs) H s1:=B6 S hr.hd e0 hl r x
 refine wpAny_mono (ht [] s1 (start N vs) H _ I hq) (fun fl s' hs=>?_) fun e s' hs=>hs
 have fin:∀{σ':St}{H':Hp}{v:V}{u:Value},Inv (qb CX P w K mg base N qual scope f cdv A outer s H E) [] σ' H' s'->RelV v u->Q v H'->CE outer P w H s Q u s':=
  fun {σ' H' v u} J rv q=>⟨v,H',J.os,J.bare,J.base,J.hok,rv,q⟩
 cases fl with
 | ret u=>
  obtain ⟨v,σ',H',J,rv,q⟩:=hs
  exact fin J rv q
 | next=>
  obtain ⟨σ',H',J,q⟩:=hs
  exact fin (v:=V.non) (u:=Value.none) J rfl q
 | brk=>
  obtain ⟨_,_,_,q⟩:=hs
  exact False.elim q
 | cont=>
  obtain ⟨_,_,_,q⟩:=hs
  exact False.elim q
section
variable {X:Cx}{x:Str}{p pos:Pos}{e:Expr}{es:List Expr}{t:TA}{id T:String}{r:List V->Hp->VK->Prop}
def Mh (r:List V->Hp->VK->Prop) (t:TA):TE:=fun σ H Q=>t σ H fun vs H1=>r vs H1 Q
theorem qp (hc:bQ X (.builtin id) r) (hg:Gl X x) (hm:X.mg x=none) (hv:bootBuiltins x=some (.builtin id)) (ha:PA X (e::es) t) (hn:x≠"__name__":=by decide) (hdb:(x == ("__debug__":Str))=false:=by decide)
  (he:starEach (e::es) X.env=(false,eval e X.env)::starEach es X.env:=by rfl) (hpl:(backTo pos (starEach es X.env)).any (·.1)=false:=by rfl):PE X (.Call (.Name x p) (e::es) [] pos) (Mh r t):=by
 intro pins s σ H Q I h
 refine wpAny_Call_Name_kw (lW I hg hm hv ?_ hn hdb)
 exact PyProof.Rows.callWith_builtin1 (bM (ha pos pins s σ H _ I h) fun us s1 ⟨vs,H1,I1,r1,q1⟩=>hc pins s1 σ H1 vs us Q I1 r1 q1) he hpl
theorem lg (hc:bQ X (.type T) r) (hg:Gl X x) (hm:X.mg x=none) (hv:bootBuiltins x=some (.type T)) (ha:PA X (e::es) t) (hn:x≠"__name__":=by decide) (hdb:(x == ("__debug__":Str))=false:=by decide)
  (he:starEach (e::es) X.env=(false,eval e X.env)::starEach es X.env:=by rfl) (hpl:(backTo pos (starEach es X.env)).any (·.1)=false:=by rfl):PE X (.Call (.Name x p) (e::es) [] pos) (Mh r t):=by
 intro pins s σ H Q I h
 refine wpAny_Call_Name_kw (lW I hg hm hv ?_ hn hdb)
 exact PyProof.Rows.callWith_type1 (bM (ha pos pins s σ H _ I h) fun us s1 ⟨vs,H1,I1,r1,q1⟩=>hc pins s1 σ H1 vs us Q I1 r1 q1) he hpl
end
end L2
namespace HT
open PySem PyProof.Rows
theorem DK (A:Around) (s:Shared) (a:Int) (t:Tok) (c:Int) (u:Tok):∃e,SeqAt.EqAt A s (.int a t) (.int c u) e/\(e=true↔a=c):=
 ⟨(a == c),SeqAt.EqAt.int_int a t c u,by simp⟩
section
open PySem.SeqAt
open PySem.AutoSeq1 (wpAny_loadPart')
open PySem.MeetsSeq PySem.MeetsSeq2 PySem.MeetsSeq3
end
section
variable {prog:Program}{w:World}{A:Around}{E:Value->Shared->Prop}{s:Shared}
theorem Gi {t b:Addr}{vs ws:List Value}{Q:Value->Shared->Prop}(ht:IsTup s.heap t vs.toArray) (hb:IsTup s.heap b ws.toArray) (hv:vs≠[])
  (h1:ws=[]->Q (.ref t) s) (h2:ws≠[]->Q (.ref s.heap.objs.size) {s with heap:=s.heap.push {cls:=.type "tuple",data:=.seq (vs++ws).toArray}})
  (hsz:vs.length + ws.length<=sizeLine):wpAny (model prog w) A (binaryOp .Add (.ref t) (.ref b)) Q E s:=by
 obtain ⟨⟨cls,dd,data,sl⟩,ho,hc,n,hd⟩:=id ht
 obtain ⟨⟨cls2,dd2,data2,sl2⟩,ho2,hc2,n2,hd2⟩:=id hb
 simp only at hc hd hc2 hd2
 subst hc hd hc2 hd2
 have e:vs.toArray++ws.toArray=(vs++ws).toArray:=by simp
 by_cases hw:ws=[]
 ·exact concat_meets ⟨_,ho,rfl⟩ ⟨_,ho2,rfl⟩ noFill_tuple_add seq_tuple_add PySem.F.slot_tuple_add PySem.F.entry_tuple_add (PySem.F.args_tuple_add_2 _ _)
   (tuple_addW1 t b vs.toArray ws.toArray n n2 dd dd2 sl sl2 (by simpa using hv) (by simp [hw])) ⟨ho,ho2,h1 hw⟩
 ·refine concat_meets ⟨_,ho,rfl⟩ ⟨_,ho2,rfl⟩ noFill_tuple_add seq_tuple_add PySem.F.slot_tuple_add PySem.F.entry_tuple_add (PySem.F.args_tuple_add_2 _ _)
   (tuple_addW2 t b vs.toArray ws.toArray n n2 dd dd2 sl sl2 (by simpa using hv) (by simpa using hw) (by rw [List.size_toArray,List.size_toArray];exact hsz)) ⟨ho,ho2,?_⟩
  rw [e]
  exact h2 hw
def bE (n d:Nat):Option Int->Nat
 | none=>d
 | some v=>if v < 0 then (v + (n:Int)).toNat else min v.toNat n
theorem xW (n d:Nat):bE n d none=d:=rfl
theorem zM (n d k:Nat):bE n d (some (k:Int))=min k n:=by
 show (if (k:Int) < 0 then ((k:Int) + (n:Int)).toNat else min (k:Int).toNat n)=min k n
 rw [if_neg (by omega),Int.toNat_natCast]
theorem KJ (n d:Nat) (hd:d<=n) (o:Option Int):bE n d o<=n:=by
 cases o with
 | none=>exact hd
 | some v=>
  show (if v < 0 then (v + (n:Int)).toNat else min v.toNat n)<=n
  by_cases hv:v < 0
  ·rw [if_pos hv];omega
  ·rw [if_neg hv];exact Nat.min_le_right _ _
theorem ze (v:Int) (n d:Nat):(if v < 0 then max (v + (n:Int)) 0 else min v (n:Int))=((bE n d (some v):Nat):Int):=by
 show (if v < 0 then max (v + (n:Int)) 0 else min v (n:Int))=(((if v < 0 then (v + (n:Int)).toNat else min v.toNat n):Nat):Int)
 by_cases hv:v < 0
 ·simp only [if_pos hv];omega
 ·simp only [if_neg hv];omega
theorem Ai (lo hi:Option Int) (n:Nat):Builtin.Slice.sliceAdjust lo hi 1 (n:Int)=(((bE n 0 lo:Nat):Int),((bE n n hi:Nat):Int)):=by
 have h1:¬((1:Int) < 0):=by omega
 unfold Builtin.Slice.sliceAdjust
 simp only [h1,if_false]
 refine Prod.ext ?_ ?_
 ·cases lo with
  | none=>rfl
  | some v=>exact ze v n 0
 ·cases hi with
  | none=>rfl
  | some v=>exact ze v n n
theorem AZ (i j:Nat):Builtin.Slice.slicePlaces (i:Int) (j:Int) 1=j - i:=by
 unfold Builtin.Slice.slicePlaces
 have h1:(1:Int) > 0:=by omega
 simp only [h1,if_true,Int.ediv_one]
 split <;> omega
theorem sA {v:Value}{o:Option Int}{Q:Option Int->Shared->Prop}(p:IsPart v o) (h:Q o s):wpAny (model prog w) A (Builtin.Slice.slicePartIndex v) Q E s:=by
 cases p with
 | none=>exact slicePart_none h
 | int i t=>exact slicePart_int h
theorem kJ {sl:Addr}{vl vu:Value}{lo hi:Option Int}{n:Nat}{Q:Int×Int×Nat->Shared->Prop}(hs:s.heap.IsSliceOf sl vl vu .none) (pl:IsPart vl lo) (pu:IsPart vu hi)
  (h:Q (((bE n 0 lo:Nat):Int),1,bE n n hi - bE n 0 lo) s):wpAny (model prog w) A (Builtin.Slice.sliceApplied (.ref sl) (pure (n:Int))) Q E s:=by
 obtain ⟨os,hos,hcs,hds⟩:=id hs
 unfold Builtin.Slice.sliceApplied Builtin.Slice.sliceFields
 refine wpAny_bind (wpAny_bind (wpAny_field hos hds (x:=vl) rfl (wpAny_bind (wpAny_field hos hds (x:=vu) rfl (wpAny_bind (wpAny_field hos hds (x:=.none) rfl (wpAny_pure ?_)))))))
 refine wpAny_bind (slicePart_none ?_)
 show wpAny _ _ (if ((1:Int) == 0)=true then _ else _) _ _ s
 rw [if_neg (by decide)]
 refine wpAny_bind (sA pl (wpAny_bind (sA pu (wpAny_bind (wpAny_pure ?_)))))
 show wpAny _ _ (match Builtin.Slice.sliceAdjust lo hi 1 (n:Int) with | (lo,hi)=>pure (lo,(1:Int),Builtin.Slice.slicePlaces lo hi 1)) _ _ s
 rw [Ai lo hi n]
 show wpAny _ _ (pure (((bE n 0 lo:Nat):Int),(1:Int),Builtin.Slice.slicePlaces ((bE n 0 lo:Nat):Int) ((bE n n hi:Nat):Int) 1)) _ _ s
 rw [AZ]
 exact wpAny_pure h
theorem EG (xs:Array Value) (i k:Nat):((List.range k).filterMap fun (m:Nat)=>xs[((i:Int) + (m:Int) * 1).toNat]?).toArray=((xs.toList.drop i).take k).toArray:=by
 have e:(fun (m:Nat)=>xs[((i:Int) + (m:Int) * 1).toNat]?)=fun m=>xs[i + m]?:=by
  funext m
  have:((i:Int) + (m:Int) * 1).toNat=i + m:=by omega
  rw [this]
 rw [e]
 have:=pick_run xs i k
 rw [List.filterMap_map] at this
 have e2:((fun x=>xs[x]?) ∘ fun x=>i + x)=fun m=>xs[i + m]?:=rfl
 rw [e2] at this
 rw [this]
theorem pG {t sl:Addr}{items:Array Value}{vl vu:Value}{lo hi:Option Int}{Q:Value->Shared->Prop}(ht:IsTup s.heap t items) (hs:s.heap.IsSliceOf sl vl vu .none) (pl:IsPart vl lo) (pu:IsPart vu hi)
  (hw:¬(bE items.size 0 lo=0/\bE items.size items.size hi=items.size))
  (h:Q (.ref s.heap.objs.size) {s with heap:=s.heap.push {cls:=.type "tuple",data:=.seq ((items.toList.drop (bE items.size 0 lo)).take (bE items.size items.size hi - bE items.size 0 lo)).toArray}})
  (hsz:items.size<=sizeLine):wpAny (model prog w) A (getItem (.ref t) (.ref sl)) Q E s:=by
 have Nz:sizeOk (.seq ((items.toList.drop (bE items.size 0 lo)).take (bE items.size items.size hi - bE items.size 0 lo)).toArray):=by
  show ((items.toList.drop (bE items.size 0 lo)).take (bE items.size items.size hi - bE items.size 0 lo)).toArray.size<=sizeLine
  rw [List.size_toArray,List.length_take,List.length_drop,Array.length_toList]
  omega
 have hj:bE items.size items.size hi<=items.size:=KJ _ _ (Nat.le_refl _) hi
 obtain ⟨os,hos,hcs,hds⟩:=id hs
 have N9:s.TypeIs (.ref sl) "slice":=⟨os,hos,hcs⟩
 unfold getItem
 try with_reducible refine wpAny_holding ?_
 first | refine wpAny_bind (wpAny_pure ?_) | skip
 refine wpAny_bind (wpAny_sequenceKey ht.typeIs (by decide) ?_)
 refine wpAny_bind (wpAny_callSpecial?_slot (name:=Str.ofString "__getitem__") ht.typeIs PyProof.Rows.slot_tuple_getitem
  (wpAny_call_entry PyProof.Rows.slot_tuple_getitem ht.typeIs entry_tuple_getitem ?_ (args_tuple_getitem _ _)))
 show wpAny _ _ (Builtin.Tuple.tupleItemsOf (.ref t) >>= _) _ _ s
 refine wpAny_bind (tupleItemsOf_ ht ?_)
 refine wpAny_bind (wpAny_typeOf N9 ?_)
 rw [if_pos (by decide)]
 refine wpAny_bind (kJ hs pl pu ?_)
 have hno:¬((((bE items.size 0 lo:Nat):Int) == 0 && (1:Int) == 1 && (bE items.size items.size hi - bE items.size 0 lo) == items.size)=true):=by
  intro q
  rw [Bool.and_eq_true,Bool.and_eq_true] at q
  have q1:((bE items.size 0 lo:Nat):Int)=0:=eq_of_beq q.1.1
  have q2:bE items.size items.size hi - bE items.size 0 lo=items.size:=eq_of_beq q.2
  exact hw ⟨by omega,by omega⟩
 show wpAny _ _ (if (((bE items.size 0 lo:Nat):Int) == 0 && (1:Int) == 1 && (bE items.size items.size hi - bE items.size 0 lo) == items.size)=true then _ else _) _ _ s
 rw [if_neg hno,EG]
 first
  | exact wpAny_bind (m:=Builtin.Tuple.tupleExact _) (wpAny_newObj_type (wpAny_pure ⟨_,rfl,wpAny_pure h⟩) Nz)
  | exact wpAny_bind (m:=Builtin.Tuple.tupleExact _) (wpAny_newObj_type (wpAny_bind (wpAny_pure (wpAny_pure ⟨_,rfl,wpAny_pure h⟩))) Nz)
  | exact wpAny_bind (wpAny_bind (m:=Builtin.Tuple.tupleExact _) (wpAny_newObj_type (wpAny_pure (wpAny_pure ⟨_,rfl,wpAny_pure h⟩)) Nz))
  | exact wpAny_bind (wpAny_bind (m:=Builtin.Tuple.tupleExact _) (wpAny_newObj_type (wpAny_pure ⟨_,rfl,wpAny_pure h⟩) Nz))
end
end HT
namespace L2
open PySem PySem.Spec PyProof.Rows
abbrev TO:=St->Hp->(Option Int->Hp->Prop)->Prop
def PO (X:Cx) (e:Option Expr) (t:TO):Prop:=
 ∀(pins:List (Addr×Obj)) (s:Shared) (σ:St) (H:Hp) (Q:Option Int->Hp->Prop),Inv X pins σ H s->t σ H Q->
  wpAny (model X.prog X.w) X.A (evalPart e X.env) (fun u s'=>∃o H',Inv X pins σ H' s'/\IsPart u o/\Q o H') X.xe s
def HY:TO:=fun _ H Q=>Q none H
def L6 (t:TE):TO:=fun σ H Q=>t σ H fun x H1=>∃i,x=.int i/\Q (some i) H1
theorem intsAre_of {ns:List Int}:∀{us:List Value},Vals (ns.map V.int) us->IntsAre us ns:=by
 induction ns with
 | nil=>intro us r;rw [List.map_nil] at r;cases r;exact .nil
 | cons n ns ih=>
  intro us r
  rw [List.map_cons] at r
  cases r with
  | cons r1 r2=>
   obtain ⟨t,e⟩:=r1
   subst e
   exact .cons n t (ih r2)
section
variable {X:Cx}{e:Expr}{te:TE}{lo hi:Option Expr}{tl th:TO}{pos p2:Pos}
theorem Hx:PO X none HY:=by
 intro pins s σ H Q I h
 rw [evalPart_none]
 exact wpAny_pure ⟨none,H,I,.none,h⟩
theorem Hy (h:PE X e te):PO X (some e) (L6 te):=by
 intro pins s σ H Q I hw
 rw [evalPart_some]
 refine bM (h pins s σ H _ I hw) fun u s1 ⟨x,H1,I1,r1,q1⟩=>?_
 obtain ⟨i,rfl,q⟩:=q1
 obtain ⟨t,rfl⟩:=r1
 exact ⟨some i,H1,I1,.int i t,q⟩
def qJ (X:Cx) (r:V->Option Int->Option Int->Hp->VK->Prop):Prop:=
 ∀(pins:List (Addr×Obj)) (s:Shared) (σ:St) (H:Hp) (x:V) (v vl vu:Value) (lo hi:Option Int) (sl:Addr) (Q:VK),Inv X pins σ H s->RelV x v->s.heap.IsSliceOf sl vl vu .none->IsPart vl lo->IsPart vu hi->r x lo hi H Q->
  ∃T id,typeLookup (.type T) "__getitem__"=pure (some (.builtin id))/\s.TypeIs v T/\wpAny (model X.prog X.w) X.A (getItem v (.ref sl)) (EP X pins σ Q) X.xe s
theorem qJ.or {r r':V->Option Int->Option Int->Hp->VK->Prop}(h:qJ X r) (h':qJ X r'):qJ X (fun x lo hi H Q=>r x lo hi H Q\/r' x lo hi H Q):=by
 intro pins s σ H x v vl vu lo hi sl Q I rx hs pl pu q
 rcases q with q | q
 ·exact h pins s σ H x v vl vu lo hi sl Q I rx hs pl pu q
 ·exact h' pins s σ H x v vl vu lo hi sl Q I rx hs pl pu q
def Nd (r:V->Option Int->Option Int->Hp->VK->Prop) (te:TE) (tl th:TO):TE:=fun σ H Q=>te σ H fun x H1=>tl σ H1 fun l H2=>th σ H2 fun u H3=>r x l u H3 Q
theorem EE {r:V->Option Int->Option Int->Hp->VK->Prop}(hr:qJ X r) (he:PE X e te) (hl:PO X lo tl) (hu:PO X hi th):PE X (.Subscript e (.Slice lo hi none p2) pos) (Nd r te tl th):=by
 intro pins s σ H Q I h
 refine Subscript_ (bM (he pins s σ H _ I h) fun v s1 ⟨x,H1,I1,r1,q1⟩=>?_)
 refine wpAny_Slice (bM (hl pins s1 σ H1 _ I1 q1) fun vl s2 ⟨l,H2,I2,pl,q2⟩=>bM (hu pins s2 σ H2 _ I2 q2) fun vu s3 ⟨u,H3,I3,pu,q3⟩=>?_)
 rw [evalPart_none]
 refine wpAny_pure ?_
 have I4:Inv X pins σ H3 {s3 with heap:=s3.heap.push {cls:=.type "slice",data:=.fields #[vl,vu,.none]}}:=I3.kept (t':=s3.toks) fun b ob q=>Heap.get?_push_of_some _ q
 obtain ⟨T,id,hT,ht,hg⟩:=hr pins {s3 with heap:=s3.heap.push {cls:=.type "slice",data:=.fields #[vl,vu,.none]}} σ H3 x v vl vu l u s3.heap.objs.size Q I4 r1 (Heap.IsSliceOf.new ..) pl pu q3
 show wpAny (model X.prog X.w) X.A (subscriptTail e (.Slice lo hi none p2) v (.ref s3.heap.objs.size)) (EP X pins σ Q) X.xe {s3 with heap:=s3.heap.push {cls:=.type "slice",data:=.fields #[vl,vu,.none]}}
 exact tail_any (ops:=[.ref s3.heap.objs.size,v]) ht hT hg (by with_unfolding_all rfl)
def lH (xs:List V) (lo hi:Option Int):List V:=(xs.drop (HT.bE xs.length 0 lo)).take (HT.bE xs.length xs.length hi - HT.bE xs.length 0 lo)
theorem pO (xs:List V) (lo hi:Option Int):(lH xs lo hi).length<=xs.length:=by
 unfold lH
 rw [List.length_take,List.length_drop]
 omega
def MD (K:W.Frag):V->Option Int->Option Int->Hp->VK->Prop:=fun x lo hi H Q=>∃a xs,x=.ref a/\cQ K H a xs/\
 ¬(HT.bE xs.length 0 lo=0/\HT.bE xs.length xs.length hi=xs.length)/\∀p,H p=none->Q (.ref p) (upd H p (.tup (lH xs lo hi)))
theorem KN:qJ X (MD X.K):=by
 intro pins s σ H x v vl vu lo hi sl Q I rx hs pl pu h
 obtain ⟨a,xs,rfl,hx,hw,q⟩:=h
 cases rx
 obtain ⟨its,r,ht,hz⟩:=I.tuple hx
 have hlen:its.toArray.size=xs.length:=by rw [List.size_toArray];exact r.length.symm
 refine ⟨"tuple",_,PyProof.Rows.slot_tuple_getitem.lookup,ht.typeIs,?_⟩
 refine HT.pG ht hs pl pu (by rw [hlen];exact hw) ?_ (by rw [hlen];exact hz)
 rw [hlen]
 refine ⟨.ref s.heap.objs.size,_,I.laid (t':=s.toks) (o:=.tup (lH xs lo hi)) (fun b ob q=>Heap.get?_push_of_some _ q) (Nat.le_refl _) ?_,rfl,q _ (I.hok.fresh (Nat.le_refl _))⟩
 exact ⟨Nat.le_trans (pO xs lo hi) hz,_,(r.drop (HT.bE xs.length 0 lo)).take (HT.bE xs.length xs.length hi - HT.bE xs.length 0 lo),IsTup.new _ _⟩
def LL (K:W.Frag):R2:=fun x y H Q=>∃a b xs ys,x=.ref a/\y=.ref b/\cQ K H a xs/\cQ K H b ys/\xs≠[]/\xs.length + ys.length<=sizeLine/\
 (ys=[]->Q (.ref a) H)/\(ys≠[]->∀p,H p=none->Q (.ref p) (upd H p (.tup (xs++ys))))
theorem Vals.nil_iff {xs:List V}{us:List Value}(r:Vals xs us):us=[]↔xs=[]:=by
 cases r with
 | nil=>simp
 | cons _ _=>simp
theorem GN:cY X (binaryOp .Add) (LL X.K):=by
 intro pins s σ H x y v u Q I rx ry h
 obtain ⟨a,b,xs,ys,rfl,rfl,ha,hb,hx,hz,q1,q2⟩:=h
 cases rx
 cases ry
 obtain ⟨its,r1,p1,_⟩:=I.tuple ha
 obtain ⟨its2,r2,p2,_⟩:=I.tuple hb
 refine HT.Gi p1 p2 (fun z=>hx (r1.nil_iff.mp z)) (fun z=>⟨.ref a,H,I,rfl,q1 (r2.nil_iff.mp z)⟩) (fun z=>?_) (by rw [<-r1.length,<-r2.length];exact hz)
 refine ⟨.ref s.heap.objs.size,_,I.laid (t':=s.toks) (o:=.tup (xs++ys)) (fun b ob q=>Heap.get?_push_of_some _ q) (Nat.le_refl _) ?_,rfl,q2 (fun w=>z (r2.nil_iff.mpr w)) _ (I.hok.fresh (Nat.le_refl _))⟩
 exact ⟨by rw [List.length_append];exact hz,_,r1.append r2,IsTup.new _ _⟩
end
def xm (n:Nat) (i:Int):Option Nat:=if 0<=i then (if i < n then some i.toNat else none) else if -(n:Int)<=i then some (i + n).toNat else none
def kQ {α:Type}(xs:List α) (i:Int):Option α:=(xm xs.length i).bind fun j=>xs[j]?
theorem Gw {n:Nat}{i:Int}{j:Nat}(h:xm n i=some j):seqIndex? i n=some j/\j < n/\-(n:Int)<=i/\i < n:=by
 unfold xm at h
 by_cases h0:0<=i
 ·rw [if_pos h0] at h
  by_cases h1:i < n
  ·rw [if_pos h1] at h
   have e:i.toNat=j:=Option.some.inj h
   exact ⟨by rw [seqIndex_of h0 h1,e],by omega,by omega,h1⟩
  ·rw [if_neg h1] at h;cases h
 ·rw [if_neg h0] at h
  by_cases h1:-(n:Int)<=i
  ·rw [if_pos h1] at h
   have e:(i + n).toNat=j:=Option.some.inj h
   exact ⟨by rw [seqIndex_neg (by omega) h1,e],by omega,h1,by omega⟩
  ·rw [if_neg h1] at h;cases h
theorem sR {α:Type}{xs:List α}{i:Int}{v:α}(h:kQ xs i=some v):∃j,seqIndex? i xs.length=some j/\xs[j]?=some v/\j < xs.length/\-(xs.length:Int)<=i/\i < xs.length:=by
 unfold kQ at h
 cases e:xm xs.length i with
 | none=>rw [e] at h;cases h
 | some j=>
  rw [e] at h
  obtain ⟨h1,h2,h3,h4⟩:=Gw e
  exact ⟨j,h1,h,h2,h3,h4⟩
def jU (b:Expr):Prop:=∀o i,subscripted b false o i=operate [o,i] (getItem o i)
def nR (X:Cx) (r:R2):Prop:=
 ∀(value slice:Expr) (pins:List (Addr×Obj)) (s:Shared) (σ:St) (H:Hp) (x y:V) (v u:Value) (Q:VK),Inv X pins σ H s->RelV x v->RelV y u->r x y H Q->
  subscripted slice false v u=operate [v,u] (getItem v u)->wpAny (model X.prog X.w) X.A (subscriptTail value slice v u) (EP X pins σ Q) X.xe s
def Mc (X:Cx) (id:String) (r:V->List V->Hp->VK->Prop):Prop:=
 ∀(pins:List (Addr×Obj)) (s:Shared) (σ:St) (H:Hp) (x:V) (xs:List V) (v:Value) (us:List Value) (Q:VK),Inv X pins σ H s->RelV x v->Vals xs us->r x xs H Q->
  wpAny (model X.prog X.w) X.A (call (.builtin id) (v::us)) (EP X pins σ Q) X.xe s
section
variable {X:Cx}{a b:Expr}{ta tb:TE}{pos:Pos}
theorem nR.or {r r':R2}(h:nR X r) (h':nR X r'):nR X (fun x y H Q=>r x y H Q\/r' x y H Q):=by
 intro value slice pins s σ H x y v u Q I rx ry q hs
 rcases q with q | q
 ·exact h value slice pins s σ H x y v u Q I rx ry q hs
 ·exact h' value slice pins s σ H x y v u Q I rx ry q hs
theorem LD {r:R2}(hr:nR X r) (ha:PE X a ta) (hb:PE X b tb) (hs:jU b):PE X (.Subscript a b pos) (C_ r ta tb):=by
 intro pins s σ H Q I h
 exact Subscript_ (Dy ha hb I h fun v u s2 x y H2 I2 rx ry q=>hr a b pins s2 σ H2 x y v u Q I2 rx ry q (hs _ _))
def Ku (K:W.Frag):R2:=fun x y H Q=>∃p xs i v,x=.ref p/\y=.int i/\bZ K H p xs/\kQ xs i=some v/\Q v H
def Kw (K:W.Frag):R2:=fun x y H Q=>∃p xs i v,x=.ref p/\y=.int i/\cQ K H p xs/\kQ xs i=some v/\Q v H
def Kv:R2:=fun x y H Q=>∃z i c,x=.str z/\y=.int i/\z.length<=sizeLine/\kQ z.cps.toList i=some c/\Q (.str ⟨#[c]⟩) H
theorem Gx:nR X (Ku X.K):=by
 intro value slice pins s σ H x y v u Q I rx ry h hs
 obtain ⟨p,xs,i,z,rfl,rfl,hq,he,q⟩:=h
 cases rx
 obtain ⟨t,rfl⟩:=ry
 obtain ⟨its,r,pl,hz⟩:=I.list hq
 obtain ⟨j,h1,h2,h3,h4,h5⟩:=sR he
 obtain ⟨w,ew,rw'⟩:=r.get h2
 have hl:=r.length
 have hn:=lY
 have fin:EP X pins σ Q w s:=⟨z,H,I,rw',q⟩
 by_cases h0:0<=i
 ·have hj:i.toNat=j:=by
   rw [seqIndex_of h0 h5] at h1
   exact Option.some.inj h1
  exact item_listR pl.isList h0 (by omega) (by rw [hj];simpa using ew) fin hs
 ·have hj:(i + (its.toArray.size:Int)).toNat=j:=by
   rw [seqIndex_neg (by omega) h4] at h1
   rw [List.size_toArray,<-hl]
   exact Option.some.inj h1
  exact subscriptTail_builtinR (x:=w) pl.isList.typeIs slot_list_getitem.lookup
   (wpAny_getItem_list_neg (Q:=fun r s'=>r=w/\EP X pins σ Q r s') pl.isList (by omega) (by rw [List.size_toArray] <;> omega) (by omega) (by rw [hj];simpa using ew) ⟨rfl,fin⟩) hs
theorem I0:nR X (Kw X.K):=by
 intro value slice pins s σ H x y v u Q I rx ry h hs
 obtain ⟨p,xs,i,z,rfl,rfl,hq,he,q⟩:=h
 cases rx
 obtain ⟨t,rfl⟩:=ry
 obtain ⟨its,r,pl,hz⟩:=I.tuple hq
 obtain ⟨j,h1,h2,h3,h4,h5⟩:=sR he
 obtain ⟨w,ew,rw'⟩:=r.get h2
 have hl:=r.length
 have hn:=lY
 have fin:EP X pins σ Q w s:=⟨z,H,I,rw',q⟩
 exact subscriptTail_builtinR (x:=w) pl.typeIs slot_tuple_getitem.lookup
  (getItem_tuple (j:=j) (Q:=fun r s'=>r=w/\EP X pins σ Q r s') pl (by omega) (by omega) (by rw [List.size_toArray,<-hl];exact h1) (by simpa using ew) ⟨rfl,fin⟩) hs
theorem IZ:nR X Kv:=by
 intro value slice pins s σ H x y v u Q I rx ry h hs
 obtain ⟨z,i,c,rfl,rfl,hz,he,q⟩:=h
 obtain ⟨t,rfl⟩:=rx
 obtain ⟨t',rfl⟩:=ry
 obtain ⟨j,h1,h2,h3,h4,h5⟩:=sR he
 have hl:z.cps.toList.length=z.length:=by simp [Str.length]
 rw [hl] at h1 h4 h5
 have hn:=lY
 exact tail_any (typeIs_str s z t) slot_str_getitem.lookup (getItem_str (c:=c) (by
  have e1:decide (i < -(2 ^ 63:Int))=false:=decide_eq_false (by omega)
  have e2:decide (i ≥ 2 ^ 63)=false:=decide_eq_false (by omega)
  rw [e1,e2,Bool.or_false]) (by rw [h1];simpa using h2) ⟨.str ⟨#[c]⟩,H,I.tok _,⟨_,rfl⟩,q⟩) hs
def M9 (K:W.Frag):R2:=fun x y H Q=>Ku K x y H Q\/Kw K x y H Q\/Kv x y H Q
theorem IY:nR X (M9 X.K):=Gx.or (I0.or IZ)
theorem Inv.lst {pins:List (Addr×Obj)}{σ:St}{H:Hp}{s:Shared}{p:Addr}{xs:List V}(I:Inv X pins σ H s) (h:H p=some (.lst xs)):
  ∃(its:List Value) (n:Nat),Vals xs its/\s.heap.get? p=some {cls:=.type "list",data:=.seq its.toArray n}/\xs.length<=sizeLine:=by
 obtain ⟨z,its,n,r,e⟩:=I.hok p _ h
 exact ⟨its,n,r,e,z⟩
theorem yf (lo hi:Option Int) (n:Nat):(sliceBounds lo hi none n).1=((HT.bE n 0 lo:Nat):Int)/\(sliceBounds lo hi none n).2.1=((HT.bE n n hi:Nat):Int)/\(sliceBounds lo hi none n).2.2=1:=by
 refine ⟨?_,?_,rfl⟩
 ·cases lo with
  | none=>simp [sliceBounds,HT.bE]
  | some i=>
   simp only [sliceBounds,HT.bE,Option.getD_none,show (1:Int) > 0 by decide,if_true]
   by_cases h:i < 0
   ·simp only [h,if_true] <;> omega
   ·simp only [h,if_false] <;> omega
 ·cases hi with
  | none=>simp [sliceBounds,HT.bE]
  | some i=>
   simp only [sliceBounds,HT.bE,Option.getD_none,show (1:Int) > 0 by decide,if_true]
   by_cases h:i < 0
   ·simp only [h,if_true] <;> omega
   ·simp only [h,if_false] <;> omega
theorem vB (its:List Value) (lo hi:Option Int):slicePick its.toArray lo hi none=((its.drop (HT.bE its.length 0 lo)).take (HT.bE its.length its.length hi - HT.bE its.length 0 lo)).toArray:=by
 obtain ⟨h1,h2,h3⟩:=yf lo hi its.toArray.size
 unfold slicePick
 rw [h1,h2,h3]
 simp only [sliceRange_one,pick_run,List.size_toArray] <;> rfl
def MC (K:W.Frag):V->Option Int->Option Int->Hp->VK->Prop:=fun x lo hi H Q=>∃a xs,x=.ref a/\bZ K H a xs/\∀p,H p=none->Q (.ref p) (upd H p (.lst (lH xs lo hi)))
theorem HU:qJ X (MC X.K):=by
 intro pins s σ H x v vl vu lo hi sl Q I rx hs pl pu h
 obtain ⟨a,xs,rfl,hx,q⟩:=h
 cases rx
 obtain ⟨its,r,ht,hz⟩:=I.list hx
 have hlen:=r.length
 refine ⟨"list",_,slot_list_getitem.lookup,ht.isList.typeIs,?_⟩
 refine wpAny_getItem_list_slice ht.isList hs pl pu .none (by simp) ?_ (by rw [List.size_toArray] <;> omega)
 rw [vB,<-hlen]
 refine ⟨.ref s.heap.objs.size,_,I.laid (t':=s.toks) (o:=.lst (lH xs lo hi)) (fun b ob q=>Heap.get?_push_of_some _ q) (Nat.le_refl _) ?_,rfl,q _ (I.hok.fresh (Nat.le_refl _))⟩
 exact ⟨Nat.le_trans (pO xs lo hi) hz,_,0,(r.drop (HT.bE xs.length 0 lo)).take (HT.bE xs.length xs.length hi - HT.bE xs.length 0 lo),Heap.get?_push_size _ rfl⟩
def q_:V->Bool
 | .non=>true
 | .bl _=>true
 | .int _=>true
 | .str _=>true
 | _=>false
def IJ:V->V->Bool
 | .non,.non=>true
 | .bl a,.bl b=>a == b
 | .bl a,.int b=>(if a then 1 else 0) == b
 | .int a,.bl b=>a == (if b then 1 else 0)
 | .int a,.int b=>a == b
 | .str a,.str b=>a == b
 | _,_=>false
theorem II {A:Around}{s:Shared}{y x:V}{u v:Value}(ry:RelV y u) (rx:RelV x v) (fy:q_ y=true) (fx:q_ x=true):SeqAt.EqAt A s u v (IJ y x):=by
 cases y with
 | non=>
  cases ry
  cases x with
  | non=>cases rx;exact SeqAt.EqAt.same _
  | bl b=>cases rx;exact SeqAt.EqAt.none_bool b
  | int b=>obtain ⟨t,rfl⟩:=rx;exact SeqAt.EqAt.none_int b t
  | str b=>obtain ⟨t,rfl⟩:=rx;exact SeqAt.EqAt.none_str b t
  | _=>exact absurd (show false=true from fx) Bool.false_ne_true
 | bl a=>
  cases ry
  cases x with
  | non=>cases rx;exact SeqAt.EqAt.bool_none a
  | bl b=>cases rx;exact SeqAt.EqAt.bool_bool a b
  | int b=>obtain ⟨t,rfl⟩:=rx;exact SeqAt.EqAt.bool_int a b t
  | str b=>obtain ⟨t,rfl⟩:=rx;exact SeqAt.EqAt.bool_str a b t
  | _=>exact absurd (show false=true from fx) Bool.false_ne_true
 | int a=>
  obtain ⟨t',rfl⟩:=ry
  cases x with
  | non=>cases rx;exact SeqAt.EqAt.int_none a t'
  | bl b=>cases rx;exact SeqAt.EqAt.int_bool a t' b
  | int b=>obtain ⟨t,rfl⟩:=rx;exact SeqAt.EqAt.int_int a t' b t
  | str b=>obtain ⟨t,rfl⟩:=rx;exact SeqAt.EqAt.int_str a t' b t
  | _=>exact absurd (show false=true from fx) Bool.false_ne_true
 | str a=>
  obtain ⟨t',rfl⟩:=ry
  cases x with
  | non=>cases rx;exact SeqAt.EqAt.str_none a t'
  | bl b=>cases rx;exact SeqAt.EqAt.str_bool a t' b
  | int b=>obtain ⟨t,rfl⟩:=rx;exact SeqAt.EqAt.str_int a t' b t
  | str b=>obtain ⟨t,rfl⟩:=rx;exact SeqAt.EqAt.str_str a t' b t
  | _=>exact absurd (show false=true from fx) Bool.false_ne_true
 | _=>exact absurd (show false=true from fy) Bool.false_ne_true
theorem wL:bQ X (.builtin "len") (fun xs H Q=>∃p ys,xs=[.ref p]/\(bZ X.K H p ys\/cQ X.K H p ys)/\Q (.int ys.length) H):=by
 intro pins s σ H xs us Q I r h
 obtain ⟨p,ys,rfl,hq,q⟩:=h
 obtain ⟨u,rfl,rx⟩:=vals1 r
 cases rx
 have hn:=lY
 rcases hq with hq | hq
 ·obtain ⟨its,r',pl,hz⟩:=I.list hq
  have hlen:=r'.length
  exact Calls.call_len_list pl.isList (by simp only [List.size_toArray] <;> omega) ⟨.int ys.length,H,I.tok _,⟨s.toks + 1,by rw [List.size_toArray,hlen]⟩,q⟩
 ·obtain ⟨its,r',pl,hz⟩:=I.tuple hq
  have hlen:=r'.length
  exact len_tuple pl (by simp only [List.size_toArray] <;> omega) ⟨.int ys.length,H,I.tok _,⟨s.toks + 1,by rw [List.size_toArray,hlen]⟩,q⟩
theorem wM:bQ X (.builtin "len") (fun xs H Q=>∃z,xs=[.str z]/\z.length<=sizeLine/\Q (.int z.length) H):=by
 intro pins s σ H xs us Q I r h
 obtain ⟨z,rfl,hz,q⟩:=h
 obtain ⟨u,rfl,t,rfl⟩:=vals1 r
 have hn:=lY
 exact len_str (by omega) ⟨.int z.length,H,I.tok _,⟨_,rfl⟩,q⟩
theorem bQ.or {f:Value}{r r':List V->Hp->VK->Prop}(h:bQ X f r) (h':bQ X f r'):bQ X f (fun xs H Q=>r xs H Q\/r' xs H Q):=by
 intro pins s σ H xs us Q I rs q
 rcases q with q | q
 ·exact h pins s σ H xs us Q I rs q
 ·exact h' pins s σ H xs us Q I rs q
theorem wN:bQ X (.type "list") (fun xs H Q=>∃p ys,xs=[.ref p]/\(bZ X.K H p ys\/cQ X.K H p ys)/\∀l,H l=none->Q (.ref l) (upd H l (.lst ys))):=by
 intro pins s σ H xs us Q I r h
 obtain ⟨p,ys,rfl,hq,q⟩:=h
 obtain ⟨u,rfl,rx⟩:=vals1 r
 cases rx
 have fin:∀(its:List Value),Vals ys its->ys.length<=sizeLine->∀(h':Heap) (c':Nat),(∀b o',s.heap.get? b=some o'->h'.get? b=some o')->
   h'.get? s.heap.objs.size=some {cls:=.type "list",dict:=none,data:=.seq its.toArray c',slots:=#[]}->EP X pins σ Q (.ref s.heap.objs.size) {s with heap:=h'}:=fun its r' hz h' c' kp e=>
  ⟨.ref s.heap.objs.size,_,I.laid (t':=s.toks) kp (Nat.le_refl _) (show b9 X.prog X.w _ h' _ (.lst ys) from ⟨hz,its,c',r',e⟩),rfl,q _ (I.hok.fresh (Nat.le_refl _))⟩
 rcases hq with hq | hq
 ·obtain ⟨its,r',pl,hz⟩:=I.list hq
  have hlen:=r'.length
  obtain ⟨o,ho,hc,n,hd⟩:=pl.isList
  exact call_list_seq p (.inl rfl) ho hc hd (fun h' c' kp e=>fin its r' hz h' c' kp e) (by simp only [List.size_toArray] <;> omega)
 ·obtain ⟨its,r',pl,hz⟩:=I.tuple hq
  have hlen:=r'.length
  obtain ⟨o,ho,hc,n,hd⟩:=pl
  exact call_list_seq p (.inr rfl) ho hc hd (fun h' c' kp e=>fin its r' hz h' c' kp e) (by simp only [List.size_toArray] <;> omega)
theorem vd:bQ X (.type "tuple") (fun xs H Q=>∃p ys,xs=[.ref p]/\((bZ X.K H p ys/\∀l,H l=none->Q (.ref l) (upd H l (.tup ys)))\/(cQ X.K H p ys/\Q (.ref p) H))):=by
 intro pins s σ H xs us Q I r h
 obtain ⟨p,ys,rfl,h⟩:=h
 obtain ⟨u,rfl,rx⟩:=vals1 r
 cases rx
 rcases h with ⟨hq,q⟩ | ⟨hq,q⟩
 ·obtain ⟨its,r',pl,hz⟩:=I.list hq
  have hlen:=r'.length
  refine call_tuple_list pl.isList (fun h' kp=>?_) (by simp only [List.size_toArray] <;> omega)
  have I1:Inv X pins σ H {s with heap:=h'}:=I.kept (t':=s.toks) kp
  have I2:Inv X pins σ (upd H h'.objs.size (.tup ys)) {s with heap:=h'.push {cls:=.type "tuple",data:=.seq its.toArray}}:=
   I1.laid (t':=s.toks) (fun b o e=>Heap.get?_push_of_some _ e) (Nat.le_refl _) (show b9 X.prog X.w _ _ _ (.tup ys) from ⟨hz,its,r',IsTup.new _ _⟩)
  exact ⟨.ref h'.objs.size,_,I2,rfl,q _ (I1.hok.fresh (Nat.le_refl _))⟩
 ·obtain ⟨its,r',pl,hz⟩:=I.tuple hq
  exact call_tuple_same pl ⟨.ref p,H,I,rfl,q⟩
def K1 (K:W.Frag) (T:String) (x:V) (H:Hp):Prop:=match x with
 | .str _=>T="str"
 | .int _=>T="int"
 | .ref p=>(T="list"/\∃xs,bZ K H p xs)\/(T="tuple"/\∃o,K.lookup p=some o/\o.cls=.type "tuple"/\o.dict=none)\/
   (T="dict"/\((∃kvs,H p=some (.dK kvs))\/∃kvs,H p=some (.dT kvs)))\/(T="set"/\∃S n,H p=some (.set S n))
 | _=>False
theorem Dg {pins:List (Addr×Obj)}{σ:St}{H:Hp}{s:Shared}{T:String}{x:V}{v:Value}(I:Inv X pins σ H s) (r:RelV x v) (ty:K1 X.K T x H):
  s.TypeIs v T/\∀a,v=.ref a->∃ob,s.heap.get? a=some ob/\ob.dict=none:=by
 cases x with
 | str z=>
  obtain ⟨t,rfl⟩:=r
  cases (show T="str" from ty)
  exact ⟨typeIs_str s z t,fun _ e=>nomatch e⟩
 | int i=>
  obtain ⟨t,rfl⟩:=r
  cases (show T="int" from ty)
  exact ⟨typeIs_int s i t,fun _ e=>nomatch e⟩
 | ref p=>
  cases r
  rcases ty with ⟨rfl,xs,hq⟩ | ⟨rfl,o,hk,hc,hd⟩ | ⟨rfl,hk⟩ | ⟨rfl,S,n,hk⟩
  ·obtain ⟨its,_,pl,_⟩:=I.list hq
   refine ⟨pl.isList.typeIs,fun a e=>?_⟩
   cases e
   obtain ⟨o,n,e,c,hd,_⟩:=pl
   exact ⟨o,e,hd⟩
  ·refine ⟨⟨o,I.kIn p o hk,hc⟩,fun a e=>?_⟩
   cases e
   exact ⟨o,I.kIn _ o hk,hd⟩
  ·have z:∃o,s.heap.get? p=some o/\o.ExactDict:=by
    rcases hk with ⟨kvs,hk⟩ | ⟨kvs,hk⟩
    ·obtain ⟨_,_,_,_,o,_,_,e,ex,_⟩:=I.hok p _ hk
     exact ⟨o,e,ex⟩
    ·obtain ⟨_,_,_,_,o,_,_,e,ex,_⟩:=I.hok p _ hk
     exact ⟨o,e,ex⟩
   obtain ⟨o,e,ex⟩:=z
   refine ⟨⟨o,e,ex.1⟩,fun a e2=>?_⟩
   cases e2
   exact ⟨o,e,ex.2.1⟩
  ·obtain ⟨o,_,_,_,e,ex,_⟩:=I.hok p _ hk
   refine ⟨⟨o,e,ex.1⟩,fun a e2=>?_⟩
   cases e2
   exact ⟨o,e,ex.2.1⟩
 | _=>exact False.elim ty
def MT (K:W.Frag) (T:String) (r:V->List V->Hp->VK->Prop) (to:TE):TE:=fun σ H Q=>to σ H fun x H1=>K1 K T x H1/\r x [] H1 Q
def Na (K:W.Frag) (T:String) (r:V->List V->Hp->VK->Prop) (to:TE) (t:TA):TE:=fun σ H Q=>to σ H fun x H1=>K1 K T x H1/\t σ H1 fun xs H2=>r x xs H2 Q
variable {o e:Expr}{es:List Expr}{to:TE}{t:TA}{name:Str}{apos cpos:Pos}{T id:String}{r:V->List V->Hp->VK->Prop}
theorem JV (pa:PlainAttrs T) (slot:Slot T name id) (hty:typeOf (.builtin id)=pure (.type "method_descriptor")) (hm:Mc X id r) (ho:PE X o to)
  (hbase:attributeBase o name X.env (eval o X.env)=eval o X.env:=by rfl) (hline:(apos.endLine == cpos.line)=true:=by rfl):PE X (.Call (.Attribute o name apos) [] [] cpos) (MT X.K T r to):=by
 intro pins s σ H Q I h
 refine wpAny_Call_method0_late hbase hline (bM (ho pins s σ H _ I h) fun v s1 ⟨x,H1,I1,r1,ty,q1⟩=>?_)
 obtain ⟨h1,h2⟩:=Dg I1 r1 ty
 exact ⟨T,id,pa,slot,hty,h1,h2,Calls.callWith_builtin rfl (PySem.evalArgs_none (hm pins s1 σ H1 x [] v [] Q I1 r1 .nil q1))⟩
theorem vQ (pa:PlainAttrs T) (slot:Slot T name id) (hty:typeOf (.builtin id)=pure (.type "method_descriptor")) (hm:Mc X id r) (ho:PE X o to) (ha:PA X (e::es) t)
  (hbase:attributeBase o name X.env (eval o X.env)=eval o X.env:=by rfl)
  (hfew:((backTo cpos (starEach (e::es) X.env)).all (fun x=>!x.1) && (backToKw cpos (keywordEach [] X.env)).all (fun x=>x.1.isSome)
   && decide ((e::es).length + ([]:List Keyword).length + (if ([]:List Keyword).isEmpty then 0 else 1) < 30))=true:=by rfl)
  (hline:(apos.endLine == cpos.line)=true:=by rfl) (hs:starEach (e::es) X.env=(false,eval e X.env)::starEach es X.env:=by rfl) (hplain:(backTo cpos (starEach es X.env)).any (·.1)=false:=by rfl):
  PE X (.Call (.Attribute o name apos) (e::es) [] cpos) (Na X.K T r to t):=by
 intro pins s σ H Q I h
 refine wpAny_Call_method_late hbase hfew hline rfl (bM (ho pins s σ H _ I h) fun v s1 ⟨x,H1,I1,r1,ty,q1⟩=>?_)
 obtain ⟨h1,h2⟩:=Dg I1 r1 ty
 refine ⟨T,id,pa,slot,hty,h1,h2,?_⟩
 have hA:=ha cpos pins s1 σ H1 _ I1 q1
 rw [hs] at hA ⊢
 refine Calls.callWith_builtin (by show (false || (backTo cpos (starEach es X.env)).any (·.1))=false;rw [hplain] <;> rfl) (Calls.evalArgs_plain ?_)
 exact bM hA fun us s2 ⟨vs,H2,I2,r2,q2⟩=>hm pins s2 σ H2 x vs v us Q I2 r1 r2 q2
end
def Bs (X:Cx) (id:String) (r:V->List V->Hp->VK->Prop):Prop:=
 ∀(pins:List (Addr×Obj)) (s:Shared) (σ:St) (H:Hp) (x:V) (xs:List V) (v:Value) (us:List Value) (Q:VK),Inv X pins σ H s->RelV x v->Vals xs us->r x xs H Q->
  wpAny (model X.prog X.w) X.A (call (.builtin id) (v::us)) (EP X pins σ Q) X.xe s
theorem Vals.one:∀{x:V}{us:List Value},Vals [x] us->∃u,us=[u]/\RelV x u
 | _,_,.cons r .nil=>⟨_,rfl,r⟩
theorem Vals.zero:∀{us:List Value},Vals [] us->us=[]
 | _,.nil=>rfl
theorem Vals.eraseIdx:∀{xs:List V}{us:List Value}(i:Nat),Vals xs us->Vals (xs.eraseIdx i) (us.eraseIdx i)
 | _,_,_,.nil=>.nil
 | _,_,0,.cons _ t=>t
 | _,_,i + 1,.cons r t=>.cons r (Vals.eraseIdx i t)
theorem uw {α:Type}:∀(l:List α) (i:Nat),(l.eraseIdx i).length<=l.length
 | [],_=>Nat.le_refl _
 | _::_,0=>Nat.le_succ _
 | _::r,i + 1=>Nat.succ_le_succ (uw r i)
section
variable {X:Cx}{pins:List (Addr×Obj)}{σ:St}{H:Hp}{s:Shared}{l b:Addr}{xs ys zs:List V}
theorem Inv.lset {its its':List Value}{n:Nat}{f:Array Value->Array Value}{t':Nat}(I:Inv X pins σ H s) (hH:H l=some (.lst xs))
  (e:s.heap.get? l=some {cls:=.type "list",data:=.seq its.toArray n}) (hf:f its.toArray=its'.toArray) (hv:Vals ys its') (hz:ys.length<=sizeLine):
  Inv X pins σ (upd H l (.lst ys)) {s with heap:=s.heap.update l (Obj.mapSeq f),toks:=t'}:=by
 have q:=PySem.IsL.update e f
 rw [hf] at q
 refine I.write (x:=l) (e:=l) (by rw [hH];exact trivial) (.inl rfl) (fun b' u hb hu=>(Heap.get?_update_other s.heap (Obj.mapSeq f) (Ne.symm hb)).trans hu) ⟨_,q⟩ ?_
 exact ⟨hz,its',_,hv,q⟩
theorem Inv.lnew {its:List Value}{t':Nat}(I:Inv X pins σ H s) (hv:Vals ys its) (hz:ys.length<=sizeLine):
  Inv X pins σ (upd H s.heap.objs.size (.lst ys)) {s with heap:=s.heap.push {cls:=.type "list",data:=.seq its.toArray},toks:=t'}:=
 I.laid (fun _ _ q=>Heap.get?_push_of_some _ q) (Nat.le_refl _) ⟨hz,its,0,hv,Heap.get?_push_size _ rfl⟩
theorem Inv.fresh (I:Inv X pins σ H s):H s.heap.objs.size=none:=I.hok.fresh (Nat.le_refl _)
theorem Inv.lstM (I:Inv X pins σ H s) (hH:H l=some (.lst xs)):xs.length<=sizeLine/\∃(its:List Value) (n:Nat),Vals xs its/\xs.length=its.length/\s.heap.get? l=some {cls:=.type "list",data:=.seq its.toArray n}:=by
 obtain ⟨z,its,n,r,e⟩:=I.hok l _ hH
 exact ⟨z,its,n,r,r.length,e⟩
theorem xG {n:Nat}(h:n<=sizeLine):Builtin.List.listTooLong n=false:=by
 unfold Builtin.List.listTooLong
 exact decide_eq_false (by omega)
end
section
variable {X:Cx}
def HL:V->List V->Hp->VK->Prop:=fun x vs H Q=>∃l xs y,x=.ref l/\vs=[y]/\H l=some (.lst xs)/\xs.length < sizeLine/\Q .non (upd H l (.lst (xs++[y])))
theorem oB:Bs X "list.append" HL:=by
 intro pins s σ H x vs v us Q I rx rv h
 obtain ⟨l,xs,y,rfl,rfl,hH,hz,q⟩:=h
 cases rx
 obtain ⟨u,rfl,ru⟩:=rv.one
 obtain ⟨z,its,n,r,hl,e⟩:=I.lstM hH
 refine call_meets F.slot_list_append ⟨_,e,rfl⟩ F.entry_list_append (F.args_list_append_2 _ _) (PySem.list_append l its.toArray n u (by rw [List.size_toArray];omega)) ⟨e,?_⟩
 refine ⟨.non,_,I.lset (its':=its++[u]) hH e (by simp) (r.append (.cons ru .nil)) ?_,rfl,q⟩
 rw [List.length_append,List.length_singleton]
 omega
def HM:V->List V->Hp->VK->Prop:=fun x vs H Q=>∃l b xs zs,x=.ref l/\vs=[.ref b]/\H l=some (.lst xs)/\H b=some (.lst zs)/\xs.length + zs.length<=sizeLine/\Q .non (upd H l (.lst (xs++zs)))
theorem Mg:Bs X "list.extend" HM:=by
 intro pins s σ H x vs v us Q I rx rv h
 obtain ⟨l,b,xs,zs,rfl,rfl,hH,hB,hz,q⟩:=h
 cases rx
 obtain ⟨u,rfl,ru⟩:=rv.one
 cases ru
 obtain ⟨z,its,n,r,hl,e⟩:=I.lstM hH
 obtain ⟨z2,its2,n2,r2,hl2,e2⟩:=I.lstM hB
 have hsz:its.toArray.size + its2.toArray.size<=sizeLine:=by rw [List.size_toArray,List.size_toArray];omega
 have NC:¬(!its.toArray.isEmpty && Builtin.List.listTooLong (its.toArray.size + its2.toArray.size))=true:=by
  rw [xG hsz,Bool.and_false]
  exact Bool.false_ne_true
 refine call_meets F.slot_list_extend ⟨_,e,rfl⟩ F.entry_list_extend (F.args_list_extend_2 _ _)
  (AutoSeq1.list_extend_list_list_0 l its.toArray n b its2.toArray n2 NC (by rw [List.size_toArray];omega) (by omega)) ⟨e,e2,?_⟩
 refine ⟨.non,_,I.lset (its':=its++its2) hH e (by simp) (r.append r2) ?_,rfl,q⟩
 rw [List.length_append]
 omega
def Ky:V->List V->Hp->VK->Prop:=fun x vs H Q=>∃l xs i k y,x=.ref l/\vs=[.int i]/\H l=some (.lst xs)/\-(2 ^ 63)<=i/\i < 2 ^ 63/\seqIndex? i xs.length=some k/\xs[k]?=some y/\Q y (upd H l (.lst (xs.eraseIdx k)))
theorem Ec:Bs X "list.pop" Ky:=by
 intro pins s σ H x vs v us Q I rx rv h
 obtain ⟨l,xs,i,k,y,rfl,rfl,hH,h1,h2,hk,hy,q⟩:=h
 cases rx
 obtain ⟨u,rfl,ru⟩:=rv.one
 obtain ⟨t,rfl⟩:=ru
 obtain ⟨z,its,n,r,hl,e⟩:=I.lstM hH
 obtain ⟨w,hw,rw'⟩:=r.get hy
 refine call_meets F.slot_list_pop ⟨_,e,rfl⟩ F.entry_list_pop (F.args_list_pop_2 _ _)
  (MeetsSeq.list_pop_at l its.toArray n i t k w (fitsIndex_both h1 h2) (by rw [List.size_toArray,<-hl];exact hk) (by rw [<-Array.getElem?_toList];exact hw) (by rw [List.size_toArray];omega)) ⟨e,?_⟩
 refine ⟨y,_,I.lset (its':=its.eraseIdx k) hH e ?_ (r.eraseIdx k) ?_,rw',q⟩
 ·show its.toArray.eraseIdxIfInBounds k=(its.eraseIdx k).toArray
  rw [List.eraseIdxIfInBounds_toArray]
 ·have:=uw xs k
  omega
def MA:R2:=fun x y H Q=>∃l b xs zs,x=.ref l/\y=.ref b/\H l=some (.lst xs)/\H b=some (.lst zs)/\xs.length + zs.length<=sizeLine/\∀p,H p=none->Q (.ref p) (upd H p (.lst (xs++zs)))
theorem Ci:cY X (binaryOp .Add) MA:=by
 intro pins s σ H x y v u Q I rx ry h
 obtain ⟨l,b,xs,zs,rfl,rfl,hH,hB,hz,q⟩:=h
 cases rx
 cases ry
 obtain ⟨z,its,n,r,hl,e⟩:=I.lstM hH
 obtain ⟨z2,its2,n2,r2,hl2,e2⟩:=I.lstM hB
 refine PySem.P.add_list e e2 ?_ (by rw [List.size_toArray,List.size_toArray];omega)
 have ea:its.toArray++its2.toArray=(its++its2).toArray:=by simp
 rw [ea]
 exact ⟨.ref _,_,I.lnew (t':=s.toks) (r.append r2) (by rw [List.length_append];omega),rfl,q _ I.fresh⟩
end
end L2
namespace Att
open PySem PySem.W PySem.Calls PyProof.Rows
theorem rO {P:Params}{h:Heap}:∀(ns:List Int) (vs:List Value),WellAll P h vs (ns.map WData.int)->IntsAre vs ns:=by
 intro ns
 induction ns with
 | nil=>
  intro vs w
  rw [List.map_nil] at w
  cases w
  exact .nil
 | cons n ns ih=>
  intro vs w
  rw [List.map_cons] at w
  cases w with
  | cons a b=>
   cases a
   exact .cons _ _ (ih _ b)
theorem CV {l:OpenLaw}{n:Nat}(hn:l.most=some n){P:Params}{h:Heap}{args:List WData}{vals:List Value}
  (hpre:l.row.toRowW.claim.pre args=true) (hwl:WellAll P h vals args):
  ∃a vs ns,vals=[Value.ref a]/\args=[WData.list (ns.map WData.int)]/\h.get? a=some {cls:=.type "list",data:=.seq vs.toArray}/\IntsAre vs ns/\ns.length<=n:=by
 have hsh:WShape.hasAll [] args [.list .int]=true:=(pre_splitW hpre).1
 have hc:l.pre.holds [] {args:=args}=true:=(pre_splitW hpre).2
 obtain ⟨d,r,rfl,h1,h2⟩:=hasAllW_cons hsh
 obtain rfl:=hasAllW_nil h2
 obtain ⟨xs,rfl,h3⟩:=hasW_list h1
 obtain ⟨ns,rfl⟩:=items_int h3
 have hlen:ns.length<=n:=by
  unfold OpenLaw.pre at hc
  have h4:(WTm.not (.lt (.lit (.int (n:Int))) (.len (.arg 0)))).holds [] {args:=[.list (ns.map .int)]}=true:=by
   have h4:=(holds_andW hc).1
   rw [hn] at h4
   exact h4
  have h5:=condW_of h4 (w_not (w_lt w_lit (w_len_list (w_arg rfl))))
  rw [List.length_map] at h5
  refine Nat.le_of_not_lt fun q=>?_
  have q':(n:Int) < ((ns.length:Nat):Int):=by omega
  first
   | (rw [decide_eq_true q'] at h5;exact absurd h5 (by decide))
   | (simp at h5;omega)
 cases hwl with
 | cons w1 w2=>
  cases w2
  cases w1 with
  | list ho hall=>exact ⟨_,_,ns,rfl,rfl,ho,rO ns _ hall,hlen⟩
theorem CG (l:OpenLaw) (args:List WData):l.row.toRowW.claim.post args (.bool true) args=true:=
 postW_of (r:=l.row.toRowW) (X:=(true == true))
  (show WShape.has [] (.bool true) .bool=true by first | rfl | decide | simp [WShape.has,WShape.arms,WShape.armsAll])
  (show (WTm.eq .res (.lit (.bool true))).value [] {args:=args,res:=some (.bool true),after:=args}=some (.bool (true == true)) from w_eq_bool (w_res rfl) w_lit) rfl
theorem yz {l:OpenLaw}{n:Nat}{q:Program}{loose:List Str}{XP:(Str->Option Value)->Heap->Prop}{YP:World->Heap->Prop}{d:DefRec}
  (hn:l.most=some n) (hdf:d.params.defaults=[])
  (call:∀(w:World) (s₀ s₁:Shared) (mg mb:Str->Option Value) (fa:Addr) (o:Obj) (pm cd doc:Value) (a:Addr) (vs:List Value) (ns:List Int),
   Ground q loose [] XP w s₀ mg mb s₁.heap->YP w s₁.heap->
   s₁.heap.get? fa=some o->o.data=.func (docDef d.name d.params d.body d.scope pm cd doc)->s₁.heap.CodeRec cd d.name->mg d.name=some (.ref fa)->
   s₁.heap.get? a=some {cls:=.type "list",data:=.seq vs.toArray}->IntsAre vs ns->ns.length<=n->s₁.gens=#[]->
   codeAny (model l.prog w) callerA (.call (.ref fa) ⟨[.ref a],[]⟩) (fun r s'=>r=.ok (.ret (.bool true))/\OldK s₁.heap s'.heap/\s'.os=s₁.os/\AllBare s'.gens) s₁):
  WalkO q loose XP YP l.row.toRowW d [] (fun f vs=>PySem.call f vs):=by
 intro w s₀ s₁ mg mb G Y fa o pm cd doc dV kV ho hd hcd hD hmg hg args vals as hpre hlay hrd hwl hlo
 obtain rfl:dV=.none:=Dflts.none hD hdf
 obtain rfl:kV=.none:=Dflts.noKw hD
 obtain ⟨a,vs,ns,rfl,rfl,hobj,hints,hlen⟩:=CV hn hpre hwl
 refine enter_call (codeAny_mono (call w s₀ s₁ mg mb fa o pm cd doc a vs ns G Y ho (fd_plain hd) hcd hmg hobj hints hlen hg) fun r s' hq=>?_)
 obtain ⟨rfl,h2,h3,h4⟩:=hq
 exact ⟨.inl ⟨.bool true,.bool true,[],rfl,fun _=>rfl,.bool true,CG l _,fun _=>⟨List.Pairwise.nil,fun _ hm=>(nomatch hm)⟩⟩,h2,h3,h4⟩
end Att
namespace L2
open PySem PySem.Spec PyProof.Rows
theorem uT:∀{vs:List Value}{ns:List Int},IntsAre vs ns->Vals (ns.map V.int) vs
 | _,_,.nil=>.nil
 | _,_,.cons n t h=>.cons ⟨t,rfl⟩ (uT h)
def Ad (H:Hp):Prop:=∀b,H b=none\/∃o xs,H b=some (.frz o (.lst xs))
theorem D6 {P:Program}{w:World}{K:W.Frag}{mg mb:Str->Option Value}{CX:pI}{k:Nat}{fa a:Addr}{fd:FuncData}{x:Str}{sp:Sp}{s₁:Shared}{vs:List Value}{ns:List Int}
  (KX:K.In s₁.heap) (hns:s₁.heap.Ns mainGlobals mg) (hb:s₁.heap.Ns builtinsNs mb) (OP:∀x:Str,x≠"__name__"->mb x=bootBuiltins x) (hlim:s₁.heap.NoLimit) (hg:s₁.gens=#[])
  (ha:s₁.heap.get? a=some {cls:=.type "list",data:=.seq vs.toArray}) (hi:IntsAre vs ns) (hl:ns.length<=sizeLine) (hr:dS k callerA)
  (F:∀base:Heap,K.In base->base.Ns mainGlobals mg->jl P w K mg base CX k fa fd [x] sp) (hbind:∀(s:Shared) (u:Value),BindsTo s fd ⟨[u],[]⟩ [(x,u)])
  (NI:∀H:Hp,Ad H->bZ K H a (ns.map V.int)->sp [.ref a] H (fun v _=>v=.bl true) fun _ _ _=>False)
  (N5:∀H e s',CX [] H s₁ (fun _ _ _=>False) e s'->False):
  codeAny (model P w) callerA (.call (.ref fa) ⟨[.ref a],[]⟩) (fun r s'=>r=.ok (.ret (.bool true))/\OldK s₁.heap s'.heap/\s'.os=s₁.os/\AllBare s'.gens) s₁:=by
 have rv:=uT hi
 have lenV:=hi.length
 have core:∀H:Hp,Ad H->bZ K H a (ns.map V.int)->fV P w H s₁.heap->(∀b,H b≠none->b=a)->(H a≠none->K.lookup a=none)->
   codeAny (model P w) callerA (.call (.ref fa) ⟨[.ref a],[]⟩) (fun r s'=>r=.ok (.ret (.bool true))/\OldK s₁.heap s'.heap/\s'.os=s₁.os/\AllBare s'.gens) s₁:=by
  intro H hO hS hok hA hK
  have base_of:∀{b:Addr}{o:Obj},s₁.heap.get? b=some o->H b=none->(mZ s₁.heap H).get? b=some o:=fun e n=>DS e n
  have noA:∀{b:Addr}{o:Obj}{es:Array DictEntry}{ep:Nat},s₁.heap.get? b=some o->o.data=.dict es ep->H b=none:=fun {b o es ep} e d=>by
   cases q:H b with
   | none=>rfl
   | some u=>
    have e':b=a:=hA b (by rw [q];simp)
    subst e'
    rw [ha] at e;cases e
    have d':Data.seq vs.toArray _=Data.dict es ep:=d
    cases d'
  have nsK:∀{b:Addr}{m:Str->Option Value},s₁.heap.Ns b m->(mZ s₁.heap H).Ns b m:=fun {b m} ⟨o,es,ep,e,d,r⟩=>⟨o,es,ep,base_of e (noA e d),d,r⟩
  have OH:K.In (mZ s₁.heap H):=fun b o e=>base_of (KX b o e) (by
   cases q:H b with
   | none=>rfl
   | some u=>
    have e':b=a:=hA b (by rw [q];simp)
    subst e'
    rw [hK (by rw [q];simp)] at e;cases e)
  have hM:Mod K mg (mZ s₁.heap H):=⟨OH,nsK hns,⟨mb,nsK hb,OP⟩,let ⟨mc,h1,h2⟩:=hlim;⟨mc,nsK h1,h2⟩⟩
  have e0:zY P w K mg (mZ s₁.heap H) callerA [] s₁ H:=⟨rfl,hM,fun b o e=>GL e,Nat.le_of_eq (B5 _ _),trivial,fun b hb=>absurd (show b∈([]:List Addr) from hb) (by simp),hok,.of_eq hg⟩
  refine codeAny_mono ((F _ OH (nsK hns)).run callerA [] s₁ H ⟨[.ref a],[]⟩ [.ref a] [.ref a] _ _ hr e0 (hbind s₁ (.ref a)) (.cons rfl .nil) (NI H hO hS)) fun r s' h=>?_
  cases r with
  | error e=>exact (N5 H e s' h).elim
  | ok fl=>
   cases fl with
   | next=>exact False.elim h
   | brk=>exact False.elim h
   | cont=>exact False.elim h
   | ret u=>
    obtain ⟨v,H',os,bare,un,Ou,r',q⟩:=h
    have q':v=.bl true:=q
    subst q'
    obtain rfl:u=Value.bool true:=r'
    refine ⟨rfl,OldK.of_keep fun b o e=>?_,os,bare⟩
    cases q:H b with
    | none=>exact un.keep b o e q (by intro z;exact absurd (show b∈([]:List Addr) from z) (by simp)) (by simp)
    | some u=>
     rcases hO b with z | ⟨ob,xs,z⟩
     ·rw [q] at z;cases z
     ·have z2:=un.frzs b ob _ z
      obtain ⟨e1,_⟩:=hok b _ z
      obtain ⟨e2,_⟩:=Ou b _ z2
      rw [e] at e1;cases e1
      exact e2
 cases hk:K.lookup a with
 | some o=>
  have e:=KX a o hk
  rw [ha] at e
  cases e
  refine core (fun _=>none) (fun _=>.inl rfl) (.inr ⟨_,vs.toArray,_,hk,rfl,rfl,rfl,by rw [List.size_toArray,lenV];exact hl,by simpa using rv⟩) (fun b u z=>by have z':(none:Option HO)=some u:=z;cases z') (fun b z=>absurd rfl z) fun z=>absurd rfl z
 | none=>
  refine core (fun b=>if b=a then some (.frz {cls:=.type "list",data:=.seq vs.toArray} (.lst (ns.map V.int))) else none) (fun b=>?_) (.inl (.inr ⟨{cls:=.type "list",data:=.seq vs.toArray},if_pos rfl⟩)) (fun b u z=>?_) (fun b z=>?_) fun _=>hk
  ·by_cases hb:b=a
   ·exact .inr ⟨_,_,if_pos hb⟩
   ·exact .inl (if_neg hb)
  ·by_cases hb:b=a
   ·have z':=(if_pos hb).symm.trans z
    cases z'
    subst hb
    exact ⟨ha,by rw [List.length_map];exact hl,vs,_,rv,ha⟩
   ·have z':=(if_neg hb).symm.trans z
    cases z'
  ·by_cases hb:b=a
   ·exact hb
   ·exact absurd (if_neg hb) z
abbrev Nl {K:W.Frag}{h:Heap}(_:K.In h):W.Frag:=K
theorem Ie {l:W.OpenLaw}{n k:Nat}{q:Program}{loose:List Str}{XP:(Str->Option Value)->Heap->Prop}{YP:World->Heap->Prop}{d:DefRec}{K:Params->W.Frag}{CX:World->pI}{sp:World->Sp}{x:Str}
  (hn:l.most=some n) (hn2:n<=sizeLine) (hdf:d.params.defaults=[]) (hr:dS k callerA)
  (hY:∀(w:World) (h:Heap),YP w h->(K w.params).In h)
  (F:∀(w:World) (mg:Str->Option Value) (fa:Addr) (h:Heap),(K w.params).In h->h.Ns mainGlobals mg->mg d.name=some (.ref fa)->
   ∃fd:FuncData,(∀(s:Shared) (u:Value),BindsTo s fd ⟨[u],[]⟩ [(x,u)])/\
    ∀base:Heap,(K w.params).In base->base.Ns mainGlobals mg->jl l.prog w (K w.params) mg base (CX w) k fa fd [x] (sp w))
  (NI:∀(w:World) (H:Hp) (a:Addr) (ns:List Int),ns.length<=n->Ad H->bZ (K w.params) H a (ns.map V.int)->sp w [.ref a] H (fun v _=>v=.bl true) fun _ _ _=>False)
  (N5:∀(w:World) (H:Hp) (s:Shared) (e:Value) (s':Shared),CX w [] H s (fun _ _ _=>False) e s'->False):
  W.WalkO q loose XP YP l.row.toRowW d [] (fun f vs=>PySem.call f vs):=by
 refine Att.yz hn hdf fun w s₀ s₁ mg mb fa o pm cd doc a vs ns G Y ho hd hcd hmg hobj hints hlen hg=>?_
 have KX:=hY w _ Y
 obtain ⟨fd,hb,hF⟩:=F w mg fa _ KX G.T.g hmg
 exact D6 KX G.T.g G.T.b G.T.builtins G.T.nolimit hg hobj hints (Nat.le_trans hlen hn2) hr hF hb (fun H hO hS=>NI w H a ns hlen hO hS) fun H e s'=>N5 w H s₁ e s'
def aO (s:Stmt):Arguments:=match s with
 | .FunctionDef _ a _ _ _ _ _ _ _ _=>a
 | _=>{posonlyargs:=[],args:=[],vararg:=none,kwonlyargs:=[],kw_defaults:=[],kwarg:=none,defaults:=[]}
def aM (s:Stmt):List Stmt:=match s with
 | .FunctionDef _ _ b _ _ _ _ _ _ _=>b
 | _=>[]
def ay (s:Stmt):Scope:=match s with
 | .FunctionDef _ _ _ _ _ _ sc _ _ _=>sc
 | _=>{kind:=.function,names:=[],isGenerator:=false,isCoroutine:=false}
abbrev nD:pI:=fun _ _ _ _ _ _=>False
abbrev E0:XK:=fun _ _ _=>False
theorem Lr {X:Cx}:Passes nD X E0:=fun _ _ _ _ _ _ _ h=>h.elim
structure dR (K:W.Frag) (x qual:Str) (st:Stmt) (f:Addr) (fd:FuncData):Prop where
 ex:∃(oc:Value) (od:Option Addr) (kV doc pm:Value) (an:Option Addr) (cdv ct:Value) (osl:Array (Option Value)),
  fd=W.fnOf x qual (aO st) (aM st) (ay st) .none kV doc pm an cdv ct/\K.lookup f=some ⟨oc,od,.func fd,osl⟩/\W.codeIn K cdv qual=true
 kp:W.keepIn K (.ref f)=true
section
variable {P:Program}{w:World}{K:W.Frag}{mg:Str->Option Value}{base:Heap}
theorem dR.ok {x qual:Str}{st:Stmt}{f:Addr}{fd:FuncData}{N ps:List Str}{k:Nat}{sp:Sp}(F:dR K x qual st f fd) (S:bC N ps (ay st)) (len:∀vs H Q E,sp vs H Q E->vs.length=ps.length)
  (hbody:∀(cdv:Value) (A:Around) (outer:List Env) (s:Shared) (H:Hp) (vs:List V) (Q:VK) (E:XK),dS k (A.deeper (envOfC qual (ay st) s.heap.objs.size f cdv))->sp vs H Q E->
   ∃t,j5 (qb nD P w K mg base N qual (ay st) f cdv A outer s H E).nox (aM st) t/\t {nx:=fun _ H'=>Q .non H',rt:=Q} (start N vs) H):jl P w K mg base nD (k + 1) f fd ps sp:=by
 obtain ⟨oc,od,kV,doc,pm,an,cdv,ct,osl,rfl,lk,hcd⟩:=F.ex
 refine Lc lk hcd S len fun A outer s H vs Q E hr NI=>?_
 obtain ⟨t,h,q⟩:=hbody cdv A outer s H vs Q E hr NI
 exact ⟨t,h.nox,q⟩
theorem dR.binds {x qual:Str}{st:Stmt}{f:Addr}{fd:FuncData}{ps:List Str}(F:dR K x qual st f fd)
  (h:∀(kV doc pm:Value) (an:Option Addr) (cdv ct:Value) (us:List Value),us.length=ps.length->bindArgs (W.fnOf x qual (aO st) (aM st) (ay st) .none kV doc pm an cdv ct) ⟨us,[]⟩=pure (ps.zip us)):Binds K fd ps []:=by
 obtain ⟨oc,od,kV,doc,pm,an,cdv,ct,osl,rfl,lk,hcd⟩:=F.ex
 exact .all (h kV doc pm an cdv ct)
theorem bY {x qual:Str}{st:Stmt}{f:Addr}{oc:Value}{od an:Option Addr}{osl:Array (Option Value)}{kV doc pm cdv ct:Value}(l:K.lookup f=some ⟨oc,od,.func (W.fnOf x qual (aO st) (aM st) (ay st) .none kV doc pm an cdv ct),osl⟩)
  (c:W.codeIn K cdv qual=true) (k:W.keepIn K (.ref f)=true):dR K x qual st f (W.fnOf x qual (aO st) (aM st) (ay st) .none kV doc pm an cdv ct):=⟨⟨oc,od,kV,doc,pm,an,cdv,ct,osl,rfl,l,c⟩,k⟩
end
theorem DU {A B:Prop}(h:B):if false=true then A else B:=by
 rw [if_neg Bool.false_ne_true]
 exact h
theorem DV {A B:Prop}(h:A):if true=true then A else B:=by
 rw [if_pos rfl]
 exact h
def aP (H H':Hp):Prop:=∀b o,H b=some o->H' b=some o
theorem aP.refl (H:Hp):aP H H:=fun _ _ h=>h
theorem aP.trans {H H1 H2:Hp}(a:aP H H1) (b:aP H1 H2):aP H H2:=fun c o h=>b c o (a c o h)
theorem aP.free {H H':Hp}(e:aP H H'){l:Addr}(h:H' l=Option.none):H l=Option.none:=by
 cases q:H l with
 | none=>rfl
 | some o=>
  rw [e l o q] at h
  cases h
theorem aP.seq {K:W.Frag}{H H':Hp}{a:Addr}{xs:List V}(e:aP H H') (h:bZ K H a xs):bZ K H' a xs:=by
 rcases h with (h | ⟨o,h⟩) | h
 ·exact .inl (.inl (e _ _ h))
 ·exact .inl (.inr ⟨o,e _ _ h⟩)
 ·exact .inr h
end L2
set_option maxHeartbeats 4000000
namespace K22
open PySem
def top (i:Nat):Stmt:=PySem.Challenge.pw_pickalike_k22_all_pairings.main.body.getD i (.Pass ⟨0,0,0,0⟩)
def topC (i j:Nat):Stmt:=match top i with
 | .ClassDef (body:=b) ..=>b.getD j (.Pass ⟨0,0,0,0⟩)
 | _=>.Pass ⟨0,0,0,0⟩
end K22
namespace K22
open PySem PySem.Spec PyProof.Rows L2
abbrev E (P:Params) (k:Str) (t:Nat) (v:Value):DictEntry:=⟨PyData.keyHash P k,.str k t,v⟩
def KF (P:Params):W.Frag:=
(nat_lit 2,⟨.none,none,(.dict #[] 0),#[]⟩)::
(nat_lit 3,⟨(.type "dict"),none,(.dict #[E P "__name__" 165 (.str "law_pickalike_k22_all_pairings" 366),E P "__doc__" 166 .none,E P "__package__" 167 .none,E P "__loader__" 168 (.builtin "__main__.__loader__#opaque"),E P "__spec__" 169 .none,E P "__annotations__" 170 (.ref 6),E P "__builtins__" 171 (.ref 4),E P "__file__" 173 (.str "/claim/cut.py" 172),E P "__cached__" 174 .none,E P "PickError" 206 (.ref 24),E P "NoTongue" 222 (.ref 37),E P "TooMany" 247 (.ref 56),E P "NoCount" 272 (.ref 75),E P "is_whole" 281 (.ref 84),E P "tongue_of" 287 (.ref 89),E P "need_tongue" 295 (.ref 96),E P "MOST_SMALL" 299 (.int 4 298),E P "need_few_points" 307 (.ref 103),E P "need_small" 315 (.ref 110),E P "need_count" 324 (.ref 117),E P "view" 332 (.ref 122),E P "views" 338 (.ref 127),E P "agree" 348 (.ref 134),E P "goes_behind" 359 (.ref 141),E P "pairings" 365 (.ref 146),E P "_law_cell" 375 (.ref 153),E P "_law_names" 390 (.ref 160),E P "_law_bits" 400 (.ref 167),E P "_law_world" 406 (.ref 172),E P "_law_order" 417 (.ref 179),E P "_law_turned" 423 (.ref 184),E P "_law_flipped" 429 (.ref 189),E P "_law_two" 435 (.ref 194),E P "_law_fits" 450 (.ref 201),E P "_law_whole" 457 (.ref 208),E P "_law_is_one" 468 (.ref 215),E P "_law_all" 484 (.ref 222),E P "law" 498 (.ref 229)] 38),#[]⟩)::
(nat_lit 15,⟨(.type "tuple"),none,(.seq #[(.type "ValueError")] 0),#[]⟩)::
(nat_lit 22,⟨(.type "tuple"),none,(.seq #[] 0),#[]⟩)::
(nat_lit 23,⟨(.type "dict"),none,(.dict #[E P "__module__" 196 (.str "pickalike.errors" 187),E P "__firstlineno__" 200 (.int 2 199),E P "__static_attributes__" 201 (.ref 22),E P "__weakref__" 203 (.ref 25),E P "__doc__" 204 .none] 3),#[]⟩)::
(nat_lit 24,⟨(.type "type"),none,(.cls ⟨"PickError",[(.type "ValueError")],[(.ref 24),(.type "ValueError"),(.type "Exception"),(.type "BaseException"),(.type "object")],23,"PickError",true,[],[(.ref 37),(.ref 56),(.ref 75)],false,none,false⟩),#[(some (.ref 15)),none,(some (.str "PickError" 189)),(some (.str "PickError" 197)),(some (.builtin "ValueError.__new__")),(some (.bool true))]⟩)::
(nat_lit 25,⟨(.type "getset_descriptor"),none,(.fields #[(.str "__weakref__" 202),(.ref 24),(.builtin "ExceptionGroup.__weakref__"),.none]),#[]⟩)::
(nat_lit 28,⟨(.type "tuple"),none,(.seq #[(.ref 24)] 0),#[]⟩)::
(nat_lit 35,⟨(.type "tuple"),none,(.seq #[] 0),#[]⟩)::
(nat_lit 36,⟨(.type "dict"),none,(.dict #[E P "__module__" 214 (.str "pickalike.errors" 187),E P "__firstlineno__" 218 (.int 4 217),E P "__static_attributes__" 219 (.ref 35),E P "__doc__" 220 .none] 2),#[]⟩)::
(nat_lit 37,⟨(.type "type"),none,(.cls ⟨"NoTongue",[(.ref 24)],[(.ref 37),(.ref 24),(.type "ValueError"),(.type "Exception"),(.type "BaseException"),(.type "object")],36,"NoTongue",true,[],[],false,none,false⟩),#[(some (.ref 28)),none,(some (.str "NoTongue" 207)),(some (.str "NoTongue" 215)),(some (.builtin "ValueError.__new__")),(some (.bool true))]⟩)::
(nat_lit 40,⟨(.type "tuple"),none,(.seq #[(.ref 24)] 0),#[]⟩)::
(nat_lit 47,⟨(.type "tuple"),none,(.seq #[] 0),#[]⟩)::
(nat_lit 49,⟨(.type "tuple"),none,(.seq #[(.str "self" 238),(.str "many" 239)] 0),#[]⟩)::
(nat_lit 50,⟨(.type "tuple"),none,(.seq #[] 0),#[]⟩)::
(nat_lit 52,⟨(.type "code"),none,(.fields #[(.str "__init__" 235),(.str "TooMany.__init__" 236),(.str "/claim/cut.py" 237),(.int 8 0),(.int 2 0),(.int 0 0),(.int 0 0),(.int 3 0),(.ref 47),(.bool true),(.int 181 0),(.ref 48),.none,(.ref 49),(.ref 50),(.ref 51),(.int 240 0),(.int 8 0),(.str "/claim/cut.py" 241)]),#[]⟩)::
(nat_lit 53,⟨(.type "function"),none,(.func (W.fnOf "__init__" "TooMany.__init__" (aO (topC 3 0)) (aM (topC 3 0)) (ay (topC 3 0)) .none .none .none (.str "pickalike.errors" 187) none (.ref 52) .none)),#[]⟩)::
(nat_lit 54,⟨(.type "tuple"),none,(.seq #[(.str "many" 243)] 0),#[]⟩)::
(nat_lit 55,⟨(.type "dict"),none,(.dict #[E P "__module__" 230 (.str "pickalike.errors" 187),E P "__firstlineno__" 234 (.int 6 233),E P "__init__" 242 (.ref 53),E P "__static_attributes__" 244 (.ref 54),E P "__doc__" 245 .none] 2),#[]⟩)::
(nat_lit 56,⟨(.type "type"),none,(.cls ⟨"TooMany",[(.ref 24)],[(.ref 56),(.ref 24),(.type "ValueError"),(.type "Exception"),(.type "BaseException"),(.type "object")],55,"TooMany",true,[],[],false,none,false⟩),#[(some (.ref 40)),none,(some (.str "TooMany" 223)),(some (.str "TooMany" 231)),(some (.builtin "ValueError.__new__")),(some (.bool true))]⟩)::
(nat_lit 59,⟨(.type "tuple"),none,(.seq #[(.ref 24)] 0),#[]⟩)::
(nat_lit 66,⟨(.type "tuple"),none,(.seq #[] 0),#[]⟩)::
(nat_lit 68,⟨(.type "tuple"),none,(.seq #[(.str "self" 263),(.str "told" 264)] 0),#[]⟩)::
(nat_lit 69,⟨(.type "tuple"),none,(.seq #[] 0),#[]⟩)::
(nat_lit 71,⟨(.type "code"),none,(.fields #[(.str "__init__" 260),(.str "NoCount.__init__" 261),(.str "/claim/cut.py" 262),(.int 13 0),(.int 2 0),(.int 0 0),(.int 0 0),(.int 3 0),(.ref 66),(.bool true),(.int 181 0),(.ref 67),.none,(.ref 68),(.ref 69),(.ref 70),(.int 265 0),(.int 13 0),(.str "/claim/cut.py" 266)]),#[]⟩)::
(nat_lit 72,⟨(.type "function"),none,(.func (W.fnOf "__init__" "NoCount.__init__" (aO (topC 4 0)) (aM (topC 4 0)) (ay (topC 4 0)) .none .none .none (.str "pickalike.errors" 187) none (.ref 71) .none)),#[]⟩)::
(nat_lit 73,⟨(.type "tuple"),none,(.seq #[(.str "told" 268)] 0),#[]⟩)::
(nat_lit 74,⟨(.type "dict"),none,(.dict #[E P "__module__" 255 (.str "pickalike.errors" 187),E P "__firstlineno__" 259 (.int 11 258),E P "__init__" 267 (.ref 72),E P "__static_attributes__" 269 (.ref 73),E P "__doc__" 270 .none] 2),#[]⟩)::
(nat_lit 75,⟨(.type "type"),none,(.cls ⟨"NoCount",[(.ref 24)],[(.ref 75),(.ref 24),(.type "ValueError"),(.type "Exception"),(.type "BaseException"),(.type "object")],74,"NoCount",true,[],[],false,none,false⟩),#[(some (.ref 59)),none,(some (.str "NoCount" 248)),(some (.str "NoCount" 256)),(some (.builtin "ValueError.__new__")),(some (.bool true))]⟩)::
(nat_lit 78,⟨(.type "tuple"),none,(.seq #[] 0),#[]⟩)::
(nat_lit 80,⟨(.type "tuple"),none,(.seq #[(.str "thing" 278)] 0),#[]⟩)::
(nat_lit 81,⟨(.type "tuple"),none,(.seq #[] 0),#[]⟩)::
(nat_lit 83,⟨(.type "code"),none,(.fields #[(.str "is_whole" 275),(.str "is_whole" 276),(.str "/claim/cut.py" 277),(.int 17 0),(.int 1 0),(.int 0 0),(.int 0 0),(.int 3 0),(.ref 78),(.bool true),(.int 181 0),(.ref 79),.none,(.ref 80),(.ref 81),(.ref 82),(.int 279 0),(.int 17 0),(.str "/claim/cut.py" 280)]),#[]⟩)::
(nat_lit 84,⟨(.type "function"),none,(.func (W.fnOf "is_whole" "is_whole" (aO (top 6)) (aM (top 6)) (ay (top 6)) .none .none .none (.str "pickalike.worlds" 273) none (.ref 83) .none)),#[]⟩)::
(nat_lit 85,⟨(.type "tuple"),none,(.seq #[] 0),#[]⟩)::
(nat_lit 88,⟨(.type "code"),none,(.fields #[(.str "tongue_of" 282),(.str "tongue_of" 283),(.str "/claim/cut.py" 284),(.int 19 0),(.int 1 0),(.int 0 0),(.int 0 0),(.int 3 0),(.ref 85),(.bool true),(.int 181 0),(.ref 86),.none,.none,.none,(.ref 87),(.int 285 0),(.int 19 0),(.str "/claim/cut.py" 286)]),#[]⟩)::
(nat_lit 89,⟨(.type "function"),none,(.func (W.fnOf "tongue_of" "tongue_of" (aO (top 7)) (aM (top 7)) (ay (top 7)) .none .none .none (.str "pickalike.worlds" 273) none (.ref 88) .none)),#[]⟩)::
(nat_lit 90,⟨(.type "tuple"),none,(.seq #[] 0),#[]⟩)::
(nat_lit 92,⟨(.type "tuple"),none,(.seq #[(.str "one" 291),(.str "other" 292)] 0),#[]⟩)::
(nat_lit 93,⟨(.type "tuple"),none,(.seq #[] 0),#[]⟩)::
(nat_lit 95,⟨(.type "code"),none,(.fields #[(.str "need_tongue" 288),(.str "need_tongue" 289),(.str "/claim/cut.py" 290),(.int 22 0),(.int 2 0),(.int 0 0),(.int 0 0),(.int 3 0),(.ref 90),(.bool true),(.int 181 0),(.ref 91),.none,(.ref 92),(.ref 93),(.ref 94),(.int 293 0),(.int 22 0),(.str "/claim/cut.py" 294)]),#[]⟩)::
(nat_lit 96,⟨(.type "function"),none,(.func (W.fnOf "need_tongue" "need_tongue" (aO (top 8)) (aM (top 8)) (ay (top 8)) .none .none .none (.str "pickalike.worlds" 273) none (.ref 95) .none)),#[]⟩)::
(nat_lit 97,⟨(.type "tuple"),none,(.seq #[] 0),#[]⟩)::
(nat_lit 99,⟨(.type "tuple"),none,(.seq #[(.str "worlds" 303),(.str "world" 304)] 0),#[]⟩)::
(nat_lit 100,⟨(.type "tuple"),none,(.seq #[] 0),#[]⟩)::
(nat_lit 102,⟨(.type "code"),none,(.fields #[(.str "need_few_points" 300),(.str "need_few_points" 301),(.str "/claim/cut.py" 302),(.int 27 0),(.int 1 0),(.int 0 0),(.int 0 0),(.int 3 0),(.ref 97),(.bool true),(.int 181 0),(.ref 98),.none,(.ref 99),(.ref 100),(.ref 101),(.int 305 0),(.int 27 0),(.str "/claim/cut.py" 306)]),#[]⟩)::
(nat_lit 103,⟨(.type "function"),none,(.func (W.fnOf "need_few_points" "need_few_points" (aO (top 11)) (aM (top 11)) (ay (top 11)) .none .none .none (.str "pickalike.checks" 296) none (.ref 102) .none)),#[]⟩)::
(nat_lit 104,⟨(.type "tuple"),none,(.seq #[] 0),#[]⟩)::
(nat_lit 106,⟨(.type "tuple"),none,(.seq #[(.str "one" 311),(.str "other" 312)] 0),#[]⟩)::
(nat_lit 107,⟨(.type "tuple"),none,(.seq #[] 0),#[]⟩)::
(nat_lit 109,⟨(.type "code"),none,(.fields #[(.str "need_small" 308),(.str "need_small" 309),(.str "/claim/cut.py" 310),(.int 31 0),(.int 2 0),(.int 0 0),(.int 0 0),(.int 3 0),(.ref 104),(.bool true),(.int 181 0),(.ref 105),.none,(.ref 106),(.ref 107),(.ref 108),(.int 313 0),(.int 31 0),(.str "/claim/cut.py" 314)]),#[]⟩)::
(nat_lit 110,⟨(.type "function"),none,(.func (W.fnOf "need_small" "need_small" (aO (top 12)) (aM (top 12)) (ay (top 12)) .none .none .none (.str "pickalike.checks" 296) none (.ref 109) .none)),#[]⟩)::
(nat_lit 111,⟨(.type "tuple"),none,(.seq #[] 0),#[]⟩)::
(nat_lit 113,⟨(.type "tuple"),none,(.seq #[(.str "told" 319),(.str "least" 320),(.str "most" 321)] 0),#[]⟩)::
(nat_lit 114,⟨(.type "tuple"),none,(.seq #[] 0),#[]⟩)::
(nat_lit 116,⟨(.type "code"),none,(.fields #[(.str "need_count" 316),(.str "need_count" 317),(.str "/claim/cut.py" 318),(.int 34 0),(.int 3 0),(.int 0 0),(.int 0 0),(.int 3 0),(.ref 111),(.bool true),(.int 181 0),(.ref 112),.none,(.ref 113),(.ref 114),(.ref 115),(.int 322 0),(.int 34 0),(.str "/claim/cut.py" 323)]),#[]⟩)::
(nat_lit 117,⟨(.type "function"),none,(.func (W.fnOf "need_count" "need_count" (aO (top 13)) (aM (top 13)) (ay (top 13)) .none .none .none (.str "pickalike.checks" 296) none (.ref 116) .none)),#[]⟩)::
(nat_lit 118,⟨(.type "tuple"),none,(.seq #[] 0),#[]⟩)::
(nat_lit 121,⟨(.type "code"),none,(.fields #[(.str "view" 327),(.str "view" 328),(.str "/claim/cut.py" 329),(.int 38 0),(.int 3 0),(.int 0 0),(.int 0 0),(.int 3 0),(.ref 118),(.bool true),(.int 181 0),(.ref 119),.none,.none,.none,(.ref 120),(.int 330 0),(.int 38 0),(.str "/claim/cut.py" 331)]),#[]⟩)::
(nat_lit 122,⟨(.type "function"),none,(.func (W.fnOf "view" "view" (aO (top 15)) (aM (top 15)) (ay (top 15)) .none .none .none (.str "pickalike.pairings" 325) none (.ref 121) .none)),#[]⟩)::
(nat_lit 123,⟨(.type "tuple"),none,(.seq #[] 0),#[]⟩)::
(nat_lit 126,⟨(.type "code"),none,(.fields #[(.str "views" 333),(.str "views" 334),(.str "/claim/cut.py" 335),(.int 43 0),(.int 1 0),(.int 0 0),(.int 0 0),(.int 3 0),(.ref 123),(.bool true),(.int 181 0),(.ref 124),.none,.none,.none,(.ref 125),(.int 336 0),(.int 43 0),(.str "/claim/cut.py" 337)]),#[]⟩)::
(nat_lit 127,⟨(.type "function"),none,(.func (W.fnOf "views" "views" (aO (top 16)) (aM (top 16)) (ay (top 16)) .none .none .none (.str "pickalike.pairings" 325) none (.ref 126) .none)),#[]⟩)::
(nat_lit 128,⟨(.type "tuple"),none,(.seq #[] 0),#[]⟩)::
(nat_lit 130,⟨(.type "tuple"),none,(.seq #[(.str "first" 342),(.str "second" 343),(.str "pair" 344),(.str "again" 345)] 0),#[]⟩)::
(nat_lit 131,⟨(.type "tuple"),none,(.seq #[] 0),#[]⟩)::
(nat_lit 133,⟨(.type "code"),none,(.fields #[(.str "agree" 339),(.str "agree" 340),(.str "/claim/cut.py" 341),(.int 45 0),(.int 4 0),(.int 0 0),(.int 0 0),(.int 3 0),(.ref 128),(.bool true),(.int 181 0),(.ref 129),.none,(.ref 130),(.ref 131),(.ref 132),(.int 346 0),(.int 45 0),(.str "/claim/cut.py" 347)]),#[]⟩)::
(nat_lit 134,⟨(.type "function"),none,(.func (W.fnOf "agree" "agree" (aO (top 17)) (aM (top 17)) (ay (top 17)) .none .none .none (.str "pickalike.pairings" 325) none (.ref 133) .none)),#[]⟩)::
(nat_lit 135,⟨(.type "tuple"),none,(.seq #[] 0),#[]⟩)::
(nat_lit 137,⟨(.type "tuple"),none,(.seq #[(.str "first" 352),(.str "second" 353),(.str "pairing" 354),(.str "pair" 355),(.str "again" 356)] 0),#[]⟩)::
(nat_lit 138,⟨(.type "tuple"),none,(.seq #[] 0),#[]⟩)::
(nat_lit 140,⟨(.type "code"),none,(.fields #[(.str "goes_behind" 349),(.str "goes_behind" 350),(.str "/claim/cut.py" 351),(.int 47 0),(.int 4 0),(.int 0 0),(.int 0 0),(.int 3 0),(.ref 135),(.bool true),(.int 181 0),(.ref 136),.none,(.ref 137),(.ref 138),(.ref 139),(.int 357 0),(.int 47 0),(.str "/claim/cut.py" 358)]),#[]⟩)::
(nat_lit 141,⟨(.type "function"),none,(.func (W.fnOf "goes_behind" "goes_behind" (aO (top 18)) (aM (top 18)) (ay (top 18)) .none .none .none (.str "pickalike.pairings" 325) none (.ref 140) .none)),#[]⟩)::
(nat_lit 142,⟨(.type "tuple"),none,(.seq #[] 0),#[]⟩)::
(nat_lit 145,⟨(.type "code"),none,(.fields #[(.str "pairings" 360),(.str "pairings" 361),(.str "/claim/cut.py" 362),(.int 54 0),(.int 3 0),(.int 0 0),(.int 0 0),(.int 3 0),(.ref 142),(.bool true),(.int 181 0),(.ref 143),.none,.none,.none,(.ref 144),(.int 363 0),(.int 54 0),(.str "/claim/cut.py" 364)]),#[]⟩)::
(nat_lit 146,⟨(.type "function"),none,(.func (W.fnOf "pairings" "pairings" (aO (top 19)) (aM (top 19)) (ay (top 19)) .none .none .none (.str "pickalike.pairings" 325) none (.ref 145) .none)),#[]⟩)::
(nat_lit 147,⟨(.type "tuple"),none,(.seq #[] 0),#[]⟩)::
(nat_lit 149,⟨(.type "tuple"),none,(.seq #[(.str "_law_script" 371),(.str "_law_k" 372)] 0),#[]⟩)::
(nat_lit 150,⟨(.type "tuple"),none,(.seq #[] 0),#[]⟩)::
(nat_lit 152,⟨(.type "code"),none,(.fields #[(.str "_law_cell" 368),(.str "_law_cell" 369),(.str "/claim/cut.py" 370),(.int 67 0),(.int 2 0),(.int 0 0),(.int 0 0),(.int 3 0),(.ref 147),(.bool true),(.int 181 0),(.ref 148),.none,(.ref 149),(.ref 150),(.ref 151),(.int 373 0),(.int 67 0),(.str "/claim/cut.py" 374)]),#[]⟩)::
(nat_lit 153,⟨(.type "function"),none,(.func (W.fnOf "_law_cell" "_law_cell" (aO (top 21)) (aM (top 21)) (ay (top 21)) .none .none .none (.str "law_pickalike_k22_all_pairings" 366) none (.ref 152) .none)),#[]⟩)::
(nat_lit 154,⟨(.type "tuple"),none,(.seq #[] 0),#[]⟩)::
(nat_lit 156,⟨(.type "tuple"),none,(.seq #[(.str "_law_cell_here" 379),(.str "_law_many" 380),(.str "_law_letters" 381),(.str "_law_sign" 382),(.str "_law_stem" 383),(.str "_law_found" 384),(.str "_law_k" 385),(.str "_law_other" 386),(.str "_law_name" 387)] 0),#[]⟩)::
(nat_lit 157,⟨(.type "tuple"),none,(.seq #[] 0),#[]⟩)::
(nat_lit 159,⟨(.type "code"),none,(.fields #[(.str "_law_names" 376),(.str "_law_names" 377),(.str "/claim/cut.py" 378),(.int 71 0),(.int 2 0),(.int 0 0),(.int 0 0),(.int 3 0),(.ref 154),(.bool true),(.int 181 0),(.ref 155),.none,(.ref 156),(.ref 157),(.ref 158),(.int 388 0),(.int 71 0),(.str "/claim/cut.py" 389)]),#[]⟩)::
(nat_lit 160,⟨(.type "function"),none,(.func (W.fnOf "_law_names" "_law_names" (aO (top 22)) (aM (top 22)) (ay (top 22)) .none .none .none (.str "law_pickalike_k22_all_pairings" 366) none (.ref 159) .none)),#[]⟩)::
(nat_lit 161,⟨(.type "tuple"),none,(.seq #[] 0),#[]⟩)::
(nat_lit 163,⟨(.type "tuple"),none,(.seq #[(.str "_law_cell_here" 394),(.str "_law_size" 395),(.str "_law_found" 396),(.str "_law_k" 397)] 0),#[]⟩)::
(nat_lit 164,⟨(.type "tuple"),none,(.seq #[] 0),#[]⟩)::
(nat_lit 166,⟨(.type "code"),none,(.fields #[(.str "_law_bits" 391),(.str "_law_bits" 392),(.str "/claim/cut.py" 393),(.int 83 0),(.int 2 0),(.int 0 0),(.int 0 0),(.int 3 0),(.ref 161),(.bool true),(.int 181 0),(.ref 162),.none,(.ref 163),(.ref 164),(.ref 165),(.int 398 0),(.int 83 0),(.str "/claim/cut.py" 399)]),#[]⟩)::
(nat_lit 167,⟨(.type "function"),none,(.func (W.fnOf "_law_bits" "_law_bits" (aO (top 23)) (aM (top 23)) (ay (top 23)) .none .none .none (.str "law_pickalike_k22_all_pairings" 366) none (.ref 166) .none)),#[]⟩)::
(nat_lit 168,⟨(.type "tuple"),none,(.seq #[] 0),#[]⟩)::
(nat_lit 171,⟨(.type "code"),none,(.fields #[(.str "_law_world" 401),(.str "_law_world" 402),(.str "/claim/cut.py" 403),(.int 89 0),(.int 3 0),(.int 0 0),(.int 0 0),(.int 3 0),(.ref 168),(.bool true),(.int 181 0),(.ref 169),.none,.none,.none,(.ref 170),(.int 404 0),(.int 89 0),(.str "/claim/cut.py" 405)]),#[]⟩)::
(nat_lit 172,⟨(.type "function"),none,(.func (W.fnOf "_law_world" "_law_world" (aO (top 24)) (aM (top 24)) (ay (top 24)) .none .none .none (.str "law_pickalike_k22_all_pairings" 366) none (.ref 171) .none)),#[]⟩)::
(nat_lit 173,⟨(.type "tuple"),none,(.seq #[] 0),#[]⟩)::
(nat_lit 175,⟨(.type "tuple"),none,(.seq #[(.str "_law_cell_here" 410),(.str "_law_many" 411),(.str "_law_left" 412),(.str "_law_found" 413),(.str "_law_k" 414)] 0),#[]⟩)::
(nat_lit 176,⟨(.type "tuple"),none,(.seq #[] 0),#[]⟩)::
(nat_lit 178,⟨(.type "code"),none,(.fields #[(.str "_law_order" 407),(.str "_law_order" 408),(.str "/claim/cut.py" 409),(.int 99 0),(.int 2 0),(.int 0 0),(.int 0 0),(.int 3 0),(.ref 173),(.bool true),(.int 181 0),(.ref 174),.none,(.ref 175),(.ref 176),(.ref 177),(.int 415 0),(.int 99 0),(.str "/claim/cut.py" 416)]),#[]⟩)::
(nat_lit 179,⟨(.type "function"),none,(.func (W.fnOf "_law_order" "_law_order" (aO (top 25)) (aM (top 25)) (ay (top 25)) .none .none .none (.str "law_pickalike_k22_all_pairings" 366) none (.ref 178) .none)),#[]⟩)::
(nat_lit 180,⟨(.type "tuple"),none,(.seq #[] 0),#[]⟩)::
(nat_lit 183,⟨(.type "code"),none,(.fields #[(.str "_law_turned" 418),(.str "_law_turned" 419),(.str "/claim/cut.py" 420),(.int 106 0),(.int 2 0),(.int 0 0),(.int 0 0),(.int 3 0),(.ref 180),(.bool true),(.int 181 0),(.ref 181),.none,.none,.none,(.ref 182),(.int 421 0),(.int 106 0),(.str "/claim/cut.py" 422)]),#[]⟩)::
(nat_lit 184,⟨(.type "function"),none,(.func (W.fnOf "_law_turned" "_law_turned" (aO (top 26)) (aM (top 26)) (ay (top 26)) .none .none .none (.str "law_pickalike_k22_all_pairings" 366) none (.ref 183) .none)),#[]⟩)::
(nat_lit 185,⟨(.type "tuple"),none,(.seq #[] 0),#[]⟩)::
(nat_lit 188,⟨(.type "code"),none,(.fields #[(.str "_law_flipped" 424),(.str "_law_flipped" 425),(.str "/claim/cut.py" 426),(.int 110 0),(.int 2 0),(.int 0 0),(.int 0 0),(.int 3 0),(.ref 185),(.bool true),(.int 181 0),(.ref 186),.none,.none,.none,(.ref 187),(.int 427 0),(.int 110 0),(.str "/claim/cut.py" 428)]),#[]⟩)::
(nat_lit 189,⟨(.type "function"),none,(.func (W.fnOf "_law_flipped" "_law_flipped" (aO (top 27)) (aM (top 27)) (ay (top 27)) .none .none .none (.str "law_pickalike_k22_all_pairings" 366) none (.ref 188) .none)),#[]⟩)::
(nat_lit 190,⟨(.type "tuple"),none,(.seq #[] 0),#[]⟩)::
(nat_lit 193,⟨(.type "code"),none,(.fields #[(.str "_law_two" 430),(.str "_law_two" 431),(.str "/claim/cut.py" 432),(.int 129 0),(.int 2 0),(.int 0 0),(.int 0 0),(.int 3 0),(.ref 190),(.bool true),(.int 181 0),(.ref 191),.none,.none,.none,(.ref 192),(.int 433 0),(.int 129 0),(.str "/claim/cut.py" 434)]),#[]⟩)::
(nat_lit 194,⟨(.type "function"),none,(.func (W.fnOf "_law_two" "_law_two" (aO (top 28)) (aM (top 28)) (ay (top 28)) .none .none .none (.str "law_pickalike_k22_all_pairings" 366) none (.ref 193) .none)),#[]⟩)::
(nat_lit 195,⟨(.type "tuple"),none,(.seq #[] 0),#[]⟩)::
(nat_lit 197,⟨(.type "tuple"),none,(.seq #[(.str "_law_one" 439),(.str "_law_other" 440),(.str "_law_pairs" 441),(.str "_law_a" 442),(.str "_law_b" 443),(.str "_law_here" 444),(.str "_law_there" 445),(.str "_law_c" 446),(.str "_law_d" 447)] 0),#[]⟩)::
(nat_lit 198,⟨(.type "tuple"),none,(.seq #[] 0),#[]⟩)::
(nat_lit 200,⟨(.type "code"),none,(.fields #[(.str "_law_fits" 436),(.str "_law_fits" 437),(.str "/claim/cut.py" 438),(.int 144 0),(.int 3 0),(.int 0 0),(.int 0 0),(.int 3 0),(.ref 195),(.bool true),(.int 181 0),(.ref 196),.none,(.ref 197),(.ref 198),(.ref 199),(.int 448 0),(.int 144 0),(.str "/claim/cut.py" 449)]),#[]⟩)::
(nat_lit 201,⟨(.type "function"),none,(.func (W.fnOf "_law_fits" "_law_fits" (aO (top 29)) (aM (top 29)) (ay (top 29)) .none .none .none (.str "law_pickalike_k22_all_pairings" 366) none (.ref 200) .none)),#[]⟩)::
(nat_lit 202,⟨(.type "tuple"),none,(.seq #[] 0),#[]⟩)::
(nat_lit 204,⟨(.type "tuple"),none,(.seq #[(.str "_law_found" 454)] 0),#[]⟩)::
(nat_lit 205,⟨(.type "tuple"),none,(.seq #[] 0),#[]⟩)::
(nat_lit 207,⟨(.type "code"),none,(.fields #[(.str "_law_whole" 451),(.str "_law_whole" 452),(.str "/claim/cut.py" 453),(.int 156 0),(.int 1 0),(.int 0 0),(.int 0 0),(.int 3 0),(.ref 202),(.bool true),(.int 181 0),(.ref 203),.none,(.ref 204),(.ref 205),(.ref 206),(.int 455 0),(.int 156 0),(.str "/claim/cut.py" 456)]),#[]⟩)::
(nat_lit 208,⟨(.type "function"),none,(.func (W.fnOf "_law_whole" "_law_whole" (aO (top 30)) (aM (top 30)) (ay (top 30)) .none .none .none (.str "law_pickalike_k22_all_pairings" 366) none (.ref 207) .none)),#[]⟩)::
(nat_lit 209,⟨(.type "tuple"),none,(.seq #[] 0),#[]⟩)::
(nat_lit 211,⟨(.type "tuple"),none,(.seq #[(.str "_law_pairs" 461),(.str "_law_one" 462),(.str "_law_other" 463),(.str "_law_pair" 464),(.str "_law_k" 465)] 0),#[]⟩)::
(nat_lit 212,⟨(.type "tuple"),none,(.seq #[] 0),#[]⟩)::
(nat_lit 214,⟨(.type "code"),none,(.fields #[(.str "_law_is_one" 458),(.str "_law_is_one" 459),(.str "/claim/cut.py" 460),(.int 158 0),(.int 3 0),(.int 0 0),(.int 0 0),(.int 3 0),(.ref 209),(.bool true),(.int 181 0),(.ref 210),.none,(.ref 211),(.ref 212),(.ref 213),(.int 466 0),(.int 158 0),(.str "/claim/cut.py" 467)]),#[]⟩)::
(nat_lit 215,⟨(.type "function"),none,(.func (W.fnOf "_law_is_one" "_law_is_one" (aO (top 31)) (aM (top 31)) (ay (top 31)) .none .none .none (.str "law_pickalike_k22_all_pairings" 366) none (.ref 214) .none)),#[]⟩)::
(nat_lit 216,⟨(.type "tuple"),none,(.seq #[] 0),#[]⟩)::
(nat_lit 218,⟨(.type "tuple"),none,(.seq #[(.str "_law_found" 472),(.str "_law_one" 473),(.str "_law_other" 474),(.str "_law_most" 475),(.str "_law_known" 476),(.str "_law_pairs" 477),(.str "_law_a" 478),(.str "_law_b" 479),(.str "_law_more" 480),(.str "_law_above" 481)] 0),#[]⟩)::
(nat_lit 219,⟨(.type "tuple"),none,(.seq #[] 0),#[]⟩)::
(nat_lit 221,⟨(.type "code"),none,(.fields #[(.str "_law_all" 469),(.str "_law_all" 470),(.str "/claim/cut.py" 471),(.int 172 0),(.int 4 0),(.int 0 0),(.int 0 0),(.int 3 0),(.ref 216),(.bool true),(.int 181 0),(.ref 217),.none,(.ref 218),(.ref 219),(.ref 220),(.int 482 0),(.int 172 0),(.str "/claim/cut.py" 483)]),#[]⟩)::
(nat_lit 222,⟨(.type "function"),none,(.func (W.fnOf "_law_all" "_law_all" (aO (top 32)) (aM (top 32)) (ay (top 32)) .none .none .none (.str "law_pickalike_k22_all_pairings" 366) none (.ref 221) .none)),#[]⟩)::
(nat_lit 223,⟨(.type "tuple"),none,(.seq #[] 0),#[]⟩)::
(nat_lit 225,⟨(.type "tuple"),none,(.seq #[(.str "_law_script" 488),(.str "_law_one" 489),(.str "_law_other" 490),(.str "_law_most" 491),(.str "_law_found" 492),(.str "_law_k" 493),(.str "_law_ahead" 494),(.str "_law_kept" 495)] 0),#[]⟩)::
(nat_lit 226,⟨(.type "tuple"),none,(.seq #[] 0),#[]⟩)::
(nat_lit 228,⟨(.type "code"),none,(.fields #[(.str "law" 485),(.str "law" 486),(.str "/claim/cut.py" 487),(.int 187 0),(.int 1 0),(.int 0 0),(.int 0 0),(.int 3 0),(.ref 223),(.bool true),(.int 181 0),(.ref 224),.none,(.ref 225),(.ref 226),(.ref 227),(.int 496 0),(.int 187 0),(.str "/claim/cut.py" 497)]),#[]⟩)::
(nat_lit 229,⟨(.type "function"),none,(.func (W.fnOf "law" "law" (aO (top 33)) (aM (top 33)) (ay (top 33)) .none .none .none (.str "law_pickalike_k22_all_pairings" 366) none (.ref 228) .none)),#[]⟩)::[]
def VW:Program:={PySem.Challenge.pw_pickalike_k22_all_pairings with main:={PySem.Challenge.pw_pickalike_k22_all_pairings.main with body:=[top 1,top 2,top 3,top 4,top 6,top 7,top 8,top 10,top 11,top 12,top 13,top 15,top 16,top 17,top 18,top 19,top 21,top 22,top 23,top 24,top 25,top 26,top 27,top 28,top 29,top 30,top 31,top 32,top 33]}}
def HK:W.Hook:=W.kHook KF [2,3,15,22,23,24,25,28,35,36,37,40,47,49,50,52,53,54,55,56,59,66,68,69,71,72,73,74,75,78,80,81,83,84,85,88,89,90,92,93,95,96,97,99,100,102,103,104,106,107,109,110,111,113,114,116,117,118,121,122,123,126,127,128,130,131,133,134,135,137,138,140,141,142,145,146,147,149,150,152,153,154,156,157,159,160,161,163,164,166,167,168,171,172,173,175,176,178,179,180,183,184,185,188,189,190,193,194,195,197,198,200,201,202,204,205,207,208,209,211,212,214,215,216,218,219,221,222,223,225,226,228,229] (fun _=>by kernel_rfl)
def XT:Shared->Bool:=fun s=>W.xlAt VW [] s && W.recOk (W.RowW.records PySem.Challenge.rw_pickalike_k22_all_pairings.row.toRowW) s
theorem look:W.OpenLaw.wellSaid PySem.Challenge.rw_pickalike_k22_all_pairings=true:=by decide +kernel
theorem left:W.LeftO PySem.Challenge.rw_pickalike_k22_all_pairings.row.prog VW [] XT (W.Hook.obs HK) (W.Hook.val HK) 3468:=fun w=>by kernel_rfl
end K22
namespace DX
open PySem PySem.Spec
open Sem (wp)
end DX
namespace DX
open PySem PySem.Spec
end DX
namespace DX
open PySem PySem.Spec PyProof.Rows L2
def K8 (a C:Addr) (dx:Option Addr):Heap->Prop:=fun h=>∃oe vs,h.get? a=some oe/\oe.cls=.ref C/\oe.dict=dx/\oe.data=.fields vs
abbrev XO (a C:Addr) (dx:Option Addr):HO:=.ext (K8 a C dx)
end DX
namespace DX
open PySem PySem.Spec PyProof.Rows
open Sem (wp)
section
variable {prog:Program}{w:World}{A:Around}{E:Value->Shared->Prop}{s:Shared}{K:W.Frag}{x C:Addr}{ox:Obj}{od:Option Obj}{name:Str}
theorem DE {M:Model}{nameV:Value}{Q:Unit->Shared->Prop}(X:K.In s.heap) (I:W.InstAt s.heap x ox C od) (hm:W.mroIn K C (.type "BaseException")=some true) (hq:Q () s):wpAny M A (checkBuiltinCall "BaseException.__getattribute__" ⟨[.ref x,nameV],[]⟩) Q E s:=by
 have hk:builtinKind "BaseException.__getattribute__"=some .slot:=by decide +kernel
 have NI:splitId "BaseException.__getattribute__"=some ("BaseException","__getattribute__"):=by decide +kernel
 have ha:=F.args_bexc_ga (.ref x) nameV
 have L1:=I.type (M:=M)
 have L2:=W.looks_mroIn (M:=M) X hm
 simp only [checkBuiltinCall,hk,NI]
 have L:W.Looks M s.heap (isInstance (.ref x) (.type "BaseException")) true:=L1.andThen L2
 refine wpAny_bind (L.here ?_)
 obtain ⟨h,g,d,t,os⟩:=s
 repeat (any_goals (first | assumption | wp_step))
theorem entry_class {tk:Tok}{Q:Fin->Shared->Prop}(X:K.In s.heap) (I:W.InstAt s.heap x ox C od) (hf:W.findObj K C od "__class__"=some (.bind (.builtin "getset_descriptor.__get__") (.builtin "object.__class__"))) (hm:W.mroIn K C (.type "object")=some true) (h:Q (.done (.ret (.ref C))) s):
  wpAny (model prog w) A (Builtin.«object.__getattribute__» ⟨[.ref x,.str "__class__" tk],[]⟩) Q E s:=by
 obtain ⟨hh,g,d,t,os⟩:=s
 have L0:=I.type (M:=model prog w)
 have L1:=W.looks_find (M:=model prog w) X I hf
 refine wpAny_bind (wpAny_pure (wpAny_bind (wpAny_pure (wpAny_bind (L0.at (wpAny_bind (L1.at ?_)))))))
 show wpAny _ _ (holding [_] (call _ [_,.ref x,.ref C]) >>= ret) _ _ _
 exact wpAny_bind (wpAny_holding (wpAny_call (W.class_get (ox:=ox) (od:=od) X I hm (wpAny_pure h))))
theorem IM {tk:Tok}{fill expr:Bool}{Q:Value->Shared->Prop}(X:K.In s.heap) (I:W.InstAt s.heap x ox C od) (hga:W.findIn K (.ref C) "__getattribute__"=some (some (.builtin "BaseException.__getattribute__"))) (hgt:W.findIn K (.ref C) "__getattr__"=some none)
  (h:codeAny (model prog w) A (.call (.builtin "BaseException.__getattribute__") ⟨[.ref x,.str name tk],[]⟩) (fun r s'=>match r with | .ok (.ret v)=>wpAny (model prog w) A (handedOut v) Q E s' | _=>False) s):wpAny (model prog w) A (getAttrBy (.ref x) (.str name tk) fill expr) Q E s:=by
 obtain ⟨hh,g,d,t,os⟩:=s
 have L0:=I.type (M:=model prog w)
 have L1:=W.looks_findIn (M:=model prog w) X hga
 have L2:=W.looks_findIn (M:=model prog w) X hgt
 have O0:(Value.builtin "BaseException.__getattribute__" == Value.builtin "object.__getattribute__")=false:=by decide +kernel
 unfold getAttrBy
 refine wpAny_holding (wpAny_bind (L0.at (wpAny_bind (L1.at ?_))))
 dsimp only
 rw [O0,Bool.and_false,if_neg (by decide)]
 unfold getAttrByItsOwn
 refine wpAny_bind (L2.at ?_)
 have h0:(expr && onTheHeap (Value.builtin "BaseException.__getattribute__"))=false:=by cases expr <;> rfl
 refine wpAny_bind (wpAny_attempt (wpAny_holding ?_))
 unfold callGetattribute
 rw [h0,if_neg (by decide)]
 unfold boundAndCalled
 rw [PySem.F.attrBase_ValueError.ga.bind (.ref x)]
 refine wpAny_bind (wpAny_pure (wpAny_call (codeAny_mono h fun r s' q=>?_)))
 match r,q with
 | .ok (.ret v),q=>exact q
theorem get_class {Q:Option Value->Shared->Prop}(X:K.In s.heap) (I:W.InstAt s.heap x ox C od) (hga:W.findIn K (.ref C) "__getattribute__"=some (some (.builtin "BaseException.__getattribute__"))) (hgt:W.findIn K (.ref C) "__getattr__"=some none)
  (hm:W.mroIn K C (.type "BaseException")=some true) (hf:W.findObj K C od "__class__"=some (.bind (.builtin "getset_descriptor.__get__") (.builtin "object.__class__"))) (ho:W.mroIn K C (.type "object")=some true) (h:Q (some (.ref C)) {s with toks:=s.toks + 1}):
  wpAny (model prog w) A (getAttr? (.ref x) "__class__") Q E s:=by
 obtain ⟨hp,g,d,t,os⟩:=s
 unfold getAttr? getAttrBy?
 refine wpAny_bind (wpAny_mkText (wpAny_bind (wpAny_attempt (IM (s:=⟨hp,g,d,t + 1,os⟩) X I hga hgt ?_))))
 refine codeAny_call_builtin PySem.F.attrBase_ValueError.ga.plain F.entry_bexc_ga (DE (s:=⟨hp,g,d,t + 1,os⟩) X I hm (entry_class (s:=⟨hp,g,d,t + 1,os⟩) X I hf ho ?_))
 exact wpAny_pure (wpAny_pure h)
end
end DX
namespace DX
open PySem PySem.Spec PyProof.Rows L2
abbrev yo:List Value:=[.type "ValueError",.type "Exception",.type "BaseException",.type "object"]
def quiet:List Str:=["__init__","__setattr__","name","letter","many","told","point","row"]
structure GX (K:W.Frag) (P:Addr):Prop where
 gt:W.specialIn K (.builtin "object.__class__") "__get__"=some (some (.builtin "getset_descriptor.__get__"))
 tk:W.takesIn K (.builtin "object.__class__")=some true
 lk:∃nm q N bs sn sub ab col dd k0 k1 k2 k3 k5,K.lookup P=some (excClassObj nm q P N bs yo true sn sub ab col dd k0 k1 k2 k3 k5 "ValueError.__new__")/\∀h,K.In h->∃m,h.Ns N m/\∀n∈quiet,m n=none
structure XE (K:W.Frag) (P C:Addr):Prop where
 lk:∃nm q N bs sn sub ab col dd k0 k1 k2 k3 k5,K.lookup C=some (excClassObj nm q C N bs (.ref P::yo) true sn sub ab col dd k0 k1 k2 k3 k5 "ValueError.__new__")
 ga:W.findIn K (.ref C) "__getattribute__"=some (some (.builtin "BaseException.__getattribute__"))
 gt:W.findIn K (.ref C) "__getattr__"=some none
 cl:W.findIn K (.ref C) "__class__"=some (some (.builtin "object.__class__"))
section
variable {K:W.Frag}{P C:Addr}
theorem BN (X:XE K P C):∃cd,W.clsIn K C=some cd/\cd.mro=.ref C::.ref P::yo/\cd.hasDict=true/\W.typeIn K (.ref C)=some (.type "type"):=by
 obtain ⟨nm,q,N,bs,sn,sub,ab,col,dd,k0,k1,k2,k3,k5,l⟩:=X.lk
 have h1:W.clsIn K C=some {name:=nm,bases:=bs,mro:=.ref C::.ref P::yo,ns:=N,qualname:=q,hasDict:=true,slotNames:=sn,subclasses:=sub,abstract:=ab,collection:=col,hasDel:=false}:=by
  unfold W.clsIn
  rw [l]
 refine ⟨_,h1,rfl,rfl,?_⟩
 show (K.lookup C).map (·.cls)=_
 rw [l]
 rfl
theorem xD (X:XE K P C) (b:Value):W.mroIn K C b=some ((Value.ref C::.ref P::yo).contains b):=by
 obtain ⟨cd,h1,h2,_⟩:=BN X
 unfold W.mroIn
 rw [h1,Option.bind_some,h2]
 rfl
end
theorem Jf {K:W.Frag}{P C:Addr}(X:XE K P C){T:String}(h1:W.kitMeta T=true) (h2:yo.contains (.type T)=false):W.kitOne K (.ref C) (.type T)=some false:=by
 unfold W.kitOne W.kitCls
 rw [if_neg (by simp)]
 simp only [h1,if_true]
 show W.mroIn K C _=_
 rw [xD X,List.contains_cons,List.contains_cons,h2]
 rfl
theorem Gs {K:W.Frag}{C:Addr}{od:Option Obj}{name:Str}{a g:Value}(hc:(W.clsIn K C).isSome=true) (ha:W.findIn K (.ref C) name=some (some a)) (hg:W.specialIn K a "__get__"=some (some g)) (ht:W.takesIn K a=some true):W.findObj K C od name=some (.bind g a):=by
 obtain ⟨cd,hc⟩:=Option.isSome_iff_exists.mp hc
 unfold W.findObj
 rw [hc,Option.bind_some,ha,Option.bind_some]
 simp [hg,ht]
theorem D3 {K:W.Frag}{e P C:Addr}(G:GX K P) (E:XE K P C):W.KitX K (.ref e) (.ref C) (fun h=>∃ox od,W.InstAt h e ox C od):=by
 obtain ⟨cd,hc,hm,hd,ht⟩:=BN E
 refine ⟨fun M h _ ⟨ox,od,I⟩=>I.type,fun M h X _=>?_,fun h tp dd its n sl X htp=>?_,fun X ⟨ox,od,I⟩ k=>?_⟩
 ·unfold W.clsIn at hc
  split at hc
  ·rename_i ho
   intro A' Q' E' s' k q
   unfold isType loadHead
   exact wpAny_bind (wpAny_loadPart (k _ _ (X _ _ ho)) (wpAny_pure q))
  ·cases hc
 ·refine Bool.eq_false_iff.mpr fun q=>?_
  obtain rfl:C=tp:=Value.ref.inj (beq_iff_eq.mp q)
  unfold W.clsIn at hc
  split at hc
  ·rename_i ho
   have z:=(X _ _ ho).symm.trans htp
   cases z
  ·cases hc
 ·exact get_class X I E.ga E.gt (by rw [xD E];simp) (Gs (by rw [hc];rfl) E.cl G.gt G.tk) (by rw [xD E];simp) k
end DX
namespace DL
open PySem PySem.Spec PyProof.Rows L2
inductive D where
 | non | bl (b:Bool) | int (i:Int) | str (x:Str) | tup (xs:List D) | lst (xs:List D) | emp
 | exn (cls:Str) (ns:List Str) (ds:List D)
  | dct (ks vs:List D)
mutual
def isKey:D->Bool
 | .int _=>true
 | .tup xs=>areKeys xs
 | _=>false
def areKeys:List D->Bool
 | []=>true
 | x::xs=>isKey x && areKeys xs
end
mutual
def bN:D->Int
 | .int i=>hashInt i
 | .tup xs=>reduceHash (Builtin.Tuple.tupleHashOf (cO xs))
 | _=>0
def cO:List D->List Int
 | []=>[]
 | x::xs=>bN x::cO xs
end
mutual
def dep:D->Nat
 | .tup xs=>deps xs + 1
 | .lst xs=>deps xs + 1
 | .emp=>5000
 | .exn _ _ _=>5000
 | .dct _ _=>5000
 | _=>0
def deps:List D->Nat
 | []=>0
 | x::xs=>max (dep x) (deps xs)
end
structure Ik (ks:List D):Prop where
 key:areKeys ks=true
 nd:ks.Nodup
 dp:deps ks<=8
 tp:∀k∈ks,∃xs,k=.tup xs
def vV (p:Int×V×V) (e:DictEntry):Prop:=e.hash=p.1/\RelV p.2.1 e.key/\RelV p.2.2 e.val
abbrev pP (a:Addr) (kvs:List (Int×V×V)):HO:=.ext fun h=>∃o es ep,h.get? a=some o/\o.ExactDict/\o.data=.dict es ep/\Paired vV kvs es.toList
def XF (J:Hp) (dx:Option Addr) (ns:List Str) (vs:List V):Prop:=(dx=none/\ns=[]/\vs=[])\/∃d,dx=some d/\ns.length=vs.length/\J d=some (.xd (ns.zip vs))
theorem XF.mono {J J':Hp}(e:aP J J'){dx:Option Addr}{ns:List Str}{vs:List V}(h:XF J dx ns vs):XF J' dx ns vs:=by
 rcases h with h | ⟨d,h1,h2,h3⟩
 ·exact .inl h
 ·exact .inr ⟨d,h1,h2,e _ _ h3⟩
mutual
inductive Rep (K:W.Frag) (J:Hp):D->V->Prop
 | non:Rep K J .non .non
 | bl (b:Bool):Rep K J (.bl b) (.bl b)
 | int (i:Int):Rep K J (.int i) (.int i)
 | str (x:Str):Rep K J (.str x) (.str x)
 | emp {a:Addr}:J a=some (.dK [])->Rep K J .emp (.ref a)
 | tup {a:Addr}{vs:List V}{ds:List D}:cQ K J a vs->aF K J ds vs->Rep K J (.tup ds) (.ref a)
 | lst {a:Addr}{vs:List V}{ds:List D}:bZ K J a vs->aF K J ds vs->Rep K J (.lst ds) (.ref a)
 | exn {a C:Addr}{dx:Option Addr}{cls:Str}{ns:List Str}{vs:List V}{ds:List D}:J a=some (DX.XO a C dx)->W.nsIn K mainGlobals cls=some (some (.ref C))->XF J dx ns vs->aF K J ds vs->(∃P,DX.GX K P/\DX.XE K P C)->Rep K J (.exn cls ns ds) (.ref a)
 | dct {a:Addr}{ks vs:List D}{us ws:List V}:J a=some (pP a ((cO ks).zip (us.zip ws)))->aF K J ks us->aF K J vs ws->Ik ks->(a == sysModules)=false/\ks.length=vs.length->Rep K J (.dct ks vs) (.ref a)
inductive aF (K:W.Frag) (J:Hp):List D->List V->Prop
 | nil:aF K J [] []
 | cons {d:D}{v:V}{ds:List D}{vs:List V}:Rep K J d v->aF K J ds vs->aF K J (d::ds) (v::vs)
end
theorem fj {K:W.Frag}{H H':Hp}{a:Addr}{xs:List V}(e:aP H H') (h:cQ K H a xs):cQ K H' a xs:=by
 rcases h with (h | ⟨o,h⟩) | h
 ·exact .inl (.inl (e _ _ h))
 ·exact .inl (.inr ⟨o,e _ _ h⟩)
 ·exact .inr h
mutual
theorem Rep.mono {K:W.Frag}{J J':Hp}(e:aP J J'):∀{d:D}{v:V},Rep K J d v->Rep K J' d v
 | _,_,.non=>.non
 | _,_,.bl b=>.bl b
 | _,_,.int i=>.int i
 | _,_,.str x=>.str x
 | _,_,.emp h=>.emp (e _ _ h)
 | _,_,.tup h hs=>.tup (fj e h) (aF.mono e hs)
 | _,_,.lst h hs=>.lst (e.seq h) (aF.mono e hs)
 | _,_,.exn h1 h2 h3 hs hx=>.exn (e _ _ h1) h2 (h3.mono e) (aF.mono e hs) hx
 | _,_,.dct h h1 h2 h3 h4=>.dct (e _ _ h) (aF.mono e h1) (aF.mono e h2) h3 h4
theorem aF.mono {K:W.Frag}{J J':Hp}(e:aP J J'):∀{ds:List D}{vs:List V},aF K J ds vs->aF K J' ds vs
 | _,_,.nil=>.nil
 | _,_,.cons h hs=>.cons (Rep.mono e h) (aF.mono e hs)
end
section
variable {K:W.Frag}{J:Hp}
theorem aF.length:∀{ds:List D}{vs:List V},aF K J ds vs->ds.length=vs.length
 | _,_,.nil=>rfl
 | _,_,.cons _ hs=>congrArg (· + 1) (aF.length hs)
theorem aF.get:∀{ds:List D}{vs:List V}{i:Nat}{d:D},aF K J ds vs->ds[i]?=some d->∃v,vs[i]?=some v/\Rep K J d v
 | _,_,_,_,.nil,e=>by simp at e
 | _,_,0,_,.cons r _,e=>by simp at e;subst e;exact ⟨_,rfl,r⟩
 | _,_,i + 1,d,.cons _ t,e=>by
  obtain ⟨v,h1,h2⟩:=aF.get (i:=i) (d:=d) t (by simpa using e)
  exact ⟨v,by simpa using h1,h2⟩
theorem aF.append:∀{ds es:List D}{vs us:List V},aF K J ds vs->aF K J es us->aF K J (ds++es) (vs++us)
 | _,_,_,_,.nil,s=>s
 | _,_,_,_,.cons r t,s=>.cons r (aF.append t s)
theorem aF.take:∀{ds:List D}{vs:List V}(n:Nat),aF K J ds vs->aF K J (ds.take n) (vs.take n)
 | _,_,0,_=>.nil
 | _,_,_ + 1,.nil=>.nil
 | _,_,n + 1,.cons r t=>.cons r (aF.take n t)
theorem aF.drop:∀{ds:List D}{vs:List V}(n:Nat),aF K J ds vs->aF K J (ds.drop n) (vs.drop n)
 | _,_,0,r=>r
 | _,_,_ + 1,.nil=>.nil
 | _,_,n + 1,.cons _ t=>aF.drop n t
end
def eS (K:W.Frag) (J H:Hp) (a:Addr) (ks vs:List D):Prop:=∃us ws,H a=some (pP a ((cO ks).zip (us.zip ws)))/\aF K J ks us/\aF K J vs ws/\Ik ks/\(a == sysModules)=false/\ks.length=vs.length
theorem eS.mono {K:W.Frag}{J J' H H':Hp}{a:Addr}{ks vs:List D}(e:aP J J') (e':aP H H'):eS K J H a ks vs->eS K J' H' a ks vs
 | ⟨us,ws,h1,h2,h3,h4⟩=>⟨us,ws,e' _ _ h1,h2.mono e,h3.mono e,h4⟩
theorem eS.ne {K:W.Frag}{J H:Hp}{a:Addr}{ks vs:List D}:eS K J H a ks vs->H a≠none
 | ⟨us,ws,h1,_⟩=>by rw [h1];intro z;cases z
theorem eS.rep {K:W.Frag}{J H:Hp}{a:Addr}{ks vs:List D}(e:aP J H):eS K J H a ks vs->Rep K H (.dct ks vs) (.ref a)
 | ⟨us,ws,h1,h2,h3,h4,h5⟩=>.dct h1 (h2.mono e) (h3.mono e) h4 h5
structure Exc where
 cls:Str
 ns:List Str
 ds:List D
inductive M (α:Type) where
 | bad | ok (a:α) | exc (x:Exc)
def M.bind {α β:Type}:M α->(α->M β)->M β
 | .bad,_=>.bad
 | .ok a,f=>f a
 | .exc x,_=>.exc x
instance:Monad M where
 pure:=M.ok
 bind:=M.bind
@[simp] theorem aN {α β:Type}(a:α) (f:α->M β):(M.ok a >>= f)=f a:=rfl
def cL {α:Type}(m:M α) (Q:α->Prop) (T:Exc->Prop):Prop:=match m with
 | .bad=>False
 | .ok a=>Q a
 | .exc x=>T x
theorem aK {α β:Type}{m:M α}{f:α->M β}{Q:β->Prop}{T:Exc->Prop}(h:cL (m >>= f) Q T):cL m (fun a=>cL (f a) Q T) T:=by
 cases m with
 | bad=>exact h
 | ok a=>exact h
 | exc x=>exact h
theorem aC {α:Type}{m:M α}{Q Q':α->Prop}{T:Exc->Prop}(h:cL m Q T) (k:∀a,Q a->Q' a):cL m Q' T:=by
 cases m with
 | bad=>exact h
 | ok a=>exact k a h
 | exc x=>exact h
inductive Md where
 | fresh | own | bor
inductive R where
 | d (x:D) | l (m:Md) (xs:List D)
  | mo (ks vs:List D) | mb (ks vs:List D)
inductive S where
 | d (x:D) | own (xs:List D) | bor (xs:List D) | dk (ks vs:List D) | db (ks vs:List D)
abbrev Ev:=List (Option S)
abbrev Mn:=List D ⊕ (List D×List D)
def mS:Mn->S
 | .inl xs=>.own xs
 | .inr p=>.dk p.1 p.2
structure C where
 K:W.Frag
 H0:Hp
 J0:Hp
 T:Exc->Prop
structure HI (c:C) (J H:Hp):Prop where
 sub:aP J H
 ent:aP c.H0 H
 entJ:aP c.J0 J
 frz:∀a,c.H0 a≠none->c.J0 a=none->J a=none
structure Ext (J H J' H':Hp):Prop where
 h:aP H H'
 j:aP J J'
 sub:aP J' H'
 frz:∀a,H a≠none->J a=none->J' a=none
theorem aP.ne {H H':Hp}(e:aP H H'){a:Addr}(h:H a≠none):H' a≠none:=by
 cases q:H a with
 | none=>exact absurd q h
 | some o=>rw [e a o q];intro z;cases z
theorem Ext.refl {J H:Hp}(h:aP J H):Ext J H J H:=⟨aP.refl H,aP.refl J,h,fun _ _ q=>q⟩
theorem Ext.trans {J H J1 H1 J2 H2:Hp}(a:Ext J H J1 H1) (b:Ext J1 H1 J2 H2):Ext J H J2 H2:=
 ⟨a.h.trans b.h,a.j.trans b.j,b.sub,fun p h q=>b.frz p (aP.ne a.h h) (a.frz p h q)⟩
theorem HI.ext {c:C}{J H J' H':Hp}(h:HI c J H) (e:Ext J H J' H'):HI c J' H':=
 ⟨e.sub,h.ent.trans e.h,h.entJ.trans e.j,fun a h0 j0=>e.frz a (aP.ne h.ent h0) (h.frz a h0 j0)⟩
theorem dQ {H:Hp}{p:Addr}(h:H p=none) (o:HO):aP H (upd H p o):=fun b u q=>by rw [bg (dW q h)];exact q
theorem Ext.new {J H:Hp}(h:aP J H){p:Addr}(e:H p=none) (o:HO):Ext J H J (upd H p o):=
 ⟨dQ e o,aP.refl J,fun b u q=>dQ e o b u (h b u q),fun _ _ q=>q⟩
theorem Ext.newJ {J H:Hp}(h:aP J H){p:Addr}(e:H p=none) (o:HO):Ext J H (upd J p o) (upd H p o):=
 ⟨dQ e o,dQ (h.free e) o,fun b u q=>by
  by_cases hb:b=p
  ·subst hb;rw [bO] at q ⊢;exact q
  ·rw [bg hb] at q ⊢;exact h b u q,fun a ha q=>by
  have:a≠p:=fun z=>ha (z▸e)
  rw [bg this];exact q⟩
def mO (c:C) (J H:Hp):S->V->Prop
 | .d x,v=>Rep c.K J x v
 | .own xs,v=>∃a vs,v=.ref a/\H a=some (.lst vs)/\J a=none/\c.H0 a=none/\aF c.K J xs vs
 | .bor xs,v=>∃a vs,v=.ref a/\bZ c.K c.H0 a vs/\aF c.K J xs vs
 | .dk ks vs,v=>∃a,v=.ref a/\eS c.K J H a ks vs/\J a=none/\c.H0 a=none
 | .db ks vs,v=>∃a,v=.ref a/\eS c.K J c.H0 a ks vs
theorem mO.ext {c:C}{J H J' H':Hp}(e:Ext J H J' H'):∀{x:S}{v:V},mO c J H x v->mO c J' H' x v
 | .d x,v,h=>Rep.mono e.j h
 | .own xs,v,⟨a,vs,h1,h2,h3,h4,h5⟩=>⟨a,vs,h1,e.h _ _ h2,e.frz a (by rw [h2];intro z;cases z) h3,h4,aF.mono e.j h5⟩
 | .bor xs,v,⟨a,vs,h1,h2,h3⟩=>⟨a,vs,h1,h2,aF.mono e.j h3⟩
 | .dk _ _,v,⟨a,h1,h2,h3,h4⟩=>⟨a,h1,h2.mono e.j e.h,e.frz a h2.ne h3,h4⟩
 | .db _ _,v,⟨a,h1,h2⟩=>⟨a,h1,h2.mono e.j (aP.refl _)⟩
structure SR (c:C) (J H:Hp) (σ:L2.St) (env:Ev):Prop where
 hp:HI c J H
 len:env.length=σ.length
 at_:∀(i:Nat) (x:S),env[i]?=some (some x)->∃v,σ[i]?=some (some v)/\mO c J H x v
 sep:∀(i j:Nat) (xs ys:Mn) (v:V),i≠j->env[i]?=some (some (mS xs))->env[j]?=some (some (mS ys))->σ[i]?=some (some v)->σ[j]?≠some (some v)
theorem SR.ext {c:C}{J H J' H':Hp}{σ:L2.St}{env:Ev}(h:SR c J H σ env) (e:Ext J H J' H'):SR c J' H' σ env:=
 ⟨h.hp.ext e,h.len,fun i x q=>let ⟨v,q1,q2⟩:=h.at_ i x q;⟨v,q1,q2.ext e⟩,h.sep⟩
theorem SR.mine {c:C}{J H:Hp}{σ:L2.St}{env:Ev}(sr:SR c J H σ env){i:Nat}:∀{x:Mn},env[i]?=some (some (mS x))->∃p,σ[i]?=some (some (.ref p))/\H p≠none/\J p=none/\c.H0 p=none
 | .inl xs,h=>let ⟨_,k1,p,vs,e,k2,k3,k4,_⟩:=sr.at_ i (.own xs) h;⟨p,e▸k1,by rw [k2];exact fun z=>(by cases z),k3,k4⟩
 | .inr q,h=>let ⟨_,k1,p,e,k2,k3,k4⟩:=sr.at_ i (.dk q.1 q.2) h;⟨p,e▸k1,k2.ne,k3,k4⟩
def RR (c:C) (He J H:Hp):R->V->Prop
 | .d x,v=>Rep c.K J x v
 | .l .fresh xs,v=>∃a vs,v=.ref a/\H a=some (.lst vs)/\J a=none/\He a=none/\aF c.K J xs vs
 | .l .own xs,v=>∃a vs,v=.ref a/\H a=some (.lst vs)/\J a=none/\c.H0 a=none/\aF c.K J xs vs
 | .l .bor xs,v=>∃a vs,v=.ref a/\bZ c.K c.H0 a vs/\aF c.K J xs vs
 | .mo ks vs,v=>∃a,v=.ref a/\eS c.K J H a ks vs/\J a=none/\c.H0 a=none
 | .mb ks vs,v=>∃a,v=.ref a/\eS c.K J c.H0 a ks vs
theorem RR.ext {c:C}{He J H J' H':Hp}(e:Ext J H J' H'):∀{x:R}{v:V},RR c He J H x v->RR c He J' H' x v
 | .d x,v,h=>Rep.mono e.j h
 | .l .fresh xs,v,⟨a,vs,h1,h2,h3,h4,h5⟩=>⟨a,vs,h1,e.h _ _ h2,e.frz a (by rw [h2];intro z;cases z) h3,h4,aF.mono e.j h5⟩
 | .l .own xs,v,⟨a,vs,h1,h2,h3,h4,h5⟩=>⟨a,vs,h1,e.h _ _ h2,e.frz a (by rw [h2];intro z;cases z) h3,h4,aF.mono e.j h5⟩
 | .l .bor xs,v,⟨a,vs,h1,h2,h3⟩=>⟨a,vs,h1,h2,aF.mono e.j h3⟩
 | .mo _ _,v,⟨a,h1,h2,h3,h4⟩=>⟨a,h1,h2.mono e.j e.h,e.frz a h2.ne h3,h4⟩
 | .mb _ _,v,⟨a,h1,h2⟩=>⟨a,h1,h2.mono e.j (aP.refl _)⟩
theorem RR.from {c:C}{He He' J H:Hp}(e:aP He He'):∀{x:R}{v:V},RR c He' J H x v->RR c He J H x v
 | .d x,v,h=>h
 | .l .fresh xs,v,⟨a,vs,h1,h2,h3,h4,h5⟩=>⟨a,vs,h1,h2,h3,e.free h4,h5⟩
 | .l .own xs,v,h=>h
 | .l .bor xs,v,h=>h
 | .mo _ _,v,h=>h
 | .mb _ _,v,h=>h
def lQ:R->M (List D)
 | .d (.lst xs)=>.ok xs
 | .l _ xs=>.ok xs
 | _=>.bad
def toD:R->M D
 | .d x=>.ok x
 | .l .fresh xs=>.ok (.lst xs)
 | _=>.bad
theorem RR.list {c:C}{He J H:Hp}(hp:HI c J H):∀{r:R}{v:V}{xs:List D},RR c He J H r v->lQ r=.ok xs->∃a vs,v=.ref a/\bZ c.K H a vs/\aF c.K J xs vs
 | .d (.lst ys),v,xs,h,e=>by
  cases e
  cases h with
  | lst h hs=>exact ⟨_,_,rfl,hp.sub.seq h,hs⟩
 | .l .fresh ys,v,xs,⟨a,vs,h1,h2,h3,h4,h5⟩,e=>by cases e;exact ⟨a,vs,h1,bZ.of h2,h5⟩
 | .l .own ys,v,xs,⟨a,vs,h1,h2,h3,h4,h5⟩,e=>by cases e;exact ⟨a,vs,h1,bZ.of h2,h5⟩
 | .l .bor ys,v,xs,⟨a,vs,h1,h2,h3⟩,e=>by cases e;exact ⟨a,vs,h1,hp.ent.seq h2,h3⟩
 | .d .non,_,_,_,e=>nomatch e
 | .d (.bl _),_,_,_,e=>nomatch e
 | .d (.int _),_,_,_,e=>nomatch e
 | .d (.str _),_,_,_,e=>nomatch e
 | .d (.tup _),_,_,_,e=>nomatch e
 | .d .emp,_,_,_,e=>nomatch e
 | .d (.dct _ _),_,_,_,e=>nomatch e
 | .mo _ _,_,_,_,e=>nomatch e
 | .mb _ _,_,_,_,e=>nomatch e
theorem freeze {c:C}{Je He J H:Hp}(x:Ext Je He J H):∀{r:R}{v:V}{d:D},RR c He J H r v->toD r=.ok d->∃J',Ext Je He J' H/\aP J J'/\Rep c.K J' d v
 | .d y,v,d,h,e=>by cases e;exact ⟨J,x,aP.refl J,h⟩
 | .l .fresh ys,v,d,⟨a,vs,h1,h2,h3,h4,h5⟩,e=>by
  cases e
  subst h1
  have s1:aP J (upd J a (.lst vs)):=dQ h3 _
  refine ⟨upd J a (.lst vs),⟨x.h,x.j.trans s1,fun b u q=>?_,fun b hb q=>?_⟩,s1,.lst (.inl (.inl bO)) (aF.mono s1 h5)⟩
  ·by_cases hb:b=a
   ·subst hb;rw [bO] at q;cases q;exact h2
   ·rw [bg hb] at q;exact x.sub b u q
  ·have:b≠a:=fun z=>hb (z▸h4)
   rw [bg this];exact x.frz b hb q
 | .l .own _,_,_,_,e=>nomatch e
 | .l .bor _,_,_,_,e=>nomatch e
 | .mo _ _,_,_,_,e=>nomatch e
 | .mb _ _,_,_,_,e=>nomatch e
abbrev G (α:Type):=Ev->M α
def tD (c:C) (g:G R):TE:=fun σ H Q=>∃J env,SR c J H σ env/\cL (g env) (fun r=>∀v J' H',Ext J H J' H'->RR c H J' H' r v->Q v H') c.T
def PD (X:Cx) (c:C) (e:Expr) (g:G R):Prop:=PE X e (tD c g)
def tB (c:C) (g:G Bool):TT:=fun σ H Q=>∃J env,SR c J H σ env/\cL (g env) (fun b=>∀J' H',Ext J H J' H'->Q b H') c.T
def PB (X:Cx) (c:C) (e:Expr) (g:G Bool):Prop:=PT X e (tB c g)
def j6 (c:C) (He J H:Hp):List R->List V->Prop
 | [],vs=>vs=[]
 | r::rs,vs=>∃v us,vs=v::us/\RR c He J H r v/\j6 c He J H rs us
def tA (c:C) (g:G (List R)):TA:=fun σ H Q=>∃J env,SR c J H σ env/\cL (g env) (fun rs=>∀vs J' H',Ext J H J' H'->j6 c H J' H' rs vs->Q vs H') c.T
def jh (X:Cx) (c:C) (es:List Expr) (g:G (List R)):Prop:=PA X es (tA c g)
def M_ (c:C) (g:G (List D)):TA:=fun σ H Q=>∃J env,SR c J H σ env/\cL (g env) (fun ds=>∀vs J' H',Ext J H J' H'->aF c.K J' ds vs->Q vs H') c.T
def yX (X:Cx) (c:C) (es:List Expr) (g:G (List D)):Prop:=PA X es (M_ c g)
inductive O where
 | nx (e:Ev) | rt (r:R) | bk (e:Ev) | ct (e:Ev)
def RF (c:C) (J H:Hp):R->V->Prop
 | .d x,v=>Rep c.K J x v
 | .l _ xs,v=>∃a vs,v=.ref a/\H a=some (.lst vs)/\J a=none/\c.H0 a=none/\aF c.K J xs vs
 | _,_=>False
def oP (c:C) (J:Hp) (E:Ends):O->Prop
 | .nx e=>∀σ' J' H',aP J J'->SR c J' H' σ' e->E.nx σ' H'
 | .rt r=>∀v J' H',aP J J'->HI c J' H'->RF c J' H' r v->E.rt v H'
 | .bk e=>∀σ' J' H',aP J J'->SR c J' H' σ' e->E.bk σ' H'
 | .ct e=>∀σ' J' H',aP J J'->SR c J' H' σ' e->E.ct σ' H'
def tS (c:C) (g:G O):TS:=fun E σ H=>∃J env,SR c J H σ env/\cL (g env) (oP c J E) c.T
def iw (X:Cx) (c:C) (st:Stmt) (g:G O):Prop:=PS X st (tS c g)
def pL (X:Cx) (c:C) (st:List Stmt) (g:G O):Prop:=j5 X st (tS c g)
theorem oP.mono {c:C}{J J1:Hp}{E:Ends}(e:aP J J1):∀{o:O},oP c J E o->oP c J1 E o
 | .nx _,h=>fun σ' J' H' q r=>h σ' J' H' (e.trans q) r
 | .rt _,h=>fun σ' J' H' q r=>h σ' J' H' (e.trans q) r
 | .bk _,h=>fun σ' J' H' q r=>h σ' J' H' (e.trans q) r
 | .ct _,h=>fun σ' J' H' q r=>h σ' J' H' (e.trans q) r
theorem gA {X:Cx}{e:Expr}{t t':TE}(h:PE X e t) (k:∀σ H Q,t' σ H Q->t σ H Q):PE X e t':=fun pins s σ H Q I q=>h pins s σ H Q I (k σ H Q q)
theorem r_ {X:Cx}{e:Expr}{t t':TT}(h:PT X e t) (k:∀σ H Q,t' σ H Q->t σ H Q):PT X e t':=fun pins s σ H Q I q=>h pins s σ H Q I (k σ H Q q)
theorem vO {X:Cx}{es:List Expr}{t t':TA}(h:PA X es t) (k:∀σ H Q,t' σ H Q->t σ H Q):PA X es t':=fun pos pins s σ H Q I q=>h pos pins s σ H Q I (k σ H Q q)
theorem iC {X:Cx}{st:Stmt}{t t':TS}(h:PS X st t) (k:∀D σ H,t' D σ H->t D σ H):PS X st t':=fun pins s σ H D I q=>h pins s σ H D I (k D σ H q)
theorem CK {X:Cx}{st:List Stmt}{t t':TS}(h:j5 X st t) (k:∀D σ H,t' D σ H->t D σ H):j5 X st t':=fun pins s σ H D I q=>h pins s σ H D I (k D σ H q)
section
variable {X:Cx}{c:C}{e a b:Expr}{ga gb:G R}{pos:Pos}
def S.rd:S->R
 | .d x=>.d x
 | .own xs=>.l .own xs
 | .bor xs=>.l .bor xs
 | .dk ks vs=>.mo ks vs
 | .db ks vs=>.mb ks vs
def af (i:Nat):G R:=fun env=>match env[i]? with
 | some (some x)=>.ok x.rd
 | _=>.bad
theorem mO.rd {He J H:Hp}:∀{x:S}{v:V},mO c J H x v->RR c He J H x.rd v
 | .d _,_,h=>h
 | .own _,_,h=>h
 | .bor _,_,h=>h
 | .dk _ _,_,h=>h
 | .db _ _,_,h=>h
theorem Hf {x:Str}{i:Nat}(h:PE X (.Name x pos) (KR i)):PD X c (.Name x pos) (af i):=gA h fun σ H Q ⟨J,env,sr,w⟩=>by
 unfold af at w
 cases q:env[i]? with
 | none=>rw [q] at w;exact w.elim
 | some o=>
  cases o with
  | none=>rw [q] at w;exact w.elim
  | some x=>
   rw [q] at w
   obtain ⟨v,h1,h2⟩:=sr.at_ i x q
   exact ⟨v,h1,w v J H (Ext.refl sr.hp.sub) h2.rd⟩
theorem JT (i:Nat){x:Str}(hN:X.N[i]?=some x:=by rfl) (hv:jL X.env.scope x:=by first | exact Or.inl rfl | exact Or.inr (Or.inl rfl) | exact Or.inr (Or.inr rfl)) (hd:(x == ("__debug__":Str))=false:=by decide)
  (hcd:(x == ("__classdict__":Str))=false:=by decide):PD X c (.Name x pos) (af i):=Hf (kE hN hv hd hcd)
def gC (d:D):G R:=fun _=>.ok (.d d)
theorem vP {d:D}{v:V}(hr:∀J,Rep c.K J d v) (h:PE X e (tC v)):PD X c e (gC d):=gA h fun σ H Q ⟨J,env,sr,w⟩=>w v J H (Ext.refl sr.hp.sub) (hr J)
theorem JI {i:Int}{j:Nat}:PD X c (.Constant (.int i) j pos) (gC (.int i)):=vP (fun _=>.int i) JW
theorem Lx {i:Bool}{j:Nat}:PD X c (.Constant (.bool i) j pos) (gC (.bl i)):=vP (fun _=>.bl i) LC
theorem JQ {x:Str}{j:Nat}:PD X c (.Constant (.str x) j pos) (gC (.str x)):=vP (fun _=>.str x) J6
def BD (c:C) (r:R2) (f:R->R->M R):Prop:=∀(He He' J H:Hp) (x y:R) (u v:V) (Q:VK),HI c J H->RR c He J H x u->RR c He' J H y v->
 cL (f x y) (fun z=>∀w J' H',Ext J H J' H'->RR c H J' H' z w->Q w H') c.T->r u v H Q
def g2 (f:R->R->M R) (ga gb:G R):G R:=fun env=>ga env >>= fun x=>gb env >>= fun y=>f x y
theorem two {P:R->R->M R}{σ:L2.St}{H:Hp}{k:V->V->Hp->Prop}{Q:VK}{J:Hp}{env:Ev}(sr:SR c J H σ env)
  (w:cL (g2 P ga gb env) (fun r=>∀v J' H',Ext J H J' H'->RR c H J' H' r v->Q v H') c.T)
  (hk:∀x y u v J2 H2,SR c J2 H2 σ env->Ext J H J2 H2->RR c H J2 H2 x u->RR c H J2 H2 y v->cL (P x y) (fun z=>∀w J' H',Ext J2 H2 J' H'->RR c H2 J' H' z w->Q w H') c.T->k u v H2):
  tD c ga σ H fun u H1=>tD c gb σ H1 fun v H2=>k u v H2:=by
 refine ⟨J,env,sr,aC (aK w) fun x wx u J1 H1 e1 r1=>?_⟩
 have sr1:=sr.ext e1
 refine ⟨J1,env,sr1,aC (aK wx) fun y wy v J2 H2 e2 r2=>?_⟩
 exact hk x y u v J2 H2 (sr1.ext e2) (e1.trans e2) (r1.ext e2) (RR.from e1.h r2) (aC wy fun z q w J' H' e3 r3=>q w J' H' ((e1.trans e2).trans e3) (RR.from (e1.h.trans e2.h) r3))
theorem Es {t:TE}{r:R2}{f:R->R->M R}(ht:PE X e t) (heq:t=C_ r (tD c ga) (tD c gb)) (hf:BD c r f):PD X c e (g2 f ga gb):=by
 subst heq
 exact gA ht fun σ H Q ⟨J,env,sr,w⟩=>two (k:=fun u v H2=>r u v H2 Q) sr w fun x y u v J2 H2 sr2 e2 r1 r2 q=>hf H H J2 H2 x y u v Q sr2.hp r1 r2 q
theorem nj {op:Operator}{r:R2}{f:R->R->M R}(ho:cY X (binaryOp op) r) (hf:BD c r f) (ha:PD X c a ga) (hb:PD X c b gb):PD X c (.BinOp a op b pos) (g2 f ga gb):=Es (LF ho ha hb) rfl hf
theorem xK {op:CmpOp}{r:R2}{f:R->R->M R}(ho:cY X (compareOp op) r) (hf:BD c r f) (ha:PD X c a ga) (hb:PD X c b gb) (hm:behindInMarks op b=false:=by first | exact xF _ | rfl):PD X c (.Compare a [op] [b] pos) (g2 f ga gb):=Es (Ho ho ha hb hm) rfl hf
theorem FF {r:R2}{f:R->R->M R}(ho:nR X r) (hf:BD c r f) (ha:PD X c a ga) (hb:PD X c b gb) (hs:jU b:=by exact fun _ _=>rfl):PD X c (.Subscript a b pos) (g2 f ga gb):=Es (LD ho ha hb hs) rfl hf
theorem BD.or {r r':R2}{f f':R->R->M R}(p:R->R->Bool) (h:BD c r f) (h':BD c r' f'):BD c (fun x y H Q=>r x y H Q\/r' x y H Q) (fun x y=>if p x y then f x y else f' x y):=by
 intro He He' J H x y u v Q hp rx ry w
 simp only at w
 cases q:p x y with
 | true=>rw [q] at w;exact .inl (h He He' J H x y u v Q hp rx ry w)
 | false=>rw [q] at w;exact .inr (h' He He' J H x y u v Q hp rx ry w)
def fI (C:Int->Int->Bool) (f:Int->Int->D):R->R->M R
 | .d (.int i),.d (.int j)=>if C i j then .ok (.d (f i j)) else .bad
 | _,_=>.bad
def kT (f:Int->Int->D):R->R->M R
 | .d (.int i),.d (.int j)=>.ok (.d (f i j))
 | _,_=>.bad
theorem Al {P:Int->Int->Prop}{Cb:Int->Int->Bool}{g:Int->Int->V}{f:Int->Int->D}(hC:∀i j,Cb i j=true->P i j) (hr:∀i j J,Rep c.K J (f i j) (g i j)):BD c (rI P g) (fI Cb f):=by
 intro He He' J H x y u v Q hp rx ry w
 unfold fI at w
 split at w
 ·cases rx;cases ry
  rename_i i j
  cases q:Cb i j with
  | true=>rw [q] at w;exact ⟨i,j,rfl,rfl,hC i j q,w _ J H (Ext.refl hp.sub) (hr i j J)⟩
  | false=>rw [q] at w;exact w.elim
 ·exact w.elim
theorem iA {g:Int->Int->V}{f:Int->Int->D}(hr:∀i j J,Rep c.K J (f i j) (g i j)):BD c (kH g) (kT f):=by
 intro He He' J H x y u v Q hp rx ry w
 unfold kT at w
 split at w
 ·cases rx;cases ry
  rename_i i j
  exact ⟨i,j,rfl,rfl,w _ J H (Ext.refl hp.sub) (hr i j J)⟩
 ·exact w.elim
def below (n:Nat) (j:Int):Bool:=Nat.blt j.natAbs n
theorem cj {n:Nat}{j:Int}:below n j=true↔-(n:Int) < j/\j < n:=by
 unfold below
 rw [Nat.blt_eq]
 omega
def AK (_ j:Int):Bool:=decide (0 < j) && below 1073741824 j
def I_ (_ j:Int):Bool:=decide (0 < j)
def xo (i j:Int):Bool:=below 18446744073709551616 i || below 18446744073709551616 j
theorem Gz {i j:Int}(h:xo i j=true):(-(2 ^ 64) < i/\i < 2 ^ 64)\/(-(2 ^ 64) < j/\j < 2 ^ 64):=by
 unfold xo at h
 rw [Bool.or_eq_true] at h
 exact h.imp cj.mp cj.mp
theorem Gy {i j:Int}(h:AK i j=true):0 < j/\j < 1073741824:=by
 unfold AK at h
 rw [Bool.and_eq_true] at h
 exact ⟨of_decide_eq_true h.1,(cj.mp h.2).2⟩
def DZ (i j:Int):Bool:=decide (0<=j) && below 1000001 j && below 18446744073709551616 i
theorem GA {i j:Int}(h:DZ i j=true):0<=j/\j<=1000000/\i.natAbs < 2 ^ 64:=by
 unfold DZ at h
 rw [Bool.and_eq_true,Bool.and_eq_true] at h
 have h2:=cj.mp h.1.2
 have h3:=cj.mp h.2
 exact ⟨of_decide_eq_true h.1.1,by omega,by omega⟩
abbrev DO:R->R->M R:=kT fun i j=>.int (i + j)
abbrev qf:R->R->M R:=kT fun i j=>.int (i - j)
abbrev IK:R->R->M R:=fI xo fun i j=>.int (i * j)
abbrev iI:R->R->M R:=fI AK fun i j=>.int (i / j)
abbrev fu:R->R->M R:=fI I_ fun i j=>.int (i % j)
abbrev DP:R->R->M R:=fI DZ fun i j=>.int (i ^ j.toNat)
theorem JR (ha:PD X c a ga) (hb:PD X c b gb):PD X c (.BinOp a .Sub b pos) (g2 qf ga gb):=nj Jt (iA fun _ _ _=>.int _) ha hb
theorem JG (ha:PD X c a ga) (hb:PD X c b gb):PD X c (.BinOp a .FloorDiv b pos) (g2 iI ga gb):=nj GP (Al (fun i j h=>Gy h) fun _ _ _=>.int _) ha hb
theorem JL (ha:PD X c a ga) (hb:PD X c b gb):PD X c (.BinOp a .Mod b pos) (g2 fu ga gb):=nj Jp (Al (fun i j h=>by unfold I_ at h;exact of_decide_eq_true h) fun _ _ _=>.int _) ha hb
theorem JO (ha:PD X c a ga) (hb:PD X c b gb):PD X c (.BinOp a .Pow b pos) (g2 DP ga gb):=nj Js (Al (fun i j h=>GA h) fun _ _ _=>.int _) ha hb
def qU:R->R->M R
 | .d (.str i),.d (.str j)=>if i.length + j.length<=sizeLine then .ok (.d (.str (i++j))) else .bad
 | _,_=>.bad
theorem HQ {K:W.Frag}{J:Hp}{ds:List D}{vs:List V}{i:Int}{d:D}(h:aF K J ds vs) (e:kQ ds i=some d):∃v,kQ vs i=some v/\Rep K J d v:=by
 unfold kQ at e ⊢
 rw [h.length] at e
 cases q:xm vs.length i with
 | none=>rw [q] at e;cases e
 | some j=>rw [q] at e;exact h.get e
theorem t6 {x:R}{f:List D->M R}{Q:R->Prop}{T:Exc->Prop}(w:cL (lQ x >>= f) Q T):∃xs,lQ x=.ok xs/\cL (f xs) Q T:=by
 cases q:lQ x with
 | bad=>rw [q] at w;exact w.elim
 | ok xs=>rw [q] at w;exact ⟨xs,rfl,w⟩
 | exc z=>unfold lQ at q;split at q <;> cases q
def xj:R->Bool
 | .l .fresh _=>true
 | .l .own _=>true
 | _=>false
def qV (x y:R):M R:=if xj x && xj y then lQ x >>= fun xs=>lQ y >>= fun ys=>if xs.length + ys.length<=sizeLine then .ok (.l .fresh (xs++ys)) else .bad else .bad
theorem RR.made {He J H:Hp}:∀{r:R}{v:V},xj r=true->RR c He J H r v->∃a vs xs,lQ r=.ok xs/\v=.ref a/\H a=some (.lst vs)/\aF c.K J xs vs
 | .l .fresh xs,v,_,⟨a,vs,h1,h2,h3,h4,h5⟩=>⟨a,vs,xs,rfl,h1,h2,h5⟩
 | .l .own xs,v,_,⟨a,vs,h1,h2,h3,h4,h5⟩=>⟨a,vs,xs,rfl,h1,h2,h5⟩
 | .l .bor _,_,e,_=>nomatch e
 | .mo _ _,_,e,_=>nomatch e
 | .mb _ _,_,e,_=>nomatch e
 | .d _,_,e,_=>nomatch e
theorem iz {J H:Hp}{xs:List D}{vs:List V}{p:Addr}(hp:HI c J H) (e:H p=none) (h:aF c.K J xs vs):RR c H J (upd H p (.lst vs)) (.l .fresh xs) (.ref p):=
 ⟨p,vs,rfl,bO,hp.sub.free e,e,h⟩
def CD (c:C) (r:List V->Hp->VK->Prop) (f:List R->M R):Prop:=∀(He J H:Hp) (xs:List R) (vs:List V) (Q:VK),HI c J H->j6 c He J H xs vs->
 cL (f xs) (fun z=>∀w J' H',Ext J H J' H'->RR c H J' H' z w->Q w H') c.T->r vs H Q
def gN (f:List R->M R) (gs:G (List R)):G R:=fun env=>gs env >>= f
theorem Et {t:TE}{ta:TA}{r:List V->Hp->VK->Prop}{f:List R->M R}{gs:G (List R)}(ht:PE X e t) (heq:t=fun σ H Q=>tA c gs σ H fun vs H1=>r vs H1 Q) (hf:CD c r f):PD X c e (gN f gs):=by
 subst heq
 refine gA ht fun σ H Q ⟨J,env,sr,w⟩=>⟨J,env,sr,aC (aK w) fun rs w vs J1 H1 e1 r1=>?_⟩
 exact hf H J1 H1 rs vs Q (sr.hp.ext e1) r1 (aC w fun z q v J' H' e2 r2=>q v J' H' (e1.trans e2) (RR.from e1.h r2))
def aI:G (List R):=fun _=>.ok []
def ao (g:G R) (gs:G (List R)):G (List R):=fun env=>g env >>= fun x=>gs env >>= fun xs=>.ok (x::xs)
theorem GU:jh X c [] aI:=vO jd fun σ H Q ⟨J,env,sr,w⟩=>w [] J H (Ext.refl sr.hp.sub) rfl
theorem j6.from {He He' J H:Hp}(e:aP He He'):∀{xs:List R}{vs:List V},j6 c He' J H xs vs->j6 c He J H xs vs
 | [],_,h=>h
 | _::_,_,⟨v,us,h1,h2,h3⟩=>⟨v,us,h1,RR.from e h2,j6.from e h3⟩
theorem Em {es:List Expr}{g:G R}{gs:G (List R)}(h:PD X c e g) (hs:jh X c es gs) (hst:starEach (e::es) X.env=(false,eval e X.env)::starEach es X.env:=by rfl):jh X c (e::es) (ao g gs):=
 vO (gm h hs hst) fun σ H Q ⟨J,env,sr,w⟩=>by
  refine ⟨J,env,sr,aC (aK w) fun x wx u J1 H1 e1 r1=>?_⟩
  refine ⟨J1,env,sr.ext e1,aC (aK wx) fun xs wy us J2 H2 e2 r2=>?_⟩
  exact wy (u::us) J2 H2 (e1.trans e2) ⟨u,us,rfl,r1.ext e2,j6.from e1.h r2⟩
theorem qo {id:String}{x:Str}{p:Pos}{es:List Expr}{r:List V->Hp->VK->Prop}{f:List R->M R}{gs:G (List R)}(hc:bQ X (.builtin id) r) (hf:CD c r f) (hv:bootBuiltins x=some (.builtin id)) (hm:X.mg x=none) (ha:jh X c (e::es) gs)
  (hg:Gl X x:=by rfl) (hn:x≠"__name__":=by decide) (hdb:(x == ("__debug__":Str))=false:=by decide)
  (he:starEach (e::es) X.env=(false,eval e X.env)::starEach es X.env:=by rfl) (hpl:(backTo pos (starEach es X.env)).any (·.1)=false:=by rfl):PD X c (.Call (.Name x p) (e::es) [] pos) (gN f gs):=
 Et (ta:=Bf) (qp hc hg hm hv ha hn hdb he hpl) rfl hf
theorem uA {T:String}{x:Str}{p:Pos}{es:List Expr}{r:List V->Hp->VK->Prop}{f:List R->M R}{gs:G (List R)}(hc:bQ X (.type T) r) (hf:CD c r f) (hv:bootBuiltins x=some (.type T)) (hm:X.mg x=none) (ha:jh X c (e::es) gs)
  (hg:Gl X x:=by rfl) (hn:x≠"__name__":=by decide) (hdb:(x == ("__debug__":Str))=false:=by decide)
  (he:starEach (e::es) X.env=(false,eval e X.env)::starEach es X.env:=by rfl) (hpl:(backTo pos (starEach es X.env)).any (·.1)=false:=by rfl):PD X c (.Call (.Name x p) (e::es) [] pos) (gN f gs):=
 Et (ta:=Bf) (lg hc hg hm hv ha hn hdb he hpl) rfl hf
end
section
variable {X:Cx}{c:C}{e a b:Expr}{es:List Expr}{ga gb g:G R}{pos:Pos}
def aV:G (List D):=fun _=>.ok []
def aA (g:G R) (gs:G (List D)):G (List D):=fun env=>g env >>= fun x=>toD x >>= fun d=>gs env >>= fun ds=>.ok (d::ds)
theorem GV:yX X c [] aV:=vO jd fun σ H Q ⟨J,env,sr,w⟩=>w [] J H (Ext.refl sr.hp.sub) .nil
theorem iU {α:Type}{x:R}{f:D->M α}{Q:α->Prop}{T:Exc->Prop}(w:cL (toD x >>= f) Q T):∃d,toD x=.ok d/\cL (f d) Q T:=by
 cases q:toD x with
 | bad=>rw [q] at w;exact w.elim
 | ok xs=>rw [q] at w;exact ⟨xs,rfl,w⟩
 | exc z=>unfold toD at q;split at q <;> cases q
theorem En {gs:G (List D)}(h:PD X c e g) (hs:yX X c es gs) (hst:starEach (e::es) X.env=(false,eval e X.env)::starEach es X.env:=by rfl):yX X c (e::es) (aA g gs):=
 vO (gm h hs hst) fun σ H Q ⟨J,env,sr,w⟩=>by
  refine ⟨J,env,sr,aC (aK w) fun x wx u J1 H1 e1 r1=>?_⟩
  obtain ⟨d,q,wx⟩:=iU wx
  obtain ⟨J1',e1',s1,rd⟩:=freeze e1 r1 q
  refine ⟨J1',env,sr.ext e1',aC (aK wx) fun xs wy us J2 H2 e2 r2=>?_⟩
  exact wy (u::us) J2 H2 (e1'.trans e2) (.cons (rd.mono e2.j) r2)
def bD (gs:G (List D)):G R:=fun env=>gs env >>= fun ds=>if ds.length<=sizeLine then .ok (.d (.tup ds)) else .bad
def gJ (gs:G (List D)):G R:=fun env=>gs env >>= fun ds=>if ds.length<=sizeLine then .ok (.l .fresh ds) else .bad
theorem oH {J H:Hp}{xs:List D}{vs:List V}{p:Addr}(hp:HI c J H) (e:H p=none) (h:aF c.K J xs vs):Rep c.K (upd J p (.tup vs)) (.tup xs) (.ref p):=
 .tup (.inl (.inl bO)) (h.mono (dQ (hp.sub.free e) _))
theorem JS {k}{gs:G (List D)}(h:yX X c es gs):PD X c (.Tuple es k pos) (bD gs):=gA (J_ h) fun σ H Q ⟨J,env,sr,w⟩=>by
 refine ⟨J,env,sr,aC (aK w) fun ds wd vs J1 H1 e1 r1=>?_⟩
 split at wd
 ·rename_i hz
  rw [r1.length] at hz
  exact ⟨hz,fun p hp=>wd _ _ _ (e1.trans (Ext.newJ e1.sub hp _)) (oH (sr.hp.ext e1) hp r1)⟩
 ·exact wd.elim
theorem JK {gs:G (List D)}(h:yX X c es gs):PD X c (.List es pos) (gJ gs):=gA (JX h) fun σ H Q ⟨J,env,sr,w⟩=>by
 refine ⟨J,env,sr,aC (aK w) fun ds wd vs J1 H1 e1 r1=>?_⟩
 split at wd
 ·rename_i hz
  rw [r1.length] at hz
  exact ⟨hz,fun p hp=>wd _ _ _ (e1.trans (Ext.new e1.sub hp _)) (RR.from e1.h (iz (sr.hp.ext e1) hp r1))⟩
 ·exact wd.elim
def iO:R->M (List D)
 | .d (.tup xs)=>.ok xs
 | .d (.lst xs)=>.ok xs
 | .l _ xs=>.ok xs
 | _=>.bad
theorem lR {He J H:Hp}(hp:HI c J H):∀{r:R}{v:V}{xs:List D},RR c He J H r v->iO r=.ok xs->∃a vs,v=.ref a/\(bZ c.K H a vs\/cQ c.K H a vs)/\aF c.K J xs vs
 | .d (.tup ys),v,xs,h,e=>by
  cases e
  cases h with
  | tup h hs=>exact ⟨_,_,rfl,.inr (fj hp.sub h),hs⟩
 | .d (.lst ys),v,xs,h,e=>let ⟨a,vs,h1,h2,h3⟩:=RR.list hp h e;⟨a,vs,h1,.inl h2,h3⟩
 | .l m ys,v,xs,h,e=>let ⟨a,vs,h1,h2,h3⟩:=RR.list hp h e;⟨a,vs,h1,.inl h2,h3⟩
 | .d .non,_,_,_,e=>nomatch e
 | .d (.bl _),_,_,_,e=>nomatch e
 | .d (.int _),_,_,_,e=>nomatch e
 | .d (.str _),_,_,_,e=>nomatch e
 | .d .emp,_,_,_,e=>nomatch e
 | .d (.dct _ _),_,_,_,e=>nomatch e
theorem j3 {α:Type}{x:R}{f:List D->M α}{Q:α->Prop}{T:Exc->Prop}(w:cL (iO x >>= f) Q T):∃xs,iO x=.ok xs/\cL (f xs) Q T:=by
 cases q:iO x with
 | bad=>rw [q] at w;exact w.elim
 | ok xs=>rw [q] at w;exact ⟨xs,rfl,w⟩
 | exc z=>unfold iO at q;split at q <;> cases q
def ez:List R->M R
 | [.d (.str z)]=>if z.length<=sizeLine then .ok (.d (.int z.length)) else .bad
 | [r]=>iO r >>= fun xs=>.ok (.d (.int xs.length))
 | _=>.bad
theorem j6.one {He J H:Hp}{r:R}{vs:List V}(h:j6 c He J H [r] vs):∃v,vs=[v]/\RR c He J H r v:=by
 obtain ⟨v,us,rfl,h1,h2⟩:=h
 cases h2
 exact ⟨v,rfl,h1⟩
theorem j6.two {He J H:Hp}{r r':R}{vs:List V}(h:j6 c He J H [r,r'] vs):∃v v',vs=[v,v']/\RR c He J H r v/\RR c He J H r' v':=by
 obtain ⟨v,us,rfl,h1,v2,us2,rfl,h2,h3⟩:=h
 cases h3
 exact ⟨v,v2,rfl,h1,h2⟩
theorem JJ {p:Pos}{gs:G (List R)}(ha:jh X c (e::es) gs) (hm:X.mg "len"=none) (hK:X.K=c.K:=by rfl) (hg:Gl X "len":=by rfl)
  (he:starEach (e::es) X.env=(false,eval e X.env)::starEach es X.env:=by rfl) (hpl:(backTo pos (starEach es X.env)).any (·.1)=false:=by rfl):PD X c (.Call (.Name "len" p) (e::es) [] pos) (gN ez gs):=
 qo (wM.or wL) (by
  intro He J H xs vs Q hp rs w
  unfold ez at w
  split at w
  ·obtain ⟨v,rfl,r⟩:=rs.one
   cases r
   split at w
   ·rename_i hz;exact .inl ⟨_,rfl,hz,w _ J H (Ext.refl hp.sub) (.int _)⟩
   ·exact w.elim
  ·obtain ⟨v,rfl,r⟩:=rs.one
   obtain ⟨xs,q,w⟩:=j3 w
   obtain ⟨p,vs,rfl,hq,hs⟩:=lR hp r q
   have w':=w (.int vs.length) J H (Ext.refl hp.sub) (by rw [hs.length];exact .int _)
   exact .inr ⟨p,vs,rfl,by rw [hK];exact hq,w'⟩
  ·exact w.elim) PySem.boot_len hm ha hg (by decide) (by decide) he hpl
def cM:List R->M R
 | [r]=>iO r >>= fun xs=>.ok (.d (.tup xs))
 | _=>.bad
theorem yC:bootBuiltins "tuple"=some (.type "tuple"):=by decide +kernel
theorem qO:bootBuiltins "list"=some (.type "list"):=by decide +kernel
theorem EB {p:Pos}{gs:G (List R)}(ha:jh X c (e::es) gs) (hm:X.mg "tuple"=none) (hK:X.K=c.K:=by rfl) (hg:Gl X "tuple":=by rfl)
  (he:starEach (e::es) X.env=(false,eval e X.env)::starEach es X.env:=by rfl) (hpl:(backTo pos (starEach es X.env)).any (·.1)=false:=by rfl):PD X c (.Call (.Name "tuple" p) (e::es) [] pos) (gN cM gs):=
 uA vd (by
  intro He J H xs vs Q hp rs w
  unfold cM at w
  split at w
  ·obtain ⟨v,rfl,r⟩:=rs.one
   rename_i r0
   obtain ⟨xs,q,w⟩:=j3 w
   cases r0 with
   | d y=>
    cases y with
    | tup ys=>
     cases q
     cases r with
     | tup h hs=>exact ⟨_,_,rfl,.inr ⟨by rw [hK];exact fj hp.sub h,w _ J H (Ext.refl hp.sub) (.tup h hs)⟩⟩
    | lst ys=>
     cases q
     obtain ⟨p,vs,rfl,hq,hs⟩:=RR.list hp r rfl
     exact ⟨p,vs,rfl,.inl ⟨by rw [hK];exact hq,fun l hl=>w _ _ _ (Ext.newJ hp.sub hl _) (oH hp hl hs)⟩⟩
    | _=>cases q
   | mo _ _=>cases q
   | mb _ _=>cases q
   | l m ys=>
    cases q
    obtain ⟨p,vs,rfl,hq,hs⟩:=RR.list hp r rfl
    exact ⟨p,vs,rfl,.inl ⟨by rw [hK];exact hq,fun l hl=>w _ _ _ (Ext.newJ hp.sub hl _) (oH hp hl hs)⟩⟩
  ·exact w.elim) yC hm ha hg (by decide) (by decide) he hpl
def vI:List R->M R
 | [r]=>iO r >>= fun xs=>.ok (.l .fresh xs)
 | _=>.bad
theorem G_ {p:Pos}{gs:G (List R)}(ha:jh X c (e::es) gs) (hm:X.mg "list"=none) (hK:X.K=c.K:=by rfl) (hg:Gl X "list":=by rfl)
  (he:starEach (e::es) X.env=(false,eval e X.env)::starEach es X.env:=by rfl) (hpl:(backTo pos (starEach es X.env)).any (·.1)=false:=by rfl):PD X c (.Call (.Name "list" p) (e::es) [] pos) (gN vI gs):=
 uA wN (by
  intro He J H xs vs Q hp rs w
  unfold vI at w
  split at w
  ·obtain ⟨v,rfl,r⟩:=rs.one
   obtain ⟨xs,q,w⟩:=j3 w
   obtain ⟨p,vs,rfl,hq,hs⟩:=lR hp r q
   exact ⟨p,vs,rfl,by rw [hK];exact hq,fun l hl=>w _ _ _ (Ext.new hp.sub hl _) (iz hp hl hs)⟩
  ·exact w.elim) qO hm ha hg (by decide) (by decide) he hpl
def bB (g:G R):G Bool:=fun env=>g env >>= fun r=>match r with
 | .d (.bl k)=>.ok k
 | _=>.bad
theorem JC (h:PD X c e g) (he:∀whole,isTrue e X.env whole=(do let v <-whole;standAt e.pos;holding [v] (truthy v)):=by intro _;rfl):PB X c e (bB g):=r_ (Kl h he) fun σ H Q ⟨J,env,sr,w⟩=>by
 refine ⟨J,env,sr,aC (aK w) fun r wr v J1 H1 e1 r1=>?_⟩
 split at wr
 ·cases r1;exact ⟨_,rfl,wr J1 H1 e1⟩
 ·exact wr.elim
theorem kD {op:CmpOp}{r:R2}{f:R->R->M R}(ho:cY X (compareOp op) r) (hf:BD c r f) (ha:PD X c a ga) (hb:PD X c b gb) (hm:behindInMarks op b=false:=by first | exact xF _ | rfl):PB X c (.Compare a [op] [b] pos) (bB (g2 f ga gb)):=
 r_ (HB ho ha hb hm) fun σ H Q ⟨J,env,sr,w⟩=>by
  have w2:=aK w
  refine two (k:=fun u v H2=>r u v H2 fun z H3=>∃k,z=.bl k/\Q k H3) (Q:=fun z H3=>∃k,z=.bl k/\Q k H3) sr (aC w2 fun r0 wr v J1 H1 e1 r1=>?_)
   fun x y u v J2 H2 sr2 e2 r1 r2 q=>hf H H J2 H2 x y u v _ sr2.hp r1 r2 q
  split at wr
  ·cases r1;exact ⟨_,rfl,wr J1 H1 e1⟩
  ·exact wr.elim
def kj (g h:G Bool):G Bool:=fun env=>g env >>= fun k=>if k=true then h env else .ok false
def jD (g h:G Bool):G Bool:=fun env=>g env >>= fun k=>if k=true then .ok true else h env
def eE (g:G Bool):G Bool:=fun env=>g env >>= fun k=>.ok (!k)
def pK (X:Cx) (c:C) (e:Expr) (g:G Bool):Prop:=PW X e (tB c g)
variable {t u:G Bool}{rest:List Expr}
theorem pK.pb (h:pK X c e t):PB X c e t:=PW.pt h
theorem GW (h:PB X c a t):pK X c (.BoolOp .And [a] pos) t:=HD h
theorem JA (h:PB X c a t):pK X c (.BoolOp .Or [a] pos) t:=Kp h
theorem FI {X:Cx}{e:Expr}{t t':TT}(h:PW X e t) (k:∀σ H Q,t' σ H Q->t σ H Q):PW X e t':=fun wh pins s σ H Q I q=>h wh pins s σ H Q I (k σ H Q q)
theorem Jx (h:PB X c a t) (h':pK X c (.BoolOp .And (b::rest) pos) u):pK X c (.BoolOp .And (a::b::rest) pos) (kj t u):=FI (Ko h h') fun σ H Q ⟨J,env,sr,w⟩=>by
 refine ⟨J,env,sr,aC (aK w) fun k wk J1 H1 e1=>?_⟩
 cases k with
 | true=>
  rw [if_pos rfl] at wk ⊢
  exact ⟨J1,env,sr.ext e1,aC wk fun k q J2 H2 e2=>q J2 H2 (e1.trans e2)⟩
 | false=>
  rw [if_neg (by decide)] at wk ⊢
  exact wk J1 H1 e1
theorem Lw (h:PB X c a t) (h':pK X c (.BoolOp .Or (b::rest) pos) u):pK X c (.BoolOp .Or (a::b::rest) pos) (jD t u):=FI (LK h h') fun σ H Q ⟨J,env,sr,w⟩=>by
 refine ⟨J,env,sr,aC (aK w) fun k wk J1 H1 e1=>?_⟩
 cases k with
 | true=>
  rw [if_pos rfl] at wk ⊢
  exact wk J1 H1 e1
 | false=>
  rw [if_neg (by decide)] at wk ⊢
  exact ⟨J1,env,sr.ext e1,aC wk fun k q J2 H2 e2=>q J2 H2 (e1.trans e2)⟩
theorem Jz (h:PB X c a t):PB X c (.UnaryOp .Not a pos) (eE t):=r_ (Kh h) fun σ H Q ⟨J,env,sr,w⟩=>⟨J,env,sr,aC (aK w) fun k wk J1 H1 e1=>wk J1 H1 e1⟩
def AB (g h:G R):G R:=fun env=>g env >>= fun r=>match r with
 | .d (.bl true)=>h env
 | .d (.bl false)=>.ok (.d (.bl false))
 | _=>.bad
def nY (g h:G R):G R:=fun env=>g env >>= fun r=>match r with
 | .d (.bl false)=>h env
 | .d (.bl true)=>.ok (.d (.bl true))
 | _=>.bad
def AG (g:G R):G R:=fun env=>g env >>= fun r=>match r with
 | .d (.bl k)=>.ok (.d (.bl (!k)))
 | _=>.bad
theorem G7 {op}(h:PD X c a ga):PD X c (.BoolOp op [a] pos) ga:=JZ h
theorem JE (h:PD X c a ga) (h':PD X c (.BoolOp .And (b::rest) pos) gb):PD X c (.BoolOp .And (a::b::rest) pos) (AB ga gb):=gA (JU h h') fun σ H Q ⟨J,env,sr,w⟩=>by
 refine ⟨J,env,sr,aC (aK w) fun r wr v J1 H1 e1 r1=>?_⟩
 split at wr
 ·cases r1
  exact ⟨true,rfl,DV ⟨J1,env,sr.ext e1,aC wr fun z q v J2 H2 e2 r2=>q v J2 H2 (e1.trans e2) (RR.from e1.h r2)⟩⟩
 ·cases r1
  exact ⟨false,rfl,DU (wr _ J1 H1 e1 (.bl _))⟩
 ·exact wr.elim
theorem LA (h:PD X c a ga) (h':PD X c (.BoolOp .Or (b::rest) pos) gb):PD X c (.BoolOp .Or (a::b::rest) pos) (nY ga gb):=gA (LH h h') fun σ H Q ⟨J,env,sr,w⟩=>by
 refine ⟨J,env,sr,aC (aK w) fun r wr v J1 H1 e1 r1=>?_⟩
 split at wr
 ·cases r1
  exact ⟨false,rfl,DU ⟨J1,env,sr.ext e1,aC wr fun z q v J2 H2 e2 r2=>q v J2 H2 (e1.trans e2) (RR.from e1.h r2)⟩⟩
 ·cases r1
  exact ⟨true,rfl,DV (wr _ J1 H1 e1 (.bl _))⟩
 ·exact wr.elim
theorem JN (h:PD X c a ga):PD X c (.UnaryOp .Not a pos) (AG ga):=gA (JY h) fun σ H Q ⟨J,env,sr,w⟩=>by
 refine ⟨J,env,sr,aC (aK w) fun r wr v J1 H1 e1 r1=>?_⟩
 split at wr
 ·cases r1
  exact ⟨_,rfl,wr _ J1 H1 e1 (.bl _)⟩
 ·exact wr.elim
end
section
variable {X:Cx}{c:C}{e a b tg:Expr}{es:List Expr}{ga gb g:G R}{pos:Pos}{st:Stmt}{rest:List Stmt}{t u:G O}{tb:G Bool}
def cX:G O:=fun env=>.ok (.nx env)
def aL (t u:G O):G O:=fun env=>t env >>= fun o=>match o with
 | .nx e=>u e
 | o=>.ok o
theorem Hh:pL X c [] cX:=CK Hz fun E σ H ⟨J,env,sr,w⟩=>w σ J H (aP.refl J) sr
theorem EC (h:iw X c st t) (h':pL X c rest u):pL X c (st::rest) (aL t u):=CK (EL h h') fun E σ H ⟨J,env,sr,w⟩=>by
 refine ⟨J,env,sr,aC (aK w) fun o wo=>?_⟩
 cases o with
 | nx e=>exact fun σ' J' H' s' sr'=>⟨J',e,sr',aC wo fun o q=>q.mono s'⟩
 | rt r=>exact wo
 | bk e=>exact wo
 | ct e=>exact wo
theorem Hi (h:iw X c st t):pL X c [st] t:=HA h
def kW (g:G R):G O:=fun env=>g env >>= fun _=>.ok (.nx env)
theorem Eo (h:PD X c e g) (hs:swapsWith e none pos.line X.env=pure false:=by rfl):iw X c (.Expr e pos) (kW g):=iC (mh h hs) fun E σ H ⟨J,env,sr,w⟩=>
 ⟨J,env,sr,aC (aK w) fun r wr v J1 H1 e1 r1=>wr σ J1 H1 e1.j (sr.ext e1)⟩
def rF:R->M R
 | .d x=>.ok (.d x)
 | .l .fresh xs=>.ok (.l .fresh xs)
 | .l .own xs=>.ok (.l .fresh xs)
 | .l .bor _=>.bad
 | _=>.bad
def bK (g:G R):G O:=fun env=>g env >>= fun r=>rF r >>= fun r=>.ok (.rt r)
theorem RR.rf {J H J1 H1:Hp}(hp:HI c J H):∀{r r':R}{v:V},RR c H J1 H1 r v->rF r=.ok r'->RF c J1 H1 r' v
 | .d x,r',v,h,e=>by cases e;exact h
 | .l .fresh xs,r',v,⟨a,vs,h1,h2,h3,h4,h5⟩,e=>by cases e;exact ⟨a,vs,h1,h2,h3,hp.ent.free h4,h5⟩
 | .l .own xs,r',v,⟨a,vs,h1,h2,h3,h4,h5⟩,e=>by cases e;exact ⟨a,vs,h1,h2,h3,h4,h5⟩
 | .l .bor _,_,_,_,e=>nomatch e
 | .mo _ _,_,_,_,e=>nomatch e
 | .mb _ _,_,_,_,e=>nomatch e
theorem G2 (h:PD X c e g):iw X c (.Return (some e) pos) (bK g):=iC (Kg h) fun E σ H ⟨J,env,sr,w⟩=>by
 refine ⟨J,env,sr,aC (aK w) fun r wr v J1 H1 e1 r1=>?_⟩
 cases q:rF r with
 | bad=>rw [q] at wr;exact wr.elim
 | exc x=>cases r with
  | d _=>cases q
  | l m _=>cases m <;> cases q
  | mo _ _=>cases q
  | mb _ _=>cases q
 | ok r'=>rw [q] at wr;exact wr v J1 H1 e1.j (sr.hp.ext e1) (RR.rf sr.hp r1 q)
def bJ (b:G Bool) (t u:G O):G O:=fun env=>b env >>= fun k=>if k=true then t env else u env
theorem JD {x:Expr}{as bs:List Stmt}(hx:PB X c x tb) (h:pL X c as t) (h':pL X c bs u):iw X c (.If x as bs pos) (bJ tb t u):=iC (LJ hx h h') fun E σ H ⟨J,env,sr,w⟩=>by
 refine ⟨J,env,sr,aC (aK w) fun k wk J1 H1 e1=>?_⟩
 cases k with
 | true=>
  rw [if_pos rfl] at wk ⊢
  exact ⟨J1,env,sr.ext e1,aC wk fun o q=>q.mono e1.j⟩
 | false=>
  rw [if_neg (by decide)] at wk ⊢
  exact ⟨J1,env,sr.ext e1,aC wk fun o q=>q.mono e1.j⟩
def toS:R->M S
 | .d x=>.ok (.d x)
 | .l .fresh xs=>.ok (.own xs)
 | .l .bor xs=>.ok (.bor xs)
 | .l .own _=>.bad
 | .mb ks vs=>.ok (.db ks vs)
 | .mo _ _=>.bad
theorem fZ {α:Type}{l:List (Option α)}{i j:Nat}{x y:α}(h:(l.set i (some x))[j]?=some (some y)):(j=i/\i < l.length/\y=x)\/(j≠i/\l[j]?=some (some y)):=by
 by_cases e:j=i
 ·subst e
  have hj:j < l.length:=by
   have:=(List.getElem?_eq_some_iff.mp h).1
   simpa using this
  rw [List.getElem?_set_self hj] at h
  cases h
  exact .inl ⟨rfl,hj,rfl⟩
 ·rw [List.getElem?_set_ne (Ne.symm e)] at h
  exact .inr ⟨e,h⟩
theorem SR.setD {J H:Hp}{σ:L2.St}{env:Ev}(sr:SR c J H σ env){i:Nat}{x:S}{v:V}(h:mO c J H x v) (hx:∀xs,x≠mS xs):SR c J H (σ.set i (some v)) (env.set i (some x)):=by
 refine ⟨sr.hp,by simpa using sr.len,fun j y q=>?_,fun j k xs ys w hjk q1 q2 q3 q4=>?_⟩
 ·rcases fZ q with ⟨rfl,hl,rfl⟩ | ⟨hj,q⟩
  ·exact ⟨v,by rw [List.getElem?_set_self (by rw [<-sr.len];exact hl)],h⟩
  ·obtain ⟨w,h1,h2⟩:=sr.at_ j y q
   exact ⟨w,by rw [List.getElem?_set_ne (Ne.symm hj)];exact h1,h2⟩
 ·rcases fZ q1 with ⟨rfl,hl,e⟩ | ⟨hj,q1⟩
  ·exact hx xs e.symm
  ·rcases fZ q2 with ⟨rfl,hl,e⟩ | ⟨hk,q2⟩
   ·exact hx ys e.symm
   ·rw [List.getElem?_set_ne (Ne.symm hj)] at q3
    rw [List.getElem?_set_ne (Ne.symm hk)] at q4
    exact sr.sep j k xs ys w hjk q1 q2 q3 q4
theorem SR.setM {J He:Hp}{σ:L2.St}{env:Ev}(sr:SR c J He σ env){J1 H1:Hp}(e1:Ext J He J1 H1){i:Nat}{y:Mn}{p:Addr}(h3:He p=none) (h:mO c J1 H1 (mS y) (.ref p)):SR c J1 H1 (σ.set i (some (.ref p))) (env.set i (some (mS y))):=by
 have sr1:=sr.ext e1
 have old:∀(j:Nat) (ys:Mn),env[j]?=some (some (mS ys))->σ[j]?≠some (some (.ref p)):=fun j ys qj z=>by
  obtain ⟨a,k1,k2,_⟩:=sr.mine qj
  rw [z] at k1
  cases k1
  exact k2 h3
 refine ⟨sr1.hp,by simpa using sr.len,fun j y q=>?_,fun j k ys zs w hjk q1 q2 q3 q4=>?_⟩
 ·rcases fZ q with ⟨rfl,hl,rfl⟩ | ⟨hj,q⟩
  ·exact ⟨.ref p,by rw [List.getElem?_set_self (by rw [<-sr.len];exact hl)],h⟩
  ·obtain ⟨w,k1,k2⟩:=sr1.at_ j y q
   exact ⟨w,by rw [List.getElem?_set_ne (Ne.symm hj)];exact k1,k2⟩
 ·rcases fZ q1 with ⟨rfl,hl,e⟩ | ⟨hj,q1'⟩
  ·rcases fZ q2 with ⟨rfl,_,_⟩ | ⟨hk,q2⟩
   ·exact hjk rfl
   ·rw [List.getElem?_set_self (by rw [<-sr.len];exact hl)] at q3
    cases q3
    rw [List.getElem?_set_ne (Ne.symm hk)] at q4
    exact old k zs q2 q4
  ·rw [List.getElem?_set_ne (Ne.symm hj)] at q3
   rcases fZ q2 with ⟨rfl,hl,e⟩ | ⟨hk,q2⟩
   ·rw [List.getElem?_set_self (by rw [<-sr.len];exact hl)] at q4
    cases q4
    exact old j ys q1' q3
   ·rw [List.getElem?_set_ne (Ne.symm hk)] at q4
    exact sr.sep j k ys zs w hjk q1' q2 q3 q4
theorem SR.set {J He:Hp}{σ:L2.St}{env:Ev}(sr:SR c J He σ env){J1 H1:Hp}(e1:Ext J He J1 H1){i:Nat}{r:R}{x:S}{v:V}(h:RR c He J1 H1 r v) (q:toS r=.ok x):SR c J1 H1 (σ.set i (some v)) (env.set i (some x)):=by
 have sr1:=sr.ext e1
 cases r with
 | d y=>cases q;exact sr1.setD h (fun x z=>by cases x <;> cases z)
 | mb _ _=>cases q;exact sr1.setD h (fun x z=>by cases x <;> cases z)
 | mo _ _=>cases q
 | l m xs=>
  cases m with
  | own=>cases q
  | bor=>cases q;exact sr1.setD h (fun x z=>by cases x <;> cases z)
  | fresh=>
   cases q
   obtain ⟨p,vs,rfl,h1,h2,h3,h4⟩:=h
   exact sr.setM (y:=.inl xs) e1 h3 ⟨p,vs,rfl,h1,h2,sr.hp.ent.free h3,h4⟩
theorem t7 {α:Type}{x:R}{f:S->M α}{Q:α->Prop}{T:Exc->Prop}(w:cL (toS x >>= f) Q T):∃d,toS x=.ok d/\cL (f d) Q T:=by
 cases q:toS x with
 | bad=>rw [q] at w;exact w.elim
 | ok xs=>rw [q] at w;exact ⟨xs,rfl,w⟩
 | exc z=>unfold toS at q;split at q <;> cases q
def bw (i:Nat) (g:G R):G O:=fun env=>g env >>= fun r=>toS r >>= fun x=>.ok (.nx (env.set i (some x)))
theorem G3 (i:Nat){x:Str}{pos':Pos}(hN:X.N.Nodup) (h:PD X c e g) (hi:X.N[i]?=some x:=by rfl) (hx:Loc X.env.scope x:=by first | exact Or.inl rfl | exact Or.inr rfl) (hs:swapsWith e (some (.Name x pos')) pos.line X.env=pure false:=by rfl)
  (hf:X.fn x=true\/X.env.scope.names.lookup x=some .local:=by first | exact .inl rfl | exact .inr rfl):iw X c (.Assign [.Name x pos'] e pos) (bw i g):=iC (CJ hN hi hx h hs hf) fun E σ H ⟨J,env,sr,w⟩=>by
 refine ⟨J,env,sr,aC (aK w) fun r wr v J1 H1 e1 r1=>?_⟩
 obtain ⟨x,q,wr⟩:=t7 wr
 exact wr (σ.set i (some v)) J1 H1 e1.j (sr.set e1 r1 q)
abbrev GT:=D->Ev->M Ev
def KO (env:Ev) (σ:L2.St) (e:Ev) (σ':L2.St):Prop:=∀(j:Nat) (xs:Mn),e[j]?=some (some (mS xs))->env[j]?=some (some (mS xs))/\σ'[j]?=σ[j]?
theorem KO.refl {env:Ev}{σ:L2.St}:KO env σ env σ:=fun _ _ h=>⟨h,rfl⟩
theorem KO.trans {env e1 e2:Ev}{σ s1 s2:L2.St}(a:KO env σ e1 s1) (b:KO e1 s1 e2 s2):KO env σ e2 s2:=fun j xs h=>by
 obtain ⟨h1,h2⟩:=b j xs h
 obtain ⟨h3,h4⟩:=a j xs h1
 exact ⟨h3,h2.trans h4⟩
def tT (c:C) (g:GT):TG:=fun v σ H Q=>∃J env d,SR c J H σ env/\Rep c.K J d v/\cL (g d env) (fun e=>∀σ',SR c J H σ' e->KO env σ e σ'->Q σ' H) c.T
def gF (X:Cx) (c:C) (tg:Expr) (g:GT):Prop:=PG X tg (tT c g)
abbrev nP:=List D->Ev->M Ev
def Nf (c:C) (g:nP):qL:=fun vs σ H Q=>∃J env ds,SR c J H σ env/\aF c.K J ds vs/\cL (g ds env) (fun e=>∀σ',SR c J H σ' e->KO env σ e σ'->Q σ' H) c.T
def wz (X:Cx) (c:C) (tgs:List Expr) (g:nP):Prop:=we X tgs (Nf c g)
theorem FG {X:Cx}{e:Expr}{t t':TG}(h:PG X e t) (k:∀v σ H Q,t' v σ H Q->t v σ H Q):PG X e t':=fun pins s σ H v u Q I r q=>h pins s σ H v u Q I r (k v σ H Q q)
theorem Cz {X:Cx}{e:List Expr}{t t':qL}(h:we X e t) (k:∀v σ H Q,t' v σ H Q->t v σ H Q):we X e t':=fun pins s σ H vs us Q I r q=>h pins s σ H vs us Q I r (k vs σ H Q q)
def aE (i:Nat):GT:=fun d env=>.ok (env.set i (some (.d d)))
theorem EO (i:Nat){x:Str}(hN:X.N.Nodup) (hi:X.N[i]?=some x:=by rfl) (hx:Loc X.env.scope x:=by first | exact Or.inl rfl | exact Or.inr rfl) (hf:X.fn x=true\/X.env.scope.names.lookup x=some .local:=by first | exact .inl rfl | exact .inr rfl):gF X c (.Name x pos) (aE i):=
 FG (Hr hN hi hx hf) fun v σ H Q ⟨J,env,d,sr,rd,w⟩=>w _ (sr.setD (x:=.d d) rd fun x z=>by cases x <;> cases z) fun j xs q=>by
  rcases fZ q with ⟨_,_,e⟩ | ⟨hj,q⟩
  ·cases xs <;> cases e
  ·exact ⟨q,List.getElem?_set_ne (Ne.symm hj)⟩
def dF:nP:=fun ds env=>match ds with
 | []=>.ok env
 | _=>.bad
def br (t:GT) (u:nP):nP:=fun ds env=>match ds with
 | d::r=>t d env >>= fun e=>u r e
 | []=>.bad
theorem ER:wz X c [] dF:=Cz Ht fun vs σ H Q ⟨J,env,ds,sr,rd,w⟩=>by
 cases rd with
 | nil=>exact ⟨rfl,w σ sr KO.refl⟩
 | cons _ _=>exact w.elim
theorem CL {t:GT}{u:nP}(h:gF X c e t) (h':wz X c es u) (hs:(assignEach (e::es) X.env).map (·.2)=assign e X.env::(assignEach es X.env).map (·.2):=by rfl):wz X c (e::es) (br t u):=
 Cz (EF h h' hs) fun vs σ H Q ⟨J,env,ds,sr,rd,w⟩=>by
  cases rd with
  | nil=>exact w.elim
  | cons r rs=>
   refine ⟨_,_,rfl,J,env,_,sr,r,aC (aK w) fun e1 w1 σ' sr' ko=>?_⟩
   exact ⟨J,e1,_,sr',rs,aC w1 fun e2 q σ2 sr2 ko2=>q σ2 sr2 (ko.trans ko2)⟩
def dg (n:Nat) (u:nP):GT:=fun d env=>match d with
 | .tup ds=>if ds.length=n then u ds env else .bad
 | _=>.bad
theorem HC {k:Nat}{u:nP}{n:Nat}(h:wz X c es u) (hc:X.calm=true:=by rfl) (hK:X.K=c.K:=by rfl) (hn:(assignEach es X.env).length=n:=by rfl) (hst:(assignEach es X.env).findIdx? (·.1)=none:=by rfl):gF X c (.Tuple es k pos) (dg n u):=
 FG (Kc hc h hn hst) fun v σ H Q ⟨J,env,d,sr,rd,w⟩=>by
  cases rd with
  | tup h1 h2=>
   unfold dg at w
   simp only at w
   split at w
   ·rename_i hl
    exact ⟨_,_,rfl,by rw [hK];exact fj sr.hp.sub h1,by rw [<-h2.length];exact hl,J,env,_,sr,h2,w⟩
   ·exact w.elim
  | _=>exact w.elim
def kq (t:GT) (g:G R):G O:=fun env=>g env >>= fun r=>toD r >>= fun d=>t d env >>= fun e=>.ok (.nx e)
theorem GY {t:GT}(h:PD X c e g) (ht:gF X c tg t)
  (hq:PS X (.Assign [tg] e pos) (E8 (tD c g) (tT c t))):iw X c (.Assign [tg] e pos) (kq t g):=iC hq fun E σ H ⟨J,env,sr,w⟩=>by
 refine ⟨J,env,sr,aC (aK w) fun r wr v J1 H1 e1 r1=>?_⟩
 obtain ⟨d,q,wr⟩:=iU wr
 obtain ⟨J1',e1',s1,rd⟩:=freeze e1 r1 q
 refine ⟨J1',env,d,sr.ext e1',rd,aC (aK wr) fun e2 w2 σ' sr' _=>?_⟩
 exact w2 σ' J1' H1 e1'.j sr'
def Walk (c:C) (It:It) (ds:List D) (J1:Hp) (U:Hp->Hp->Prop):Prop:=∀(i:Nat) (J H:Hp),HI c J H->U J H->
 (ds.length<=i->It.stop i H)/\∀d,ds[i]?=some d->It.go i H/\∀x H2,It.yld i H x H2->∃J2,Ext J H J2 H2/\Rep c.K J2 d x
def tI (c:C) (g:G (List D)):TI:=fun σ H Q=>∃J env,SR c J H σ env/\cL (g env) (fun ds=>∀It J1 H1,Ext J H J1 H1->Walk c It ds J1 (fun J' _=>aP J1 J')->Q It H1) c.T
def j4 (X:Cx) (c:C) (tg iter:Expr) (g:G (List D)):Prop:=PI X tg iter (tI c g)
theorem o_ {X:Cx}{tg it:Expr}{t t':TI}(h:PI X tg it t) (k:∀σ H Q,t' σ H Q->t σ H Q):PI X tg it t':=fun pins s σ H Q I q=>h pins s σ H Q I (k σ H Q q)
def fD (t:GT) (u:G O):List D->Ev->M O
 | [],env=>.ok (.nx env)
 | d::ds,env=>t d env >>= fun e=>u e >>= fun o=>match o with
  | .nx e=>fD t u ds e
  | .ct e=>fD t u ds e
  | .bk e=>.ok (.nx e)
  | .rt r=>.ok (.rt r)
def cZ (g:G (List D)) (t:GT) (u:G O):G O:=fun env=>g env >>= fun ds=>fD t u ds env
theorem G0 {iter:Expr}{body:List Stmt}{gi:G (List D)}{t:GT}(hi:j4 X c tg iter gi) (ht:gF X c tg t) (hb:pL X c body u) (hp:PassesOwn (model X.prog X.w) X.A X.env X.xe:=by first | exact PassesOwn.never | exact PassesOwn.leaving) (hc:X.calm=true:=by rfl)
  (hs:∀x,foldedSetIterable iter X.env x=pure x:=by intro _;rfl):iw X c (.For tg iter body [] pos) (cZ gi t u):=iC (Kf hp hc hi ht hb hs) fun E σ H ⟨J,env,sr,w⟩=>by
 refine ⟨J,env,sr,aC (aK w) fun ds wd It J1 H1 e1 wk=>?_⟩
 refine ⟨fun i m σ H=>m=ds.length - i/\∃J' env,aP J1 J'/\SR c J' H σ env/\cL (fD t u (ds.drop i) env) (oP c J' E) c.T,
  ⟨ds.length,by simp,J1,env,aP.refl J1,sr.ext e1,by rw [List.drop_zero];exact aC wd fun o q=>q.mono e1.j⟩,?_⟩
 rintro i m σ H ⟨rfl,J',env,s',sr',w'⟩
 obtain ⟨w1,w2⟩:=wk i J' H sr'.hp s'
 by_cases hlt:i < ds.length
 ·obtain ⟨g1,y1⟩:=w2 ds[i] (by simp [hlt])
  rw [List.drop_eq_getElem_cons hlt] at w'
  refine .inr ⟨g1,fun σ2 H2=>∃J2 env2,aP J' J2/\SR c J2 H2 σ2 env2/\cL (fD t u (ds.drop (i + 1)) env2) (oP c J2 E) c.T,?_,?_⟩
  ·rintro σ2 H2 ⟨J2,env2,s2,sr2,w2⟩
   exact ⟨ds.length - (i + 1),by omega,rfl,J2,env2,s'.trans s2,sr2,w2⟩
  ·intro x H2 hy
   obtain ⟨J2,e2,rx⟩:=y1 x H2 hy
   refine ⟨J2,env,ds[i],sr'.ext e2,rx,aC (aK w') fun env3 w3 σ3 sr3 _=>?_⟩
   refine ⟨J2,env3,sr3,aC (aK w3) fun o wo=>?_⟩
   cases o with
   | nx env4=>exact fun σ4 J4 H4 s4 sr4=>⟨J4,env4,e2.j.trans s4,sr4,aC wo fun o q=>q.mono (e2.j.trans s4)⟩
   | ct env4=>exact fun σ4 J4 H4 s4 sr4=>⟨J4,env4,e2.j.trans s4,sr4,aC wo fun o q=>q.mono (e2.j.trans s4)⟩
   | bk env4=>exact fun σ4 J4 H4 s4 sr4=>wo σ4 J4 H4 (e2.j.trans s4) sr4
   | rt r=>exact fun v J4 H4 s4 h4 r4=>wo v J4 H4 (e2.j.trans s4) h4 r4
 ·rw [List.drop_eq_nil_of_le (by omega)] at w'
  exact .inl ⟨w1 (by omega),w' σ J' H (aP.refl J') sr'⟩
def Nj (g:G R):G (List D):=fun env=>g env >>= fun r=>match r with
 | .d (.tup xs)=>.ok xs
 | _=>.bad
theorem oU {J1:Hp}{a:Addr}{vs:List V}{ds:List D}(h:bZ c.K J1 a vs\/bZ c.K c.H0 a vs) (hs:aF c.K J1 ds vs):Walk c (Fc c.K a) ds J1 (fun J' _=>aP J1 J'):=by
 intro i J H hp u
 have h':bZ c.K H a vs:=h.elim (fun h=>hp.sub.seq (u.seq h)) fun h=>hp.ent.seq h
 refine ⟨fun hl=>⟨vs,h',by rw [<-hs.length];exact hl⟩,fun d hd=>?_⟩
 obtain ⟨v,h1,h2⟩:=hs.get hd
 refine ⟨⟨vs,v,h',h1⟩,fun x H2 ⟨e,hy⟩=>?_⟩
 subst e
 have:=hy vs h'
 rw [h1] at this
 cases this
 exact ⟨J,Ext.refl hp.sub,h2.mono u⟩
def dO (lo:Int) (n:Nat):List D:=(List.range n).map fun (k:Nat)=>.int (lo + (k:Int))
theorem sM {J1:Hp}{lo:Int}{n:Nat}{Ut:Hp->Hp->Prop}:Walk c (Br lo n) (dO lo n) J1 Ut:=by
 intro i J H hp u
 refine ⟨fun hl=>(show n<=i by simpa [dO] using hl),fun d hd=>?_⟩
 have hi:i < n:=by
  have:=(List.getElem?_eq_some_iff.mp hd).1
  simpa [dO] using this
 have hd':d=.int (lo + i):=by
  unfold dO at hd
  rw [List.getElem?_map,List.getElem?_range hi] at hd
  exact (Option.some.inj hd).symm
 subst hd'
 exact ⟨hi,fun x H2 ⟨e,hx⟩=>by subst e hx;exact ⟨J,Ext.refl hp.sub,.int _⟩⟩
def cJ (gs:G (List R)):G (List D):=fun env=>gs env >>= fun rs=>match rs with
 | [.d (.int j)]=>if below 4611686018427387904 j then .ok (dO 0 j.toNat) else .bad
 | _=>.bad
def rD (gs:G (List R)):G (List D):=fun env=>gs env >>= fun rs=>match rs with
 | [.d (.int i),.d (.int j)]=>if below 4611686018427387904 i && below 4611686018427387904 j then .ok (dO i (j - i).toNat) else .bad
 | _=>.bad
theorem AX {p:Pos}{gs:G (List R)}(ha:jh X c [a] gs) (hm:X.mg "range"=none) (hg:Gl X "range":=by rfl) (hs:starEach [a] X.env=[(false,eval a X.env)]:=by rfl):j4 X c tg (.Call (.Name "range" p) [a] [] pos) (cJ gs):=
 o_ (CB hg hm ha hs) fun σ H Q ⟨J,env,sr,w⟩=>by
  refine ⟨J,env,sr,aC (aK w) fun rs wr vs J1 H1 e1 r1=>?_⟩
  split at wr
  ·split at wr
   ·rename_i h
    obtain ⟨v,rfl,r⟩:=r1.one
    cases r
    have h:=cj.mp h
    exact ⟨_,rfl,Int.le_of_lt h.1,h.2,wr _ J1 H1 e1 sM⟩
   ·exact wr.elim
  ·exact wr.elim
theorem AY {p:Pos}{gs:G (List R)}(ha:jh X c [a,b] gs) (hm:X.mg "range"=none) (hg:Gl X "range":=by rfl) (hs:starEach [a,b] X.env=[(false,eval a X.env),(false,eval b X.env)]:=by rfl) (hs2:starEach [b] X.env=[(false,eval b X.env)]:=by rfl):
  j4 X c tg (.Call (.Name "range" p) [a,b] [] pos) (rD gs):=
 o_ (CC hg hm ha hs hs2) fun σ H Q ⟨J,env,sr,w⟩=>by
  refine ⟨J,env,sr,aC (aK w) fun rs wr vs J1 H1 e1 r1=>?_⟩
  split at wr
  ·split at wr
   ·rename_i h
    obtain ⟨v,v2,rfl,r,r2⟩:=r1.two
    cases r
    cases r2
    rw [Bool.and_eq_true] at h
    have h1:=cj.mp h.1
    have h2:=cj.mp h.2
    exact ⟨_,_,rfl,⟨Int.le_of_lt h1.1,h1.2,Int.le_of_lt h2.1,h2.2⟩,wr _ J1 H1 e1 sM⟩
   ·exact wr.elim
  ·exact wr.elim
def Nb (c:C) (g:G (List D)):TI:=fun σ H Q=>∃J env,SR c J H σ env/\cL (g env) (fun ds=>∀It J1 H1,Ext J H J1 H1->Walk c It ds J1 (fun J' H'=>aP J1 J'/\aP H1 H')->Q It H1) c.T
def nE (X:Cx) (c:C) (tg iter:Expr) (g:G (List D)):Prop:=PI X tg iter (Nb c g)
theorem j4.pic {gi:G (List D)}(h:j4 X c tg e gi):nE X c tg e gi:=o_ h fun σ H Q ⟨J,env,sr,w⟩=>
 ⟨J,env,sr,aC w fun ds q It J1 H1 e1 wk=>q It J1 H1 e1 fun i J' H' hp u=>wk i J' H' hp u.1⟩
end
section
variable {X:Cx}{c:C}{e a b tg:Expr}{es:List Expr}{ga gb g:G R}{pos:Pos}
theorem SR.updM {J H:Hp}{σ:L2.St}{env:Ev}(sr:SR c J H σ env){i:Nat}{x y:Mn}{p:Addr}{o:HO}(hi:env[i]?=some (some (mS x))) (hs:σ[i]?=some (some (.ref p))) (hJ:J p=none) (h0:c.H0 p=none)
  (h:mO c J (L2.upd H p o) (mS y) (.ref p)):SR c J (L2.upd H p o) σ (env.set i (some (mS y))):=by
 refine ⟨⟨fun b o q=>?_,fun b o q=>?_,sr.hp.entJ,sr.hp.frz⟩,by simpa using sr.len,fun j y q=>?_,fun j k ys zs w hjk q1 q2 q3 q4=>?_⟩
 ·have:b≠p:=fun z=>by rw [z,hJ] at q;cases q
  rw [bg this];exact sr.hp.sub b o q
 ·have:b≠p:=fun z=>by rw [z,h0] at q;cases q
  rw [bg this];exact sr.hp.ent b o q
 ·rcases fZ q with ⟨rfl,hl,rfl⟩ | ⟨hj,q⟩
  ·exact ⟨.ref p,hs,h⟩
  ·obtain ⟨w,k1,k2⟩:=sr.at_ j y q
   refine ⟨w,k1,?_⟩
   have hne:∀(z:Mn) p',y=mS z->w=.ref p'->p'≠p:=fun z p' e ew ep=>sr.sep i j x z (.ref p) (Ne.symm hj) hi (e▸q) hs (ep▸ew▸k1)
   cases y with
   | d x=>exact k2
   | bor zs=>exact k2
   | db _ _=>exact k2
   | dk ks zs=>
    obtain ⟨p',rfl,⟨us,ws,m1,mr⟩,m2⟩:=k2
    exact ⟨p',rfl,⟨us,ws,by rw [bg (hne (.inr (ks,zs)) p' rfl rfl)];exact m1,mr⟩,m2⟩
   | own zs=>
    obtain ⟨p',us,rfl,m1,m2,m3,m4⟩:=k2
    exact ⟨p',us,rfl,by rw [bg (hne (.inl zs) p' rfl rfl)];exact m1,m2,m3,m4⟩
 ·have f:∀(k:Nat) (ys:Mn),(env.set i (some (mS y)))[k]?=some (some (mS ys))->∃ys',env[k]?=some (some (mS ys')):=fun k ys q=>by
   rcases fZ q with ⟨rfl,_,_⟩ | ⟨_,q⟩
   ·exact ⟨x,hi⟩
   ·exact ⟨ys,q⟩
  obtain ⟨ys',r1⟩:=f j ys q1
  obtain ⟨zs',r2⟩:=f k zs q2
  exact sr.sep j k ys' zs' w hjk r1 r2 q3 q4
theorem SR.upd {J H:Hp}{σ:L2.St}{env:Ev}(sr:SR c J H σ env){i:Nat}{xs xs':List D}{p:Addr}{vs vs':List V}(hi:env[i]?=some (some (.own xs))) (hs:σ[i]?=some (some (.ref p))) (hH:H p=some (.lst vs)) (hJ:J p=none) (h0:c.H0 p=none)
  (h:aF c.K J xs' vs'):SR c J (L2.upd H p (.lst vs')) σ (env.set i (some (.own xs'))):=sr.updM (x:=.inl xs) (y:=.inl xs') hi hs hJ h0 ⟨p,vs',rfl,bO,hJ,h0,h⟩
def lI (i:Nat) (g:G R):G O:=fun env=>match env[i]? with
 | some (some (.own xs))=>g env >>= fun r=>toD r >>= fun d=>if xs.length < sizeLine then .ok (.nx (env.set i (some (.own (xs++[d]))))) else .bad
 | _=>.bad
theorem AV (i:Nat){x:Str}{p1 p2 pos':Pos}(h:PD X c e g) (hN:X.N[i]?=some x:=by rfl) (hv:jL X.env.scope x:=by first | exact Or.inl rfl | exact Or.inr (Or.inl rfl) | exact Or.inr (Or.inr rfl)) (hd:(x == ("__debug__":Str))=false:=by decide)
  (hcd:(x == ("__classdict__":Str))=false:=by decide)
  (hbase:attributeBase (.Name x p1) "append" X.env (eval (.Name x p1) X.env)=eval (.Name x p1) X.env:=by rfl)
  (hfew:((backTo pos' (starEach [e] X.env)).all (fun x=>!x.1) && (backToKw pos' (keywordEach [] X.env)).all (fun x=>x.1.isSome)
   && decide (([e]:List Expr).length + ([]:List Keyword).length + (if ([]:List Keyword).isEmpty then 0 else 1) < 30))=true:=by rfl)
  (hline:(p2.endLine == pos'.line)=true:=by rfl) (hst:starEach [e] X.env=(false,eval e X.env)::starEach [] X.env:=by rfl) (hplain:(backTo pos' (starEach [] X.env)).any (·.1)=false:=by rfl)
  (hs:swapsWith (.Call (.Attribute (.Name x p1) "append" p2) [e] [] pos') none pos.line X.env=pure false:=by rfl):
  iw X c (.Expr (.Call (.Attribute (.Name x p1) "append" p2) [e] [] pos') pos) (lI i g):=
 iC (mh (vQ PySem.F.plainAttrs_list PySem.F.slot_list_append PySem.F.type_list_append oB (kE hN hv hd hcd) (gm h jd hst) hbase hfew hline hst hplain) hs) fun E σ H ⟨J,env,sr,w⟩=>by
  unfold lI at w
  split at w
  ·rename_i xs hi
   obtain ⟨v,h1,a,vs,rfl,h2,h3,h4,h5⟩:=sr.at_ i _ hi
   refine ⟨.ref a,h1,.inl ⟨rfl,vs,bZ.of h2⟩,?_⟩
   refine ⟨J,env,sr,aC (aK w) fun r wr y J1 H1 e1 r1=>?_⟩
   obtain ⟨d,q,wr⟩:=iU wr
   obtain ⟨J2,e2,s2,rd⟩:=freeze e1 r1 q
   split at wr
   ·rename_i hz
    refine ⟨a,vs,y,rfl,rfl,e2.h _ _ h2,by rw [<-h5.length];exact hz,?_⟩
    refine wr σ J2 _ e2.j ?_
    exact (sr.ext e2).upd hi h1 (e2.h _ _ h2) (e2.frz a (by rw [h2];intro z;cases z) h3) h4 ((h5.mono e2.j).append (.cons rd .nil))
   ·exact wr.elim
  ·exact w.elim
def gD:R->S
 | .d x=>.d x
 | .l _ xs=>.bor xs
 | .mo ks vs=>.db ks vs
 | .mb ks vs=>.db ks vs
def mL (K:W.Frag) (J H:Hp):List S->List V->Prop
 | [],vs=>vs=[]
 | s::ss,vs=>∃v us,vs=v::us/\(match s with
  | .d x=>Rep K J x v
  | .bor xs=>∃a ws,v=.ref a/\bZ K H a ws/\aF K J xs ws
  | .db ks ws=>∃a,v=.ref a/\eS K J H a ks ws
  | _=>False)/\mL K J H ss us
theorem mL.length {K:W.Frag}{J H:Hp}:∀{ss:List S}{vs:List V},mL K J H ss vs->vs.length=ss.length
 | [],_,h=>by cases h;rfl
 | _::_,_,⟨_,_,h,_,h2⟩=>by subst h;exact congrArg (· + 1) h2.length
theorem mL.get {K:W.Frag}{J H:Hp}:∀{ss:List S}{vs:List V}{i:Nat}{s:S},mL K J H ss vs->ss[i]?=some s->∃v,vs[i]?=some v/\(match s with
  | .d x=>Rep K J x v
  | .bor xs=>∃a ws,v=.ref a/\bZ K H a ws/\aF K J xs ws
  | .db ks ws=>∃a,v=.ref a/\eS K J H a ks ws
  | _=>False)
 | [],_,_,_,_,e=>by simp at e
 | _::_,_,0,_,⟨v,us,h,h1,h2⟩,e=>by simp at e;subst e;subst h;exact ⟨v,rfl,h1⟩
 | _::_,_,i + 1,s,⟨v,us,h,h1,h2⟩,e=>by
  subst h
  obtain ⟨v,k1,k2⟩:=mL.get (i:=i) (s:=s) h2 (by simpa using e)
  exact ⟨v,by simpa using k1,k2⟩
def FR (K:W.Frag) (H J' H':Hp):R->V->Prop
 | .d x,v=>Rep K J' x v
 | .l _ xs,v=>∃a vs,v=.ref a/\H' a=some (.lst vs)/\J' a=none/\H a=none/\aF K J' xs vs
 | _,_=>False
def sD (K:W.Frag) (n:Nat) (F:List S->M R):Sp:=fun vs H Q _=>∃J as,aP J H/\as.length=n/\mL K J H as vs/\cL (F as) (fun r=>∀v J' H',Ext J H J' H'->FR K H J' H' r v->Q v H') (fun _=>False)
def fin:M O->M R
 | .ok (.rt r)=>.ok r
 | .ok (.nx _)=>.ok (.d .non)
 | .exc x=>.exc x
 | _=>.bad
def bH (N:List Str) (as:List S):Ev:=as.map some++List.replicate (N.length - as.length) none
theorem uQ {N:List Str}{as:List S}{i:Nat}{x:S}(h:(bH N as)[i]?=some (some x)):as[i]?=some x:=by
 unfold bH at h
 by_cases hi:i < as.length
 ·rw [List.getElem?_append_left (by simpa using hi),List.getElem?_map] at h
  cases q:as[i]? with
  | none=>rw [q] at h;cases h
  | some y=>rw [q] at h;cases h;rfl
 ·rw [List.getElem?_append_right (by simpa using hi),List.getElem?_replicate] at h
  split at h <;> cases h
theorem E7 {N:List Str}{vs:List V}{i:Nat}{v:V}(h:vs[i]?=some v):(L2.start N vs)[i]?=some (some v):=by
 unfold L2.start
 have hi:i < vs.length:=(List.getElem?_eq_some_iff.mp h).1
 rw [List.getElem?_append_left (by simpa using hi),List.getElem?_map,h]
 rfl
theorem E6 {K:W.Frag}{J H:Hp}{T:Exc->Prop}{N:List Str}{as:List S}{vs:List V}(hs:aP J H) (h:mL K J H as vs):SR ⟨K,H,J,T⟩ J H (L2.start N vs) (bH N as):=by
 have own:∀(i:Nat) (xs:Mn),(bH N as)[i]?≠some (some (mS xs)):=fun i xs q=>by
  obtain ⟨v,_,k⟩:=h.get (uQ q)
  cases xs <;> exact k
 refine ⟨⟨hs,aP.refl H,aP.refl J,fun _ _ q=>q⟩,?_,fun i x q=>?_,fun i j xs ys v _ q=>absurd q (own i xs)⟩
 ·unfold bH L2.start
  rw [List.length_append,List.length_append,List.length_map,List.length_map,List.length_replicate,List.length_replicate,h.length]
 ·obtain ⟨v,k1,k2⟩:=h.get (uQ q)
  refine ⟨v,E7 k1,?_⟩
  cases x with
  | d y=>exact k2
  | own y=>exact k2.elim
  | bor y=>exact k2
  | dk _ _=>exact k2.elim
  | db _ _=>exact k2
abbrev Fq (P:Program) (w:World) (K:W.Frag) (mg:Str->Option Value) (base:Heap) (N:List Str) (qual:Str) (sc:Scope) (f:Addr) (cd:Value) (A:Around) (outer:List Env) (s:Shared) (H:Hp) (E:XK):Cx:=(qb nD P w K mg base N qual sc f cd A outer s H E).nox
theorem BW {P:Program}{w:World}{K:W.Frag}{mg:Str->Option Value}{base:Heap}{x qual:Str}{st:Stmt}{f:Addr}{fd:FuncData}{N ps:List Str}{k:Nat}{Fm:List S->M R}(F:dR K x qual st f fd) (Sc:bC N ps (ay st)){gB:G O}
  (hb:∀(cdv:Value) (A:Around) (outer:List Env) (s:Shared) (H:Hp) (E:XK) (J:Hp) (T:Exc->Prop),dS k (A.deeper (envOfC qual (ay st) s.heap.objs.size f cdv))->
   pL (Fq P w K mg base N qual (ay st) f cdv A outer s H E) ⟨K,H,J,T⟩ (aM st) gB)
  (hF:∀as r,as.length=ps.length->Fm as=.ok r->fin (gB (bH N as))=.ok r):jl P w K mg base nD (k + 1) f fd ps (sD K ps.length Fm):=by
 refine F.ok Sc (fun vs H Q E h=>?_) (fun cdv A outer s H vs Q E hr h=>?_)
 ·obtain ⟨J,as,h1,h2,h3,h4⟩:=h
  rw [h3.length,h2]
 ·obtain ⟨J,as,h1,h2,h3,h4⟩:=h
  refine ⟨_,hb cdv A outer s H E J (fun _=>False) hr,J,bH N as,E6 h1 h3,?_⟩
  cases q:Fm as with
  | bad=>rw [q] at h4;exact h4.elim
  | exc x=>rw [q] at h4;exact h4.elim
  | ok r=>
   rw [q] at h4
   have z:=hF as r h2 q
   have ext:∀{J' H':Hp},HI ⟨K,H,J,fun _=>False⟩ J' H'->Ext J H J' H':=fun hp=>⟨hp.ent,hp.entJ,hp.sub,hp.frz⟩
   cases qg:gB (bH N as) with
   | bad=>rw [qg] at z;cases z
   | exc x=>rw [qg] at z;cases z
   | ok o=>
    rw [qg] at z
    cases o with
    | bk _=>cases z
    | ct _=>cases z
    | nx env=>cases z;exact fun σ' J' H' _ sr=>h4 .non J' H' (ext sr.hp) .non
    | rt r'=>
     cases z
     exact fun v J' H' _ hp rf=>h4 v J' H' (ext hp) (by
      cases r with
      | d x=>exact rf
      | l m xs=>exact rf
      | mo _ _=>exact rf
      | mb _ _=>exact rf)
def pQ:R->R
 | .d x=>.d x
 | .l _ xs=>.l .fresh xs
 | .mo ks vs=>.mo ks vs
 | .mb ks vs=>.mb ks vs
def bf (n:Nat) (F:List S->M R):List R->M R:=fun rs=>if rs.length=n then (match F (rs.map gD) with
 | .ok r=>.ok (pQ r)
 | _=>.bad) else .bad
theorem j6.args {He J H:Hp}(hp:HI c J H):∀{rs:List R}{vs:List V},j6 c He J H rs vs->mL c.K J H (rs.map gD) vs
 | [],_,h=>h
 | r::rs,_,⟨v,us,h,h1,h2⟩=>by
  refine ⟨v,us,h,?_,j6.args hp h2⟩
  cases r with
  | d x=>exact h1
  | l m xs=>exact RR.list hp h1 rfl
  | mo _ _=>obtain ⟨a,h1,h2,_⟩:=h1;exact ⟨a,h1,h2⟩
  | mb _ _=>obtain ⟨a,h1,h2⟩:=h1;exact ⟨a,h1,h2.mono (aP.refl _) hp.ent⟩
theorem G8 {k n:Nat}{f:Addr}{fd:FuncData}{ps:List Str}{F:List S->M R}{x:Str}{p:Pos}{gs:G (List R)}(G:jl X.prog X.w X.K X.mg X.base nD k f fd ps (sD X.K n F)) (hr:dS k X.A) (hm:X.mg x=some (.ref f)) (hk:W.keepIn X.K (.ref f)=true)
  (hb:Binds X.K fd ps []) (ha:jh X c (e::es) gs) (hT:c.K=X.K:=by rfl) (hg:Gl X x:=by rfl) (hdb:(x == ("__debug__":Str))=false:=by decide) (he:starEach (e::es) X.env=(false,eval e X.env)::starEach es X.env:=by rfl)
  (hpl:(backTo pos (starEach es X.env)).any (·.1)=false:=by rfl):PD X c (.Call (.Name x p) (e::es) [] pos) (gN (bf n F) gs):=
 gA (Hl (E:=E0) G hr hg hm hk hb .nil Lr ha hdb he hpl) fun σ H Q ⟨J,env,sr,w⟩=>by
  refine ⟨J,env,sr,aC (aK w) fun rs wr vs J1 H1 e1 r1=>?_⟩
  unfold bf at wr
  split at wr
  ·rename_i hl
   have ar:=r1.args (sr.hp.ext e1)
   rw [hT] at ar
   refine ⟨J1,rs.map gD,e1.sub,by simpa using hl,by rw [List.append_nil];exact ar,?_⟩
   cases q:F (rs.map gD) with
   | bad=>rw [q] at wr;exact wr
   | exc x=>rw [q] at wr;exact wr
   | ok r=>
    rw [q] at wr
    intro v J' H' e2 fr
    refine wr v J' H' (e1.trans e2) ?_
    cases r with
    | d y=>exact (show Rep c.K J' y v from hT▸fr)
    | mo _ _=>exact fr.elim
    | mb _ _=>exact fr.elim
    | l m ys=>
     obtain ⟨a,us,h1,h2,h3,h4,h5⟩:=fr
     exact ⟨a,us,h1,h2,h3,e1.h.free h4,hT▸h5⟩
  ·exact wr.elim
end
def bG (cells:List (Str×Addr)):List (Str×NameKind)->List (Str×Addr)->Option (List (Str×Addr))
 | [],cs=>some cs
 | (n,k)::r,cs=>if k == .free then (match cells.lookup n with
  | some a=>bG cells r ((n,a)::cs)
  | none=>none) else bG cells r cs
theorem lG {env:Env}:∀(names:List (Str×NameKind)) (cs cl:List (Str×Addr)),bG env.cells names cs=some cl->
  (forIn names cs fun (x:Str×NameKind) (r:List (Str×Addr))=>(if (x.2 == .free)=true then do let a <-cellOf env x.1;pure (ForInStep.yield ((x.1,a)::r)) else pure (ForInStep.yield r):Sem (ForInStep (List (Str×Addr)))))=(pure cl:Sem (List (Str×Addr)))
 | [],cs,cl,h=>by cases h;rfl
 | (n,k)::r,cs,cl,h=>by
  unfold bG at h
  rw [List.forIn_cons]
  cases hk:(k == NameKind.free) with
  | true=>
   rw [hk,if_pos rfl] at h
   cases hc:env.cells.lookup n with
   | none=>rw [hc] at h;cases h
   | some a=>
    rw [hc] at h
    have e:cellOf env n=pure a:=by unfold cellOf;rw [hc]
    simp only [hk,if_true,e]
    exact lG r ((n,a)::cs) cl h
  | false=>
   rw [hk,if_neg (by decide)] at h
   simp only [hk]
   exact lG r cs cl h
theorem vh {scope:Scope}{env:Env}{cl:List (Str×Addr)}(h:bG env.cells scope.names []=some cl):closureFor scope env=pure cl:=by
 have q:=lG (env:=env) scope.names [] cl h
 unfold closureFor
 show ((forIn scope.names [] fun (x:Str×NameKind) (r:List (Str×Addr))=>(if (x.2 == .free)=true then do let a <-cellOf env x.1;pure (ForInStep.yield ((x.1,a)::r)) else pure (ForInStep.yield r):Sem (ForInStep (List (Str×Addr))))) >>= fun z=>pure z)=pure cl
 rw [q]
 rfl
theorem gH {cells:List (Str×Addr)}:∀(names:List (Str×NameKind)) (cs cl:List (Str×Addr)),bG cells names cs=some cl->(∀x c,cs.lookup x=some c->cells.lookup x=some c)->
  (∀x c,cl.lookup x=some c->cells.lookup x=some c)/\(∀x,((cs.lookup x).isSome=true\/(x,NameKind.free)∈names)->(cl.lookup x).isSome=true)
 | [],cs,cl,h,k=>by
  cases h
  exact ⟨k,fun x hx=>hx.elim id fun z=>by cases z⟩
 | (n,kd)::r,cs,cl,h,k=>by
  unfold bG at h
  cases hk:(kd == NameKind.free) with
  | true=>
   rw [hk,if_pos rfl] at h
   cases hc:cells.lookup n with
   | none=>rw [hc] at h;cases h
   | some a=>
    rw [hc] at h
    obtain ⟨h1,h2⟩:=gH r ((n,a)::cs) cl h (fun x c q=>by
     rw [List.lookup_cons] at q
     cases e:x == n with
     | true=>
      rw [e] at q
      cases q
      have:x=n:=by simpa using e
      rw [this];exact hc
     | false=>rw [e] at q;exact k x c q)
    refine ⟨h1,fun x hx=>h2 x ?_⟩
    by_cases e:x=n
    ·left;subst e;rw [List.lookup_cons];simp
    ·have e':(x == n)=false:=by simpa using e
     rcases hx with hx | hx
     ·left;rw [List.lookup_cons,e'];exact hx
     ·right
      rcases List.mem_cons.mp hx with z | z
      ·cases z;exact absurd rfl e
      ·exact z
  | false=>
   rw [hk,if_neg (by decide)] at h
   obtain ⟨h1,h2⟩:=gH r cs cl h k
   refine ⟨h1,fun x hx=>h2 x ?_⟩
   rcases hx with hx | hx
   ·exact .inl hx
   ·rcases List.mem_cons.mp hx with z | z
    ·cases z;simp at hk
    ·exact .inr z
section
variable {X:Cx}
def cN (X:Cx) (own:List Str) (cap:List Nat):List Str:=own++cap.map fun (j:Nat)=>(X.N[j]?).getD ("":Str)
def IF (X:Cx) (own:List Str) (cap:List Nat) (scope:Scope) (cl:List (Str×Addr)) (C:Addr) (s:Shared) (H:Hp) (fp:List Addr):Cx where
 prog:=X.prog
 w:=X.w
 K:=X.K
 mg:=X.mg
 base:=X.base
 A:=X.A
 N:=cN X own cap
 s₀:=s
 H₀:=H
 env:=compEnvC scope cl C X.env
 outer:=X.stack
 stack:=X.stack
 ex:=fp
 fn:=fun _=>false
 calm:=X.calm
 pn:=[]
 xe:=fun _ _=>False
def eN (X:Cx) (cap:List Nat):Bool:=cap.all fun j=>match X.N[j]? with
 | some x=>(match X.env.scope.names.lookup x with
  | some .cell=>true
  | some .free=>true
  | _=>false)
 | none=>false
theorem xV {scope:Scope}{env:Env}(hc:∀y∈scope.names,y.2≠.cell):∀{x:Str},((relabel scope env).names.lookup x=some .cell\/(relabel scope env).names.lookup x=some .free)->(x,NameKind.free)∈scope.names:=by
 unfold relabel
 have main:∀(names:List (Str×NameKind)),(∀y∈names,y.2≠.cell)->∀x,((names.map fun (n,k)=>if (k == NameKind.free && env.scope.kind == .function && env.kindOf n == some .cell) then (n,NameKind.cell) else (n,k)).lookup x=some .cell\/
   (names.map fun (n,k)=>if (k == NameKind.free && env.scope.kind == .function && env.kindOf n == some .cell) then (n,NameKind.cell) else (n,k)).lookup x=some .free)->(x,NameKind.free)∈names:=by
  intro names
  induction names with
  | nil=>intro _ x h;simp at h
  | cons p r ih=>
   obtain ⟨n,k⟩:=p
   intro hc x h
   rw [List.map_cons] at h
   simp only at h
   by_cases hx:x=n
   ·subst hx
    have hk:k≠.cell:=hc (x,k) List.mem_cons_self
    have:k=.free:=by
     by_cases q:(k == NameKind.free && env.scope.kind == .function && env.kindOf x == some .cell)=true
     ·rw [Bool.and_eq_true,Bool.and_eq_true] at q
      simpa using q.1.1
     ·rw [if_neg q,List.lookup_cons] at h
      simp at h
      rcases h with h | h
      ·exact absurd h hk
      ·exact h
    subst this
    exact List.mem_cons_self
   ·have hx':(x == n)=false:=by simpa using hx
    refine List.mem_cons_of_mem _ (ih (fun y hy=>hc y (List.mem_cons_of_mem _ hy)) x ?_)
    have red:∀(q:Str×NameKind) (l:List (Str×NameKind)),q.1=n->List.lookup x (q::l)=List.lookup x l:=fun q l hq=>by
     obtain ⟨q1,q2⟩:=q
     simp only at hq
     subst hq
     rw [List.lookup_cons,hx']
    have hq:(if (k == NameKind.free && env.scope.kind == .function && env.kindOf n == some .cell) then (n,NameKind.cell) else (n,k)).1=n:=by split <;> rfl
    rw [red _ _ hq] at h
    exact h
 intro x h
 exact main scope.names hc x h
end
section
variable {X:Cx}{c:C}
def fR (X:Cx) (c:C) (ifs:List Expr) (g:G Bool):Prop:=
 ∀(pins:List (Addr×Obj)) (s:Shared) (σ:L2.St) (H:Hp) (Q:Bool->Hp->Prop),Inv X pins σ H s->tB c g σ H Q->
  wpAny (model X.prog X.w) X.A (forIn ifs true fun c r=>if r=true then do let ok <-isTrue c X.env (eval c X.env);pure (ForInStep.yield ok) else pure (ForInStep.yield r)) (TP X pins σ Q) X.xe s
def fc:G Bool:=fun _=>.ok true
theorem EH:fR X c [] fc:=fun pins s σ H Q I ⟨J,env,sr,w⟩=>wpAny_tests_nil ⟨H,I,w J H (Ext.refl sr.hp.sub)⟩
theorem EI {x:Expr}{g:G Bool}(h:PB X c x g):fR X c [x] g:=fun pins s σ H Q I q=>wpAny_tests_one (h pins s σ H Q I q)
def cP (gt:GT) (gts:G Bool) (ge:G R):List D->Ev->M (List D)
 | [],_=>.ok []
 | d::ds,env=>gt d env >>= fun e=>gts e >>= fun k=>if k=true then ge e >>= fun r=>toD r >>= fun y=>cP gt gts ge ds e >>= fun ys=>.ok (y::ys) else cP gt gts ge ds e
def cE (n:Nat) (cap:List Nat) (env:Ev):Ev:=List.replicate n none++cap.map fun (j:Nat)=>(env[j]?).getD none
def b_ (n:Nat) (cap:List Nat) (gi:G (List D)) (gt:GT) (gts:G Bool) (ge:G R):G R:=fun env=>gi env >>= fun ds=>if ds.length<=sizeLine then cP gt gts ge ds (cE n cap env) >>= fun ys=>.ok (.l .fresh ys) else .bad
theorem jN {α:Type}{n:Nat}{cap:List Nat}{env:List (Option α)}{i:Nat}{x:α}(h:(List.replicate n none++cap.map fun (j:Nat)=>(env[j]?).getD none)[i]?=some (some x)):∃j,n<=i/\cap[i - n]?=some j/\env[j]?=some (some x):=by
 by_cases hi:i < n
 ·rw [List.getElem?_append_left (by simpa using hi),List.getElem?_replicate] at h
  split at h <;> cases h
 ·rw [List.getElem?_append_right (by simpa using hi),List.length_replicate,List.getElem?_map] at h
  cases q:cap[i - n]? with
  | none=>rw [q] at h;cases h
  | some j=>
   rw [q] at h
   refine ⟨j,by omega,rfl,?_⟩
   have h':(env[j]?).getD none=some x:=Option.some.inj h
   cases z:env[j]? with
   | none=>rw [z] at h';cases h'
   | some o=>rw [z] at h';exact congrArg some h'
theorem K_ {α:Type}{n:Nat}{cap:List Nat}{env:List (Option α)}{i j:Nat}{x:α}(h1:n<=i) (h2:cap[i - n]?=some j) (h3:env[j]?=some (some x)):(List.replicate n none++cap.map fun (j:Nat)=>(env[j]?).getD none)[i]?=some (some x):=by
 rw [List.getElem?_append_right (by simpa using h1),List.length_replicate,List.getElem?_map,h2]
 simp [h3]
theorem SR.cap {J H:Hp}{σ:L2.St}{env:Ev}(sr:SR c J H σ env) (n:Nat) (cap:List Nat) (hnd:cap.Nodup):SR c J H (List.replicate n none++cap.map fun (j:Nat)=>(σ[j]?).getD none) (cE n cap env):=by
 refine ⟨sr.hp,by simp [cE],fun i x q=>?_,fun i j xs ys v hij q1 q2 q3 q4=>?_⟩
 ·obtain ⟨j,h1,h2,h3⟩:=jN q
  obtain ⟨v,k1,k2⟩:=sr.at_ j x h3
  exact ⟨v,K_ h1 h2 k1,k2⟩
 ·obtain ⟨a,h1,h2,h3⟩:=jN q1
  obtain ⟨b,h4,h5,h6⟩:=jN q2
  obtain ⟨a',h7,h8,h9⟩:=jN q3
  obtain ⟨b',O1,h11,h12⟩:=jN q4
  rw [h2] at h8;cases h8
  rw [h5] at h11;cases h11
  have hab:a≠b:=fun z=>by
   subst z
   have e1:=(List.getElem?_eq_some_iff.mp h2)
   have e2:=(List.getElem?_eq_some_iff.mp h5)
   have:=(List.getElem_inj hnd).mp (e1.2.trans e2.2.symm)
   omega
  exact sr.sep a b xs ys v hab h3 h6 h9 h12
theorem SR.other {J H:Hp}{σ:L2.St}{env:Ev}(sr:SR c J H σ env){p:Addr}{o:HO}(hJ:J p=none) (h0:c.H0 p=none) (hn:∀(j:Nat) (xs:Mn),env[j]?=some (some (mS xs))->σ[j]?≠some (some (.ref p))):SR c J (L2.upd H p o) σ env:=by
 refine ⟨⟨fun b u q=>?_,fun b u q=>?_,sr.hp.entJ,sr.hp.frz⟩,sr.len,fun j y q=>?_,sr.sep⟩
 ·have:b≠p:=fun z=>by rw [z,hJ] at q;cases q
  rw [bg this];exact sr.hp.sub b u q
 ·have:b≠p:=fun z=>by rw [z,h0] at q;cases q
  rw [bg this];exact sr.hp.ent b u q
 ·obtain ⟨w,k1,k2⟩:=sr.at_ j y q
  refine ⟨w,k1,?_⟩
  cases y with
  | d x=>exact k2
  | bor zs=>exact k2
  | db _ _=>exact k2
  | dk ks zs=>
   obtain ⟨p',rfl,⟨us,ws,m1,mr⟩,m2⟩:=k2
   have hne:p'≠p:=fun z=>hn j (.inr (ks,zs)) q (z▸k1)
   exact ⟨p',rfl,⟨us,ws,by rw [bg hne];exact m1,mr⟩,m2⟩
  | own zs=>
   obtain ⟨p',us,rfl,m1,m2,m3,m4⟩:=k2
   have hne:p'≠p:=fun z=>hn j (.inl zs) q (z▸k1)
   exact ⟨p',us,rfl,by rw [bg hne];exact m1,m2,m3,m4⟩
theorem Ext.other {J H J' H':Hp}(e:Ext J H J' H'){p:Addr}{o:HO}(h:H p=none) (hJ:J' p=none):Ext J H J' (L2.upd H' p o):=
 ⟨fun b u q=>by rw [bg (dW q h)];exact e.h b u q,e.j,fun b u q=>by
  have:b≠p:=fun z=>by rw [z,hJ] at q;cases q
  rw [bg this];exact e.sub b u q,e.frz⟩
theorem yO {P:Program}{w:World}{H:Hp}{h h':Heap}{a:Addr}(x:fV P w H h) (hn:H a=none) (sb:Heap.SameBut a h h'):fV P w H h':=fun b u e=>by
 refine (x b u e).stay (fun d v hd q=>(sb.2 d ?_).trans q) (fun _ q=>q) fun _ _ q=>q
 rintro rfl
 rcases hd with rfl | hd
 ·rw [hn] at e;cases e
 ·rw [hn] at hd;cases hd
theorem M3 {pins:List (Addr×Obj)}{σ:L2.St}{H:Hp}{s:Shared}{own:List Str}{cap:List Nat}{scope:Scope}{cl:List (Str×Addr)}{fp:List Addr}{h1:Heap}{m:Str->Option Value}{tk:Nat}(I:Inv X pins σ H s) (ok:(IF X own cap scope cl s.heap.objs.size s H fp).Ok)
  (hcl:bG X.env.cells scope.names []=some cl) (hcell:∀y∈scope.names,y.2≠.cell) (hcap:eN X cap=true) (Nx:∀j∈cap,∀x,X.N[j]?=some x->(relabel scope X.env).names.lookup x≠some .local)
  (hns:h1.Ns s.heap.objs.size m) (old:∀b o,s.heap.get? b=some o->h1.get? b=some o):
  Inv (IF X own cap scope cl s.heap.objs.size s H fp) [] (List.replicate own.length none++cap.map fun (j:Nat)=>(σ[j]?).getD none) H {s with heap:=h1,toks:=tk}:=by
 obtain ⟨m1,m2⟩:=gH scope.names [] cl hcl (fun x c h=>by simp at h)
 refine ⟨ok,rfl,I.bare,Un.kept old,⟨m,hns,fun i x v q1 q2 q3=>?_⟩,fun x d h=>?_,I.hok.fresh (Nat.le_refl _),fun x d h=>I.freeC x d (m1 x d h),fun p hp=>absurd (show p∈([]:List (Addr×Obj)) from hp) (by simp),I.hok.kept old,?_⟩
 ·obtain ⟨j,h2,h3,h4⟩:=jN q2
  have q1':(own++cap.map fun (j:Nat)=>(X.N[j]?).getD ("":Str))[i]?=some x:=q1
  rw [List.getElem?_append_right (by exact h2),List.getElem?_map,h3] at q1'
  have hj:j∈cap:=List.mem_of_getElem? h3
  have hc:(match X.N[j]? with
   | some x=>(match X.env.scope.names.lookup x with
    | some .cell=>true
    | some .free=>true
    | _=>false)
   | none=>false)=true:=by
   unfold eN at hcap
   exact List.all_eq_true.mp hcap j hj
  cases hx:X.N[j]? with
  | none=>rw [hx] at hc;cases hc
  | some y=>
   rw [Option.map_some,hx] at q1'
   rw [hx] at hc
   have e:y=x:=by simpa using q1'
   subst e
   have kd:X.env.kindOf y=some .cell\/X.env.kindOf y=some .free:=by
    unfold Env.kindOf
    simp only at hc
    split at hc
    ·rename_i z;exact .inl z
    ·rename_i z;exact .inr z
    ·cases hc
   obtain ⟨mX,nX,lX⟩:=I.loc
   obtain ⟨u,ru,lu⟩:=lX j y v hx h4 (kd.elim (fun z=>.inr (.inl z)) fun z=>.inr (.inr z))
   refine ⟨u,ru,.inr ?_⟩
   have kd':(relabel scope X.env).names.lookup y=some .cell\/(relabel scope X.env).names.lookup y=some .free:=by
    rcases q3 with z | z | z
    ·exact absurd z (Nx j hj y hx)
    ·exact .inl z
    ·exact .inr z
   refine ⟨kd',?_⟩
   obtain ⟨d,hd⟩:=Option.isSome_iff_exists.mp (m2 y (.inr (xV hcell kd')))
   refine ⟨d,hd,?_⟩
   rcases lu with ⟨z,_⟩ | ⟨_,d',hd',z⟩
   ·rcases kd with k | k <;> (rw [k] at z;cases z)
   ·have:=m1 y d hd
    rw [hd'] at this
    cases this
    obtain ⟨o,ho,hod⟩:=z
    exact ⟨o,old _ _ ho,hod⟩
 ·obtain ⟨v,o,ho,hod⟩:=I.cell x d (m1 x d h)
  exact ⟨v,o,old _ _ ho,hod⟩
 ·show _=(own++cap.map fun (j:Nat)=>(X.N[j]?).getD ("":Str)).length
  simp
def eZ (X:Cx) (cap:List Nat) (scope:Scope):Bool:=cap.all fun j=>match X.N[j]? with
 | some x=>!((relabel scope X.env).names.lookup x == some .local)
 | none=>true
def gM:List Nat->Bool
 | []=>true
 | x::r=>!(r.contains x) && gM r
theorem zE:∀{l:List Nat},gM l=true->l.Nodup
 | [],_=>List.nodup_nil
 | x::r,h=>by
  unfold gM at h
  rw [Bool.and_eq_true] at h
  refine List.nodup_cons.mpr ⟨fun z=>?_,zE h.2⟩
  have:=h.1
  simp [z] at this
theorem Iv {X:Cx}{pins:List (Addr×Obj)}{σ:L2.St}{H:Hp}{s:Shared}(I:L2.Inv X pins σ H s){T:Addr}(h:s.heap.objs.size<=T):(T∈X.ex\/X.s₀.heap.objs.size<=T)/\T≠X.env.locals/\(∀x c,X.env.cells.lookup x=some c->c≠T)/\∀p∈X.pn++pins,p.1≠T:=by
 have ne:∀b,b < s.heap.objs.size->b≠T:=fun b hb z=>absurd (Nat.lt_of_lt_of_le (z▸hb) h) (Nat.lt_irrefl _)
 refine ⟨.inr (Nat.le_trans I.sz h),(ne _ I.lt).symm,fun x c hc=>?_,fun p hp=>ne _ (Heap.lt_size (I.pin p hp).1)⟩
 obtain ⟨v,o,hv,_⟩:=I.cell x c hc
 exact ne _ (Heap.lt_size hv)
theorem uz {X:Cx}{pins:List (Addr×Obj)}{σ:L2.St}{H:Hp}{s:Shared}{C:Addr}{h':Heap}{o0:Obj}(I:L2.Inv X pins σ H s) (ap:(C∈X.ex\/X.s₀.heap.objs.size<=C)/\C≠X.env.locals/\(∀x c,X.env.cells.lookup x=some c->c≠C)/\∀p∈X.pn++pins,p.1≠C) (hf:H C=none) (sb:Heap.SameBut C s.heap h'):L2.Inv X pins σ H {s with heap:=h'}:=by
 refine I.call' (ch:=[C]) rfl ⟨fun b o hb hn _ hx=>?_,fun b o hb hn _ hx=>⟨o.slots,?_⟩,fun _ _ _ n _=>n,fun b o hb hx=>⟨o,?_⟩,fun _ _ q=>q,fun _ _ _ q=>q,fun _ ps q=>⟨#[],by rw [q];simp⟩⟩ (fun a o ha=>?_) I.bare (fun b hb=>by rw [List.mem_singleton.mp hb];exact ap)
 ·exact (sb.2 b fun z=>hx (by simp [z])).trans hb
 ·exact (sb.2 b fun z=>hx (by simp [z])).trans hb
 ·exact (sb.2 b fun z=>hx (by simp [z])).trans hb
 ·refine (I.hok a o ha).stay (fun b u hb q=>(sb.2 b fun z=>?_).trans q) (fun _ q=>q) fun _ _ q=>q
  rcases hb with rfl | hb
  ·rw [z,hf] at ha;cases ha
  ·rw [z,hf] at hb;cases hb
end
mutual
def aZ:D->D->Bool
 | .non,.non=>true
 | .bl p,.bl q=>p == q
 | .bl p,.int q=>(if p then 1 else 0) == q
 | .int p,.bl q=>p == (if q then 1 else 0)
 | .int p,.int q=>p == q
 | .str p,.str q=>p == q
 | .tup p,.tup q=>cu p q
 | .lst p,.lst q=>cu p q
 | .emp,.emp=>true
 | .exn _ _ _,.exn _ _ _=>true
 | .dct _ _,.dct _ _=>true
 | _,_=>false
def cu:List D->List D->Bool
 | [],[]=>true
 | x::xs,y::ys=>aZ x y && cu xs ys
 | _,_=>false
end
mutual
theorem eu:∀d:D,aZ d d=true
 | .non=>by simp [aZ]
 | .bl _=>by simp [aZ]
 | .int _=>by simp [aZ]
 | .str _=>by simp [aZ]
 | .tup xs=>by simp only [aZ];exact nW xs
 | .lst xs=>by simp only [aZ];exact nW xs
 | .emp=>by simp [aZ]
 | .exn _ _ _=>by simp [aZ]
 | .dct _ _=>by simp [aZ]
theorem nW:∀ds:List D,cu ds ds=true
 | []=>by simp [cu]
 | x::xs=>by simp only [cu,eu x,nW xs,Bool.and_self]
end
theorem mV:∀{xs ys:List D},xs.length≠ys.length->cu xs ys=false
 | [],[],h=>absurd rfl h
 | [],_::_,_=>by simp [cu]
 | _::_,[],_=>by simp [cu]
 | x::xs,y::ys,h=>by
  simp only [cu,mV (xs:=xs) (ys:=ys) (fun z=>h (congrArg (· + 1) z)),Bool.and_false]
def ni (xs ys:List D) (j:Nat):Bool:=match xs[j]?,ys[j]? with
 | some x,some y=>aZ x y
 | _,_=>false
theorem mW:∀{xs ys:List D},xs.length=ys.length->(List.range xs.length).all (ni xs ys)=cu xs ys
 | [],[],_=>by simp [cu]
 | x::xs,y::ys,h=>by
  have ih:=mW (xs:=xs) (ys:=ys) (by simpa using h)
  rw [List.length_cons,List.range_succ_eq_map,List.all_cons,List.all_map]
  simp only [cu]
  rw [<-ih]
  rfl
theorem wZ (xs ys:List D):((List.range (min xs.length ys.length)).all (ni xs ys) && xs.length == ys.length)=cu xs ys:=by
 by_cases h:xs.length=ys.length
 ·rw [<-h,Nat.min_self,mW h];simp
 ·rw [mV h,beq_eq_false_iff_ne.mpr h,Bool.and_false]
section
structure HF (K:W.Frag) (J:Hp) (s:Shared):Prop where
 t:∀a xs,cQ K J a xs->∃its:List Value,Vals xs its/\s.heap.IsTuple a its.toArray
 l:∀a xs,bZ K J a xs->∃its:List Value,Vals xs its/\s.heap.IsList a its.toArray
 e:∀a,J a=some (.dK [])->∃o,s.heap.get? a=some o/\o.cls=.type "dict"
 d:∀a kvs,J a=some (pP a kvs)->∃o es ep,s.heap.get? a=some o/\o.ExactDict/\o.data=.dict es ep/\Paired vV kvs es.toList
variable {K:W.Frag}{J:Hp}{s:Shared}
theorem HF.of {X:Cx}{c:C}{pins:List (Addr×Obj)}{σ:L2.St}{H:Hp}(I:Inv X pins σ H s) (hs:aP J H):HF X.K J s:=
 ⟨fun a xs h=>let ⟨its,r,p,_⟩:=I.tuple (fj hs h);⟨its,r,p⟩,fun a xs h=>let ⟨its,r,p,_⟩:=I.list (hs.seq h);⟨its,r,p.isList⟩,fun a h=>by
  obtain ⟨_,_,vs,_,p⟩:=(show b9 X.prog X.w H s.heap a (.dK []) from I.hok a _ (hs _ _ h))
  obtain ⟨o,es,ep,h1,h2,_⟩:=p
  exact ⟨o,h1,h2.1⟩,fun a kvs h=>(show b9 X.prog X.w H s.heap a (pP a kvs) from I.hok a _ (hs _ _ h)).1⟩
theorem B8 {a:Addr}{xs ys:List Value}(h:s.heap.IsTuple a xs.toArray) (h':s.heap.IsTuple a ys.toArray):xs=ys:=by
 obtain ⟨o,ho,_,n,hd⟩:=h
 obtain ⟨o',ho',_,n',hd'⟩:=h'
 rw [ho] at ho';cases ho'
 rw [hd] at hd'
 injection hd' with h1 _
 simpa using congrArg Array.toList h1
theorem AJ {a:Addr}{xs ys:List Value}(h:s.heap.IsList a xs.toArray) (h':s.heap.IsList a ys.toArray):xs=ys:=by
 obtain ⟨o,ho,_,n,hd⟩:=h
 obtain ⟨o',ho',_,n',hd'⟩:=h'
 rw [ho] at ho';cases ho'
 rw [hd] at hd'
 injection hd' with h1 _
 simpa using congrArg Array.toList h1
mutual
theorem Rep.inj (F:HF K J s):∀{d e:D}{v:V},Rep K J d v->Rep K J e v->dep d<=1000->dep e<=1000->d=e
 | _,_,_,.emp _,_,h,_=>by unfold dep at h;omega
 | _,_,_,.exn _ _ _ _ _,_,h,_=>by unfold dep at h;omega
 | _,_,_,.dct _ _ _ _ _,_,h,_=>by unfold dep at h;omega
 | _,_,_,.non,.non,_,_=>rfl
 | _,_,_,.bl _,.bl _,_,_=>rfl
 | _,_,_,.int _,.int _,_,_=>rfl
 | _,_,_,.str _,.str _,_,_=>rfl
 | _,_,_,.tup _ _,.emp _,_,h=>by unfold dep at h;omega
 | _,_,_,.lst _ _,.emp _,_,h=>by unfold dep at h;omega
 | _,_,_,.tup _ _,.exn _ _ _ _ _,_,h=>by unfold dep at h;omega
 | _,_,_,.tup _ _,.dct _ _ _ _ _,_,h=>by unfold dep at h;omega
 | _,_,_,.lst _ _,.exn _ _ _ _ _,_,h=>by unfold dep at h;omega
 | _,_,_,.lst _ _,.dct _ _ _ _ _,_,h=>by unfold dep at h;omega
 | _,_,_,.tup h hs,.tup h' hs',k,k'=>by
  obtain ⟨its,r,p⟩:=F.t _ _ h
  obtain ⟨its',r',p'⟩:=F.t _ _ h'
  have:=B8 p p'
  subst this
  have:=r.inj r'
  subst this
  rw [aF.inj F hs hs' (by unfold dep at k;omega) (by unfold dep at k';omega)]
 | _,_,_,.lst h hs,.lst h' hs',k,k'=>by
  obtain ⟨its,r,p⟩:=F.l _ _ h
  obtain ⟨its',r',p'⟩:=F.l _ _ h'
  have:=AJ p p'
  subst this
  have:=r.inj r'
  subst this
  rw [aF.inj F hs hs' (by unfold dep at k;omega) (by unfold dep at k';omega)]
 | _,_,_,.tup h _,.lst h' _,_,_=>by
  obtain ⟨its,r,p⟩:=F.t _ _ h
  obtain ⟨its',r',p'⟩:=F.l _ _ h'
  exact absurd rfl (SeqAt.ne_of_list_tuple p' p)
 | _,_,_,.lst h _,.tup h' _,_,_=>by
  obtain ⟨its,r,p⟩:=F.l _ _ h
  obtain ⟨its',r',p'⟩:=F.t _ _ h'
  exact absurd rfl (SeqAt.ne_of_list_tuple p p')
theorem aF.inj (F:HF K J s):∀{ds es:List D}{vs:List V},aF K J ds vs->aF K J es vs->deps ds<=1000->deps es<=1000->ds=es
 | _,_,_,.nil,.nil,_,_=>rfl
 | _,_,_,.cons h hs,.cons h' hs',k,k'=>by rw [Rep.inj F h h' (by unfold deps at k;omega) (by unfold deps at k';omega),aF.inj F hs hs' (by unfold deps at k;omega) (by unfold deps at k';omega)]
end
theorem jg {A:Around}{a:Addr}{its:Array Value}{v:V}{u:Value}(h:s.heap.IsTuple a its) (r:RelV v u) (f:q_ v=true) (hu:A.units < cLine):SeqAt.EqAt A s (.ref a) u false/\SeqAt.EqAt A s u (.ref a) false:=by
 cases v with
 | non=>cases r;exact ⟨.tuple_none h hu,.none_tuple h hu⟩
 | bl b=>cases r;exact ⟨.tuple_bool b h hu,.bool_tuple b h hu⟩
 | int i=>obtain ⟨t,rfl⟩:=r;exact ⟨.tuple_int i t h hu,.int_tuple i t h hu⟩
 | str x=>obtain ⟨t,rfl⟩:=r;exact ⟨.tuple_str x t h hu,.str_tuple x t h hu⟩
 | _=>exact absurd (show false=true from f) Bool.false_ne_true
theorem jF {A:Around}{a:Addr}{its:Array Value}{v:V}{u:Value}(h:s.heap.IsList a its) (r:RelV v u) (f:q_ v=true) (hu:A.units < cLine):SeqAt.EqAt A s (.ref a) u false/\SeqAt.EqAt A s u (.ref a) false:=by
 cases v with
 | non=>cases r;exact ⟨.list_none h hu,.none_list h hu⟩
 | bl b=>cases r;exact ⟨.list_bool b h hu,.bool_list b h hu⟩
 | int i=>obtain ⟨t,rfl⟩:=r;exact ⟨.list_int i t h hu,.int_list i t h hu⟩
 | str x=>obtain ⟨t,rfl⟩:=r;exact ⟨.list_str x t h hu,.str_list x t h hu⟩
 | _=>exact absurd (show false=true from f) Bool.false_ne_true
def ow:D->Bool
 | .tup _=>false
 | .lst _=>false
 | .emp=>false
 | .exn _ _ _=>false
 | .dct _ _=>false
 | _=>true
theorem Rep.flat {d:D}{v:V}(h:Rep K J d v) (f:ow d=true):q_ v=true:=by
 cases h <;> first | rfl | cases f
theorem DM {d e:D}{v w:V}(h:Rep K J d v) (h':Rep K J e w) (f:ow d=true) (f':ow e=true):IJ v w=aZ d e:=by
 cases h <;> cases h' <;> first | rfl | cases f | cases f' | simp [IJ,aZ]
theorem in1_units (A:Around):A.in1.units=A.units + 1:=rfl
theorem qZ (F:HF K J s){d e:D}{v w:V}{u u':Value}(A:Around) (hd:Rep K J d v) (he:Rep K J e w) (rv:RelV v u) (rw':RelV w u') (f:ow d=true) (hu:A.units < cLine) (hu':dep e<=1000):SeqAt.EqAt A s u u' (aZ d e):=by
 cases q:ow e with
 | true=>rw [<-DM hd he f q];exact II rv rw' (hd.flat f) (he.flat q)
 | false=>
  cases he with
  | tup h' hs'=>
   cases rw'
   obtain ⟨its',r',p'⟩:=F.t _ _ h'
   have:=(jg p' rv (hd.flat f) hu).2
   cases hd <;> first | exact this | cases f
  | lst h' hs'=>
   cases rw'
   obtain ⟨its',r',p'⟩:=F.l _ _ h'
   have:=(jF p' rv (hd.flat f) hu).2
   cases hd <;> first | exact this | cases f
  | emp _=>unfold dep at hu';omega
  | exn _ _ _ _ _=>unfold dep at hu';omega
  | dct _ _ _ _ _=>unfold dep at hu';omega
  | _=>cases q
mutual
theorem lT (F:HF K J s):∀{d e:D}{v w:V}{u u':Value}(A:Around),Rep K J d v->Rep K J e w->RelV v u->RelV w u'->A.units + dep d < cLine->dep d<=1000->dep e<=1000->SeqAt.EqAt A s u u' (aZ d e)
 | .tup ds,e,_,w,u,u',A,.tup h hs,he,rv,rw',hu,hd1,hu'=>by
  cases rv
  obtain ⟨its,r,p⟩:=F.t _ _ h
  have Nn:A.units < cLine:=by unfold dep at hu;omega
  cases he with
  | tup h' hs'=>
   cases rw'
   obtain ⟨its',r',p'⟩:=F.t _ _ h'
   rename_i a vs b ws es
   by_cases q:a=b
   ·subst q
    have:=Rep.inj F (.tup h hs) (.tup h' hs') hd1 hu'
    rw [<-this,eu]
    exact SeqAt.EqAt.same _
   ·have l1:its.length=ds.length:=by rw [<-r.length,hs.length]
    have l2:its'.length=es.length:=by rw [<-r'.length,hs'.length]
    simp only [aZ]
    rw [<-wZ,<-l1,<-l2]
    refine SeqAt.EqAt.of_refs q ?_
    have:=SeqAt.RcAt.tuples (e:=ni ds es) p p' Nn fun j j1 j2=>by
     have k1:j < ds.length:=by rw [<-l1];simpa using j1
     have k2:j < es.length:=by rw [<-l2];simpa using j2
     have:=lU F A.in1 hs hs' r r' (by rw [in1_units];unfold dep at hu;omega) (by unfold dep at hd1;omega) (by unfold dep at hu';omega) j k1 k2
     have m1:j < its.length:=by simpa using j1
     have m2:j < its'.length:=by simpa using j2
     simpa [m1,m2] using this
    simpa using this
  | lst h' hs'=>
   cases rw'
   obtain ⟨its',r',p'⟩:=F.l _ _ h'
   exact SeqAt.EqAt.tuple_list p p' Nn
  | non=>exact (jg p rw' rfl Nn).1
  | bl _=>exact (jg p rw' rfl Nn).1
  | int _=>exact (jg p rw' rfl Nn).1
  | str _=>exact (jg p rw' rfl Nn).1
  | emp _=>unfold dep at hu';omega
  | exn _ _ _ _ _=>unfold dep at hu';omega
  | dct _ _ _ _ _=>unfold dep at hu';omega
 | .lst ds,e,_,w,u,u',A,.lst h hs,he,rv,rw',hu,hd1,hu'=>by
  cases rv
  obtain ⟨its,r,p⟩:=F.l _ _ h
  have Nn:A.units < cLine:=by unfold dep at hu;omega
  cases he with
  | lst h' hs'=>
   cases rw'
   obtain ⟨its',r',p'⟩:=F.l _ _ h'
   rename_i a vs b ws es
   by_cases q:a=b
   ·subst q
    have:=Rep.inj F (.lst h hs) (.lst h' hs') hd1 hu'
    rw [<-this,eu]
    exact SeqAt.EqAt.same _
   ·have l1:its.length=ds.length:=by rw [<-r.length,hs.length]
    have l2:its'.length=es.length:=by rw [<-r'.length,hs'.length]
    simp only [aZ]
    refine SeqAt.EqAt.of_refs q ?_
    by_cases z:ds.length=es.length
    ·rw [<-mW z,<-l1]
     have:=SeqAt.RcAt.lists (e:=ni ds es) p p' (by simp;omega) Nn fun j j1 j2=>by
      have k1:j < ds.length:=by rw [<-l1];simpa using j1
      have k2:j < es.length:=by rw [<-l2];simpa using j2
      have:=lU F A.in1 hs hs' r r' (by rw [in1_units];unfold dep at hu;omega) (by unfold dep at hd1;omega) (by unfold dep at hu';omega) j k1 k2
      have m1:j < its.length:=by simpa using j1
      have m2:j < its'.length:=by simpa using j2
      simpa [m1,m2] using this
     simpa using this
    ·rw [mV z]
     exact SeqAt.RcAt.lists_lengths p p' (by simp;omega) Nn
  | tup h' hs'=>
   cases rw'
   obtain ⟨its',r',p'⟩:=F.t _ _ h'
   exact SeqAt.EqAt.list_tuple p p' Nn
  | non=>exact (jF p rw' rfl Nn).1
  | bl _=>exact (jF p rw' rfl Nn).1
  | int _=>exact (jF p rw' rfl Nn).1
  | str _=>exact (jF p rw' rfl Nn).1
  | emp _=>unfold dep at hu';omega
  | exn _ _ _ _ _=>unfold dep at hu';omega
  | dct _ _ _ _ _=>unfold dep at hu';omega
 | .non,e,v,w,u,u',A,hd,he,rv,rw',hu,_,hu'=>qZ F A hd he rv rw' rfl (by omega) hu'
 | .bl _,e,v,w,u,u',A,hd,he,rv,rw',hu,_,hu'=>qZ F A hd he rv rw' rfl (by omega) hu'
 | .int _,e,v,w,u,u',A,hd,he,rv,rw',hu,_,hu'=>qZ F A hd he rv rw' rfl (by omega) hu'
 | .emp,e,v,w,u,u',A,hd,he,rv,rw',hu,hd1,hu'=>by unfold dep at hd1;omega
 | .exn _ _ _,e,v,w,u,u',A,hd,he,rv,rw',hu,hd1,hu'=>by unfold dep at hd1;omega
 | .dct _ _,e,v,w,u,u',A,hd,he,rv,rw',hu,hd1,hu'=>by unfold dep at hd1;omega
 | .str _,e,v,w,u,u',A,hd,he,rv,rw',hu,_,hu'=>qZ F A hd he rv rw' rfl (by omega) hu'
theorem lU (F:HF K J s):∀{ds es:List D}{vs ws:List V}{us us':List Value}(A:Around),aF K J ds vs->aF K J es ws->Vals vs us->Vals ws us'->A.units + deps ds < cLine->deps ds<=1000->deps es<=1000->
  ∀(j:Nat) (h1:j < ds.length) (h2:j < es.length),SeqAt.EqAt A s (us.getD j .none) (us'.getD j .none) (ni ds es j)
 | _,_,_,_,_,_,A,.cons h hs,.cons h' hs',.cons r rs,.cons r' rs',hu,k1,k2,0,_,_=>lT F A h h' r r' (by unfold deps at hu;omega) (by unfold deps at k1;omega) (by unfold deps at k2;omega)
 | _,_,_,_,_,_,A,.cons h hs,.cons h' hs',.cons r rs,.cons r' rs',hu,k1,k2,j + 1,h1,h2=>lU F A hs hs' rs rs' (by unfold deps at hu;omega) (by unfold deps at k1;omega) (by unfold deps at k2;omega) j (by simpa using h1) (by simpa using h2)
end
end
section
variable {K:W.Frag}{J:Hp}{s:Shared}
theorem CQ (F:HF K J s){d e:D}{v w:V}{u u':Value}(A:Around) (hd:Rep K J d v) (he:Rep K J e w) (rv:RelV v u) (rw':RelV w u') (hu:A.units + dep d < cLine) (hd1:dep d<=1000) (hu':dep e<=1000):SeqAt.RcAt A s u u' (aZ d e)/\SeqAt.RcNeAt A s u u' (!aZ d e):=by
 have Nn:A.units < cLine:=by omega
 cases hd with
 | non=>
  cases rv
  cases he with
  | non=>cases rw';exact ⟨.none_none,.none_none⟩
  | bl b=>cases rw';exact ⟨.none_bool b,.none_bool b⟩
  | int i=>obtain ⟨t,rfl⟩:=rw';exact ⟨.none_int i t,.none_int i t⟩
  | str x=>obtain ⟨t,rfl⟩:=rw';exact ⟨.none_str x t,.none_str x t⟩
  | tup h hs=>cases rw';obtain ⟨its,r,p⟩:=F.t _ _ h;exact ⟨.none_tuple p Nn,.none_tuple p Nn⟩
  | lst h hs=>cases rw';obtain ⟨its,r,p⟩:=F.l _ _ h;exact ⟨.none_list p Nn,.none_list p Nn⟩
  | emp _=>unfold dep at hu';omega
  | exn _ _ _ _ _=>unfold dep at hu';omega
  | dct _ _ _ _ _=>unfold dep at hu';omega
 | bl a=>
  cases rv
  cases he with
  | non=>cases rw';exact ⟨.bool_none a,.bool_none a⟩
  | bl b=>cases rw';exact ⟨.bool_bool a b,.bool_bool a b⟩
  | int i=>obtain ⟨t,rfl⟩:=rw';exact ⟨.bool_int a i t,.bool_int a i t⟩
  | str x=>obtain ⟨t,rfl⟩:=rw';exact ⟨.bool_str a x t,.bool_str a x t⟩
  | tup h hs=>cases rw';obtain ⟨its,r,p⟩:=F.t _ _ h;exact ⟨.bool_tuple a p Nn,.bool_tuple a p Nn⟩
  | lst h hs=>cases rw';obtain ⟨its,r,p⟩:=F.l _ _ h;exact ⟨.bool_list a p Nn,.bool_list a p Nn⟩
  | emp _=>unfold dep at hu';omega
  | exn _ _ _ _ _=>unfold dep at hu';omega
  | dct _ _ _ _ _=>unfold dep at hu';omega
 | int a=>
  obtain ⟨t0,rfl⟩:=rv
  cases he with
  | non=>cases rw';exact ⟨.int_none a t0,.int_none a t0⟩
  | bl b=>cases rw';exact ⟨.int_bool a t0 b,.int_bool a t0 b⟩
  | int i=>obtain ⟨t,rfl⟩:=rw';exact ⟨.int_int a t0 i t,.int_int a t0 i t⟩
  | str x=>obtain ⟨t,rfl⟩:=rw';exact ⟨.int_str a t0 x t,.int_str a t0 x t⟩
  | tup h hs=>cases rw';obtain ⟨its,r,p⟩:=F.t _ _ h;exact ⟨.int_tuple a t0 p Nn,.int_tuple a t0 p Nn⟩
  | lst h hs=>cases rw';obtain ⟨its,r,p⟩:=F.l _ _ h;exact ⟨.int_list a t0 p Nn,.int_list a t0 p Nn⟩
  | emp _=>unfold dep at hu';omega
  | exn _ _ _ _ _=>unfold dep at hu';omega
  | dct _ _ _ _ _=>unfold dep at hu';omega
 | str a=>
  obtain ⟨t0,rfl⟩:=rv
  cases he with
  | non=>cases rw';exact ⟨.str_none a t0,.str_none a t0⟩
  | bl b=>cases rw';exact ⟨.str_bool a t0 b,.str_bool a t0 b⟩
  | int i=>obtain ⟨t,rfl⟩:=rw';exact ⟨.str_int a t0 i t,.str_int a t0 i t⟩
  | str x=>obtain ⟨t,rfl⟩:=rw';exact ⟨.str_str a t0 x t,.str_str a t0 x t⟩
  | tup h hs=>cases rw';obtain ⟨its,r,p⟩:=F.t _ _ h;exact ⟨.str_tuple a t0 p Nn,.str_tuple a t0 p Nn⟩
  | lst h hs=>cases rw';obtain ⟨its,r,p⟩:=F.l _ _ h;exact ⟨.str_list a t0 p Nn,.str_list a t0 p Nn⟩
  | emp _=>unfold dep at hu';omega
  | exn _ _ _ _ _=>unfold dep at hu';omega
  | dct _ _ _ _ _=>unfold dep at hu';omega
 | tup h hs=>
  cases rv
  obtain ⟨its,r,p⟩:=F.t _ _ h
  cases he with
  | non=>cases rw';exact ⟨.tuple_none p Nn,.tuple_none p Nn⟩
  | bl b=>cases rw';exact ⟨.tuple_bool b p Nn,.tuple_bool b p Nn⟩
  | int i=>obtain ⟨t,rfl⟩:=rw';exact ⟨.tuple_int i t p Nn,.tuple_int i t p Nn⟩
  | str x=>obtain ⟨t,rfl⟩:=rw';exact ⟨.tuple_str x t p Nn,.tuple_str x t p Nn⟩
  | lst h' hs'=>cases rw';obtain ⟨its',r',p'⟩:=F.l _ _ h';exact ⟨.tuple_list p p' Nn,.tuple_list p p' Nn⟩
  | emp _=>unfold dep at hu';omega
  | exn _ _ _ _ _=>unfold dep at hu';omega
  | dct _ _ _ _ _=>unfold dep at hu';omega
  | tup h' hs'=>
   cases rw'
   obtain ⟨its',r',p'⟩:=F.t _ _ h'
   rename_i a vs ds b ws es
   have l1:its.length=ds.length:=by rw [<-r.length,hs.length]
   have l2:its'.length=es.length:=by rw [<-r'.length,hs'.length]
   have it:∀(j:Nat) (j1:j < its.toArray.size) (j2:j < its'.toArray.size),SeqAt.EqAt A.in1 s its.toArray[j] its'.toArray[j] (ni ds es j):=fun j j1 j2=>by
    have k1:j < ds.length:=by rw [<-l1];simpa using j1
    have k2:j < es.length:=by rw [<-l2];simpa using j2
    have:=lU F A.in1 hs hs' r r' (by rw [in1_units];unfold dep at hu;omega) (by unfold dep at hd1;omega) (by unfold dep at hu';omega) j k1 k2
    have m1:j < its.length:=by simpa using j1
    have m2:j < its'.length:=by simpa using j2
    simpa [m1,m2] using this
   simp only [aZ]
   rw [<-wZ,<-l1,<-l2]
   have q1:=SeqAt.RcAt.tuples p p' Nn it
   have q2:=SeqAt.RcNeAt.tuples p p' Nn it
   exact ⟨by simpa using q1,by simpa using q2⟩
 | emp _=>unfold dep at hd1;omega
 | exn _ _ _ _ _=>unfold dep at hd1;omega
 | dct _ _ _ _ _=>unfold dep at hd1;omega
 | lst h hs=>
  cases rv
  obtain ⟨its,r,p⟩:=F.l _ _ h
  cases he with
  | non=>cases rw';exact ⟨.list_none p Nn,.list_none p Nn⟩
  | bl b=>cases rw';exact ⟨.list_bool b p Nn,.list_bool b p Nn⟩
  | int i=>obtain ⟨t,rfl⟩:=rw';exact ⟨.list_int i t p Nn,.list_int i t p Nn⟩
  | str x=>obtain ⟨t,rfl⟩:=rw';exact ⟨.list_str x t p Nn,.list_str x t p Nn⟩
  | tup h' hs'=>cases rw';obtain ⟨its',r',p'⟩:=F.t _ _ h';exact ⟨.list_tuple p p' Nn,.list_tuple p p' Nn⟩
  | emp _=>unfold dep at hu';omega
  | exn _ _ _ _ _=>unfold dep at hu';omega
  | dct _ _ _ _ _=>unfold dep at hu';omega
  | lst h' hs'=>
   cases rw'
   obtain ⟨its',r',p'⟩:=F.l _ _ h'
   rename_i a vs ds b ws es
   have l1:its.length=ds.length:=by rw [<-r.length,hs.length]
   have l2:its'.length=es.length:=by rw [<-r'.length,hs'.length]
   have it:∀(j:Nat) (j1:j < its.toArray.size) (j2:j < its'.toArray.size),SeqAt.EqAt A.in1 s its.toArray[j] its'.toArray[j] (ni ds es j):=fun j j1 j2=>by
    have k1:j < ds.length:=by rw [<-l1];simpa using j1
    have k2:j < es.length:=by rw [<-l2];simpa using j2
    have:=lU F A.in1 hs hs' r r' (by rw [in1_units];unfold dep at hu;omega) (by unfold dep at hd1;omega) (by unfold dep at hu';omega) j k1 k2
    have m1:j < its.length:=by simpa using j1
    have m2:j < its'.length:=by simpa using j2
    simpa [m1,m2] using this
   simp only [aZ]
   by_cases z:ds.length=es.length
   ·rw [<-mW z,<-l1]
    have q1:=SeqAt.RcAt.lists p p' (by simp;omega) Nn it
    have q2:=SeqAt.RcNeAt.lists p p' (by simp;omega) Nn it
    exact ⟨by simpa using q1,by simpa using q2⟩
   ·rw [mV z]
    exact ⟨.lists_lengths p p' (by simp;omega) Nn,.lists_lengths p p' (by simp;omega) Nn⟩
end
section
variable {X:Cx}{c:C}{e a b tg:Expr}{es:List Expr}{ga gb g:G R}{pos:Pos}
theorem RR.rep {He J H:Hp}(hp:HI c J H):∀{r:R}{v:V}{d:D},RR c He J H r v->(∀xs,r=.l .fresh xs\/r=.l .own xs\/r=.l .bor xs->d=.lst xs)->(∀x,r=.d x->d=x)->(∀ks vs,r≠.mo ks vs/\r≠.mb ks vs)->Rep c.K H d v
 | .mo _ _,_,_,_,_,_,n=>((n _ _).1 rfl).elim
 | .mb _ _,_,_,_,_,_,n=>((n _ _).2 rfl).elim
 | .d x,v,d,h,_,k,_=>by rw [k x rfl];exact Rep.mono hp.sub h
 | .l m xs,v,d,h,k,_,_=>by
  have e:d=.lst xs:=k xs (by cases m;exact .inl rfl;exact .inr (.inl rfl);exact .inr (.inr rfl))
  obtain ⟨a,vs,rfl,h1,h2⟩:=RR.list hp h rfl
  rw [e]
  exact .lst h1 (h2.mono hp.sub)
def R.dat:R->D
 | .d x=>x
 | .l _ xs=>.lst xs
 | .mo ks vs=>.dct ks vs
 | .mb ks vs=>.dct ks vs
theorem RR.dat {He J H:Hp}(hp:HI c J H){r:R}{v:V}(h:RR c He J H r v):Rep c.K H r.dat v:=by
 by_cases hm:∃ks vs,r=.mo ks vs
 ·obtain ⟨ks,vs,rfl⟩:=hm;obtain ⟨a,rfl,h,_⟩:=h;exact h.rep hp.sub
 by_cases hb:∃ks vs,r=.mb ks vs
 ·obtain ⟨ks,vs,rfl⟩:=hb;obtain ⟨a,rfl,h⟩:=h;exact (h.mono (aP.refl _) hp.ent).rep hp.sub
 refine h.rep hp (fun xs q=>?_) (fun x q=>by rw [q];rfl) fun ks vs=>⟨fun z=>hm ⟨_,_,z⟩,fun z=>hb ⟨_,_,z⟩⟩
 rcases q with q | q | q <;> (rw [q];rfl)
def EV (K:W.Frag) (neg:Bool):R2:=fun x y H Q=>∃d e,Rep K H d x/\Rep K H e y/\dep d<=60/\dep e<=60/\Q (.bl (if neg then !aZ d e else aZ d e)) H
theorem gW {pins:List (Addr×Obj)}{σ:L2.St}{H:Hp}{s:Shared}(I:Inv X pins σ H s):HF X.K H s:=HF.of (c:=⟨X.K,H,H,fun _=>True⟩) I (aP.refl H)
theorem Ck (hu:X.A.units + 64 < cLine):cY X (compareOp .Eq) (EV X.K false):=by
 intro pins s σ H x y v u Q I rx ry h
 obtain ⟨d,e,h1,h2,h3,h4,q⟩:=h
 exact (CQ (gW I) X.A h1 h2 rx ry (by omega) (by omega) (by omega)).1 X.prog X.w X.xe _ ⟨.bl _,H,I,rfl,q⟩
theorem Jr (hu:X.A.units + 64 < cLine):cY X (compareOp .NotEq) (EV X.K true):=by
 intro pins s σ H x y v u Q I rx ry h
 obtain ⟨d,e,h1,h2,h3,h4,q⟩:=h
 exact (CQ (gW I) X.A h1 h2 rx ry (by omega) (by omega) (by omega)).2 X.prog X.w X.xe _ ⟨.bl _,H,I,rfl,q⟩
def cR (neg:Bool) (x y:R):M R:=if dep x.dat<=60/\dep y.dat<=60 then .ok (.d (.bl (if neg then !aZ x.dat y.dat else aZ x.dat y.dat))) else .bad
theorem Am (neg:Bool) (hK:X.K=c.K):BD c (EV X.K neg) (cR neg):=by
 intro He He' J H x y u v Q hp rx ry w
 unfold cR at w
 split at w
 ·rename_i hd
  exact ⟨x.dat,y.dat,by rw [hK];exact rx.dat hp,by rw [hK];exact ry.dat hp,hd.1,hd.2,w _ J H (Ext.refl hp.sub) (.bl _)⟩
 ·exact w.elim
theorem Ly (hu:X.A.units + 64 < cLine) (ha:PD X c a ga) (hb:PD X c b gb) (hK:X.K=c.K:=by rfl):PD X c (.Compare a [.Eq] [b] pos) (g2 (cR false) ga gb):=xK (Ck hu) (Am false hK) ha hb
theorem Ls (hu:X.A.units + 64 < cLine) (ha:PD X c a ga) (hb:PD X c b gb) (hK:X.K=c.K:=by rfl):PB X c (.Compare a [.Eq] [b] pos) (bB (g2 (cR false) ga gb)):=kD (Ck hu) (Am false hK) ha hb
theorem Lv (hu:X.A.units + 64 < cLine) (ha:PD X c a ga) (hb:PD X c b gb) (hK:X.K=c.K:=by rfl):PB X c (.Compare a [.NotEq] [b] pos) (bB (g2 (cR true) ga gb)):=kD (Jr hu) (Am true hK) ha hb
def inD (d:D) (xs:List D):Bool:=xs.any fun x=>aZ x d
def Ks (K:W.Frag) (neg:Bool):R2:=fun x y H Q=>∃d p vs ds,Rep K H d x/\dep d<=60/\y=.ref p/\(bZ K H p vs\/cQ K H p vs)/\aF K H ds vs/\deps ds<=60/\Q (.bl (if neg then !inD d ds else inD d ds)) H
theorem uJ {K:W.Frag}{H:Hp}{y:Value}:∀{ds:List D}{vs:List V}{us:List Value},aF K H ds vs->Vals vs us->deps ds<=60->y∈us->∃d' v',Rep K H d' v'/\RelV v' y/\dep d'<=60
 | _,_,_,.nil,.nil,_,hy=>nomatch hy
 | _,_,_,.cons r hs,.cons q rs,hd,hy=>by
  unfold deps at hd
  rcases List.mem_cons.mp hy with rfl | hy
  ·exact ⟨_,_,r,q,by omega⟩
  ·exact uJ hs rs (by omega) hy
open Classical in
noncomputable def Aj (K:W.Frag) (H:Hp) (d:D) (y:Value):Bool:=decide (∃d' v',Rep K H d' v'/\RelV v' y/\dep d'<=1000/\aZ d' d=true)
theorem zb {K:W.Frag}{H:Hp}{s:Shared}(F:HF K H s){d d':D}{v':V}{y:Value}(r':Rep K H d' v') (q':RelV v' y) (hd:dep d'<=1000):Aj K H d y=aZ d' d:=by
 classical
 unfold Aj
 cases z:aZ d' d with
 | true=>exact decide_eq_true ⟨d',v',r',q',hd,z⟩
 | false=>
  refine decide_eq_false ?_
  rintro ⟨d2,v2,r2,q2,hd2,z2⟩
  have:v2=v':=q2.inj q'
  subst this
  rw [Rep.inj F r2 r' hd2 hd] at z2
  rw [z] at z2
  cases z2
theorem wD {K:W.Frag}{H:Hp}{s:Shared}(F:HF K H s){d:D}:∀{ds:List D}{vs:List V}{us:List Value},aF K H ds vs->Vals vs us->deps ds<=1000->us.any (Aj K H d)=inD d ds
 | _,_,_,.nil,.nil,_=>rfl
 | _,_,_,.cons r hs,.cons q rs,hd=>by
  unfold deps at hd
  unfold inD
  rw [List.any_cons,List.any_cons,wD F hs rs (by omega),zb F r q (by omega)]
  rfl
theorem BA {A:Around}{s:Shared}{K:W.Frag}{H:Hp}(F:HF K H s){d:D}{x:V}{u:Value}(h:Rep K H d x) (rx:RelV x u) (Od:dep d<=60) (hA:A.units + 60 < cLine){ds:List D}{vs:List V}{us:List Value}(hs:aF K H ds vs) (rs:Vals vs us) (hd:deps ds<=60):
  ∃e:Value->Bool,(∀y∈us,SeqAt.EqAt A s y u (e y))/\us.any e=inD d ds:=by
 refine ⟨Aj K H d,fun y hy=>?_,wD F hs rs (by omega)⟩
 obtain ⟨d',v',r',q',hd'⟩:=uJ hs rs hd hy
 rw [zb F r' q' (by omega)]
 exact lT F A r' h q' rx (by omega) (by omega) (by omega)
theorem Cm (hu:X.A.units + 64 < cLine):cY X (compareOp .In) (Ks X.K false):=by
 intro pins s σ H x y v u Q I rx ry h
 obtain ⟨d,p,vs,ds,h1,Od,rfl,h2,h3,h4,q⟩:=h
 cases ry
 have F:=gW I
 rcases h2 with h2 | h2
 ·obtain ⟨its,r,pl⟩:=F.l _ _ h2
  obtain ⟨e,he,hany⟩:=BA (A:=X.A.in1) F h1 rx Od (by rw [in1_units];omega) h3 r h4
  exact SeqAt.in_listAt e pl (fun z hz=>he z (by simpa using hz)) ⟨.bl _,H,I,rfl,by rw [show its.toArray.any e=its.any e by simp,hany];exact q⟩
 ·obtain ⟨its,r,pl⟩:=F.t _ _ h2
  obtain ⟨e,he,hany⟩:=BA (A:=X.A.in1) F h1 rx Od (by rw [in1_units];omega) h3 r h4
  exact SeqAt.in_tupleAt e pl (fun z hz=>he z (by simpa using hz)) ⟨.bl _,H,I,rfl,by rw [show its.toArray.any e=its.any e by simp,hany];exact q⟩
def jj (neg:Bool) (x y:R):M R:=iO y >>= fun ys=>if deps ys<=60/\dep x.dat<=60 then .ok (.d (.bl (if neg then !inD x.dat ys else inD x.dat ys))) else .bad
theorem Fl (neg:Bool) (hK:X.K=c.K):BD c (Ks X.K neg) (jj neg):=by
 intro He He' J H x y u v Q hp rx ry w
 obtain ⟨ys,q,w⟩:=j3 w
 obtain ⟨p,vs,rfl,h1,h2⟩:=lR hp ry q
 split at w
 ·rename_i hd
  exact ⟨x.dat,p,vs,ys,by rw [hK];exact rx.dat hp,hd.2,rfl,by rw [hK];exact h1,by rw [hK];exact h2.mono hp.sub,hd.1,w _ J H (Ext.refl hp.sub) (.bl _)⟩
 ·exact w.elim
theorem Lz (hu:X.A.units + 64 < cLine) (ha:PD X c a ga) (hb:PD X c b gb) (hK:X.K=c.K:=by rfl) (hm:behindInMarks .In b=false:=by rfl):PD X c (.Compare a [.In] [b] pos) (g2 (jj false) ga gb):=xK (Cm hu) (Fl false hK) ha hb hm
theorem Lu (hu:X.A.units + 64 < cLine) (ha:PD X c a ga) (hb:PD X c b gb) (hK:X.K=c.K:=by rfl) (hm:behindInMarks .In b=false:=by rfl):PB X c (.Compare a [.In] [b] pos) (bB (g2 (jj false) ga gb)):=kD (Cm hu) (Fl false hK) ha hb hm
abbrev GO:=G (Option Int)
def tO (c:C) (g:GO):TO:=fun σ H Q=>∃J env,SR c J H σ env/\cL (g env) (fun o=>∀J' H',Ext J H J' H'->Q o H') c.T
def wg (X:Cx) (c:C) (e:Option Expr) (g:GO):Prop:=PO X e (tO c g)
theorem FH {X:Cx}{e:Option Expr}{t t':TO}(h:PO X e t) (k:∀σ H Q,t' σ H Q->t σ H Q):PO X e t':=fun pins s σ H Q I q=>h pins s σ H Q I (k σ H Q q)
def zo:GO:=fun _=>.ok none
def zp (g:G R):GO:=fun env=>g env >>= fun r=>match r with
 | .d (.int i)=>.ok (some i)
 | _=>.bad
theorem EJ:wg X c none zo:=FH Hx fun σ H Q ⟨J,env,sr,w⟩=>w J H (Ext.refl sr.hp.sub)
theorem EK (h:PD X c e g):wg X c (some e) (zp g):=FH (Hy h) fun σ H Q ⟨J,env,sr,w⟩=>by
 refine ⟨J,env,sr,aC (aK w) fun r wr v J1 H1 e1 r1=>?_⟩
 split at wr
 ·cases r1;exact ⟨_,rfl,wr J1 H1 e1⟩
 ·exact wr.elim
def cutD (xs:List D) (lo hi:Option Int):List D:=(xs.drop (HT.bE xs.length 0 lo)).take (HT.bE xs.length xs.length hi - HT.bE xs.length 0 lo)
theorem aF.cut {K:W.Frag}{J:Hp}{xs:List D}{vs:List V}(h:aF K J xs vs) (lo hi:Option Int):aF K J (cutD xs lo hi) (lH vs lo hi):=by
 unfold cutD lH
 rw [h.length]
 exact (h.drop _).take _
def xg (f:R->Option Int->Option Int->M R) (g:G R) (lo hi:GO):G R:=fun env=>g env >>= fun x=>lo env >>= fun l=>hi env >>= fun u=>f x l u
theorem LB {r:V->Option Int->Option Int->Hp->VK->Prop}{f:R->Option Int->Option Int->M R}{lo hi:Option Expr}{gl gh:GO}{p2:Pos}(hr:qJ X r) (hf:∀(He J H:Hp) (x:R) (v:V) (l u:Option Int) (Q:VK),HI c J H->RR c He J H x v->
   cL (f x l u) (fun z=>∀w J' H',Ext J H J' H'->RR c H J' H' z w->Q w H') c.T->r v l u H Q) (h:PD X c e g) (hl:wg X c lo gl) (hh:wg X c hi gh):PD X c (.Subscript e (.Slice lo hi none p2) pos) (xg f g gl gh):=
 gA (EE hr h hl hh) fun σ H Q ⟨J,env,sr,w⟩=>by
  refine ⟨J,env,sr,aC (aK w) fun x wx v J1 H1 e1 r1=>?_⟩
  refine ⟨J1,env,sr.ext e1,aC (aK wx) fun l wl J2 H2 e2=>?_⟩
  refine ⟨J2,env,(sr.ext e1).ext e2,aC (aK wl) fun u wu J3 H3 e3=>?_⟩
  have ee:=(e1.trans e2).trans e3
  exact hf H J3 H3 x v l u Q (sr.hp.ext ee) ((r1.ext e2).ext e3) (aC wu fun z q w J' H' e4 r4=>q w J' H' (ee.trans e4) (RR.from ee.h r4))
def Ms (x:R) (l u:Option Int):M R:=lQ x >>= fun xs=>.ok (.l .fresh (cutD xs l u))
theorem Be {ss:List Str}:∀{us:List Value},Vals (ss.map V.str) us->StrsAre us ss:=by
 induction ss with
 | nil=>intro us h;cases h;exact .nil
 | cons x r ih=>
  intro us h
  cases h with
  | cons q rs=>
   obtain ⟨t,rfl⟩:=q
   exact .cons x t (ih rs)
theorem uU:∀{us:List Value}{ss:List Str},StrsAre us ss->Vals (ss.map V.str) us
 | _,_,.nil=>.nil
 | _,_,.cons y t h=>.cons ⟨t,rfl⟩ (uU h)
def jE (x y:Str):Bool:=decide (x.cps.toList<=y.cps.toList)
def pA (ss:List Str):List Str:=ss.mergeSort jE
theorem uv (x y z:Str) (h1:jE x y=true) (h2:jE y z=true):jE x z=true:=by
 unfold jE at *
 exact decide_eq_true (List.le_trans (of_decide_eq_true h1) (of_decide_eq_true h2))
theorem Cc (x y:Str):(jE x y || jE y x)=true:=by
 unfold jE
 rw [Bool.or_eq_true]
 rcases List.le_total x.cps.toList y.cps.toList with h | h
 ·exact .inl (decide_eq_true h)
 ·exact .inr (decide_eq_true h)
theorem D7 {x y:Str}(h1:jE x y=true) (h2:jE y x=true):x=y:=by
 unfold jE at *
 have:=List.le_antisymm (of_decide_eq_true h1) (of_decide_eq_true h2)
 obtain ⟨⟨cx⟩⟩:=x
 obtain ⟨⟨cy⟩⟩:=y
 simp only at this
 rw [this]
theorem yg (ss:List Str):(pA ss).Pairwise fun x y=>jE x y=true:=List.pairwise_mergeSort uv Cc ss
theorem Bd (ss:List Str):(pA ss).Perm ss:=List.mergeSort_perm ss jE
theorem su:∀(x:Str) (r:List Str),risingS x r=true->(x::r).Pairwise fun x y=>jE x y=true
 | x,[],_=>by simp
 | x,y::r,h=>by
  unfold risingS at h
  rw [Bool.and_eq_true] at h
  have hy:=su y r h.2
  have hxy:jE x y=true:=by
   have h1:=h.1
   rw [ltCps_eq] at h1
   unfold jE
   refine decide_eq_true ?_
   have:¬y.cps.toList < x.cps.toList:=by simpa using h1
   exact this
  refine List.pairwise_cons.mpr ⟨fun z hz=>?_,hy⟩
  rcases List.mem_cons.mp hz with rfl | hz
  ·exact hxy
  ·exact uv x y z hxy ((List.pairwise_cons.mp hy).1 z hz)
theorem Bc {ss ss':List Str}(hp:ss'.Perm ss) (hs:sortedS ss'=true):ss'=pA ss:=by
 have pw:ss'.Pairwise fun x y=>jE x y=true:=by
  cases ss' with
  | nil=>exact List.Pairwise.nil
  | cons x r=>exact su x r hs
 exact (hp.trans (Bd ss).symm).eq_of_pairwise (fun x y _ _ h1 h2=>D7 h1 h2) pw (yg ss)
theorem wQ:bQ X (.builtin "sorted") (fun xs H Q=>∃p ss,xs=[.ref p]/\bZ X.K H p (ss.map V.str)/\ss.length < 64/\∀ss',ss'.Perm ss->sortedS ss'=true->∀l,H l=none->Q (.ref l) (upd H l (.lst (ss'.map V.str)))):=by
 intro pins s σ H xs us Q I r h
 obtain ⟨p,ss,rfl,hq,hl,q⟩:=h
 obtain ⟨u,rfl,rx⟩:=vals1 r
 cases rx
 obtain ⟨its,r',pl,hz⟩:=I.list hq
 have hlen:=r'.length
 refine sorted_strs pl.isList (Be r') (by rw [<-hlen,List.length_map];exact hl) fun out ss' a1 a2 a3=>?_
 obtain ⟨n,hn⟩:=sortedAll_at s.heap its out
 have kp:∀b o,s.heap.get? b=some o->(sortedAll s.heap its out).get? b=some o:=fun b o e=>sortedAll_old e
 have fr:H (s.heap.objs.size + 1)=none:=I.hok.fresh (Nat.le_succ _)
 have ll:(ss'.map V.str).length=(ss.map V.str).length:=by rw [List.length_map,List.length_map,a2.length_eq]
 refine ⟨.ref (s.heap.objs.size + 1),_,I.laid (t':=s.toks) kp (Nat.le_succ _) (show b9 X.prog X.w _ _ _ (.lst (ss'.map V.str)) from ⟨by rw [ll];exact hz,out.toList,n,uU a1,by simpa [seqObj] using hn⟩),rfl,q ss' a2 a3 _ fr⟩
def strsOf:List D->Option (List Str)
 | []=>some []
 | .str x::r=>(strsOf r).map (x::·)
 | _::_=>none
theorem sE {K:W.Frag}{J:Hp}:∀{ds:List D}{vs:List V}{ss:List Str},strsOf ds=some ss->aF K J ds vs->vs=ss.map V.str
 | [],_,_,h,.nil=>by cases h;rfl
 | .str x::r,_,ss,h,.cons q rs=>by
  unfold strsOf at h
  cases z:strsOf r with
  | none=>rw [z] at h;cases h
  | some ss'=>
   rw [z] at h
   cases h
   cases q
   rw [sE z rs]
   rfl
theorem uL {K:W.Frag}{J:Hp}:∀(ss:List Str),aF K J (ss.map D.str) (ss.map V.str)
 | []=>.nil
 | x::r=>.cons (.str x) (uL r)
def jW:List R->M R
 | [r]=>lQ r >>= fun xs=>match strsOf xs with
  | some ss=>if ss.length < 64 then .ok (.l .fresh ((pA ss).map .str)) else .bad
  | none=>.bad
 | _=>.bad
theorem kc:bootBuiltins "sorted"=some (.builtin "sorted"):=by decide +kernel
theorem Cy {p:Pos}{gs:G (List R)}(ha:jh X c (e::es) gs) (hm:X.mg "sorted"=none) (hK:X.K=c.K:=by rfl) (hg:Gl X "sorted":=by rfl)
  (he:starEach (e::es) X.env=(false,eval e X.env)::starEach es X.env:=by rfl) (hpl:(backTo pos (starEach es X.env)).any (·.1)=false:=by rfl):PD X c (.Call (.Name "sorted" p) (e::es) [] pos) (gN jW gs):=
 qo wQ (by
  intro He J H xs vs Q hp rs w
  unfold jW at w
  split at w
  ·obtain ⟨v,rfl,r⟩:=rs.one
   obtain ⟨xs,q,w⟩:=t6 w
   obtain ⟨p,vs,rfl,h1,h2⟩:=RR.list hp r q
   split at w
   ·rename_i ss z
    split at w
    ·rename_i hl
     have:=sE z h2
     subst this
     refine ⟨p,ss,rfl,by rw [hK];exact h1,hl,fun ss' hp' hs' l hl'=>?_⟩
     rw [Bc hp' hs']
     exact w _ _ _ (Ext.new hp.sub hl' _) (iz hp hl' (uL _))
    ·exact w.elim
   ·exact w.elim
  ·exact w.elim) kc hm ha hg (by decide) (by decide) he hpl
theorem foldl_size (c:Array Nat):∀(k:Nat) (acc:Array Nat),((List.replicate k c).foldl (·++·) acc).size=acc.size + k * c.size
 | 0,acc=>by simp
 | k + 1,acc=>by
  rw [List.replicate_succ,List.foldl_cons,foldl_size c k,Array.size_append,Nat.succ_mul]
  omega
def iM (x:Str) (n:Nat):Str:=⟨(List.replicate n x.cps).foldl (·++·) #[]⟩
theorem yN (x:Str) (n:Nat):(iM x n).length=n * x.length:=by
 unfold iM Str.length
 simp only
 rw [foldl_size]
 simp
theorem GQ:cY X (binaryOp .Mult) (fun x y H Q=>∃z n,x=.str z/\y=.int n/\0<=n/\n<=1000/\z.length<=1000/\Q (.str (iM z n.toNat)) H):=by
 intro pins s σ H x y v u Q I rx ry h
 obtain ⟨z,n,rfl,rfl,h0,h1,h2,q⟩:=h
 obtain ⟨t,rfl⟩:=rx
 obtain ⟨t',rfl⟩:=ry
 have hz:Builtin.Str.tooLong (z.length * n.toNat)=false:=by
  have:z.length * n.toNat<=1000 * 1000:=Nat.mul_le_mul h2 (by omega)
  unfold Builtin.Str.tooLong
  exact decide_eq_false (by have:=sizeLine_eq;omega)
 refine PySem.P.mul_str (by
  rw [decide_eq_false (by omega:¬n < -(2 ^ 63:Int)),decide_eq_false (by omega:¬n ≥ 2 ^ 63)];rfl) (fun hn _=>?_) (fun _ _=>hz) ?_
 ·have:(2 ^ 63 - 1:Int) / 1000<=(2 ^ 63 - 1) / n:=by
   refine (Int.le_ediv_iff_mul_le (by omega)).mpr ?_
   have:(2 ^ 63 - 1:Int) / 1000 * n<=(2 ^ 63 - 1:Int) / 1000 * 1000:=Int.mul_le_mul_of_nonneg_left h1 (by decide)
   exact Int.le_trans this (by decide)
  have e:(2 ^ 63 - 1:Int) / 1000=9223372036854775:=by decide
  omega
 ·split
  ·rename_i hn
   have e:n=0:=by omega
   subst e
   exact ⟨by decide,.str _,H,I.tok _,⟨_,rfl⟩,q⟩
  ·split
   ·rename_i hn hc
    have e:iM z n.toNat=z:=by
     unfold iM
     rw [Bool.or_eq_true] at hc
     rcases hc with hc | hc
     ·have e:n=1:=by simpa using hc
      subst e
      simp
     ·have e:z.length=0:=by simpa using hc
      have e2:z.cps=#[]:=by
       unfold Str.length at e
       exact Array.eq_empty_of_size_eq_zero e
      obtain ⟨cz⟩:=z
      simp only at e2
      subst e2
      congr 1
      generalize n.toNat=k
      induction k with
      | zero=>rfl
      | succ k ih=>rw [List.replicate_succ,List.foldl_cons];exact ih
    rw [e] at q
    exact ⟨.str z,H,I,⟨_,rfl⟩,q⟩
   ·exact ⟨by
     have:=yN z n.toNat
     unfold iM at this
     rw [this,Nat.mul_comm]
     have:z.length * n.toNat<=1000 * 1000:=Nat.mul_le_mul h2 (by omega)
     rw [sizeLine_eq]
     omega,.str _,H,I.tok _,⟨_,rfl⟩,q⟩
def AA:R->R->M R
 | .d (.str z),.d (.int n)=>if 0<=n/\n<=1000/\z.length<=1000 then .ok (.d (.str (iM z n.toNat))) else .bad
 | _,_=>.bad
def kL:D->String
 | .non=>"NoneType"
 | .bl _=>"bool"
 | .int _=>"int"
 | .str _=>"str"
 | .tup _=>"tuple"
 | .lst _=>"list"
 | .emp=>"dict"
 | .exn _ _ _=>"exc"
 | .dct _ _=>"dict"
def oQ (t T:String):Bool:=t == T || (t == "bool" && T == "int")
def B7:R->Bool
 | .d (.int _)=>true
 | _=>false
def IV:R->Bool
 | .d (.str _)=>true
 | _=>false
def dU (x y:R):M R:=if B7 x then DO x y else if IV x then qU x y else qV x y
theorem Hg (ha:PD X c a ga) (hb:PD X c b gb):PD X c (.BinOp a .Add b pos) (g2 dU ga gb):=by
 have h1:BD c (kH fun i j=>.int (i + j)) DO:=iA fun _ _ _=>.int _
 have q:=nj (pos:=pos) (Cg.or (rY.or Ci)) (BD.or (c:=c) (fun x _=>B7 x) h1 (BD.or (c:=c) (fun x _=>IV x) (f:=qU) (f':=qV) (by
  intro He He' J H x y u v Q hp rx ry w
  unfold qU at w
  split at w
  ·cases rx;cases ry
   split at w
   ·rename_i h;exact ⟨_,_,rfl,rfl,h,w _ J H (Ext.refl hp.sub) (.str _)⟩
   ·exact w.elim
  ·exact w.elim) (by
  intro He He' J H x y u v Q hp rx ry w
  unfold qV at w
  split at w
  ·rename_i hm
   rw [Bool.and_eq_true] at hm
   obtain ⟨p,vs,xs,e1,rfl,h1,s1⟩:=rx.made hm.1
   obtain ⟨p2,vs2,ys,e2,rfl,h2,s2⟩:=ry.made hm.2
   rw [e1,e2] at w
   simp only [aN] at w
   split at w
   ·rename_i hz
    rw [s1.length,s2.length] at hz
    exact ⟨p,p2,vs,vs2,rfl,rfl,h1,h2,hz,fun q hq=>w _ J _ (Ext.new hp.sub hq _) (iz hp hq (s1.append s2))⟩
   ·exact w.elim
  ·exact w.elim))) ha hb
 exact q
def fY (x y:R):M R:=if B7 x then IK x y else AA x y
theorem EA (ha:PD X c a ga) (hb:PD X c b gb):PD X c (.BinOp a .Mult b pos) (g2 fY ga gb):=by
 have h1:BD c (rI zW fun i j=>.int (i * j)) IK:=Al (fun i j h=>Gz h) fun _ _ _=>.int _
 exact nj (pos:=pos) (Jq.or GQ) (BD.or (c:=c) (fun x _=>B7 x) h1 (f':=AA) (by
  intro He He' J H x y u v Q hp rx ry w
  unfold AA at w
  split at w
  ·cases rx;cases ry
   split at w
   ·rename_i h;exact ⟨_,_,rfl,rfl,h.1,h.2.1,h.2.2,w _ J H (Ext.refl hp.sub) (.str _)⟩
   ·exact w.elim
  ·exact w.elim)) ha hb
def aX (x y:R):M R:=match x,y with
 | .d (.str z),.d (.int i)=>if z.length<=sizeLine then (match kQ z.cps.toList i with
  | some k=>.ok (.d (.str ⟨#[k]⟩))
  | none=>.bad) else .bad
 | x,.d (.int i)=>iO x >>= fun xs=>(match kQ xs i with
  | some d=>.ok (.d d)
  | none=>.bad)
 | _,_=>.bad
theorem Ex (ha:PD X c a ga) (hb:PD X c b gb) (hK:X.K=c.K:=by rfl) (hs:jU b:=by exact fun _ _=>rfl):PD X c (.Subscript a b pos) (g2 aX ga gb):=FF IY (by
 intro He He' J H x y u v Q hp rx ry w
 rw [hK]
 unfold aX at w
 split at w
 ·cases rx;cases ry
  split at w
  ·rename_i h
   split at w
   ·rename_i k hk;exact .inr (.inr ⟨_,_,k,rfl,rfl,h,hk,w _ J H (Ext.refl hp.sub) (.str _)⟩)
   ·exact w.elim
  ·exact w.elim
 ·cases ry
  obtain ⟨xs,q,w⟩:=j3 w
  obtain ⟨p,vs,rfl,hl,hs⟩:=lR hp rx q
  split at w
  ·rename_i d hd
   obtain ⟨z,h1,h2⟩:=HQ hs hd
   have fin:=w z J H (Ext.refl hp.sub) h2
   rcases hl with hl | hl
   ·exact .inl ⟨p,vs,_,z,rfl,rfl,hl,h1,fin⟩
   ·exact .inr (.inl ⟨p,vs,_,z,rfl,rfl,hl,h1,fin⟩)
  ·exact w.elim
 ·exact w.elim) ha hb hs
def bS (P:Program) (w:World) (K:W.Frag) (mg:Str->Option Value) (base:Heap) (k n:Nat) (x:Str) (Fm:List S->M R):Prop:=
 ∃f fd ps,jl P w K mg base nD k f fd ps (sD K n Fm)/\mg x=some (.ref f)/\W.keepIn K (.ref f)=true/\Binds K fd ps []
theorem JF {k k' n:Nat}{F:List S->M R}{x:Str}{p:Pos}{gs:G (List R)}(G:bS X.prog X.w X.K X.mg X.base k n x F) (hr:dS k' X.A) (ha:jh X c (e::es) gs) (hk:k<=k':=by decide) (hT:c.K=X.K:=by rfl) (hg:Gl X x:=by rfl) (hdb:(x == ("__debug__":Str))=false:=by decide)
  (he:starEach (e::es) X.env=(false,eval e X.env)::starEach es X.env:=by rfl) (hpl:(backTo pos (starEach es X.env)).any (·.1)=false:=by rfl):PD X c (.Call (.Name x p) (e::es) [] pos) (gN (bf n F) gs):=by
 obtain ⟨f,fd,ps,h1,h2,h3,h4⟩:=G
 exact G8 h1 (hr.mono hk) h2 h3 h4 ha hT hg hdb he hpl
theorem IB {P:Program}{w:World}{K:W.Frag}{mg:Str->Option Value}{base:Heap}{x qual:Str}{st:Stmt}{f:Addr}{fd:FuncData}{N ps:List Str}{k:Nat}{Fm:List S->M R}(F:dR K x qual st f fd) (hm:mg x=some (.ref f)) (Sc:bC N ps (ay st))
  (hbi:∀(kV doc pm:Value) (an:Option Addr) (cdv ct:Value) (us:List Value),us.length=ps.length->bindArgs (W.fnOf x qual (aO st) (aM st) (ay st) .none kV doc pm an cdv ct) ⟨us,[]⟩=pure (ps.zip us)){gB:G O}
  (hb:∀(cdv:Value) (A:Around) (outer:List Env) (s:Shared) (H:Hp) (E:XK) (J:Hp) (T:Exc->Prop),dS k (A.deeper (envOfC qual (ay st) s.heap.objs.size f cdv))->
   pL (Fq P w K mg base N qual (ay st) f cdv A outer s H E) ⟨K,H,J,T⟩ (aM st) gB)
  (hF:∀as r,as.length=ps.length->Fm as=.ok r->fin (gB (bH N as))=.ok r):bS P w K mg base (k + 1) ps.length x Fm:=
 ⟨f,fd,ps,BW F Sc hb hF,hm,F.kp,F.binds hbi⟩
def Eg:List Str->Bool
 | []=>true
 | x::r=>!(r.contains x) && Eg r
theorem dw:∀{l:List Str},Eg l=true->l.Nodup
 | [],_=>List.nodup_nil
 | x::r,h=>by
  unfold Eg at h
  rw [Bool.and_eq_true] at h
  refine List.nodup_cons.mpr ⟨fun z=>?_,dw h.2⟩
  have:=h.1
  simp [z] at this
theorem G5 {t:GT}(h:PD X c e g) (ht:gF X c tg t) (hs:swapsWithSole [tg] e pos.line X.env=pure false:=by rfl) (hw:swappedStores [tg] e X.env=pure none:=by rfl)
  (h1:(assignEach [tg] X.env).map (·.2)=[assign tg X.env]:=by rfl):iw X c (.Assign [tg] e pos) (kq t g):=GY h ht (CI h ht hs hw h1)
theorem DN {X:Cx}{pins:List (Addr×Obj)}{σ:L2.St}{H:Hp}{s:Shared}{a C:Addr}{dx:Option Addr}{ns:List Str}{vs:List V}(I:L2.Inv X pins σ H s) (h:H a=some (DX.XO a C dx)) (xf:XF H dx ns vs):∃ox od,W.InstAt s.heap a ox C od/\od.isSome=dx.isSome/\(∀d,dx=some d->∃o,od=some o/\s.heap.get? d=some o):=by
 obtain ⟨⟨oe,fs,h1,h2,h3,h4⟩,_⟩:=I.hok a _ h
 have hn:W.notCls oe=true:=by unfold W.notCls;rw [h4]
 rcases xf with ⟨rfl,_⟩ | ⟨d,rfl,_,hd⟩
 ·exact ⟨oe,none,⟨h1,h2,hn,by rw [h3];exact True.intro⟩,rfl,fun d z=>by cases z⟩
 ·obtain ⟨m,⟨o,es,ep,k1,_⟩,_⟩:=I.hok d _ hd
  exact ⟨oe,some o,⟨h1,h2,hn,by rw [h3];exact k1⟩,rfl,fun d' z=>by cases z;exact ⟨o,rfl,k1⟩⟩
def vW (T:String):Prop:=(∀(K:W.Frag) (t:String),t∈["NoneType","bool","int","str","tuple","list","dict"]->W.kitOne K (.type t) (.type T)=some (oQ t T))/\W.kitMeta T=true/\DX.yo.contains (.type T)=false/\oQ "exc" T=false
theorem zw:vW "int":=⟨fun K t h=>by
 simp only [List.mem_cons,List.not_mem_nil,or_false] at h
 rcases h with rfl | rfl | rfl | rfl | rfl | rfl | rfl <;> rfl,by decide +kernel,by decide,by decide⟩
theorem xu:vW "bool":=⟨fun K t h=>by
 simp only [List.mem_cons,List.not_mem_nil,or_false] at h
 rcases h with rfl | rfl | rfl | rfl | rfl | rfl | rfl <;> rfl,by decide +kernel,by decide,by decide⟩
theorem kit_tuple:vW "tuple":=⟨fun K t h=>by
 simp only [List.mem_cons,List.not_mem_nil,or_false] at h
 rcases h with rfl | rfl | rfl | rfl | rfl | rfl | rfl <;> rfl,by decide +kernel,by decide,by decide⟩
theorem D0:vW "list":=⟨fun K t h=>by
 simp only [List.mem_cons,List.not_mem_nil,or_false] at h
 rcases h with rfl | rfl | rfl | rfl | rfl | rfl | rfl <;> rfl,by decide +kernel,by decide,by decide⟩
theorem yG {T:String}(kit:vW T):
  bQ X (.builtin "isinstance") (fun xs H Q=>∃d x,xs=[x,.ty T]/\Rep X.K H d x/\Q (.bl (oQ (kL d) T)) H):=by
 intro pins s σ H xs us Q I r h
 obtain ⟨d,x,rfl,hd,q⟩:=h
 obtain ⟨u,w',rfl,rx,ry⟩:=vals2 r
 cases ry
 have fin:∀tk,EP X pins σ Q (.bool (oQ (kL d) T)) {s with toks:=tk}:=fun tk=>⟨.bl _,H,I.tok tk,rfl,q⟩
 have F:=gW I
 cases hd with
 | non=>cases rx;exact W.kia_one W.kitx_none I.kIn True.intro (kit.1 X.K _ (by simp [kL])) (fun z=>nomatch z) fin
 | bl y=>cases rx;exact W.kia_one W.kitx_bool I.kIn True.intro (kit.1 X.K _ (by simp [kL])) (fun z=>nomatch z) fin
 | int i=>obtain ⟨t,rfl⟩:=rx;exact W.kia_one W.kitx_int I.kIn True.intro (kit.1 X.K _ (by simp [kL])) (fun z=>nomatch z) fin
 | str y=>obtain ⟨t,rfl⟩:=rx;exact W.kia_one W.kitx_str I.kIn True.intro (kit.1 X.K _ (by simp [kL])) (fun z=>nomatch z) fin
 | tup h hs=>
  cases rx
  obtain ⟨its,r,o,h1,h2,_⟩:=F.t _ _ h
  exact W.kia_one W.kitx_tuple I.kIn ⟨o,h1,h2⟩ (kit.1 X.K _ (by simp [kL])) (fun z=>nomatch z) fin
 | lst h hs=>
  cases rx
  obtain ⟨its,r,o,h1,h2,_⟩:=F.l _ _ h
  exact W.kia_one W.kitx_list I.kIn ⟨o,h1,h2⟩ (kit.1 X.K _ (by simp [kL])) (fun z=>nomatch z) fin
 | emp h=>
  cases rx
  obtain ⟨o,h1,h2⟩:=F.e _ h
  exact W.kia_one W.kitx_dict I.kIn ⟨o,h1,h2⟩ (kit.1 X.K _ (by simp [kL])) (fun z=>nomatch z) fin
 | dct h _ _ _ _=>
  cases rx
  obtain ⟨o,es,ep,h1,h2,_⟩:=F.d _ _ h
  exact W.kia_one W.kitx_dict I.kIn ⟨o,h1,h2.1⟩ (kit.1 X.K _ (by simp [kL])) (fun z=>nomatch z) fin
 | exn h1 h2 h3 hs hx=>
  cases rx
  obtain ⟨P,G,E⟩:=hx
  obtain ⟨ox,od,J,_⟩:=DN I h1 h3
  simp only [kL,kit.2.2.2] at fin
  exact W.kia_one (DX.D3 G E) I.kIn ⟨ox,od,J⟩ (DX.Jf E kit.2.1 kit.2.2.1) (fun z=>nomatch z) fin
def rC (T:String) (g:G R):G R:=fun env=>g env >>= fun r=>.ok (.d (.bl (oQ (kL r.dat) T)))
theorem Cv {T:String}{Ts:Str}{p p2:Pos}(kit:vW T) (hT:bootBuiltins Ts=some (.type T)) (mT:X.mg Ts=none)
  (h:PD X c a g) (hm:X.mg "isinstance"=none) (hK:X.K=c.K:=by rfl) (hg:Gl X "isinstance":=by rfl) (Og:Gl X Ts:=by rfl) (hn:Ts≠"__name__":=by decide) (Oc:(Ts == ("__debug__":Str))=false:=by decide)
  (he:starEach [a,.Name Ts p2] X.env=(false,eval a X.env)::starEach [.Name Ts p2] X.env:=by rfl) (NQ:starEach [.Name Ts p2] X.env=(false,eval (.Name Ts p2) X.env)::starEach [] X.env:=by rfl)
  (hpl:(backTo pos (starEach [.Name Ts p2] X.env)).any (·.1)=false:=by rfl):PD X c (.Call (.Name "isinstance" p) [a,.Name Ts p2] [] pos) (rC T g):=
 gA (qp (yG kit) hg hm (by decide +kernel) (gm h (gm (Hj Og mT hT (v:=.ty T) rfl hn Oc) jd NQ) he) (by decide) (by decide) he hpl) fun σ H Q ⟨J,env,sr,w⟩=>by
  refine ⟨J,env,sr,aC (aK w) fun r wr v J1 H1 e1 r1=>?_⟩
  exact ⟨r.dat,v,rfl,by rw [hK];exact r1.dat (sr.hp.ext e1),wr _ J1 H1 e1 (.bl _)⟩
def Nh (neg:Bool):R->R->M R
 | .d (.str i),.d (.str j)=>.ok (.d (.bl (if neg then !(!(Builtin.Str.occurrences j i 0 j.length 1).isEmpty) else !(Builtin.Str.occurrences j i 0 j.length 1).isEmpty)))
 | _,_=>.bad
def zm (p q:Int->Int->Bool) (ga gb gc:G R):G R:=fun env=>ga env >>= fun x=>gb env >>= fun y=>match x,y with
 | .d (.int i),.d (.int j)=>if p i j then (gc env >>= fun z=>match z with
  | .d (.int k)=>.ok (.d (.bl (q j k)))
  | _=>.bad) else .ok (.d (.bl false))
 | _,_=>.bad
theorem G9 {d:D}{v:V}{x:Str}{u:Value}(hm:X.mg x=some u) (r:RelV v u) (hr:∀J,Rep c.K J d v) (hg:Gl X x:=by rfl) (hd:(x == ("__debug__":Str))=false:=by decide):PD X c (.Name x pos) (gC d):=vP hr (Hq hg hm r hd)
theorem BF {pins:List (Addr×Obj)}{σ:L2.St}{H:Hp}{s:Shared}(I:Inv X pins σ H s):sysModules < s.heap.objs.size:=by
 have h:mainGlobals < s.heap.objs.size:=(I.mod.glob.keeps I.bk).lt
 exact Nat.lt_trans (by decide) h
theorem Cj:cY X (binaryOp .Add) (fun x y H Q=>∃a b xs ys,x=.ref a/\y=.ref b/\cQ X.K H a xs/\cQ X.K H b ys/\xs.length + ys.length<=sizeLine/\
  (xs=[]->Q (.ref b) H)/\(ys=[]->Q (.ref a) H)/\∀p,H p=none->Q (.ref p) (upd H p (.tup (xs++ys)))):=by
 intro pins s σ H x y v u Q I rx ry h
 obtain ⟨a,b,xs,ys,rfl,rfl,ha,hb,hz,q0,q1,q2⟩:=h
 by_cases hx:xs=[]
 ·cases rx
  cases ry
  obtain ⟨its,r1,p1,_⟩:=I.tuple ha
  obtain ⟨its2,r2,p2,_⟩:=I.tuple hb
  have he:its=[]:=r1.nil_iff.mpr hx
  subst he
  obtain ⟨⟨cls,dd,data,sl⟩,ho,hc,n,hd⟩:=id p1
  obtain ⟨⟨cls2,dd2,data2,sl2⟩,ho2,hc2,n2,hd2⟩:=id p2
  simp only at hc hd hc2 hd2
  subst hc hd hc2 hd2
  exact concat_meets ⟨_,ho,rfl⟩ ⟨_,ho2,rfl⟩ noFill_tuple_add seq_tuple_add PySem.F.slot_tuple_add PySem.F.entry_tuple_add (PySem.F.args_tuple_add_2 _ _) (tuple_addW0 a b _ _ n n2 dd dd2 sl sl2 rfl) ⟨ho,ho2,⟨.ref b,H,I,rfl,q0 hx⟩⟩
 ·exact GN pins s σ H (.ref a) (.ref b) v u Q I rx ry ⟨a,b,xs,ys,rfl,rfl,ha,hb,hx,hz,q1,fun _=>q2⟩
def Ay:R->R->M R
 | .d (.tup xs),.d (.tup ys)=>if xs.length + ys.length<=sizeLine then .ok (.d (.tup (xs++ys))) else .bad
 | _,_=>.bad
theorem Gf (hK:X.K=c.K):BD c (fun x y H Q=>∃a b xs ys,x=.ref a/\y=.ref b/\cQ X.K H a xs/\cQ X.K H b ys/\xs.length + ys.length<=sizeLine/\
  (xs=[]->Q (.ref b) H)/\(ys=[]->Q (.ref a) H)/\∀p,H p=none->Q (.ref p) (upd H p (.tup (xs++ys)))) Ay:=by
 intro He He' J H x y u v Q hp rx ry w
 unfold Ay at w
 split at w
 ·rename_i ds es
  cases rx with
  | tup h1 s1=>
   cases ry with
   | tup h2 s2=>
    split at w
    ·rename_i hz
     rw [s1.length,s2.length] at hz
     refine ⟨_,_,_,_,rfl,rfl,by rw [hK];exact fj hp.sub h1,by rw [hK];exact fj hp.sub h2,hz,fun e=>?_,fun e=>?_,fun p hp'=>w _ _ _ (Ext.newJ hp.sub hp' _) (oH hp hp' (s1.append s2))⟩
     ·have e':ds=[]:=List.eq_nil_of_length_eq_zero (by rw [s1.length,e];rfl)
      subst e'
      exact w _ J H (Ext.refl hp.sub) (.tup h2 s2)
     ·have e':es=[]:=List.eq_nil_of_length_eq_zero (by rw [s2.length,e];rfl)
      subst e'
      rw [List.append_nil] at w
      exact w _ J H (Ext.refl hp.sub) (.tup h1 s1)
    ·exact w.elim
 ·exact w.elim
def IW:R->Bool
 | .d (.tup _)=>true
 | _=>false
def dI (x y:R):M R:=if IW x then Ay x y else dU x y
theorem G6 (ha:PD X c a ga) (hb:PD X c b gb) (hK:X.K=c.K:=by rfl):PD X c (.BinOp a .Add b pos) (g2 dI ga gb):=by
 have h1:BD c (kH fun i j=>.int (i + j)) DO:=iA fun _ _ _=>.int _
 exact nj (pos:=pos) (Cj.or (Cg.or (rY.or Ci))) (BD.or (c:=c) (fun x _=>IW x) (Gf hK) (BD.or (c:=c) (fun x _=>B7 x) h1 (BD.or (c:=c) (fun x _=>IV x) (f:=qU) (f':=qV) (by
  intro He He' J H x y u v Q hp rx ry w
  unfold qU at w
  split at w
  ·cases rx;cases ry
   split at w
   ·rename_i h;exact ⟨_,_,rfl,rfl,h,w _ J H (Ext.refl hp.sub) (.str _)⟩
   ·exact w.elim
  ·exact w.elim) (by
  intro He He' J H x y u v Q hp rx ry w
  unfold qV at w
  split at w
  ·rename_i hm
   rw [Bool.and_eq_true] at hm
   obtain ⟨p,vs,xs,e1,rfl,h1,s1⟩:=rx.made hm.1
   obtain ⟨p2,vs2,ys,e2,rfl,h2,s2⟩:=ry.made hm.2
   rw [e1,e2] at w
   simp only [aN] at w
   split at w
   ·rename_i hz
    rw [s1.length,s2.length] at hz
    exact ⟨p,p2,vs,vs2,rfl,rfl,h1,h2,hz,fun q hq=>w _ J _ (Ext.new hp.sub hq _) (iz hp hq (s1.append s2))⟩
   ·exact w.elim
  ·exact w.elim)))) ha hb
def intsOf:List D->Option (List Int)
 | []=>some []
 | .int i::r=>(intsOf r).map (i::·)
 | _::_=>none
theorem m_ {K:W.Frag}{J:Hp}:∀{ds:List D}{vs:List V}{ns:List Int},intsOf ds=some ns->aF K J ds vs->vs=ns.map V.int
 | [],_,_,h,.nil=>by cases h;rfl
 | .int x::r,_,ks,h,.cons q rs=>by
  unfold intsOf at h
  cases z:intsOf r with
  | none=>rw [z] at h;cases h
  | some ks'=>
   rw [z] at h
   cases h
   cases q
   rw [m_ z rs]
   rfl
def signs (x:Str):List D:=x.cps.toList.map fun k=>.str ⟨#[k]⟩
def Ni (g:G R):G (List D):=fun env=>g env >>= fun r=>match r with
 | .d (.str x)=>.ok (signs x)
 | _=>.bad
theorem yT {prog:Program}{w:World}{A:Around}{E:Value->Shared->Prop}{s:Shared}{t sl:Addr}{items:Array Value}{vl vu:Value}{lo hi:Option Int}{Q:Value->Shared->Prop}(ht:IsTup s.heap t items) (hs:s.heap.IsSliceOf sl vl vu .none) (pl:IsPart vl lo) (pu:IsPart vu hi)
  (hw:HT.bE items.size 0 lo=0/\HT.bE items.size items.size hi=items.size) (h:Q (.ref t) s):wpAny (model prog w) A (getItem (.ref t) (.ref sl)) Q E s:=by
 obtain ⟨os,hos,hcs,hds⟩:=id hs
 have N9:s.TypeIs (.ref sl) "slice":=⟨os,hos,hcs⟩
 unfold getItem
 try with_reducible refine wpAny_holding ?_
 first | refine wpAny_bind (wpAny_pure ?_) | skip
 refine wpAny_bind (wpAny_sequenceKey ht.typeIs (by decide) ?_)
 refine wpAny_bind (wpAny_callSpecial?_slot (name:=Str.ofString "__getitem__") ht.typeIs PyProof.Rows.slot_tuple_getitem
  (wpAny_call_entry PyProof.Rows.slot_tuple_getitem ht.typeIs entry_tuple_getitem ?_ (args_tuple_getitem _ _)))
 show wpAny _ _ (Builtin.Tuple.tupleItemsOf (.ref t) >>= _) _ _ s
 refine wpAny_bind (tupleItemsOf_ ht ?_)
 refine wpAny_bind (wpAny_typeOf N9 ?_)
 rw [if_pos (by decide)]
 refine wpAny_bind (HT.kJ hs pl pu ?_)
 have hyes:(((HT.bE items.size 0 lo:Nat):Int) == 0 && (1:Int) == 1 && (HT.bE items.size items.size hi - HT.bE items.size 0 lo) == items.size)=true:=by
  rw [hw.1,hw.2]
  simp
 show wpAny _ _ (if (((HT.bE items.size 0 lo:Nat):Int) == 0 && (1:Int) == 1 && (HT.bE items.size items.size hi - HT.bE items.size 0 lo) == items.size)=true then _ else _) _ _ s
 rw [if_pos hyes]
 unfold Builtin.Tuple.tupleIsExact
 refine wpAny_bind (wpAny_bind (wpAny_typeOf ht.typeIs (wpAny_pure ?_)))
 rw [if_pos (by decide)]
 exact wpAny_bind (wpAny_rule (wpAny_pure ⟨_,rfl,wpAny_pure h⟩))
theorem CW:qJ X (fun x lo hi H Q=>∃a xs,x=.ref a/\cQ X.K H a xs/\((HT.bE xs.length 0 lo=0/\HT.bE xs.length xs.length hi=xs.length)->Q (.ref a) H)/\∀p,H p=none->Q (.ref p) (upd H p (.tup (lH xs lo hi)))):=by
 intro pins s σ H x v vl vu lo hi sl Q I rx hs pl pu h
 obtain ⟨a,xs,rfl,hx,q0,q1⟩:=h
 by_cases hw:HT.bE xs.length 0 lo=0/\HT.bE xs.length xs.length hi=xs.length
 ·cases rx
  obtain ⟨its,r,ht,hz⟩:=I.tuple hx
  have hlen:its.toArray.size=xs.length:=by rw [List.size_toArray];exact r.length.symm
  exact ⟨"tuple",_,PyProof.Rows.slot_tuple_getitem.lookup,ht.typeIs,yT ht hs pl pu (by rw [hlen];exact hw) ⟨.ref a,H,I,rfl,q0 hw⟩⟩
 ·exact KN pins s σ H (.ref a) v vl vu lo hi sl Q I rx hs pl pu ⟨a,xs,rfl,hx,hw,q1⟩
theorem Av {xs:List D}{lo hi:Option Int}(h:HT.bE xs.length 0 lo=0/\HT.bE xs.length xs.length hi=xs.length):cutD xs lo hi=xs:=by
 unfold cutD
 rw [h.1,h.2]
 simp
def DQ:R->Option Int->Option Int->M R
 | .d (.tup xs),l,u=>.ok (.d (.tup (cutD xs l u)))
 | _,_,_=>.bad
theorem MR (hK:X.K=c.K) (He J H:Hp) (x:R) (v:V) (l u:Option Int) (Q:VK) (hp:HI c J H) (rx:RR c He J H x v) (w:cL (DQ x l u) (fun z=>∀w J' H',Ext J H J' H'->RR c H J' H' z w->Q w H') c.T):
  ∃a xs,v=.ref a/\cQ X.K H a xs/\((HT.bE xs.length 0 l=0/\HT.bE xs.length xs.length u=xs.length)->Q (.ref a) H)/\∀p,H p=none->Q (.ref p) (upd H p (.tup (lH xs l u))):=by
 unfold DQ at w
 split at w
 ·rename_i ds
  cases rx with
  | tup h1 s1=>
   refine ⟨_,_,rfl,by rw [hK];exact fj hp.sub h1,fun hw=>?_,fun p hp'=>w _ _ _ (Ext.newJ hp.sub hp' _) (oH hp hp' (s1.cut _ _))⟩
   rw [<-s1.length] at hw
   rw [Av hw] at w
   exact w _ J H (Ext.refl hp.sub) (.tup h1 s1)
 ·exact w.elim
def qe (x:R) (l u:Option Int):M R:=if IW x then DQ x l u else Ms x l u
theorem JP {lo hi:Option Expr}{gl gh:GO}{p2:Pos}(h:PD X c e g) (hl:wg X c lo gl) (hh:wg X c hi gh) (hK:X.K=c.K:=by rfl):PD X c (.Subscript e (.Slice lo hi none p2) pos) (xg qe g gl gh):=LB (CW.or HU) (by
 intro He J H x v l u Q hp rx w
 unfold qe at w
 split at w
 ·exact .inl (MR hK He J H x v l u Q hp rx w)
 ·obtain ⟨xs,q,w⟩:=t6 w
  obtain ⟨p,vs,rfl,h1,h2⟩:=rx.list hp q
  exact .inr ⟨p,vs,rfl,by rw [hK];exact h1,fun p' hp'=>w _ _ _ (Ext.new hp.sub hp' _) (iz hp hp' (h2.cut l u))⟩) h hl hh
end
structure jk (prog:Program) (w:World) (it src:Addr) (vals:Array Value) (St:Nat->Heap->Prop):Prop where
 keep:∀(k:Nat) (h h':Heap),St k h->(∀o,h.get? it=some o->h'.get? it=some o)->(∀o,h.get? src=some o->h'.get? src=some o)->St k h'
 there:∀(k:Nat) (h:Heap),St k h->∃o,h.get? it=some o/\∀v,o.data≠.cell v
 item:∀(A:Around) (s:Shared) (k:Nat) (x:Value) (Q:Value->Shared->Prop) (E:Value->Shared->Prop),St k s.heap->vals[k]?=some x->(∀h',St (k + 1) h'->Heap.SameBut it s.heap h'->Q x {s with heap:=h'})->
  wpAny (model prog w) A (Builtin.SmallTypes.nextOf (.ref it)) Q E s
 fin:∀(A:Around) (s:Shared) (k:Nat) (Q:Value->Shared->Prop) (E:Value->Shared->Prop),A.handled=none->St k s.heap->vals[k]?=none->
  (∀h' e,Heap.ExtBut it s.heap h'->(∃o,h'.get? e=some o/\o.cls=.type "StopIteration")->E (.ref e) {s with heap:=h'})->wpAny (model prog w) A (Builtin.SmallTypes.nextOf (.ref it)) Q E s
theorem kU (prog:Program) (w:World) (it l:Addr) (vals:Array Value) (hne:l≠it):jk prog w it l vals (fun k h=>h.IsListIter it l k/\h.IsList l vals) where
 keep:=fun k h h' st k1 k2=>⟨st.1.at fun o e=>k1 o e,st.2.at fun o e=>k2 o e⟩
 there:=fun k h st=>by
  obtain ⟨⟨o,e,_,d⟩,_⟩:=st
  exact ⟨o,e,fun v z=>by rw [d] at z;cases z⟩
 item:=fun A s k x Q E st hx hQ=>wpAny_nextOf_list_item st.1 st.2 hx fun h' a1 a2=>hQ h' ⟨a1,st.2.extBut a2.extBut hne⟩ a2
 fin:=fun A s k Q E hh st hx hE=>wpAny_nextOf_list_end hh st.1 st.2 hx hE
theorem next_tuple_item {prog:Program}{w:World}{A:Around}{E:Value->Shared->Prop}{s:Shared}{it t:Addr}{k:Nat}{vals:Array Value}{x:Value}{Q:Value->Shared->Prop}(hit:s.heap.IsTupleIter it t k) (ht:s.heap.IsTuple t vals) (hx:vals[k]?=some x)
  (hQ:∀h',h'.IsTupleIter it t (k + 1)->Heap.SameBut it s.heap h'->Q x {s with heap:=h'}):wpAny (model prog w) A (Builtin.SmallTypes.nextOf (.ref it)) Q E s:=by
 obtain ⟨oi,NO,OL,hdi⟩:=id hit
 obtain ⟨ot,Ov,_,nt,hdt⟩:=ht
 unfold Builtin.SmallTypes.nextOf
 refine wpAny_bind (wpAny_callSpecial?_slot (name:=Str.ofString "__next__") hit.typeIs F.slot_tuple_iterator_next (wpAny_call_entry F.slot_tuple_iterator_next hit.typeIs F.entry_tuple_iterator_next ?_ (F.args_tuple_iterator_next_1 _)))
 show wpAny _ _ (field (.ref it) 0 >>= _) _ _ s
 refine wpAny_bind (wpAny_field NO hdi (x:=.ref t) rfl ?_)
 show wpAny _ _ (if (Value.ref t == Value.none)=true then _ else _) _ _ s
 rw [if_neg (show ¬(Value.ref t == Value.none)=true from fun z=>Bool.false_ne_true z)]
 show wpAny _ _ (field (.ref it) 1 >>= _) _ _ s
 refine wpAny_bind (wpAny_field NO hdi (x:=.int k 0) rfl ?_)
 show wpAny _ _ (seqItems? (.ref t) >>= _) _ _ s
 refine wpAny_bind (wpAny_seqItems Ov hdt ?_)
 simp only [Int.toNat_natCast,hx]
 refine wpAny_bind (wpAny_setField NO hdi (by simp) (wpAny_pure ⟨x,rfl,wpAny_pure (hQ _ ?_ (Heap.SameBut.update ..))⟩))
 exact ⟨_,Heap.get?_update_self _ NO (Obj.isFreed_of_fields (Obj.data_mapFields hdi _)),(Obj.cls_mapFields ..).trans OL,by rw [Obj.data_mapFields hdi] <;> simp [rawInt]⟩
theorem next_tuple_end {prog:Program}{w:World}{A:Around}{E:Value->Shared->Prop}{s:Shared}{it t:Addr}{k:Nat}{vals:Array Value}{Q:Value->Shared->Prop}(hh:A.handled=none) (hit:s.heap.IsTupleIter it t k) (ht:s.heap.IsTuple t vals) (hx:vals[k]?=none)
  (hE:∀h' e,Heap.ExtBut it s.heap h'->(∃o,h'.get? e=some o/\o.cls=.type "StopIteration")->E (.ref e) {s with heap:=h'}):wpAny (model prog w) A (Builtin.SmallTypes.nextOf (.ref it)) Q E s:=by
 obtain ⟨oi,NO,OL,hdi⟩:=id hit
 obtain ⟨ot,Ov,_,nt,hdt⟩:=ht
 unfold Builtin.SmallTypes.nextOf
 refine wpAny_bind (wpAny_callSpecial?_slot (name:=Str.ofString "__next__") hit.typeIs F.slot_tuple_iterator_next (wpAny_call_entry F.slot_tuple_iterator_next hit.typeIs F.entry_tuple_iterator_next ?_ (F.args_tuple_iterator_next_1 _)))
 show wpAny _ _ (field (.ref it) 0 >>= _) _ _ s
 refine wpAny_bind (wpAny_field NO hdi (x:=.ref t) rfl ?_)
 show wpAny _ _ (if (Value.ref t == Value.none)=true then _ else _) _ _ s
 rw [if_neg (show ¬(Value.ref t == Value.none)=true from fun z=>Bool.false_ne_true z)]
 show wpAny _ _ (field (.ref it) 1 >>= _) _ _ s
 refine wpAny_bind (wpAny_field NO hdi (x:=.int k 0) rfl ?_)
 show wpAny _ _ (seqItems? (.ref t) >>= _) _ _ s
 refine wpAny_bind (wpAny_seqItems Ov hdt ?_)
 simp only [Int.toNat_natCast,hx]
 refine wpAny_bind (wpAny_rule (wpAny_bind (wpAny_setField NO hdi (by simp) ?_)))
 show wpAny _ _ (newExc (.type "StopIteration") [] >>= _) _ _ _
 refine wpAny_bind ?_
 simp only [newExc,newTuple]
 refine wpAny_bind (wpAny_newObj_type ?_ (by size_fits))
 refine wpAny_bind (m:=firstArgMember _ _) (wpAny_of_eq (a:=Value.none) (by first | rfl | (simp only [firstArgMember];rfl)) ?_)
 refine wpAny_newObj_type ?_ (by size_fits)
 simp only [raiseNew]
 refine wpAny_bind (wpAny_handled ?_)
 first | rw [show A.in1.handled=none from hh] | rw [hh]
 refine wpAny_bind (wpAny_pure (wpAny_throw ?_))
 exact hE _ _ (((Heap.SameBut.update ..).extBut.push _).push _) ⟨_,Heap.get?_push_size _ rfl,rfl⟩
theorem jP (prog:Program) (w:World) (it t:Addr) (vals:Array Value) (hne:t≠it):jk prog w it t vals (fun k h=>h.IsTupleIter it t k/\h.IsTuple t vals) where
 keep:=fun k h h' st k1 k2=>by
  obtain ⟨⟨o,e,r⟩,⟨o2,e2,r2⟩⟩:=st
  exact ⟨⟨o,k1 o e,r⟩,⟨o2,k2 o2 e2,r2⟩⟩
 there:=fun k h st=>by
  obtain ⟨⟨o,e,_,d⟩,_⟩:=st
  exact ⟨o,e,fun v z=>by rw [d] at z;cases z⟩
 item:=fun A s k x Q E st hx hQ=>next_tuple_item st.1 st.2 hx fun h' a1 a2=>hQ h' ⟨a1,st.2.extBut a2.extBut hne⟩ a2
 fin:=fun A s k Q E hh st hx hE=>next_tuple_end hh st.1 st.2 hx hE
section
variable {prog:Program}{w:World}{A:Around}{E:Value->Shared->Prop}{s:Shared}
theorem yU {z TI TO i1 i2 l1 l2:Addr}{k:Nat}{xs ys:Array Value}{x y a b:Value}{S1 S2:Nat->Heap->Prop}{Q:Value->Shared->Prop}(N1:jk prog w i1 l1 xs S1) (N2:jk prog w i2 l2 ys S2) (D:ZipApart z TI TO i1 i2 l1 l2)
  (hz:IsZip s.heap z TI TO .none) (hTI:IsPair s.heap TI (.ref i1) (.ref i2)) (hTO:IsPair s.heap TO a b) (st1:S1 k s.heap) (st2:S2 k s.heap) (hx:xs[k]?=some x) (hy:ys[k]?=some y)
  (hQ:∀h',IsZip h' z TI TO (rawInt s.heap.objs.size)->IsPair h' TO x y->S1 (k + 1) h'->S2 (k + 1) h'->IsPair h' s.heap.objs.size x y->h'.objs.size=s.heap.objs.size + 1->
   (∀q o,q≠z->q≠TO->q≠i1->q≠i2->s.heap.get? q=some o->h'.get? q=some o)->Q (.ref s.heap.objs.size) {s with heap:=h'}):
  wpAny (model prog w) A (Builtin.«zip.__next__» ⟨[.ref z],[]⟩) (fun fin s'=>∃v,fin=.done (.ret v)/\Q v s') E s:=by
 have move:∀{S:Nat->Heap->Prop}{it src q:Addr}{vals:Array Value}{m:Nat}{h h':Heap},jk prog w it src vals S->S m h->Heap.SameBut q h h'->it≠q->src≠q->S m h':=fun N st sb n1 n2=>N.keep _ _ _ st (fun o e=>sb.extBut _ _ n1 e) fun o e=>sb.extBut _ _ n2 e
 show wpAny _ _ (field (.ref z) 2 >>= _) _ _ _
 refine wpAny_bind (wpAny_field hz rfl (x:=.bool false) rfl ?_)
 show wpAny _ _ (field (.ref z) 3 >>= _) _ _ _
 refine wpAny_bind (wpAny_field hz rfl (x:=.ref TI) rfl ?_)
 refine wpAny_bind (wpAny_seqItems hTI rfl ?_)
 show wpAny _ _ (Builtin.SmallTypes.ownedTupleIsFree (.ref z) >>= _) _ _ _
 refine wpAny_bind ?_
 unfold Builtin.SmallTypes.ownedTupleIsFree
 refine wpAny_bind (wpAny_field hz rfl (x:=.none) rfl (wpAny_pure ?_))
 simp only [if_true]
 refine wpAny_bind (wpAny_rule ?_)
 refine wpAny_bind (wpAny_field hz rfl (x:=.ref TO) rfl ?_)
 refine wpAny_bind (wpAny_setField_rec hz (by simp) fun g1 z1 b1=>?_)
 replace z1:IsZip g1 z TI TO .ellipsis:=z1
 refine wpAny_bind ?_
 simp only [List.zipIdx_cons,List.zipIdx_nil,List.forIn_cons,List.forIn_nil]
 refine wpAny_bind (wpAny_bind (wpAny_onRaise ?_))
 show wpAny _ _ (Builtin.SmallTypes.nextOf (.ref i1) >>= _) _ _ _
 refine wpAny_bind (N1.item _ _ k x _ _ (move N1 st1 b1 D.i1z D.l1z) hx fun g2 p1 b2=>wpAny_pure ?_)
 have o2:IsPair g2 TO a b:=b2.extBut _ _ D.TOi1 (b1.extBut _ _ D.TOz hTO)
 refine wpAny_bind (wpAny_seqItems o2 rfl ?_)
 refine wpAny_bind (wpAny_updateSeq_pair o2 fun g3 o3 b3=>?_)
 replace o3:IsPair g3 TO x b:=o3
 refine wpAny_bind (wpAny_letGo (wpAny_pure ?_))
 refine wpAny_bind (wpAny_bind (wpAny_onRaise ?_))
 show wpAny _ _ (Builtin.SmallTypes.nextOf (.ref i2) >>= _) _ _ _
 have q2:=move N2 (move N2 (move N2 st2 b1 D.i2z D.l2z) b2 D.i12.symm D.l2i1) b3 D.TOi2.symm D.l2TO
 refine wpAny_bind (N2.item _ _ k y _ _ q2 hy fun g4 p2 b4=>wpAny_pure ?_)
 have o4:IsPair g4 TO x b:=b4.extBut _ _ D.TOi2 o3
 refine wpAny_bind (wpAny_seqItems o4 rfl ?_)
 refine wpAny_bind (wpAny_updateSeq_pair o4 fun g5 o5 b5=>?_)
 replace o5:IsPair g5 TO x y:=o5
 refine wpAny_bind (wpAny_letGo (wpAny_pure (wpAny_pure ?_)))
 refine wpAny_bind (wpAny_seqItems o5 rfl ?_)
 refine wpAny_bind (wpAny_newTuple ?_)
 have sz5:g5.objs.size=s.heap.objs.size:=by rw [b5.1,b4.1,b3.1,b2.1,b1.1]
 have z5:IsZip g5 z TI TO .ellipsis:=b5.extBut _ _ D.TOz.symm (b4.extBut _ _ D.i2z.symm (b3.extBut _ _ D.TOz.symm (b2.extBut _ _ D.i1z.symm z1)))
 have k5:∀q o,q≠z->q≠TO->q≠i1->q≠i2->s.heap.get? q=some o->g5.get? q=some o:=fun q o c1 c2 c3 c4 e=>b5.extBut _ _ c2 (b4.extBut _ _ c4 (b3.extBut _ _ c2 (b2.extBut _ _ c3 (b1.extBut _ _ c1 e))))
 have p15:S1 (k + 1) g5:=move N1 (move N1 (move N1 p1 b3 D.TOi1.symm D.l1TO) b4 D.i12 D.l1i2) b5 D.TOi1.symm D.l1TO
 have p25:S2 (k + 1) g5:=move N2 p2 b5 D.TOi2.symm D.l2TO
 have zlt:z < g5.objs.size:=Heap.lt_size z5
 show wpAny _ _ (Builtin.SmallTypes.ownedTupleHandOut (.ref z) (.ref g5.objs.size) >>= _) _ _ _
 refine wpAny_bind ?_
 unfold Builtin.SmallTypes.ownedTupleHandOut
 have z6:IsZip (g5.push {cls:=.type "tuple",data:=.seq #[x,y]}) z TI TO .ellipsis:=Heap.get?_push_of_some _ z5
 refine wpAny_bind (wpAny_setField_rec z6 (by simp) fun g7 z7 b7=>?_)
 replace z7:IsZip g7 z TI TO (rawInt g5.objs.size):=z7
 refine wpAny_setField_rec z7 (by simp) fun g8 z8 b8=>?_
 replace z8:IsZip g8 z TI TO (rawInt g5.objs.size):=z8
 have up:∀q o,q≠z->g5.get? q=some o->g8.get? q=some o:=fun q o c1 e=>b8.extBut _ _ c1 (b7.extBut _ _ c1 (Heap.get?_push_of_some _ e))
 have t8:IsPair g8 g5.objs.size x y:=b8.extBut _ _ (Nat.ne_of_gt zlt) (b7.extBut _ _ (Nat.ne_of_gt zlt) (Heap.get?_push_size _ rfl))
 have sz8:g8.objs.size=g5.objs.size + 1:=by rw [b8.1,b7.1,Heap.size_push]
 rw [sz5] at z8 t8 sz8
 refine wpAny_pure ⟨_,rfl,?_⟩
 show Q (.ref g5.objs.size) _
 rw [sz5]
 exact hQ g8 z8 (up _ _ D.TOz o5) (N1.keep _ _ _ p15 (fun o e=>up _ o D.i1z e) fun o e=>up _ o D.l1z e) (N2.keep _ _ _ p25 (fun o e=>up _ o D.i2z e) fun o e=>up _ o D.l2z e) t8 sz8 fun q o c1 c2 c3 c4 e=>up q o c1 (k5 q o c1 c2 c3 c4 e)
theorem Bl {z TI TO i1 i2 l1 l2:Addr}{k:Nat}{xs ys:Array Value}{a b:Value}{S1 S2:Nat->Heap->Prop}{Q:Fin->Shared->Prop}(hh:A.handled=none) (N1:jk prog w i1 l1 xs S1) (N2:jk prog w i2 l2 ys S2) (D:ZipApart z TI TO i1 i2 l1 l2)
  (hz:IsZip s.heap z TI TO .none) (hTI:IsPair s.heap TI (.ref i1) (.ref i2)) (hTO:IsPair s.heap TO a b) (st1:S1 k s.heap) (st2:S2 k s.heap) (hend:xs[k]?=none\/ys[k]?=none)
  (hE:∀h' e,(∀q o,q≠z->q≠TO->q≠i1->q≠i2->s.heap.get? q=some o->h'.get? q=some o)->(∃o,h'.get? e=some o/\o.cls=.type "StopIteration")->E (.ref e) {s with heap:=h'}):
  wpAny (model prog w) A (Builtin.«zip.__next__» ⟨[.ref z],[]⟩) Q E s:=by
 have move:∀{S:Nat->Heap->Prop}{it src q:Addr}{vals:Array Value}{m:Nat}{h h':Heap},jk prog w it src vals S->S m h->Heap.SameBut q h h'->it≠q->src≠q->S m h':=fun N st sb n1 n2=>N.keep _ _ _ st (fun o e=>sb.extBut _ _ n1 e) fun o e=>sb.extBut _ _ n2 e
 show wpAny _ _ (field (.ref z) 2 >>= _) _ _ _
 refine wpAny_bind (wpAny_field hz rfl (x:=.bool false) rfl ?_)
 show wpAny _ _ (field (.ref z) 3 >>= _) _ _ _
 refine wpAny_bind (wpAny_field hz rfl (x:=.ref TI) rfl ?_)
 refine wpAny_bind (wpAny_seqItems hTI rfl ?_)
 show wpAny _ _ (Builtin.SmallTypes.ownedTupleIsFree (.ref z) >>= _) _ _ _
 refine wpAny_bind ?_
 unfold Builtin.SmallTypes.ownedTupleIsFree
 refine wpAny_bind (wpAny_field hz rfl (x:=.none) rfl (wpAny_pure ?_))
 simp only [if_true]
 refine wpAny_bind (wpAny_rule ?_)
 refine wpAny_bind (wpAny_field hz rfl (x:=.ref TO) rfl ?_)
 refine wpAny_bind (wpAny_setField_rec hz (by simp) fun g1 z1 b1=>?_)
 replace z1:IsZip g1 z TI TO .ellipsis:=z1
 refine wpAny_bind ?_
 simp only [List.zipIdx_cons,List.zipIdx_nil,List.forIn_cons,List.forIn_nil]
 refine wpAny_bind (wpAny_bind (wpAny_onRaise ?_))
 show wpAny _ _ (Builtin.SmallTypes.nextOf (.ref i1) >>= _) _ _ _
 cases hx:xs[k]? with
 | none=>
  refine wpAny_bind (N1.fin _ _ k _ _ hh (move N1 st1 b1 D.i1z D.l1z) hx fun g2 e b2 he=>?_)
  obtain ⟨oe,NS,hce⟩:=he
  have z2:IsZip g2 z TI TO .ellipsis:=b2 _ _ D.i1z.symm z1
  have Of:e≠z:=fun q=>by subst q;rw [z2] at NS;cases NS;simp at hce
  refine wpAny_setField_rec z2 (by simp) fun g3 _ b3=>hE g3 e (fun q o c1 _ c3 _ u=>b3.extBut _ _ c1 (b2 _ _ c3 (b1.extBut _ _ c1 u))) ⟨oe,b3.extBut _ _ Of NS,hce⟩
 | some x=>
  have hy:ys[k]?=none:=by rcases hend with h | h;rw [hx] at h;cases h;exact h
  refine wpAny_bind (N1.item _ _ k x _ _ (move N1 st1 b1 D.i1z D.l1z) hx fun g2 p1 b2=>wpAny_pure ?_)
  have o2:IsPair g2 TO a b:=b2.extBut _ _ D.TOi1 (b1.extBut _ _ D.TOz hTO)
  refine wpAny_bind (wpAny_seqItems o2 rfl ?_)
  refine wpAny_bind (wpAny_updateSeq_pair o2 fun g3 o3 b3=>?_)
  refine wpAny_bind (wpAny_letGo (wpAny_pure ?_))
  refine wpAny_bind (wpAny_bind (wpAny_onRaise ?_))
  show wpAny _ _ (Builtin.SmallTypes.nextOf (.ref i2) >>= _) _ _ _
  have q2:=move N2 (move N2 (move N2 st2 b1 D.i2z D.l2z) b2 D.i12.symm D.l2i1) b3 D.TOi2.symm D.l2TO
  refine wpAny_bind (N2.fin _ _ k _ _ hh q2 hy fun g4 e b4 he=>?_)
  obtain ⟨oe,NS,hce⟩:=he
  have z4:IsZip g4 z TI TO .ellipsis:=b4 _ _ D.i2z.symm (b3.extBut _ _ D.TOz.symm (b2.extBut _ _ D.i1z.symm z1))
  have Of:e≠z:=fun q=>by subst q;rw [z4] at NS;cases NS;simp at hce
  refine wpAny_setField_rec z4 (by simp) fun g5 _ b5=>hE g5 e (fun q o c1 c2 c3 c4 u=>b5.extBut _ _ c1 (b4 _ _ c4 (b3.extBut _ _ c2 (b2.extBut _ _ c3 (b1.extBut _ _ c1 u))))) ⟨oe,b5.extBut _ _ Of NS,hce⟩
theorem vn {z TI TO i1 i2 l1 l2:Addr}{k:Nat}{xs ys:Array Value}{x y a b:Value}{S1 S2:Nat->Heap->Prop}{Q:Option Value->Shared->Prop}(N1:jk prog w i1 l1 xs S1) (N2:jk prog w i2 l2 ys S2) (D:ZipApart z TI TO i1 i2 l1 l2)
  (hz:IsZip s.heap z TI TO .none) (hTI:IsPair s.heap TI (.ref i1) (.ref i2)) (hTO:IsPair s.heap TO a b) (st1:S1 k s.heap) (st2:S2 k s.heap) (hx:xs[k]?=some x) (hy:ys[k]?=some y)
  (hQ:∀h',IsZip h' z TI TO (rawInt s.heap.objs.size)->IsPair h' TO x y->S1 (k + 1) h'->S2 (k + 1) h'->IsPair h' s.heap.objs.size x y->h'.objs.size=s.heap.objs.size + 1->
   (∀q o,q≠z->q≠TO->q≠i1->q≠i2->s.heap.get? q=some o->h'.get? q=some o)->Q (some (.ref s.heap.objs.size)) {s with heap:=h'}):wpAny (model prog w) A (pyNext (.ref z)) Q E s:=by
 have zt:s.TypeIs (.ref z) "zip":=⟨_,hz,rfl⟩
 unfold pyNext
 exact wpAny_bind (wpAny_attempt (wpAny_callSpecial?_slot (name:=Str.ofString "__next__") zt F.slot_zip_next (wpAny_call_entry F.slot_zip_next zt F.entry_zip_next
   (yU N1 N2 D hz hTI hTO st1 st2 hx hy fun h' a1 a2 a3 a4 a5 a6 a7=>wpAny_pure (hQ h' a1 a2 a3 a4 a5 a6 a7)) (F.args_zip_next_1 _))))
theorem sd {z TI TO i1 i2 l1 l2:Addr}{k:Nat}{xs ys:Array Value}{a b:Value}{S1 S2:Nat->Heap->Prop}{Q:Option Value->Shared->Prop}(hh:A.handled=none) (N1:jk prog w i1 l1 xs S1) (N2:jk prog w i2 l2 ys S2) (D:ZipApart z TI TO i1 i2 l1 l2)
  (hz:IsZip s.heap z TI TO .none) (hTI:IsPair s.heap TI (.ref i1) (.ref i2)) (hTO:IsPair s.heap TO a b) (st1:S1 k s.heap) (st2:S2 k s.heap) (hend:xs[k]?=none\/ys[k]?=none)
  (hQ:∀h',(∀q o,q≠z->q≠TO->q≠i1->q≠i2->s.heap.get? q=some o->h'.get? q=some o)->Q none {s with heap:=h'}):wpAny (model prog w) A (pyNext (.ref z)) Q E s:=by
 have zt:s.TypeIs (.ref z) "zip":=⟨_,hz,rfl⟩
 unfold pyNext
 refine wpAny_bind (wpAny_attempt (wpAny_callSpecial?_slot (name:=Str.ofString "__next__") zt F.slot_zip_next (wpAny_call_entry F.slot_zip_next zt F.entry_zip_next (Bl hh N1 N2 D hz hTI hTO st1 st2 hend fun h' e hk he=>?_) (F.args_zip_next_1 _))))
 obtain ⟨o,ho,hc⟩:=he
 exact wpAny_bind (wpAny_isInstance (T:="StopIteration") (b:=true) ⟨o,ho,hc⟩ isSubtype_stop (wpAny_pure (hQ _ hk)))
end
abbrev Dl (h:Heap) (o1 o2:Obj):Heap:=((h.push o1).push o2).push {cls:=.type "tuple",data:=.seq #[.ref h.objs.size,.ref (h.push o1).objs.size]}
abbrev Dm (h:Heap) (o1 o2:Obj):Heap:=(Dl h o1 o2).push {cls:=.type "tuple",data:=.seq #[.none,.none]}
abbrev Dn (h:Heap) (o1 o2:Obj):Heap:=(Dm h o1 o2).push {cls:=.type "zip",data:=.fields #[.none,.bool false,.bool false,.ref ((h.push o1).push o2).objs.size,.ref (Dl h o1 o2).objs.size]}
def bU (k:String) (l:Addr):Obj:={cls:=.type k,data:=.fields #[.ref l,.int 0 0]}
def nQ (k:String) (h:Heap) (l:Addr) (vals:Array Value):Prop:=(k="list_iterator"/\h.IsList l vals)\/(k="tuple_iterator"/\h.IsTuple l vals)
theorem nQ.push {k:String}{h:Heap}{l:Addr}{vals:Array Value}(x:nQ k h l vals) (o:Obj):nQ k (h.push o) l vals:=x.elim (fun x=>.inl ⟨x.1,Heap.IsList.push x.2 _⟩) fun x=>.inr ⟨x.1,Heap.IsTuple.push x.2 _⟩
theorem xQ {prog:Program}{w:World}{A:Around}{E:Value->Shared->Prop}{s:Shared}{k:String}{l:Addr}{vals:Array Value}{Q:Value->Shared->Prop}(x:nQ k s.heap l vals) (h:Q (.ref s.heap.objs.size) {s with heap:=s.heap.push (bU k l)}):wpAny (model prog w) A (pyIter (.ref l)) Q E s:=by
 rcases x with ⟨rfl,x⟩ | ⟨rfl,x⟩
 ·exact wpAny_pyIter_list x h
 ·exact wpAny_pyIter_tuple x h
theorem Ig (k1 k2:String) (l1 l2:Addr) (xs ys:Array Value):
  Meets (Builtin.«zip.__new__» ⟨[.type "zip",.ref l1,.ref l2],[]⟩) (fun _ R s=>nQ k1 s.heap l1 xs/\nQ k2 s.heap l2 ys/\
   R (.ok (.ret (.ref (Dm s.heap (bU k1 l1) (bU k2 l2)).objs.size))) {s with heap:=Dn s.heap (bU k1 l1) (bU k2 l2)}):=
 .of_wp fun prog w A R s h=>by
  obtain ⟨hp,g,d,tk,os⟩:=s;obtain ⟨q1,q2,h⟩:=h
  have hsub:=sub_zip
  have L1:nQ k1 (Shared.heap ⟨hp,g,d,tk,os⟩) l1 xs:=q1
  have L2:nQ k2 (Shared.heap ⟨hp.push (bU k1 l1),g,d,tk,os⟩) l2 ys:=nQ.push q2 _
  wp_walk using xQ L1,xQ L2
  exact ⟨_,rfl,h⟩
def SQ (k:String) (it l:Addr) (vals:Array Value) (m:Nat) (h:Heap):Prop:=(k="list_iterator"/\h.IsListIter it l m/\h.IsList l vals)\/(k="tuple_iterator"/\h.IsTupleIter it l m/\h.IsTuple l vals)
def IQ (k:String) (it l:Addr) (m:Nat) (h:Heap):Prop:=(k="list_iterator"/\h.IsListIter it l m)\/(k="tuple_iterator"/\h.IsTupleIter it l m)
theorem SQ.iq {k:String}{it l:Addr}{vals:Array Value}{m:Nat}{h:Heap}(x:SQ k it l vals m h):IQ k it l m h:=x.elim (fun x=>.inl ⟨x.1,x.2.1⟩) fun x=>.inr ⟨x.1,x.2.1⟩
theorem qX (prog:Program) (w:World) (k:String) (it l:Addr) (vals:Array Value) (hne:l≠it):jk prog w it l vals (SQ k it l vals) where
 keep:=fun m h h' st k1 k2=>by
  rcases st with ⟨e,st⟩ | ⟨e,st⟩
  ·exact .inl ⟨e,(kU prog w it l vals hne).keep m h h' st k1 k2⟩
  ·exact .inr ⟨e,(jP prog w it l vals hne).keep m h h' st k1 k2⟩
 there:=fun m h st=>by
  rcases st with ⟨e,st⟩ | ⟨e,st⟩
  ·exact (kU prog w it l vals hne).there m h st
  ·exact (jP prog w it l vals hne).there m h st
 item:=fun A s m x Q E st hx hQ=>by
  rcases st with ⟨e,st⟩ | ⟨e,st⟩
  ·exact (kU prog w it l vals hne).item A s m x Q E st hx fun h' a1 a2=>hQ h' (.inl ⟨e,a1⟩) a2
  ·exact (jP prog w it l vals hne).item A s m x Q E st hx fun h' a1 a2=>hQ h' (.inr ⟨e,a1⟩) a2
 fin:=fun A s m Q E hh st hx hE=>by
  rcases st with ⟨e,st⟩ | ⟨e,st⟩
  ·exact (kU prog w it l vals hne).fin A s m Q E hh st hx hE
  ·exact (jP prog w it l vals hne).fin A s m Q E hh st hx hE
def iy (k:String) (K:W.Frag) (H:Hp) (l:Addr) (xs:List V):Prop:=(k="list_iterator"/\bZ K H l xs)\/(k="tuple_iterator"/\cQ K H l xs)
section
variable {X:Cx}{pins:List (Addr×Obj)}{σ:L2.St}{H:Hp}{s:Shared}
theorem iy.get {k:String}{l:Addr}{xs:List V}(I:Inv X pins σ H s) (h:iy k X.K H l xs):∃its:List Value,Vals xs its/\nQ k s.heap l its.toArray:=by
 rcases h with ⟨e,h⟩ | ⟨e,h⟩
 ·obtain ⟨its,r,p,_⟩:=I.list h
  exact ⟨its,r,.inl ⟨e,p.isList⟩⟩
 ·obtain ⟨its,r,p,_⟩:=I.tuple h
  exact ⟨its,r,.inr ⟨e,p⟩⟩
theorem iy.inj {k:String}{l:Addr}{xs ys:List V}(I:Inv X pins σ H s) (h:iy k X.K H l xs) (h':iy k X.K H l ys):xs=ys:=by
 rcases h with ⟨e,h⟩ | ⟨e,h⟩ <;> rcases h' with ⟨e',h'⟩ | ⟨e',h'⟩
 ·exact I.list_inj h h'
 ·rw [e] at e';exact absurd e' (by decide)
 ·rw [e] at e';exact absurd e' (by decide)
 ·exact I.tuple_inj h h'
theorem iy.ne {k:String}{l b:Addr}{xs:List V}(I:Inv X pins σ H s) (h:iy k X.K H l xs) (f:iG X pins H b):l≠b:=by
 have t:(∃o,H l=some o)\/∃o,X.K.lookup l=some o:=by
  rcases h with ⟨_,h⟩ | ⟨_,h⟩ <;> rcases h with (h | ⟨o,h⟩) | ⟨o,_,_,h,_⟩
  ·exact .inl ⟨_,h⟩
  ·exact .inl ⟨_,h⟩
  ·exact .inr ⟨o,h⟩
  ·exact .inl ⟨_,h⟩
  ·exact .inl ⟨_,h⟩
  ·exact .inr ⟨o,h⟩
 rintro rfl
 rcases t with ⟨o,t⟩ | ⟨o,t⟩
 ·rw [f.1] at t;cases t
 ·have hb:X.base.get? l=some o:=I.ok.mod.kin l o t
  rcases f.2.2.2.1 with z | z
  ·exact I.ok.noex l o hb z
  ·exact absurd (Nat.lt_of_lt_of_le (Heap.lt_size (I.ok.bs l o hb).1) z) (Nat.lt_irrefl _)
end
def Mb (K:W.Frag) (k1:String) (l1:Addr) (k2:String) (l2:Addr):It:=
 ⟨fun i H=>∃xs ys x y,iy k1 K H l1 xs/\iy k2 K H l2 ys/\xs[i]?=some x/\ys[i]?=some y,
  fun i H v H'=>∃p,H p=none/\v=.ref p/\∀xs ys x y,iy k1 K H l1 xs->iy k2 K H l2 ys->xs[i]?=some x->ys[i]?=some y->H'=upd H p (.tup [x,y]),
  fun i H=>∃xs ys,iy k1 K H l1 xs/\iy k2 K H l2 ys/\(xs.length<=i\/ys.length<=i)⟩
def Mi (k1 k2:String) (l1 l2 z TI TO i1 i2:Addr) (i:Nat) (h:Heap):Prop:=IsZip h z TI TO .none/\IsPair h TI (.ref i1) (.ref i2)/\(∃a b,IsPair h TO a b)/\IQ k1 i1 l1 i h/\IQ k2 i2 l2 i h
theorem IQ.keep {k:String}{it l:Addr}{m:Nat}{h h':Heap}(x:IQ k it l m h) (kp:∀o,h.get? it=some o->h'.get? it=some o):IQ k it l m h':=by
 rcases x with ⟨e,o,h1,r⟩ | ⟨e,o,h1,r⟩
 ·exact .inl ⟨e,o,kp o h1,r⟩
 ·exact .inr ⟨e,o,kp o h1,r⟩
theorem IQ.obj {k:String}{it l:Addr}{m:Nat}{h:Heap}(x:IQ k it l m h):∃o,h.get? it=some o/\∀v,o.data≠.cell v:=by
 rcases x with ⟨e,o,h1,_,d⟩ | ⟨e,o,h1,_,d⟩ <;> exact ⟨o,h1,fun v z=>by rw [d] at z;cases z⟩
theorem IQ.sq {k:String}{it l:Addr}{m:Nat}{h:Heap}{vals:Array Value}(x:IQ k it l m h) (q:nQ k h l vals):SQ k it l vals m h:=by
 rcases x with ⟨e,x⟩ | ⟨e,x⟩ <;> rcases q with ⟨e',q⟩ | ⟨e',q⟩
 ·exact .inl ⟨e,x,q⟩
 ·rw [e] at e';exact absurd e' (by decide)
 ·rw [e] at e';exact absurd e' (by decide)
 ·exact .inr ⟨e,x,q⟩
theorem E9 {P:Program}{w:World}{K:W.Frag}{elts:List Expr}{kk:Nat}{tp:Pos}(k1 k2:String) (l1 l2 z TI TO i1 i2:Addr) (n1:TI≠z) (n2:TO≠z) (n3:i1≠z) (n4:i2≠z) (n5:TI≠TO) (n6:TI≠i1) (n7:TI≠i2) (n8:TO≠i1) (n9:TO≠i2) (n10:i1≠i2):
  Turn P w K (.Tuple elts kk tp) (Mb K k1 l1 k2 l2) [z,TI,TO,i1,i2] z (Mi k1 k2 l1 l2 z TI TO i1 i2) where
 mem:=by simp
 obj:=fun i h st b hb=>by
  obtain ⟨hz,hTI,⟨a,c,hTO⟩,q1,q2⟩:=st
  simp only [List.mem_cons,List.not_mem_nil,or_false] at hb
  rcases hb with rfl | rfl | rfl | rfl | rfl
  ·exact ⟨_,hz,fun v q=>by cases (show Data.fields _=Data.cell v from q)⟩
  ·exact ⟨_,hTI,fun v q=>by cases (show Data.seq _ _=Data.cell v from q)⟩
  ·exact ⟨_,hTO,fun v q=>by cases (show Data.seq _ _=Data.cell v from q)⟩
  ·exact q1.obj
  ·exact q2.obj
 keep:=fun i h h' st kp=>by
  obtain ⟨hz,hTI,⟨a,c,hTO⟩,q1,q2⟩:=st
  exact ⟨kp z (by simp) _ hz,kp TI (by simp) _ hTI,⟨a,c,kp TO (by simp) _ hTO⟩,q1.keep fun o e=>kp i1 (by simp) o e,q2.keep fun o e=>kp i2 (by simp) o e⟩
 item:=by
  intro X hP hw hK hc i pins s σ H E I hf st hg
  subst hP hw hK
  obtain ⟨hz,hTI,⟨a,c,hTO⟩,q1,q2⟩:=st
  obtain ⟨xs,ys,x,y,s1,s2,hx,hy⟩:=hg
  obtain ⟨its,r1,p1⟩:=s1.get I
  obtain ⟨its2,r2,p2⟩:=s2.get I
  obtain ⟨u,hu,ru⟩:=r1.get hx
  obtain ⟨v,hv,rv⟩:=r2.get hy
  have ne1:∀b∈[z,TI,TO,i1,i2],l1≠b:=fun b hb=>s1.ne I (hf b hb)
  have ne2:∀b∈[z,TI,TO,i1,i2],l2≠b:=fun b hb=>s2.ne I (hf b hb)
  have Dz:ZipApart z TI TO i1 i2 l1 l2:=⟨n1,n2,n3,n4,n5,n6,n7,n8,n9,n10,ne1 z (by simp),ne1 TO (by simp),ne1 i1 (by simp),ne1 i2 (by simp),ne2 z (by simp),ne2 TO (by simp),ne2 i1 (by simp),ne2 i2 (by simp)⟩
  refine vn (qX X.prog X.w k1 i1 l1 its.toArray (ne1 i1 (by simp))) (qX X.prog X.w k2 i2 l2 its2.toArray (ne2 i2 (by simp))) Dz hz hTI hTO (q1.sq p1) (q2.sq p2) (by simpa using hu) (by simpa using hv) fun h' a1 a2 a3 a4 a5 a6 hk=>?_
  refine ⟨_,rfl,wpAny_letOwnedTupleGo_zip (s:={s with heap:=h'}) a1 fun h'' z'' sb=>?_⟩
  have fT:H s.heap.objs.size=none:=I.hok.fresh (Nat.le_refl _)
  have old:∀{b:Addr}{o:Obj},s.heap.get? b=some o->b≠s.heap.objs.size:=fun e=>Nat.ne_of_lt (Heap.lt_size e)
  have zT:z≠s.heap.objs.size:=old hz
  have kk':∀b o,b∉[z,TO,i1,i2]->s.heap.get? b=some o->h''.get? b=some o:=fun b o hb e=>by
   simp only [List.mem_cons,List.not_mem_nil,or_false,not_or] at hb
   exact sb.extBut _ _ hb.1 (hk b o hb.1 hb.2.1 hb.2.2.1 hb.2.2.2 e)
  have ff:∀b∈[z,TO,i1,i2],iG X pins H b:=fun b hb=>hf b (by
   simp only [List.mem_cons,List.not_mem_nil,or_false] at hb ⊢
   rcases hb with rfl | rfl | rfl | rfl <;> simp)
  have Tn:∀b∈[z,TI,TO,i1,i2],b≠s.heap.objs.size:=fun b hb=>by
   simp only [List.mem_cons,List.not_mem_nil,or_false] at hb
   rcases hb with rfl | rfl | rfl | rfl | rfl
   ·exact old hz
   ·exact old hTI
   ·exact old hTO
   ·exact old q1.obj.choose_spec.1
   ·exact old q2.obj.choose_spec.1
  have up':∀{b:Addr}{o:HO},H b=some o->upd H s.heap.objs.size (.tup [x,y]) b=some o:=fun e=>by rw [bg (dW e fT)];exact e
  have I2:Inv X pins σ (upd H s.heap.objs.size (.tup [x,y])) {s with heap:=h'',gens:=s.gens,drawn:=s.drawn,toks:=s.toks}:=by
   refine I.step (ch:=[z,TO,i1,i2]) (fun b hb=>⟨(ff b hb).2.2.2.1,(ff b hb).2.1,(ff b hb).2.2.2.2.1,(ff b hb).2.2.2.2.2⟩) (fun b o _ _ hb e _=>kk' b o hb e) (fun b o _ _ hb e _=>⟨o.slots,kk' b o hb e⟩) (fun b o hb e n=>by rw [bg (old e)];exact n)
    (fun b o hb e=>⟨o,kk' b o hb e⟩) (fun b xs e=>up' e) (fun b o q e=>up' e) (fun b ps e=>⟨#[],by rw [Array.append_empty];exact up' e⟩) (fun m hm=>?_) (fun b q e=>?_) I.bare
   ·obtain ⟨o,es,ep,ho,r⟩:=hm
    exact ⟨o,es,ep,kk' _ o (fun hb=>(ff _ hb).2.1 rfl) ho,r⟩
   ·by_cases hb:b=s.heap.objs.size
    ·subst hb
     rw [bO] at e
     cases e
     refine ⟨(by show 2<=sizeLine;decide),[u,v],.cons ru (.cons rv .nil),⟨_,sb.extBut _ _ (Ne.symm zT) a5,rfl,0,rfl⟩⟩
    ·rw [bg hb] at e
     have nch:∀d,(d=b\/H d=some (.own b))->d∉[z,TO,i1,i2]:=fun d hd hm=>by
      have:=(ff d hm).1
      rcases hd with rfl | hd
      ·rw [this] at e;cases e
      ·rw [this] at hd;cases hd
     exact (I.hok b q e).stay (fun d o hd ho=>kk' d o (nch d hd) ho) (fun _ h=>up' h) fun _ _ h=>up' h
  refine ⟨.ref s.heap.objs.size,_,I2,rfl,⟨s.heap.objs.size,fT,rfl,fun xs' ys' x' y' c1 c2 c3 c4=>?_⟩,⟨z'',sb.extBut _ _ n1 (hk TI _ n1 n5 n6 n7 hTI),⟨_,_,sb.extBut _ _ n2 a2⟩,a3.iq.keep fun o e=>sb.extBut _ _ n3 e,a4.iq.keep fun o e=>sb.extBut _ _ n4 e⟩,fun b hb=>by rw [bg (Tn b hb)];exact (hf b hb).1⟩
  have e1:=iy.inj I c1 s1
  have e2:=iy.inj I c2 s2
  subst e1 e2
  rw [hx] at c3;rw [hy] at c4
  cases c3;cases c4
  rfl
 done:=by
  intro X hP hw hK hc i pins s σ H E I hf st hg
  subst hP hw hK
  obtain ⟨hz,hTI,⟨a,c,hTO⟩,q1,q2⟩:=st
  obtain ⟨xs,ys,s1,s2,hend⟩:=hg
  obtain ⟨its,r1,p1⟩:=s1.get I
  obtain ⟨its2,r2,p2⟩:=s2.get I
  have ne1:∀b∈[z,TI,TO,i1,i2],l1≠b:=fun b hb=>s1.ne I (hf b hb)
  have ne2:∀b∈[z,TI,TO,i1,i2],l2≠b:=fun b hb=>s2.ne I (hf b hb)
  have Dz:ZipApart z TI TO i1 i2 l1 l2:=⟨n1,n2,n3,n4,n5,n6,n7,n8,n9,n10,ne1 z (by simp),ne1 TO (by simp),ne1 i1 (by simp),ne1 i2 (by simp),ne2 z (by simp),ne2 TO (by simp),ne2 i1 (by simp),ne2 i2 (by simp)⟩
  have NX:its.toArray[i]?=none\/its2.toArray[i]?=none:=by
   have e1:=r1.length
   have e2:=r2.length
   rcases hend with h | h
   ·left;simp;omega
   ·right;simp;omega
  refine sd (I.ok.hd hc) (qX X.prog X.w k1 i1 l1 its.toArray (ne1 i1 (by simp))) (qX X.prog X.w k2 i2 l2 its2.toArray (ne2 i2 (by simp))) Dz hz hTI hTO (q1.sq p1) (q2.sq p2) NX fun h' hk=>⟨rfl,?_⟩
  have ff:∀b∈[z,TO,i1,i2],iG X pins H b:=fun b hb=>hf b (by
   simp only [List.mem_cons,List.not_mem_nil,or_false] at hb ⊢
   rcases hb with rfl | rfl | rfl | rfl <;> simp)
  have kk':∀b o,b∉[z,TO,i1,i2]->s.heap.get? b=some o->h'.get? b=some o:=fun b o hb e=>by
   simp only [List.mem_cons,List.not_mem_nil,or_false,not_or] at hb
   exact hk b o hb.1 hb.2.1 hb.2.2.1 hb.2.2.2 e
  refine I.step (ch:=[z,TO,i1,i2]) (g':=s.gens) (d':=s.drawn) (t':=s.toks) (fun b hb=>⟨(ff b hb).2.2.2.1,(ff b hb).2.1,(ff b hb).2.2.2.2.1,(ff b hb).2.2.2.2.2⟩) (fun b o _ _ hb e _=>kk' b o hb e) (fun b o _ _ hb e _=>⟨o.slots,kk' b o hb e⟩) (fun b o hb e n=>n)
    (fun b o hb e=>⟨o,kk' b o hb e⟩) (fun b xs e=>e) (fun b o q e=>e) (fun b ps e=>⟨#[],by rw [Array.append_empty];exact e⟩) (fun m hm=>?_) (fun b q e=>?_) I.bare
  ·obtain ⟨o,es,ep,ho,r⟩:=hm
   exact ⟨o,es,ep,kk' _ o (fun hb=>(ff _ hb).2.1 rfl) ho,r⟩
  ·have nch:∀d,(d=b\/H d=some (.own b))->d∉[z,TO,i1,i2]:=fun d hd hm=>by
    have:=(ff d hm).1
    rcases hd with rfl | hd
    ·rw [this] at e;cases e
    ·rw [this] at hd;cases hd
   exact (I.hok b q e).stay (fun d o hd ho=>kk' d o (nch d hd) ho) (fun _ h=>h) fun _ _ h=>h
 self:=fun A i s Q E st h=>wpAny_pyIter_zip st.1 h
section
variable {X:Cx}{c:C}{e a b:Expr}{es:List Expr}{ga gb g:G R}{pos:Pos}{elts:List Expr}{kk:Nat}{tp:Pos}
def Mv (K:W.Frag) (ta:TA):TI:=fun σ H Q=>ta σ H fun vs H1=>∃k1 l1 xs k2 l2 ys,vs=[.ref l1,.ref l2]/\iy k1 K H1 l1 xs/\iy k2 K H1 l2 ys/\Q (Mb K k1 l1 k2 l2) H1
theorem Kd {ta:TA}{p:Pos}(hg:Gl X "zip") (hm:X.mg "zip"=none) (ha:PA X [a,b] ta) (hs:starEach [a,b] X.env=[(false,eval a X.env),(false,eval b X.env)]:=by rfl) (hs2:starEach [b] X.env=[(false,eval b X.env)]:=by rfl):
  PI X (.Tuple elts kk tp) (.Call (.Name "zip" p) [a,b] [] pos) (Mv X.K ta):=by
 intro pins s σ H R I h
 refine Call_ (lW I hg hm boot_zip (PyProof.Rows.callWith_type1 (bM (ha pos pins s σ H _ I h) fun us s1 ⟨vs,H1,I1,r1,q1⟩=>?_) (by rw [hs,hs2]) (by rw [hs2];rfl)))
 obtain ⟨k1,l1,xs,k2,l2,ys,e,s1',s2',q⟩:=q1
 subst e
 obtain ⟨its,v1,p1⟩:=s1'.get I1
 obtain ⟨its2,v2,p2⟩:=s2'.get I1
 cases r1 with
 | cons r rr=>
  cases rr with
  | cons r' rr=>
   cases rr
   cases r
   cases r'
   refine callType_new F.called_zip (by decide) (F.typeCall_zip_2 _ _) (F.newCall_zip_2 _ _) (fun _=>by first | exact F.args_object_init _ | rfl | decide) F.entry_zip_new (Ig k1 k2 l1 l2 its.toArray its2.toArray) ?_
   refine ⟨p1,p2,?_⟩
   have f0:∀{h:Heap}{o:Obj},o.isFreed=false->(h.push o).get? h.objs.size=some o:=fun ho=>Heap.get?_push_size _ ho
   have gp:∀{h:Heap}{q:Addr}{u:Obj}(o:Obj),h.get? q=some u->(h.push o).get? q=some u:=fun o e=>Heap.get?_push_of_some _ e
   refine ⟨⟨_,Heap.get?_push_size _ rfl,rfl⟩,wpAny_pyIter_zip (f0:=.none) (Heap.get?_push_size _ rfl) ?_⟩
   have e1:(s1.heap.push (bU k1 l1)).objs.size=s1.heap.objs.size + 1:=Heap.size_push ..
   have e2:((s1.heap.push (bU k1 l1)).push (bU k2 l2)).objs.size=s1.heap.objs.size + 2:=by rw [Heap.size_push,e1]
   have e3:(Dl s1.heap (bU k1 l1) (bU k2 l2)).objs.size=s1.heap.objs.size + 3:=by unfold Dl;rw [Heap.size_push,e2]
   have e4:(Dm s1.heap (bU k1 l1) (bU k2 l2)).objs.size=s1.heap.objs.size + 4:=by unfold Dm;rw [Heap.size_push,e3]
   have up5:∀b o,s1.heap.get? b=some o->(Dn s1.heap (bU k1 l1) (bU k2 l2)).get? b=some o:=fun b o h=>gp _ (gp _ (gp _ (gp _ (gp _ h))))
   have I5:Inv X pins σ H1 {s1 with heap:=Dn s1.heap (bU k1 l1) (bU k2 l2)}:=I1.kept (t':=s1.toks) up5
   refine ⟨_,[(Dm s1.heap (bU k1 l1) (bU k2 l2)).objs.size,((s1.heap.push (bU k1 l1)).push (bU k2 l2)).objs.size,(Dl s1.heap (bU k1 l1) (bU k2 l2)).objs.size,s1.heap.objs.size,(s1.heap.push (bU k1 l1)).objs.size],
    Mi k1 k2 l1 l2 _ _ _ _ _,_,H1,rfl,I5,E9 k1 k2 l1 l2 _ _ _ _ _ (by rw [e2,e4];simp [Addr]) (by rw [e3,e4];simp) (by rw [e4];simp) (by rw [e1,e4];simp) (by rw [e2,e3];simp) (by rw [e2];simp) (by rw [e2,e1];simp) (by rw [e3];simp) (by rw [e3,e1];simp) (by rw [e1];simp),?_,?_,q⟩
   ·refine ⟨Heap.get?_push_size _ rfl,gp _ (gp _ (Heap.get?_push_size _ rfl)),⟨.none,.none,gp _ (Heap.get?_push_size _ rfl)⟩,?_,?_⟩
    ·have h1:(Dn s1.heap (bU k1 l1) (bU k2 l2)).get? s1.heap.objs.size=some (bU k1 l1):=gp _ (gp _ (gp _ (gp _ (Heap.get?_push_size _ rfl))))
     rcases p1 with ⟨rfl,_⟩ | ⟨rfl,_⟩
     ·exact .inl ⟨rfl,_,h1,rfl,rfl⟩
     ·exact .inr ⟨rfl,_,h1,rfl,rfl⟩
    ·have h1:(Dn s1.heap (bU k1 l1) (bU k2 l2)).get? (s1.heap.push (bU k1 l1)).objs.size=some (bU k2 l2):=gp _ (gp _ (gp _ (Heap.get?_push_size _ rfl)))
     rcases p2 with ⟨rfl,_⟩ | ⟨rfl,_⟩
     ·exact .inl ⟨rfl,_,h1,rfl,rfl⟩
     ·exact .inr ⟨rfl,_,h1,rfl,rfl⟩
   ·intro b hb
    have hle:s1.heap.objs.size<=b:=by
     simp only [List.mem_cons,List.not_mem_nil,or_false] at hb
     rcases hb with rfl | rfl | rfl | rfl | rfl
     ·rw [e4];exact Nat.le_add_right _ _
     ·rw [e2];exact Nat.le_add_right _ _
     ·rw [e3];exact Nat.le_add_right _ _
     ·exact Nat.le_refl _
     ·rw [e1];exact Nat.le_add_right _ _
    have fp:=I1.fpOk hle (I1.hok.fresh hle)
    exact fp
theorem E3 {K:W.Frag}{J:Hp}{xs ys:List D}{us vs:List V}{i:Nat}{d:D}(h1:aF K J xs us) (h2:aF K J ys vs) (e:(List.zipWith (fun a b=>D.tup [a,b]) xs ys)[i]?=some d):∃x y u v,d=.tup [x,y]/\us[i]?=some u/\vs[i]?=some v/\Rep K J x u/\Rep K J y v:=by
 rw [List.getElem?_zipWith] at e
 cases q1:xs[i]? with
 | none=>rw [q1] at e;simp at e
 | some x=>
  cases q2:ys[i]? with
  | none=>rw [q1,q2] at e;simp at e
  | some y=>
   rw [q1,q2] at e
   simp at e
   obtain ⟨u,a1,a2⟩:=h1.get q1
   obtain ⟨v,b1,b2⟩:=h2.get q2
   exact ⟨x,y,u,v,e.symm,a1,b1,a2,b2⟩
end
section
variable {X:Cx}{c:C}{e a b tg:Expr}{es:List Expr}{ga gb g:G R}{pos:Pos}
def zZ (K:W.Frag) (mg:Str->Option Value) (x:Str) (d:D):Prop:=∃u v,mg x=some u/\RelV v u/\∀J,Rep K J d v
theorem Ew {d:D}{x:Str}(h:zZ X.K X.mg x d) (hK:X.K=c.K:=by rfl) (hg:Gl X x:=by rfl) (hd:(x == ("__debug__":Str))=false:=by decide):PD X c (.Name x pos) (gC d):=by
 obtain ⟨u,v,h1,h2,h3⟩:=h
 exact G9 h1 h2 (fun J=>hK▸h3 J) hg hd
theorem ue:bootBuiltins "int"=some (.type "int"):=by decide +kernel
theorem qN:bootBuiltins "bool"=some (.type "bool"):=by decide +kernel
theorem lF:bootBuiltins "tuple"=some (.type "tuple"):=by decide +kernel
theorem Aq:bootBuiltins "list"=some (.type "list"):=by decide +kernel
end
section
variable {X:Cx}{c:C}{e a b tg:Expr}{es:List Expr}{ga gb g:G R}{pos:Pos}{st:Stmt}{t u:G O}{tb:G Bool}
def rB:G O:=fun _=>.bad
theorem Cr:iw X c st rB:=fun pins s σ H D I ⟨J,env,sr,w⟩=>w.elim
def tG (g:G R):G R:=fun env=>g env >>= fun r=>match r with
 | .d (.int i)=>.ok (.d (.int (-i)))
 | _=>.bad
theorem JM (h:PD X c a g):PD X c (.UnaryOp .USub a pos) (tG g):=gA (LI K3 h) fun σ H Q ⟨J,env,sr,w⟩=>by
 refine ⟨J,env,sr,aC (aK w) fun r wr v J1 H1 e1 r1=>?_⟩
 split at wr
 ·cases r1
  exact ⟨_,rfl,wr _ J1 H1 e1 (.int _)⟩
 ·exact wr.elim
def yl:R->M Bool
 | .d .non=>.ok false
 | .d (.bl b)=>.ok b
 | .d (.int i)=>.ok (i != 0)
 | .d (.str y)=>if y.length<=sizeLine then .ok ((y.length:Int) != 0) else .bad
 | .d (.tup xs)=>.ok (!xs.isEmpty)
 | .d (.lst xs)=>.ok (!xs.isEmpty)
 | .d .emp=>.ok false
 | .d (.exn _ _ _)=>.bad
 | .d (.dct _ _)=>.bad
 | .l _ xs=>.ok (!xs.isEmpty)
 | _=>.bad
theorem IU {K:W.Frag}{J:Hp}{ds:List D}{vs:List V}(h:aF K J ds vs):ds.isEmpty=vs.isEmpty:=by
 cases h <;> rfl
theorem Ia {He J H:Hp}(hp:HI c J H){Q:Bool->Prop}{T:Exc->Prop}:∀{r:R}{v:V},RR c He J H r v->cL (yl r) Q T->∃k,Dt c.K v H k/\Q k
 | .d .non,_,h,w=>by cases h;exact ⟨_,rfl,w⟩
 | .d (.bl b),_,h,w=>by cases h;exact ⟨_,rfl,w⟩
 | .d (.int i),_,h,w=>by cases h;exact ⟨_,rfl,w⟩
 | .d (.str y),_,h,w=>by
  cases h
  unfold yl at w
  simp only at w
  split at w
  ·rename_i hz;exact ⟨_,⟨hz,rfl⟩,w⟩
  ·exact w.elim
 | .d (.tup xs),_,h,w=>by
  cases h with
  | tup h1 h2=>exact ⟨_,.inr (.inl ⟨_,fj hp.sub h1,rfl⟩),by rw [<-IU h2];exact w⟩
 | .d (.lst xs),_,h,w=>by
  cases h with
  | lst h1 h2=>exact ⟨_,.inl ⟨_,hp.sub.seq h1,rfl⟩,by rw [<-IU h2];exact w⟩
 | .d .emp,_,h,w=>by
  cases h with
  | emp h1=>exact ⟨_,.inr (.inr ⟨_,hp.sub _ _ h1,rfl⟩),w⟩
 | .d (.exn _ _ _),_,_,w=>w.elim
 | .d (.dct _ _),_,_,w=>w.elim
 | .mo _ _,_,_,w=>w.elim
 | .mb _ _,_,_,w=>w.elim
 | .l m xs,_,h,w=>by
  obtain ⟨a,vs,rfl,h1,h2⟩:=RR.list hp h rfl
  exact ⟨_,.inl ⟨_,h1,rfl⟩,by rw [<-IU h2];exact w⟩
def qi (g:G R):G Bool:=fun env=>g env >>= yl
theorem JB (h:PD X c e g) (hK:X.K=c.K:=by rfl) (he:∀whole,isTrue e X.env whole=(do let v <-whole;standAt e.pos;holding [v] (truthy v)):=by intro _;rfl):PB X c e (qi g):=r_ (EN h he) fun σ H Q ⟨J,env,sr,w⟩=>by
 refine ⟨J,env,sr,aC (aK w) fun r wr v J1 H1 e1 r1=>?_⟩
 rw [hK]
 obtain ⟨k,k1,k2⟩:=Ia (sr.hp.ext e1) r1 wr
 exact ⟨k,k1,k2 J1 H1 e1⟩
theorem aF.eraseIdx {K:W.Frag}{J:Hp}:∀{ds:List D}{vs:List V}(k:Nat),aF K J ds vs->aF K J (ds.eraseIdx k) (vs.eraseIdx k)
 | _,_,_,.nil=>by rw [List.eraseIdx_nil,List.eraseIdx_nil];exact .nil
 | _,_,0,.cons _ t=>t
 | _,_,k + 1,.cons r t=>.cons r (aF.eraseIdx k t)
def Nk (i j:Nat):G O:=fun env=>match env[j]? with
 | some (some (.own xs))=>(match xs[xs.length - 1]? with
  | some d=>.ok (.nx ((env.set j (some (.own xs.dropLast))).set i (some (.d d))))
  | none=>.bad)
 | _=>.bad
def jX (i j:Nat) (g:G R):G O:=fun env=>match env[i]?,env[j]? with
 | some (some (.own zs)),some (some (.own xs))=>if i=j then .bad else g env >>= fun r=>(match r with
  | .d (.int k)=>if 0<=k/\k.toNat < xs.length/\zs.length < sizeLine/\xs.length<=sizeLine then (match xs[k.toNat]? with
   | some d=>.ok (.nx ((env.set j (some (.own (xs.eraseIdx k.toNat)))).set i (some (.own (zs++[d])))))
   | none=>.bad) else .bad
  | _=>.bad)
 | _,_=>.bad
theorem LV {k:Int}{n:Nat}(h0:0<=k) (h:k.toNat < n):seqIndex? k n=some k.toNat:=by
 unfold seqIndex?
 have h1:¬k < 0:=by omega
 have h2:k < n:=by omega
 simp [h1,h0,h2]
theorem Jv {J H:Hp}{σ:L2.St}{env:Ev}(sr:SR c J H σ env){i j:Nat}{xs ys:List D}{p q:Addr}(hij:i≠j) (hi:env[i]?=some (some (.own xs))) (hj:env[j]?=some (some (.own ys))) (h1:σ[i]?=some (some (.ref p))) (h2:σ[j]?=some (some (.ref q))):p≠q:=fun z=>
 sr.sep i j (.inl xs) (.inl ys) (.ref p) hij hi hj h1 (z▸h2)
theorem AU (i j:Nat){x y:Str}{p1 p2 pos' q1 q2 q3:Pos}(h:PD X c e g) (hi:X.N[i]?=some x:=by rfl) (OE:jL X.env.scope x:=by first | exact Or.inl rfl | exact Or.inr (Or.inl rfl) | exact Or.inr (Or.inr rfl)) (hdx:(x == ("__debug__":Str))=false:=by decide) (Oa:(x == ("__classdict__":Str))=false:=by decide)
  (hj:X.N[j]?=some y:=by rfl) (OF:jL X.env.scope y:=by first | exact Or.inl rfl | exact Or.inr (Or.inl rfl) | exact Or.inr (Or.inr rfl)) (Oe:(y == ("__debug__":Str))=false:=by decide) (Ob:(y == ("__classdict__":Str))=false:=by decide)
  (hbase:attributeBase (.Name x p1) "append" X.env (eval (.Name x p1) X.env)=eval (.Name x p1) X.env:=by rfl)
  (hfew:((backTo pos' (starEach [.Call (.Attribute (.Name y q1) "pop" q2) [e] [] q3] X.env)).all (fun x=>!x.1) && (backToKw pos' (keywordEach [] X.env)).all (fun x=>x.1.isSome)
   && decide (([.Call (.Attribute (.Name y q1) "pop" q2) [e] [] q3]:List Expr).length + ([]:List Keyword).length + (if ([]:List Keyword).isEmpty then 0 else 1) < 30))=true:=by rfl)
  (hline:(p2.endLine == pos'.line)=true:=by rfl)
  (hst:starEach [.Call (.Attribute (.Name y q1) "pop" q2) [e] [] q3] X.env=(false,eval (.Call (.Attribute (.Name y q1) "pop" q2) [e] [] q3) X.env)::starEach [] X.env:=by rfl) (hplain:(backTo pos' (starEach [] X.env)).any (·.1)=false:=by rfl)
  (Nt:attributeBase (.Name y q1) "pop" X.env (eval (.Name y q1) X.env)=eval (.Name y q1) X.env:=by rfl)
  (NB:((backTo q3 (starEach [e] X.env)).all (fun x=>!x.1) && (backToKw q3 (keywordEach [] X.env)).all (fun x=>x.1.isSome)
   && decide (([e]:List Expr).length + ([]:List Keyword).length + (if ([]:List Keyword).isEmpty then 0 else 1) < 30))=true:=by rfl)
  (Nv:(q2.endLine == q3.line)=true:=by rfl) (NL:starEach [e] X.env=(false,eval e X.env)::starEach [] X.env:=by rfl) (Nr:(backTo q3 (starEach [] X.env)).any (·.1)=false:=by rfl)
  (hs:swapsWith (.Call (.Attribute (.Name x p1) "append" p2) [.Call (.Attribute (.Name y q1) "pop" q2) [e] [] q3] [] pos') none pos.line X.env=pure false:=by rfl):
  iw X c (.Expr (.Call (.Attribute (.Name x p1) "append" p2) [.Call (.Attribute (.Name y q1) "pop" q2) [e] [] q3] [] pos') pos) (jX i j g):=
 iC (mh (vQ PySem.F.plainAttrs_list PySem.F.slot_list_append PySem.F.type_list_append oB (kE hi OE hdx Oa) (gm (vQ PySem.F.plainAttrs_list PySem.F.slot_list_pop PySem.F.type_list_pop Ec (kE hj OF Oe Ob) (gm h jd NL) Nt NB Nv NL Nr) jd hst) hbase hfew hline hst hplain) hs) fun E σ H ⟨J,env,sr,w⟩=>by
  unfold jX at w
  split at w
  ·rename_i zs xs Oh Oj
   split at w
   ·exact w.elim
   ·rename_i hij
    obtain ⟨_,k1,p,us,rfl,k2,k3,k4,k5⟩:=sr.at_ i _ Oh
    obtain ⟨_,l1,q,vs,rfl,l2,l3,l4,l5⟩:=sr.at_ j _ Oj
    refine ⟨.ref p,k1,.inl ⟨rfl,us,bZ.of k2⟩,?_⟩
    refine ⟨.ref q,l1,.inl ⟨rfl,vs,bZ.of l2⟩,?_⟩
    refine ⟨J,env,sr,aC (aK w) fun r wr v J1 H1 e1 r1=>?_⟩
    split at wr
    ·rename_i k
     cases r1
     split at wr
     ·rename_i hk
      split at wr
      ·rename_i d hd
       obtain ⟨z,hz,rz⟩:=l5.get hd
       have m2:=e1.h _ _ l2
       have n2:=e1.h _ _ k2
       have hpq:q≠p:=fun zz=>Jv sr hij Oh Oj k1 l1 zz.symm
       refine ⟨q,vs,k,k.toNat,z,rfl,rfl,m2,by omega,?_,LV hk.1 (by rw [<-l5.length];exact hk.2.1),hz,?_⟩
       ·have z1:=hk.2.1
        have z2:=hk.2.2.2
        have z3:sizeLine=16777216:=sizeLine_eq
        omega
       ·refine ⟨p,us,z,rfl,rfl,by rw [bg (Ne.symm hpq)];exact n2,by rw [<-k5.length];exact hk.2.2.1,?_⟩
        have sr1:=sr.ext e1
        have J1p:J1 p=none:=e1.frz p (by rw [k2];intro z;cases z) k3
        have J1q:J1 q=none:=e1.frz q (by rw [l2];intro z;cases z) l3
        have sr2:=sr1.upd (xs':=xs.eraseIdx k.toNat) (vs':=vs.eraseIdx k.toNat) Oj l1 m2 J1q l4 ((l5.mono e1.j).eraseIdx _)
        have Oi:(env.set j (some (.own (xs.eraseIdx k.toNat))))[i]?=some (some (.own zs)):=by rw [List.getElem?_set_ne (Ne.symm hij)];exact Oh
        have sr3:=sr2.upd (xs':=zs++[d]) (vs':=us++[z]) Oi k1 (by rw [bg (Ne.symm hpq)];exact n2) J1p k4 ((k5.mono e1.j).append (.cons (rz.mono e1.j) .nil))
        exact wr σ J1 _ e1.j sr3
      ·exact wr.elim
     ·exact wr.elim
    ·exact wr.elim
  ·exact w.elim
end
open PySem.AutoSeq1 in
theorem BV (T:String) (hT:T="tuple"\/T="list") (l b:Addr) (xs ys:Array Value) (n m:Nat) (dd:Option Addr) (sl:Array (Option Value)) (z0:¬(!xs.isEmpty && Builtin.List.listTooLong (xs.size + ys.size))=true) (z1:xs.size<=sizeLine) (z2:xs.size + ys.size<=sizeLine + 1):
  Meets (Builtin.«list.extend» ⟨[.ref l,.ref b],[]⟩) fun _ R s=>s.heap.get? l=some {cls:=.type "list",dict:=none,data:=.seq xs n,slots:=#[]}/\
   s.heap.get? b=some {cls:=.type T,dict:=dd,data:=.seq ys m,slots:=sl}/\R (.ok (.ret Value.none)) {s with heap:=s.heap.update l (Obj.mapSeq fun x=>x++ys),toks:=s.toks}:=
 .of_wp fun prog w A R s h=>by
  obtain ⟨hp,gs,dr,tk,os⟩:=s
  obtain ⟨h1,h2,h3⟩:=h
  have t1:=AutoSeq1.idx_int
  have t2:=AutoSeq1.sub_tuple_tuple
  have t3:=AutoSeq1.sub_list_list
  have t4:=AutoSeq1.sub_tuple_list
  have t5:=AutoSeq1.sub_list_tuple
  have z3:(xs++ys).size<=sizeLine + 1:=by
   rw [Array.size_append]
   exact z2
  rcases hT with rfl | rfl
  ·wp_walk using (wpAny_updateSeq h1 rfl (hz:=z1) (_hz':=z3)),wpAny_loadPart' h1,wpAny_loadPart' h2
   exact ⟨_,rfl,h3⟩
  ·wp_walk using (wpAny_updateSeq h1 rfl (hz:=z1) (_hz':=z3)),wpAny_loadPart' h1,wpAny_loadPart' h2
   exact ⟨_,rfl,h3⟩
section
variable {X:Cx}{c:C}{e a b tg:Expr}{es:List Expr}{ga gb g:G R}{pos:Pos}
def MB (K:W.Frag):V->List V->Hp->VK->Prop:=fun x vs H Q=>∃l b xs zs,x=.ref l/\vs=[.ref b]/\H l=some (.lst xs)/\(bZ K H b zs\/cQ K H b zs)/\xs.length + zs.length<=sizeLine/\Q .non (upd H l (.lst (xs++zs)))
theorem Jk:Bs X "list.extend" (MB X.K):=by
 intro pins s σ H x vs v us Q I rx rv h
 obtain ⟨l,b,xs,zs,rfl,rfl,hH,hB,hz,q⟩:=h
 cases rx
 obtain ⟨u,rfl,ru⟩:=rv.one
 cases ru
 obtain ⟨z,its,n,r,hl,e⟩:=I.lstM hH
 have obj:∃T its2,(T="tuple"\/T="list")/\Vals zs its2/\∃dd m sl,s.heap.get? b=some {cls:=.type T,dict:=dd,data:=.seq its2.toArray m,slots:=sl}:=by
  rcases hB with hB | hB
  ·obtain ⟨its2,r2,pl,_⟩:=I.list hB
   obtain ⟨⟨cls,dd,data,sl⟩,ho,hc,m,hd⟩:=pl.isList
   simp only at hc hd
   subst hc hd
   exact ⟨"list",its2,.inr rfl,r2,dd,m,sl,ho⟩
  ·obtain ⟨its2,r2,pl,_⟩:=I.tuple hB
   obtain ⟨⟨cls,dd,data,sl⟩,ho,hc,m,hd⟩:=pl
   simp only at hc hd
   subst hc hd
   exact ⟨"tuple",its2,.inl rfl,r2,dd,m,sl,ho⟩
 obtain ⟨T,its2,hT,r2,dd,m,sl,e2⟩:=obj
 have hl2:=r2.length
 have hsz:its.toArray.size + its2.toArray.size<=sizeLine:=by rw [List.size_toArray,List.size_toArray];omega
 have NC:¬(!its.toArray.isEmpty && Builtin.List.listTooLong (its.toArray.size + its2.toArray.size))=true:=by
  rw [xG hsz,Bool.and_false]
  exact Bool.false_ne_true
 refine call_meets F.slot_list_extend ⟨_,e,rfl⟩ F.entry_list_extend (F.args_list_extend_2 _ _) (BV T hT l b its.toArray its2.toArray n m dd sl NC (by rw [List.size_toArray];omega) (by omega)) ⟨e,e2,?_⟩
 refine ⟨.non,_,I.lset (its':=its++its2) hH e (by simp) (r.append r2) ?_,rfl,q⟩
 rw [List.length_append]
 omega
def tF (i:Nat) (g:G R):G O:=fun env=>match env[i]? with
 | some (some (.own xs))=>g env >>= fun r=>iO r >>= fun ys=>if xs.length + ys.length<=sizeLine then .ok (.nx (env.set i (some (.own (xs++ys))))) else .bad
 | _=>.bad
theorem AW (i:Nat){x:Str}{p1 p2 pos':Pos}(h:PD X c e g) (hN:X.N[i]?=some x:=by rfl) (hv:jL X.env.scope x:=by first | exact Or.inl rfl | exact Or.inr (Or.inl rfl) | exact Or.inr (Or.inr rfl)) (hd:(x == ("__debug__":Str))=false:=by decide)
  (hcd:(x == ("__classdict__":Str))=false:=by decide)
  (hbase:attributeBase (.Name x p1) "extend" X.env (eval (.Name x p1) X.env)=eval (.Name x p1) X.env:=by rfl)
  (hfew:((backTo pos' (starEach [e] X.env)).all (fun x=>!x.1) && (backToKw pos' (keywordEach [] X.env)).all (fun x=>x.1.isSome)
   && decide (([e]:List Expr).length + ([]:List Keyword).length + (if ([]:List Keyword).isEmpty then 0 else 1) < 30))=true:=by rfl)
  (hline:(p2.endLine == pos'.line)=true:=by rfl) (hst:starEach [e] X.env=(false,eval e X.env)::starEach [] X.env:=by rfl) (hplain:(backTo pos' (starEach [] X.env)).any (·.1)=false:=by rfl)
  (hs:swapsWith (.Call (.Attribute (.Name x p1) "extend" p2) [e] [] pos') none pos.line X.env=pure false:=by rfl) (hK:X.K=c.K:=by rfl):
  iw X c (.Expr (.Call (.Attribute (.Name x p1) "extend" p2) [e] [] pos') pos) (tF i g):=
 iC (mh (vQ PySem.F.plainAttrs_list PySem.F.slot_list_extend PySem.F.type_list_extend Jk (kE hN hv hd hcd) (gm h jd hst) hbase hfew hline hst hplain) hs) fun E σ H ⟨J,env,sr,w⟩=>by
  unfold tF at w
  split at w
  ·rename_i xs hi
   obtain ⟨v,h1,a,vs,rfl,h2,h3,h4,h5⟩:=sr.at_ i _ hi
   refine ⟨.ref a,h1,.inl ⟨rfl,vs,bZ.of h2⟩,?_⟩
   refine ⟨J,env,sr,aC (aK w) fun r wr y J1 H1 e1 r1=>?_⟩
   obtain ⟨ys,q,wr⟩:=j3 wr
   split at wr
   ·rename_i hz
    obtain ⟨p,ws,rfl,hq,hs⟩:=lR (sr.hp.ext e1) r1 q
    refine ⟨a,p,vs,ws,rfl,rfl,e1.h _ _ h2,by rw [hK];exact hq,by rw [<-h5.length,<-hs.length];exact hz,?_⟩
    refine wr σ J1 _ e1.j ?_
    exact (sr.ext e1).upd hi h1 (e1.h _ _ h2) (e1.frz a (by rw [h2];intro z;cases z) h3) h4 ((h5.mono e1.j).append hs)
   ·exact wr.elim
  ·exact w.elim
end
section
variable {X:Cx}{c:C}{e a b d tg:Expr}{es:List Expr}{ga gb g:G R}{pos:Pos}
def Mu (K:W.Frag) (tl:TE):TI:=fun σ H R=>tl σ H fun x H1=>∃a,x=.ref a/\(((∃xs,bZ K H1 a xs)/\R (Fc K a) H1)\/((∃xs,cQ K H1 a xs)/\R (Fd K a) H1))
theorem CA {tl:TE}(hl:PE X e tl):PI X tg e (Mu X.K tl):=fun pins s σ H R I h=>bM (hl pins s σ H _ I h) fun v s1 ⟨x,H1,I1,r1,a,ex,q1⟩=>by
 subst ex
 cases r1
 have fp:∀b∈[s1.heap.objs.size],iG X pins H1 b:=fun b hb=>by
  rw [List.mem_singleton] at hb
  subst hb
  exact I1.fpOk (Nat.le_refl _) (I1.hok.fresh (Nat.le_refl _))
 rcases q1 with ⟨⟨xs,hq⟩,q⟩ | ⟨⟨xs,hq⟩,q⟩
 ·obtain ⟨its,rv,p,hz⟩:=I1.list hq
  exact wpAny_pyIter_list p.isList ⟨s1.heap.objs.size,[s1.heap.objs.size],_,_,H1,rfl,I1.kept (t':=s1.toks) (fun b o e=>Heap.get?_push_of_some _ e),De a _,⟨_,Heap.get?_push_size _ rfl,rfl,rfl⟩,fp,q⟩
 ·obtain ⟨its,rv,p,hz⟩:=I1.tuple hq
  exact wpAny_pyIter_tuple (show s1.heap.IsTuple a its.toArray from p) ⟨s1.heap.objs.size,[s1.heap.objs.size],_,_,H1,rfl,I1.kept (t':=s1.toks) (fun b o e=>Heap.get?_push_of_some _ e),Bk a _,⟨_,Heap.get?_push_size _ rfl,rfl,rfl⟩,fp,q⟩
theorem uV {J1:Hp}{a:Addr}{vs:List V}{ds:List D}{U:Hp->Hp->Prop}(hU:∀J H,U J H->aP J1 J) (h:cQ c.K J1 a vs) (hs:aF c.K J1 ds vs):Walk c (Fd c.K a) ds J1 U:=by
 intro i J H hp u
 have h':=fj hp.sub (fj (hU J H u) h)
 refine ⟨fun hl=>⟨vs,h',by rw [<-hs.length];exact hl⟩,fun d hd=>?_⟩
 obtain ⟨v,k1,k2⟩:=hs.get hd
 refine ⟨⟨vs,v,h',k1⟩,fun x H2 ⟨e,hy⟩=>?_⟩
 subst e
 have:=hy vs h'
 rw [k1] at this
 cases this
 exact ⟨J,Ext.refl hp.sub,k2.mono (hU J _ u)⟩
def ku (g:G R):G (List D):=fun env=>g env >>= fun r=>match r with
 | .d (.tup xs)=>.ok xs
 | .d (.lst xs)=>.ok xs
 | .l .fresh xs=>.ok xs
 | .l .bor xs=>.ok xs
 | _=>.bad
theorem Hv (h:PD X c e g) (hK:X.K=c.K:=by rfl):j4 X c tg e (ku g):=o_ (CA h) fun σ H Q ⟨J,env,sr,w⟩=>by
 refine ⟨J,env,sr,aC (aK w) fun r wr v J1 H1 e1 r1=>?_⟩
 rw [hK]
 split at wr
 ·cases r1 with
  | tup h1 h2=>exact ⟨_,rfl,.inr ⟨⟨_,fj e1.sub h1⟩,wr _ J1 H1 e1 (uV (fun J H u=>u) h1 h2)⟩⟩
 ·cases r1 with
  | lst h1 h2=>exact ⟨_,rfl,.inl ⟨⟨_,e1.sub.seq h1⟩,wr _ J1 H1 e1 (oU (.inl h1) h2)⟩⟩
 ·obtain ⟨J2,e2,s2,rd⟩:=freeze e1 r1 rfl
  cases rd with
  | lst h1 h2=>exact ⟨_,rfl,.inl ⟨⟨_,e2.sub.seq h1⟩,wr _ J2 H1 e2 (oU (.inl h1) h2)⟩⟩
 ·obtain ⟨a,vs,rfl,h1,h2⟩:=r1
  exact ⟨_,rfl,.inl ⟨⟨_,(sr.hp.ext e1).ent.seq h1⟩,wr _ J1 H1 e1 (oU (.inr h1) h2)⟩⟩
 ·exact wr.elim
def jb (g:G R):G (List D):=fun env=>g env >>= iO
theorem Hu (h:PD X c e g) (hK:X.K=c.K:=by rfl):nE X c tg e (jb g):=o_ (CA h) fun σ H Q ⟨J,env,sr,w⟩=>by
 refine ⟨J,env,sr,aC (aK w) fun r wr v J1 H1 e1 r1=>?_⟩
 rw [hK]
 have lst:∀{xs:List D},lQ r=.ok xs->(∀It J1' H1',Ext J H J1' H1'->Walk c It xs J1' (fun J' H'=>aP J1' J'/\aP H1' H')->Q It H1')->∃a,v=.ref a/\(((∃xs,bZ c.K H1 a xs)/\Q (Fc c.K a) H1)\/((∃xs,cQ c.K H1 a xs)/\Q (Fd c.K a) H1)):=fun {xs} q wr=>by
  obtain ⟨a,vs,rfl,h1,h2⟩:=RR.list (sr.hp.ext e1) r1 q
  refine ⟨a,rfl,.inl ⟨⟨_,h1⟩,wr _ J1 H1 e1 fun i J' H' hp u=>?_⟩⟩
  have h':=u.2.seq h1
  refine ⟨fun hl=>⟨vs,h',by rw [<-h2.length];exact hl⟩,fun d hd=>?_⟩
  obtain ⟨v,k1,k2⟩:=h2.get hd
  refine ⟨⟨vs,v,h',k1⟩,fun x H2 ⟨e,hy⟩=>?_⟩
  subst e
  have:=hy vs h'
  rw [k1] at this
  cases this
  exact ⟨J',Ext.refl hp.sub,k2.mono u.1⟩
 cases r with
 | d y=>
  cases y with
  | tup xs=>
   cases r1 with
   | tup h1 h2=>exact ⟨_,rfl,.inr ⟨⟨_,fj e1.sub h1⟩,wr _ J1 H1 e1 (uV (fun J H u=>u.1) h1 h2)⟩⟩
  | lst xs=>exact lst rfl wr
  | _=>exact wr.elim
 | l m xs=>exact lst rfl wr
 | mo _ _=>exact wr.elim
 | mb _ _=>exact wr.elim
end
section
variable {X:Cx}{c:C}{st:Stmt}{g:G O}
theorem SR.frz {J H:Hp}{σ:L2.St}{env:Ev}(sr:SR c J H σ env){i:Nat}{x:Mn}{a:Addr}{o:HO}{d:D}(hi:env[i]?=some (some (mS x))) (h1:σ[i]?=some (some (.ref a))) (h2:H a=some o) (h3:J a=none) (h4:c.H0 a=none) (h5:Rep c.K (L2.upd J a o) d (.ref a)):∃J',aP J J'/\SR c J' H σ (env.set i (some (.d d))):=by
 have s1:aP J (L2.upd J a o):=dQ h3 _
 refine ⟨L2.upd J a o,s1,⟨⟨fun b o q=>?_,sr.hp.ent,sr.hp.entJ.trans s1,fun b k1 k2=>?_⟩,by simpa using sr.len,fun j y q=>?_,fun j k ys zs w hjk q1 q2 q3 q4=>?_⟩⟩
 ·by_cases hb:b=a
  ·subst hb;rw [bO] at q;cases q;exact h2
  ·rw [bg hb] at q;exact sr.hp.sub b o q
 ·have:b≠a:=fun z=>k1 (z▸h4)
  rw [bg this];exact sr.hp.frz b k1 k2
 ·rcases fZ q with ⟨rfl,hl,rfl⟩ | ⟨hj,q⟩
  ·exact ⟨.ref a,h1,h5⟩
  ·obtain ⟨w,k1,k2⟩:=sr.at_ j y q
   refine ⟨w,k1,?_⟩
   have hne:∀(z:Mn) p',y=mS z->w=.ref p'->p'≠a:=fun z p' e ew ep=>sr.sep i j x z (.ref a) (Ne.symm hj) hi (e▸q) h1 (ep▸ew▸k1)
   cases y with
   | d x=>exact Rep.mono s1 k2
   | bor zs=>obtain ⟨p,us,m1,m2,m3⟩:=k2;exact ⟨p,us,m1,m2,m3.mono s1⟩
   | db _ _=>obtain ⟨p,m1,m2⟩:=k2;exact ⟨p,m1,m2.mono s1 (aP.refl _)⟩
   | dk ks zs=>
    obtain ⟨p,rfl,m1,m2,m3⟩:=k2
    exact ⟨p,rfl,m1.mono s1 (aP.refl _),by rw [bg (hne (.inr (ks,zs)) p rfl rfl)];exact m2,m3⟩
   | own zs=>
    obtain ⟨p,us,rfl,m1,m2,m3,m4⟩:=k2
    exact ⟨p,us,rfl,m1,by rw [bg (hne (.inl zs) p rfl rfl)];exact m2,m3,m4.mono s1⟩
 ·have f:∀(k:Nat) (ys:Mn),(env.set i (some (.d d)))[k]?=some (some (mS ys))->env[k]?=some (some (mS ys)):=fun k ys q=>by
   rcases fZ q with ⟨rfl,_,z⟩ | ⟨_,q⟩
   ·cases ys <;> cases z
   ·exact q
  exact sr.sep j k ys zs w hjk (f j ys q1) (f k zs q2) q3 q4
def jK (i:Nat) (g:G O):G O:=fun env=>match env[i]? with
 | some (some (.own xs))=>g (env.set i (some (.d (.lst xs))))
 | some (some (.dk ks vs))=>g (env.set i (some (.d (.dct ks vs))))
 | _=>g env
theorem G1 (i:Nat) (h:iw X c st g):iw X c st (jK i g):=fun pins s σ H D I ⟨J,env,sr,w⟩=>by
 unfold jK at w
 split at w
 ·rename_i xs hi
  obtain ⟨v,h1,a,vs,rfl,h2,h3,h4,h5⟩:=sr.at_ i _ hi
  obtain ⟨J',s1,sr'⟩:=sr.frz (x:=.inl xs) hi h1 h2 h3 h4 (.lst (.inl (.inl bO)) (h5.mono (dQ h3 _)))
  exact h pins s σ H D I ⟨J',_,sr',aC w fun o q=>q.mono s1⟩
 ·rename_i ks vs hi
  obtain ⟨v,h1,a,rfl,⟨us,ws,h2,m1,m2,m3,m4⟩,h3,h4⟩:=sr.at_ i _ hi
  obtain ⟨J',s1,sr'⟩:=sr.frz (x:=.inr (ks,vs)) hi h1 h2 h3 h4 (.dct bO (m1.mono (dQ h3 _)) (m2.mono (dQ h3 _)) m3 m4)
  exact h pins s σ H D I ⟨J',_,sr',aC w fun o q=>q.mono s1⟩
 ·exact h pins s σ H D I ⟨J,env,sr,w⟩
end
structure QD (X:Cx) (c:C) (x0:Expr) (x1:G R):Prop where
 h:PD X c x0 x1
structure QB (X:Cx) (c:C) (x0:Expr) (x1:G Bool):Prop where
 h:PB X c x0 x1
structure kP (X:Cx) (c:C) (x0:List Expr) (x1:G (List R)):Prop where
 h:jh X c x0 x1
structure Bx (X:Cx) (c:C) (x0:List Expr) (x1:G (List D)):Prop where
 h:yX X c x0 x1
structure i6 (X:Cx) (c:C) (x0:Stmt) (x1:G O):Prop where
 h:iw X c x0 x1
structure qH (X:Cx) (c:C) (x0:List Stmt) (x1:G O):Prop where
 h:pL X c x0 x1
structure wA (X:Cx) (c:C) (x0:Expr) (x1:G Bool):Prop where
 h:pK X c x0 x1
structure lN (X:Cx) (c:C) (x0:Expr) (x1:GT):Prop where
 h:gF X c x0 x1
structure Ae (X:Cx) (c:C) (x0:List Expr) (x1:nP):Prop where
 h:wz X c x0 x1
structure qI (X:Cx) (c:C) (x0:Expr) (x1:Expr) (x2:G (List D)):Prop where
 h:j4 X c x0 x1 x2
structure wB (X:Cx) (c:C) (x0:Expr) (x1:Expr) (x2:G (List D)):Prop where
 h:nE X c x0 x1 x2
structure lE (X:Cx) (c:C) (x0:List Expr) (x1:G Bool):Prop where
 h:fR X c x0 x1
structure Fi (X:Cx) (c:C) (x0:Option Expr) (x1:GO):Prop where
 h:wg X c x0 x1
section
variable {X:Cx}{c:C}{e a b:Expr}{ga gb:G R}{pos:Pos}
theorem aa (i:Nat){x:Str}(hN:X.N[i]?=some x:=by rfl) (hv:jL X.env.scope x:=by first | exact Or.inl rfl | exact Or.inr (Or.inl rfl) | exact Or.inr (Or.inr rfl)) (hd:(x == ("__debug__":Str))=false:=by decide)
  (hcd:(x == ("__classdict__":Str))=false:=by decide):QD X c (.Name x pos) (af i):=⟨JT i hN hv hd hcd⟩
theorem az {i:Int}{j:Nat}:QD X c (.Constant (.int i) j pos) (gC (.int i)):=⟨JI⟩
theorem cT {i:Bool}{j:Nat}:QD X c (.Constant (.bool i) j pos) (gC (.bl i)):=⟨Lx⟩
theorem tW {x:Str}{j:Nat}:QD X c (.Constant (.str x) j pos) (gC (.str x)):=⟨JQ⟩
theorem tX (ha:QD X c a ga) (hb:QD X c b gb):QD X c (.BinOp a .Sub b pos) (g2 qf ga gb):=⟨JR ha.h hb.h⟩
theorem eV (ha:QD X c a ga) (hb:QD X c b gb):QD X c (.BinOp a .FloorDiv b pos) (g2 iI ga gb):=⟨JG ha.h hb.h⟩
theorem cU (ha:QD X c a ga) (hb:QD X c b gb):QD X c (.BinOp a .Mod b pos) (g2 fu ga gb):=⟨JL ha.h hb.h⟩
theorem HJ (ha:QD X c a ga) (hb:QD X c b gb):QD X c (.BinOp a .Pow b pos) (g2 DP ga gb):=⟨JO ha.h hb.h⟩
theorem aq:kP X c [] aI:=⟨GU⟩
theorem ak {es:List Expr}{g:G R}{gs:G (List R)}(h:QD X c e g) (hs:kP X c es gs) (hst:starEach (e::es) X.env=(false,eval e X.env)::starEach es X.env:=by rfl):kP X c (e::es) (ao g gs):=⟨Em h.h hs.h hst⟩
end
section
variable {X:Cx}{c:C}{e a b:Expr}{es:List Expr}{ga gb g:G R}{pos:Pos}
theorem aQ:Bx X c [] aV:=⟨GV⟩
theorem au {gs:G (List D)}(h:QD X c e g) (hs:Bx X c es gs) (hst:starEach (e::es) X.env=(false,eval e X.env)::starEach es X.env:=by rfl):Bx X c (e::es) (aA g gs):=⟨En h.h hs.h hst⟩
theorem bh {k}{gs:G (List D)}(h:Bx X c es gs):QD X c (.Tuple es k pos) (bD gs):=⟨JS h.h⟩
theorem fG {gs:G (List D)}(h:Bx X c es gs):QD X c (.List es pos) (gJ gs):=⟨JK h.h⟩
theorem cD {p:Pos}{gs:G (List R)}(ha:kP X c (e::es) gs) (hm:X.mg "len"=none) (hK:X.K=c.K:=by rfl) (hg:Gl X "len":=by rfl)
  (he:starEach (e::es) X.env=(false,eval e X.env)::starEach es X.env:=by rfl) (hpl:(backTo pos (starEach es X.env)).any (·.1)=false:=by rfl):QD X c (.Call (.Name "len" p) (e::es) [] pos) (gN ez gs):=⟨JJ ha.h hm hK hg he hpl⟩
theorem cB {p:Pos}{gs:G (List R)}(ha:kP X c (e::es) gs) (hm:X.mg "tuple"=none) (hK:X.K=c.K:=by rfl) (hg:Gl X "tuple":=by rfl)
  (he:starEach (e::es) X.env=(false,eval e X.env)::starEach es X.env:=by rfl) (hpl:(backTo pos (starEach es X.env)).any (·.1)=false:=by rfl):QD X c (.Call (.Name "tuple" p) (e::es) [] pos) (gN cM gs):=⟨EB ha.h hm hK hg he hpl⟩
theorem EU {p:Pos}{gs:G (List R)}(ha:kP X c (e::es) gs) (hm:X.mg "list"=none) (hK:X.K=c.K:=by rfl) (hg:Gl X "list":=by rfl)
  (he:starEach (e::es) X.env=(false,eval e X.env)::starEach es X.env:=by rfl) (hpl:(backTo pos (starEach es X.env)).any (·.1)=false:=by rfl):QD X c (.Call (.Name "list" p) (e::es) [] pos) (gN vI gs):=⟨G_ ha.h hm hK hg he hpl⟩
theorem dM (h:QD X c e g) (he:∀whole,isTrue e X.env whole=(do let v <-whole;standAt e.pos;holding [v] (truthy v)):=by intro _;rfl):QB X c e (bB g):=⟨JC h.h he⟩
theorem gX {op:CmpOp}{r:R2}{f:R->R->M R}(ho:cY X (compareOp op) r) (hf:BD c r f) (ha:QD X c a ga) (hb:QD X c b gb) (hm:behindInMarks op b=false:=by first | exact xF _ | rfl):QB X c (.Compare a [op] [b] pos) (bB (g2 f ga gb)):=⟨kD ho hf ha.h hb.h hm⟩
variable {t u:G Bool}{rest:List Expr}
theorem gn (h:wA X c e t):QB X c e t:=⟨pK.pb h.h⟩
theorem qw (h:QB X c a t):wA X c (.BoolOp .And [a] pos) t:=⟨GW h.h⟩
theorem jt (h:QB X c a t):wA X c (.BoolOp .Or [a] pos) t:=⟨JA h.h⟩
theorem pg (h:QB X c a t) (h':wA X c (.BoolOp .And (b::rest) pos) u):wA X c (.BoolOp .And (a::b::rest) pos) (kj t u):=⟨Jx h.h h'.h⟩
theorem jG (h:QB X c a t) (h':wA X c (.BoolOp .Or (b::rest) pos) u):wA X c (.BoolOp .Or (a::b::rest) pos) (jD t u):=⟨Lw h.h h'.h⟩
theorem dJ (h:QB X c a t):QB X c (.UnaryOp .Not a pos) (eE t):=⟨Jz h.h⟩
theorem qy {op}(h:QD X c a ga):QD X c (.BoolOp op [a] pos) ga:=⟨G7 h.h⟩
theorem zH (h:QD X c a ga) (h':QD X c (.BoolOp .And (b::rest) pos) gb):QD X c (.BoolOp .And (a::b::rest) pos) (AB ga gb):=⟨JE h.h h'.h⟩
theorem Kr (h:QD X c a ga) (h':QD X c (.BoolOp .Or (b::rest) pos) gb):QD X c (.BoolOp .Or (a::b::rest) pos) (nY ga gb):=⟨LA h.h h'.h⟩
theorem zK (h:QD X c a ga):QD X c (.UnaryOp .Not a pos) (AG ga):=⟨JN h.h⟩
end
section
variable {X:Cx}{c:C}{e a b tg:Expr}{es:List Expr}{ga gb g:G R}{pos:Pos}{st:Stmt}{rest:List Stmt}{t u:G O}{tb:G Bool}
theorem bx:qH X c [] cX:=⟨Hh⟩
theorem av (h:i6 X c st t) (h':qH X c rest u):qH X c (st::rest) (aL t u):=⟨EC h.h h'.h⟩
theorem aD (h:i6 X c st t):qH X c [st] t:=⟨Hi h.h⟩
theorem lq (h:QD X c e g) (hs:swapsWith e none pos.line X.env=pure false:=by rfl):i6 X c (.Expr e pos) (kW g):=⟨Eo h.h hs⟩
theorem aW (h:QD X c e g):i6 X c (.Return (some e) pos) (bK g):=⟨G2 h.h⟩
theorem bF {x:Expr}{as bs:List Stmt}(hx:QB X c x tb) (h:qH X c as t) (h':qH X c bs u):i6 X c (.If x as bs pos) (bJ tb t u):=⟨JD hx.h h.h h'.h⟩
theorem aS (i:Nat){x:Str}{pos':Pos}(hN:X.N.Nodup) (h:QD X c e g) (hi:X.N[i]?=some x:=by rfl) (hx:Loc X.env.scope x:=by first | exact Or.inl rfl | exact Or.inr rfl) (hs:swapsWith e (some (.Name x pos')) pos.line X.env=pure false:=by rfl)
  (hf:X.fn x=true\/X.env.scope.names.lookup x=some .local:=by first | exact .inl rfl | exact .inr rfl):i6 X c (.Assign [.Name x pos'] e pos) (bw i g):=⟨G3 i hN h.h hi hx hs hf⟩
theorem aG (i:Nat){x:Str}(hN:X.N.Nodup) (hi:X.N[i]?=some x:=by rfl) (hx:Loc X.env.scope x:=by first | exact Or.inl rfl | exact Or.inr rfl) (hf:X.fn x=true\/X.env.scope.names.lookup x=some .local:=by first | exact .inl rfl | exact .inr rfl):lN X c (.Name x pos) (aE i):=⟨EO i hN hi hx hf⟩
theorem bW:Ae X c [] dF:=⟨ER⟩
theorem aT {t:GT}{u:nP}(h:lN X c e t) (h':Ae X c es u) (hs:(assignEach (e::es) X.env).map (·.2)=assign e X.env::(assignEach es X.env).map (·.2):=by rfl):Ae X c (e::es) (br t u):=⟨CL h.h h'.h hs⟩
theorem cG {k:Nat}{u:nP}{n:Nat}(h:Ae X c es u) (hc:X.calm=true:=by rfl) (hK:X.K=c.K:=by rfl) (hn:(assignEach es X.env).length=n:=by rfl) (hst:(assignEach es X.env).findIdx? (·.1)=none:=by rfl):lN X c (.Tuple es k pos) (dg n u):=⟨HC h.h hc hK hn hst⟩
theorem bV {iter:Expr}{body:List Stmt}{gi:G (List D)}{t:GT}(hi:qI X c tg iter gi) (ht:lN X c tg t) (hb:qH X c body u) (hp:PassesOwn (model X.prog X.w) X.A X.env X.xe:=by first | exact PassesOwn.never | exact PassesOwn.leaving) (hc:X.calm=true:=by rfl)
  (hs:∀x,foldedSetIterable iter X.env x=pure x:=by intro _;rfl):i6 X c (.For tg iter body [] pos) (cZ gi t u):=⟨G0 hi.h ht.h hb.h hp hc hs⟩
theorem bL {p:Pos}{gs:G (List R)}(ha:kP X c [a] gs) (hm:X.mg "range"=none) (hg:Gl X "range":=by rfl) (hs:starEach [a] X.env=[(false,eval a X.env)]:=by rfl):qI X c tg (.Call (.Name "range" p) [a] [] pos) (cJ gs):=⟨AX ha.h hm hg hs⟩
theorem yM {p:Pos}{gs:G (List R)}(ha:kP X c [a,b] gs) (hm:X.mg "range"=none) (hg:Gl X "range":=by rfl) (hs:starEach [a,b] X.env=[(false,eval a X.env),(false,eval b X.env)]:=by rfl) (hs2:starEach [b] X.env=[(false,eval b X.env)]:=by rfl):qI X c tg (.Call (.Name "range" p) [a,b] [] pos) (rD gs):=⟨AY ha.h hm hg hs hs2⟩
theorem jr {gi:G (List D)}(h:qI X c tg e gi):wB X c tg e gi:=⟨j4.pic h.h⟩
end
section
variable {X:Cx}{c:C}{e a b tg:Expr}{es:List Expr}{ga gb g:G R}{pos:Pos}
theorem jy (i:Nat){x:Str}{p1 p2 pos':Pos}(h:QD X c e g) (hN:X.N[i]?=some x:=by rfl) (hv:jL X.env.scope x:=by first | exact Or.inl rfl | exact Or.inr (Or.inl rfl) | exact Or.inr (Or.inr rfl)) (hd:(x == ("__debug__":Str))=false:=by decide)
  (hcd:(x == ("__classdict__":Str))=false:=by decide)
  (hbase:attributeBase (.Name x p1) "append" X.env (eval (.Name x p1) X.env)=eval (.Name x p1) X.env:=by rfl)
  (hfew:((backTo pos' (starEach [e] X.env)).all (fun x=>!x.1) && (backToKw pos' (keywordEach [] X.env)).all (fun x=>x.1.isSome)
   && decide (([e]:List Expr).length + ([]:List Keyword).length + (if ([]:List Keyword).isEmpty then 0 else 1) < 30))=true:=by rfl)
  (hline:(p2.endLine == pos'.line)=true:=by rfl) (hst:starEach [e] X.env=(false,eval e X.env)::starEach [] X.env:=by rfl) (hplain:(backTo pos' (starEach [] X.env)).any (·.1)=false:=by rfl)
  (hs:swapsWith (.Call (.Attribute (.Name x p1) "append" p2) [e] [] pos') none pos.line X.env=pure false:=by rfl):i6 X c (.Expr (.Call (.Attribute (.Name x p1) "append" p2) [e] [] pos') pos) (lI i g):=⟨AV i h.h hN hv hd hcd hbase hfew hline hst hplain hs⟩
end
section
variable {X:Cx}{c:C}
theorem cK:lE X c [] fc:=⟨EH⟩
theorem jI {x:Expr}{g:G Bool}(h:QB X c x g):lE X c [x] g:=⟨EI h.h⟩
end
section
variable {K:W.Frag}{J:Hp}{s:Shared}
variable {X:Cx}{c:C}{e a b tg:Expr}{es:List Expr}{ga gb g:G R}{pos:Pos}
theorem kG (hu:X.A.units + 64 < cLine) (ha:QD X c a ga) (hb:QD X c b gb) (hK:X.K=c.K:=by rfl):QD X c (.Compare a [.Eq] [b] pos) (g2 (cR false) ga gb):=⟨Ly hu ha.h hb.h hK⟩
theorem oG (hu:X.A.units + 64 < cLine) (ha:QD X c a ga) (hb:QD X c b gb) (hK:X.K=c.K:=by rfl):QB X c (.Compare a [.Eq] [b] pos) (bB (g2 (cR false) ga gb)):=⟨Ls hu ha.h hb.h hK⟩
theorem mq (hu:X.A.units + 64 < cLine) (ha:QD X c a ga) (hb:QD X c b gb) (hK:X.K=c.K:=by rfl):QB X c (.Compare a [.NotEq] [b] pos) (bB (g2 (cR true) ga gb)):=⟨Lv hu ha.h hb.h hK⟩
theorem mw (hu:X.A.units + 64 < cLine) (ha:QD X c a ga) (hb:QD X c b gb) (hK:X.K=c.K:=by rfl) (hm:behindInMarks .In b=false:=by rfl):QD X c (.Compare a [.In] [b] pos) (g2 (jj false) ga gb):=⟨Lz hu ha.h hb.h hK hm⟩
theorem Kq (hu:X.A.units + 64 < cLine) (ha:QD X c a ga) (hb:QD X c b gb) (hK:X.K=c.K:=by rfl) (hm:behindInMarks .In b=false:=by rfl):QB X c (.Compare a [.In] [b] pos) (bB (g2 (jj false) ga gb)):=⟨Lu hu ha.h hb.h hK hm⟩
end
section
variable {X:Cx}{c:C}{e a b tg:Expr}{es:List Expr}{ga gb g:G R}{pos:Pos}
theorem uF:Fi X c none zo:=⟨EJ⟩
theorem uG (h:QD X c e g):Fi X c (some e) (zp g):=⟨EK h.h⟩
theorem A4 {p:Pos}{gs:G (List R)}(ha:kP X c (e::es) gs) (hm:X.mg "sorted"=none) (hK:X.K=c.K:=by rfl) (hg:Gl X "sorted":=by rfl)
  (he:starEach (e::es) X.env=(false,eval e X.env)::starEach es X.env:=by rfl) (hpl:(backTo pos (starEach es X.env)).any (·.1)=false:=by rfl):QD X c (.Call (.Name "sorted" p) (e::es) [] pos) (gN jW gs):=⟨Cy ha.h hm hK hg he hpl⟩
theorem gP (ha:QD X c a ga) (hb:QD X c b gb):QD X c (.BinOp a .Add b pos) (g2 dU ga gb):=⟨Hg ha.h hb.h⟩
theorem jH (ha:QD X c a ga) (hb:QD X c b gb):QD X c (.BinOp a .Mult b pos) (g2 fY ga gb):=⟨EA ha.h hb.h⟩
theorem aH (ha:QD X c a ga) (hb:QD X c b gb) (hK:X.K=c.K:=by rfl) (hs:jU b:=by exact fun _ _=>rfl):QD X c (.Subscript a b pos) (g2 aX ga gb):=⟨Ex ha.h hb.h hK hs⟩
theorem a_ {k k' n:Nat}{F:List S->M R}{x:Str}{p:Pos}{gs:G (List R)}(G:bS X.prog X.w X.K X.mg X.base k n x F) (hr:dS k' X.A) (ha:kP X c (e::es) gs) (hk:k<=k':=by decide) (hT:c.K=X.K:=by rfl) (hg:Gl X x:=by rfl) (hdb:(x == ("__debug__":Str))=false:=by decide)
  (he:starEach (e::es) X.env=(false,eval e X.env)::starEach es X.env:=by rfl) (hpl:(backTo pos (starEach es X.env)).any (·.1)=false:=by rfl):QD X c (.Call (.Name x p) (e::es) [] pos) (gN (bf n F) gs):=⟨JF G hr ha.h hk hT hg hdb he hpl⟩
theorem kF {t:GT}(h:QD X c e g) (ht:lN X c tg t) (hs:swapsWithSole [tg] e pos.line X.env=pure false:=by rfl) (hw:swappedStores [tg] e X.env=pure none:=by rfl)
  (h1:(assignEach [tg] X.env).map (·.2)=[assign tg X.env]:=by rfl):i6 X c (.Assign [tg] e pos) (kq t g):=⟨G5 h.h ht.h hs hw h1⟩
theorem fh {T:String}{Ts:Str}{p p2:Pos}(kit:vW T) (hT:bootBuiltins Ts=some (.type T)) (mT:X.mg Ts=none)
  (h:QD X c a g) (hm:X.mg "isinstance"=none) (hK:X.K=c.K:=by rfl) (hg:Gl X "isinstance":=by rfl) (Og:Gl X Ts:=by rfl) (hn:Ts≠"__name__":=by decide) (Oc:(Ts == ("__debug__":Str))=false:=by decide)
  (he:starEach [a,.Name Ts p2] X.env=(false,eval a X.env)::starEach [.Name Ts p2] X.env:=by rfl) (NQ:starEach [.Name Ts p2] X.env=(false,eval (.Name Ts p2) X.env)::starEach [] X.env:=by rfl)
  (hpl:(backTo pos (starEach [.Name Ts p2] X.env)).any (·.1)=false:=by rfl):QD X c (.Call (.Name "isinstance" p) [a,.Name Ts p2] [] pos) (rC T g):=⟨Cv kit hT mT h.h hm hK hg Og hn Oc he NQ hpl⟩
theorem gO (ha:QD X c a ga) (hb:QD X c b gb) (hK:X.K=c.K:=by rfl):QD X c (.BinOp a .Add b pos) (g2 dI ga gb):=⟨G6 ha.h hb.h hK⟩
theorem zL {lo hi:Option Expr}{gl gh:GO}{p2:Pos}(h:QD X c e g) (hl:Fi X c lo gl) (hh:Fi X c hi gh) (hK:X.K=c.K:=by rfl):QD X c (.Subscript e (.Slice lo hi none p2) pos) (xg qe g gl gh):=⟨JP h.h hl.h hh.h hK⟩
theorem uD {d:D}{x:Str}(h:zZ X.K X.mg x d) (hK:X.K=c.K:=by rfl) (hg:Gl X x:=by rfl) (hd:(x == ("__debug__":Str))=false:=by decide):QD X c (.Name x pos) (gC d):=⟨Ew h hK hg hd⟩
end
section
variable {X:Cx}{c:C}{e a b tg:Expr}{es:List Expr}{ga gb g:G R}{pos:Pos}{st:Stmt}{t u:G O}{tb:G Bool}
theorem nk:i6 X c st rB:=⟨Cr⟩
theorem zJ (h:QD X c a g):QD X c (.UnaryOp .USub a pos) (tG g):=⟨JM h.h⟩
theorem pq (h:QD X c e g) (hK:X.K=c.K:=by rfl) (he:∀whole,isTrue e X.env whole=(do let v <-whole;standAt e.pos;holding [v] (truthy v)):=by intro _;rfl):QB X c e (qi g):=⟨JB h.h hK he⟩
theorem yK (i j:Nat){x y:Str}{p1 p2 pos' q1 q2 q3:Pos}(h:QD X c e g) (hi:X.N[i]?=some x:=by rfl) (OE:jL X.env.scope x:=by first | exact Or.inl rfl | exact Or.inr (Or.inl rfl) | exact Or.inr (Or.inr rfl)) (hdx:(x == ("__debug__":Str))=false:=by decide) (Oa:(x == ("__classdict__":Str))=false:=by decide)
  (hj:X.N[j]?=some y:=by rfl) (OF:jL X.env.scope y:=by first | exact Or.inl rfl | exact Or.inr (Or.inl rfl) | exact Or.inr (Or.inr rfl)) (Oe:(y == ("__debug__":Str))=false:=by decide) (Ob:(y == ("__classdict__":Str))=false:=by decide)
  (hbase:attributeBase (.Name x p1) "append" X.env (eval (.Name x p1) X.env)=eval (.Name x p1) X.env:=by rfl)
  (hfew:((backTo pos' (starEach [.Call (.Attribute (.Name y q1) "pop" q2) [e] [] q3] X.env)).all (fun x=>!x.1) && (backToKw pos' (keywordEach [] X.env)).all (fun x=>x.1.isSome)
   && decide (([.Call (.Attribute (.Name y q1) "pop" q2) [e] [] q3]:List Expr).length + ([]:List Keyword).length + (if ([]:List Keyword).isEmpty then 0 else 1) < 30))=true:=by rfl)
  (hline:(p2.endLine == pos'.line)=true:=by rfl)
  (hst:starEach [.Call (.Attribute (.Name y q1) "pop" q2) [e] [] q3] X.env=(false,eval (.Call (.Attribute (.Name y q1) "pop" q2) [e] [] q3) X.env)::starEach [] X.env:=by rfl) (hplain:(backTo pos' (starEach [] X.env)).any (·.1)=false:=by rfl)
  (Nt:attributeBase (.Name y q1) "pop" X.env (eval (.Name y q1) X.env)=eval (.Name y q1) X.env:=by rfl)
  (NB:((backTo q3 (starEach [e] X.env)).all (fun x=>!x.1) && (backToKw q3 (keywordEach [] X.env)).all (fun x=>x.1.isSome)
   && decide (([e]:List Expr).length + ([]:List Keyword).length + (if ([]:List Keyword).isEmpty then 0 else 1) < 30))=true:=by rfl)
  (Nv:(q2.endLine == q3.line)=true:=by rfl) (NL:starEach [e] X.env=(false,eval e X.env)::starEach [] X.env:=by rfl) (Nr:(backTo q3 (starEach [] X.env)).any (·.1)=false:=by rfl)
  (hs:swapsWith (.Call (.Attribute (.Name x p1) "append" p2) [.Call (.Attribute (.Name y q1) "pop" q2) [e] [] q3] [] pos') none pos.line X.env=pure false:=by rfl):i6 X c (.Expr (.Call (.Attribute (.Name x p1) "append" p2) [.Call (.Attribute (.Name y q1) "pop" q2) [e] [] q3] [] pos') pos) (jX i j g):=⟨AU i j h.h hi OE hdx Oa hj OF Oe Ob hbase hfew hline hst hplain Nt NB Nv NL Nr hs⟩
end
section
variable {X:Cx}{c:C}{e a b tg:Expr}{es:List Expr}{ga gb g:G R}{pos:Pos}
theorem yL (i:Nat){x:Str}{p1 p2 pos':Pos}(h:QD X c e g) (hN:X.N[i]?=some x:=by rfl) (hv:jL X.env.scope x:=by first | exact Or.inl rfl | exact Or.inr (Or.inl rfl) | exact Or.inr (Or.inr rfl)) (hd:(x == ("__debug__":Str))=false:=by decide)
  (hcd:(x == ("__classdict__":Str))=false:=by decide)
  (hbase:attributeBase (.Name x p1) "extend" X.env (eval (.Name x p1) X.env)=eval (.Name x p1) X.env:=by rfl)
  (hfew:((backTo pos' (starEach [e] X.env)).all (fun x=>!x.1) && (backToKw pos' (keywordEach [] X.env)).all (fun x=>x.1.isSome)
   && decide (([e]:List Expr).length + ([]:List Keyword).length + (if ([]:List Keyword).isEmpty then 0 else 1) < 30))=true:=by rfl)
  (hline:(p2.endLine == pos'.line)=true:=by rfl) (hst:starEach [e] X.env=(false,eval e X.env)::starEach [] X.env:=by rfl) (hplain:(backTo pos' (starEach [] X.env)).any (·.1)=false:=by rfl)
  (hs:swapsWith (.Call (.Attribute (.Name x p1) "extend" p2) [e] [] pos') none pos.line X.env=pure false:=by rfl) (hK:X.K=c.K:=by rfl):i6 X c (.Expr (.Call (.Attribute (.Name x p1) "extend" p2) [e] [] pos') pos) (tF i g):=⟨AW i h.h hN hv hd hcd hbase hfew hline hst hplain hs hK⟩
end
section
variable {X:Cx}{c:C}{e a b d tg:Expr}{es:List Expr}{ga gb g:G R}{pos:Pos}
theorem gQ (h:QD X c e g) (hK:X.K=c.K:=by rfl):qI X c tg e (ku g):=⟨Hv h.h hK⟩
theorem fB (h:QD X c e g) (hK:X.K=c.K:=by rfl):wB X c tg e (jb g):=⟨Hu h.h hK⟩
end
section
variable {X:Cx}{c:C}{st:Stmt}{g:G O}
theorem qx (i:Nat) (h:i6 X c st g):i6 X c st (jK i g):=⟨G1 i h.h⟩
end
section
variable {X:Cx}{c:C}
theorem bR {P:Program}{w:World}{K:W.Frag}{mg:Str->Option Value}{base:Heap}{x qual:Str}{st:Stmt}{f:Addr}{fd:FuncData}{N ps:List Str}{k:Nat}{Fm:List S->M R}(F:dR K x qual st f fd) (hm:mg x=some (.ref f)) (Sc:bC N ps (ay st))
  (hbi:∀(kV doc pm:Value) (an:Option Addr) (cdv ct:Value) (us:List Value),us.length=ps.length->bindArgs (W.fnOf x qual (aO st) (aM st) (ay st) .none kV doc pm an cdv ct) ⟨us,[]⟩=pure (ps.zip us)){gB:G O}
  (hb:∀(cdv:Value) (A:Around) (outer:List Env) (s:Shared) (H:Hp) (E:XK) (J:Hp) (T:Exc->Prop),dS k (A.deeper (envOfC qual (ay st) s.heap.objs.size f cdv))->
   qH (Fq P w K mg base N qual (ay st) f cdv A outer s H E) ⟨K,H,J,T⟩ (aM st) gB)
  (hF:∀as r,as.length=ps.length->Fm as=.ok r->fin (gB (bH N as))=.ok r):bS P w K mg base (k + 1) ps.length x Fm:=
 IB F hm Sc hbi (fun cdv A outer s H E J T hr=>(hb cdv A outer s H E J T hr).h) hF
theorem HE {P:Program}{w:World}{K:W.Frag}{mg:Str->Option Value}{base:Heap}{x qual:Str}{st:Stmt}{f:Addr}{fd:FuncData}{N ps:List Str}{k:Nat}{Fm:List S->M R}(F:dR K x qual st f fd) (Sc:bC N ps (ay st)){gB:G O}
  (hb:∀(cdv:Value) (A:Around) (outer:List Env) (s:Shared) (H:Hp) (E:XK) (J:Hp) (T:Exc->Prop),dS k (A.deeper (envOfC qual (ay st) s.heap.objs.size f cdv))->
   qH (Fq P w K mg base N qual (ay st) f cdv A outer s H E) ⟨K,H,J,T⟩ (aM st) gB)
  (hF:∀as r,as.length=ps.length->Fm as=.ok r->fin (gB (bH N as))=.ok r):jl P w K mg base nD (k + 1) f fd ps (sD K ps.length Fm):=
 BW F Sc (fun cdv A outer s H E J T hr=>(hb cdv A outer s H E J T hr).h) hF
end
end DL
namespace K01
open PySem DL
def Bv:List Str:=["thing"]
def oj:G O:=(bK (AB (rC "int" (af 0)) (AG (rC "bool" (af 0)))))
def gE (as:List S):M R:=fin (oj (bH Bv as))
theorem fz {n:Nat}(h:n<=1000):n<=sizeLine:=Nat.le_trans h (by decide)
theorem jV {α:Type}{xs:List α}{k:Nat}{x:α}(h:xs[k]?=some x):L2.kQ xs (k:Int)=some x:=by
 have hk:k < xs.length:=(List.getElem?_eq_some_iff.mp h).1
 unfold L2.kQ L2.xm
 rw [if_pos (by omega),if_pos (by omega)]
 simpa using h
theorem iP {xs:List D}{k:Nat}{x:D}(h:xs[k]?=some x):aX (.d (.tup xs)) (.d (.int k))=.ok (.d x):=by
 unfold aX
 simp only [iO,aN,jV h]
theorem qW {m:Md}{xs:List D}{k:Nat}{x:D}(h:xs[k]?=some x):aX (.l m xs) (.d (.int k))=.ok (.d x):=by
 unfold aX
 simp only [iO,aN,jV h]
theorem Gq {z:Str}{k:Nat}{c:Nat}(hz:z.length<=1000) (h:z.cps.toList[k]?=some c):aX (.d (.str z)) (.d (.int k))=.ok (.d (.str ⟨#[c]⟩)):=by
 unfold aX
 simp only [fz hz,if_true,jV h]
theorem jY (xs:List D):ez [.d (.tup xs)]=.ok (.d (.int xs.length)):=rfl
theorem eq_int (neg:Bool) (i j:Int):cR neg (.d (.int i)) (.d (.int j))=.ok (.d (.bl (if neg then !(i == j) else i == j))):=rfl
theorem kY (a:D) (r:List D):aX (.d (.tup (a::r))) (.d (.int 0))=.ok (.d a):=iP (k:=0) rfl
theorem uq (a b:D) (r:List D):aX (.d (.tup (a::b::r))) (.d (.int 1))=.ok (.d b):=iP (k:=1) rfl
theorem M6 (a b c:D) (r:List D):aX (.d (.tup (a::b::c::r))) (.d (.int 2))=.ok (.d c):=iP (k:=2) rfl
theorem MF (n:Nat) (h:n<=1000):below 4611686018427387904 (n:Int)=true:=cj.mpr ⟨by omega,by omega⟩
def FJ (j:Int):M (List D):=if below 4611686018427387904 j then .ok (dO 0 j.toNat) else .bad
theorem CU (j:Int) (h:below 4611686018427387904 j=true):FJ j=.ok (dO 0 j.toNat):=by unfold FJ;exact if_pos h
theorem CT {gs:G (List R)}{env:Ev}{j:Int}(hg:gs env=.ok [.d (.int j)]):cJ gs env=FJ j:=by
 unfold cJ FJ
 rw [hg]
 rfl
theorem qz {gs:G (List R)}{env:Ev}{n:Nat}(hg:gs env=.ok [.d (.int (n:Int))]) (h:n<=1000):cJ gs env=.ok (dO 0 n):=by
 rw [CT hg,CU _ (MF n h)]
 exact congrArg (fun k=>M.ok (dO 0 k)) (Int.toNat_natCast n)
theorem IL {g:G (List D)}{t:GT}{u:G O}{env:Ev}{ds:List D}(h:g env=.ok ds):cZ g t u env=fD t u ds env:=by
 unfold cZ
 rw [h]
 rfl
theorem yj (i j:Int):dU (.d (.int i)) (.d (.int j))=.ok (.d (.int (i + j))):=rfl
theorem Az {C:Int->Int->Bool}{f:Int->Int->D}{i j:Int}(h:C i j=true):fI C f (.d (.int i)) (.d (.int j))=.ok (.d (f i j)):=by
 show (if C i j=true then M.ok (R.d (f i j)) else M.bad)=_
 rw [if_pos h]
theorem HZ (i j:Int) (h1:-(2 ^ 64) < j) (h2:j < 2 ^ 64):fY (.d (.int i)) (.d (.int j))=.ok (.d (.int (i * j))):=Az (C:=xo) (f:=fun i j=>.int (i * j)) (by unfold xo;rw [Bool.or_eq_true];exact Or.inr (cj.mpr ⟨h1,h2⟩))
theorem pC (i j:Int) (h1:0 < j) (h2:j < 1073741824):iI (.d (.int i)) (.d (.int j))=.ok (.d (.int (i / j))):=Az (by
 unfold AK
 rw [Bool.and_eq_true]
 exact ⟨decide_eq_true h1,cj.mpr ⟨by omega,h2⟩⟩)
theorem iD (i j:Int) (h1:0 < j):fu (.d (.int i)) (.d (.int j))=.ok (.d (.int (i % j))):=Az (decide_eq_true h1)
theorem FQ (x y:Str) (h:x.length + y.length<=1000):dU (.d (.str x)) (.d (.str y))=.ok (.d (.str (x++y))):=by
 show (if x.length + y.length<=sizeLine then M.ok (R.d (D.str (x++y))) else M.bad)=_
 rw [if_pos (fz h)]
theorem FP (x:Str) (n:Int) (h0:0<=n) (h:n<=1000) (hx:x.length<=1000):fY (.d (.str x)) (.d (.int n))=.ok (.d (.str (iM x n.toNat))):=by
 show (if 0<=n/\n<=1000/\x.length<=1000 then M.ok (R.d (D.str (iM x n.toNat))) else M.bad)=_
 rw [if_pos ⟨h0,h,hx⟩]
def Ir:Str:="abcdefghijklmnopqrstuvwxyz"
theorem Iu:∀k:Fin 26,Ir.cps.toList[k.val]?=some (97 + k.val):=by decide +kernel
theorem FY:Ir.length<=1000:=by decide +kernel
theorem B9 (i:Int) (h0:0<=i) (h:i < 26):aX (.d (.str "abcdefghijklmnopqrstuvwxyz")) (.d (.int i))=.ok (.d (.str ⟨#[97 + i.toNat]⟩)):=by
 have e:i=((i.toNat:Nat):Int):=by omega
 have:=Gq (z:=Ir) (k:=i.toNat) FY (Iu ⟨i.toNat,by omega⟩)
 rw [e]
 exact this
theorem rA (c:Array Nat):∀(k:Nat) (acc:Array Nat),((List.replicate k c).foldl (·++·) acc).toList=acc.toList++(List.replicate k c.toList).flatten
 | 0,acc=>by simp
 | k + 1,acc=>by
  rw [List.replicate_succ,List.foldl_cons,rA c k]
  simp [List.replicate_succ]
theorem Gk (b n:Nat):(iM ⟨#[b]⟩ n).cps.toList=List.replicate n b:=by
 unfold iM
 simp only
 rw [rA]
 induction n with
 | zero=>rfl
 | succ n ih=>simpa [List.replicate_succ] using ih
theorem GF (x:Str):x.length=x.cps.toList.length:=by
 show x.cps.size=_
 simp
theorem strs_map:∀(ss:List Str),strsOf (ss.map .str)=some ss
 | []=>rfl
 | s::r=>by
  simp only [List.map_cons,strsOf,strs_map r]
  rfl
theorem sorted_strs (m:Md) (ss:List Str) (h:ss.length < 64):jW [.l m (ss.map .str)]=.ok (.l .fresh ((pA ss).map .str)):=by
 unfold jW
 simp only [lQ,aN,strs_map,h,if_true]
theorem xh {b:G Bool}{t u:G O}{env:Ev}(h:b env=.ok false):bJ b t u env=u env:=by
 unfold bJ
 rw [h]
 rfl
theorem tL {b:G Bool}{t u:G O}{env:Ev}(h:b env=.ok true):bJ b t u env=t env:=by
 unfold bJ
 rw [h]
 rfl
theorem Lm {g:G R}{f:List R->M R}{env:Ev}{r r':R}(h:g env=.ok r) (hf:f [r]=.ok r'):gN f (ao g aI) env=.ok r':=by
 unfold gN ao
 rw [h]
 exact hf
theorem KC {g:G R}{env:Ev}{r r':R}(h:g env=.ok r) (h2:rF r=.ok r'):bK g env=.ok (.rt r'):=by
 unfold bK
 rw [h,aN,h2]
 rfl
abbrev dN (k:Nat):D:=.int k
abbrev dP (p:Nat×Nat):D:=.tup [.int p.1,.int p.2]
def kC (p q:Nat×Nat):Prop:=p.1 < q.1\/(p.1=q.1/\p.2 < q.2)
def vF (m:Nat) (xs:List Nat):Prop:=xs.length<=8/\xs.Pairwise (· < ·)/\∀x∈xs,x < m
def qG (m:Nat) (ps:List (Nat×Nat)):Prop:=ps.length<=64/\ps.Pairwise kC/\∀p∈ps,p.1 < m/\p.2 < m
structure Wd where
 m:Nat
 ms:List (Str×List Nat)
 ar:List (Str×List (Nat×Nat))
abbrev gR (r:Str×List Nat):D:=.tup [.str r.1,.tup (r.2.map dN)]
abbrev je (r:Str×List (Nat×Nat)):D:=.tup [.str r.1,.tup (r.2.map dP)]
def Wd.d (w:Wd):D:=.tup [.int w.m,.tup (w.ms.map gR),.tup (w.ar.map je)]
theorem uK {K:W.Frag}{J:L2.Hp}:∀(ns:List Int),aF K J (ns.map D.int) (ns.map L2.V.int)
 | []=>.nil
 | n::r=>.cons (.int n) (uK r)
end K01
namespace DX
open PySem PySem.Spec
open Builtin Builtin.ObjectAttr
end DX
namespace DX
open PySem PySem.Spec
end DX
namespace DX
open PySem PySem.Spec PyProof.Rows L2
end DX
namespace DL
open PySem PySem.Spec PyProof.Rows L2 DX
end DL
namespace DX
open PySem PySem.Spec PyProof.Rows L2
end DX
namespace DL
open PySem PySem.Spec PyProof.Rows L2 DX
end DL
namespace DX
open PySem PySem.Spec PyProof.Rows L2
end DX
namespace DL
open PySem PySem.Spec PyProof.Rows L2 DX
end DL
namespace DX
open PySem PySem.Spec PyProof.Rows L2
open Sem (wp)
end DX
namespace DL
open PySem PySem.Spec PyProof.Rows L2 DX
end DL
namespace DL
open PySem PySem.Spec PyProof.Rows L2
def sP (A:Around) (s:Shared) (y x:Value) (b:Bool):Prop:=
 ∀(prog:Program) (w:World) (E:Value->Shared->Prop) (Q:Value->Shared->Prop),Q (.bool b) s->wpAny (model prog w) A (richCompare .Lt y x) Q E s
inductive gf (A:Around) (s:Shared) (fin:Bool):List (Value×Value)->Bool->Prop
 | nil:gf A s fin [] fin
 | yes {x y:Value}{r:List (Value×Value)}{b:Bool}:SeqAt.EqAt A s x y true->gf A s fin r b->gf A s fin ((x,y)::r) b
 | no {x y:Value}{r:List (Value×Value)}{b:Bool}:SeqAt.EqAt A s x y false->sP A s x y b->gf A s fin ((x,y)::r) b
section
open PySem.SeqAt
open PySem.AutoSeq1 (wpAny_loadPart')
open PySem.MeetsSeq PySem.MeetsSeq2 PySem.MeetsSeq3
theorem Dd (l b:Addr) (items items2:Array Value) (n n2:Nat) (dd dd2:Option Addr) (sl sl2:Array (Option Value)) (ans:Bool):
  Meets (Builtin.«tuple.__lt__» ⟨[.ref l,.ref b],[]⟩)
   (fun A R s=>s.heap.get? l=some {cls:=.type "tuple",dict:=dd,data:=.seq items n,slots:=sl}/\s.heap.get? b=some {cls:=.type "tuple",dict:=dd2,data:=.seq items2 n2,slots:=sl2}/\
    gf A.in1 s (decide (items.size < items2.size)) (items.toList.zip items2.toList) ans/\R (.ok (.ret (.bool ans))) s):=
 .of_wp fun prog w A R s h=>by
  obtain ⟨hp,g,d,tk,os⟩:=s;obtain ⟨hl,hb,hP,h⟩:=h
  have f2:=AutoSeq1.sub_tuple_tuple
  wp_walk using wpAny_loadPart' hl,wpAny_loadPart' hb,wpAny_forIn_list _ (fun rest b s'=>b.1=none/\s'=⟨hp,g,d,tk,os⟩/\gf A.in1 ⟨hp,g,d,tk,os⟩ (decide (items.size < items2.size)) rest ans) _
  case turn=>
   rintro ⟨y,x⟩ rest b s' ⟨hb',rfl,hq⟩
   cases hq with
   | yes he hr=>
    refine wpAny_bind (he prog w _ _ ?_)
    wp_walk
    exact ⟨rfl,rfl,hr⟩
   | no he hlt=>
    refine wpAny_bind (he prog w _ _ ?_)
    have Ox:=hlt prog w
    wp_walk using Ox
    exact ⟨_,rfl,by simpa using h⟩
  case fin=>
   rintro ⟨b1,b2⟩ s' ⟨hb',rfl,hq⟩
   simp only at hb'
   subst hb'
   cases hq
   wp_walk
   exact ⟨_,rfl,by simpa [Builtin.Tuple.tupleCompareSizes] using h⟩
  case h=>
   exact ⟨rfl,rfl,hP⟩
end
section
variable {K:W.Frag}{J:Hp}{s:Shared}
theorem GI {A:Around}{l b:Addr}{items items2:Array Value}{ans:Bool}(hl:s.heap.IsTuple l items) (hb:s.heap.IsTuple b items2) (hP:gf A.in1 s (decide (items.size < items2.size)) (items.toList.zip items2.toList) ans)
  (hu:A.units < cLine):sP A s (.ref l) (.ref b) ans:=fun prog w E Q h=>by
 obtain ⟨⟨cls,dd,data,sl⟩,ho,hc,n,hd⟩:=id hl
 obtain ⟨⟨cls2,dd2,data2,sl2⟩,ho2,hc2,n2,hd2⟩:=id hb
 simp only at hc hd hc2 hd2
 subst hc hd hc2 hd2
 exact richCompare_meets_room (op:=.Lt) ⟨_,ho,rfl⟩ ⟨_,ho2,rfl⟩ PySem.F.slot_tuple_lt PySem.F.entry_tuple_lt (PySem.F.args_tuple_lt_2 _ _) (Dd l b items items2 n n2 dd dd2 sl sl2 ans)
  ⟨ho,ho2,hP,show Value.bool ans≠Value.notImplemented/\Q (.bool ans) s from ⟨(fun x=>nomatch x),h⟩⟩ hu
mutual
def cA:D->D->Option Bool
 | .bl p,y=>match y with
  | .bl q=>some (!p && q)
  | _=>none
 | .int i,y=>match y with
  | .int j=>some (decide (i < j))
  | _=>none
 | .str x,y=>match y with
  | .str z=>some (decide (x.cps.toList < z.cps.toList))
  | _=>none
 | .tup xs,y=>match y with
  | .tup ys=>gK xs ys
  | _=>none
 | _,_=>none
def gK:List D->List D->Option Bool
 | [],ys=>some (!ys.isEmpty)
 | x::xs,ys=>match ys with
  | []=>some false
  | y::ys=>if aZ x y=true then gK xs ys else cA x y
end
theorem GH (A:Around){p:Bool}{e:D}{w:V}{u':Value}{b:Bool}(h:cA (.bl p) e=some b) (re:Rep K J e w) (rw':RelV w u'):sP A s (.bool p) u' b:=by
 unfold cA at h
 cases e with
 | bl q=>
  cases re
  cases rw'
  simp only [Option.some.injEq] at h
  subst h
  intro prog w E Q hq
  refine (lt_bool (p:=p) (q:=q) ?_:wpAny (model prog w) A (compareOp .Lt (.bool p) (.bool q)) Q E s)
  cases p <;> cases q <;> exact hq
 | _=>cases h
theorem D9 (A:Around){p:Int}{t:Tok}{e:D}{w:V}{u':Value}{b:Bool}(h:cA (.int p) e=some b) (re:Rep K J e w) (rw':RelV w u'):sP A s (.int p t) u' b:=by
 unfold cA at h
 cases e with
 | int q=>
  cases re
  obtain ⟨t',rfl⟩:=rw'
  simp only [Option.some.injEq] at h
  subst h
  intro prog w E Q hq
  exact (PyProof.Rows.lt_int hq:wpAny (model prog w) A (compareOp .Lt (.int p t) (.int q t')) Q E s)
 | _=>cases h
theorem D_ (A:Around){p:Str}{t:Tok}{e:D}{w:V}{u':Value}{b:Bool}(h:cA (.str p) e=some b) (re:Rep K J e w) (rw':RelV w u'):sP A s (.str p t) u' b:=by
 unfold cA at h
 cases e with
 | str q=>
  cases re
  obtain ⟨t',rfl⟩:=rw'
  simp only [Option.some.injEq] at h
  subst h
  intro prog w E Q hq
  exact (PyProof.Rows.lt_str hq:wpAny (model prog w) A (compareOp .Lt (.str p t) (.str q t')) Q E s)
 | _=>cases h
def Ds (K:W.Frag) (J:Hp) (s:Shared) (d:D):Prop:=∀{e:D}{v w:V}{u u':Value}{b:Bool}(A:Around),cA d e=some b->Rep K J d v->Rep K J e w->RelV v u->RelV w u'->A.units + dep d < cLine->dep d<=1000->dep e<=1000->sP A s u u' b
def qF (K:W.Frag) (J:Hp) (s:Shared) (ds:List D):Prop:=∀{es:List D}{vs ws:List V}{us us':List Value}{b:Bool}{n1 n2:Nat}(A:Around),gK ds es=some b->aF K J ds vs->aF K J es ws->Vals vs us->Vals ws us'->A.units + deps ds < cLine->deps ds<=1000->deps es<=1000->
  us.length + n2=us'.length + n1->gf A s (decide (n1 < n2)) (us.zip us') b
theorem Ea (F:HF K J s){ds:List D}(ih:qF K J s ds):Ds K J s (.tup ds):=by
 intro e v w u u' b A h rd re rv rw' hu k1 k2
 unfold cA at h
 cases e with
 | tup es=>
  simp only at h
  cases rd with
  | tup h1 hs=>
   cases re with
   | tup h2 hs'=>
    cases rv;cases rw'
    obtain ⟨its,r,p⟩:=F.t _ _ h1
    obtain ⟨its',r',p'⟩:=F.t _ _ h2
    refine GI p p' ?_ (by unfold dep at hu;omega)
    have:=ih A.in1 (n1:=its.length) (n2:=its'.length) h hs hs' r r' (by rw [in1_units];unfold dep at hu;omega) (by unfold dep at k1;omega) (by unfold dep at k2;omega) (by omega)
    simpa using this
 | _=>cases h
theorem Ce:qF K J s []:=by
 intro es vs ws us us' b n1 n2 A h rd re rv rw' hu k1 k2 hl
 cases rd;cases rv
 cases re with
 | nil=>
  cases rw'
  simp only [gK,List.isEmpty_nil,Bool.not_true,Option.some.injEq] at h
  subst h
  have:decide (n1 < n2)=false:=decide_eq_false (by simp at hl;omega)
  rw [this]
  exact .nil
 | cons _ _=>
  cases rw'
  simp only [gK,List.isEmpty_cons,Bool.not_false,Option.some.injEq] at h
  subst h
  have:decide (n1 < n2)=true:=decide_eq_true (by simp at hl;omega)
  rw [this]
  exact .nil
theorem AN (F:HF K J s){x:D}{xs:List D}(ix:Ds K J s x) (ih:qF K J s xs):qF K J s (x::xs):=by
 intro es vs ws us us' b n1 n2 A h rd re rv rw' hu k1 k2 hl
 cases rd with
 | cons q1 r1=>
  cases rv with
  | cons t1 u1=>
   cases re with
   | nil=>
    cases rw'
    simp only [gK,Option.some.injEq] at h
    subst h
    have:decide (n1 < n2)=false:=decide_eq_false (by simp at hl;omega)
    rw [this]
    exact .nil
   | cons q2 r2=>
    cases rw' with
    | cons t2 u2=>
     unfold deps at hu k1 k2
     rename_i y v' ys ws' u0 us0
     have he:=lT F A q1 q2 t1 t2 (by omega) (by omega) (by omega)
     simp only [gK] at h
     cases z:aZ x y with
     | true=>
      rw [z,if_pos rfl] at h
      rw [z] at he
      exact .yes he (ih A h r1 r2 u1 u2 (by omega) (by omega) (by omega) (by simp at hl;omega))
     | false=>
      rw [z,if_neg Bool.false_ne_true] at h
      rw [z] at he
      exact .no he (ix A h q1 q2 t1 t2 (by omega) (by omega) (by omega))
mutual
theorem Jj (F:HF K J s):∀d:D,Ds K J s d
 | .bl p=>fun A h rd re rv rw' _ _ _=>by cases rd;cases rv;exact GH A h re rw'
 | .int p=>fun A h rd re rv rw' _ _ _=>by cases rd;obtain ⟨t,rfl⟩:=rv;exact D9 A h re rw'
 | .str p=>fun A h rd re rv rw' _ _ _=>by cases rd;obtain ⟨t,rfl⟩:=rv;exact D_ A h re rw'
 | .tup ds=>Ea F (vK F ds)
 | .non=>fun A h _ _ _ _ _ _ _=>by unfold cA at h;cases h
 | .lst _=>fun A h _ _ _ _ _ _ _=>by unfold cA at h;cases h
 | .emp=>fun A h _ _ _ _ _ _ _=>by unfold cA at h;cases h
 | .exn _ _ _=>fun A h _ _ _ _ _ _ _=>by unfold cA at h;cases h
 | .dct _ _=>fun A h _ _ _ _ _ _ _=>by unfold cA at h;cases h
theorem vK (F:HF K J s):∀ds:List D,qF K J s ds
 | []=>Ce
 | x::xs=>AN F (Jj F x) (vK F xs)
end
end
end DL
namespace DL
open PySem PySem.Spec PyProof.Rows L2
open PySem.W (KasT kas_sort kas_asc kas_desc kas_rev kas_tail3 kas_descPart kas_count kas_place kas_bin)
def aU {α:Type}(q:Nat->Nat->Bool):KasT α->α
 | .ret a=>a
 | .ask i j k=>aU q (k (q i j))
inductive fE (n:Nat){α:Type}(P:α->Prop):KasT α->Prop
 | ret {a:α}:P a->fE n P (.ret a)
 | ask {i j:Nat}{k:Bool->KasT α}:i < n->j < n->(∀b,fE n P (k b))->fE n P (.ask i j k)
theorem fE.bind {n:Nat}{α β:Type}{P:α->Prop}{R:β->Prop}{f:α->KasT β}{t:KasT α}(h:fE n P t) (hf:∀a,P a->fE n R (f a)):fE n R (t.bind f):=by
 induction h with
 | ret p=>exact hf _ p
 | ask h1 h2 _ ih=>exact .ask h1 h2 ih
theorem fE.run {n:Nat}{α:Type}{P:α->Prop}{t:KasT α}(q:Nat->Nat->Bool) (h:fE n P t):P (aU q t):=by
 induction h with
 | ret p=>exact p
 | ask _ _ _ ih=>exact ih _
theorem fE.wp {n:Nat}{α:Type}{P:α->Prop}{t:KasT α}{q:Nat->Nat->Bool}{cmp:Nat->Nat->(Bool->Shared->Prop)->Shared->Prop}{s:Shared}{G:α->Shared->Prop}(h:fE n P t)
  (hc:∀i j C,i < n->j < n->C (q i j) s->cmp i j C s) (hG:G (aU q t) s):t.kasWp cmp G s:=by
 induction h with
 | ret p=>exact hG
 | ask h1 h2 _ ih=>exact hc _ _ _ h1 h2 (ih _ hG)
def dZ (n:Nat) (p:Array Nat):Prop:=p.Perm (List.range n).toArray
theorem dZ.lt {n:Nat}{p:Array Nat}(h:dZ n p) (hn:0 < n) (k:Nat):p.getD k 0 < n:=by
 by_cases hk:k < p.size
 ·have e:p.getD k 0=p[k]:=by simp [Array.getD,hk]
  rw [e]
  have hm:p[k]∈p:=Array.getElem_mem hk
  have:=(Array.Perm.mem_iff h).mp hm
  simpa using this
 ·have e:p.getD k 0=0:=by simp [Array.getD,hk]
  rw [e];exact hn
theorem dZ.rev {n:Nat}{p:Array Nat}(h:dZ n p) (i j:Nat):dZ n (kas_rev p i j):=(mirror_perm _ _ _ _).trans h
theorem dZ.bub {n:Nat}{p:Array Nat}(h:dZ n p) (i j:Nat):dZ n (bubble p i j):=(bubble_perm _ _ _).trans h
variable {n:Nat}
theorem Ak {p:Array Nat}(hn:0 < n) (h:dZ n p):∀f m,fE n (fun _:Nat=>True) (kas_asc p f m)
 | 0,m=>.ret trivial
 | f + 1,m=>.ask (h.lt hn _) (h.lt hn _) fun b=>by cases b with
  | true=>exact .ret trivial
  | false=>exact Ak hn h f (m + 1)
theorem qM (hn:0 < n):∀f {p:Array Nat} m q,dZ n p->fE n (fun r:Array Nat×Nat×Nat=>dZ n r.1) (kas_desc f p m q)
 | 0,p,m,q,h=>.ret h
 | f + 1,p,m,q,h=>.ask (h.lt hn _) (h.lt hn _) fun b=>by
  cases b with
  | true=>
   simp only [if_true]
   by_cases hq:q > 0
   ·rw [if_pos hq];exact qM hn f _ _ (h.rev _ _)
   ·rw [if_neg hq];exact qM hn f _ _ h
  | false=>
   simp only [Bool.false_eq_true,if_false]
   refine .ask (h.lt hn _) (h.lt hn _) fun b=>?_
   cases b with
   | true=>exact .ret h
   | false=>exact qM hn f _ _ h
theorem BC (hn:0 < n){p:Array Nat}(h:dZ n p) (m k:Nat):fE n (fun r:Nat×Array Nat=>dZ n r.2) (kas_tail3 m k p):=(Ak hn (h.rev 0 m) _ _).bind fun a _=>.ret (h.rev _ _)
theorem zc (hn:0 < n){p:Array Nat}(h:dZ n p) (m k:Nat):fE n (fun r:Nat×Array Nat=>dZ n r.2) (kas_descPart m k p):=(qM hn _ _ _ h).bind fun r hr=>by
 split
 ·exact BC hn (hr.rev _ _) _ _
 ·exact BC hn hr _ _
theorem Ge (hn:0 < n){p:Array Nat}(h:dZ n p) (k:Nat):fE n (fun r:Nat×Array Nat=>dZ n r.2) (kas_count k p):=(Ak hn h _ _).bind fun m _=>by
 split
 ·exact .ret h
 ·split
  ·refine .ask (h.lt hn _) (h.lt hn _) fun b=>?_
   cases b with
   | true=>exact .ret h
   | false=>exact zc hn (h.rev _ _) _ _
  ·exact zc hn h _ _
theorem sS (hn:0 < n){p:Array Nat}(h:dZ n p) (k:Nat):∀f l r,fE n (fun _:Nat=>True) (kas_place p k f l r)
 | 0,l,r=>.ret trivial
 | f + 1,l,r=>by
  unfold kas_place
  split
  ·exact .ret trivial
  ·refine .ask (h.lt hn _) (h.lt hn _) fun b=>?_
   cases b with
   | true=>exact sS hn h k f _ _
   | false=>exact sS hn h k f _ _
theorem Fj (hn:0 < n):∀f {p:Array Nat} k,dZ n p->fE n (dZ n) (kas_bin f p k)
 | 0,p,k,h=>.ret h
 | f + 1,p,k,h=>(sS hn h k _ _ _).bind fun l _=>Fj hn f _ (h.bub _ _)
theorem d_ (hn:0 < n):fE n (dZ n) (kas_sort n):=(Ge hn (show dZ n _ from Array.Perm.refl _) n).bind fun r hr=>by
 split
 ·exact Fj hn _ _ hr
 ·exact .ret hr
end DL
namespace DL
open PySem PySem.Spec PyProof.Rows L2
open PySem.W (KasT kas_sort kas_ask kas_item kat_run kat_snds KatLex kat_cons kat_yes kat_no kat_lt kat_one KatTups kat_kind Looks)
section
variable {prog:Program}{w:World}{A:Around}{E:Value->Shared->Prop}{s:Shared}
def iK (q:Nat->Nat->Bool) (vs:List Value):List Value:=(aU q (kas_sort vs.length)).toList.map fun i=>vs.getD i Value.none
theorem El (q:Nat->Nat->Bool){vs:List Value}(h:0 < vs.length):(iK q vs).length=vs.length:=by
 unfold iK
 rw [List.length_map,Array.length_toList]
 have:=((d_ h).run q:dZ _ _).size_eq
 simpa using this
theorem rT {a:Addr}{vs:List Value}{n:Nat}{κ:SortKind}{q:Nat->Nat->Bool}{P:PySem.Fin->Shared->Prop}(ho:s.heap.get? a=some (seqObj "list" vs.toArray n)) (h2:2<=vs.length) (h64:vs.length < 64)
  (hk:∀h' C,(∀b o,b≠a->s.heap.get? b=some o->h'.get? b=some o)->C κ {s with heap:=h'}->wpAny (model prog w) A (keyKind' vs.toArray) C (fun _ _=>False) {s with heap:=h'})
  (hc:∀h',(∀b o,b≠a->s.heap.get? b=some o->h'.get? b=some o)->∀i j C,i < vs.length->j < vs.length->C (q i j) {s with heap:=h'}->kas_ask prog w A κ vs i j C {s with heap:=h'})
  (h:P (.done (.ret .none)) {s with heap:=sortedHeap s.heap a vs (iK q vs).toArray}):wpAny (model prog w) A (Builtin.«list.sort» ⟨[.ref a],[]⟩) P E s:=by
 have la:a < s.heap.objs.size:=Heap.lt_size ho
 have sl:vs.length<=sizeLine:=by rw [sizeLine_eq];omega
 obtain ⟨e1,g1⟩:∃e1,(s.heap.update a (Obj.mapSeq fun _=>(#[]:Array Value))).get? a=some (seqObj "list" #[] e1):=⟨_,(get?_update_seq ho fun _=>#[])⟩
 have z1:(s.heap.update a (Obj.mapSeq fun _=>(#[]:Array Value))).objs.size=s.heap.objs.size:=(Heap.size_update _ _ _)
 have g3:(((s.heap.update a (Obj.mapSeq fun _=>(#[]:Array Value))).push (seqObj "tuple" vs.toArray 0)).push (seqObj "list" #[] 0)).get? a=some (seqObj "list" #[] e1):=(Heap.get?_push_of_some _ ((Heap.get?_push_of_some _ g1)))
 have kp:∀b o,b≠a->s.heap.get? b=some o->(((s.heap.update a (Obj.mapSeq fun _=>(#[]:Array Value))).push (seqObj "tuple" vs.toArray 0)).push (seqObj "list" #[] 0)).get? b=some o:=fun b o nb q=>
  Heap.get?_push_of_some _ (Heap.get?_push_of_some _ (by rw [Heap.get?_update_ne _ _ _ _ nb];exact q))
 rw [list_sort_plain]
 refine wpAny_bind ((listItems_at ho rfl ?_))
 refine wpAny_bind (listUpdate_at ho rfl ?_ (by rw [List.size_toArray];exact sl) (Nat.zero_le _))
 refine wpAny_bind ((seqEpoch_at g1 rfl ?_))
 refine wpAny_bind (wpAny_newTuple ?_ (show vs.length<=_ from sl))
 refine wpAny_bind ((wpAny_newList ?_ (Nat.zero_le _)))
 refine (wpAny_holding ?_)
 dsimp only
 have n2:¬vs.toArray.size < 2:=by (rw [List.size_toArray]);omega
 rw [if_neg n2,if_neg n2]
 refine wpAny_bind (wpAny_mono (hk _ (fun k s'=>k=κ/\s'=_) kp ⟨rfl,rfl⟩) ?_ fun _ _ x=>x.elim)
 rintro _ _ ⟨rfl,rfl⟩
 refine wpAny_bind (wpAny_mono (kat_run (E:=E) (Q:=fun st' s'=>∃p:Array Nat,p.size=vs.length/\arrOf st'=p.map (kas_item (vs.toArray.zip vs.toArray))/\failedOf st'=none/\p=aU q (kas_sort vs.length)/\s'=_)
  rfl h2 h64 (fun p' st' s' a1 a2 a3 a4=>⟨p',a1,a2,a3,a4⟩) ((d_ (by omega)).wp (q:=q) (hc _ kp) ⟨rfl,rfl⟩)) ?_ fun _ _ e=>e)
 rintro ⟨⟨⟩,st'⟩ s' ⟨p,hp,har,hf,rfl,rfl⟩
 dsimp only
 have ou:(arrOf st').map (·.2)=(iK q vs).toArray:=kat_snds rfl har
 rw [ou]
 refine wpAny_bind ((seqEpoch_at g3 rfl ?_))
 refine wpAny_bind (listUpdate_at g3 rfl ?_ (Nat.zero_le _) (Nat.le_trans (Nat.le_of_eq (List.size_toArray.trans (El q (Nat.lt_of_lt_of_le Nat.zero_lt_two h2)))) (Nat.le_succ_of_le sl)))
 rw [hf]
 simp only [bne_self_eq_false,Bool.false_eq_true,if_false]
 exact wpAny_pure h
theorem zP {l:Addr}{vs:List Value}{κ:SortKind}{q:Nat->Nat->Bool}{Q:Value->Shared->Prop}(hl:s.heap.IsList l vs.toArray) (h2:2<=vs.length) (h64:vs.length < 64)
  (hk:∀h' C,(∀b o,s.heap.get? b=some o->h'.get? b=some o)->C κ {s with heap:=h'}->wpAny (model prog w) A.in1.in1 (keyKind' vs.toArray) C (fun _ _=>False) {s with heap:=h'})
  (hc:∀h',(∀b o,s.heap.get? b=some o->h'.get? b=some o)->∀i j C,i < vs.length->j < vs.length->C (q i j) {s with heap:=h'}->kas_ask prog w A.in1.in1 κ vs i j C {s with heap:=h'})
  (h:Q (.ref (s.heap.objs.size + 1)) {s with heap:=sortedAll s.heap vs (iK q vs).toArray}):wpAny (model prog w) A (call (.builtin "sorted") [.ref l]) Q E s:=by
 have sl:vs.length<=sizeLine:=by rw [sizeLine_eq];omega
 refine (Calls.call_function_entry kind_sorted plain_sorted entry_sorted (args_sorted1 _) ?_)
 unfold Builtin.«sorted»
 refine wpAny_bind (m:=checkCount "sorted" 1 1 _) ((wpAny_pure ?_))
 refine wpAny_bind (collect_list hl ?_ sl)
 refine wpAny_bind (wpAny_newList ?_ sl)
 have z:((s.heap.push (seqObj "list" #[] 0)).update s.heap.objs.size (Obj.mapSeq (·++vs.toArray))).objs.size=s.heap.objs.size + 1:=(by rw [Heap.size_update,size_push'])
 have gL:(((s.heap.push (seqObj "list" #[] 0)).update s.heap.objs.size (Obj.mapSeq (·++vs.toArray))).push (seqObj "list" vs.toArray 0)).get? (s.heap.objs.size + 1)=some (seqObj "list" vs.toArray 0):=(by rw [<-z];exact Heap.get?_push_size _ rfl)
 have kp:∀b o,s.heap.get? b=some o->b≠s.heap.objs.size + 1/\(((s.heap.push (seqObj "list" #[] 0)).update s.heap.objs.size (Obj.mapSeq (·++vs.toArray))).push (seqObj "list" vs.toArray 0)).get? b=some o:=fun b o e=>by
  have lb:b < s.heap.objs.size:=Heap.lt_size e
  refine ⟨Nat.ne_of_lt (Nat.lt_succ_of_lt lb),?_⟩
  rw [Heap.get?_push_ne _ _ _ (z▸Nat.ne_of_lt (Nat.lt_succ_of_lt lb)),Heap.get?_update_ne _ _ _ _ (Nat.ne_of_lt lb),Heap.get?_push_ne _ _ _ ((Nat.ne_of_lt lb))]
  exact e
 dsimp only
 rw [z]
 refine wpAny_bind (wpAny_holding (wpAny_call_entry slot_list_sort ⟨_,gL,rfl⟩ entry_list_sort (rT (κ:=κ) (q:=q) gL h2 h64 (fun h' C k c=>?_) (fun h' k i j C hi hj c=>?_) ⟨_,rfl,?_⟩) (args_list_sort _)))
 ·exact hk h' C (fun b o e=>k b o (kp b o e).1 (kp b o e).2) c
 ·exact hc h' (fun b o e=>k b o (kp b o e).1 (kp b o e).2) i j C hi hj c
 ·exact wpAny_pure ⟨_,rfl,h⟩
end
end DL
namespace DL
open PySem PySem.Spec PyProof.Rows L2
open PySem.W (KasT kas_sort kas_ask KatLex kat_nil kat_cons kat_yes kat_no kat_lt kat_one KatTups kat_kind Looks)
section
variable {prog:Program}{w:World}{A:Around}{E:Value->Shared->Prop}{s:Shared}{K:W.Frag}{J:Hp}
theorem ur {fin ans:Bool}{Q:Bool->Shared->Prop}{zs:List (Value×Value)}{b:Bool}(h:gf A s fin zs ans) (hq:Q ans s):∀{i:Nat},(b && i == 0)=false->KatLex prog w A b fin Q zs i s:=by
 induction h with
 | nil=>intro i _;exact kat_nil hq
 | yes he _ ih=>intro i _;exact kat_cons (he prog w _ _ (kat_yes (ih hq (by cases b <;> rfl))))
 | no he hl=>
  intro i hb
  refine kat_cons (he prog w _ _ (kat_no ?_))
  rw [hb]
  exact kat_one _ _ (hl prog w _ _ hq)
theorem GB {fin ans e:Bool}{Q:Bool->Shared->Prop}{u u':Value}{zs:List (Value×Value)}(he:SeqAt.EqAt A s u u' e) (h1:e=true->gf A s fin zs ans)
  (h2:e=false->wpAny (model prog w) A (oneLt' true u u') Q (fun _ _=>False) s) (hq:Q ans s):KatLex prog w A true fin Q ((u,u')::zs) 0 s:=by
 cases e with
 | true=>exact kat_cons (he prog w _ _ (kat_yes (ur (h1 rfl) hq rfl)))
 | false=>exact kat_cons (he prog w _ _ (kat_no (h2 rfl)))
inductive Hd where
 | t | i | x
def ie:D->Option Hd
 | .tup (.tup _::_)=>some .t
 | .tup (.int _::_)=>some .i
 | .tup (.str _::_)=>some .x
 | _=>none
def Hd.flag:Hd->Bool
 | .t=>false
 | _=>true
def Hd.ty:Hd->Value
 | .t=>.type "tuple"
 | .i=>.type "int"
 | .x=>.type "str"
theorem Ek {x y:D}{v v':V}{u u':Value}{k:Hd}{b:Bool}{C:Bool->Shared->Prop}{xs ys:List D}(hd:ie (.tup (x::xs))=some k) (he:ie (.tup (y::ys))=some k) (hf:k.flag=true) (h:cA x y=some b) (rd:Rep K J x v) (re:Rep K J y v') (rv:RelV v u) (rv':RelV v' u') (c:C b s):
  wpAny (model prog w) A (oneLt' true u u') C E s:=by
 cases x with
 | int x=>
  cases hd
  cases y with
  | int y=>
   cases rd;cases re
   obtain ⟨tk,rfl⟩:=rv
   obtain ⟨tk',rfl⟩:=rv'
   unfold cA at h
   simp only [Option.some.injEq] at h
   refine oneLt_int ?_
   rw [h];exact c
  | _=>cases he
 | str x=>
  cases hd
  cases y with
  | str y=>
   cases rd;cases re
   obtain ⟨tk,rfl⟩:=rv
   obtain ⟨tk',rfl⟩:=rv'
   unfold cA at h
   simp only [Option.some.injEq] at h
   refine oneLt_str ?_
   rw [h];exact c
  | _=>cases he
 | tup _=>cases hd;cases hf
 | _=>cases hd
theorem zv (F:HF K J s){d e:D}{v v':V}{u u':Value}{k:Hd}{b:Bool}{C:Bool->Shared->Prop}(hd:ie d=some k) (he:ie e=some k) (h:cA d e=some b) (rd:Rep K J d v) (re:Rep K J e v') (rv:RelV v u) (rv':RelV v' u')
  (hu:A.units + dep d < cLine) (k1:dep d<=1000) (k2:dep e<=1000) (c:C b s):wpAny (model prog w) A (keyLt' (tuples' k.flag) u u') C E s:=by
 cases d with
 | tup ds=>
  cases e with
  | tup es=>
   unfold cA at h
   simp only at h
   cases rd with
   | tup h1 hs=>
    cases re with
    | tup h2 hs'=>
     cases rv;cases rv'
     obtain ⟨its,r,p⟩:=F.t _ _ h1
     obtain ⟨its',r',p'⟩:=F.t _ _ h2
     obtain ⟨o,ho,hc,m,dm⟩:=id p
     obtain ⟨o',ho',hc',m',dm'⟩:=id p'
     refine kat_lt ho dm ho' dm' ?_
     simp only [List.size_toArray]
     cases hf:k.flag with
     | false=>
      exact ur (vK F ds A (n1:=its.length) (n2:=its'.length) h hs hs' r r' (by unfold dep at hu;omega) (by unfold dep at k1;omega) (by unfold dep at k2;omega) (by omega)) c rfl
     | true=>
      cases hs with
      | nil=>cases hd
      | cons q1 t1=>
       cases hs' with
       | nil=>cases he
       | cons q2 t2=>
        cases r with
        | cons a1 b1=>
         cases r' with
         | cons a2 b2=>
          unfold dep deps at hu k1 k2
          rw [List.zip_cons_cons]
          unfold gK at h
          simp only at h
          refine GB (ans:=b) (lT F A q1 q2 a1 a2 (by omega) (by omega) (by omega)) (fun z=>?_) (fun z=>?_) c
          ·rw [z,if_pos rfl] at h
           exact vK F _ A h t1 t2 b1 b2 (by omega) (by omega) (by omega) (by simp;omega)
          ·rw [z,if_neg Bool.false_ne_true] at h
           exact Ek hd he hf h q1 q2 a1 a2 c
  | _=>cases he
 | _=>cases hd
def gV (k:Hd):List D->Bool
 | []=>true
 | d::r=>(match ie d,k with
  | some .t,.t=>true
  | some .i,.i=>true
  | some .x,.x=>true
  | _,_=>false) && gV k r
theorem jB {k:Hd}:∀{ds:List D},gV k ds=true->∀d∈ds,ie d=some k
 | [],_,_,hm=>nomatch hm
 | x::r,h,d,hm=>by
  unfold gV at h
  rw [Bool.and_eq_true] at h
  rcases List.mem_cons.mp hm with rfl | hm
  ·cases q:ie d with
   | none=>rw [q] at h;cases h.1
   | some k'=>rw [q] at h;cases k' <;> cases k <;> first | rfl | cases h.1
  ·exact jB h.2 d hm
theorem B4 (F:HF K J s){d:D}{v:V}{u:Value}{k:Hd}(hd:ie d=some k) (rd:Rep K J d v) (rv:RelV v u):∃a o xs n f,u=.ref a/\s.heap.get? a=some o/\o.cls=.type "tuple"/\o.data=.seq xs n/\xs[0]?=some f/\Looks (model prog w) s.heap (typeOf f) k.ty:=by
 cases d with
 | tup ds=>
  cases rd with
  | tup h1 hs=>
   cases rv
   obtain ⟨its,r,p⟩:=F.t _ _ h1
   obtain ⟨o,ho,hc,m,dm⟩:=id p
   cases hs with
   | nil=>cases hd
   | cons q1 t1=>
    cases r with
    | cons a1 b1=>
     refine ⟨_,o,_,m,_,rfl,ho,hc,dm,rfl,?_⟩
     rename_i x v' ds' vs' u us
     cases x with
     | tup _=>
      cases hd
      cases q1 with
      | tup h2 _=>
       cases a1
       obtain ⟨its2,_,p2⟩:=F.t _ _ h2
       obtain ⟨o2,ho2,hc2,_,_⟩:=id p2
       have:=(Looks.ld (M:=model prog w) (part:=none) ho2).andThen (f:=fun o=>pure o.cls) (b:=o2.cls) .now
       rw [hc2] at this
       exact this
     | int _=>
      cases hd
      cases q1
      obtain ⟨tk,rfl⟩:=a1
      exact .now
     | str _=>
      cases hd
      cases q1
      obtain ⟨tk,rfl⟩:=a1
      exact .now
     | _=>cases hd
 | _=>cases hd
theorem rM (F:HF K J s){k:Hd}:∀{ds:List D}{vs:List V}{us:List Value},gV k ds=true->aF K J ds vs->Vals vs us->∃fs,KatTups s.heap us fs/\fs.length=us.length/\∀v∈fs,Looks (model prog w) s.heap (typeOf v) k.ty
 | _,_,_,_,.nil,.nil=>⟨[],trivial,rfl,fun _ h=>nomatch h⟩
 | d::ds,_,_,h,.cons q rs,.cons a b=>by
  have hd:=jB h d (List.mem_cons_self ..)
  unfold gV at h
  rw [Bool.and_eq_true] at h
  obtain ⟨fs,h1,h2,h3⟩:=rM F h.2 rs b
  obtain ⟨p,o,xs,n,f,rfl,e1,e2,e3,e4,e5⟩:=B4 (prog:=prog) (w:=w) F hd q a
  refine ⟨f::fs,⟨⟨p,o,xs,n,rfl,e1,e2,e3,e4⟩,h1⟩,by simp [h2],fun v hv=>?_⟩
  rcases List.mem_cons.mp hv with rfl | hv
  ·exact e5
  ·exact h3 v hv
theorem Gr (k:Hd):(k.ty != Value.type "tuple")=k.flag:=by cases k <;> decide
theorem uu (F:HF K J s){k:Hd}{ds:List D}{vs:List V}{us:List Value}(h:gV k ds=true) (rs:aF K J ds vs) (rv:Vals vs us) (hl:0 < us.length){C:SortKind->Shared->Prop}(c:C (tuples' k.flag) s):wpAny (model prog w) A (keyKind' us.toArray) C E s:=by
 obtain ⟨fs,h1,h2,h3⟩:=rM (prog:=prog) (w:=w) F h rs rv
 refine kat_kind h1 (by omega) h3 (by cases k <;> decide) ?_
 rw [Gr]
 exact c
end
end DL
namespace DL
open PySem PySem.Spec PyProof.Rows L2
open PySem.W (KasT kas_sort kas_ask)
section
variable {prog:Program}{w:World}{A:Around}{E:Value->Shared->Prop}{s:Shared}
theorem rS {a:Addr}{vs:List Value}{n:Nat}{P:PySem.Fin->Shared->Prop}(ho:s.heap.get? a=some (seqObj "list" vs.toArray n)) (h2:vs.length < 2)
  (h:P (.done (.ret .none)) {s with heap:=sortedHeap s.heap a vs vs.toArray}):wpAny (model prog w) A (Builtin.«list.sort» ⟨[.ref a],[]⟩) P E s:=by
 have sl:vs.length<=sizeLine:=by rw [sizeLine_eq];omega
 obtain ⟨e1,g1⟩:∃e1,(s.heap.update a (Obj.mapSeq fun _=>(#[]:Array Value))).get? a=some (seqObj "list" #[] e1):=⟨_,(get?_update_seq ho fun _=>#[])⟩
 have g3:(((s.heap.update a (Obj.mapSeq fun _=>(#[]:Array Value))).push (seqObj "tuple" vs.toArray 0)).push (seqObj "list" #[] 0)).get? a=some (seqObj "list" #[] e1):=(Heap.get?_push_of_some _ ((Heap.get?_push_of_some _ g1)))
 rw [list_sort_plain]
 refine wpAny_bind ((listItems_at ho rfl ?_))
 refine wpAny_bind (listUpdate_at ho rfl ?_ (by rw [List.size_toArray];exact sl) (Nat.zero_le _))
 refine wpAny_bind ((seqEpoch_at g1 rfl ?_))
 refine wpAny_bind (wpAny_newTuple ?_ (show vs.length<=_ from sl))
 refine wpAny_bind ((wpAny_newList ?_ (Nat.zero_le _)))
 refine (wpAny_holding ?_)
 dsimp only
 have n2:vs.toArray.size < 2:=by (rw [List.size_toArray]);omega
 rw [if_pos n2,if_pos n2]
 refine (wpAny_bind (wpAny_pure ?_))
 rw [StateT.run_pure]
 refine (wpAny_bind (wpAny_pure ?_))
 dsimp only
 have ou:(arrOf (SortSt.mk' general' (vs.toArray.zip vs.toArray) #[] 7 none)).map (·.2)=vs.toArray:=by
  show (vs.toArray.zip vs.toArray).map (·.2)=vs.toArray
  match vs,h2 with
  | [],_=>simp
  | [_],_=>simp
 rw [ou]
 refine wpAny_bind ((seqEpoch_at g3 rfl ?_))
 refine wpAny_bind (listUpdate_at g3 rfl ?_ (Nat.zero_le _) (by rw [List.size_toArray];omega))
 simp only [bne_self_eq_false,Bool.false_eq_true,if_false]
 exact wpAny_pure h
theorem zO {l:Addr}{vs:List Value}{Q:Value->Shared->Prop}(hl:s.heap.IsList l vs.toArray) (h2:vs.length < 2)
  (h:Q (.ref (s.heap.objs.size + 1)) {s with heap:=sortedAll s.heap vs vs.toArray}):wpAny (model prog w) A (call (.builtin "sorted") [.ref l]) Q E s:=by
 have sl:vs.length<=sizeLine:=by rw [sizeLine_eq];omega
 refine (Calls.call_function_entry kind_sorted plain_sorted entry_sorted (args_sorted1 _) ?_)
 unfold Builtin.«sorted»
 refine wpAny_bind (m:=checkCount "sorted" 1 1 _) ((wpAny_pure ?_))
 refine wpAny_bind (collect_list hl ?_ sl)
 refine wpAny_bind (wpAny_newList ?_ sl)
 have z:((s.heap.push (seqObj "list" #[] 0)).update s.heap.objs.size (Obj.mapSeq (·++vs.toArray))).objs.size=s.heap.objs.size + 1:=(by rw [Heap.size_update,size_push'])
 have gL:(((s.heap.push (seqObj "list" #[] 0)).update s.heap.objs.size (Obj.mapSeq (·++vs.toArray))).push (seqObj "list" vs.toArray 0)).get? (s.heap.objs.size + 1)=some (seqObj "list" vs.toArray 0):=(by rw [<-z];exact Heap.get?_push_size _ rfl)
 dsimp only
 rw [z]
 refine wpAny_bind (wpAny_holding (wpAny_call_entry slot_list_sort ⟨_,gL,rfl⟩ entry_list_sort (rS gL h2 ⟨_,rfl,?_⟩) (args_list_sort _)))
 exact wpAny_pure ⟨_,rfl,h⟩
end
def cI (ds:List D) (i:Nat):D:=ds.getD i .non
def ltB (ds:List D) (i j:Nat):Bool:=(cA (cI ds i) (cI ds j)).getD false
def bq (ds:List D):List D:=if ds.length < 2 then ds else (aU (ltB ds) (kas_sort ds.length)).toList.map (cI ds)
def qQ (ds:List D):Bool:=ds.all fun x=>ds.all fun y=>(cA x y).isSome
def Ej (ds:List D):Bool:=match ds with
 | []=>false
 | d::_=>match ie d with
  | some k=>gV k ds
  | none=>false
def xJ (ds:List D):Bool:=decide (ds.length < 2) || (decide (ds.length < 64) && (decide (deps ds<=60) && (Ej ds && qQ ds)))
section
variable {K:W.Frag}{J:Hp}
theorem eH {ds:List D}{vs:List V}(h:aF K J ds vs):∀{i:Nat},i < ds.length->Rep K J (cI ds i) (vs.getD i V.non):=by
 induction ds generalizing vs with
 | nil=>intro i hi;exact absurd hi (Nat.not_lt_zero _)
 | cons x r ih=>
  intro i hi
  cases h with
  | cons q rs=>
   cases i with
   | zero=>simpa [cI] using q
   | succ i=>simpa [cI] using ih rs (i:=i) (by simpa using hi)
theorem eK {vs:List V}{us:List Value}(h:Vals vs us):∀{i:Nat},i < vs.length->RelV (vs.getD i V.non) (us.getD i Value.none):=by
 induction vs generalizing us with
 | nil=>intro i hi;exact absurd hi (Nat.not_lt_zero _)
 | cons x r ih=>
  intro i hi
  cases h with
  | cons q rs=>
   cases i with
   | zero=>simpa using q
   | succ i=>simpa using ih rs (i:=i) (by simpa using hi)
theorem mC {ds:List D}{vs:List V}(h:aF K J ds vs):∀ix:List Nat,(∀i∈ix,i < ds.length)->aF K J (ix.map (cI ds)) (ix.map fun i=>vs.getD i V.non)
 | [],_=>.nil
 | i::r,hi=>.cons (eH h (hi i (List.mem_cons_self ..))) (mC h r fun j hj=>hi j (List.mem_cons_of_mem _ hj))
theorem mJ {vs:List V}{us:List Value}(h:Vals vs us):∀ix:List Nat,(∀i∈ix,i < vs.length)->Vals (ix.map fun i=>vs.getD i V.non) (ix.map fun i=>us.getD i Value.none)
 | [],_=>.nil
 | i::r,hi=>.cons (eK h (hi i (List.mem_cons_self ..))) (mJ h r fun j hj=>hi j (List.mem_cons_of_mem _ hj))
theorem zh {ds:List D}:∀{i:Nat},i < ds.length->dep (cI ds i)<=deps ds:=by
 induction ds with
 | nil=>intro i hi;exact absurd hi (Nat.not_lt_zero _)
 | cons x r ih=>
  intro i hi
  unfold deps
  cases i with
  | zero=>show dep x<=_;omega
  | succ i=>
   have:=ih (i:=i) (by simpa using hi)
   have e:cI (x::r) (i + 1)=cI r i:=rfl
   rw [e];omega
theorem dY {ds:List D}{i:Nat}(hi:i < ds.length):cI ds i∈ds:=by
 have e:cI ds i=ds[i]:=by simp [cI,hi]
 rw [e];exact List.getElem_mem hi
theorem HF.keeps {s:Shared}{h':Heap}(F:HF K J s) (k:∀b o,s.heap.get? b=some o->h'.get? b=some o):HF K J {s with heap:=h'}:=
 ⟨fun a xs h=>let ⟨its,r,o,ho,q⟩:=F.t a xs h;⟨its,r,o,k _ _ ho,q⟩,fun a xs h=>let ⟨its,r,o,ho,q⟩:=F.l a xs h;⟨its,r,o,k _ _ ho,q⟩,fun a h=>let ⟨o,ho,q⟩:=F.e a h;⟨o,k _ _ ho,q⟩,fun a kvs h=>let ⟨o,es,ep,ho,q⟩:=F.d a kvs h;⟨o,es,ep,k _ _ ho,q⟩⟩
end
section
variable {X:Cx}{c:C}{e:Expr}{es:List Expr}{pos:Pos}
theorem wR (hu:X.A.units + 64 < cLine):bQ X (.builtin "sorted") (fun xs H Q=>∃p vs ds,xs=[.ref p]/\bZ X.K H p vs/\aF X.K H ds vs/\xJ ds=true/\∀l vs',H l=none->(∀J,aF X.K J ds vs->aF X.K J (bq ds) vs')->Q (.ref l) (upd H l (.lst vs'))):=by
 intro pins s σ H xs us Q I r h
 obtain ⟨p,vs,ds,rfl,hq,rs,ok,q⟩:=h
 obtain ⟨u,rfl,rx⟩:=vals1 r
 cases rx
 obtain ⟨its,r',pl,hz⟩:=I.list hq
 have l1:vs.length=its.length:=r'.length
 have l2:ds.length=vs.length:=rs.length
 have fr:H (s.heap.objs.size + 1)=none:=I.hok.fresh (Nat.le_succ _)
 have fin:∀(out:List Value) (vs':List V),vs'.length=vs.length->Vals vs' out->(∀J,aF X.K J ds vs->aF X.K J (bq ds) vs')->∃v H',Inv X pins σ H' {s with heap:=sortedAll s.heap its out.toArray}/\RelV v (.ref (s.heap.objs.size + 1))/\Q v H':=fun out vs' lv rv rr=>by
  obtain ⟨n,hn⟩:=sortedAll_at s.heap its out.toArray
  exact ⟨.ref (s.heap.objs.size + 1),_,I.laid (t':=s.toks) (fun b o e=>sortedAll_old e) (Nat.le_succ _) (show b9 X.prog X.w _ _ _ (.lst vs') from ⟨by rw [lv];exact hz,out,n,rv,by simpa [seqObj] using hn⟩),rfl,q _ vs' fr rr⟩
 by_cases h2:ds.length < 2
 ·refine zO pl.isList (by omega) (fin its vs rfl r' ?_)
  intro J rj
  unfold bq
  rw [if_pos h2]
  exact rj
 ·unfold xJ at ok
  rw [decide_eq_false h2,Bool.false_or,Bool.and_eq_true,Bool.and_eq_true,Bool.and_eq_true] at ok
  obtain ⟨o1,o2,o3,o4⟩:=ok
  have o1:=of_decide_eq_true o1
  have o2:=of_decide_eq_true o2
  obtain ⟨k,hk⟩:∃k,gV k ds=true:=by
   unfold Ej at o3
   cases ds with
   | nil=>cases o3
   | cons d r=>
    simp only at o3
    cases z:ie d with
    | none=>rw [z] at o3;cases o3
    | some k=>rw [z] at o3;exact ⟨k,o3⟩
  have F:HF X.K H s:=gW I
  have un:X.A.in1.in1.units=X.A.units + 2:=rfl
  have ib:∀i∈(aU (ltB ds) (kas_sort ds.length)).toList,i < ds.length:=fun i hi=>by
   have:=((d_ (n:=ds.length) (by omega)).run (ltB ds):dZ _ _)
   have:=(Array.Perm.mem_iff this).mp (Array.mem_toList_iff.mp hi)
   simpa using this
  refine zP (κ:=tuples' k.flag) (q:=ltB ds) pl.isList (by omega) (by omega) (fun h' C kp cc=>?_) (fun h' kp i j C hi hj cc=>?_) ?_
  ·exact uu (F.keeps kp) hk rs r' (by omega) cc
  ·have hi':i < ds.length:=by omega
   have hj':j < ds.length:=by omega
   have hb:cA (cI ds i) (cI ds j)=some (ltB ds i j):=by
    unfold qQ at o4
    have:=List.all_eq_true.mp (List.all_eq_true.mp o4 _ (dY hi')) _ (dY hj')
    unfold ltB
    cases z:cA (cI ds i) (cI ds j) with
    | none=>rw [z] at this;cases this
    | some b=>rfl
   have d1:=zh hi'
   have d2:=zh hj'
   exact zv (F.keeps kp) (jB hk _ (dY hi')) (jB hk _ (dY hj')) hb (eH rs hi') (eH rs hj') (eK r' (by omega)) (eK r' (by omega)) (by rw [un];omega) (by omega) (by omega) cc
  ·have e1:iK (ltB ds) its=(aU (ltB ds) (kas_sort ds.length)).toList.map fun i=>its.getD i Value.none:=by unfold iK;rw [l2,l1]
   rw [e1]
   refine fin _ _ ?_ (mJ r' _ fun i hi=>l2▸ib i hi) ?_
   ·rw [List.length_map,<-l2]
    have:=((d_ (n:=ds.length) (by omega)).run (ltB ds):dZ _ _).size_eq
    simpa using this
   ·intro J rj
    unfold bq
    rw [if_neg h2]
    exact mC rj _ ib
end
end DL
namespace DL
open PySem PySem.Spec PyProof.Rows L2
end DL
namespace DL
open PySem PySem.Spec PyProof.Rows L2 DX
section
variable {M:Model}{A:Around}{E:Value->Shared->Prop}{s:Shared}
theorem AO {scope:Scope}{globals:Addr}{closure:List (Str×Addr)}{qual:Str}{func:Option Addr}{code:Value}{outer:Env}{builtins:Addr}{Q:Env->Shared->Prop}
  (hQ:Q (newEnv scope s.heap.objs.size globals (cellsFrom (s.heap.objs.size + 1) scope.names closure) qual func code (some outer) builtins) {s with heap:=pushCells (s.heap.push {cls:=.type "dict",data:=.dict #[]}) scope.names}):
  wpAny M A (newFunctionEnv scope globals closure [] qual func code (some outer) builtins) Q E s:=by
 simp only [newFunctionEnv,Option.isSome_some,if_true]
 refine wpAny_bind (wpAny_alloc ?_)
 refine wpAny_bind (wpAny_layCells _ (fun name kind cells=>by cases hkc:kind == NameKind.cell <;> simp [hkc]) _ _ _ _ ?_)
 rw [show ({s with heap:=s.heap.push {cls:=.type "dict",data:=.dict #[]}}:Shared).heap.objs.size=s.heap.objs.size + 1 from Heap.size_push ..]
 simp only [List.forIn_nil]
 exact wpAny_bind (wpAny_pure (wpAny_pure hQ))
theorem jn:∀(names:List (Str×NameKind)) (n:Nat) (acc:List (Str×Addr)) (x:Str),(∀y∈names,y.2=.cell->y.1≠x)->(cellsFrom n names acc).lookup x=acc.lookup x
 | [],_,_,_,_=>by unfold cellsFrom;rfl
 | (y,k)::r,n,acc,x,h=>by
  have hr:∀z∈r,z.2=.cell->z.1≠x:=fun z hz=>h z (List.mem_cons_of_mem _ hz)
  unfold cellsFrom
  split
  ·rename_i hk
   rw [jn r _ _ x hr]
   have hy:y≠x:=h (y,k) (List.mem_cons_self ..) (by simpa using hk)
   have:(x == y)=false:=by
    cases q:x == y with
    | false=>rfl
    | true=>exact absurd (eq_of_beq q).symm hy
   rw [List.lookup_cons,this]
  ·exact jn r _ _ x hr
end
theorem vg:∀(names:List (Str×NameKind)) (n:Nat) (acc:List (Str×Addr)),cellsFrom n names acc=cellsFrom n names []++acc:=by
 intro names
 suffices ∀(n:Nat) (a b:List (Str×Addr)),cellsFrom n names (a++b)=cellsFrom n names a++b by
  intro n acc
  exact this n [] acc
 induction names with
 | nil=>intro n a b;unfold cellsFrom;rfl
 | cons p r ih=>
  obtain ⟨y,k⟩:=p
  intro n a b
  unfold cellsFrom
  split
  ·exact ih _ (_::a) b
  ·exact ih _ a b
def cS (names:List (Str×NameKind)) (x:Str):Bool:=names.any fun y=>y.1 == x && y.2 == .cell
theorem fW:∀(names:List (Str×NameKind)) (n:Nat) (acc:List (Str×Addr)) (x:Str),((acc.lookup x).isSome=true\/cS names x=true)->((cellsFrom n names acc).lookup x).isSome=true
 | [],_,_,_,h=>by
  unfold cellsFrom
  rcases h with h | h
  ·exact h
  ·cases h
 | (y,k)::r,n,acc,x,h=>by
  unfold cellsFrom
  have e:cS ((y,k)::r) x=((y == x && k == .cell) || cS r x):=rfl
  rw [e] at h
  split
  ·rename_i hk
   refine fW r _ _ x ?_
   by_cases hx:x=y
   ·left;subst hx;rw [List.lookup_cons];simp
   ·rcases h with h | h
    ·left
     rw [List.lookup_cons]
     cases q:x == y with
     | true=>exact absurd (eq_of_beq q) hx
     | false=>exact h
    ·rw [Bool.or_eq_true,Bool.and_eq_true] at h
     rcases h with h | h
     ·exact absurd (eq_of_beq h.1).symm hx
     ·exact .inr h
  ·rename_i hk
   refine fW r _ _ x ?_
   rcases h with h | h
   ·exact .inl h
   ·rw [Bool.or_eq_true,Bool.and_eq_true] at h
    rcases h with h | h
    ·exact absurd h.2 hk
    ·exact .inr h
theorem fP {names:List (Str×NameKind)}{n:Nat}{cl:List (Str×Addr)}{x:Str}{d:Addr}(h:(cellsFrom n names cl).lookup x=some d):
  (cellsFrom n names []).lookup x=some d\/(cS names x=false/\cl.lookup x=some d):=by
 rw [vg,List.lookup_append] at h
 cases q:(cellsFrom n names []).lookup x with
 | some e=>rw [q] at h;left;simpa using h
 | none=>
  rw [q] at h
  right
  refine ⟨?_,by simpa using h⟩
  cases z:cS names x with
  | false=>rfl
  | true=>
   have:=fW names n [] x (.inr z)
   rw [q] at this
   cases this
theorem nM {scope:Scope}{env:Env}{x:Str}(h:(relabel scope env).names.lookup x=some .cell\/(relabel scope env).names.lookup x=some .free):(x,NameKind.free)∈scope.names\/cS scope.names x=true:=by
 unfold relabel at h
 revert h
 generalize scope.names=names
 induction names with
 | nil=>intro h;simp at h
 | cons p r ih=>
  obtain ⟨n,k⟩:=p
  intro h
  rw [List.map_cons] at h
  simp only at h
  by_cases hx:x=n
  ·subst hx
   cases k with
   | free=>exact .inl (List.mem_cons_self ..)
   | cell=>right;unfold cS;simp
   | _=>simp [List.lookup_cons] at h
  ·have e:(x == n)=false:=by simpa using hx
   have h':(r.map fun (n,k)=>if (k == NameKind.free && env.scope.kind == .function && env.kindOf n == some .cell) then (n,NameKind.cell) else (n,k)).lookup x=some .cell\/(r.map fun (n,k)=>if (k == NameKind.free && env.scope.kind == .function && env.kindOf n == some .cell) then (n,NameKind.cell) else (n,k)).lookup x=some .free:=by
    split at h <;> simpa [List.lookup_cons,e] using h
   rcases ih h' with z | z
   ·exact .inl (List.mem_cons_of_mem _ z)
   ·right
    unfold cS at z ⊢
    rw [List.any_cons,z,Bool.or_true]
section
variable {X:Cx}
def aY (X:Cx) (own:List Str) (cap:List Nat) (scope:Scope) (cl:List (Str×Addr)) (C:Addr) (s:Shared) (H:Hp) (fp:List Addr):Cx:=
 {IF X own cap scope (cellsFrom (C + 1) scope.names cl) C s H fp with fn:=cS scope.names}
theorem Gm {pins:List (Addr×Obj)}{σ:L2.St}{H:Hp}{s:Shared}{own:List Str}{cap:List Nat}{scope:Scope}{cl:List (Str×Addr)}{fp:List Addr}{h1:Heap}(I:Inv X pins σ H s) (hk:scope.kind=.function)
  (hcl:bG X.env.cells scope.names []=some cl) (ck:CellsOk h1 (s.heap.objs.size + 1) (cellsFrom (s.heap.objs.size + 1) scope.names [])) (hfp:∀b∈fp,iG X pins H b) (hin:∀b∈fp,b < s.heap.objs.size):(aY X own cap scope cl s.heap.objs.size s H fp).Ok:=by
 obtain ⟨m1,m2⟩:=gH scope.names [] cl hcl (fun x c h=>by simp at h)
 have lo:∀{x:Str}{d:Addr},(cellsFrom (s.heap.objs.size + 1) scope.names []).lookup x=some d->s.heap.objs.size + 1<=d:=fun {x d} h=>(ck.empty _ _ (mem_of_lookup h)).2
 have old:∀{x:Str}{d:Addr},cl.lookup x=some d->d < s.heap.objs.size:=fun {x d} h=>by
  obtain ⟨v,z⟩:=I.cell x d (m1 x d h)
  exact z.lt
 refine ⟨I.ok.mod,hk,I.ok.glob,I.ok.blt,Nat.le_refl _,fun x y d h1 h2=>?_,fun x hx=>?_,fun x d hf h=>?_,fun hc=>I.ok.hd hc,I.ok.frames,.inl rfl,fun b hb=>⟨Nat.ne_of_lt (hin b hb),fun x d h=>?_⟩,
  I.bs,Nat.le_trans I.ok.bsz I.sz,fun b o h hb=>?_,fun b hb hf=>?_,I.stack,I.stkFree⟩
 ·rcases fP h1 with h1 | ⟨_,h1⟩
  ·rcases fP h2 with h2 | ⟨_,h2⟩
   ·exact name_of_addr ck.apart (mem_of_lookup h1) (mem_of_lookup h2)
   ·exact absurd (Nat.lt_of_lt_of_le (old h2) (Nat.le_of_succ_le (lo h1))) (Nat.lt_irrefl _)
  ·rcases fP h2 with h2 | ⟨_,h2⟩
   ·exact absurd (Nat.lt_of_lt_of_le (old h1) (Nat.le_of_succ_le (lo h2))) (Nat.lt_irrefl _)
   ·exact I.ok.inj x y d (m1 x d h1) (m1 y d h2)
 ·refine Option.isSome_iff_exists.mp (fW _ _ _ x ?_)
  rcases nM hx with z | z
  ·exact .inl (m2 x (.inr z))
  ·exact .inr z
 ·rcases fP h with h | ⟨z,h⟩
  ·exact Nat.le_of_succ_le (lo h)
  ·have hf':cS scope.names x=true:=hf
   rw [z] at hf'
   cases hf'
 ·rcases fP h with h | ⟨_,h⟩
  ·exact Nat.ne_of_gt (Nat.lt_of_lt_of_le (hin b hb) (Nat.le_of_succ_le (lo h)))
  ·exact (hfp b hb).2.2.2.2.1 x d (m1 x d h)
 ·rcases (hfp b hb).2.2.2.1 with z | z
  ·exact I.ok.noex b o h z
  ·exact absurd (Nat.lt_of_lt_of_le (Heap.lt_size (I.ok.bs b o h).1) z) (Nat.lt_irrefl _)
 ·rcases List.mem_cons.mp (I.stkSub b hf) with e | e
  ·exact (hfp b hb).2.1 e
  ·exact (hfp b hb).2.2.1 e
end
theorem xA {names:List (Str×NameKind)}{n:Nat}{cl:List (Str×Addr)}{x:Str}(h:cS names x=false):(cellsFrom n names cl).lookup x=cl.lookup x:=
 jn names n cl x fun y hy hk e=>by
  unfold cS at h
  have:=List.any_eq_false.mp h y hy
  simp [hk,e] at this
section
variable {X:Cx}
theorem DJ {pins:List (Addr×Obj)}{σ:L2.St}{H:Hp}{s:Shared}{own:List Str}{cap:List Nat}{scope:Scope}{cl:List (Str×Addr)}{fp:List Addr}{h1:Heap}{m:Str->Option Value}{tk:Nat}(I:Inv X pins σ H s) (ok:(aY X own cap scope cl s.heap.objs.size s H fp).Ok)
  (hcl:bG X.env.cells scope.names []=some cl) (ck:CellsOk h1 (s.heap.objs.size + 1) (cellsFrom (s.heap.objs.size + 1) scope.names [])) (hcap:eN X cap=true) (Nx:∀j∈cap,∀x,X.N[j]?=some x->(relabel scope X.env).names.lookup x≠some .local)
  (hno:∀j∈cap,∀x,X.N[j]?=some x->cS scope.names x=false) (hns:h1.Ns s.heap.objs.size m) (old:∀b o,s.heap.get? b=some o->h1.get? b=some o):
  Inv (aY X own cap scope cl s.heap.objs.size s H fp) [] (List.replicate own.length none++cap.map fun (j:Nat)=>(σ[j]?).getD none) H {s with heap:=h1,toks:=tk}:=by
 obtain ⟨m1,m2⟩:=gH scope.names [] cl hcl (fun x c h=>by simp at h)
 refine ⟨ok,rfl,I.bare,Un.kept old,⟨m,hns,fun i x v q1 q2 q3=>?_⟩,fun x d h=>?_,I.hok.fresh (Nat.le_refl _),fun x d h=>?_,fun p hp=>absurd (show p∈([]:List (Addr×Obj)) from hp) (by simp),I.hok.kept old,?_⟩
 ·obtain ⟨j,h2,h3,h4⟩:=jN q2
  have q1':(own++cap.map fun (j:Nat)=>(X.N[j]?).getD ("":Str))[i]?=some x:=q1
  rw [List.getElem?_append_right (by exact h2),List.getElem?_map,h3] at q1'
  have hj:j∈cap:=List.mem_of_getElem? h3
  have hc:(match X.N[j]? with
   | some x=>(match X.env.scope.names.lookup x with
    | some .cell=>true
    | some .free=>true
    | _=>false)
   | none=>false)=true:=by
   unfold eN at hcap
   exact List.all_eq_true.mp hcap j hj
  cases hx:X.N[j]? with
  | none=>rw [hx] at hc;cases hc
  | some y=>
   rw [Option.map_some,hx] at q1'
   rw [hx] at hc
   have e:y=x:=by simpa using q1'
   subst e
   have kd:X.env.kindOf y=some .cell\/X.env.kindOf y=some .free:=by
    unfold Env.kindOf
    simp only at hc
    split at hc
    ·rename_i z;exact .inl z
    ·rename_i z;exact .inr z
    ·cases hc
   obtain ⟨mX,nX,lX⟩:=I.loc
   obtain ⟨u,ru,lu⟩:=lX j y v hx h4 (kd.elim (fun z=>.inr (.inl z)) fun z=>.inr (.inr z))
   refine ⟨u,ru,.inr ?_⟩
   have kd':(relabel scope X.env).names.lookup y=some .cell\/(relabel scope X.env).names.lookup y=some .free:=by
    rcases q3 with z | z | z
    ·exact absurd z (Nx j hj y hx)
    ·exact .inl z
    ·exact .inr z
   refine ⟨kd',?_⟩
   have no:=hno j hj y hx
   have fr:(y,NameKind.free)∈scope.names:=by
    rcases nM kd' with z | z
    ·exact z
    ·rw [no] at z;cases z
   obtain ⟨d,hd⟩:=Option.isSome_iff_exists.mp (m2 y (.inr fr))
   refine ⟨d,(xA no).trans hd,?_⟩
   rcases lu with ⟨z,_⟩ | ⟨_,d',hd',z⟩
   ·rcases kd with k | k <;> (rw [k] at z;cases z)
   ·have:=m1 y d hd
    rw [hd'] at this
    cases this
    obtain ⟨o,ho,hod⟩:=z
    exact ⟨o,old _ _ ho,hod⟩
 ·rcases fP h with h | ⟨_,h⟩
  ·exact ⟨none,(ck.empty _ _ (mem_of_lookup h)).1⟩
  ·obtain ⟨v,o,ho,hod⟩:=I.cell x d (m1 x d h)
   exact ⟨v,o,old _ _ ho,hod⟩
 ·rcases fP h with h | ⟨_,h⟩
  ·exact I.hok.fresh (Nat.le_of_succ_le (ck.empty _ _ (mem_of_lookup h)).2)
  ·exact I.freeC x d (m1 x d h)
 ·show _=(own++cap.map fun (j:Nat)=>(X.N[j]?).getD ("":Str)).length
  simp
end
theorem Jl (h:Heap) (names:List (Str×NameKind)):(pushCells (h.push {cls:=.type "dict",data:=.dict #[]}) names).Ns h.objs.size (fun _=>none):=
 (Heap.Ns.new h (.type "dict")).keeps fun b o e=>pushCells_keeps _ _ _ _ e
theorem BK (h:Heap) (names:List (Str×NameKind)):CellsOk (pushCells (h.push {cls:=.type "dict",data:=.dict #[]}) names) (h.objs.size + 1) (cellsFrom (h.objs.size + 1) names []):=by
 have:=cellsFrom_ok names (h.push {cls:=.type "dict",data:=.dict #[]}) (h.objs.size + 1) [] ⟨fun _ _ hm=>(nomatch hm),List.Pairwise.nil⟩ (by rw [Heap.size_push];exact Nat.le_refl _)
 rw [Heap.size_push] at this
 exact this
def gz (X:Cx) (cap:List Nat) (scope:Scope):Bool:=cap.all fun j=>match X.N[j]? with
 | some x=>!cS scope.names x
 | none=>true
section
variable {X:Cx}{c:C}
theorem zf {cells:List (Str×Addr)}{names names2:List (Str×NameKind)}{cl:List (Str×Addr)}{n:Nat}(h:bG cells names []=some cl)
  (hn:(names2.all fun y=>!(y.2 == .free) || ((names.any fun z=>z.1 == y.1 && z.2 == .free) || cS names y.1))=true):(bG (cellsFrom n names cl) names2 []).isSome=true:=by
 obtain ⟨_,m2⟩:=gH names [] cl h (fun x c h=>by simp at h)
 have go:∀(l:List (Str×NameKind)) (cs:List (Str×Addr)),(l.all fun y=>!(y.2 == .free) || ((names.any fun z=>z.1 == y.1 && z.2 == .free) || cS names y.1))=true->(bG (cellsFrom n names cl) l cs).isSome=true:=by
  intro l
  induction l with
  | nil=>intro cs _;rfl
  | cons y r ih=>
   obtain ⟨y,k⟩:=y
   intro cs hl
   rw [List.all_cons,Bool.and_eq_true] at hl
   unfold bG
   split
   ·rename_i hk
    have h1:=hl.1
    simp only [hk,Bool.not_true,Bool.false_or,Bool.or_eq_true] at h1
    have:((cellsFrom n names cl).lookup y).isSome=true:=by
     refine fW names n cl y ?_
     rcases h1 with z | z
     ·obtain ⟨q,hq,e⟩:=List.any_eq_true.mp z
      rw [Bool.and_eq_true] at e
      have e1:q=(y,NameKind.free):=by
       obtain ⟨q1,q2⟩:=q
       have a1:q1=y:=eq_of_beq e.1
       have a2:q2=NameKind.free:=by simpa using e.2
       rw [a1,a2]
      exact .inl (m2 y (.inr (e1▸hq)))
     ·exact .inr z
    obtain ⟨a,ha⟩:=Option.isSome_iff_exists.mp this
    rw [ha]
    exact ih _ hl.2
   ·exact ih _ hl.2
 exact go names2 [] hn
end
end DL
namespace K51
open PySem DL
def Aa:List Str:=["_law_script","_law_k"]
def rG:G O:=(aL (bJ (bB (g2 (kT fun i j=>.bl (decide (i < j))) (af 1) (gN ez (ao (af 0) aI)))) (bK (g2 fu (g2 aX (af 0) (af 1)) (g2 DP (gC (.int 10)) (gC (.int 64))))) cX)
 (bK (gC (.int 0))))
def bX (as:List S):M R:=fin (rG (bH Aa as))
def yu:List Str:=["_law_cell_here","_law_many","_law_letters","_law_sign","_law_stem","_law_found","_law_k","_law_other","_law_name"]
def pR:G O:=(aL (bw 2 (gC (.str "abcdefghijklmnopqrstuvwxyz")))
 (aL (bw 3 (g2 aX (af 2) (g2 fu (g2 iI (af 0) (gC (.int 3))) (gC (.int 26)))))
 (aL (bw 4 (g2 fY (af 3) (g2 dU (gC (.int 1)) (g2 fu (g2 iI (af 0) (gC (.int 78))) (gC (.int 7))))))
 (aL (bw 5 (gJ aV))
 (aL (cZ (cJ (ao (af 1) aI)) (aE 6) (aL (bw 7 (g2 aX (af 2) (g2 fu (g2 dU (g2 iI (af 0) (gC (.int 546))) (g2 fY (gC (.int 9)) (af 6))) (gC (.int 26)))))
 (aL (bw 8 (g2 aX (gJ (aA (g2 dU (af 4) (af 7)) (aA (g2 dU (af 7) (af 4)) (aA (g2 fY (af 3) (g2 dU (af 6) (gC (.int 2)))) aV)))) (g2 fu (af 0) (gC (.int 3)))))
 (aL (bJ (bB (g2 (cR false) (af 8) (gC (.str "or")))) (bw 8 (gC (.str "orx"))) cX)
 (lI 5 (af 8))))))
 (bK (gN jW (ao (af 5) aI))))))))
def f_ (as:List S):M R:=fin (pR (bH yu as))
def z_:List Str:=["_law_cell_here","_law_size","_law_found","_law_k"]
def rE:G O:=(aL (bw 2 (gJ aV))
 (aL (cZ (cJ (ao (af 1) aI)) (aE 3) (aL (lI 2 (g2 (cR false) (g2 fu (af 0) (gC (.int 2))) (gC (.int 1))))
 (bw 0 (g2 iI (af 0) (gC (.int 2))))))
 (bK (af 2))))
def gT (as:List S):M R:=fin (rE (bH z_ as))
def yw:List Str:=["_law_names_here","_law_many","_law_cells","_law_marks","_law_k","_law_bits_here","_law_arrows"]
def pT:G O:=(aL (bw 3 (gJ aV))
 (aL (cZ (cJ (ao (gN ez (ao (g2 aX (af 0) (gC (.int 0))) aI)) aI)) (aE 4) (aL (bw 5 (gN (bf 2 K51.gT) (ao (g2 aX (af 2) (af 4)) (ao (af 1) aI))))
 (lI 3 (bD (aA (g2 aX (g2 aX (af 0) (gC (.int 0))) (af 4)) (aA (gN cM (ao (b_ 1 [5] (cJ (ao (af 1) aI)) (aE 0) (qi (g2 aX (af 1) (af 0))) (af 0)) aI)) aV))))))
 (aL (bw 6 (gJ aV))
 (aL (cZ (cJ (ao (gN ez (ao (g2 aX (af 0) (gC (.int 1))) aI)) aI)) (aE 4) (aL (bw 5 (gN (bf 2 K51.gT) (ao (g2 aX (af 2) (g2 dU (gC (.int 3)) (af 4))) (ao (g2 fY (af 1) (af 1)) aI))))
 (lI 6 (bD (aA (g2 aX (g2 aX (af 0) (gC (.int 1))) (af 4)) (aA (gN cM (ao (b_ 1 [5,1] (cJ (ao (g2 fY (af 1) (af 1)) aI)) (aE 0) (qi (g2 aX (af 1) (af 0))) (bD (aA (g2 iI (af 0) (af 2)) (aA (g2 fu (af 0) (af 2)) aV)))) aI)) aV))))))
 (bK (bD (aA (af 1) (aA (gN cM (ao (af 3) aI)) (aA (gN cM (ao (af 6) aI)) aV)))))))))
def fq (as:List S):M R:=fin (pT (bH yw as))
end K51
namespace WP
open PySem DL K01
def Wp {α:Type}(m:M α) (P:α->Prop):Prop:=∃a,m=.ok a/\P a
section
variable {α β:Type}{m:M α}{P P':α->Prop}{a:α}{env:Ev}{Q:O->Prop}{t u:G O}{g:G R}{r r':R}{i:Nat}{b:G Bool}
theorem Wp.of (h:m=.ok a) (p:P a):Wp m P:=⟨a,h,p⟩
theorem Wp.mono (h:Wp m P) (k:∀a,P a->P' a):Wp m P':=let ⟨a,h1,h2⟩:=h;⟨a,h1,k a h2⟩
theorem Wp.eq (h:Wp m (·=a)):m=.ok a:=let ⟨_,h1,h2⟩:=h;h2▸h1
theorem pD {P:R->Prop}(h:Wp (t env) fun o=>∃r,o=.rt r/\P r):Wp (fin (t env)) P:=by
 obtain ⟨_,h1,r,rfl,h2⟩:=h
 exact ⟨r,by rw [h1];rfl,h2⟩
theorem sL (h:Wp (t env) fun o=>∃e,o=.nx e):fin (t env)=.ok (.d .non):=by
 obtain ⟨_,h1,r,rfl⟩:=h
 rw [h1];rfl
theorem fX (h:Wp (t env) (·=.rt r)):fin (t env)=.ok r:=by
 rw [h.eq];rfl
theorem cW (h:Wp (t env) fun o=>match o with
 | .nx e=>Wp (u e) Q
 | o=>Q o):Wp (aL t u env) Q:=by
 obtain ⟨o,h1,h2⟩:=h
 show Wp (t env >>= _) Q
 rw [h1]
 cases o with
 | nx e=>exact h2
 | rt r=>exact ⟨_,rfl,h2⟩
 | bk e=>exact ⟨_,rfl,h2⟩
 | ct e=>exact ⟨_,rfl,h2⟩
theorem iB {x:S}(h:g env=.ok r) (h2:toS r=.ok x) (k:Q (.nx (env.set i (some x)))):Wp (bw i g env) Q:=⟨_,by show (g env >>= _)=_;rw [h,aN,h2];rfl,k⟩
theorem bI {x:S}(h:g env=.ok r) (h2:toS r=.ok x) (k:Wp (u (env.set i (some x))) Q):Wp (aL (bw i g) u env) Q:=cW (iB h h2 k)
theorem cg (h:g env=.ok r) (h2:rF r=.ok r') (k:Q (.rt r')):Wp (bK g env) Q:=⟨_,KC h h2,k⟩
theorem LR (h:g env=.ok r) (h2:rF r=.ok r') (k:Q (.rt r')):Wp (aL (bK g) u env) Q:=cW (cg h h2 k)
theorem iJ (k:Q (.nx env)):Wp (cX env) Q:=⟨_,rfl,k⟩
theorem MQ (k:Wp (u env) Q):Wp (aL cX u env) Q:=cW (iJ k)
theorem jx (h:b env=.ok true) (k:Wp (t env) Q):Wp (bJ b t u env) Q:=by rw [tL h];exact k
theorem ng (h:b env=.ok false) (k:Wp (u env) Q):Wp (bJ b t u env) Q:=by rw [xh h];exact k
theorem tN {c:Bool}(h:b env=.ok c) (k1:c=true->Wp (t env) Q) (k2:c=false->Wp (u env) Q):Wp (bJ b t u env) Q:=by
 cases c with
 | true=>exact jx h (k1 rfl)
 | false=>exact ng h (k2 rfl)
theorem LS {v:G O}(h:b env=.ok true) (k:Wp (aL t v env) Q):Wp (aL (bJ b t u) v env) Q:=by
 have:aL (bJ b t u) v env=aL t v env:=by unfold aL;rw [tL h]
 rw [this];exact k
theorem MP {v:G O}(h:b env=.ok false) (k:Wp (aL u v env) Q):Wp (aL (bJ b t u) v env) Q:=by
 have:aL (bJ b t u) v env=aL u v env:=by unfold aL;rw [xh h]
 rw [this];exact k
theorem dh {v:G O}(h:b env=.ok false) (k:Wp (v env) Q):Wp (aL (bJ b t cX) v env) Q:=MP h (MQ k)
theorem rQ {xs:List D}{d:D}(h0:env[i]?=some (some (.own xs))) (h:g env=.ok r) (h2:toD r=.ok d) (hl:xs.length<=1000) (k:Q (.nx (env.set i (some (.own (xs++[d])))))):Wp (lI i g env) Q:=by
 refine ⟨_,?_,k⟩
 unfold lI
 rw [h0]
 show (g env >>= _)=_
 rw [h,aN,h2,aN,if_pos (Nat.lt_of_le_of_lt hl (by decide))]
theorem LQ {xs:List D}{d:D}(h0:env[i]?=some (some (.own xs))) (h:g env=.ok r) (h2:toD r=.ok d) (hl:xs.length<=1000) (k:Wp (u (env.set i (some (.own (xs++[d]))))) Q):Wp (aL (lI i g) u env) Q:=cW (rQ h0 h h2 hl k)
theorem rR {gi:G (List D)}{tg:GT}{ds:List D}(h:gi env=.ok ds) (k:Wp (fD tg u ds env) Q):Wp (cZ gi tg u env) Q:=by rw [IL h];exact k
theorem gY {gi:G (List D)}{tg:GT}{ds:List D}{v:G O}(h:gi env=.ok ds) (k:Wp (fD tg t ds env) fun o=>match o with
 | .nx e=>Wp (v e) Q
 | o=>Q o):Wp (aL (cZ gi tg t) v env) Q:=cW (rR h k)
theorem yq {tg:GT}(I:Nat->Ev->Prop) (ds:List D) (h0:I 0 env) (step:∀(k:Nat) (hk:k < ds.length) (env:Ev),I k env->∃e,tg ds[k] env=.ok e/\Wp (u e) fun o=>∃e,o=.nx e/\I (k + 1) e)
  (k:∀e,I ds.length e->Q (.nx e)):Wp (fD tg u ds env) Q:=by
 have key:∀(es:List D) (i:Nat) (env:Ev),ds.drop i=es->i<=ds.length->I i env->Wp (fD tg u es env) Q:=by
  intro es
  induction es with
  | nil=>
   intro i env hd hi hI
   have:i=ds.length:=by
    have:=congrArg List.length hd
    rw [List.length_drop] at this
    simp at this;omega
   subst this
   exact ⟨_,rfl,k _ hI⟩
  | cons d es ih=>
   intro i env hd hi hI
   have hlt:i < ds.length:=by
    have:=congrArg List.length hd
    rw [List.length_drop] at this
    simp at this;omega
   have e1:=List.drop_eq_getElem_cons hlt
   rw [hd] at e1
   obtain ⟨q1,q2⟩:=List.cons.inj e1
   obtain ⟨e,h1,_,h2,e2,rfl,h3⟩:=step i hlt env hI
   unfold fD
   rw [q1,h1,aN,h2,aN]
   exact ih (i + 1) e2 q2.symm (by omega) h3
 exact key ds 0 env rfl (Nat.zero_le _) h0
theorem nC {tg:GT}{n:Nat}(I:Nat->Ev->Prop) (h0:I 0 env) (step:∀(k:Nat),k < n->∀env,I k env->∃e,tg (.int k) env=.ok e/\Wp (u e) fun o=>∃e,o=.nx e/\I (k + 1) e)
  (k:∀e,I n e->Q (.nx e)):Wp (fD tg u (dO 0 n) env) Q:=by
 have hl:(dO 0 n).length=n:=by simp [dO]
 refine yq I (dO 0 n) h0 (fun j hj env hI=>?_) (by rw [hl];exact k)
 obtain ⟨e,h1,h2⟩:=step j (by rw [hl] at hj;exact hj) env hI
 refine ⟨e,?_,h2⟩
 rw [<-h1]
 simp [dO]
theorem n1 {f:List R->M R}{x z:R}(hx:g env=.ok x) (hf:f [x]=.ok z):gN f (ao g aI) env=.ok z:=Lm hx hf
theorem two {f:R->R->M R}{h:G R}{x y z:R}(hx:g env=.ok x) (hy:h env=.ok y) (hf:f x y=.ok z):g2 f g h env=.ok z:=by
 show (g env >>= _)=_
 rw [hx,aN,hy,aN,hf]
theorem c1 {F:List S->M R}{x z:R}(hx:g env=.ok x) (hF:F [gD x]=.ok z):gN (bf 1 F) (ao g aI) env=.ok (pQ z):=by
 show (ao g aI env >>= _)=_
 unfold ao aI
 rw [hx]
 show (match F [gD x] with | .ok r=>M.ok (pQ r) | _=>M.bad)=_
 rw [hF]
theorem c2 {F:List S->M R}{h:G R}{x y z:R}(hx:g env=.ok x) (hy:h env=.ok y) (hF:F [gD x,gD y]=.ok z):gN (bf 2 F) (ao g (ao h aI)) env=.ok (pQ z):=by
 show (ao g (ao h aI) env >>= _)=_
 unfold ao aI
 rw [hx,hy]
 show (match F [gD x,gD y] with | .ok r=>M.ok (pQ r) | _=>M.bad)=_
 rw [hF]
theorem c3 {F:List S->M R}{h k:G R}{x y w z:R}(hx:g env=.ok x) (hy:h env=.ok y) (hw:k env=.ok w) (hF:F [gD x,gD y,gD w]=.ok z):gN (bf 3 F) (ao g (ao h (ao k aI))) env=.ok (pQ z):=by
 show (ao g (ao h (ao k aI)) env >>= _)=_
 unfold ao aI
 rw [hx,hy,hw]
 show (match F [gD x,gD y,gD w] with | .ok r=>M.ok (pQ r) | _=>M.bad)=_
 rw [hF]
theorem c4 {F:List S->M R}{h k l:G R}{x y w v z:R}(hx:g env=.ok x) (hy:h env=.ok y) (hw:k env=.ok w) (hv:l env=.ok v) (hF:F [gD x,gD y,gD w,gD v]=.ok z):gN (bf 4 F) (ao g (ao h (ao k (ao l aI)))) env=.ok (pQ z):=by
 show (ao g (ao h (ao k (ao l aI))) env >>= _)=_
 unfold ao aI
 rw [hx,hy,hw,hv]
 show (match F [gD x,gD y,gD w,gD v] with | .ok r=>M.ok (pQ r) | _=>M.bad)=_
 rw [hF]
theorem sZ (h:g env=.ok r) (k:Wp (u env) Q):Wp (aL (kW g) u env) Q:=cW ⟨.nx env,by show (g env >>= _)=_;rw [h];rfl,k⟩
theorem mR {cap:List Nat}{gi:G (List D)}{ge:G R}{α:Type}{xs:List α}(a b:α->D) (f:α->D) (hi:gi env=.ok (xs.map fun x=>.tup [a x,b x])) (hl:xs.length<=1000)
  (h:∀x∈xs,∃r,ge (some (.d (a x))::some (.d (b x))::cE 0 cap env)=.ok r/\toD r=.ok (f x)):b_ 2 cap gi (dg 2 (br (aE 0) (br (aE 1) dF))) fc ge env=.ok (.l .fresh (xs.map f)):=by
 have key:∀(es:List α) (x y:Option S),(∀d∈es,d∈xs)->cP (dg 2 (br (aE 0) (br (aE 1) dF))) fc ge (es.map fun x=>.tup [a x,b x]) (x::y::cE 0 cap env)=.ok (es.map f):=by
  intro es
  induction es with
  | nil=>exact fun _ _ _=>rfl
  | cons d es ih=>
   intro x y hm
   obtain ⟨r,h1,h2⟩:=h d (hm d List.mem_cons_self)
   rw [List.map_cons]
   unfold cP
   show (ge (some (.d (a d))::some (.d (b d))::cE 0 cap env) >>= _)=_
   rw [h1,aN,h2,aN]
   show (cP _ fc ge _ (some (.d (a d))::some (.d (b d))::cE 0 cap env) >>= _)=_
   rw [ih _ _ fun e he=>hm e (List.mem_cons_of_mem _ he)]
   rfl
 unfold b_
 rw [hi,aN,if_pos (fz (by rw [List.length_map];exact hl))]
 show (cP _ fc ge _ (none::none::cE 0 cap env) >>= _)=_
 rw [key xs none none fun _ h=>h]
 rfl
theorem KH (n:Nat):dO 0 n=(List.range n).map dN:=by simp [dO]
theorem lJ {gs:G (List R)}{n:Nat}(hg:gs env=.ok [.d (.int (n:Int))]) (h:n<=1000):cJ gs env=.ok ((List.range n).map dN):=by rw [qz hg h,KH]
theorem DF {cap:List Nat}{gi:G (List D)}{ge:G R}{α:Type}{xs:List α}{h:α->D}(f:α->D) (hi:gi env=.ok (xs.map h)) (hl:xs.length<=1000)
  (hb:∀x∈xs,∃r,ge (some (.d (h x))::cE 0 cap env)=.ok r/\toD r=.ok (f x)):b_ 1 cap gi (aE 0) fc ge env=.ok (.l .fresh (xs.map f)):=by
 have key:∀(es:List α) (x:Option S),(∀d∈es,d∈xs)->cP (aE 0) fc ge (es.map h) (x::cE 0 cap env)=.ok (es.map f):=by
  intro es
  induction es with
  | nil=>exact fun _ _=>rfl
  | cons d es ih=>
   intro x hm
   obtain ⟨r,h1,h2⟩:=hb d (hm d List.mem_cons_self)
   rw [List.map_cons]
   unfold cP
   show (ge (some (.d (h d))::cE 0 cap env) >>= _)=_
   rw [h1,aN,h2,aN]
   show (cP (aE 0) fc ge _ (some (.d (h d))::cE 0 cap env) >>= _)=_
   rw [ih _ fun e he=>hm e (List.mem_cons_of_mem _ he)]
   rfl
 unfold b_
 rw [hi,aN,if_pos (fz (by rw [List.length_map];exact hl))]
 show (cP (aE 0) fc ge _ (none::cE 0 cap env) >>= _)=_
 rw [key xs none fun _ h=>h]
 rfl
theorem As {cap:List Nat}{gi:G (List D)}{ge:G R}{gts:G Bool}{α:Type}{xs:List α}{h:α->D}(p:α->Bool) (f:α->D) (hi:gi env=.ok (xs.map h)) (hl:xs.length<=1000)
  (hb:∀x∈xs,gts (some (.d (h x))::cE 0 cap env)=.ok (p x)/\(p x=true->∃r,ge (some (.d (h x))::cE 0 cap env)=.ok r/\toD r=.ok (f x))):b_ 1 cap gi (aE 0) gts ge env=.ok (.l .fresh ((xs.filter p).map f)):=by
 have key:∀(es:List α) (x:Option S),(∀d∈es,d∈xs)->cP (aE 0) gts ge (es.map h) (x::cE 0 cap env)=.ok ((es.filter p).map f):=by
  intro es
  induction es with
  | nil=>exact fun _ _=>rfl
  | cons d es ih=>
   intro x hm
   obtain ⟨h0,h1⟩:=hb d (hm d List.mem_cons_self)
   rw [List.map_cons]
   unfold cP
   show (gts (some (.d (h d))::cE 0 cap env) >>= _)=_
   rw [h0,aN]
   cases q:p d with
   | true=>
    obtain ⟨r,h1,h2⟩:=h1 q
    rw [if_pos rfl]
    show (ge (some (.d (h d))::cE 0 cap env) >>= _)=_
    rw [h1,aN,h2,aN]
    show (cP (aE 0) gts ge _ (some (.d (h d))::cE 0 cap env) >>= _)=_
    rw [ih _ fun e he=>hm e (List.mem_cons_of_mem _ he),List.filter_cons_of_pos q]
    rfl
   | false=>
    rw [if_neg (by decide),List.filter_cons_of_neg (by simp [q])]
    exact ih _ fun e he=>hm e (List.mem_cons_of_mem _ he)
 unfold b_
 rw [hi,aN,if_pos (fz (by rw [List.length_map];exact hl))]
 show (cP (aE 0) gts ge _ (none::cE 0 cap env) >>= _)=_
 rw [key xs none fun _ h=>h]
 rfl
theorem fO {x:R}(h:g env=.ok x):ao g aI env=.ok [x]:=by
 show (g env >>= _)=_
 rw [h]
 rfl
theorem bu:aV env=.ok []:=rfl
theorem aJ {gs:G (List D)}{d:D}{ds:List D}(h:g env=.ok r) (h2:toD r=.ok d) (k:gs env=.ok ds):aA g gs env=.ok (d::ds):=by
 show (g env >>= _)=_
 rw [h,aN,h2,aN,k]
 rfl
theorem bz {gs:G (List D)}{ds:List D}(h:gs env=.ok ds) (hl:ds.length<=1000):bD gs env=.ok (.d (.tup ds)):=by
 show (gs env >>= _)=_
 rw [h,aN,if_pos (fz hl)]
theorem oA {gs:G (List D)}{ds:List D}(h:gs env=.ok ds) (hl:ds.length<=1000):gJ gs env=.ok (.l .fresh ds):=by
 show (gs env >>= _)=_
 rw [h,aN,if_pos (fz hl)]
theorem lV {α:Type}{xs:List α}{h:α->D}(f:R) (hf:iO f=.ok (xs.map h)) (i:Int) (h0:0<=i) (hi:i < xs.length):∃x∈xs,aX f (.d (.int i))=.ok (.d (h x)):=by
 obtain ⟨k,rfl⟩:=Int.eq_ofNat_of_zero_le h0
 have hk:k < xs.length:=by omega
 refine ⟨xs[k],List.getElem_mem hk,?_⟩
 have h1:(xs.map h)[k]?=some (h xs[k]):=by rw [List.getElem?_map,List.getElem?_eq_getElem hk];rfl
 cases f with
 | d x=>
  cases x with
  | tup ys=>cases hf;exact iP h1
  | lst ys=>cases hf;unfold aX;simp only [iO,aN,jV h1]
  | _=>cases hf
 | l m x=>cases hf;exact qW h1
 | mo _ _=>cases hf
 | mb _ _=>cases hf
theorem FU {xs:List D}(h:env[i]?=some (some (.own xs))) (k:Wp (t (env.set i (some (.d (.lst xs))))) Q):Wp (jK i t env) Q:=by
 have:jK i t env=t (env.set i (some (.d (.lst xs)))):=by unfold jK;rw [h]
 rw [this];exact k
theorem Lg {tg:GT}{d:D}{e:Ev}(h:g env=.ok r) (h2:toD r=.ok d) (h3:tg d env=.ok e) (k:Q (.nx e)):Wp (kq tg g env) Q:=⟨_,by show (g env >>= _)=_;rw [h,aN,h2,aN,h3];rfl,k⟩
theorem sy {tg:GT}{d:D}{e:Ev}(h:g env=.ok r) (h2:toD r=.ok d) (h3:tg d env=.ok e) (k:Wp (u e) Q):Wp (aL (kq tg g) u env) Q:=cW (Lg h h2 h3 k)
theorem Dw {α:Type}(xs:List α) (z:α):L2.kQ (xs++[z]) (-1)=some z:=by
 unfold L2.kQ L2.xm
 rw [if_neg (by decide),if_pos (by simp;omega)]
 rw [show ((-1:Int) + ((xs++[z]).length:Nat)).toNat=xs.length by simp;omega]
 simp
theorem zu (xs:List D) (z:D):aX (.d (.tup (xs++[z]))) (.d (.int (-1)))=.ok (.d z):=by
 unfold aX
 simp only [iO,aN,Dw]
theorem m9 (neg:Bool) (x:D) (ys:List D) (h:deps ys<=60) (hx:dep x<=60):jj neg (.d x) (.d (.tup ys))=.ok (.d (.bl (if neg then !inD x ys else inD x ys))):=by
 show (if deps ys<=60/\dep x<=60 then M.ok (R.d (.bl (if neg then !inD x ys else inD x ys))) else M.bad)=_
 rw [if_pos ⟨h,hx⟩]
theorem mY (neg:Bool) (x y:R) (h:dep x.dat<=60) (hx:dep y.dat<=60):cR neg x y=.ok (.d (.bl (if neg then !aZ x.dat y.dat else aZ x.dat y.dat))):=by
 unfold cR
 rw [if_pos ⟨h,hx⟩]
theorem eU {n:Nat}:∀{xs:List D},(∀x∈xs,dep x<=n)->deps xs<=n
 | [],_=>Nat.zero_le _
 | x::xs,h=>by
  have h1:=h x List.mem_cons_self
  have h2:=eU (xs:=xs) fun y hy=>h y (List.mem_cons_of_mem _ hy)
  simp only [deps]
  omega
theorem wW (xs:List Nat):deps (xs.map dN)<=60:=eU fun x hx=>by
 obtain ⟨k,_,rfl⟩:=List.mem_map.mp hx
 exact Nat.zero_le _
theorem qR (xs:List (Nat×Nat)):deps (xs.map dP)<=60:=eU fun x hx=>by
 obtain ⟨k,_,rfl⟩:=List.mem_map.mp hx
 exact (by decide:(1:Nat)<=60)
end
end WP
namespace K51
open PySem DL K01 WP
def cV (ns:List Int) (k:Nat):Int:=(ns.map fun x=>x % 10 ^ 64).getD k 0
theorem kg (ns:List Int) (k:Nat):0<=cV ns k:=by
 unfold cV
 rw [List.getD_eq_getElem?_getD,List.getElem?_map]
 cases ns[k]? with
 | none=>exact Int.le_refl _
 | some x=>exact Int.emod_nonneg _ (by decide)
theorem Bo (ns:List Int) (k:Nat):bX [.bor (ns.map D.int),.d (.int k)]=.ok (.d (.int (cV ns k))):=by
 refine fX (cW (tN (c:=decide ((k:Int) < ((ns.map D.int).length:Nat))) rfl (fun h=>?_) fun h=>?_))
 ·have h:k < ns.length:=by simpa using h
  have e:(ns.map D.int)[k]?=some (.int ns[k]):=by rw [List.getElem?_map,List.getElem?_eq_getElem h];rfl
  refine cg (two (two rfl rfl (qW e)) rfl (iD _ _ (by decide))) rfl ?_
  unfold cV
  rw [List.getD_eq_getElem?_getD,List.getElem?_map,List.getElem?_eq_getElem h]
  rfl
 ·have h:ns.length<=k:=by simpa using h
  refine iJ (cg rfl rfl ?_)
  unfold cV
  rw [List.getD_eq_getElem?_getD,List.getElem?_map,List.getElem?_eq_none (by omega)]
  rfl
theorem HP (b n:Nat):(iM ⟨#[b]⟩ n).length=n:=by
 rw [GF,Gk,List.length_replicate]
theorem yV (c:Int) (hc:0<=c) (m:Nat) (hm:m<=3):∃ss:List Str,f_ [.d (.int c),.d (.int m)]=.ok (.l .fresh (ss.map .str))/\ss.length=m:=by
 have key:Wp (f_ [.d (.int c),.d (.int m)]) fun r=>∃ss:List Str,r=.l .fresh (ss.map .str)/\ss.length=m:=by
  refine pD (bI rfl rfl (bI (two rfl rfl (B9 (c / 3 % 26) (by omega) (by omega))) rfl ?_))
  generalize 97 + (c / 3 % 26).toNat=b
  refine bI (two rfl rfl (FP _ (1 + c / 78 % 7) (by omega) (by omega) (show 1<=1000 by decide))) rfl ?_
  have hst:(iM ⟨#[b]⟩ (1 + c / 78 % 7).toNat).length<=8:=by rw [HP];omega
  generalize iM ⟨#[b]⟩ (1 + c / 78 % 7).toNat=stem at hst
  refine bI rfl rfl (gY (qz (n:=m) rfl (by omega)) ?_)
  refine nC (n:=m) (fun k env=>∃(ss:List Str) (x y z:Option S),env=[some (.d (.int c)),some (.d (.int m)),some (.d (.str "abcdefghijklmnopqrstuvwxyz")),some (.d (.str ⟨#[b]⟩)),some (.d (.str stem)),some (.own (ss.map .str)),x,y,z]/\ss.length=k) ⟨[],none,none,none,rfl,rfl⟩ ?_ ?_
  ·rintro k hk _ ⟨ss,x,y,z,rfl,hl⟩
   refine ⟨_,rfl,?_⟩
   refine bI (two rfl rfl (B9 ((c / 546 + 9 * k) % 26) (by omega) (by omega))) rfl ?_
   generalize 97 + ((c / 546 + 9 * k) % 26).toNat=o
   obtain ⟨nm,hnm⟩:∃nm:Str,g2 aX (gJ (aA (g2 dU (af 4) (af 7)) (aA (g2 dU (af 7) (af 4)) (aA (g2 fY (af 3) (g2 dU (af 6) (gC (.int 2)))) aV)))) (g2 fu (af 0) (gC (.int 3))) [some (.d (.int c)),some (.d (.int m)),some (.d (.str "abcdefghijklmnopqrstuvwxyz")),some (.d (.str ⟨#[b]⟩)),some (.d (.str stem)),some (.own (ss.map .str)),some (.d (.int k)),some (.d (.str ⟨#[o]⟩)),z]=.ok (.d (.str nm)):=by
    have h1:=FQ stem ⟨#[o]⟩ (by show _ + 1<=1000;omega)
    have h2:=FQ ⟨#[o]⟩ stem (by show 1 + _<=1000;omega)
    have h3:=FP ⟨#[b]⟩ (k + 2) (by omega) (by omega) (show 1<=1000 by decide)
    have hg:gJ (aA (g2 dU (af 4) (af 7)) (aA (g2 dU (af 7) (af 4)) (aA (g2 fY (af 3) (g2 dU (af 6) (gC (.int 2)))) aV))) [some (.d (.int c)),some (.d (.int m)),some (.d (.str "abcdefghijklmnopqrstuvwxyz")),some (.d (.str ⟨#[b]⟩)),some (.d (.str stem)),some (.own (ss.map .str)),some (.d (.int k)),some (.d (.str ⟨#[o]⟩)),z]=.ok (.l .fresh [.str (stem++⟨#[o]⟩),.str (⟨#[o]⟩++stem),.str (iM ⟨#[b]⟩ ((k:Int) + 2).toNat)]):=by
     have l3:(3:Nat)<=sizeLine:=by decide
     simp only [gJ,aA,aV,g2,af,gC,S.rd,List.getElem?_cons_zero,List.getElem?_cons_succ,aN,h1,h2,yj,h3,toD,List.length_cons,List.length_nil,l3,if_true]
    have hcs:c % 3=0\/c % 3=1\/c % 3=2:=by omega
    rcases hcs with h | h | h
    ·exact ⟨_,two hg (iD c 3 (by decide)) (by rw [h];rfl)⟩
    ·exact ⟨_,two hg (iD c 3 (by decide)) (by rw [h];rfl)⟩
    ·exact ⟨_,two hg (iD c 3 (by decide)) (by rw [h];rfl)⟩
   refine bI hnm rfl (cW (tN (c:=aZ (.str nm) (.str "or")) rfl (fun h=>iB rfl rfl ?_) fun h=>iJ ?_))
   ·exact rQ rfl rfl rfl (by rw [List.length_map];omega) ⟨_,rfl,ss++[("orx":Str)],_,_,_,by rw [List.map_append];rfl,by rw [List.length_append,hl];rfl⟩
   ·exact rQ rfl rfl rfl (by rw [List.length_map];omega) ⟨_,rfl,ss++[nm],_,_,_,by rw [List.map_append];rfl,by rw [List.length_append,hl];rfl⟩
  ·rintro _ ⟨ss,x,y,z,rfl,hl⟩
   refine cg (n1 rfl (sorted_strs _ _ (by omega))) rfl ⟨_,rfl,_,rfl,?_⟩
   unfold pA
   simp [hl]
 obtain ⟨_,h,ss,rfl,hl⟩:=key
 exact ⟨ss,h,hl⟩
theorem Bm (c:Int) (m:Nat) (hm:m<=64):∃bs:List Bool,gT [.d (.int c),.d (.int m)]=.ok (.l .fresh (bs.map .bl))/\bs.length=m:=by
 have key:Wp (gT [.d (.int c),.d (.int m)]) fun r=>∃bs:List Bool,r=.l .fresh (bs.map .bl)/\bs.length=m:=by
  refine pD (bI rfl rfl (gY (qz (n:=m) rfl (by omega)) ?_))
  refine nC (n:=m) (fun k env=>∃(bs:List Bool) (c:Int) (x:Option S),env=[some (.d (.int c)),some (.d (.int m)),some (.own (bs.map .bl)),x]/\bs.length=k) ⟨[],c,none,rfl,rfl⟩ ?_ ?_
  ·rintro k hk _ ⟨bs,c,x,rfl,hl⟩
   refine ⟨_,rfl,LQ rfl rfl rfl (by rw [List.length_map];omega) (iB rfl rfl ⟨_,rfl,bs++[c % 2 == 1],c / 2,_,by rw [List.map_append];rfl,by rw [List.length_append,hl];rfl⟩)⟩
  ·rintro _ ⟨ss,x,y,rfl,hl⟩
   exact cg rfl rfl ⟨_,rfl,_,rfl,hl⟩
 obtain ⟨_,h,ss,rfl,hl⟩:=key
 exact ⟨ss,h,hl⟩
theorem Km (bs:List Bool) (m:Nat) (hm:m<=8):vF m ((List.range m).filter fun p=>bs.getD p false):=by
 refine ⟨?_,List.Pairwise.filter _ List.pairwise_lt_range,fun x hx=>?_⟩
 ·exact Nat.le_trans (List.length_filter_le _ _) (by simpa using hm)
 ·simpa using (List.mem_filter.mp hx).1
theorem Ke (bs:List Bool) (m:Nat) (h1:1<=m) (hm:m<=8):qG m (((List.range (m * m)).filter fun p=>bs.getD p false).map fun p=>(p / m,p % m)):=by
 have NH:m * m<=64:=Nat.mul_le_mul hm hm
 refine ⟨?_,?_,fun x hx=>?_⟩
 ·rw [List.length_map]
  refine Nat.le_trans (List.length_filter_le _ _) (by simpa using NH)
 ·rw [List.pairwise_map]
  refine List.Pairwise.imp ?_ (List.Pairwise.filter _ List.pairwise_lt_range)
  intro p q hpq
  have e1:=Nat.div_add_mod p m
  have e2:=Nat.div_add_mod q m
  have h3:p / m<=q / m:=Nat.div_le_div_right (by omega)
  by_cases h:p / m < q / m
  ·exact .inl h
  ·have e:p / m=q / m:=by omega
   refine .inr ⟨e,?_⟩
   rw [e] at e1
   show p % m < q % m
   omega
 ·obtain ⟨p,hp,rfl⟩:=List.mem_map.mp hx
  have:p < m * m:=by simpa using (List.mem_filter.mp hp).1
  exact ⟨Nat.div_lt_of_lt_mul this,Nat.mod_lt _ (by omega)⟩
theorem M5 (bs:List Bool) (m k:Nat) (hl:bs.length=m) (hk:k < m):aX (.l .bor (bs.map D.bl)) (.d (.int k))=.ok (.d (.bl (bs.getD k false))):=by
 refine qW ?_
 rw [List.getElem?_map,List.getElem?_eq_getElem (by omega),List.getD_eq_getElem?_getD,List.getElem?_eq_getElem (by omega)]
 rfl
theorem zd (bs:List Bool) (m k:Nat) (hl:bs.length=m) (hk:k < m):aX (.l .own (bs.map D.bl)) (.d (.int k))=.ok (.d (.bl (bs.getD k false))):=by
 refine qW ?_
 rw [List.getElem?_map,List.getElem?_eq_getElem (by omega),List.getD_eq_getElem?_getD,List.getElem?_eq_getElem (by omega)]
 rfl
theorem Ij (m:Nat) (h1:1<=m) (hm:m<=8) (A B:List Str) (hA:A.length<=3) (hB:B.length<=3) (cs:List Int) (hc:cs.length=6):
  ∃ms rs,fq [.d (.tup [.lst (A.map .str),.lst (B.map .str)]),.d (.int m),.bor (cs.map .int)]=.ok (.d (Wd.d ⟨m,ms,rs⟩))/\ms.map Prod.fst=A/\rs.map Prod.fst=B/\(∀r∈ms,vF m r.2)/\∀r∈rs,qG m r.2:=by
 have key:Wp (fq [.d (.tup [.lst (A.map .str),.lst (B.map .str)]),.d (.int m),.bor (cs.map .int)]) fun r=>∃ms rs,r=.d (Wd.d ⟨m,ms,rs⟩)/\ms.map Prod.fst=A/\rs.map Prod.fst=B/\(∀r∈ms,vF m r.2)/\∀r∈rs,qG m r.2:=by
  have NH:m * m<=64:=Nat.mul_le_mul hm hm
  have tm:fY (.d (.int m)) (.d (.int m))=.ok (.d (.int ((m * m:Nat):Int))):=by rw [HZ _ _ (by omega) (by omega)];simp
  refine pD (bI rfl rfl (gY (qz (n:=(A.map D.str).length) rfl (by rw [List.length_map];omega)) ?_))
  refine nC (n:=(A.map D.str).length) (fun k env=>∃(ms:List (Str×List Nat)) (x y:Option S),env=[some (.d (.tup [.lst (A.map .str),.lst (B.map .str)])),some (.d (.int m)),some (.bor (cs.map .int)),some (.own (ms.map gR)),x,y,none]/\ms.map Prod.fst=A.take k/\∀r∈ms,vF m r.2) ⟨[],none,none,rfl,rfl,fun _ h=>by cases h⟩ ?_ ?_
  ·rintro k hk _ ⟨ms,x,y,rfl,hf,hp⟩
   rw [List.length_map] at hk
   refine ⟨_,rfl,?_⟩
   obtain ⟨c,_,hcc⟩:=lV (xs:=cs) (h:=D.int) (.l .bor (cs.map .int)) rfl k (by omega) (by omega)
   obtain ⟨bs,hb,N_⟩:=Bm c m (by omega)
   have hlen:ms.length<=3:=by
    have:=congrArg List.length hf
    rw [List.length_map,List.length_take] at this
    omega
   refine bI (c2 (two rfl rfl hcc) rfl hb) rfl ?_
   refine rQ rfl (bz (aJ (two rfl rfl (show aX (.d (.lst (A.map D.str))) _=.ok (.d (.str A[k])) from ?_)) rfl (aJ (n1 (As (xs:=List.range m) (h:=dN) (fun p=>bs.getD p false) dN (lJ rfl (by omega)) (by simp;omega) ?_) rfl) rfl bu)) (by show 2<=1000;decide)) rfl (by rw [List.length_map];omega) ?_
   ·show aX (.d (.lst (A.map D.str))) (.d (.int k))=_
    unfold aX
    have:(A.map D.str)[k]?=some (.str A[k]):=by rw [List.getElem?_map,List.getElem?_eq_getElem hk];rfl
    simp only [iO,aN,jV this]
   ·intro p hp'
    have hp':p < m:=by simpa using hp'
    have hb:=zd bs m p N_ hp'
    refine ⟨?_,fun _=>⟨_,rfl,rfl⟩⟩
    show (g2 aX (af 1) (af 0) [some (.d (dN p)),some (.own (bs.map D.bl))] >>= yl)=_
    rw [two (x:=.l .own (bs.map D.bl)) (y:=.d (dN p)) rfl rfl hb]
    rfl
   ·refine ⟨_,rfl,ms++[(A[k],(List.range m).filter fun p=>bs.getD p false)],_,_,by rw [List.map_append];rfl,?_,fun r hr=>?_⟩
    ·rw [List.map_append,hf,List.take_succ,List.getElem?_eq_getElem hk]
     rfl
    ·rw [List.mem_append,List.mem_singleton] at hr
     rcases hr with h | h
     ·exact hp r h
     ·rw [h];exact Km bs m hm
  ·rintro _ ⟨ms,x,y,rfl,hf,hp⟩
   refine bI rfl rfl (gY (qz (n:=(B.map D.str).length) rfl (by rw [List.length_map];omega)) ?_)
   refine nC (n:=(B.map D.str).length) (fun k env=>∃(rs:List (Str×List (Nat×Nat))) (x y:Option S),env=[some (.d (.tup [.lst (A.map .str),.lst (B.map .str)])),some (.d (.int m)),some (.bor (cs.map .int)),some (.own (ms.map gR)),x,y,some (.own (rs.map je))]/\rs.map Prod.fst=B.take k/\∀r∈rs,qG m r.2) ⟨[],_,_,rfl,rfl,fun _ h=>by cases h⟩ ?_ ?_
   ·rintro k hk _ ⟨rs,x,y,rfl,hf,hp⟩
    rw [List.length_map] at hk
    refine ⟨_,rfl,?_⟩
    obtain ⟨c,_,hcc⟩:=lV (xs:=cs) (h:=D.int) (.l .bor (cs.map .int)) rfl (3 + k) (by omega) (by omega)
    obtain ⟨bs,hb,N_⟩:=Bm c (m * m) (by omega)
    have hlen:rs.length<=3:=by
     have:=congrArg List.length hf
     rw [List.length_map,List.length_take] at this
     omega
    refine bI (c2 (two rfl rfl hcc) (two rfl rfl tm) hb) rfl ?_
    refine rQ rfl (bz (aJ (two rfl rfl (show aX (.d (.lst (B.map D.str))) _=.ok (.d (.str B[k])) from ?_)) rfl (aJ (n1 (As (xs:=List.range (m * m)) (h:=dN) (fun p=>bs.getD p false) (fun p=>dP (p / m,p % m)) (lJ (fO (two rfl rfl tm)) (by omega)) (by simp;omega) ?_) rfl) rfl bu)) (by show 2<=1000;decide)) rfl (by rw [List.length_map];omega) ?_
    ·show aX (.d (.lst (B.map D.str))) (.d (.int k))=_
     unfold aX
     have:(B.map D.str)[k]?=some (.str B[k]):=by rw [List.getElem?_map,List.getElem?_eq_getElem hk];rfl
     simp only [iO,aN,jV this]
    ·intro p hp'
     have hp':p < m * m:=by simpa using hp'
     have hb:=zd bs (m * m) p N_ hp'
     refine ⟨?_,fun _=>⟨_,bz (aJ (two rfl rfl (pC p m (by omega) (by omega))) rfl (aJ (two rfl rfl (iD p m (by omega))) rfl bu)) (by show 2<=1000;decide),?_⟩⟩
     ·show (g2 aX (af 1) (af 0) [some (.d (dN p)),some (.own (bs.map D.bl)),some (.d (.int m))] >>= yl)=_
      rw [two (x:=.l .own (bs.map D.bl)) (y:=.d (dN p)) rfl rfl hb]
      rfl
     ·simp [toD,dP]
    ·refine ⟨_,rfl,rs++[(B[k],((List.range (m * m)).filter fun p=>bs.getD p false).map fun p=>(p / m,p % m))],_,_,by rw [List.map_append,List.map_singleton,je,List.map_map];rfl,?_,fun r hr=>?_⟩
     ·rw [List.map_append,hf,List.take_succ,List.getElem?_eq_getElem hk]
      rfl
     ·rw [List.mem_append,List.mem_singleton] at hr
      rcases hr with h | h
      ·exact hp r h
      ·rw [h];exact Ke bs m h1 hm
   ·rintro _ ⟨rs,x,y,rfl,hf2,hp2⟩
    rw [List.length_map] at hf hf2
    refine cg (bz (aJ rfl rfl (aJ rfl rfl (aJ rfl rfl bu))) (by show 3<=1000;decide)) rfl ⟨_,rfl,ms,rs,rfl,by rw [hf,List.take_length],by rw [hf2,List.take_length],hp,hp2⟩
 obtain ⟨_,h,ms,rs,rfl,hk⟩:=key
 exact ⟨ms,rs,h,hk⟩
theorem gS (ns:List Int) (i:Int) (k:Nat) (h:i=k):bX [.bor (ns.map D.int),.d (.int i)]=.ok (.d (.int (cV ns k))):=by
 rw [h];exact Bo ns k
structure lO (w:Wd):Prop where
 lo:1<=w.m
 hi:w.m<=8
 ml:w.ms.length<=3
 al:w.ar.length<=3
theorem sF (xs ys:List D) (h:xs.length + ys.length<=1000):dI (.d (.tup xs)) (.d (.tup ys))=.ok (.d (.tup (xs++ys))):=by
 show (if xs.length + ys.length<=sizeLine then M.ok (R.d (.tup (xs++ys))) else M.bad)=_
 rw [if_pos (fz h)]
theorem Mw (l:Nat) (xs:List Nat):jj false (.d (dN l)) (.d (.tup (xs.map dN)))=.ok (.d (.bl (inD (dN l) (xs.map dN)))):=m9 false _ _ (wW xs) (Nat.zero_le _)
theorem Mx (l:Nat×Nat) (xs:List (Nat×Nat)):jj false (.d (dP l)) (.d (.tup (xs.map dP)))=.ok (.d (.bl (inD (dP l) (xs.map dP)))):=m9 false _ _ (qR xs) (by show (1:Nat)<=60;decide)
theorem t2:(2:Nat)<=1000:=by decide
end K51
namespace K51
open PySem DL K01 WP
open PySem.W (kas_sort)
theorem oM (ds:List D):(bq ds).length=ds.length:=by
 unfold bq
 by_cases h:ds.length < 2
 ·rw [if_pos h]
 ·rw [if_neg h,List.length_map]
  have:=(d_ (n:=ds.length) (by omega)).run (ltB ds)
  have:=this.size_eq
  simpa using this
theorem ly {ds:List D}{x:D}(hx:x∈bq ds):x∈ds:=by
 unfold bq at hx
 by_cases h:ds.length < 2
 ·rwa [if_pos h] at hx
 ·rw [if_neg h] at hx
  have hp:=(d_ (n:=ds.length) (by omega)).run (ltB ds)
  obtain ⟨i,hi,rfl⟩:=List.mem_map.mp hx
  have hi:i∈aU (ltB ds) (kas_sort ds.length):=by simpa using hi
  have:=(Array.Perm.mem_iff hp).mp hi
  exact dY (by simpa using this)
end K51
namespace K51
open PySem DL K01 WP
end K51
namespace DL
open PySem PySem.Spec PyProof.Rows L2
open PySem.W (KasT kas_sort kas_asc kas_desc kas_rev kas_tail3 kas_descPart kas_count kas_place kas_bin)
theorem run_bind {α β:Type}(q:Nat->Nat->Bool) (f:α->KasT β):∀t:KasT α,aU q (t.bind f)=aU q (f (aU q t))
 | .ret _=>rfl
 | .ask i j k=>run_bind q f (k (q i j))
theorem E4 {n:Nat}{α:Type}{P:α->Prop}{t:KasT α}{q q':Nat->Nat->Bool}(h:fE n P t) (e:∀i j,i < n->j < n->q i j=q' i j):aU q t=aU q' t:=by
 induction h with
 | ret _=>rfl
 | @ask i j k h1 h2 _ ih=>
  show aU q (k (q i j))=aU q' (k (q' i j))
  rw [e _ _ h1 h2]
  exact ih _
structure Ord (q:Nat->Nat->Bool):Prop where
 asy:∀a b,q a b=true->q b a=false
 tra:∀a b c,q b a=false->q c b=false->q c a=false
section
variable {q:Nat->Nat->Bool}{n:Nat}
abbrev bA (p:Array Nat) (k:Nat):Nat:=p.getD k 0
def Up (q:Nat->Nat->Bool) (p:Array Nat) (k:Nat):Prop:=∀i j,i<=j->j < k->q (bA p j) (bA p i)=false
def Down (q:Nat->Nat->Bool) (p:Array Nat) (k:Nat):Prop:=∀i j,i<=j->j < k->q (bA p i) (bA p j)=false
theorem Ord.irr (O:Ord q) (a:Nat):q a a=false:=by
 cases h:q a a with
 | false=>rfl
 | true=>rw [<-h];exact (O.asy a a h)
theorem getD_eq {p p':Array Nat}{i j:Nat}(h:p[i]?=p'[j]?):bA p i=bA p' j:=by
 show p.getD i 0=p'.getD j 0
 rw [Array.getD_eq_getD_getElem?,Array.getD_eq_getD_getElem?,h]
theorem i_ {p:Array Nat}{i j:Nat}(hj:j<=p.size) (k:Nat):bA (kas_rev p i j) k=if i<=k/\k < j then bA p (i + j - 1 - k) else bA p k:=by
 have e:=getElem?_mirror_all (xs:=p) (i:=i) hj k
 by_cases c:i<=k/\k < j
 ·rw [if_pos c] at e ⊢;exact getD_eq e
 ·rw [if_neg c] at e ⊢;exact getD_eq e
theorem BB {p:Array Nat}{src d:Nat}(hs:src < p.size) (hd:d<=src) (k:Nat):bA (bubble p src d) k=if k=src - d then bA p src else if src - d < k/\k<=src then bA p (k - 1) else bA p k:=by
 have e:=getElem?_bubble hs d hd k
 by_cases c:k=src - d
 ·rw [if_pos c] at e ⊢;exact getD_eq e
 ·rw [if_neg c] at e ⊢
  by_cases c':src - d < k/\k<=src
  ·rw [if_pos c'] at e ⊢;exact getD_eq e
  ·rw [if_neg c'] at e ⊢;exact getD_eq e
theorem iN (p:Array Nat) (i j:Nat):(kas_rev p i j).size=p.size:=mirror_size _ _ _ _
theorem Up.one (O:Ord q) (p:Array Nat):Up q p 1:=fun i j h1 h2=>by
 have:i=j:=by omega
 rw [this];exact O.irr _
theorem Up.more (O:Ord q){p:Array Nat}{k:Nat}(h:Up q p k) (h1:1<=k) (e:q (bA p k) (bA p (k - 1))=false):Up q p (k + 1):=fun i j hi hj=>by
 by_cases c:j < k
 ·exact h i j hi c
 ·have:j=k:=by omega
  subst this
  by_cases c':i=j
  ·rw [c'];exact O.irr _
  ·exact O.tra _ _ _ (h i (j - 1) (by omega) (by omega)) e
theorem Down.more (O:Ord q){p:Array Nat}{k:Nat}(h:Down q p k) (h1:1<=k) (e:q (bA p (k - 1)) (bA p k)=false):Down q p (k + 1):=fun i j hi hj=>by
 by_cases c:j < k
 ·exact h i j hi c
 ·have:j=k:=by omega
  subst this
  by_cases c':i=j
  ·rw [c'];exact O.irr _
  ·exact O.tra _ _ _ e (h i (j - 1) (by omega) (by omega))
theorem wG (O:Ord q) (p:Array Nat):∀(f m:Nat),1<=m->Up q p m->m<=aU q (kas_asc p f m)/\aU q (kas_asc p f m)<=m + f/\Up q p (aU q (kas_asc p f m))/\(aU q (kas_asc p f m)=m + f\/q (bA p (aU q (kas_asc p f m))) (bA p (aU q (kas_asc p f m) - 1))=true)
 | 0,m,h1,h=>⟨Nat.le_refl _,Nat.le_refl _,h,.inl rfl⟩
 | f + 1,m,h1,h=>by
  have e:aU q (kas_asc p (f + 1) m)=if q (bA p m) (bA p (m - 1))=true then m else aU q (kas_asc p f (m + 1)):=by
   show aU q (if q (bA p m) (bA p (m - 1))=true then KasT.ret m else kas_asc p f (m + 1))=_
   by_cases c:q (bA p m) (bA p (m - 1))=true
   ·rw [if_pos c,if_pos c];rfl
   ·rw [if_neg c,if_neg c]
  rw [e]
  by_cases c:q (bA p m) (bA p (m - 1))=true
  ·rw [if_pos c]
   exact ⟨Nat.le_refl _,by omega,h,.inr c⟩
  ·rw [if_neg c]
   obtain ⟨a1,a2,a3,a4⟩:=wG O p f (m + 1) (by omega) (h.more O h1 (by simpa using c))
   refine ⟨by omega,by omega,a3,?_⟩
   rcases a4 with a4 | a4
   ·exact .inl (by omega)
   ·exact .inr a4
def Alike (q:Nat->Nat->Bool) (p:Array Nat) (i j:Nat):Prop:=∀a b,i<=a->a < j->i<=b->b < j->q (bA p a) (bA p b)=false
theorem uM {p:Array Nat}{i j k:Nat}(hj:j<=p.size) (ha:Alike q p i j) (hd:Down q p j) (O:Ord q):Down q (kas_rev p i j) j:=fun a b h1 h2=>by
 rw [i_ hj,i_ hj]
 by_cases c:i<=a/\a < j
 ·rw [if_pos c]
  by_cases c':i<=b/\b < j
  ·rw [if_pos c'];exact ha _ _ (by omega) (by omega) (by omega) (by omega)
  ·omega
 ·rw [if_neg c]
  by_cases c':i<=b/\b < j
  ·rw [if_pos c']
   exact hd _ _ (by omega) (by omega)
  ·rw [if_neg c'];exact hd _ _ h1 h2
theorem KG {p:Array Nat}{j:Nat}(hj:j<=p.size) (hd:Down q p j):Up q (kas_rev p 0 j) j:=fun a b h1 h2=>by
 rw [i_ hj,i_ hj,if_pos (by omega),if_pos (by omega)]
 exact hd _ _ (by omega) (by omega)
theorem sf {p:Array Nat}{i j k:Nat}(hj:j<=p.size) (h:j<=k):bA (kas_rev p i j) k=bA p k:=by
 rw [i_ hj,if_neg (by omega)]
theorem kR (O:Ord q):∀(f:Nat) (p:Array Nat) (m e:Nat),1<=m->e + 1<=m->m + f<=p.size->Down q p m->Alike q p (m - (e + 1)) m->
  (aU q (kas_desc f p m e)).1.size=p.size/\m<=(aU q (kas_desc f p m e)).2.1/\(aU q (kas_desc f p m e)).2.1<=m + f/\(aU q (kas_desc f p m e)).2.2 + 1<=(aU q (kas_desc f p m e)).2.1/\
  Down q (aU q (kas_desc f p m e)).1 (aU q (kas_desc f p m e)).2.1/\Alike q (aU q (kas_desc f p m e)).1 ((aU q (kas_desc f p m e)).2.1 - ((aU q (kas_desc f p m e)).2.2 + 1)) (aU q (kas_desc f p m e)).2.1
 | 0,p,m,e,h1,h2,h3,h4,h5=>⟨rfl,Nat.le_refl _,Nat.le_refl _,h2,h4,h5⟩
 | f + 1,p,m,e,h1,h2,h3,h4,h5=>by
  have solo:∀(p:Array Nat) (m:Nat),Alike q p (m + 1 - (0 + 1)) (m + 1):=fun p m a b c1 c2 c3 c4=>by
   have:a=b:=by omega
   rw [this];exact O.irr _
  cases c:q (bA p m) (bA p (m - 1)) with
  | true=>
   have c2:=O.asy _ _ c
   by_cases he:e > 0
   ·have er:aU q (kas_desc (f + 1) p m e)=aU q (kas_desc f (kas_rev p (m - (e + 1)) m) (m + 1) 0):=by
     show aU q (if q (bA p m) (bA p (m - 1))=true then _ else _)=_
     rw [if_pos c,if_pos he]
    rw [er]
    have hr:=uM (k:=0) (i:=m - (e + 1)) (by omega:m<=p.size) h5 h4 O
    have hl:bA (kas_rev p (m - (e + 1)) m) (m - 1)=bA p (m - (e + 1)):=by
     rw [i_ (by omega),if_pos (by omega)]
     congr 1;omega
    obtain ⟨a0,a1,a2,a3,a4,a5⟩:=kR O f (kas_rev p (m - (e + 1)) m) (m + 1) 0 (by omega) (by omega) (by rw [iN];omega)
     (hr.more O h1 (by
      rw [hl,sf (by omega) (Nat.le_refl _)]
      exact O.tra _ _ _ c2 (h5 _ _ (by omega) (by omega) (by omega) (by omega)))) (solo _ _)
    rw [iN] at a0
    exact ⟨a0,by omega,by omega,a3,a4,a5⟩
   ·have er:aU q (kas_desc (f + 1) p m e)=aU q (kas_desc f p (m + 1) 0):=by
     show aU q (if q (bA p m) (bA p (m - 1))=true then _ else _)=_
     rw [if_pos c,if_neg he]
    rw [er]
    obtain ⟨a0,a1,a2,a3,a4,a5⟩:=kR O f p (m + 1) 0 (by omega) (by omega) (by omega) (h4.more O h1 c2) (solo _ _)
    exact ⟨a0,by omega,by omega,a3,a4,a5⟩
  | false=>
   cases c2:q (bA p (m - 1)) (bA p m) with
   | true=>
    have er:aU q (kas_desc (f + 1) p m e)=(p,m,e):=by
     show aU q (if q (bA p m) (bA p (m - 1))=true then _ else _)=_
     rw [if_neg (by rw [c];decide)]
     show aU q (if q (bA p (m - 1)) (bA p m)=true then _ else _)=_
     rw [if_pos c2]
     rfl
    rw [er]
    exact ⟨rfl,Nat.le_refl _,Nat.le_add_right _ _,h2,h4,h5⟩
   | false=>
    have er:aU q (kas_desc (f + 1) p m e)=aU q (kas_desc f p (m + 1) (e + 1)):=by
     show aU q (if q (bA p m) (bA p (m - 1))=true then _ else _)=_
     rw [if_neg (by rw [c];decide)]
     show aU q (if q (bA p (m - 1)) (bA p m)=true then _ else _)=_
     rw [if_neg (by rw [c2];decide)]
    rw [er]
    have hal:Alike q p (m + 1 - (e + 1 + 1)) (m + 1):=fun a b d1 d2 d3 d4=>by
     by_cases ea:a=m
     ·subst ea
      by_cases eb:b=a
      ·rw [eb];exact O.irr _
      ·exact O.tra _ _ _ (h5 (a - 1) b (by omega) (by omega) (by omega) (by omega)) c
     ·by_cases eb:b=m
      ·subst eb
       exact O.tra _ _ _ c2 (h5 a (b - 1) (by omega) (by omega) (by omega) (by omega))
      ·exact h5 a b (by omega) (by omega) (by omega) (by omega)
    obtain ⟨a0,a1,a2,a3,a4,a5⟩:=kR O f p (m + 1) (e + 1) (by omega) (by omega) (by omega) (h4.more O h1 c2) hal
    exact ⟨a0,by omega,by omega,a3,a4,a5⟩
def Got (q:Nat->Nat->Bool) (N s:Nat) (r:Nat×Array Nat):Prop:=r.2.size=s/\1<=r.1/\r.1<=N/\Up q r.2 r.1
theorem zQ (O:Ord q){p:Array Nat}{m N:Nat}(h1:1<=m) (hm:m<=N) (hN:N<=p.size) (hd:Down q p m):Got q N p.size (aU q (kas_tail3 m N p)):=by
 unfold kas_tail3
 rw [run_bind]
 obtain ⟨a1,a2,a3,_⟩:=wG O (kas_rev p 0 m) (N - m) m h1 (KG (by omega) hd)
 exact ⟨iN _ _ _,by show 1<=aU q (kas_asc _ _ _);omega,by show aU q (kas_asc _ _ _)<=N;omega,a3⟩
theorem zF (O:Ord q){p:Array Nat}{m N:Nat}(h1:1<=m) (hm:m + 1<=N) (hN:N<=p.size) (hd:Down q p (m + 1)):Got q N p.size (aU q (kas_descPart m N p)):=by
 unfold kas_descPart
 rw [run_bind]
 obtain ⟨a0,a1,a2,a3,a4,a5⟩:=kR O (N - (m + 1)) p (m + 1) 0 (by omega) (by omega) (by omega) hd (fun a b c1 c2 c3 c4=>by
  have:a=b:=by omega
  rw [this];exact O.irr _)
 generalize aU q (kas_desc (N - (m + 1)) p (m + 1) 0)=r at *
 obtain ⟨p',m',e'⟩:=r
 simp only at *
 by_cases c:e' > 0
 ·rw [if_pos c]
  have:=zQ (N:=N) O (p:=kas_rev p' (m' - (e' + 1)) m') (m:=m') (by omega) (by omega) (by rw [iN];omega) (uM (k:=0) (by omega) a5 a4 O)
  rw [iN,a0] at this
  exact this
 ·rw [if_neg c]
  have:=zQ (N:=N) O (p:=p') (m:=m') (by omega) (by omega) (by omega) a4
  rw [a0] at this
  exact this
theorem DH (O:Ord q){p:Array Nat}{N:Nat}(h1:1<=N) (hN:N<=p.size):Got q N p.size (aU q (kas_count N p)):=by
 unfold kas_count
 rw [run_bind]
 obtain ⟨a1,a2,a3,a4⟩:=wG O p (N - 1) 1 (Nat.le_refl _) (Up.one O p)
 generalize aU q (kas_asc p (N - 1) 1)=m at *
 by_cases c:(m == N)=true
 ·rw [if_pos c]
  exact ⟨rfl,a1,by show m<=N;omega,a3⟩
 ·rw [if_neg c]
  have hm:m + 1<=N:=by
   have:m≠N:=by simpa using c
   omega
  have a4:q (bA p m) (bA p (m - 1))=true:=by
   rcases a4 with h | h
   ·omega
   ·exact h
  have a5:=O.asy _ _ a4
  by_cases c':m > 1
  ·rw [if_pos c']
   show Got q N p.size (aU q (if q (bA p 0) (bA p (m - 1))=true then _ else _))
   by_cases d:q (bA p 0) (bA p (m - 1))=true
   ·rw [if_pos d]
    exact ⟨rfl,a1,by show m<=N;omega,a3⟩
   ·rw [if_neg d]
    have d:q (bA p 0) (bA p (m - 1))=false:=by simpa using d
    have all:∀a b,a < m->b < m->q (bA p a) (bA p b)=false:=fun a b ha hb=>O.tra _ _ _ (O.tra _ _ _ (a3 b (m - 1) (by omega) (by omega)) d) (a3 0 a (by omega) (by omega))
    have hd:Down q (kas_rev p 0 m) m:=fun a b h1 h2=>by
     rw [i_ (by omega),i_ (by omega),if_pos (by omega),if_pos (by omega)]
     exact all _ _ (by omega) (by omega)
    have:=zF O (p:=kas_rev p 0 m) (m:=m) (N:=N) (by omega) hm (by rw [iN];exact hN) (hd.more O (by omega) (by
     rw [sf (by omega) (Nat.le_refl _),i_ (by omega),if_pos (by omega),show 0 + m - 1 - (m - 1)=0 by omega]
     exact O.tra _ _ _ a5 d))
    rw [iN] at this
    exact this
  ·rw [if_neg c']
   have:m=1:=by omega
   subst this
   refine zF O (Nat.le_refl _) hm hN ?_
   exact Down.more O (fun i j h1 h2=>by
    have:i=j:=by omega
    rw [this];exact O.irr _) (Nat.le_refl _) a5
theorem qu (O:Ord q){p:Array Nat}{k:Nat}(hs:Up q p k):∀(f l r:Nat),l<=r->r<=k->r - l<=f->(∀i,i < l->q (bA p k) (bA p i)=false)->(∀i,r<=i->i < k->q (bA p k) (bA p i)=true)->
  aU q (kas_place p k f l r)<=k/\(∀i,i < aU q (kas_place p k f l r)->q (bA p k) (bA p i)=false)/\∀i,aU q (kas_place p k f l r)<=i->i < k->q (bA p k) (bA p i)=true
 | 0,l,r,h1,h2,h3,h4,h5=>⟨by show l<=k;omega,h4,fun i hi=>h5 i (by show r<=i;have:l<=i:=hi;omega)⟩
 | f + 1,l,r,h1,h2,h3,h4,h5=>by
  by_cases c:l ≥ r
  ·have e:aU q (kas_place p k (f + 1) l r)=l:=by
    unfold kas_place
    rw [if_pos c]
    rfl
   rw [e]
   exact ⟨by omega,h4,fun i hi=>h5 i (by omega)⟩
  ·cases d:q (bA p k) (bA p ((l + r) / 2)) with
   | true=>
    have e:aU q (kas_place p k (f + 1) l r)=aU q (kas_place p k f l ((l + r) / 2)):=by
     rw [kas_place,if_neg c]
     show aU q (if q (bA p k) (bA p ((l + r) / 2))=true then _ else _)=_
     rw [if_pos d]
    rw [e]
    refine qu O hs f l ((l + r) / 2) (by omega) (by omega) (by omega) h4 fun i i1 i2=>?_
    by_cases ci:r<=i
    ·exact h5 i ci i2
    ·cases dd:q (bA p k) (bA p i) with
     | true=>rfl
     | false=>
      have:=O.tra _ _ _ (hs ((l + r) / 2) i i1 i2) dd
      rw [d] at this
      cases this
   | false=>
    have e:aU q (kas_place p k (f + 1) l r)=aU q (kas_place p k f ((l + r) / 2 + 1) r):=by
     rw [kas_place,if_neg c]
     show aU q (if q (bA p k) (bA p ((l + r) / 2))=true then _ else _)=_
     rw [if_neg (by rw [d];decide)]
    rw [e]
    refine qu O hs f ((l + r) / 2 + 1) r (by omega) (by omega) (by omega) (fun i hi=>?_) h5
    exact O.tra _ _ _ (hs i ((l + r) / 2) (by omega) (by omega)) d
theorem IA (O:Ord q){p:Array Nat}{k l:Nat}(hk:k < p.size) (hl:l<=k) (hs:Up q p k) (h1:∀i,i < l->q (bA p k) (bA p i)=false) (h2:∀i,l<=i->i < k->q (bA p k) (bA p i)=true):Up q (bubble p k (k - l)) (k + 1):=fun i j hi hj=>by
 rw [BB hk (by omega),BB hk (by omega),show k - (k - l)=l by omega]
 by_cases a:i=l
 ·rw [if_pos a]
  by_cases b:j=l
  ·rw [if_pos b];exact O.irr _
  ·rw [if_neg b,if_pos (by omega)]
   exact O.asy _ _ (h2 (j - 1) (by omega) (by omega))
 ·rw [if_neg a]
  by_cases b:j=l
  ·rw [if_pos b,if_neg (by omega)]
   exact h1 i (by omega)
  ·rw [if_neg b]
   by_cases a':l < i/\i<=k
   ·rw [if_pos a',if_pos (by omega)]
    exact hs _ _ (by omega) (by omega)
   ·rw [if_neg a']
    by_cases b':l < j/\j<=k
    ·rw [if_pos b']
     exact hs _ _ (by omega) (by omega)
    ·rw [if_neg b']
     exact hs _ _ hi (by omega)
theorem BG (O:Ord q):∀(f:Nat) (p:Array Nat) (k:Nat),k + f<=p.size->Up q p k->Up q (aU q (kas_bin f p k)) (k + f)
 | 0,p,k,_,h=>h
 | f + 1,p,k,hs,h=>by
  have e:aU q (kas_bin (f + 1) p k)=aU q (kas_bin f (bubble p k (k - aU q (kas_place p k k 0 k))) (k + 1)):=by
   rw [kas_bin,run_bind]
  rw [e]
  obtain ⟨a1,a2,a3⟩:=qu O h k 0 k (Nat.zero_le _) (Nat.le_refl _) (by omega) (fun i hi=>by omega) (fun i h1 h2=>by omega)
  have:=BG O f (bubble p k (k - aU q (kas_place p k k 0 k))) (k + 1) (by rw [bubble_size];omega) (IA O (by omega) a1 h a2 a3)
  rw [show k + (f + 1)=k + 1 + f by omega]
  exact this
theorem HV (O:Ord q) (n:Nat) (hn:1<=n):Up q (aU q (kas_sort n)) n:=by
 unfold kas_sort
 rw [run_bind]
 obtain ⟨a0,a1,a2,a3⟩:=DH O (p:=(List.range n).toArray) (N:=n) hn (by simp)
 generalize aU q (kas_count n (List.range n).toArray)=r at *
 have a0:r.2.size=n:=by simpa using a0
 by_cases c:r.1 < n
 ·rw [if_pos c]
  have:=BG O (n - max r.1 1) r.2 (max r.1 1) (by omega) (by rw [show max r.1 1=r.1 by omega];exact a3)
  rwa [show max r.1 1 + (n - max r.1 1)=n by omega] at this
 ·rw [if_neg c]
  have:r.1=n:=by omega
  rw [this] at a3
  exact a3
end
end DL
namespace DL
open PySem PySem.Spec PyProof.Rows L2
open PySem.W (kas_sort)
def dB (x y:D):Bool:=(cA x y).getD false
structure fS (P:D->Prop):Prop where
 eq:∀x y,P x->P y->(aZ x y=true↔x=y)
 lt:∀x y,P x->P y->(cA x y).isSome=true
 asy:∀x y,P x->P y->dB x y=true->dB y x=false
 tri:∀x y,P x->P y->dB x y=false->dB y x=false->x=y
 tra:∀x y z,P x->P y->P z->dB x y=true->dB y z=true->dB x z=true
def ir (xs ys:List D):Bool:=dB (.tup xs) (.tup ys)
theorem jq (x y:D) (xs ys:List D):ir (x::xs) (y::ys)=if aZ x y=true then ir xs ys else dB x y:=by
 show (if aZ x y=true then gK xs ys else cA x y).getD false=_
 by_cases h:aZ x y=true
 ·rw [if_pos h,if_pos h];rfl
 ·rw [if_neg h,if_neg h];rfl
variable {P R:D->Prop}
theorem jo (xs ys:List D):aZ (.tup xs) (.tup ys)=cu xs ys:=by rw [aZ]
theorem gj (x y:D) (xs ys:List D):cu (x::xs) (y::ys)=(aZ x y && cu xs ys):=by rw [cu]
structure j_ (Q:List D->Prop):Prop where
 eq:∀x y,Q x->Q y->(cu x y=true↔x=y)
 lt:∀x y,Q x->Q y->(gK x y).isSome=true
 asy:∀x y,Q x->Q y->ir x y=true->ir y x=false
 tri:∀x y,Q x->Q y->ir x y=false->ir y x=false->x=y
 tra:∀x y z,Q x->Q y->Q z->ir x y=true->ir y z=true->ir x z=true
theorem j_.tot {Q:List D->Prop}(h:j_ Q):fS fun d=>∃xs,d=.tup xs/\Q xs where
 eq:=by
  rintro _ _ ⟨x,rfl,hx⟩ ⟨y,rfl,hy⟩
  rw [jo,h.eq x y hx hy]
  exact ⟨fun e=>e▸rfl,fun e=>by cases e;rfl⟩
 lt:=by
  rintro _ _ ⟨x,rfl,hx⟩ ⟨y,rfl,hy⟩
  exact h.lt x y hx hy
 asy:=by
  rintro _ _ ⟨x,rfl,hx⟩ ⟨y,rfl,hy⟩
  exact h.asy x y hx hy
 tri:=by
  rintro _ _ ⟨x,rfl,hx⟩ ⟨y,rfl,hy⟩ h1 h2
  rw [h.tri x y hx hy h1 h2]
 tra:=by
  rintro _ _ _ ⟨x,rfl,hx⟩ ⟨y,rfl,hy⟩ ⟨z,rfl,hz⟩
  exact h.tra x y z hx hy hz
theorem zy (p:fS P){x y z:D}{r s t:List D}(px:P x) (py:P y) (pz:P z) (h:ir r s=true->ir s t=true->ir r t=true) (h1:ir (x::r) (y::s)=true) (h2:ir (y::s) (z::t)=true):ir (x::r) (z::t)=true:=by
 rw [jq] at h1 h2 ⊢
 by_cases e:x=y
 ·subst e
  rw [if_pos ((p.eq x x px px).mpr rfl)] at h1
  by_cases f:x=z
  ·subst f
   rw [if_pos ((p.eq x x px px).mpr rfl)] at h2 ⊢
   exact h h1 h2
  ·rw [if_neg fun q=>f ((p.eq x z px pz).mp q)] at h2 ⊢
   exact h2
 ·rw [if_neg fun q=>e ((p.eq x y px py).mp q)] at h1
  by_cases f:y=z
  ·subst f
   rw [if_neg fun q=>e ((p.eq x y px py).mp q)]
   exact h1
  ·rw [if_neg fun q=>f ((p.eq y z py pz).mp q)] at h2
   have h3:=p.tra x y z px py pz h1 h2
   by_cases g:x=z
   ·subst g
    have:=p.asy x x px px h3
    rw [h3] at this
    cases this
   ·rw [if_neg fun q=>g ((p.eq x z px pz).mp q)]
    exact h3
theorem j_.cons {Q:List D->Prop}(p:fS P) (h:j_ Q):j_ fun xs=>∃x r,xs=x::r/\P x/\Q r where
 eq:=by
  rintro _ _ ⟨x,r,rfl,px,qr⟩ ⟨y,s,rfl,py,qs⟩
  rw [gj,Bool.and_eq_true,p.eq x y px py,h.eq r s qr qs]
  exact ⟨fun e=>by rw [e.1,e.2],fun e=>by cases e;exact ⟨rfl,rfl⟩⟩
 lt:=by
  rintro _ _ ⟨x,r,rfl,px,qr⟩ ⟨y,s,rfl,py,qs⟩
  show (if aZ x y=true then gK r s else cA x y).isSome=true
  split
  ·exact h.lt r s qr qs
  ·exact p.lt x y px py
 asy:=by
  rintro _ _ ⟨x,r,rfl,px,qr⟩ ⟨y,s,rfl,py,qs⟩ hl
  rw [jq] at hl ⊢
  by_cases e:x=y
  ·subst e
   rw [if_pos ((p.eq x x px px).mpr rfl)] at hl ⊢
   exact h.asy r s qr qs hl
  ·rw [if_neg fun z=>e ((p.eq x y px py).mp z)] at hl
   rw [if_neg fun z=>e ((p.eq y x py px).mp z).symm]
   exact p.asy x y px py hl
 tri:=by
  rintro _ _ ⟨x,r,rfl,px,qr⟩ ⟨y,s,rfl,py,qs⟩ h1 h2
  rw [jq] at h1 h2
  by_cases e:x=y
  ·subst e
   rw [if_pos ((p.eq x x px px).mpr rfl)] at h1 h2
   rw [h.tri r s qr qs h1 h2]
  ·rw [if_neg fun z=>e ((p.eq x y px py).mp z)] at h1
   rw [if_neg fun z=>e ((p.eq y x py px).mp z).symm] at h2
   exact absurd (p.tri x y px py h1 h2) e
 tra:=by
  rintro _ _ _ ⟨x,r,rfl,px,qr⟩ ⟨y,s,rfl,py,qs⟩ ⟨z,t,rfl,pz,qt⟩ h1 h2
  exact zy p px py pz (h.tra r s t qr qs qt) h1 h2
theorem j_.nil:j_ fun xs=>xs=[] where
 eq:=by rintro _ _ rfl rfl;simp [cu]
 lt:=by rintro _ _ rfl rfl;rfl
 asy:=by rintro _ _ rfl rfl h;cases h
 tri:=by rintro _ _ rfl rfl _ _;rfl
 tra:=by rintro _ _ _ rfl rfl rfl h;cases h
theorem fS.list (p:fS P):j_ fun xs=>∀x∈xs,P x where
 eq:=by
  intro xs
  induction xs with
  | nil=>intro ys _ _;cases ys <;> simp [cu]
  | cons x xs ih=>
   intro ys hx hy
   cases ys with
   | nil=>simp [cu]
   | cons y ys=>
    rw [gj,Bool.and_eq_true,p.eq x y (hx x List.mem_cons_self) (hy y List.mem_cons_self),ih ys (fun z hz=>hx z (List.mem_cons_of_mem _ hz)) fun z hz=>hy z (List.mem_cons_of_mem _ hz)]
    exact ⟨fun e=>by rw [e.1,e.2],fun e=>by cases e;exact ⟨rfl,rfl⟩⟩
 lt:=by
  intro xs
  induction xs with
  | nil=>intro ys _ _;rfl
  | cons x xs ih=>
   intro ys hx hy
   cases ys with
   | nil=>rfl
   | cons y ys=>
    show (if aZ x y=true then gK xs ys else cA x y).isSome=true
    split
    ·exact ih ys (fun z hz=>hx z (List.mem_cons_of_mem _ hz)) fun z hz=>hy z (List.mem_cons_of_mem _ hz)
    ·exact p.lt x y (hx x List.mem_cons_self) (hy y List.mem_cons_self)
 asy:=by
  intro xs
  induction xs with
  | nil=>
   intro ys _ _ h
   cases ys with
   | nil=>cases h
   | cons y ys=>rfl
  | cons x xs ih=>
   intro ys hx hy hl
   cases ys with
   | nil=>cases hl
   | cons y ys=>
    have px:=hx x List.mem_cons_self
    have py:=hy y List.mem_cons_self
    rw [jq] at hl ⊢
    by_cases e:x=y
    ·subst e
     rw [if_pos ((p.eq x x px px).mpr rfl)] at hl ⊢
     exact ih ys (fun z hz=>hx z (List.mem_cons_of_mem _ hz)) (fun z hz=>hy z (List.mem_cons_of_mem _ hz)) hl
    ·rw [if_neg fun z=>e ((p.eq x y px py).mp z)] at hl
     rw [if_neg fun z=>e ((p.eq y x py px).mp z).symm]
     exact p.asy x y px py hl
 tri:=by
  intro xs
  induction xs with
  | nil=>
   intro ys _ _ h1 h2
   cases ys with
   | nil=>rfl
   | cons y ys=>cases h1
  | cons x xs ih=>
   intro ys hx hy h1 h2
   cases ys with
   | nil=>cases h2
   | cons y ys=>
    have px:=hx x List.mem_cons_self
    have py:=hy y List.mem_cons_self
    rw [jq] at h1 h2
    by_cases e:x=y
    ·subst e
     rw [if_pos ((p.eq x x px px).mpr rfl)] at h1 h2
     rw [ih ys (fun z hz=>hx z (List.mem_cons_of_mem _ hz)) (fun z hz=>hy z (List.mem_cons_of_mem _ hz)) h1 h2]
    ·rw [if_neg fun z=>e ((p.eq x y px py).mp z)] at h1
     rw [if_neg fun z=>e ((p.eq y x py px).mp z).symm] at h2
     exact absurd (p.tri x y px py h1 h2) e
 tra:=by
  intro xs
  induction xs with
  | nil=>
   intro ys zs _ _ _ h1 h2
   cases ys with
   | nil=>cases h1
   | cons y ys=>
    cases zs with
    | nil=>cases h2
    | cons z zs=>rfl
  | cons x xs ih=>
   intro ys zs hx hy hz h1 h2
   cases ys with
   | nil=>cases h1
   | cons y ys=>
    cases zs with
    | nil=>cases h2
    | cons z zs=>
     have px:=hx x List.mem_cons_self
     have py:=hy y List.mem_cons_self
     have pz:=hz z List.mem_cons_self
     exact zy p px py pz (ih ys zs (fun z hz=>hx z (List.mem_cons_of_mem _ hz)) (fun z hz=>hy z (List.mem_cons_of_mem _ hz)) fun w hw=>hz w (List.mem_cons_of_mem _ hw)) h1 h2
theorem L7:fS fun d=>∃k,d=.bl k where
 eq:=by rintro _ _ ⟨x,rfl⟩ ⟨y,rfl⟩;simp [aZ]
 lt:=by rintro _ _ ⟨x,rfl⟩ ⟨y,rfl⟩;rfl
 asy:=by rintro _ _ ⟨x,rfl⟩ ⟨y,rfl⟩;revert x y;decide
 tri:=by
  rintro _ _ ⟨x,rfl⟩ ⟨y,rfl⟩ h1 h2
  revert h1 h2
  cases x <;> cases y <;> intro h1 h2
  ·rfl
  ·exact absurd h1 (by decide)
  ·exact absurd h2 (by decide)
  ·rfl
 tra:=by rintro _ _ _ ⟨x,rfl⟩ ⟨y,rfl⟩ ⟨z,rfl⟩;revert x y z;decide
theorem lZ (x y:Int):dB (.int x) (.int y)=decide (x < y):=rfl
theorem L8:fS fun d=>∃k,d=.int k where
 eq:=by rintro _ _ ⟨x,rfl⟩ ⟨y,rfl⟩;simp [aZ]
 lt:=by rintro _ _ ⟨x,rfl⟩ ⟨y,rfl⟩;rfl
 asy:=by
  rintro _ _ ⟨x,rfl⟩ ⟨y,rfl⟩ h
  rw [lZ,decide_eq_true_eq] at h
  rw [lZ,decide_eq_false_iff_not]
  omega
 tri:=by
  rintro _ _ ⟨x,rfl⟩ ⟨y,rfl⟩ h1 h2
  rw [lZ,decide_eq_false_iff_not] at h1 h2
  rw [show x=y by omega]
 tra:=by
  rintro _ _ _ ⟨x,rfl⟩ ⟨y,rfl⟩ ⟨z,rfl⟩ h1 h2
  rw [lZ,decide_eq_true_eq] at h1 h2 ⊢
  omega
theorem oY (x y:Str):dB (.str x) (.str y)=decide (x.cps.toList < y.cps.toList):=rfl
theorem HX {x y:Str}(h:x.cps.toList=y.cps.toList):x=y:=by
 obtain ⟨⟨cx⟩⟩:=x
 obtain ⟨⟨cy⟩⟩:=y
 simp only at h
 rw [h]
theorem L_:fS fun d=>∃k,d=.str k where
 eq:=by rintro _ _ ⟨x,rfl⟩ ⟨y,rfl⟩;simp [aZ]
 lt:=by rintro _ _ ⟨x,rfl⟩ ⟨y,rfl⟩;rfl
 asy:=by
  rintro _ _ ⟨x,rfl⟩ ⟨y,rfl⟩ h
  rw [oY,decide_eq_true_eq] at h
  rw [oY,decide_eq_false_iff_not]
  exact List.lt_asymm h
 tri:=by
  rintro _ _ ⟨x,rfl⟩ ⟨y,rfl⟩ h1 h2
  rw [oY,decide_eq_false_iff_not] at h1 h2
  rw [HX (List.le_antisymm h2 h1)]
 tra:=by
  rintro _ _ _ ⟨x,rfl⟩ ⟨y,rfl⟩ ⟨z,rfl⟩ h1 h2
  rw [oY,decide_eq_true_eq] at h1 h2 ⊢
  exact List.lt_trans h1 h2
inductive Fm where
 | b | i | s | hom (t:Fm) | tn | tc (x r:Fm)
def jJ:Fm->D->Prop
 | .b,d=>∃k,d=.bl k
 | .i,d=>∃k,d=.int k
 | .s,d=>∃k,d=.str k
 | .hom t,d=>∃xs,d=.tup xs/\∀x∈xs,jJ t x
 | .tn,d=>∃xs,d=.tup xs/\xs=[]
 | .tc x r,d=>∃xs,d=.tup xs/\∃y ys,xs=y::ys/\jJ x y/\jJ r (.tup ys)
theorem fS.tail {Q:List D->Prop}(h:fS R) (k:∀xs,Q xs->R (.tup xs)):j_ Q where
 eq:=fun x y hx hy=>by
  have:=h.eq _ _ (k x hx) (k y hy)
  rw [jo] at this
  rw [this]
  exact ⟨fun e=>by cases e;rfl,fun e=>e▸rfl⟩
 lt:=fun x y hx hy=>h.lt _ _ (k x hx) (k y hy)
 asy:=fun x y hx hy=>h.asy _ _ (k x hx) (k y hy)
 tri:=fun x y hx hy h1 h2=>by
  have:=h.tri _ _ (k x hx) (k y hy) h1 h2
  cases this;rfl
 tra:=fun x y z hx hy hz=>h.tra _ _ _ (k x hx) (k y hy) (k z hz)
theorem iE:∀t:Fm,fS (jJ t)
 | .b=>L7
 | .i=>L8
 | .s=>L_
 | .hom t=>(iE t).list.tot
 | .tn=>j_.nil.tot
 | .tc x r=>(j_.cons (iE x) (fS.tail (Q:=fun ys=>jJ r (.tup ys)) (iE r) fun _ h=>h)).tot
theorem LW (ds:List D):(bq ds).length=ds.length:=by
 unfold bq
 by_cases h:ds.length < 2
 ·rw [if_pos h]
 ·rw [if_neg h,List.length_map]
  have:=((d_ (n:=ds.length) (by omega)).run (ltB ds)).size_eq
  simpa using this
theorem GK (ds:List D):(List.range ds.length).map (cI ds)=ds:=by
 refine List.ext_getElem (by simp) fun i h1 h2=>?_
 rw [List.getElem_map,List.getElem_range]
 unfold cI
 rw [List.getD_eq_getElem?_getD,List.getElem?_eq_getElem h2]
 rfl
theorem jf (ds:List D):(bq ds).Perm ds:=by
 unfold bq
 by_cases h:ds.length < 2
 ·rw [if_pos h]
 ·rw [if_neg h]
  have hp:=(d_ (n:=ds.length) (by omega)).run (ltB ds)
  have hq:(aU (ltB ds) (kas_sort ds.length)).toList.Perm (List.range ds.length):=by
   have:=Array.perm_iff_toList_perm.mp hp
   simpa using this
  have:=hq.map (cI ds)
  rwa [GK] at this
theorem E5 (p:fS P) (ds:List D) (h:∀x∈ds,P x):(bq ds).Pairwise fun x y=>dB y x=false:=by
 unfold bq
 by_cases h2:ds.length < 2
 ·rw [if_pos h2]
  match ds,h2 with
  | [],_=>exact .nil
  | [x],_=>exact List.pairwise_singleton _ _
 ·rw [if_neg h2]
  have hn:0 < ds.length:=by omega
  have hb:=d_ (n:=ds.length) hn
  have at_P:∀i,i < ds.length->P (cI ds i):=fun i hi=>h _ (dY hi)
  let q':Nat->Nat->Bool:=fun i j=>if i < ds.length then (if j < ds.length then ltB ds i j else true) else false
  have hq:aU (ltB ds) (kas_sort ds.length)=aU q' (kas_sort ds.length):=E4 hb fun i j hi hj=>by simp [q',hi,hj]
  have O:Ord q':=by
   constructor
   ·intro a b hab
    by_cases ha:a < ds.length <;> by_cases hb:b < ds.length <;> simp [q',ha,hb] at hab ⊢
    exact p.asy _ _ (at_P a ha) (at_P b hb) hab
   ·intro a b c hab hbc
    by_cases ha:a < ds.length <;> by_cases hb:b < ds.length <;> by_cases hc:c < ds.length <;> simp [q',ha,hb,hc] at hab hbc ⊢
    have h1:dB (cI ds b) (cI ds a)=false:=hab
    have h2:dB (cI ds c) (cI ds b)=false:=hbc
    show dB (cI ds c) (cI ds a)=false
    cases g:dB (cI ds c) (cI ds a) with
    | false=>rfl
    | true=>
     have pa:=at_P a ha
     have pb:=at_P b hb
     have pc:=at_P c hc
     cases g2:dB (cI ds a) (cI ds b) with
     | true=>
      have:=p.tra _ _ _ pc pa pb g g2
      rw [this] at h2;cases h2
     | false=>
      rw [<-p.tri _ _ pb pa h1 g2] at g
      rw [g] at h2;cases h2
  have up:=HV O ds.length (by omega)
  have hs:=(hb.run (ltB ds))
  rw [hq] at hs ⊢
  have hsz:(aU q' (kas_sort ds.length)).size=ds.length:=by simpa using hs.size_eq
  generalize aU q' (kas_sort ds.length)=A at *
  rw [List.pairwise_map,List.pairwise_iff_getElem]
  intro i j hi hj hij
  rw [Array.length_toList] at hi hj
  have:=up i j (by omega) (by omega)
  have e:∀k (hk:k < A.size),bA A k=A.toList[k]'(by rw [Array.length_toList];exact hk):=fun k hk=>by
   show A.getD k 0=_
   simp [Array.getD,hk]
  rw [e i hi,e j hj] at this
  have l:∀k (hk:k < A.size),A.toList[k]'(by rw [Array.length_toList];exact hk) < ds.length:=fun k hk=>by
   rw [<-e k hk];exact hs.lt hn k
  have li:=l i hi
  have lj:=l j hj
  simp only [q',li,lj,if_true] at this
  exact this
end DL
namespace K52
open PySem DL
end K52
namespace K52
open PySem DL K01 WP K51
variable {P:D->Prop}
end K52
namespace DL
open PySem PySem.Spec PyProof.Rows L2
section
variable {X:Cx}{c:C}{e a b:Expr}{es elts:List Expr}{pos tp:Pos}{kk:Nat}
def p_:R->M (List D)
 | .d (.tup xs)=>.ok xs
 | .d (.lst xs)=>.ok xs
 | _=>.bad
theorem yr {β:Type}{x:R}{k:List D->M β}{Q:β->Prop}{T:Exc->Prop}(w:cL (p_ x >>= k) Q T):∃xs,p_ x=.ok xs/\cL (k xs) Q T:=by
 cases q:p_ x with
 | bad=>rw [q] at w;exact w.elim
 | ok xs=>rw [q] at w;exact ⟨xs,rfl,w⟩
 | exc z=>unfold p_ at q;split at q <;> cases q
def vJ (gs:G (List R)):G (List D):=fun env=>gs env >>= fun rs=>match rs with
 | [x,y]=>p_ x >>= fun xs=>p_ y >>= fun ys=>.ok (List.zipWith (fun a b=>.tup [a,b]) xs ys)
 | _=>.bad
theorem CY {c:C}{He J H:Hp}{x:R}{v:V}{xs:List D}(r:RR c He J H x v) (q:p_ x=.ok xs):∃k l us,v=.ref l/\aF c.K J xs us/\iy k c.K J l us:=by
 cases x with
 | l m ys=>cases q
 | mo _ _=>cases q
 | mb _ _=>cases q
 | d y=>
  cases y with
  | tup ys=>
   cases q
   cases r with
   | tup h1 h2=>exact ⟨"tuple_iterator",_,_,rfl,h2,.inr ⟨rfl,h1⟩⟩
  | lst ys=>
   cases q
   cases r with
   | lst h1 h2=>exact ⟨"list_iterator",_,_,rfl,h2,.inl ⟨rfl,h1⟩⟩
  | _=>cases q
theorem iy.via {k:String}{K:W.Frag}{J H:Hp}{l:Addr}{xs:List V}(h:iy k K J l xs) (s:aP J H):iy k K H l xs:=by
 rcases h with ⟨e,h⟩ | ⟨e,h⟩
 ·exact .inl ⟨e,s.seq h⟩
 ·exact .inr ⟨e,fj s h⟩
theorem Hw {p:Pos}{gs:G (List R)}(ha:jh X c [a,b] gs) (hm:X.mg "zip"=none) (hK:X.K=c.K:=by rfl) (hg:Gl X "zip":=by rfl) (hs:starEach [a,b] X.env=[(false,eval a X.env),(false,eval b X.env)]:=by rfl) (hs2:starEach [b] X.env=[(false,eval b X.env)]:=by rfl):
  j4 X c (.Tuple elts kk tp) (.Call (.Name "zip" p) [a,b] [] pos) (vJ gs):=
 o_ (Kd hg hm ha hs hs2) fun σ H Q ⟨J,env,sr,w⟩=>by
  refine ⟨J,env,sr,aC (aK w) fun rs wr vs J1 H1 e1 r1=>?_⟩
  split at wr
  ·obtain ⟨v,v2,rfl,r,r2⟩:=r1.two
   obtain ⟨xs,q1,wr⟩:=yr wr
   obtain ⟨ys,q2,wr⟩:=yr wr
   have hp1:=sr.hp.ext e1
   obtain ⟨k1,l1,us1,rfl,a1,s1⟩:=CY r q1
   obtain ⟨k2,l2,us2,rfl,a2,s2⟩:=CY r2 q2
   refine ⟨k1,l1,us1,k2,l2,us2,rfl,by rw [hK];exact s1.via hp1.sub,by rw [hK];exact s2.via hp1.sub,?_⟩
   rw [hK]
   refine wr _ J1 H1 e1 fun i J' H' hp u=>?_
   have t1:=(s1.via u).via hp.sub
   have t2:=(s2.via u).via hp.sub
   refine ⟨fun hl=>⟨us1,us2,t1,t2,?_⟩,fun d hd=>?_⟩
   ·rw [List.length_zipWith,a1.length,a2.length] at hl
    omega
   ·obtain ⟨x,y,ux,uy,rfl,b1,b2,c1,c2⟩:=E3 a1 a2 hd
    refine ⟨⟨us1,us2,ux,uy,t1,t2,b1,b2⟩,fun z H2 ⟨q,hq,e,hy⟩=>?_⟩
    have:=hy us1 us2 ux uy t1 t2 b1 b2
    subst this e
    have s':aP J' (upd J' q (.tup [ux,uy])):=dQ (hp.sub.free hq) _
    exact ⟨_,Ext.newJ hp.sub hq _,.tup (.inl (.inl bO)) (.cons ((c1.mono u).mono s') (.cons ((c2.mono u).mono s') .nil))⟩
  ·exact wr.elim
theorem DB:bQ X (.type "range") (fun xs H Q=>∃j:Int,xs=[.int j]/\∀p,H p=none->Q (.ref p) (upd H p (.rng 0 j))):=by
 intro pins s σ H xs us Q I r h
 obtain ⟨j,rfl,q⟩:=h
 obtain ⟨u,rfl,t,rfl⟩:=vals1 r
 refine call_range_1 ⟨.ref s.heap.objs.size,_,I.laid (fun b o e=>Heap.get?_push_of_some _ e) (Nat.le_refl _) (show b9 X.prog X.w _ _ _ (.rng 0 j) from ⟨_,_,_,Heap.get?_push_size _ rfl⟩),rfl,q _ (I.hok.fresh (Nat.le_refl _))⟩
def kX (n:Nat):List V:=(List.range n).map fun (k:Nat)=>V.int k
theorem Fb {n:Nat}{acc:Array Value}(h:ItemsOf (fun i v=>∃t,v=.int (0 + (i:Int) * 1) t) acc n):Vals (kX n) acc.toList:=by
 have key:∀(us:List Value) (i:Nat),(∀j v,us[j]?=some v->∃t:Tok,v=Value.int ((i + j:Nat):Int) t)->Vals ((List.range' i us.length).map fun (k:Nat)=>V.int k) us:=by
  intro us
  induction us with
  | nil=>exact fun i _=>.nil
  | cons u us ih=>
   intro i hj
   obtain ⟨t,e⟩:=hj 0 u rfl
   rw [List.length_cons,List.range'_succ,List.map_cons]
   refine .cons ⟨t,by rw [e];rfl⟩ (ih (i + 1) fun j v hv=>?_)
   obtain ⟨t,e⟩:=hj (j + 1) v (by simpa using hv)
   exact ⟨t,by rw [e];congr 2;omega⟩
 have e:acc.toList.length=n:=by rw [Array.length_toList];exact h.1
 unfold kX
 rw [List.range_eq_range',<-e]
 refine key acc.toList 0 fun j v hv=>?_
 obtain ⟨t,q⟩:=h.2 j v (by simpa using hv)
 exact ⟨t,by rw [q];congr 1;omega⟩
theorem vc (hc:X.calm=true):bQ X (.type "list") (fun xs H Q=>∃(p:Addr) (j:Int),xs=[.ref p]/\H p=some (.rng 0 j)/\-(2 ^ 24)<=j/\j<=2 ^ 24/\∀l,H l=none->Q (.ref l) (upd H l (.lst (kX j.toNat)))):=by
 intro pins s σ H xs us Q I r h
 obtain ⟨p,j,rfl,hp,h0,h1,q⟩:=h
 obtain ⟨u,rfl,rx⟩:=vals1 r
 cases rx
 obtain ⟨t,u,v,ho⟩:=I.hok p _ hp
 have hn:Builtin.Range.rangeSize 0 j 1=(j.toNat:Int):=by rw [rangeSize_one];split <;> omega
 refine call_list_range (I.ok.hd hc) ho (small_one (by decide) (by decide) (by omega) (by omega)) hn (by omega) fun h' tk acc' c' kp e hi=>?_
 have hv:=Fb hi
 refine ⟨.ref s.heap.objs.size,_,I.laid kp (Nat.le_refl _) (show b9 X.prog X.w _ h' _ (.lst (kX j.toNat)) from ⟨?_,acc'.toList,c',hv,e⟩),rfl,q _ (I.hok.fresh (Nat.le_refl _))⟩
 unfold kX
 rw [List.length_map,List.length_range]
 show j.toNat<=2 ^ 24
 omega
def AE (gs:G (List R)):G R:=fun env=>gs env >>= fun rs=>match rs with
 | [.d (.int j)]=>if below 16777216 j then .ok (.l .fresh (dO 0 j.toNat)) else .bad
 | _=>.bad
theorem E2 {K:W.Frag}{J:Hp}(n:Nat):aF K J (dO 0 n) (kX n):=by
 unfold dO kX
 generalize List.range n=ks
 induction ks with
 | nil=>exact .nil
 | cons k ks ih=>
  rw [List.map_cons,List.map_cons,Int.zero_add]
  exact .cons (.int _) ih
theorem Cw {p p2 pos2:Pos}{gs:G (List R)}(ha:jh X c [a] gs) (hm:X.mg "range"=none) (hm2:X.mg "list"=none) (hc:X.calm=true:=by rfl) (hK:X.K=c.K:=by rfl) (hg:Gl X "range":=by rfl) (NJ:Gl X "list":=by rfl)
  (hs:starEach [a] X.env=(false,eval a X.env)::starEach [] X.env:=by rfl) (hs0:(backTo pos (starEach [] X.env)).any (·.1)=false:=by rfl) (hs2:starEach [Expr.Call (.Name "range" p) [a] [] pos] X.env=(false,eval (Expr.Call (.Name "range" p) [a] [] pos) X.env)::starEach [] X.env:=by rfl) (Oz:(backTo pos2 (starEach [] X.env)).any (·.1)=false:=by rfl):
  PD X c (.Call (.Name "list" p2) [.Call (.Name "range" p) [a] [] pos] [] pos2) (AE gs):=by
 have h1:=lg (p:=p) (pos:=pos) DB hg hm boot_range ha (by decide) (by decide) hs hs0
 have h2:=lg (p:=p2) (pos:=pos2) (vc hc) NJ hm2 qO (gm h1 jd hs2) (by decide) (by decide) hs2 Oz
 refine gA h2 fun σ H Q ⟨J,env,sr,w⟩=>?_
 refine ⟨J,env,sr,aC (aK w) fun rs wr vs J1 H1 e1 r1=>?_⟩
 split at wr
 ·rename_i j
  obtain ⟨v,rfl,r⟩:=r1.one
  cases r
  split at wr
  ·rename_i hb
   obtain ⟨b1,b2⟩:=cj.mp hb
   refine ⟨j,rfl,fun q hq=>?_⟩
   refine ⟨q,j,rfl,bO,by omega,by omega,fun l hl=>?_⟩
   have hp1:=sr.hp.ext e1
   have e2:=Ext.new hp1.sub hq (.rng 0 j)
   have hp2:=hp1.ext e2
   have hr:RR c H1 J1 (upd (upd H1 q (.rng 0 j)) l (.lst (kX j.toNat))) (.l .fresh (dO 0 j.toNat)) (.ref l):=by
    obtain ⟨a,us,x1,x2,x3,x4,x5⟩:=iz (c:=c) hp2 hl (E2 j.toNat)
    exact ⟨a,us,x1,x2,x3,e2.h.free x4,x5⟩
   exact wr _ _ _ ((e1.trans e2).trans (Ext.new hp2.sub hl _)) (by
    obtain ⟨a,us,x1,x2,x3,x4,x5⟩:=hr
    exact ⟨a,us,x1,x2,x3,e1.h.free x4,x5⟩)
  ·exact wr.elim
 ·exact wr.elim
end
end DL
namespace DL
open PySem PySem.Spec PyProof.Rows L2 DX
section
variable {X:Cx}{c:C}{e a:Expr}{es:List Expr}{ga g:G R}{pos:Pos}{L:List Str}{T:Str->Bool}
theorem xR {b:Expr}{elts:List Expr}{kk:Nat}{tp p:Pos}{gs:G (List R)}(ha:kP X c [a,b] gs) (hm:X.mg "zip"=none) (hK:X.K=c.K:=by rfl) (hg:Gl X "zip":=by rfl) (hs:starEach [a,b] X.env=[(false,eval a X.env),(false,eval b X.env)]:=by rfl) (hs2:starEach [b] X.env=[(false,eval b X.env)]:=by rfl):
  qI X c (.Tuple elts kk tp) (.Call (.Name "zip" p) [a,b] [] pos) (vJ gs):=⟨Hw ha.h hm hK hg hs hs2⟩
theorem A3 {p p2 pos2:Pos}{gs:G (List R)}(ha:kP X c [a] gs) (hm:X.mg "range"=none) (hm2:X.mg "list"=none) (hc:X.calm=true:=by rfl) (hK:X.K=c.K:=by rfl) (hg:Gl X "range":=by rfl) (NJ:Gl X "list":=by rfl)
  (hs:starEach [a] X.env=(false,eval a X.env)::starEach [] X.env:=by rfl) (hs0:(backTo pos (starEach [] X.env)).any (·.1)=false:=by rfl) (hs2:starEach [Expr.Call (.Name "range" p) [a] [] pos] X.env=(false,eval (Expr.Call (.Name "range" p) [a] [] pos) X.env)::starEach [] X.env:=by rfl) (Oz:(backTo pos2 (starEach [] X.env)).any (·.1)=false:=by rfl):
  QD X c (.Call (.Name "list" p2) [.Call (.Name "range" p) [a] [] pos] [] pos2) (AE gs):=⟨Cw ha.h hm hm2 hc hK hg NJ hs hs0 hs2 Oz⟩
end
end DL
namespace DL
open PySem PySem.Spec PyProof.Rows L2
end DL
namespace DL
open PySem PySem.Spec PyProof.Rows L2 DX
open PySem.W (KasT kas_sort kas_ask)
def isInt:D->Bool
 | .int _=>true
 | _=>false
def pX (ds:List D):Bool:=decide (ds.length < 64) && ds.all isInt
theorem zq {K:W.Frag}{J:Hp}:∀{ds:List D}{vs:List V}{us:List Value},ds.all isInt=true->aF K J ds vs->Vals vs us->∃ns,IntsAre us ns
 | _,_,_,_,.nil,.nil=>⟨[],.nil⟩
 | d::ds,_,_,h,.cons r rs,.cons v vs=>by
  (rw [List.all_cons,Bool.and_eq_true] at h)
  obtain ⟨ns,hn⟩:=zq h.2 rs vs
  cases d with
  | int i=>
   cases r
   obtain ⟨t,rfl⟩:=v
   exact ⟨i::ns,.cons i t hn⟩
  | _=>cases h.1
section
variable {X:Cx}{c:C}{e:Expr}{es:List Expr}{pos:Pos}
theorem wO:bQ X (.builtin "sorted") (fun xs H Q=>∃p vs ds,xs=[.ref p]/\bZ X.K H p vs/\aF X.K H ds vs/\pX ds=true/\∀l vs',H l=none->(∀J,aF X.K J ds vs->aF X.K J (bq ds) vs')->Q (.ref l) (upd H l (.lst vs'))):=by
 intro pins s σ H xs us Q I r h
 obtain ⟨p,vs,ds,rfl,hq,rs,ok,q⟩:=h
 obtain ⟨u,rfl,rx⟩:=vals1 r
 cases rx
 obtain ⟨its,r',pl,hz⟩:=I.list hq
 have l1:vs.length=its.length:=r'.length
 have l2:ds.length=vs.length:=rs.length
 have fr:H (s.heap.objs.size + 1)=none:=I.hok.fresh (Nat.le_succ _)
 have fin:∀(out:List Value) (vs':List V),vs'.length=vs.length->Vals vs' out->(∀J,aF X.K J ds vs->aF X.K J (bq ds) vs')->∃v H',Inv X pins σ H' {s with heap:=sortedAll s.heap its out.toArray}/\RelV v (.ref (s.heap.objs.size + 1))/\Q v H':=fun out vs' lv rv rr=>by
  obtain ⟨n,hn⟩:=sortedAll_at s.heap its out.toArray
  exact ⟨.ref (s.heap.objs.size + 1),_,I.laid (t':=s.toks) (fun b o e=>sortedAll_old e) (Nat.le_succ _) (show b9 X.prog X.w _ _ _ (.lst vs') from ⟨by rw [lv];exact hz,out,n,rv,by simpa [seqObj] using hn⟩),rfl,q _ vs' fr rr⟩
 unfold pX at ok
 rw [Bool.and_eq_true] at ok
 obtain ⟨o1,o2⟩:=ok
 have o1:=of_decide_eq_true o1
 by_cases h2:ds.length < 2
 ·refine zO pl.isList (by omega) (fin its vs rfl r' ?_)
  intro J rj
  unfold bq
  rw [if_pos h2]
  exact rj
 ·have ib:∀i∈(aU (ltB ds) (kas_sort ds.length)).toList,i < ds.length:=fun i hi=>by
   have:=((d_ (n:=ds.length) (by omega)).run (ltB ds):dZ _ _)
   have:=(Array.Perm.mem_iff this).mp (Array.mem_toList_iff.mp hi)
   simpa using this
  obtain ⟨ns,hI⟩:=zq o2 rs r'
  refine zP (κ:=oneType') (q:=ltB ds) pl.isList (by omega) (by omega) (fun h' C kp cc=>?_) (fun h' kp i j C hi hj cc=>?_) ?_
  ·have hl:2<=its.length:=by omega
   clear fin l1 r' pl
   match its,hI,hl with
   | v1::v2::r,hI,_=>rw [keyKind_ints hI];exact wpAny_pure cc
  ·have hi':i < ds.length:=by omega
   have hj':j < ds.length:=by omega
   have ai:=List.all_eq_true.mp o2 _ (dY hi')
   have aj:=List.all_eq_true.mp o2 _ (dY hj')
   have r1:=eH rs hi'
   have r2:=eH rs hj'
   have v1:=eK r' (i:=i) (by omega)
   have v2:=eK r' (i:=j) (by omega)
   show wpAny _ _ (keyLt' oneType' (its.getD i Value.none) (its.getD j Value.none)) _ _ _
   rw [keyLt'_oneType]
   have e:ltB ds i j=(cA (cI ds i) (cI ds j)).getD false:=rfl
   rw [e] at cc
   generalize cI ds i=di at ai r1 cc
   generalize cI ds j=dj at aj r2 cc
   generalize vs.getD i V.non=wi at r1 v1
   generalize vs.getD j V.non=wj at r2 v2
   cases di with
   | int a=>
    cases dj with
    | int b=>
     cases r1;cases r2
     obtain ⟨t1,q1⟩:=v1
     obtain ⟨t2,q2⟩:=v2
     rw [q1,q2]
     refine oneLt_int ?_
     unfold cA at cc
     exact cc
    | _=>cases aj
   | _=>cases ai
  ·have e1:iK (ltB ds) its=(aU (ltB ds) (kas_sort ds.length)).toList.map fun i=>its.getD i Value.none:=by unfold iK;rw [l2,l1]
   rw [e1]
   refine fin _ _ ?_ (mJ r' _ fun i hi=>l2▸ib i hi) ?_
   ·rw [List.length_map,<-l2]
    have:=((d_ (n:=ds.length) (by omega)).run (ltB ds):dZ _ _).size_eq
    simpa using this
   ·intro J rj
    unfold bq
    rw [if_neg h2]
    exact mC rj _ ib
def ki:List R->M R
 | [r]=>lQ r >>= fun xs=>if xJ xs=true then .ok (.l .fresh (bq xs)) else if pX xs=true then .ok (.l .fresh (bq xs)) else .bad
 | _=>.bad
theorem bQ.or {f:Value}{r1 r2:List V->Hp->VK->Prop}(h1:bQ X f r1) (h2:bQ X f r2):bQ X f (fun xs H Q=>r1 xs H Q\/r2 xs H Q):=fun pins s σ H xs us Q I rv h=>h.elim (h1 pins s σ H xs us Q I rv) (h2 pins s σ H xs us Q I rv)
theorem Ey {p:Pos}{gs:G (List R)}(hu:X.A.units + 64 < cLine) (ha:jh X c (e::es) gs) (hm:X.mg "sorted"=none) (hK:X.K=c.K:=by rfl) (hg:Gl X "sorted":=by rfl)
  (he:starEach (e::es) X.env=(false,eval e X.env)::starEach es X.env:=by rfl) (hpl:(backTo pos (starEach es X.env)).any (·.1)=false:=by rfl):PD X c (.Call (.Name "sorted" p) (e::es) [] pos) (gN ki gs):=
 qo (bQ.or (wR hu) wO) (by
  intro He J H xs vs Q hp rs w
  unfold ki at w
  split at w
  ·obtain ⟨v,rfl,r⟩:=rs.one
   obtain ⟨xs,q,w⟩:=t6 w
   obtain ⟨p,vs,rfl,h1,h2⟩:=RR.list hp r q
   rw [hK]
   split at w
   ·rename_i ok
    exact .inl ⟨p,vs,xs,rfl,h1,h2.mono hp.sub,ok,fun l vs' hl rr=>w _ _ _ (Ext.new hp.sub hl _) (iz hp hl (rr _ h2))⟩
   ·split at w
    ·rename_i ok
     exact .inr ⟨p,vs,xs,rfl,h1,h2.mono hp.sub,ok,fun l vs' hl rr=>w _ _ _ (Ext.new hp.sub hl _) (iz hp hl (rr _ h2))⟩
    ·exact w.elim
  ·exact w.elim) kc hm ha hg (by decide) (by decide) he hpl
theorem uE {p:Pos}{gs:G (List R)}(hu:X.A.units + 64 < cLine) (ha:kP X c (e::es) gs) (hm:X.mg "sorted"=none) (hK:X.K=c.K:=by rfl) (hg:Gl X "sorted":=by rfl)
  (he:starEach (e::es) X.env=(false,eval e X.env)::starEach es X.env:=by rfl) (hpl:(backTo pos (starEach es X.env)).any (·.1)=false:=by rfl):QD X c (.Call (.Name "sorted" p) (e::es) [] pos) (gN ki gs):=⟨Ey hu ha.h hm hK hg he hpl⟩
end
end DL
namespace DL
open PySem PySem.Spec PyProof.Rows L2 DX
end DL
namespace ST
open PySem PySem.SetTable
theorem tK (xs:Array Nat) (j:Nat) (hs:xs.toList.Pairwise (· < ·)):∀(f lo hi:Nat),hi<=xs.size->lo<=hi->hi - lo<=f->(∀i,i < lo->xs.getD i 0 < j)->(∀i,hi<=i->i < xs.size->j<=xs.getD i 0)->
  below.go xs j f lo hi<=xs.size/\(∀i,i < below.go xs j f lo hi->xs.getD i 0 < j)/\∀i,below.go xs j f lo hi<=i->i < xs.size->j<=xs.getD i 0
 | 0,lo,hi,h1,h2,h3,h4,h5=>by
  have:lo=hi:=by omega
  subst this
  exact ⟨h1,h4,h5⟩
 | f + 1,lo,hi,h1,h2,h3,h4,h5=>by
  have mono:∀a b,a<=b->b < xs.size->xs.getD a 0<=xs.getD b 0:=fun a b hab hb=>by
   rcases Nat.lt_or_eq_of_le hab with h | h
   ·have:=List.pairwise_iff_getElem.mp hs a b (by simpa using Nat.lt_trans h hb) (by simpa using hb) h
    simp [Array.getD,Nat.lt_trans h hb,hb] at this ⊢
    omega
   ·rw [h];exact Nat.le_refl _
  unfold below.go
  by_cases c:lo < hi
  ·rw [if_pos c]
   have hm:(lo + hi) / 2 < xs.size:=by omega
   have e:xs.getD ((lo + hi) / 2) j=xs.getD ((lo + hi) / 2) 0:=by simp [Array.getD,hm]
   by_cases d:xs.getD ((lo + hi) / 2) j < j
   ·simp only [d,if_true]
    rw [e] at d
    exact tK xs j hs f _ hi h1 (by omega) (by omega) (fun i hi'=>Nat.lt_of_le_of_lt (mono i ((lo + hi) / 2) (by omega) hm) d) h5
   ·simp only [d,if_false]
    rw [e] at d
    exact tK xs j hs f lo _ (by omega) (by omega) (by omega) h4 (fun i hi' hs'=>Nat.le_trans (by omega) (mono ((lo + hi) / 2) i hi' hs'))
  ·rw [if_neg c]
   have:lo=hi:=by omega
   subst this
   exact ⟨h1,h4,h5⟩
theorem mQ (xs:Array Nat) (j:Nat) (hs:xs.toList.Pairwise (· < ·)):below xs j<=xs.size/\(∀i,i < below xs j->xs.getD i 0 < j)/\∀i,below xs j<=i->i < xs.size->j<=xs.getD i 0:=
 tK xs j hs xs.size 0 xs.size (Nat.le_refl _) (Nat.zero_le _) (by omega) (fun i h=>absurd h (Nat.not_lt_zero _)) (fun i h1 h2=>by omega)
theorem below_at {xs:Array Nat}{i j:Nat}(hs:xs.toList.Pairwise (· < ·)) (h:xs[i]?=some j):below xs j=i:=by
 obtain ⟨hi,e⟩:=Array.getElem?_eq_some_iff.mp h
 obtain ⟨b1,b2,b3⟩:=mQ xs j hs
 have g:xs.getD i 0=j:=by simp [Array.getD,hi,e]
 rcases Nat.lt_trichotomy (below xs j) i with c | c | c
 ·have h1:=b3 (below xs j) (Nat.le_refl _) (by omega)
  have:=List.pairwise_iff_getElem.mp hs (below xs j) i (by simpa using Nat.lt_trans c hi) (by simpa using hi) c
  simp [Array.getD,Nat.lt_trans c hi] at h1
  simp at this
  omega
 ·exact c
 ·have:=b2 i c
  omega
theorem oJ {t:SetTable}{i j:Nat}(hs:t.place.toList.Pairwise (· < ·)) (h:t.place[i]?=some j):t.slot j=.live i:=by
 unfold slot
 rw [below_at hs h]
 show (if (t.place[i]? == some j)=true then Slot.live i else _)=_
 rw [h]
 simp
theorem sC {t:SetTable}{j:Nat}(hd:t.dummies=#[]) (h:j∉t.place.toList):t.slot j=.empty:=by
 unfold slot
 have h1:(t.place[below t.place j]? == some j)=false:=by
  rw [beq_eq_false_iff_ne]
  intro z
  exact h (by
   obtain ⟨hi,e⟩:=Array.getElem?_eq_some_iff.mp z
   rw [<-e]
   simp)
 have h2:has t.dummies j=false:=by rw [hd];rfl
 simp only [h1,h2,Bool.false_eq_true,if_false]
def st (mask:Nat) (h:Int):Nat->Probe
 | 0=>({mask:=mask,place:=#[],dummies:=#[],finger:=0,led:=true,moves:=0,plain:=true}:SetTable).probeStart h
 | n + 1=>({mask:=mask,place:=#[],dummies:=#[],finger:=0,led:=true,moves:=0,plain:=true}:SetTable).advance (st mask h n)
abbrev pos (mask:Nat) (h:Int) (n:Nat):Nat:=(st mask h n).j
theorem ny (mask:Nat) (h:Int):∀n,(st mask h n).dummy=none
 | 0=>rfl
 | n + 1=>by
  unfold st advance
  split
  ·exact ny mask h n
  ·exact ny mask h n
def tn (mask:Nat) (h:Int):Nat->Nat×Nat
 | 0=>(bits h % (mask + 1),bits h)
 | k + 1=>leap mask (tn mask h k).1 (tn mask h k).2
theorem uN (mask:Nat) (h:Int):∀(m n:Nat) (i p j:Nat),st mask h n={j:=j,more:=m,i:=i,perturb:=p,dummy:=none}->st mask h (n + m)={j:=j + m,more:=0,i:=i,perturb:=p,dummy:=none}
 | 0,n,i,p,j,e=>e
 | m + 1,n,i,p,j,e=>by
  have e1:st mask h (n + 1)={j:=j + 1,more:=m,i:=i,perturb:=p,dummy:=none}:=by
   show advance _ (st mask h n)=_
   rw [e]
   unfold advance
   simp
  have:=uN mask h m (n + 1) i p (j + 1) e1
  rw [show n + (m + 1)=n + 1 + m by omega,this]
  congr 1;omega
theorem zU (mask:Nat) (h:Int):∀k,∃n,n<=10 * k/\st mask h n={j:=(tn mask h k).1,more:=runEnd mask (tn mask h k).1 - (tn mask h k).1,i:=(tn mask h k).1,perturb:=(tn mask h k).2,dummy:=none}
 | 0=>⟨0,Nat.le_refl _,rfl⟩
 | k + 1=>by
  obtain ⟨n,hn,e⟩:=zU mask h k
  have hm:runEnd mask (tn mask h k).1 - (tn mask h k).1<=9:=by unfold runEnd;split <;> omega
  have:=uN mask h _ n _ _ _ e
  refine ⟨n + (runEnd mask (tn mask h k).1 - (tn mask h k).1) + 1,by omega,?_⟩
  show advance _ (st mask h (n + (runEnd mask (tn mask h k).1 - (tn mask h k).1)))=_
  rw [this]
  unfold advance
  simp
  exact ⟨rfl,rfl,rfl,rfl⟩
theorem sG (mask:Nat) (h:Int):∀k,(tn mask h k).2=bits h / 32 ^ k
 | 0=>by simp [tn]
 | k + 1=>by
  show (tn mask h k).2 / 32=_
  rw [sG mask h k,Nat.div_div_eq_div_mul,Nat.pow_succ]
theorem Gg (h:Int):bits h < 2 ^ 64:=by
 unfold bits
 have:=Int.emod_lt_of_pos h (b:=2 ^ 64) (by decide)
 omega
def Ca (mask i:Nat):Nat:=(i * 5 + 1) % (mask + 1)
def ig (mask:Nat):Nat->Nat->Nat
 | 0,i=>i
 | r + 1,i=>Ca mask (ig mask r i)
theorem yk (mask:Nat) (h:Int):∀r,(tn mask h (12 + r)).1=ig mask r (tn mask h 12).1
 | 0=>rfl
 | r + 1=>by
  show (leap mask (tn mask h (12 + r)).1 (tn mask h (12 + r)).2).1=Ca mask (ig mask r (tn mask h 12).1)
  rw [<-yk mask h r,sG]
  unfold leap Ca
  have:bits h / 32 ^ (12 + r) / 32=0:=by
   rw [Nat.div_div_eq_div_mul,<-Nat.pow_succ]
   refine Nat.div_eq_of_lt (Nat.lt_of_lt_of_le (Gg h) ?_)
   refine Nat.le_trans (show 2 ^ 64<=32 ^ 13 by decide) (Nat.pow_le_pow_right (by decide) (by omega))
  rw [this]
theorem Mr:∀i:Fin 8,∀j:Fin 8,(List.range 8).any (fun r=>ig 7 r i.val == j.val)=true:=by decide +kernel
theorem La:∀i:Fin 32,∀j:Fin 32,(List.range 32).any (fun r=>ig 31 r i.val == j.val)=true:=by decide +kernel
def IG:List Nat:=(List.range 128).map fun r=>ig 127 r 0
theorem zg:∀j:Fin 128,IG.contains j.val=true:=by decide +kernel
theorem Gj:ig 127 128 0=0:=by decide +kernel
theorem nh (mask:Nat):∀a b i,ig mask (a + b) i=ig mask a (ig mask b i)
 | 0,b,i=>by rw [Nat.zero_add];rfl
 | a + 1,b,i=>by
  rw [show a + 1 + b=(a + b) + 1 by omega]
  show Ca mask (ig mask (a + b) i)=Ca mask (ig mask a (ig mask b i))
  rw [nh mask a b i]
def kO (mask:Nat):Prop:=mask=7\/mask=31\/mask=127
theorem BR {mask:Nat}(hm:kO mask) (i j:Nat) (hi:i<=mask) (hj:j<=mask):∃r,r<=mask/\ig mask r i=j:=by
 rcases hm with rfl | rfl | rfl
 ·have:=Mr ⟨i,by omega⟩ ⟨j,by omega⟩
  rw [List.any_eq_true] at this
  obtain ⟨r,h1,h2⟩:=this
  exact ⟨r,by have:=List.mem_range.mp h1;omega,by simpa using h2⟩
 ·have:=La ⟨i,by omega⟩ ⟨j,by omega⟩
  rw [List.any_eq_true] at this
  obtain ⟨r,h1,h2⟩:=this
  exact ⟨r,by have:=List.mem_range.mp h1;omega,by simpa using h2⟩
 ·have hi':=zg ⟨i,by omega⟩
  have hj':=zg ⟨j,by omega⟩
  rw [List.contains_iff_mem] at hi' hj'
  obtain ⟨a,ha,ea⟩:=List.mem_map.mp hi'
  obtain ⟨b,hb,eb⟩:=List.mem_map.mp hj'
  have ha:=List.mem_range.mp ha
  have hb:=List.mem_range.mp hb
  have ea:ig 127 a 0=i:=ea
  have eb:ig 127 b 0=j:=eb
  by_cases c:a<=b
  ·refine ⟨b - a,by omega,?_⟩
   rw [<-ea,<-nh,show b - a + a=b by omega]
   exact eb
  ·refine ⟨128 + b - a,by omega,?_⟩
   rw [<-ea,<-nh,show 128 + b - a + a=b + 128 by omega,nh,Gj]
   exact eb
theorem Bg (mask:Nat) (h:Int) (k:Nat):(tn mask h k).1<=mask:=by
 cases k with
 | zero=>exact Nat.le_of_lt_succ (Nat.mod_lt _ (by omega))
 | succ k=>exact Nat.le_of_lt_succ (Nat.mod_lt _ (by omega))
theorem visits {mask:Nat}(hm:kO mask) (h:Int) (j:Nat) (hj:j<=mask):∃n,n<=10 * (mask + 12)/\pos mask h n=j:=by
 obtain ⟨r,hr,e⟩:=BR hm (tn mask h 12).1 j (Bg mask h 12) hj
 obtain ⟨n,hn,q⟩:=zU mask h (12 + r)
 refine ⟨n,by omega,?_⟩
 show (st mask h n).j=j
 rw [q]
 show (tn mask h (12 + r)).1=j
 rw [yk,e]
theorem qY {mask:Nat}(hm:kO mask) (h:Int) (P:List Nat) (hP:P.length<=mask):∃n,n<=10 * (mask + 12)/\pos mask h n∉P/\∀m,m < n->pos mask h m∈P:=by
 have ex:∃j,j<=mask/\j∉P:=by
  by_cases c:∀j,j<=mask->j∈P
  ·exfalso
   have:(List.range (mask + 1)).length<=P.length:=List.Nodup.length_le_of_subset List.nodup_range fun j hj=>c j (by have:=List.mem_range.mp hj;omega)
   rw [List.length_range] at this
   omega
  ·exact Classical.byContradiction fun z=>c fun j hj=>Classical.byContradiction fun y=>z ⟨j,hj,y⟩
 obtain ⟨j,hj,hn⟩:=ex
 obtain ⟨n,hn1,hn2⟩:=visits hm h j hj
 have key:∀k,k<=n->(∃m,m<=k/\pos mask h m∉P/\∀m',m' < m->pos mask h m'∈P)\/∀m,m<=k->pos mask h m∈P:=by
  intro k
  induction k with
  | zero=>
   intro _
   by_cases c:pos mask h 0∈P
   ·exact .inr fun m hm=>by rw [show m=0 by omega];exact c
   ·exact .inl ⟨0,Nat.le_refl _,c,fun m' h'=>absurd h' (Nat.not_lt_zero _)⟩
  | succ k ih=>
   intro hk
   rcases ih (by omega) with ⟨m,h1,h2⟩ | h1
   ·exact .inl ⟨m,by omega,h2⟩
   ·by_cases c:pos mask h (k + 1)∈P
    ·exact .inr fun m hm=>by
      by_cases d:m<=k
      ·exact h1 m d
      ·rw [show m=k + 1 by omega];exact c
    ·exact .inl ⟨k + 1,Nat.le_refl _,c,fun m' h'=>h1 m' (by omega)⟩
 rcases key n (Nat.le_refl _) with ⟨m,h1,h2,h3⟩ | h1
 ·exact ⟨m,by omega,h2,h3⟩
 ·exact absurd (h1 n (Nat.le_refl _)) (by rw [hn2];exact hn)
def Reach (mask:Nat) (P:List Nat) (h:Int) (j:Nat):Prop:=∃n,pos mask h n=j/\∀m,m < n->pos mask h m∈P
theorem Reach.mono {mask:Nat}{P P':List Nat}{h:Int}{j:Nat}(r:Reach mask P h j) (s:∀x∈P,x∈P'):Reach mask P' h j:=
 let ⟨n,h1,h2⟩:=r;⟨n,h1,fun m hm=>s _ (h2 m hm)⟩
structure Tab (t:SetTable) (es:Array (Int×Value)) (L:List (Nat×Int×Value)):Prop where
 dm:t.dummies=#[]
 pl:t.place.toList=L.map (·.1)
 en:es.toList=L.map (·.2)
 so:(L.map (·.1)).Pairwise (· < ·)
 bd:∀e∈L,e.1<=t.mask
 mo:kO t.mask
 fl:L.length<=t.mask
 pr:∀e∈L,Reach t.mask (L.map (·.1)) e.2.1 e.1
section
variable {t:SetTable}{es:Array (Int×Value)}{L:List (Nat×Int×Value)}
theorem Tab.at_ (T:Tab t es L){i:Nat}{e:Nat×Int×Value}(h:L[i]?=some e):t.place[i]?=some e.1/\es[i]?=some e.2:=by
 constructor
 ·rw [<-Array.getElem?_toList,T.pl,List.getElem?_map,h];rfl
 ·rw [<-Array.getElem?_toList,T.en,List.getElem?_map,h];rfl
theorem Tab.sop (T:Tab t es L):t.place.toList.Pairwise (· < ·):=by rw [T.pl];exact T.so
theorem xN (T:Tab t es L) (hashAt:Nat->Int) (hA:∀i e,es[i]?=some e->hashAt i=e.1) (h:Int) (n0:Nat) (hf:pos t.mask h n0∉L.map (·.1)) (hb:∀m,m < n0->pos t.mask h m∈L.map (·.1)):
  ∀(d n F:Nat),n0 - n=d->n<=n0->d < F->∃m,n<=m/\m<=n0/\(∀k,n<=k->k < m->∀e∈L,e.1=pos t.mask h k->e.2.1≠h)/\
   ((m=n0/\probe.go t hashAt h F (st t.mask h n)=some (.empty (pos t.mask h n0) none))\/(m < n0/\∃i e,L[i]?=some e/\e.1=pos t.mask h m/\e.2.1=h/\probe.go t hashAt h F (st t.mask h n)=some (.candidate (pos t.mask h m) i (st t.mask h (m + 1)))))
 | d,n,0,_,_,h=>absurd h (Nat.not_lt_zero _)
 | d,n,F + 1,hd,hn,hF=>by
  by_cases c:n=n0
  ·subst c
   refine ⟨n,Nat.le_refl _,Nat.le_refl _,fun k h1 h2=>by omega,.inl ⟨rfl,?_⟩⟩
   unfold probe.go
   rw [sC T.dm (by rw [T.pl];exact hf)]
   show some (Met.empty _ (st t.mask h n).dummy)=_
   rw [ny]
  ·obtain ⟨e,he,ej⟩:=List.mem_map.mp (hb n (by omega))
   obtain ⟨i,hi,rfl⟩:=List.mem_iff_getElem.mp he
   have hL:L[i]?=some L[i]:=List.getElem?_eq_getElem hi
   obtain ⟨p1,p2⟩:=T.at_ hL
   have hs:t.slot (pos t.mask h n)=.live i:=oJ T.sop (by rw [p1,ej])
   have hh:=hA i _ p2
   have uniq:∀e∈L,e.1=pos t.mask h n->e=L[i]:=fun e he q=>by
    obtain ⟨k,hk,rfl⟩:=List.mem_iff_getElem.mp he
    have:k=i:=by
     have sw:=List.pairwise_iff_getElem.mp T.so
     rcases Nat.lt_trichotomy k i with c | c | c
     ·have:=sw k i (by simpa using hk) (by simpa using hi) c
      simp at this
      omega
     ·exact c
     ·have:=sw i k (by simpa using hi) (by simpa using hk) c
      simp at this
      omega
    subst this;rfl
   by_cases q:L[i].2.1=h
   ·refine ⟨n,Nat.le_refl _,by omega,fun k h1 h2=>by omega,.inr ⟨by omega,i,L[i],hL,ej,q,?_⟩⟩
    unfold probe.go
    rw [hs]
    show (if (hashAt i == h)=true then _ else _)=_
    rw [hh,q,if_pos (by simp)]
    rfl
   ·obtain ⟨m,m1,m2,m3,m4⟩:=xN T hashAt hA h n0 hf hb (n0 - (n + 1)) (n + 1) F rfl (by omega) (by omega)
    have eg:probe.go t hashAt h (F + 1) (st t.mask h n)=probe.go t hashAt h F (st t.mask h (n + 1)):=by
     rw [probe.go,hs]
     show (if (hashAt i == h)=true then _ else _)=_
     rw [hh,if_neg (by simpa using q)]
     rfl
    rw [eg]
    refine ⟨m,by omega,m2,fun k h1 h2 e he' ek=>?_,m4⟩
    by_cases z:k=n
    ·subst z
     rw [uniq e he' ek];exact q
    ·exact m3 k (by omega) h2 e he' ek
theorem nJ {α:Type}(xs:Array α) (p:Nat) (x:α) (hp:p<=xs.size):(insertAt xs p x).toList=xs.toList.take p++x::xs.toList.drop p:=by
 unfold insertAt
 simp
 (exact List.take_of_length_le (by simp))
theorem Tab.put (T:Tab t es L) (h:Int) (x:Value) (n0:Nat) (hf:pos t.mask h n0∉L.map (·.1)) (hb:∀m,m < n0->pos t.mask h m∈L.map (·.1)) (hj:pos t.mask h n0<=t.mask) (hl:L.length + 1<=t.mask):
  ∃L',Tab (t.put (pos t.mask h n0)).1 (insertAt es (t.put (pos t.mask h n0)).2 (h,x)) L'/\L'.Perm ((pos t.mask h n0,h,x)::L):=by
 obtain ⟨b1,b2,b3⟩:=mQ t.place (pos t.mask h n0) T.sop
 generalize hp:below t.place (pos t.mask h n0)=p at b1 b2 b3
 have hsz:t.place.size=L.length:=by rw [<-Array.length_toList,T.pl,List.length_map]
 have hes:es.size=L.length:=by rw [<-Array.length_toList,T.en,List.length_map]
 have perm:(L.take p++(pos t.mask h n0,h,x)::L.drop p).Perm ((pos t.mask h n0,h,x)::L):=by
  have:=List.perm_middle (a:=(pos t.mask h n0,h,x)) (l₁:=L.take p) (l₂:=L.drop p)
  rwa [List.take_append_drop] at this
 have e1:(t.put (pos t.mask h n0))=({t with place:=insertAt t.place p (pos t.mask h n0),dummies:=#[]},p):=by
  unfold SetTable.put
  rw [hp,T.dm]
  rfl
 rw [e1]
 have getP:∀i (hi:i < L.length),t.place.getD i 0=L[i].1:=fun i hi=>by
  have:=(T.at_ (List.getElem?_eq_getElem hi)).1
  have hi':i < t.place.size:=by omega
  simp [Array.getD,hi']
  rw [Array.getElem?_eq_getElem hi'] at this
  exact Option.some.inj this
 refine ⟨L.take p++(pos t.mask h n0,h,x)::L.drop p,⟨rfl,?_,?_,?_,fun e he=>?_,T.mo,?_,fun e he=>?_⟩,perm⟩
 ·show (insertAt t.place p (pos t.mask h n0)).toList=_
  rw [nJ _ _ _ b1,T.pl]
  simp [List.map_take,List.map_drop]
 ·show (insertAt es p (h,x)).toList=_
  rw [nJ _ _ _ (by omega),T.en]
  simp [List.map_take,List.map_drop]
 ·rw [List.map_append,List.map_cons,List.pairwise_append]
  refine ⟨?_,?_,?_⟩
  ·rw [List.map_take]
   exact T.so.sublist (List.take_sublist _ _)
  ·rw [List.pairwise_cons]
   refine ⟨fun a ha=>?_,?_⟩
   ·obtain ⟨e,he,rfl⟩:=List.mem_map.mp ha
    obtain ⟨i,hi,rfl⟩:=List.mem_iff_getElem.mp he
    rw [List.getElem_drop]
    rw [List.length_drop] at hi
    have:=b3 (p + i) (by omega) (by omega)
    rw [getP _ (by omega)] at this
    rcases Nat.lt_or_eq_of_le this with c | c
    ·exact c
    ·exact absurd (List.mem_map.mpr ⟨L[p + i],List.getElem_mem _,c.symm⟩) hf
   ·rw [List.map_drop]
    exact T.so.sublist (List.drop_sublist _ _)
  ·intro a ha b hb
   obtain ⟨e,he,rfl⟩:=List.mem_map.mp ha
   obtain ⟨i,hi,rfl⟩:=List.mem_iff_getElem.mp he
   rw [List.getElem_take]
   rw [List.length_take] at hi
   have h1:=b2 i (by omega)
   rw [getP _ (by omega)] at h1
   (rcases List.mem_cons.mp hb with rfl | hb)
   ·exact h1
   ·obtain ⟨e,he,rfl⟩:=List.mem_map.mp hb
    obtain ⟨k,hk,rfl⟩:=List.mem_iff_getElem.mp he
    rw [List.getElem_drop]
    rw [List.length_drop] at hk
    have:=b3 (p + k) (by omega) (by omega)
    rw [getP _ (by omega)] at this
    omega
 ·rcases List.mem_cons.mp (perm.mem_iff.mp he) with rfl | he
  ·exact hj
  ·exact T.bd e he
 ·rw [perm.length_eq];exact hl
 ·have sub:∀y∈L.map (·.1),y∈(L.take p++(pos t.mask h n0,h,x)::L.drop p).map (·.1):=fun y hy=>by
   obtain ⟨e,he,rfl⟩:=List.mem_map.mp hy
   exact List.mem_map.mpr ⟨e,perm.mem_iff.mpr (List.mem_cons_of_mem _ he),rfl⟩
  rcases List.mem_cons.mp (perm.mem_iff.mp he) with rfl | he
  ·exact ⟨n0,rfl,fun m hm=>sub _ (hb m hm)⟩
  ·exact (T.pr e he).mono sub
end
theorem mD (mask:Nat) (h:Int) (n i p m:Nat) (e:st mask h n={j:=i,more:=m,i:=i,perturb:=p,dummy:=none}):∀r,r<=m->st mask h (n + r)={j:=i + r,more:=m - r,i:=i,perturb:=p,dummy:=none}
 | 0,_=>e
 | r + 1,hr=>by
  show advance _ (st mask h (n + r))=_
  rw [mD mask h n i p m e r (by omega)]
  unfold advance
  rw [if_pos (by show m - r > 0;omega)]
  show Probe.mk _ _ _ _ _=_
  congr 1
theorem Df (mask:Nat) (h:Int) (k n:Nat) (e:st mask h n={j:=(tn mask h k).1,more:=runEnd mask (tn mask h k).1 - (tn mask h k).1,i:=(tn mask h k).1,perturb:=(tn mask h k).2,dummy:=none}):
  st mask h (n + (runEnd mask (tn mask h k).1 - (tn mask h k).1) + 1)={j:=(tn mask h (k + 1)).1,more:=runEnd mask (tn mask h (k + 1)).1 - (tn mask h (k + 1)).1,i:=(tn mask h (k + 1)).1,perturb:=(tn mask h (k + 1)).2,dummy:=none}:=by
 show advance _ (st mask h (n + (runEnd mask (tn mask h k).1 - (tn mask h k).1)))=_
 rw [mD mask h n _ _ _ e _ (Nat.le_refl _)]
 unfold advance
 simp
 exact ⟨rfl,rfl,rfl,rfl⟩
theorem ug (mask:Nat) (h:Int) (owner:Array (Option Nat)) (G:List Nat) (ho:∀j,j<=mask->((owner.getD j (some 0)).isNone=true↔j∉G)):
  ∀(f k n:Nat),st mask h n={j:=(tn mask h k).1,more:=runEnd mask (tn mask h k).1 - (tn mask h k).1,i:=(tn mask h k).1,perturb:=(tn mask h k).2,dummy:=none}->(∀m,m < n->pos mask h m∈G)->
   (∃n',layClean.free mask owner f (tn mask h k).1 (tn mask h k).2=some (pos mask h n')/\pos mask h n'<=mask/\pos mask h n'∉G/\∀m,m < n'->pos mask h m∈G)\/(layClean.free mask owner f (tn mask h k).1 (tn mask h k).2=none/\∀r,r < f->(tn mask h (k + r)).1∈G)
 | 0,k,n,e,hb=>.inr ⟨rfl,fun r hr=>absurd hr (Nat.not_lt_zero _)⟩
 | f + 1,k,n,e,hb=>by
  have hi:=Bg mask h k
  have re:runEnd mask (tn mask h k).1<=mask/\(tn mask h k).1<=runEnd mask (tn mask h k).1:=by unfold runEnd;split <;> omega
  unfold layClean.free
  cases q:(List.range (runEnd mask (tn mask h k).1 + 1 - (tn mask h k).1)).find? fun r=>(owner.getD ((tn mask h k).1 + r) (some 0)).isNone with
  | some r=>
   have h1:=List.find?_some q
   have h2:=List.mem_range.mp (List.mem_of_find?_eq_some q)
   have h3:pos mask h (n + r)=(tn mask h k).1 + r:=by
    show (st mask h (n + r)).j=_
    rw [mD mask h n _ _ _ e r (by omega)]
   refine .inl ⟨n + r,?_,?_,?_,?_⟩
   ·show some _=_
    rw [h3]
   ·rw [h3];omega
   ·rw [h3];exact (ho _ (by omega)).mp h1
   ·intro m hm
    by_cases c:m < n
    ·exact hb m c
    ·obtain ⟨s,rfl⟩:∃s,m=n + s:=⟨m - n,by omega⟩
     have h4:pos mask h (n + s)=(tn mask h k).1 + s:=by
      show (st mask h (n + s)).j=_
      rw [mD mask h n _ _ _ e s (by omega)]
     rw [h4]
     refine Classical.byContradiction fun z=>?_
     have z':=(ho ((tn mask h k).1 + s) (by omega)).mpr z
     rw [List.find?_eq_some_iff_append] at q
     obtain ⟨_,as,bs,eq,hall⟩:=q
     have hs:s∈as:=by
      have hlen:as.length=r:=by
       have hl:as.length < (List.range (runEnd mask (tn mask h k).1 + 1 - (tn mask h k).1)).length:=by rw [eq];simp
       have e3:(List.range (runEnd mask (tn mask h k).1 + 1 - (tn mask h k).1))[as.length]?=some r:=by rw [eq];simp
       rw [List.length_range] at hl
       rw [List.getElem?_range hl] at e3
       exact Option.some.inj e3
      have e4:(List.range (runEnd mask (tn mask h k).1 + 1 - (tn mask h k).1))[s]?=some s:=List.getElem?_range (by omega)
      rw [eq,List.getElem?_append_left (by omega)] at e4
      exact List.mem_of_getElem? e4
     have:=hall s hs
     rw [z'] at this
     exact absurd this (by decide)
  | none=>
   have hall:=List.find?_eq_none.mp q
   have occ:∀s,s<=runEnd mask (tn mask h k).1 - (tn mask h k).1->(tn mask h k).1 + s∈G:=fun s hs=>Classical.byContradiction fun z=>by
    have z':=(ho ((tn mask h k).1 + s) (by omega)).mpr z
    exact hall s (List.mem_range.mpr (by omega)) z'
   have nb:∀m,m < n + (runEnd mask (tn mask h k).1 - (tn mask h k).1) + 1->pos mask h m∈G:=fun m hm=>by
    by_cases c:m < n
    ·exact hb m c
    ·obtain ⟨s,rfl⟩:∃s,m=n + s:=⟨m - n,by omega⟩
     have h4:pos mask h (n + s)=(tn mask h k).1 + s:=by
      show (st mask h (n + s)).j=_
      rw [mD mask h n _ _ _ e s (by omega)]
     rw [h4]
     exact occ s (by omega)
   rcases ug mask h owner G ho f (k + 1) _ (Df mask h k n e) nb with ⟨n',g1,g2',g3⟩ | ⟨g1,g2'⟩
   ·exact .inl ⟨n',g1,g2',g3⟩
   ·refine .inr ⟨g1,fun r hr=>?_⟩
    cases r with
    | zero=>have:=occ 0 (Nat.zero_le _);exact this
    | succ r=>have:=g2' r (by omega);rwa [show k + (r + 1)=k + 1 + r by omega]
theorem Gu {mask:Nat}(hm:kO mask) (h:Int) (owner:Array (Option Nat)) (G:List Nat) (hG:G.length<=mask) (ho:∀j,j<=mask->((owner.getD j (some 0)).isNone=true↔j∉G)):
  ∃n',layClean.free mask owner (turns mask) (bits h % (mask + 1)) (bits h)=some (pos mask h n')/\pos mask h n'<=mask/\pos mask h n'∉G/\∀m,m < n'->pos mask h m∈G:=by
 rcases ug mask h owner G ho (turns mask) 0 0 rfl (fun m hm=>absurd hm (Nat.not_lt_zero _)) with a | ⟨_,b⟩
 ·exact a
 ·exfalso
  have all:∀j,j<=mask->j∈G:=fun j hj=>by
   obtain ⟨r,hr,e⟩:=BR hm (tn mask h 12).1 j (Bg mask h 12) hj
   have:=b (12 + r) (by unfold turns;omega)
   rw [Nat.zero_add,yk,e] at this
   exact this
  have:(List.range (mask + 1)).length<=G.length:=List.Nodup.length_le_of_subset List.nodup_range fun j hj=>all j (by have:=List.mem_range.mp hj;omega)
  rw [List.length_range] at this
  omega
structure Own (mask:Nat) (owner:Array (Option Nat)) (G:List Nat) (hs:List Int):Prop where
 sz:owner.size=mask + 1
 ln:G.length=hs.length
 nd:G.Nodup
 bd:∀j∈G,j<=mask
 at_:∀j,j<=mask->owner.getD j none=if j∈G then some (G.idxOf j) else none
 pr:∀k (h1:k < G.length) (h2:k < hs.length),Reach mask G hs[k] G[k]
theorem Own.occ {mask:Nat}{owner:Array (Option Nat)}{G:List Nat}{hs:List Int}(O:Own mask owner G hs):∀j,j<=mask->((owner.getD j (some 0)).isNone=true↔j∉G):=fun j hj=>by
 have e:owner.getD j (some 0)=owner.getD j none:=by
  have:j < owner.size:=by rw [O.sz];omega
  simp [Array.getD,this]
 rw [e,O.at_ j hj]
 split <;> simp_all
theorem Own.step {mask:Nat}{owner:Array (Option Nat)}{G:List Nat}{hs:List Int}(O:Own mask owner G hs) (hm:kO mask) (hl:hs.length<=mask) (h:Int):
  ∃j,layClean.free mask owner (turns mask) (bits h % (mask + 1)) (bits h)=some j/\Own mask (owner.setIfInBounds j (some hs.length)) (G++[j]) (hs++[h]):=by
 obtain ⟨n',e,b,f,r⟩:=Gu hm h owner G (by rw [O.ln];exact hl) O.occ
 refine ⟨_,e,⟨by rw [Array.size_setIfInBounds,O.sz],by simp [O.ln],?_,fun j hj=>?_,fun j hj=>?_,fun k h1 h2=>?_⟩⟩
 ·rw [List.nodup_append]
  refine ⟨O.nd,by simp,fun a ha b hb=>?_⟩
  rw [List.mem_singleton] at hb
  subst hb
  intro z;subst z;exact f ha
 ·rcases List.mem_append.mp hj with h1 | h1
  ·exact O.bd j h1
  ·rw [List.mem_singleton.mp h1];exact b
 ·have hsz:j < owner.size:=by rw [O.sz];omega
  by_cases c:j=pos mask h n'
  ·subst c
   rw [if_pos (by simp)]
   simp [Array.getD,hsz]
   rw [List.idxOf_append,if_neg f]
   simp [O.ln]
  ·have e1:(owner.setIfInBounds (pos mask h n') (some hs.length)).getD j none=owner.getD j none:=by
    simp [Array.getD,hsz]
    rw [Array.getElem_setIfInBounds_ne]
    exact fun z=>c z.symm
   rw [e1,O.at_ j hj]
   by_cases d:j∈G
   ·rw [if_pos d,if_pos (List.mem_append_left _ d),List.idxOf_append,if_pos d]
   ·rw [if_neg d,if_neg (by simp [d,c])]
 ·have sub:∀x∈G,x∈G++[pos mask h n']:=fun x hx=>List.mem_append_left _ hx
  by_cases c:k < G.length
  ·have:=(O.pr k c (by rw [<-O.ln];exact c)).mono sub
   rw [List.getElem_append_left c,List.getElem_append_left (by rw [<-O.ln];exact c)]
   exact this
  ·have hk:k=G.length:=by simp at h1;omega
   subst hk
   have e1:(G++[pos mask h n'])[G.length]=pos mask h n':=by simp
   have e2:(hs++[h])[G.length]=h:=by simp [O.ln]
   rw [e1,e2]
   exact ⟨n',rfl,fun m hm=>sub _ (r m hm)⟩
theorem xw {mask:Nat}(hm:kO mask):∀(rest hs:List Int) (owner:Array (Option Nat)) (G:List Nat),Own mask owner G hs->(hs++rest).length<=mask->∃owner' G',rest.foldl (fun acc h=>do
  let (owner,k) <-acc
  let j <-layClean.free mask owner (turns mask) (bits h % (mask + 1)) (bits h)
  pure (owner.setIfInBounds j (some k),k + 1)) (some (owner,hs.length))=some (owner',(hs++rest).length)/\Own mask owner' G' (hs++rest)
 | [],hs,owner,G,O,_=>⟨owner,G,by simp,by simpa using O⟩
 | h::rest,hs,owner,G,O,hl=>by
  obtain ⟨j,e,O'⟩:=O.step hm (by simp at hl;omega) h
  obtain ⟨owner',G',e2,O2⟩:=xw hm rest (hs++[h]) _ _ O' (by simpa using hl)
  refine ⟨owner',G',?_,by simpa using O2⟩
  rw [List.foldl_cons]
  have e3:(do
   let (owner,k) <-some (owner,hs.length)
   let j <-layClean.free mask owner (turns mask) (bits h % (mask + 1)) (bits h)
   pure (owner.setIfInBounds j (some k),k + 1):Option (Array (Option Nat)×Nat))=some (owner.setIfInBounds j (some hs.length),(hs++[h]).length):=by
   show Option.bind (layClean.free mask owner (turns mask) (bits h % (mask + 1)) (bits h)) _=_
   rw [e]
   simp
  rw [e3]
  simpa using e2
theorem GS (mask:Nat):Own mask (Array.replicate (mask + 1) none) [] []:=
 ⟨by simp,rfl,List.nodup_nil,fun j h=>absurd h (by simp),fun j hj=>by simp [Array.getD],fun k h1=>absurd h1 (by simp)⟩
theorem B_ {mask:Nat}(hm:kO mask) (hs:Array Int) (hl:hs.size<=mask):∃owner G,layClean mask hs=some owner/\Own mask owner G hs.toList:=by
 obtain ⟨owner,G,e,O⟩:=xw hm hs.toList [] _ [] (GS mask) (by simpa using hl)
 refine ⟨owner,G,?_,by simpa using O⟩
 unfold layClean
 rw [<-Array.foldl_toList]
 have e':=congrArg (Option.map (·.1)) e
 exact e'
theorem GC {t:SetTable}{es:Array (Int×Value)}{mask:Nat}(hm:kO mask) (finger moves:Nat) (led plain:Bool) (hl:es.size<=mask):
  ∃t' order L',laid mask finger moves led plain (es.map (·.1))=some (t',order)/\t'.mask=mask/\t'.led=led/\t'.plain=plain/\Tab t' (order.filterMap (es[·]?)) L'/\(order.filterMap (es[·]?)).toList.Perm es.toList:=by
 obtain ⟨owner,G,e,O⟩:=B_ hm (es.map (·.1)) (by simpa using hl)
 have hlen:G.length=es.size:=by rw [O.ln];simp
 (let live:=(List.range (mask + 1)).filterMap fun j=>(owner.getD j none).map (j,·))
 have lv:∀p,p∈live↔p.1∈G/\p.2=G.idxOf p.1:=fun p=>by
  show p∈(List.range (mask + 1)).filterMap _↔_
  rw [List.mem_filterMap]
  constructor
  ·rintro ⟨j,hj,q⟩
   have hj':j<=mask:=by have:=List.mem_range.mp hj;omega
   rw [O.at_ j hj'] at q
   by_cases c:j∈G
   ·rw [if_pos c] at q
    have q:(j,G.idxOf j)=p:=by simpa using q
    subst q
    exact ⟨c,rfl⟩
   ·rw [if_neg c] at q;exact absurd q (by simp)
  ·rintro ⟨h1,h2⟩
   refine ⟨p.1,List.mem_range.mpr (by have:=O.bd _ h1;omega),?_⟩
   rw [O.at_ _ (O.bd _ h1),if_pos h1]
   show some (p.1,G.idxOf p.1)=some p
   rw [<-h2]
 have so1:live.Pairwise fun a b=>a.1 < b.1:=by
  show ((List.range (mask + 1)).filterMap _).Pairwise _
  rw [List.pairwise_filterMap]
  refine List.pairwise_lt_range.imp ?_
  intro a b hab x hx y hy
  cases q1:owner.getD a none with
  | none=>rw [q1] at hx;exact absurd hx (by simp)
  | some k1=>cases q2:owner.getD b none with
   | none=>rw [q2] at hy;exact absurd hy (by simp)
   | some k2=>
    rw [q1] at hx;rw [q2] at hy
    have hx:(a,k1)=x:=by simpa using hx
    have hy:(b,k2)=y:=by simpa using hy
    subst hx;subst hy;exact hab
 have ord:(live.map (·.2)).Perm (List.range es.size):=by
  rw [List.perm_ext_iff_of_nodup _ List.nodup_range]
  ·intro k
   rw [List.mem_map,List.mem_range]
   constructor
   ·rintro ⟨p,hp,rfl⟩
    obtain ⟨h1,h2⟩:=(lv p).mp hp
    rw [h2,<-hlen]
    exact List.idxOf_lt_length_of_mem h1
   ·intro hk
    rw [<-hlen] at hk
    exact ⟨(G[k],k),(lv _).mpr ⟨List.getElem_mem _,(O.nd.idxOf_getElem k hk).symm⟩,rfl⟩
  ·show (live.map (·.2)).Pairwise _
   rw [List.pairwise_map]
   refine (List.Pairwise.and_mem.mp so1).imp ?_
   rintro a b ⟨ha,hb,hab⟩ z
   obtain ⟨a1,a2⟩:=(lv a).mp ha
   obtain ⟨b1,b2⟩:=(lv b).mp hb
   rw [a2,b2] at z
   have ga:=List.getElem_idxOf (List.idxOf_lt_length_of_mem a1)
   have gb:=List.getElem_idxOf (List.idxOf_lt_length_of_mem b1)
   have:a.1=b.1:=by
    rw [<-ga,<-gb]
    congr 1
   omega
 have inR:∀p∈live,∃h:p.2 < es.size,True:=fun p hp=>by
  have:p.2∈live.map (·.2):=List.mem_map.mpr ⟨p,hp,rfl⟩
  exact ⟨List.mem_range.mp (ord.mem_iff.mp this),trivial⟩
 let L':=live.map fun p=>(p.1,es.getD p.2 default)
 have eL:(live.map (·.2)).toArray.filterMap (es[·]?)=(L'.map (·.2)).toArray:=by
  rw [List.filterMap_toArray]
  congr 1
  show List.filterMap _ (live.map _)=(live.map _).map _
  rw [List.filterMap_map,List.map_map]
  have:∀(l:List (Nat×Nat)),(∀p∈l,p∈live)->List.filterMap ((fun x=>es[x]?) ∘ fun x=>x.snd) l=List.map ((fun x=>x.snd) ∘ fun p=>(p.fst,es.getD p.snd default)) l:=by
   intro l
   induction l with
   | nil=>intro _;rfl
   | cons p l ih=>
    intro hl
    obtain ⟨hp,_⟩:=inR p (hl p (by simp))
    rw [List.filterMap_cons_some (b:=es.getD p.2 default)]
    ·rw [List.map_cons,ih fun q hq=>hl q (by simp [hq])]
     rfl
    ·show es[p.2]?=_
     simp [Array.getD,hp]
  exact this live fun p hp=>hp
 have eP:L'.map (·.1)=live.map (·.1):=by
  show (live.map _).map _=_
  rw [List.map_map];rfl
 have memP:∀j,j∈live.map (·.1)↔j∈G:=fun j=>by
  rw [List.mem_map]
  constructor
  ·rintro ⟨p,hp,rfl⟩;exact ((lv p).mp hp).1
  ·intro h;exact ⟨(j,G.idxOf j),(lv _).mpr ⟨h,rfl⟩,rfl⟩
 have lenL:L'.length=es.size:=by
  have:=ord.length_eq
  rw [List.length_map,List.length_range] at this
  show (live.map _).length=_
  rw [List.length_map,this]
 refine ⟨{mask,place:=(live.map (·.1)).toArray,dummies:=#[],finger,led,moves,plain},(live.map (·.2)).toArray,L',?_,rfl,rfl,rfl,⟨rfl,?_,?_,?_,fun x hx=>?_,hm,?_,fun x hx=>?_⟩,?_⟩
 ·unfold laid
  rw [e]
  rfl
 ·show (live.map (·.1)).toArray.toList=_
  rw [eP]
 ·rw [eL]
 ·rw [eP,List.pairwise_map];exact so1
 ·obtain ⟨p,hp,rfl⟩:=List.mem_map.mp hx
  exact O.bd _ ((lv p).mp hp).1
 ·show L'.length<=mask
  rw [lenL];exact hl
 ·obtain ⟨p,hp,rfl⟩:=List.mem_map.mp hx
  obtain ⟨h1,h2⟩:=(lv p).mp hp
  obtain ⟨hs,_⟩:=inR p hp
  have r:=O.pr p.2 (by omega) (by simpa using hs)
  have e1:G[p.2]'(by omega)=p.1:=by
   have:=List.getElem_idxOf (List.idxOf_lt_length_of_mem h1)
   rw [<-this]
   congr 1
  have e2:((es.map (·.1)).toList[p.2]'(by simpa using hs))=(es.getD p.2 default).1:=by
   simp [Array.getD,hs]
  rw [e1,e2] at r
  show Reach mask (L'.map (·.1)) (es.getD p.2 default).1 p.1
  refine r.mono fun y hy=>?_
  rw [eP]
  exact (memP y).mpr hy
 ·rw [eL]
  show (L'.map (·.2)).Perm es.toList
  have e1:(live.map (·.2)).map (fun k=>es.getD k default)=L'.map (·.2):=by
   show _=(live.map _).map _
   rw [List.map_map,List.map_map];rfl
  rw [<-e1]
  refine (ord.map _).trans ?_
  have:(List.range es.size).map (fun k=>es.getD k default)=es.toList:=by
   refine List.ext_getElem (by simp) fun i h1 h2=>?_
   simp at h1
   simp [Array.getD,h1]
  rw [this]
theorem uI {t:SetTable}{es:Array (Int×Value)}{w:Nat}(hm:kO (sizeAbove w - 1)) (hl:es.size<=sizeAbove w - 1):
  ∃t' order L',t.relaid (es.map (·.1)) w=some (t',order)/\t'.mask=sizeAbove w - 1/\t'.led=t.led/\t'.plain=t.plain/\Tab t' (order.filterMap (es[·]?)) L'/\(order.filterMap (es[·]?)).toList.Perm es.toList:=
 GC (t:=t) hm t.finger (t.movedTo (sizeAbove w - 1)) t.led t.plain hl
end ST
namespace DL
open PySem PySem.Spec PyProof.Rows L2
mutual
def jO:D->Nat
 | .int _=>1
 | .tup xs=>e_ xs + 1
 | _=>0
def e_:List D->Nat
 | []=>0
 | x::xs=>jO x + e_ xs
end
theorem pN:∀{ds:List D},areKeys ds=true->∀d∈ds,isKey d=true
 | [],_,_,h=>nomatch h
 | x::xs,h,d,hm=>by
  unfold areKeys at h
  rw [Bool.and_eq_true] at h
  (rcases List.mem_cons.mp hm with rfl | hm)
  ·exact h.1
  ·exact pN h.2 d hm
mutual
theorem xr:∀{d e:D},isKey d=true->isKey e=true->aZ d e=true->d=e
 | .int i,.int j,_,_,h=>by simp [aZ] at h;rw [h]
 | .tup xs,.tup ys,hd,he,h=>by
  unfold isKey at hd he
  simp only [aZ] at h
  rw [keys_eq hd he h]
 | .int _,.tup _,_,_,h=>by simp [aZ] at h
 | .tup _,.int _,_,_,h=>by simp [aZ] at h
theorem keys_eq:∀{ds es:List D},areKeys ds=true->areKeys es=true->cu ds es=true->ds=es
 | [],[],_,_,_=>rfl
 | x::xs,y::ys,hd,he,h=>by
  unfold areKeys at hd he
  rw [Bool.and_eq_true] at hd he
  simp only [cu,Bool.and_eq_true] at h
  rw [xr hd.1 he.1 h.1,keys_eq hd.2 he.2 h.2]
 | [],_::_,_,_,h=>by simp [cu] at h
 | _::_,[],_,_,h=>by simp [cu] at h
end
theorem tM {d e:D}(hd:isKey d=true) (he:isKey e=true):aZ d e=true↔d=e:=⟨xr hd he,fun h=>by rw [h];exact eu _⟩
theorem HF.keep {K:W.Frag}{J:Hp}{s s':Shared}(F:HF K J s) (k:∀b o,s.heap.get? b=some o->s'.heap.get? b=some o):HF K J s':=
 ⟨fun a xs h=>let ⟨its,r,o,ho,p⟩:=F.t a xs h;⟨its,r,o,k _ _ ho,p⟩,fun a xs h=>let ⟨its,r,o,ho,p⟩:=F.l a xs h;⟨its,r,o,k _ _ ho,p⟩,fun a h=>let ⟨o,ho,p⟩:=F.e a h;⟨o,k _ _ ho,p⟩,fun a kvs h=>let ⟨o,es,ep,ho,p⟩:=F.d a kvs h;⟨o,es,ep,k _ _ ho,p⟩⟩
section
variable {prog:Program}{w:World}{E:Value->Shared->Prop}{K:W.Frag}{J:Hp}
def Bq (prog:Program) (w:World) (A:Around) (K:W.Frag) (J:Hp) (d:D) (u:Value):Prop:=
 ∀(E:Value->Shared->Prop) (s:Shared) (Q:Int->Shared->Prop),HF K J s->Q (bN d) {s with toks:=s.toks + jO d}->wpAny (model prog w) A (pyHash u) Q E s
inductive jT (prog:Program) (w:World) (A:Around) (K:W.Frag) (J:Hp):List D->List Value->Prop
 | nil:jT prog w A K J [] []
 | cons {d:D}{u:Value}{ds:List D}{us:List Value}:Bq prog w A K J d u->jT prog w A K J ds us->jT prog w A K J (d::ds) (u::us)
theorem rL:∀(a b:List D),cO (a++b)=cO a++cO b
 | [],b=>rfl
 | x::a,b=>by show bN x::cO (a++b)=_;rw [rL a b];rfl
theorem qS:∀(a b:List D),e_ (a++b)=e_ a + e_ b
 | [],b=>by show e_ b=0 + _;omega
 | x::a,b=>by show jO x + e_ (a++b)=jO x + e_ a + e_ b;rw [qS a b];omega
theorem DR {A:Around}{s:Shared}{a:Addr}{o:Obj}{its:List Value}{n:Nat}{ds:List D}{Q:Int->Shared->Prop}(N:HF K J s) (ho:s.heap.get? a=some o) (hc:o.cls=.type "tuple") (hd:o.data=.seq its.toArray n) (hu:A.units < cLine)
  (hl:jT prog w A.in1 K J ds its) (h:Q (reduceHash (Builtin.Tuple.tupleHashOf (cO ds))) {s with toks:=s.toks + (e_ ds + 1)}):wpAny (model prog w) A (pyHash (.ref a)) Q E s:=by
 have hT:s.TypeIs (.ref a) "tuple":=⟨o,ho,hc⟩
 unfold pyHash
 (first | unfold pyHashByItsType | skip)
 (first | refine wpAny_bind (wpAny_cRoomFor_or (.inr hu) ?_) | skip)
 (refine wpAny_bind (wpAny_specialOf hT F.slot_tuple_hash.lookup ?_))
 (show wpAny _ _ (if (some (Value.builtin "tuple.__hash__") == some Value.none)=true then _ else _) Q E s)
 (rw [if_neg (by rw [beq_builtin_none];exact Bool.false_ne_true)])
 (refine wpAny_bind (wpAny_specialOf hT F.slot_tuple_hash.lookup ?_))
 (show wpAny _ _ (callSpecialIfBoundUnlessNone? (.ref a) "__hash__" _ >>= _) Q E s)
 (refine wpAny_bind (wpAny_callSpecialIfBoundUnlessNone?_slot hT F.slot_tuple_hash (wpAny_call_entry F.slot_tuple_hash hT F.entry_tuple_hash ?_ (F.args_tuple_hash_1 _))))
 (show wpAny _ _ (Builtin.Tuple.tupleItemsOf (.ref a) >>= _) _ _ s)
 (refine wpAny_bind (wpAny_tupleItemsOf ho hd ?_))
 refine wpAny_bind ?_
 rw [<-Array.forIn_toList]
 refine wpAny_forIn_list _
  (fun rest (b:Array Int) s'=>∃done left,ds=done++left/\jT prog w A.in1 K J left rest/\b.toList=cO done/\s'={s with toks:=s.toks + e_ done})
  _ ?_ ?_ _ _ ⟨[],ds,rfl,hl,rfl,rfl⟩
 ·(rintro x rest b s' ⟨done,left,rfl,hl,hb,rfl⟩)
  cases hl with
  | @cons k _ ks' _ h1 hl'=>
   refine wpAny_bind (h1 _ _ _ ⟨N.t,N.l,N.e,N.d⟩ ?_)
   have e1:(b.push (bN k)).toList=cO (done++[k]):=by rw [Array.toList_push,rL,hb];rfl
   have e2:s.toks + e_ done + jO k=s.toks + e_ (done++[k]):=by rw [qS];show _=s.toks + (e_ done + (jO k + 0));omega
   first
    | exact wpAny_pure ⟨done++[k],ks',by simp,hl',e1,by rw [e2]⟩
    | exact wpAny_bind (wpAny_pure (wpAny_pure ⟨done++[k],ks',by simp,hl',e1,by rw [e2]⟩))
 ·(rintro b s' ⟨done,left,rfl,hl,hb,rfl⟩)
  cases hl
  rw [List.append_nil] at h
  (show wpAny _ _ (retInt (Builtin.Tuple.tupleHashOf b.toList)) _ _ _)
  rw [hb]
  refine wpAny_ret_mkInt ?_
  show wpAny _ _ (if (decide (-(2:Int) ^ 63<=Builtin.Tuple.tupleHashOf (cO done)) && decide (Builtin.Tuple.tupleHashOf (cO done) < 2 ^ 63))=true then _ else _) Q E _
  unfold reduceHash at h
  by_cases hr:(decide (-(2:Int) ^ 63<=Builtin.Tuple.tupleHashOf (cO done)) && decide (Builtin.Tuple.tupleHashOf (cO done) < 2 ^ 63))=true
  ·rw [if_pos hr]
   rw [if_pos hr] at h
   (exact wpAny_pure (by simpa [Nat.add_assoc] using h))
  ·rw [if_neg hr]
   rw [if_neg hr] at h
   (exact wpAny_bind (wpAny_rule (wpAny_pure (by simpa [Nat.add_assoc] using h))))
mutual
theorem t9:∀(d:D) (v:V) (u:Value) (A:Around) (s:Shared),HF K J s->isKey d=true->Rep K J d v->RelV v u->A.units + dep d < cLine->Bq prog w A K J d u
 | .int i,v,u,A,s,N,hk,hr,rv,hu=>fun E s' Q N' h=>by
  cases hr
  obtain ⟨t,rfl⟩:=rv
  exact wpAny_pyHash_int h
 | .tup ds,v,u,A,s,N,hk,hr,rv,hu=>fun E s' Q N' h=>by
  cases hr with
  | tup h1 hs=>
   cases rv
   obtain ⟨its,r,o,ho,hc,n,hd⟩:=N'.t _ _ h1
   exact DR N' ho hc hd (by unfold dep at hu;omega) (yt ds _ _ A.in1 s N hk hs r (by rw [in1_units];unfold dep at hu;omega)) h
 | .non,v,u,A,s,N,hk,hr,rv,hu=>nomatch hk
 | .bl _,v,u,A,s,N,hk,hr,rv,hu=>nomatch hk
 | .str _,v,u,A,s,N,hk,hr,rv,hu=>nomatch hk
 | .lst _,v,u,A,s,N,hk,hr,rv,hu=>nomatch hk
 | .emp,v,u,A,s,N,hk,hr,rv,hu=>nomatch hk
 | .exn _ _ _,v,u,A,s,N,hk,hr,rv,hu=>nomatch hk
 | .dct _ _,v,u,A,s,N,hk,hr,rv,hu=>nomatch hk
theorem yt:∀(ds:List D) (vs:List V) (us:List Value) (A:Around) (s:Shared),HF K J s->areKeys ds=true->aF K J ds vs->Vals vs us->A.units + deps ds < cLine->jT prog w A K J ds us
 | [],vs,us,A,s,N,hk,hr,rv,hu=>by
  cases hr;cases rv;exact .nil
 | d::ds,vs,us,A,s,N,hk,hr,rv,hu=>by
  unfold areKeys at hk
  rw [Bool.and_eq_true] at hk
  unfold deps at hu
  cases hr with
  | cons a b=>
   cases rv with
   | cons c e=>exact .cons (t9 d _ _ A s N hk.1 a c (by omega)) (yt ds _ _ A s N hk.2 b e (by omega))
end
end
def iH (K:W.Frag) (J:Hp) (n:Nat) (u:Value):Prop:=∃d v,isKey d=true/\dep d<=n/\Rep K J d v/\RelV v u
section
variable {prog:Program}{w:World}{E:Value->Shared->Prop}{K:W.Frag}{J:Hp}{A:Around}{s:Shared}
theorem xq {n:Nat}:∀{ds:List D}{vs:List V}{us:List Value},areKeys ds=true->deps ds<=n->aF K J ds vs->Vals vs us->∀u∈us,iH K J n u
 | _,_,_,_,_,.nil,.nil=>fun u h=>nomatch h
 | d::ds,_,_,hk,hn,.cons a b,.cons c e=>fun u h=>by
  unfold areKeys at hk
  rw [Bool.and_eq_true] at hk
  unfold deps at hn
  (rcases List.mem_cons.mp h with rfl | h)
  ·exact ⟨d,_,hk.1,by omega,a,c⟩
  ·exact xq hk.2 (by omega) b e u h
theorem iH.cases' {n:Nat}{u:Value}(N:HF K J s) (h:iH K J n u):(∃i t,u=.int i t)\/∃a o its m k,u=.ref a/\s.heap.get? a=some o/\o.cls=.type "tuple"/\o.data=.seq its m/\n=k + 1/\∀y∈its.toList,iH K J k y:=by
 obtain ⟨d,v,hk,hn,hr,rv⟩:=h
 cases d with
 | int i=>
  cases hr
  obtain ⟨t,rfl⟩:=rv
  exact .inl ⟨_,_,rfl⟩
 | tup ds=>
  cases hr with
  | tup h1 hs=>
   cases rv
   obtain ⟨its,r,o,ho,hc,m,hd⟩:=N.t _ _ h1
   unfold dep at hn
   obtain ⟨k,rfl⟩:∃k,n=k + 1:=⟨n - 1,by omega⟩
   exact .inr ⟨_,o,_,m,k,rfl,ho,hc,hd,rfl,xq hk (by omega) hs r⟩
 | _=>cases hk
theorem mz:∀(n:Nat){u:Value}{Q:Bool->Shared->Prop},HF K J s->iH K J n u->Q true s->wpAny (model prog w) A (eqIsQuiet n u) Q E s
 | n,u,Q,N,hk,h=>by
  rcases hk.cases' N with ⟨i,t,rfl⟩ | ⟨a,o,its,m,k,rfl,ho,hc,hd,rfl,hi⟩
  ·rw [eqIsQuiet_byValue _ rfl]
   exact wpAny_pure h
  ·have hT:s.TypeIs (.ref a) "tuple":=⟨o,ho,hc⟩
   unfold eqIsQuiet
   (refine wpAny_bind (wpAny_specialOf hT F.slot_tuple_eq.lookup ?_))
   (show wpAny _ _ (isInstance (.ref a) (.type "tuple") >>= _) _ _ s)
   (refine wpAny_bind (wpAny_isInstance hT isSubtype_tuple_tuple ?_))
   (simp only [Bool.not_true,Bool.false_eq_true,if_false])
   (refine wpAny_bind (wpAny_seqItems ho hd ?_))
   refine wpAny_bind ?_
   show wpAny _ _ (forIn its _ _) _ _ s
   rw [<-Array.forIn_toList]
   refine wpAny_forIn_list _ (fun rest r s'=>r.1=none/\s=s'/\∀v∈rest,iH K J k v) _ ?_ ?_ _ _ ⟨rfl,rfl,hi⟩
   ·(rintro v rest r s' ⟨hr,rfl,hall⟩)
    refine wpAny_bind (mz k N (hall v List.mem_cons_self) ?_)
    (simp only [Bool.not_true,Bool.false_eq_true,if_false])
    (exact wpAny_pure ⟨rfl,rfl,fun u hu'=>hall u (List.mem_cons_of_mem _ hu')⟩)
   ·(rintro ⟨r1,r2⟩ s' ⟨hr,rfl,_⟩)
    simp only at hr
    subst hr
    exact wpAny_pure h
theorem CF:∀(n:Nat){u:Value}{Q:Bool->Shared->Prop},HF K J s->iH K J n u->Q true s->wpAny (model prog w) A (hashByValue n u) Q E s
 | n,u,Q,N,hk,h=>by
  rcases hk.cases' N with ⟨i,t,rfl⟩ | ⟨a,o,its,m,k,rfl,ho,hc,hd,rfl,hi⟩
  ·cases n <;> exact wpAny_pure h
  ·have hT:s.TypeIs (.ref a) "tuple":=⟨o,ho,hc⟩
   unfold hashByValue
   (refine wpAny_bind (wpAny_specialOf hT F.slot_tuple_hash.lookup ?_))
   show wpAny _ _ (seqItems? (.ref a) >>= _) _ _ s
   (refine wpAny_bind (wpAny_seqItems ho hd ?_))
   refine wpAny_bind ?_
   show wpAny _ _ (forIn its _ _) _ _ s
   rw [<-Array.forIn_toList]
   refine wpAny_forIn_list _ (fun rest r s'=>r.1=none/\s=s'/\∀v∈rest,iH K J k v) _ ?_ ?_ _ _ ⟨rfl,rfl,hi⟩
   ·(rintro v rest r s' ⟨hr,rfl,hall⟩)
    refine wpAny_bind (CF k N (hall v List.mem_cons_self) ?_)
    (simp only [Bool.not_true,Bool.false_eq_true,if_false])
    (exact wpAny_pure ⟨rfl,rfl,fun u hu'=>hall u (List.mem_cons_of_mem _ hu')⟩)
   ·(rintro ⟨r1,r2⟩ s' ⟨hr,rfl,_⟩)
    simp only at hr
    subst hr
    exact wpAny_pure h
theorem l_:∀(n:Nat){u:Value}{Q:Bool->Shared->Prop},HF K J s->iH K J n u->Q false s->wpAny (model prog w) A (ofAClassStatement n u) Q E s
 | n,u,Q,N,hk,h=>by
  rcases hk.cases' N with ⟨i,t,rfl⟩ | ⟨a,o,its,m,k,rfl,ho,hc,hd,rfl,hi⟩
  ·cases n <;> exact wpAny_pure h
  ·have hT:s.TypeIs (.ref a) "tuple":=⟨o,ho,hc⟩
   unfold ofAClassStatement
   (refine wpAny_bind (wpAny_typeOf hT ?_))
   dsimp only
   (refine wpAny_bind (wpAny_pure ?_))
   (simp only [Bool.not_true,Bool.false_eq_true,if_false])
   (refine wpAny_bind (wpAny_seqItems ho hd ?_))
   dsimp only
   refine wpAny_bind ?_
   show wpAny _ _ (forIn its _ _) _ _ s
   rw [<-Array.forIn_toList]
   refine wpAny_forIn_list _ (fun rest r s'=>r.1=none/\s=s'/\∀v∈rest,iH K J k v) _ ?_ ?_ _ _ ⟨rfl,rfl,hi⟩
   ·(rintro v rest r s' ⟨hr,rfl,hall⟩)
    refine wpAny_bind (l_ k N (hall v List.mem_cons_self) ?_)
    (simp only [Bool.false_eq_true,if_false])
    (exact wpAny_pure ⟨rfl,rfl,fun u hu'=>hall u (List.mem_cons_of_mem _ hu')⟩)
   ·(rintro ⟨r1,r2⟩ s' ⟨hr,rfl,_⟩)
    simp only at hr
    subst hr
    exact wpAny_pure h
theorem K4 {x:Value}{ys:List Value}{Q:Bool->Shared->Prop}(N:HF K J s) (hx:iH K J 8 x) (hy:∀y∈ys,iH K J 8 y) (h:Q false s):wpAny (model prog w) A (searchCouldBeSeen x ys) Q E s:=by
 unfold searchCouldBeSeen
 refine wpAny_bind ?_
 refine wpAny_forIn_list _ (fun rest r s'=>r.1=none/\s=s'/\∀v∈rest,iH K J 8 v) _ ?_ ?_ _ _ ⟨rfl,rfl,hy⟩
 ·(rintro v rest r s' ⟨hr,rfl,hall⟩)
  have nx:∀u∈rest,iH K J 8 u:=fun u hu'=>hall u (List.mem_cons_of_mem _ hu')
  dsimp only
  have hv:=hall v List.mem_cons_self
  split
  ·split
   ·exact wpAny_pure ⟨rfl,rfl,nx⟩
   ·refine wpAny_bind (mz 8 N hx ?_)
    (simp only [Bool.not_true,Bool.false_eq_true,if_false])
    refine wpAny_bind (mz 8 N hv ?_)
    (simp only [Bool.not_true,Bool.false_eq_true,if_false])
    refine wpAny_bind (l_ 8 N hx ?_)
    (simp only [Bool.false_eq_true,if_false])
    refine wpAny_bind (l_ 8 N hv ?_)
    (simp only [Bool.false_eq_true,if_false])
    exact wpAny_pure ⟨rfl,rfl,nx⟩
  ·split
   ·exact wpAny_pure ⟨rfl,rfl,nx⟩
   ·refine wpAny_bind (mz 8 N hx ?_)
    (simp only [Bool.not_true,Bool.false_eq_true,if_false])
    refine wpAny_bind (mz 8 N hv ?_)
    (simp only [Bool.not_true,Bool.false_eq_true,if_false])
    refine wpAny_bind (l_ 8 N hx ?_)
    (simp only [Bool.false_eq_true,if_false])
    refine wpAny_bind (l_ 8 N hv ?_)
    (simp only [Bool.false_eq_true,if_false])
    exact wpAny_pure ⟨rfl,rfl,nx⟩
 ·(rintro ⟨r1,r2⟩ s' ⟨hr,rfl,_⟩)
  simp only at hr
  subst hr
  exact wpAny_pure h
end
end DL
namespace DL
open PySem PySem.Spec PyProof.Rows L2 ST
def KV (K:W.Frag) (J:Hp) (u:Value) (d:D):Prop:=(∃a,u=.ref a)/\isKey d=true/\dep d<=8/\∃v,Rep K J d v/\RelV v u
theorem KV.key {K:W.Frag}{J:Hp}{u:Value}{d:D}(h:KV K J u d):iH K J 8 u:=let ⟨_,a,b,v,c,e⟩:=h;⟨d,v,a,b,c,e⟩
inductive fk (K:W.Frag) (J:Hp):List (Int×Value)->List D->Prop
 | nil:fk K J [] []
 | cons {h:Int}{x:Value}{d:D}{es:List (Int×Value)}{ks:List D}:h=bN d->KV K J x d->fk K J es ks->fk K J ((h,x)::es) (d::ks)
section
variable {K:W.Frag}{J:Hp}
theorem fk.length {es:List (Int×Value)}{ks:List D}(h:fk K J es ks):es.length=ks.length:=by
 induction h with
 | nil=>rfl
 | cons _ _ _ ih=>simp [ih]
theorem fk.at_ {es:List (Int×Value)}{ks:List D}(h:fk K J es ks):∀{i:Nat}{e:Int×Value},es[i]?=some e->∃d,ks[i]?=some d/\KV K J e.2 d/\e.1=bN d:=by
 induction h with
 | nil=>intro i e q;simp at q
 | @cons hh x d es ks h1 h2 _ ih=>
  intro i e q
  cases i with
  | zero=>simp at q;subst q;exact ⟨d,rfl,h2,h1⟩
  | succ i=>simp at q;obtain ⟨d',a,b⟩:=ih q;exact ⟨d',by simpa using a,b⟩
theorem fk.mem {es:List (Int×Value)}{ks:List D}(h:fk K J es ks):∀e∈es,∃d∈ks,KV K J e.2 d/\e.1=bN d:=fun e he=>by
 obtain ⟨i,hi⟩:=List.mem_iff_getElem?.mp he
 obtain ⟨d,h1,h2⟩:=h.at_ hi
 exact ⟨d,List.mem_of_getElem? h1,h2⟩
theorem fk.back {es:List (Int×Value)}{ks:List D}(h:fk K J es ks){i:Nat}{d:D}(q:ks[i]?=some d):∃e,es[i]?=some e/\KV K J e.2 d/\e.1=bN d:=by
 have hi:i < es.length:=by rw [h.length];exact (List.getElem?_eq_some_iff.mp q).1
 obtain ⟨d',h1,h2⟩:=h.at_ (List.getElem?_eq_getElem hi)
 rw [q] at h1;cases h1
 exact ⟨_,List.getElem?_eq_getElem hi,h2⟩
theorem fk.perm {es es':List (Int×Value)}(p:es.Perm es'):∀{ks:List D},fk K J es ks->∃ks',ks.Perm ks'/\fk K J es' ks':=by
 induction p with
 | nil=>intro ks h;exact ⟨ks,.refl _,h⟩
 | cons x _ ih=>
  intro ks h
  cases h with
  | cons h1 h2 h3=>obtain ⟨ks',a,b⟩:=ih h3;exact ⟨_,a.cons _,.cons h1 h2 b⟩
 | swap x y l=>
  intro ks h
  cases h with
  | cons h1 h2 h3=>cases h3 with
   | cons h4 h5 h6=>exact ⟨_,.swap _ _ _,.cons h4 h5 (.cons h1 h2 h6)⟩
 | trans _ _ ih1 ih2=>
  intro ks h
  obtain ⟨k1,a,b⟩:=ih1 h
  obtain ⟨k2,c,d⟩:=ih2 b
  exact ⟨k2,a.trans c,d⟩
end
theorem cH {t:SetTable}{es:Array (Int×Value)}{L:List (Nat×Int×Value)}(T:Tab t es L):t.fits es.size=true:=by
 have h1:t.place.size=L.length:=by rw [<-Array.length_toList,T.pl,List.length_map]
 have h2:es.size=L.length:=by rw [<-Array.length_toList,T.en,List.length_map]
 have h3:t.fill=L.length:=by unfold SetTable.fill;rw [T.dm,h1];rfl
 unfold SetTable.fits
 rw [h1,h2,h3]
 simp [T.fl]
theorem H_ {t:SetTable}{es:Array (Int×Value)}{L:List (Nat×Int×Value)}(T:Tab t es L):t.gaveWay=false:=by
 unfold SetTable.gaveWay
 rcases T.mo with h | h | h <;> rw [h] <;> rfl
section
variable {prog:Program}{w:World}{E:Value->Shared->Prop}{K:W.Frag}{J:Hp}{A:Around}{s:Shared}
theorem search {a:Addr}{o:Obj}{es:Array (Int×Value)}{ep:Nat}{t:SetTable}{L:List (Nat×Int×Value)}{ks:List D}{x:Value}{d:D}{Q:SetFound->Shared->Prop}(N:HF K J s) (ho:s.heap.get? a=some o) (hd:o.data=.set es ep t) (T:Tab t es L) (en:fk K J es.toList ks)
  (hx:KV K J x d) (hu:A.units + 8 < cLine) (n0:Nat) (hf:pos t.mask (bN d) n0∉L.map (·.1)) (hb:∀m,m < n0->pos t.mask (bN d) m∈L.map (·.1)) (hn0:n0<=10 * (t.mask + 12))
  (q1:d∈ks->Q (.there none) s) (q2:d∉ks->Q (.free (pos t.mask (bN d) n0) false) s):
  ∀(fuel n:Nat) (stand:Option SetTable.Probe),n<=n0->n0 - n < fuel->stand.getD (t.probeStart (bN d))=st t.mask (bN d) n->(∀k,k < n->∀(i:Nat) (e:Nat×Int×Value),L[i]?=some e->e.1=pos t.mask (bN d) k->ks[i]?≠some d)->
   wpAny (model prog w) A (setSearchFrom a x (bN d) true fuel stand) Q E s
 | 0,n,stand,h1,h2,h3,h4=>absurd h2 (Nat.not_lt_zero _)
 | fuel + 1,n,stand,h1,h2,h3,h4=>by
  have esL:∀i,es[i]?=(L[i]?).map (fun e:Nat×Int×Value=>e.2):=fun i=>by rw [<-Array.getElem?_toList,T.en,List.getElem?_map]
  unfold setSearchFrom
  refine wpAny_bind (wpAny_setState_of ho hd (cH T) ?_)
  dsimp only
  rw [H_ T]
  (simp only [Bool.false_eq_true,if_false])
  rw [h3]
  obtain ⟨m,m1,m2,m3,m4⟩:=xN T (fun i=>(es[i]?.map (·.1)).getD 0) (fun i e q=>by rw [q];rfl) (bN d) n0 hf hb (n0 - n) n (10 * SetTable.turns t.mask) rfl h1 (by unfold SetTable.turns;omega)
  generalize hP:SetTable.probe t _ (bN d) (st t.mask (bN d) n)=r
  rcases m4 with ⟨rfl,m4⟩ | ⟨m5,i,e,m6,m7,m8,m4⟩
  ·have:r=_:=hP.symm.trans m4
   subst this
   dsimp only
   refine wpAny_pure (q2 fun hm=>?_)
   obtain ⟨i,hi⟩:=List.mem_iff_getElem?.mp hm
   obtain ⟨e,e1,e2,e3⟩:=en.back hi
   rw [Array.getElem?_toList,esL] at e1
   obtain ⟨e',e4,rfl⟩:=Option.map_eq_some_iff.mp e1
   have hm':=List.mem_of_getElem? e4
   obtain ⟨k,k1,k2⟩:=T.pr _ hm'
   rw [e3] at k1 k2
   have kl:k < m:=by
    rcases Nat.lt_trichotomy k m with c | c | c
    ·exact c
    ·subst c;rw [k1] at hf;exact absurd (List.mem_map.mpr ⟨_,hm',rfl⟩) hf
    ·exact absurd (k2 m c) hf
   by_cases c:k < n
   ·exact h4 k c i e' e4 k1.symm hi
   ·exact m3 k (by omega) kl e' hm' k1.symm e3
  ·have:r=_:=hP.symm.trans m4
   subst this
   dsimp only
   have hei:es[i]?=some e.2:=by rw [esL,m6];rfl
   obtain ⟨d',f1,f2,f3⟩:=en.at_ (by rw [Array.getElem?_toList];exact hei)
   obtain ⟨⟨ya,g0⟩,g1,g2',v',g3,g4⟩:=id f2
   obtain ⟨_,x1,x2,v,x3,x4⟩:=id hx
   obtain ⟨j,hh,y⟩:=e
   dsimp only at g0 g4 m7 m8 hei
   subst g0
   have cmp:=lT N A g3 x3 g4 x4 (by omega) (by omega) (by omega)
   have pass:∀(k:Sem SetFound),wpAny (model prog w) A k Q E s->wpAny (model prog w) A (if (!t.led)=true then do
     let c <-searchCouldBeSeen x (List.map (fun x=>x.snd) (Array.filter (fun x=>x.fst == bN d) es).toList)
     if c=true then do unsupported "set:the-search-would-show-the-table";k else k
     else k) Q E s:=fun k hk=>by
    split
    ·refine wpAny_bind (K4 N hx.key (fun y hy=>?_) ?_)
     ·obtain ⟨e',he',rfl⟩:=List.mem_map.mp hy
      have:e'∈es.toList:=by
       rw [Array.toList_filter] at he'
       exact (List.mem_filter.mp he').1
      obtain ⟨d2,_,h2,_⟩:=en.mem e' this
      exact h2.key
     ·(simp only [Bool.false_eq_true,if_false])
      exact hk
    ·exact hk
   refine pass _ ?_
   rw [hei]
   dsimp only
   refine wpAny_bind (wpAny_holding (cmp _ _ _ _ ?_))
   refine wpAny_bind (wpAny_setState_of ho hd (cH T) ?_)
   dsimp only
   by_cases c:aZ d' d=true
   ·rw [c]
    (simp only [Bool.and_self,if_true])
    refine wpAny_pure (q1 ?_)
    rw [<-xr g1 x1 c]
    exact List.mem_of_getElem? f1
   ·rw [Bool.not_eq_true] at c
    rw [c]
    have sm:t.sameMemory t.moves t.mask=some true:=by unfold SetTable.sameMemory;simp
    have sl:t.slot (pos t.mask (bN d) m)=.live i:=oJ T.sop (by rw [<-m7];exact (T.at_ m6).1)
    rw [sm]
    simp only [Bool.and_false,Bool.false_eq_true,if_false,if_true]
    rw [sl]
    dsimp only
    rw [hei]
    dsimp only
    refine wpAny_bind (wpAny_isSame_ref_self ?_)
    simp only [if_true]
    (refine wpAny_bind (wpAny_pure ?_))
    dsimp only
    refine search N ho hd T en hx hu n0 hf hb hn0 q1 q2 fuel (m + 1) _ (by omega) (by omega) rfl fun k hk i2 e2 z1 z2 z3=>?_
    by_cases c1:k < n
    ·exact h4 k c1 i2 e2 z1 z2 z3
    ·by_cases c2:k < m
     ·obtain ⟨dd,w1,_,w3⟩:=en.at_ (i:=i2) (e:=e2.2) (by rw [Array.getElem?_toList,esL,z1];rfl)
      rw [z3] at w1;cases w1
      exact m3 k (by omega) c2 e2 (List.mem_of_getElem? z1) z2 w3
     ·obtain rfl:k=m:=by omega
      have hi2:i2=i:=by
       obtain ⟨p1,p2⟩:=List.getElem?_eq_some_iff.mp z1
       obtain ⟨p3,p4⟩:=List.getElem?_eq_some_iff.mp m6
       have sw:=List.pairwise_iff_getElem.mp T.so
       rcases Nat.lt_trichotomy i2 i with c | c | c
       ·have:=sw i2 i (by simpa using p1) (by simpa using p3) c
        simp [p2,p4] at this
        omega
       ·exact c
       ·have:=sw i i2 (by simpa using p3) (by simpa using p1) c
        simp [p2,p4] at this
        omega
      subst hi2
      rw [f1] at z3
      cases z3
      rw [eu] at c
      exact absurd c (by decide)
end
structure i7 (K:W.Frag) (J:Hp) (h:Heap) (a:Addr) (led:Bool) (ks:List D) (es:Array (Int×Value)) (ep:Nat) (t:SetTable):Prop where
 at_:h.get? a=some {cls:=.type "set",dict:=none,data:=.set es ep t}
 tab:∃L,Tab t es L
 pl:t.plain=true
 ld:t.led=led
 rm:ks.length * 5 < t.mask * 3
 en:fk K J es.toList ks
 nd:ks.Nodup
theorem BS (mask i:Nat) (h:i<=mask):i + (SetTable.runEnd mask i - i)<=mask:=by unfold SetTable.runEnd;split <;> omega
theorem FN (mask:Nat) (h:Int):∀n,(ST.st mask h n).j + (ST.st mask h n).more<=mask
 | 0=>BS mask _ (Nat.le_of_lt_succ (Nat.mod_lt _ (by omega)))
 | n + 1=>by
  have ih:=FN mask h n
  show (SetTable.advance _ (ST.st mask h n)).j + (SetTable.advance _ (ST.st mask h n)).more<=mask
  unfold SetTable.advance
  split
  ·dsimp only;omega
  ·exact BS mask _ (Nat.le_of_lt_succ (Nat.mod_lt _ (by omega)))
theorem xM (mask:Nat) (h:Int) (n:Nat):ST.pos mask h n<=mask:=by have:=FN mask h n;show (ST.st mask h n).j<=mask;omega
theorem yY:SetTable.sizeAbove 20=32:=by decide +kernel
theorem yZ:SetTable.sizeAbove 76=128:=by decide +kernel
theorem mH {t:SetTable}{es:Array (Int×Value)}{L:List (Nat×Int×Value)}(T:Tab t es L):L.length=es.size:=by rw [<-Array.length_toList,T.en,List.length_map]
section
variable {prog:Program}{w:World}{E:Value->Shared->Prop}{K:W.Frag}{J:Hp}{A:Around}{s:Shared}
theorem LN {a:Addr}{es:Array (Int×Value)}{ep:Nat}{t:SetTable}{led:Bool}{L:List (Nat×Int×Value)}{ks:List D}{Q:Unit->Shared->Prop}(ho:s.heap.get? a=some {cls:=.type "set",dict:=none,data:=.set es ep t}) (T:Tab t es L) (hp:t.plain=true) (hl:t.led=led)
  (en:fk K J es.toList ks) (nd:ks.Nodup) (W:Nat) (hW:(SetTable.sizeAbove W=32/\ks.length=5)\/(SetTable.sizeAbove W=128/\ks.length=19))
  (h:∀(h':Heap) ks' es' ep' t',Heap.SameBut a s.heap h'->ks.Perm ks'->i7 K J h' a led ks' es' ep' t'->Q () {s with heap:=h'}):wpAny (model prog w) A (setRelay a W) Q E s:=by
 have hsz:es.size=ks.length:=by rw [<-Array.length_toList,en.length]
 have hm:kO (SetTable.sizeAbove W - 1):=by rcases hW with ⟨h,_⟩ | ⟨h,_⟩ <;> rw [h];exact .inr (.inl rfl);exact .inr (.inr rfl)
 obtain ⟨t',order,L',e1,e2,e3,e4,e5,e6⟩:=uI (t:=t) (es:=es) hm (by rcases hW with ⟨h,_⟩ | ⟨h,_⟩ <;> rw [h] <;> omega)
 unfold setRelay
 refine wpAny_bind (wpAny_setState_of ho rfl (cH T) ?_)
 dsimp only
 rw [if_neg (by rw [sizeLine_eq];rcases hW with ⟨h,_⟩ | ⟨h,_⟩ <;> rw [h] <;> omega)]
 have sz':(order.filterMap (es[·]?)).size=es.size:=by
  rw [<-Array.length_toList,e6.length_eq,Array.length_toList]
 rw [e1]
 have cnd:((order.filterMap (es[·]?)).size != es.size)=false:=by rw [sz'];simp
 refine wpAny_bind (wpAny_of_eq (a:=(order.filterMap (es[·]?),t')) ?_ ?_)
 ·show (if ((order.filterMap (es[·]?)).size != es.size)=true then _ else pure (order.filterMap (es[·]?),t'))=_
  rw [cnd]
  rfl
 ·dsimp only
  obtain ⟨ks',p1,p2⟩:=en.perm e6.symm
  refine wpAny_storeSet_of ho rfl ?_ (by rw [sz',sizeLine_eq];rcases hW with ⟨_,h⟩ | ⟨_,h⟩ <;> omega)
  have hg:=Heap.get?_update_self (Obj.putSet (order.filterMap (es[·]?)) t') ho rfl
  refine h _ ks' _ _ _ (Heap.SameBut.update _ _ _) p1 ⟨hg,⟨L',e5⟩,e4.trans hp,e3.trans hl,?_,p2,p1.nodup_iff.mp nd⟩
  rw [<-p1.length_eq,e2]
  rcases hW with ⟨h,h'⟩ | ⟨h,h'⟩ <;> rw [h,h'] <;> omega
theorem Ga {a:Addr}{es:Array (Int×Value)}{ep:Nat}{t:SetTable}{led:Bool}{ks:List D}{x:Value}{d:D}{Q:Bool->Shared->Prop}(N:HF K J s) (S:i7 K J s.heap a led ks es ep t) (hx:KV K J x d) (hu:A.units + 8 < cLine) (hl:ks.length < 76)
  (q1:d∈ks->Q false s) (q2:d∉ks->∀(h':Heap) ks' es' ep' t',Heap.SameBut a s.heap h'->(d::ks).Perm ks'->i7 K J h' a led ks' es' ep' t'->Q true {s with heap:=h'}):
  wpAny (model prog w) A (setAddHashed a x (bN d)) Q E s:=by
 obtain ⟨L,T⟩:=S.tab
 have lenL:L.length=ks.length:=by rw [mH T,<-Array.length_toList,S.en.length]
 obtain ⟨n0,b1,b2,b3⟩:=qY T.mo (bN d) (L.map (·.1)) (by rw [List.length_map];exact T.fl)
 have hj:pos t.mask (bN d) n0<=t.mask:=xM _ _ _
 (unfold setAddHashed setAddHashedIn)
 refine wpAny_holding (wpAny_bind (wpAny_setState_of S.at_ rfl (cH T) ?_))
 dsimp only
 have ns:byScan x es=false:=by
  obtain ⟨⟨xa,rfl⟩,_⟩:=hx
  rfl
 rw [ns]
 (simp only [Bool.false_eq_true,if_false])
 unfold setSearch
 refine wpAny_bind (search N S.at_ rfl T S.en hx hu n0 b2 b3 b1 (fun hm=>?_) (fun hm=>?_) 100000 0 none (Nat.zero_le _) (by rcases T.mo with h | h | h <;> rw [h] at b1 <;> omega) rfl (fun k hk=>absurd hk (Nat.not_lt_zero _)))
 ·exact wpAny_pure (q1 hm)
 ·dsimp only
  refine wpAny_bind (wpAny_setState_of S.at_ rfl (cH T) ?_)
  dsimp only
  obtain ⟨L',T',pm⟩:=T.put (bN d) x n0 b2 b3 hj (by have:=S.rm;rcases T.mo with h | h | h <;> rw [h] at this <;> omega)
  have fl:(t.put (pos t.mask (bN d) n0)).1.mask=t.mask/\(t.put (pos t.mask (bN d) n0)).1.plain=t.plain/\(t.put (pos t.mask (bN d) n0)).1.led=t.led:=⟨rfl,rfl,rfl⟩
  generalize t.put (pos t.mask (bN d) n0)=tp at T' fl ⊢
  obtain ⟨t',p⟩:=tp
  dsimp only at T' fl ⊢
  obtain ⟨f1,f2,f3⟩:=fl
  have en':∃ks',(d::ks).Perm ks'/\fk K J (SetTable.insertAt es p (bN d,x)).toList ks':=by
   refine fk.perm (es:=(bN d,x)::es.toList) ?_ (.cons rfl hx S.en)
   rw [T'.en,T.en]
   have:=pm.map (·.2)
   exact this.symm
  obtain ⟨ks',p1,p2⟩:=en'
  have nd':ks'.Nodup:=p1.nodup_iff.mp (List.nodup_cons.mpr ⟨hm,S.nd⟩)
  have lk:ks'.length=ks.length + 1:=by rw [<-p1.length_eq];rfl
  rw [f2,S.pl]
  simp only [if_true]
  refine wpAny_bind (CF 8 N hx.key ?_)
  simp only [if_true]
  have esz:(SetTable.insertAt es p (bN d,x)).size=ks'.length:=by rw [<-Array.length_toList,p2.length]
  refine wpAny_bind (wpAny_storeSet_of S.at_ rfl ?_ (by rw [esz,sizeLine_eq];omega))
  have hg:=Heap.get?_update_self (Obj.putSet (SetTable.insertAt es p (bN d,x)) t') S.at_ rfl
  have hfill:t'.fill=ks'.length:=by
   unfold SetTable.fill
   rw [T'.dm,<-Array.length_toList,T'.pl,List.length_map,mH T',esz]
   rfl
  have hes:es.size=ks.length:=by rw [<-Array.length_toList,S.en.length]
  split
  ·rename_i c
   simp only [Bool.not_false,Bool.true_and] at c
   unfold SetTable.tooFull at c
   rw [hfill,f1,decide_eq_true_eq] at c
   have rm:=S.rm
   refine wpAny_bind (LN (s:={s with heap:=s.heap.update a (Obj.putSet (SetTable.insertAt es p (bN d,x)) t')}) hg T' (f2.trans S.pl) (f3.trans S.ld) p2 nd' _ ?_ fun h' ks2 es2 ep2 t2 g1 g2' g3=>?_)
   ·rw [hes]
    unfold SetTable.grown
    rw [if_neg (by omega)]
    rcases T.mo with h | h | h
    ·rw [h] at c rm
     have:ks.length + 1=5:=by omega
     rw [this]
     exact .inl ⟨yY,by omega⟩
    ·rw [h] at c rm
     have:ks.length + 1=19:=by omega
     rw [this]
     exact .inr ⟨yZ,by omega⟩
    ·rw [h] at c;omega
   ·exact wpAny_pure (q2 hm h' ks2 es2 ep2 t2 ((Heap.SameBut.update _ _ _).trans g1) (p1.trans g2') g3)
  ·rename_i c
   simp only [Bool.not_false,Bool.true_and] at c
   unfold SetTable.tooFull at c
   rw [hfill,f1,decide_eq_true_eq] at c
   exact wpAny_pure (q2 hm _ ks' _ _ _ (Heap.SameBut.update _ _ _) p1 ⟨hg,⟨L',T'⟩,f2.trans S.pl,f3.trans S.ld,by rw [f1];omega,p2,nd'⟩)
end
theorem i7.keep {K:W.Frag}{J:Hp}{h h':Heap}{a:Addr}{led:Bool}{ks:List D}{es:Array (Int×Value)}{ep:Nat}{t:SetTable}(S:i7 K J h a led ks es ep t) (e:∀o,h.get? a=some o->h'.get? a=some o):i7 K J h' a led ks es ep t:=
 ⟨e _ S.at_,S.tab,S.pl,S.ld,S.rm,S.en,S.nd⟩
section
variable {prog:Program}{w:World}{A:Around}{R:Result->Shared->Prop}{I:Addr}{fp wr:List Addr}{G:Array GenState->Array GenState->Prop}{n:Nat}{P:Nat->Value->Prop}{St:Nat->Shared->Prop}{K:W.Frag}{J:Hp}
theorem E_ (W:WalksS prog w A.in1 I fp wr G n P St) (S:Addr) (hSf:S∉fp) (val:Nat->D) (hval:∀i v,P i v->KV K J v (val i)){s0:Shared}(N0:HF K J s0) (hnew:∀b∈S::wr,s0.heap.get? b=none) (hu:A.in1.units + 8 < cLine) (hn:n<=76){led:Bool}:
  ∀(k i:Nat) (s:Shared) (ks:List D) (es:Array (Int×Value)) (ep:Nat) (t:SetTable),n - i=k->i<=n->St i s->(∀b o,s0.heap.get? b=some o->s.heap.get? b=some o)->i7 K J s.heap S led ks es ep t->(∀d,d∈ks↔d∈(List.range i).map val)->
   (∀s' ks' es' ep' t',Moved (S::wr) G s s'->i7 K J s'.heap S led ks' es' ep' t'->(∀d,d∈ks'↔d∈(List.range n).map val)->R (.ok (.ret .none)) s')->
   (codeAny (model prog w) A (.builtin "set.update.loop" ⟨[.ref S,.ref I],[]⟩) R s):=by
 (have NW:S∉wr:=fun h=>hSf (W.sub _ h))
 (have hsub:∀b∈wr,b∈S::wr:=fun b hb=>List.mem_cons_of_mem _ hb)
 have old:∀b o,s0.heap.get? b=some o->b∉S::wr:=fun b o e hm=>by rw [hnew b hm] at e;cases e
 intro k
 induction k with
 | zero=>
  intro i s ks es ep t hk hi hst hb hS hm hR
  have hin:i=n:=by omega
  subst hin
  refine codeAny_builtin PyProof.Rows.F.entry_set_update_loop ?_
  rw [Around.under_plainId PyProof.Rows.F.plain_set_update_loop _]
  (show wpAny _ A.in1 (pyNext (.ref I) >>= _) _ _ s)
  refine wpAny_bind (W.done s _ _ hst fun s' Ny=>?_)
  (show wpAny _ A.in1 (ret Value.none) _ _ s')
  exact wpAny_pure (hR s' ks es ep t (Ny.mono hsub) (hS.keep fun o e=>Ny.heap S o NW e) hm)
 | succ k ih=>
  intro i s ks es ep t hk hi hst hb hS hm hR
  have hlt:i < n:=by omega
  have hlen:ks.length<=i:=by
   have:=List.Nodup.length_le_of_subset hS.nd (fun d hd=>(hm d).mp hd)
   simpa using this
  refine codeAny_builtin PyProof.Rows.F.entry_set_update_loop ?_
  rw [Around.under_plainId PyProof.Rows.F.plain_set_update_loop _]
  (show wpAny _ A.in1 (pyNext (.ref I) >>= _) _ _ s)
  refine wpAny_bind (W.item i s _ _ hlt hst fun v s' hP NF Ny=>?_)
  have hx:=hval i v hP
  obtain ⟨_,x1,x2,vv,x3,x4⟩:=id hx
  have hS':=hS.keep (h':=s'.heap) fun o e=>Ny.heap S o NW e
  have hb':∀b o,s0.heap.get? b=some o->s'.heap.get? b=some o:=fun b o e=>Ny.heap b o (fun hm=>old b o e (hsub b hm)) (hb b o e)
  have N':HF K J s':=N0.keep hb'
  have mem':∀(ks':List D),(∀d,d∈ks'↔d=val i\/d∈ks)->∀d,d∈ks'↔d∈(List.range (i + 1)).map val:=fun ks' h d=>by
   rw [h d,hm d,List.range_succ,List.map_append,List.mem_append]
   simp only [List.map_cons,List.map_nil,List.mem_singleton]
   exact Or.comm
  show wpAny _ A.in1 (holding [v] (setAdd S v) >>= _) _ _ s'
  (refine wpAny_bind (wpAny_holding ?_))
  unfold setAdd
  refine wpAny_holding ?_
  refine wpAny_bind (t9 (val i) vv v A.in1 s' N' x1 x3 x4 (by omega) _ _ _ N' ?_)
  refine Ga (s:={s' with toks:=s'.toks + jO (val i)}) (⟨N'.t,N'.l,N'.e,N'.d⟩:HF K J {s' with toks:=s'.toks + jO (val i)}) hS' hx hu (by omega) (fun hin=>?_) (fun hin h' ks' es' ep' t' NV Ow N8=>?_)
  ·refine wpAny_pure ⟨plainId_quiet PyProof.Rows.F.plain_set_update_loop _,ih (i + 1) _ ks es ep t (by omega) hlt (W.frame _ s' _ _ NF (Nat.le_add_right _ _) fun b hb o e=>e) hb' hS' (mem' ks fun d=>⟨.inr,fun h=>h.elim (fun h=>h▸hin) id⟩) fun s'' ks'' es'' ep'' t'' hm'' hS'' NH=>?_⟩
   exact hR s'' ks'' es'' ep'' t'' (Moved.trans W.gtrans ((Ny.mono hsub).then_heap (Nat.le_add_right _ _) fun b o hb e=>e) hm'') hS'' NH
  ·refine wpAny_pure ⟨plainId_quiet PyProof.Rows.F.plain_set_update_loop _,ih (i + 1) _ ks' es' ep' t' (by omega) hlt (W.frame _ s' _ _ NF (Nat.le_add_right _ _) fun b hb o e=>?_) (fun b o e=>?_) N8 (mem' ks' fun d=>?_) fun s'' ks'' es'' ep'' t'' hm'' hS'' NH=>?_⟩
   ·(rw [NV.2 b (fun h:b=S=>hSf (by rw [<-h];exact hb))];exact e)
   ·show h'.get? b=some o
    rw [NV.2 b (fun h:b=S=>old b o e (by rw [h];exact List.mem_cons_self))]
    exact hb' b o e
   ·rw [<-Ow.mem_iff,List.mem_cons]
   ·refine hR s'' ks'' es'' ep'' t'' (Moved.trans W.gtrans ((Ny.mono hsub).then_heap (Nat.le_add_right _ _) fun b o hb e=>?_) hm'') hS'' NH
    (rw [NV.2 b (fun h:b=S=>hb (by rw [h];exact List.mem_cons_self))];exact e)
end
theorem Ba {K:W.Frag}{J:Hp}{h:Heap}{a:Addr}{led:Bool}(e:h.get? a=some {cls:=.type "set",dict:=none,data:=.set #[] 0 (.fresh 0 0 led)}):i7 K J h a led [] #[] 0 (.fresh 0 0 led):=
 ⟨e,⟨[],⟨rfl,rfl,rfl,List.Pairwise.nil,(fun _ h=>nomatch h),.inl rfl,Nat.zero_le _,(fun _ h=>nomatch h)⟩⟩,rfl,rfl,(show 0 * 5 < 7 * 3 by decide),.nil,List.nodup_nil⟩
end DL
namespace ST
open PySem PySem.SetTable
theorem wH {xs:Array Nat}{i j:Nat}(hs:xs.toList.Pairwise (· < ·)) (hi:i<=xs.size) (h1:∀k,k < i->xs.getD k 0 < j) (h2:∀k,i<=k->k < xs.size->j<=xs.getD k 0):below xs j=i:=by
 obtain ⟨b1,b2,b3⟩:=mQ xs j hs
 rcases Nat.lt_trichotomy (below xs j) i with c | c | c
 ·have:=h1 _ c
  have:=b3 _ (Nat.le_refl _) (by omega)
  omega
 ·exact c
 ·have:=b2 _ c
  have:=h2 i (Nat.le_refl _) (by omega)
  omega
theorem Ao {xs:Array Nat}(hs:xs.toList.Pairwise (· < ·)):below xs 0=0:=wH hs (Nat.zero_le _) (fun k h=>absurd h (Nat.not_lt_zero _)) fun k _ _=>Nat.zero_le _
theorem An {xs:Array Nat}{i j:Nat}(hs:xs.toList.Pairwise (· < ·)) (h:xs[i]?=some j):below xs (j + 1)=i + 1:=by
 obtain ⟨hi,e⟩:=Array.getElem?_eq_some_iff.mp h
 have sw:=List.pairwise_iff_getElem.mp hs
 have gd:∀k (hk:k < xs.size),xs.getD k 0=xs[k]:=fun k hk=>by simp [Array.getD,hk]
 refine wH hs (by omega) (fun k hk=>?_) (fun k h1 h2=>?_)
 ·rw [gd k (by omega)]
  by_cases c:k=i
  ·subst c;omega
  ·have:=sw k i (by simp;omega) (by simpa using hi) (by omega)
   simp at this
   omega
 ·rw [gd k h2]
  have:=sw i k (by simpa using hi) (by simpa using h2) (by omega)
  simp at this
  omega
theorem uB {α:Type}(next:Nat->Nat):∀(f k:Nat) (left:List α) (out:Array α),f=left.length->(pickOrder.go next f k left out).toList.Perm (out.toList++left)
 | 0,k,left,out,h=>by
  have:left=[]:=List.length_eq_zero_iff.mp h.symm
  subst this
  unfold pickOrder.go
  simp
 | f + 1,k,left,out,h=>by
  have hl:next k % left.length < left.length:=Nat.mod_lt _ (by omega)
  unfold pickOrder.go
  rw [List.getElem?_eq_getElem hl]
  dsimp only
  refine (uB next f (k + 1) _ _ (by rw [List.length_eraseIdx];simp [hl];omega)).trans ?_
  rw [Array.toList_push,List.append_assoc]
  (refine List.Perm.append_left _ ?_)
  have e1:left.eraseIdx (next k % left.length)=left.take (next k % left.length)++left.drop (next k % left.length + 1):=List.eraseIdx_eq_take_drop_succ _ _
  have e2:left=left.take (next k % left.length)++left[next k % left.length]::left.drop (next k % left.length + 1):=by
   rw [List.getElem_cons_drop,List.take_append_drop]
  rw [e1,List.singleton_append]
  exact (List.perm_middle.symm).trans (List.Perm.of_eq e2.symm)
theorem AS {α:Type}(next:Nat->Nat) (xs:Array α):(pickOrder next xs).toList.Perm xs.toList:=by
 have h:=uB next xs.size 0 xs.toList #[] (by simp)
 rw [show (#[]:Array α).toList++xs.toList=xs.toList from rfl] at h
 exact h
end ST
namespace DL
open PySem PySem.Spec PyProof.Rows L2 ST
structure i8 (h:Heap) (a:Addr) (led:Bool) (es:Array (Int×Value)) (ep:Nat) (t:SetTable):Prop where
 at_:h.get? a=some {cls:=.type "set",dict:=none,data:=.set es ep t}
 tab:∃L,Tab t es L
 pl:t.plain=true
 ld:t.led=led
theorem i8.keep {h h':Heap}{a:Addr}{led:Bool}{es:Array (Int×Value)}{ep:Nat}{t:SetTable}(S:i8 h a led es ep t) (e:∀o,h.get? a=some o->h'.get? a=some o):i8 h' a led es ep t:=⟨e _ S.at_,S.tab,S.pl,S.ld⟩
theorem i7.wk {K:W.Frag}{J:Hp}{h:Heap}{a:Addr}{led:Bool}{ks:List D}{es:Array (Int×Value)}{ep:Nat}{t:SetTable}(S:i7 K J h a led ks es ep t):i8 h a led es ep t:=⟨S.at_,S.tab,S.pl,S.ld⟩
abbrev kZ (w:World):Bool:=!w.params.followText "set-order"
def fN (w:World) (a ep:Nat) (es:Array (Int×Value)):Array (Int×Value):=if w.params.followText "set-order"=true then pickOrder (w.params.setOrder a ep) es else es
theorem lK (w:World) (a ep:Nat) (es:Array (Int×Value)):(fN w a ep es).toList.Perm es.toList:=by
 unfold fN
 split
 ·exact AS _ _
 ·exact .refl _
theorem lM (w:World) (a ep:Nat) (es:Array (Int×Value)):(fN w a ep es).size=es.size:=by
 rw [<-Array.length_toList,(lK w a ep es).length_eq,Array.length_toList]
abbrev nK (a:Addr) (slot i n ep:Nat):Obj:={cls:=.type "set_iterator",data:=.fields #[.int slot 0,.int i 0,.ref a,.int n 0,.int ep 0]}
theorem qT:entryFor table "set.__iter__"=some Builtin.«frozenset.__iter__»:=
 (entryFor_alias (id':="frozenset.__iter__") (by kernel_rfl) rfl (by decide +kernel) (by kernel_rfl))
theorem fL:Slot "set_iterator" "__next__" "set_iterator.__next__":=
 (.of (owner:="set_iterator") (n:="__next__") (by rw [typeLookup_type,builtinLookup_eq_fast];kernel_rfl) (by decide +kernel) (by decide +kernel) (by decide +kernel)
  (by first | exact .inl (by decide +kernel) | exact .inr (by decide +kernel)) (by rw [isSubtype_type];kernel_rfl))
theorem nF:entryFor table "set_iterator.__next__"=some Builtin.«set_iterator.__next__»:=(entryFor_of_tree (by kernel_rfl))
theorem nU (a:Value):argsOk "set_iterator.__next__" ⟨[a],[]⟩:=by unfold argsOk;kernel_rfl
section
variable {prog:Program}{w:World}{A:Around}{E:Value->Shared->Prop}{s:Shared}
theorem DW {a:Addr}{led:Bool}{es:Array (Int×Value)}{ep:Nat}{t:SetTable}{Q:Value->Shared->Prop}(S:i8 s.heap a led es ep t)
  (hQ:Q (.ref s.heap.objs.size) {s with heap:=s.heap.push (nK a 0 0 es.size ep)}):wpAny (model prog w) A (pyIter (.ref a)) Q E s:=by
 obtain ⟨L,T⟩:=S.tab
 have hT:s.TypeIs (.ref a) "set":=⟨_,S.at_,rfl⟩
 refine wpAny_pyIter_slot hT F.slot_set_iter (wpAny_call_entry F.slot_set_iter hT qT ?_ (F.args_set_iter_1 _))
 show wpAny _ _ (Builtin.Frozenset.sizeOf a >>= _) _ _ s
 unfold Builtin.Frozenset.sizeOf
 refine wpAny_bind (wpAny_bind (wpAny_setEntries_of S.at_ rfl (cH T) (wpAny_pure ?_)))
 unfold setDrawn setsByText
 refine wpAny_bind (wpAny_bind (wpAny_setState_of S.at_ rfl (cH T) (wpAny_bind (wpAny_bind (wpAny_askSetting (wpAny_pure (wpAny_pure ?_)))))))
 dsimp only
 split
 ·rename_i c
  have c:(!w.params.followText "set-order" && (!t.plain && decide (es.size > 1)))=true:=c
  rw [S.pl] at c
  simp at c
 ·(refine wpAny_bind (wpAny_pure ?_))
  refine wpAny_bind (wpAny_setEpoch_of S.at_ rfl (cH T) ?_)
  (refine wpAny_bind (wpAny_newObj_type ?_))
  exact wpAny_pure ⟨_,rfl,"set_iterator",_,⟨_,Heap.get?_push_size _ rfl,rfl⟩,fL.lookup,hQ⟩
theorem yd {a:Addr}{es:Array (Int×Value)}{ep:Nat}{t:SetTable}{slot i:Nat}{Q:Option (Value×Nat)->Shared->Prop}(S:i8 s.heap a (kZ w) es ep t) (hb:w.params.followText "set-order"=false->SetTable.below t.place slot=i)
  (q1:∀e slot',(fN w a ep es)[i]?=some e->(w.params.followText "set-order"=false->SetTable.below t.place slot'=i + 1)->Q (some (e.2,slot')) s) (q2:(fN w a ep es)[i]?=none->Q none s):
  wpAny (model prog w) A (setNext a slot i ep) Q E s:=by
 obtain ⟨L,T⟩:=S.tab
 unfold setNext setsByText
 refine wpAny_bind (wpAny_setState_of S.at_ rfl (cH T) ?_)
 dsimp only
 (refine wpAny_bind (wpAny_bind (wpAny_askSetting (wpAny_pure ?_))))
 dsimp only
 cases bt:w.params.followText "set-order" with
 | true=>
  rw [show (model prog w).w.params.followText "set-order"=true from bt]
  simp only [if_true,bne_self_eq_false,Bool.false_eq_true,if_false]
  unfold setWalk setsByText
  refine wpAny_bind (wpAny_bind (wpAny_setState_of S.at_ rfl (cH T) ?_))
  dsimp only
  (refine wpAny_bind (wpAny_bind (wpAny_askSetting (wpAny_pure ?_))))
  dsimp only
  rw [show (model prog w).w.params.followText "set-order"=true from bt]
  simp only [if_true]
  refine wpAny_bind (wpAny_askSetting (wpAny_pure ?_))
  dsimp only
  have ew:fN w a ep es=pickOrder ((model prog w).w.params.setOrder a ep) es:=by unfold fN;rw [if_pos bt];rfl
  rw [ew] at q1 q2
  cases q:(pickOrder ((model prog w).w.params.setOrder a ep) es)[i]? with
  | none=>exact wpAny_pure (q2 q)
  | some e=>exact wpAny_pure (q1 e slot q fun z=>absurd (bt.symm.trans z) (by decide))
 | false=>
  rw [show (model prog w).w.params.followText "set-order"=false from bt]
  (simp only [Bool.false_eq_true,if_false])
  have ew:fN w a ep es=es:=by unfold fN;rw [if_neg (by rw [bt];decide)]
  rw [ew] at q1 q2
  have Ol:t.led=true:=by rw [S.ld];show (!w.params.followText "set-order")=true;rw [bt];rfl
  split
  ·rename_i c
   have c:(!t.plain && decide (es.size > 1))=true:=c
   rw [S.pl] at c
   simp at c
  ·refine wpAny_bind (wpAny_of_eq (a:=()) ?_ ?_)
   ·show (if (!t.led && !es.isEmpty)=true then _ else pure ())=pure ()
    rw [Ol]
    rfl
   ·rw [hb bt]
    cases q:es[i]? with
    | none=>exact wpAny_pure (q2 q)
    | some e=>
     have hlen:i < t.place.size:=by
      have h1:=(Array.getElem?_eq_some_iff.mp q).1
      have h2:t.place.size=es.size:=by rw [<-Array.length_toList,T.pl,List.length_map,mH T]
      omega
     have ep':t.place[i]?=some t.place[i]:=Array.getElem?_eq_getElem hlen
     rw [ep']
     exact wpAny_pure (q1 e _ q fun _=>An T.sop ep')
theorem Ed {I a:Addr}{es:Array (Int×Value)}{ep:Nat}{t:SetTable}{slot i:Nat}{Q:Option Value->Shared->Prop}(hne:a≠I) (S:i8 s.heap a (kZ w) es ep t) (hI:s.heap.get? I=some (nK a slot i es.size ep)) (hb:w.params.followText "set-order"=false->SetTable.below t.place slot=i) (hi:i < es.size)
  (hQ:∀h' slot' e,(fN w a ep es)[i]?=some e->h'.get? I=some (nK a slot' (i + 1) es.size ep)->(w.params.followText "set-order"=false->SetTable.below t.place slot'=i + 1)->Heap.SameBut I s.heap h'->Q (some e.2) {s with heap:=h'}):
  wpAny (model prog w) A (pyNext (.ref I)) Q E s:=by
 obtain ⟨L,T⟩:=S.tab
 have hT:s.TypeIs (.ref I) "set_iterator":=⟨_,hI,rfl⟩
 unfold pyNext
 refine wpAny_bind (wpAny_attempt (wpAny_callSpecial?_slot (name:=Str.ofString "__next__") hT fL (wpAny_call_entry fL hT nF ?_ (nU _))))
 show wpAny _ _ (fieldsOf (.ref I) >>= _) _ _ s
 refine wpAny_bind (wpAny_fieldsOf hI rfl ?_)
 dsimp only
 refine wpAny_bind (wpAny_setEntries_of S.at_ rfl (cH T) ?_)
 simp only [bne_self_eq_false,Bool.false_eq_true,if_false,Int.toNat_natCast]
 refine wpAny_bind (yd S hb (fun e slot' q1 q2=>?_) fun q=>?_)
 ·dsimp only
  refine wpAny_bind (wpAny_setField_rec hI (by simp) fun h1 g1 b1=>?_)
  refine wpAny_bind (wpAny_setField_rec (s:={s with heap:=h1}) g1 (by simp) fun h2 g2' b2=>?_)
  exact wpAny_pure ⟨_,rfl,wpAny_pure (hQ h2 slot' e q1 (g2'.trans (by simp [rawInt])) q2 (b1.trans b2))⟩
 ·exfalso
  have:=(Array.getElem?_eq_none_iff.mp q)
  rw [lM] at this
  omega
theorem Gp {I a:Addr}{es:Array (Int×Value)}{ep:Nat}{t:SetTable}{slot:Nat}{Q:Option Value->Shared->Prop}(hh:A.handled=none) (S:i8 s.heap a (kZ w) es ep t) (hI:s.heap.get? I=some (nK a slot es.size es.size ep)) (hb:w.params.followText "set-order"=false->SetTable.below t.place slot=es.size)
  (hQ:∀h',Heap.ExtBut I s.heap h'->Q none {s with heap:=h'}):wpAny (model prog w) A (pyNext (.ref I)) Q E s:=by
 obtain ⟨L,T⟩:=S.tab
 have hT:s.TypeIs (.ref I) "set_iterator":=⟨_,hI,rfl⟩
 unfold pyNext
 refine wpAny_bind (wpAny_attempt (wpAny_callSpecial?_slot (name:=Str.ofString "__next__") hT fL (wpAny_call_entry fL hT nF ?_ (nU _))))
 show wpAny _ _ (fieldsOf (.ref I) >>= _) _ _ s
 refine wpAny_bind (wpAny_fieldsOf hI rfl ?_)
 dsimp only
 refine wpAny_bind (wpAny_setEntries_of S.at_ rfl (cH T) ?_)
 simp only [bne_self_eq_false,Bool.false_eq_true,if_false,Int.toNat_natCast]
 refine wpAny_bind (yd S hb (fun e slot' q1 q2=>?_) fun q=>?_)
 ·exfalso
  have:=(Array.getElem?_eq_some_iff.mp q1).1
  rw [lM] at this
  omega
 ·dsimp only
  refine wpAny_bind (wpAny_setField_rec hI (by simp) fun h1 g1 b1=>?_)
  refine wpAny_bind ?_
  simp only [newExc,newTuple]
  (refine wpAny_bind (wpAny_newObj_type ?_ (by size_fits)))
  (refine wpAny_bind (m:=firstArgMember _ _) (wpAny_of_eq (a:=Value.none) (by first | rfl | (simp only [firstArgMember];rfl)) ?_))
  (refine wpAny_newObj_type ?_ (by size_fits))
  simp only [raiseNew]
  (refine wpAny_bind (wpAny_handled ?_))
  (first | rw [show A.in1.handled=none from hh] | rw [hh])
  (refine wpAny_bind (wpAny_pure (wpAny_throw ?_)))
  (refine wpAny_bind (wpAny_isInstance (T:="StopIteration") (b:=true) ⟨_,Heap.get?_push_size _ rfl,rfl⟩ isSubtype_stop ?_))
  exact wpAny_pure (hQ _ ((b1.extBut.push _).push _))
end
theorem vC:typeLookup (.type "set") "__len__"=pure (some (.builtin "set.__len__")):=by rw [typeLookup_type,builtinLookup_eq_fast];kernel_rfl
theorem Dk {M:Model}{A:Around}{E:Value->Shared->Prop}{s:Shared}{α:Type}{c:Prop} [Decidable c] {m1 m2:Sem α}{Q:α->Shared->Prop}(hc:c) (h:wpAny M A m1 Q E s):wpAny M A (if c then m1 else m2) Q E s:=by rw [if_pos hc];exact h
theorem DT {prog:Program}{w:World}{A:Around}{E:Value->Shared->Prop}{s:Shared}{a:Addr}{Q:Bool->Shared->Prop}(hT:s.TypeIs (.ref a) "set") (hQ:Q false s):wpAny (model prog w) A (Builtin.List.listLengthHint (.ref a)) Q E s:=by
 have sp:splitId "set.__len__"=some ("set","__len__"):=by decide +kernel
 (unfold Builtin.List.listLengthHint)
 refine wpAny_bind (wpAny_specialOf hT vC ?_)
 dsimp -zeta only
 rw [sp]
 dsimp -zeta only
 refine wpAny_bind (m:=isInstance (.ref a) (.type "set")) (wpAny_isInstance hT sub_set_self ?_)
 (show wpAny _ _ (if (!true)=true then _ else _) _ _ _)
 rw [if_neg (by decide)]
 refine Dk (by decide +kernel) ?_
 (refine wpAny_bind (wpAny_typeOf hT ?_))
 exact wpAny_pure hQ
theorem oK:Slot "set_iterator" "__iter__" "set_iterator.__iter__":=
 ((.of (owner:="set_iterator") (n:="__iter__") (by rw [typeLookup_type,builtinLookup_eq_fast];kernel_rfl) (by decide +kernel) (by decide +kernel) (by decide +kernel)
  ((by first | exact .inl (by decide +kernel) | exact .inr (by decide +kernel))) (by rw [isSubtype_type];kernel_rfl)))
theorem vj:entryFor table "set_iterator.__iter__"=some Builtin.«dict_keyiterator.__iter__»:=
 (entryFor_alias (id':="dict_keyiterator.__iter__") (by kernel_rfl) rfl (by decide +kernel) (by kernel_rfl))
theorem wF (a:Value):argsOk "set_iterator.__iter__" ⟨[a],[]⟩:=by unfold argsOk;kernel_rfl
section
variable {prog:Program}{w:World}{A:Around}{E:Value->Shared->Prop}{s:Shared}
def iF (w:World) (a ep:Nat) (es:Array (Int×Value)):List Value:=(fN w a ep es).toList.map (·.2)
theorem Dj (hh:A.handled=none) (I a:Addr) (hne:a≠I){es:Array (Int×Value)}{ep:Nat}{t:SetTable}:
  Walks prog w A I [I,a] [I] es.size (fun i v=>(iF w a ep es)[i]?=some v) (fun i h=>∃slot,h.get? I=some (nK a slot i es.size ep)/\i8 h a (kZ w) es ep t/\(w.params.followText "set-order"=false->SetTable.below t.place slot=i)) where
 sub:=fun _ hb=>by simp at hb;simp [hb]
 frame:=fun _ _ _ ⟨slot,h1,h2,h3⟩ hk=>⟨slot,hk I (by simp) _ h1,h2.keep fun o e=>hk a (by simp) o e,h3⟩
 item:=fun i s Q E hi ⟨slot,h1,h2,h3⟩ hQ=>by
  refine Ed hne h2 h1 h3 hi fun h' slot' e q1 q2 q3 q4=>?_
  refine hQ e.2 h' s.toks ?_ ⟨slot',q2,h2.keep fun o e=>?_,q3⟩ fun b o hb e=>?_
  ·unfold iF;rw [List.getElem?_map,Array.getElem?_toList,q1];rfl
  ·rw [q4.2 a hne];exact e
  ·exact q4.extBut b o (fun h=>hb (by simp [h])) e
 done:=fun s Q E ⟨slot,h1,h2,h3⟩ hQ=>Gp hh h2 h1 h3 fun h' he=>hQ h' s.toks fun b o hb e=>he b o (fun h=>hb (by simp [h])) e
 self:=fun i s Q E ⟨slot,h1,h2,h3⟩ hQ=>by
  have hT:s.TypeIs (.ref I) "set_iterator":=⟨_,h1,rfl⟩
  refine wpAny_pyIter_slot hT oK (wpAny_call_entry oK hT vj ?_ (wF _))
  show wpAny _ _ (ret (.ref I)) _ _ s
  exact wpAny_pure ⟨_,rfl,"set_iterator",_,hT,fL.lookup,hQ⟩
theorem yJ {a:Addr}{es:Array (Int×Value)}{ep:Nat}{t:SetTable}{Q:List Value->Shared->Prop}(hh:A.handled=none) (S:i8 s.heap a (kZ w) es ep t) (hn:es.size<=76)
  (hQ:∀(h':Heap) (tk:Nat),(∀b o,s.heap.get? b=some o->h'.get? b=some o)->s.heap.objs.size < h'.objs.size->Q (iF w a ep es) {s with heap:=h',toks:=tk}):wpAny (model prog w) A (collect (.ref a)) Q E s:=by
 have ha:a < s.heap.objs.size:=Heap.lt_size S.at_
 have hT:s.TypeIs (.ref a) "set":=⟨_,S.at_,rfl⟩
 unfold collect
 (refine wpAny_bind (wpAny_runValue (codeAny_builtin F.entry_proto_collect ?_)))
 (rw [Around.under_plainId F.plain_proto_collect _])
 show wpAny _ A.in1 (newList [] >>= fun l=>again (.builtin "list.__iadd__" ⟨[l,.ref a],[]⟩)) _ _ s
 (refine wpAny_bind (wpAny_newObj_type ?_))
 (refine wpAny_pure ⟨plainId_quiet F.plain_list_iadd _,codeAny_builtin F.entry_list_iadd ?_⟩)
 (rw [Around.under_plainId F.plain_list_iadd _])
 generalize OU:({cls:=.type "list",data:=.seq ([]:List Value).toArray}:Obj)=l0
 have S1:i8 (s.heap.push l0) a (kZ w) es ep t:=S.keep fun o e=>Heap.get?_push_of_some _ e
 have hT1:Shared.TypeIs {s with heap:=s.heap.push l0} (.ref a) "set":=⟨_,S1.at_,rfl⟩
 show wpAny _ A.in1 (Builtin.List.listExtendWith (.ref s.heap.objs.size) (.ref a) (.ref s.heap.objs.size)) _ _ _
 (unfold Builtin.List.listExtendWith)
 refine wpAny_bind (wpAny_typeOf hT1 ?_)
 have h1:Builtin.List.listSameRef (.ref s.heap.objs.size) (.ref a)=false:=by
  show (s.heap.objs.size == a)=false
  exact beq_eq_false_iff_ne.mpr (Nat.ne_of_gt ha)
 have h2:(Value.type "set" == Value.type "list")=false:=by decide
 have h3:(Value.type "set" == Value.type "tuple")=false:=by decide
 (simp only [h1,h2,h3,Bool.or_false,Bool.false_eq_true,if_false])
 refine wpAny_bind (DW S1 ?_)
 (refine wpAny_bind (wpAny_holding ?_))
 have z1:(s.heap.push l0).objs.size=s.heap.objs.size + 1:=Heap.size_push _ _
 rw [z1]
 have S2:i8 ((s.heap.push l0).push (nK a 0 0 es.size ep)) a (kZ w) es ep t:=S1.keep fun o e=>Heap.get?_push_of_some _ e
 have hT2:Shared.TypeIs {s with heap:=(s.heap.push l0).push (nK a 0 0 es.size ep)} (.ref a) "set":=⟨_,S2.at_,rfl⟩
 refine DT hT2 ?_
 refine Dk (by decide +kernel) ?_
 (refine wpAny_bind (wpAny_rule ?_))
 subst OU
 have hI:((s.heap.push {cls:=.type "list",data:=.seq ([]:List Value).toArray}).push (nK a 0 0 es.size ep)).get? (s.heap.objs.size + 1)=some (nK a 0 0 es.size ep):=by rw [<-z1];exact Heap.get?_push_size _ rfl
 have hS₁:((s.heap.push {cls:=.type "list",data:=.seq ([]:List Value).toArray}).push (nK a 0 0 es.size ep)).get? s.heap.objs.size=some {cls:=.type "list",data:=.seq ([]:List Value).toArray}:=Heap.get?_push_of_some _ (Heap.get?_push_size _ rfl)
 refine wpAny_bind ?_
 (show wpAny _ A.in1 (updateSeq s.heap.objs.size (·.push .none) >>= fun _=>updateSeq s.heap.objs.size (·.pop)) _ _ _)
 (refine wpAny_bind (wpAny_updateSeq hS₁ rfl ?_))
 (have hS₂:=Heap.get?_update_self (Obj.mapSeq (·.push Value.none)) hS₁ rfl)
 (refine wpAny_updateSeq hS₂ rfl ?_)
 (have hS₃:=Heap.get?_update_self (Obj.mapSeq (·.pop)) hS₂ rfl)
 have oth:∀b o,b≠s.heap.objs.size->((s.heap.push {cls:=.type "list",data:=.seq ([]:List Value).toArray}).push (nK a 0 0 es.size ep)).get? b=some o->
   ((((s.heap.push {cls:=.type "list",data:=.seq ([]:List Value).toArray}).push (nK a 0 0 es.size ep)).update s.heap.objs.size (Obj.mapSeq (·.push Value.none))).update s.heap.objs.size (Obj.mapSeq (·.pop))).get? b=some o:=
  (fun b o hb e=>(Heap.get?_update_other _ _ (Ne.symm hb)).trans ((Heap.get?_update_other _ _ (Ne.symm hb)).trans e))
 have hne:a≠s.heap.objs.size + 1:=Nat.ne_of_lt (Nat.lt_succ_of_lt ha)
 have hSf:s.heap.objs.size∉[s.heap.objs.size + 1,a]:=by
  simp only [List.mem_cons,List.not_mem_nil,or_false,not_or]
  exact ⟨Nat.ne_of_lt (Nat.lt_succ_self _),Nat.ne_of_gt ha⟩
 obtain ⟨L,T⟩:=S.tab
 refine wpAny_pure ⟨plainId_quiet F.plain_extend_loop _,codeAny_extend_loopS ((Dj (A:=A.in1) (prog:=prog) (w:=w) (es:=es) (ep:=ep) (t:=t) hh (s.heap.objs.size + 1) a hne).toS) (by rw [sizeLine_eq];omega) _ hSf _ es.size 0 _ _ _ rfl (Nat.zero_le _)
  ⟨0,oth _ _ (Nat.ne_of_gt (Nat.lt_succ_self _)) hI,S2.keep fun o e=>oth _ _ (Nat.ne_of_lt ha) e,fun _=>Ao T.sop⟩ hS₃ (ItemsOf.nil _) fun s' acc' c' hm hS' hacc=>?_⟩
 (show wpAny _ A (load s.heap.objs.size >>= _) _ _ s')
 (refine wpAny_bind (wpAny_load hS' ?_))
 have eacc:acc'.toList=iF w a ep es:=by
  obtain ⟨z,q⟩:=hacc
  have lw:(iF w a ep es).length=es.size:=by unfold iF;rw [List.length_map,Array.length_toList,lM]
  refine List.ext_getElem (by rw [Array.length_toList,z,lw]) fun i x1 x2=>?_
  have this:(iF w a ep es)[i]?=some (acc'[i]'(by simpa using x1)):=q i _ (Array.getElem?_eq_getElem (by simpa using x1))
  rw [List.getElem?_eq_getElem x2] at this
  (exact (Option.some.inj this).symm)
 refine wpAny_pure ?_
 rw [eacc]
 (obtain ⟨h',g',d',tk',os'⟩:=s')
 (have eg:g'=s.gens:=hm.gens)
 (have ed:d'=s.drawn:=hm.drawn)
 have eo:os'=s.os:=hm.os
 subst eg;subst ed;subst eo
 refine hQ h' tk' (fun b o e=>?_) (Heap.lt_size hS')
 have lb:=Heap.lt_size e
 refine hm.heap b o ?_ (oth b o (Nat.ne_of_lt lb) (Heap.get?_push_of_some _ (Heap.get?_push_of_some _ e)))
 simp only [List.mem_cons,List.not_mem_nil,or_false,not_or]
 exact ⟨Nat.ne_of_lt lb,Nat.ne_of_lt (Nat.lt_succ_of_lt lb)⟩
end
theorem uS:isSubtype (.type "tuple") (.type "set")=pure false:=by rw [isSubtype_type];kernel_rfl
theorem uR:isSubtype (.type "tuple") (.type "frozenset")=pure false:=by rw [isSubtype_type];kernel_rfl
abbrev eG (led:Bool):Obj:={cls:=.type "set",dict:=none,data:=.set #[] 0 (.fresh 0 0 led)}
abbrev cF (w:World):Bool:=!w.params.followText "set-order"
section
variable {prog:Program}{w:World}{A:Around}{E:Value->Shared->Prop}{s:Shared}{K:W.Frag}{J:Hp}
theorem yc (a:Value){Q₁:Value->Shared->Prop}(h:Q₁ (.ref s.heap.objs.size) {s with heap:=s.heap.push (eG (cF w))}):
  (codeAny (model prog w) A (.call (.builtin "set.__new__") ⟨[.type "set",a],[]⟩) (wants Q₁ E) s):=by
 refine (codeAny_of_tree ?_)
 (show wpAny _ A.in1 (do checkBuiltinCall "set.__new__" ⟨[.type "set",a],[]⟩;again (.builtin "set.__new__" ⟨[.type "set",a],[]⟩)) _ _ s)
 refine wpAny_bind (wpAny_of_eq (PySem.F.newCall_set_1 a) (wpAny_pure ⟨plainId_quiet F.plain_set_new _,codeAny_builtin F.entry_set_new ?_⟩))
 (rw [Around.under_plainId F.plain_set_new _])
 (unfold Builtin.«set.__new__» Builtin.Frozenset.newClass)
 have hsub:=sub_set_self
 (obtain ⟨hp,g,d,tk,os⟩:=s)
 dsimp only
 wp_walk
 (refine wpAny_askSetting (wpAny_pure ?_))
 dsimp only
 simp only [newObj]
 (refine wpAny_bind (wpAny_alloc (wpAny_pure ?_)))
 exact wpAny_pure h
theorem ye {l:Addr}{items:Array Value}{ds:List D}{Q:Value->Shared->Prop}(N:HF K J s) (hh:A.handled=none) (hl:s.heap.IsTuple l items) (hz:items.size=ds.length) (hi:∀i v,items[i]?=some v->KV K J v (ds.getD i .non)) (hn:ds.length<=76) (hu:A.units + 16 < cLine)
  (h:∀(h':Heap) (tk:Nat) ks es ep t,i7 K J h' s.heap.objs.size (cF w) ks es ep t->(∀d,d∈ks↔d∈ds)->(∀b o,b < s.heap.objs.size->s.heap.get? b=some o->h'.get? b=some o)->Q (.ref s.heap.objs.size) {s with heap:=h',toks:=tk}):
  (wpAny (model prog w) A (call (.type "set") [.ref l]) Q E s):=by
 (obtain ⟨c,tl,Oo⟩:=F.called_set.mro)
 (have hmade:=F.called_set.made)
 have hsub:=F.called_set.sub
 (refine wpAny_call (codeAny_of_tree ?_))
 (show wpAny _ _ (callAny (.type "set") _) _ _ _)
 (refine wpAny_pure ⟨Code.quiet_builtin _ (by decide +kernel),codeAny_builtin F.entry_type_call ?_⟩)
 (rw [Around.under_plain (weight_type_call_type "set" [.ref l] []) rfl])
 (have h1:=F.called_set.notType)
 (have h2:=F.called_set.canCreate)
 have hct:=PySem.F.typeCall_set_1 (.ref l)
 (repeat (any_goals (first | assumption | wp_step)))
 refine codeAny_mono (yc (.ref l) (E:=E) (Q₁:=fun obj s₁=>obj=.ref s.heap.objs.size/\s₁={s with heap:=s.heap.push (eG (cF w))}) ⟨rfl,rfl⟩) fun r s₁ hr=>?_
 cases r with
 | error e=>exact hr
 | ok fl=>
  cases fl with
  | ret obj=>
   obtain ⟨rfl,rfl⟩:=hr
   have hS:(s.heap.push (eG (cF w))).get? s.heap.objs.size=some (eG (cF w)):=Heap.get?_push_size _ rfl
   have hT:Shared.TypeIs {s with heap:=s.heap.push (eG (cF w))} (.ref s.heap.objs.size) "set":=⟨_,hS,rfl⟩
   (have hli:=F.called_set.init.lookup)
   (have hbi:=F.called_set.init.bind (.ref s.heap.objs.size))
   (repeat (any_goals (first | assumption | wp_step)))
   refine codeAny_mono (codeAny_call_builtin (R:=wants (fun r s₂=>r=.none/\∃h' tk ks es ep t,s₂={s with heap:=h',toks:=tk}/\i7 K J h' s.heap.objs.size (cF w) ks es ep t/\(∀d,d∈ks↔d∈ds)/\
     (∀b o,b < s.heap.objs.size->s.heap.get? b=some o->h'.get? b=some o)) E) F.called_set.init.plain F.entry_set_init ((check_set_init_1 hT ?_))) fun r₂ s₂ hr₂=>?_
   ·obtain ⟨ol,N3,hcl,nl,hdl⟩:=id hl
    have ND:(s.heap.push (eG (cF w))).get? l=some ol:=Heap.get?_push_of_some _ N3
    have OB:=uS
    have OA:=uR
    have hne:(Value.type "tuple" == Value.type "dict")=false:=by decide
    have hl1:(s.heap.push (eG (cF w))).IsTuple l items:=⟨_,ND,hcl,nl,hdl⟩
    have OO:Shared.TypeIs {s with heap:=s.heap.push (eG (cF w))} (.ref l) "tuple":=⟨_,ND,hcl⟩
    (unfold Builtin.«set.__init__» noKeywords Builtin.Frozenset.updateFrom)
    generalize N7:pyIter=PI
    wp_walk
    subst N7
    refine (wpAny_pyIter_tuple hl1 ?_)
    refine (wpAny_bind (wpAny_runValue ?_))
    (have hlS:l < s.heap.objs.size:=Heap.lt_size N3)
    have z1:(s.heap.push (eG (cF w))).objs.size=s.heap.objs.size + 1:=Heap.size_push _ _
    have NR:l≠(s.heap.push (eG (cF w))).objs.size:=by rw [z1];exact Nat.ne_of_lt (Nat.lt_succ_of_lt hlS)
    have hSf:s.heap.objs.size∉[(s.heap.push (eG (cF w))).objs.size,l]:=by
     rw [z1]
     simp only [List.mem_cons,List.not_mem_nil,or_false,not_or]
     (exact ⟨Nat.ne_of_lt (Nat.lt_succ_self _),Nat.ne_of_gt hlS⟩)
    have hno:∀b,s.heap.objs.size<=b->s.heap.get? b=none:=fun b hb=>by
     cases q:s.heap.get? b with
     | none=>rfl
     | some o=>exact absurd (Heap.lt_size q) (Nat.not_lt.mpr hb)
    have hval:∀(i:Nat) (v:Value),items[i]?=some v->KV K J v (ds.getD i .non):=hi
    have all:(List.range items.size).map (fun i=>ds.getD i .non)=ds:=by
     refine List.ext_getElem (by simp [hz]) fun i a b=>?_
     simp [b]
    refine E_ (A:=A.in1.in1) (K:=K) (J:=J) (s0:=s) (led:=cF w) ((Walks.tuple (A:=A.in1.in1.in1) (by simp [hh]) (s.heap.push (eG (cF w))).objs.size l NR items).toS) s.heap.objs.size hSf (fun i=>ds.getD i .non) hval N (fun b hb=>hno b ?_) (by simp only [in1_units];omega) (by omega) items.size 0 _ [] #[] 0 (.fresh 0 0 (cF w)) (by omega) (Nat.zero_le _) ⟨⟨_,Heap.get?_push_size _ rfl,rfl,rfl⟩,hl1.push _⟩ (fun b o e=>Heap.get?_push_of_some _ (Heap.get?_push_of_some _ e)) (Ba (Heap.get?_push_of_some _ hS)) (fun d=>by simp) fun s' ks es ep t hm hS' hmem=>?_
    ·(rcases List.mem_cons.mp hb with rfl | hb)
     ·exact Nat.le_refl _
     ·rw [List.mem_singleton.mp hb,z1];exact Nat.le_succ _
    ·rw [all] at hmem
     (obtain ⟨h',g',d',tk',os'⟩:=s')
     (have eg:g'=s.gens:=hm.gens)
     (have ed:d'=s.drawn:=hm.drawn)
     have eo:os'=s.os:=hm.os
     subst eg;subst ed;subst eo
     show wpAny _ _ _ _ _ _
     refine wpAny_pure ?_
     (show wpAny _ _ (ret Value.none) _ _ _)
     refine wpAny_pure ⟨rfl,h',tk',ks,es,ep,t,rfl,hS',hmem,fun b o hb e=>?_⟩
     refine hm.heap b o ?_ (Heap.get?_push_of_some _ (Heap.get?_push_of_some _ e))
     rw [z1]
     simp only [List.mem_cons,List.not_mem_nil,or_false,not_or]
     exact ⟨Nat.ne_of_lt hb,Nat.ne_of_lt (Nat.lt_succ_of_lt hb)⟩
   ·cases r₂ with
    | error e=>exact hr₂
    | ok fl₂=>
     cases fl₂ with
     | ret r=>
      obtain ⟨rfl,h',tk,ks,es,ep,t,rfl,hS',hm',hk'⟩:=hr₂
      (repeat (any_goals (first | assumption | wp_step)))
      exact h _ _ _ _ _ _ hS' hm' hk'
     | _=>exact hr₂.elim
  | _=>exact hr.elim
end
end DL
namespace DL
open PySem PySem.Spec PyProof.Rows L2 ST
open PySem.W (KasT kas_sort kas_ask)
section
variable {prog:Program}{w:World}{A:Around}{E:Value->Shared->Prop}{s:Shared}
theorem sortedS {a:Addr}{es:Array (Int×Value)}{ep:Nat}{t:SetTable}{κ:SortKind}{q:Nat->Nat->Bool}{Q:Value->Shared->Prop}{vs:List Value}(hv:iF w a ep es=vs) (hh:A.handled=none) (S:i8 s.heap a (kZ w) es ep t) (hn:es.size<=76)
  (hs:vs.length < 2\/(2<=vs.length/\vs.length < 64/\
   (∀h' tk C,(∀b o,s.heap.get? b=some o->h'.get? b=some o)->C κ {s with heap:=h',toks:=tk}->wpAny (model prog w) A.in1.in1 (keyKind' vs.toArray) C (fun _ _=>False) {s with heap:=h',toks:=tk})/\
   ∀h' tk,(∀b o,s.heap.get? b=some o->h'.get? b=some o)->∀i j C,i < vs.length->j < vs.length->C (q i j) {s with heap:=h',toks:=tk}->kas_ask prog w A.in1.in1 κ vs i j C {s with heap:=h',toks:=tk}))
  (h:∀h' tk l n,(∀b o,s.heap.get? b=some o->h'.get? b=some o)->s.heap.objs.size<=l->h'.get? l=some (seqObj "list" (if vs.length < 2 then vs else iK q vs).toArray n)->Q (.ref l) {s with heap:=h',toks:=tk}):wpAny (model prog w) A (call (.builtin "sorted") [.ref a]) Q E s:=by
 have sl:vs.length<=sizeLine:=by rcases hs with h | ⟨_,h,_⟩ <;> rw [sizeLine_eq] <;> omega
 refine (Calls.call_function_entry kind_sorted plain_sorted entry_sorted (args_sorted1 _) ?_)
 unfold Builtin.«sorted»
 refine wpAny_bind (m:=checkCount "sorted" 1 1 _) ((wpAny_pure ?_))
 refine wpAny_bind (yJ hh S hn fun h1 tk1 k1 le0=>?_)
 rw [hv]
 refine wpAny_bind (wpAny_newList ?_ sl)
 have le1:s.heap.objs.size<=h1.objs.size:=Nat.le_of_lt le0
 have gL:(h1.push (seqObj "list" vs.toArray 0)).get? h1.objs.size=some (seqObj "list" vs.toArray 0):=Heap.get?_push_size _ rfl
 have kp:∀b o,s.heap.get? b=some o->b≠h1.objs.size/\(h1.push (seqObj "list" vs.toArray 0)).get? b=some o:=fun b o e=>by
  have e1:=k1 b o e
  exact ⟨Nat.ne_of_lt (Heap.lt_size e1),Heap.get?_push_of_some _ e1⟩
 have kend:∀out b o,s.heap.get? b=some o->(sortedHeap (h1.push (seqObj "list" vs.toArray 0)) h1.objs.size vs out).get? b=some o:=fun out b o e=>by
  obtain ⟨g1,g2'⟩:=kp b o e
  rw [sortedHeap_old g1 (Heap.lt_size g2')]
  exact g2'
 dsimp only
 rcases hs with h2 | ⟨h2,h64,hk,hc⟩
 ·refine wpAny_bind (wpAny_holding (wpAny_call_entry slot_list_sort ⟨_,gL,rfl⟩ entry_list_sort (rS gL h2 ⟨_,rfl,?_⟩) (args_list_sort _)))
  obtain ⟨n,hn'⟩:=sortedHeap_at (out:=vs.toArray) gL
  rw [if_pos h2] at h
  exact wpAny_pure ⟨_,rfl,h _ tk1 _ n (kend _) le1 hn'⟩
 ·refine wpAny_bind (wpAny_holding (wpAny_call_entry slot_list_sort ⟨_,gL,rfl⟩ entry_list_sort (rT (κ:=κ) (q:=q) gL h2 h64 (fun h' C k c=>?_) (fun h' k i j C hi hj c=>?_) ⟨_,rfl,?_⟩) (args_list_sort _)))
  ·exact hk h' tk1 C (fun b o e=>k b o (kp b o e).1 (kp b o e).2) c
  ·exact hc h' tk1 (fun b o e=>k b o (kp b o e).1 (kp b o e).2) i j C hi hj c
  ·obtain ⟨n,hn'⟩:=sortedHeap_at (out:=(iK q vs).toArray) gL
   rw [if_neg (by omega)] at h
   exact wpAny_pure ⟨_,rfl,h _ tk1 _ n (kend _) le1 hn'⟩
end
mutual
def formOf:D->Fm
 | .int _=>.i
 | .tup xs=>zl xs
 | _=>.b
def zl:List D->Fm
 | []=>.tn
 | x::xs=>.tc (formOf x) (zl xs)
end
def oX:Fm->D->Bool
 | .i,.int _=>true
 | .tn,.tup xs=>xs.isEmpty
 | .tc x r,.tup (y::ys)=>oX x y && oX r (.tup ys)
 | _,_=>false
theorem ql:∀(f:Fm) (d:D),oX f d=true->jJ f d
 | .i,.int k,_=>⟨k,rfl⟩
 | .tn,.tup [],_=>⟨[],rfl,rfl⟩
 | .tc x r,.tup (y::ys),h=>by
  unfold oX at h
  rw [Bool.and_eq_true] at h
  exact ⟨_,rfl,y,ys,rfl,ql x y h.1,ql r (.tup ys) h.2⟩
def Fz:List D->Bool
 | []=>true
 | d::r=>(match ie d with
  | some k=>gV k (d::r)
  | none=>false) && (d::r).all (oX (formOf d))
def oE (ds:List D):Bool:=decide (ds.length < 64) && (areKeys ds && (decide (deps ds<=8) && Fz ds))
theorem Ei {ds:List D}(h:Fz ds=true):∃k f,∀d∈ds,ie d=some k/\jJ f d:=by
 cases ds with
 | nil=>exact ⟨.i,.i,fun _ h=>nomatch h⟩
 | cons d r=>
  unfold Fz at h
  rw [Bool.and_eq_true] at h
  cases q:ie d with
  | none=>rw [q] at h;cases h.1
  | some k=>
   rw [q] at h
   exact ⟨k,formOf d,fun x hx=>⟨jB h.1 x hx,ql _ _ (List.all_eq_true.mp h.2 x hx)⟩⟩
theorem mU {n:Nat}:∀{ds:List D},deps ds<=n->∀d∈ds,dep d<=n
 | [],_,_,h=>nomatch h
 | x::r,hn,d,h=>by
  unfold deps at hn
  (rcases List.mem_cons.mp h with rfl | h)
  ·omega
  ·exact mU (ds:=r) (by omega) d h
theorem mP {k:Hd}:∀{ds:List D},(∀d∈ds,ie d=some k)->gV k ds=true
 | [],_=>rfl
 | x::r,h=>by
  unfold gV
  rw [h x (List.mem_cons_self ..),mP fun d hd=>h d (List.mem_cons_of_mem _ hd)]
  cases k <;> rfl
structure Me (ds:List D) (k:Hd) (f:Fm):Prop where
 ln:ds.length < 64
 ky:areKeys ds=true
 dp:deps ds<=8
 al:∀d∈ds,ie d=some k/\jJ f d
theorem xH {ds:List D}(h:oE ds=true):∃k f,Me ds k f:=by
 unfold oE at h
 rw [Bool.and_eq_true,Bool.and_eq_true,Bool.and_eq_true] at h
 obtain ⟨h1,h2,h3,h4⟩:=h
 obtain ⟨k,f,h5⟩:=Ei h4
 exact ⟨k,f,of_decide_eq_true h1,h2,of_decide_eq_true h3,h5⟩
abbrev nu (X:Cx) (H0:Hp) (a:Addr) (ds:List D):HO:=.ext fun h=>∃ks es ep t,i7 X.K H0 h a (cF X.w) ks es ep t/\∀d,d∈ks↔d∈ds
section
variable {X:Cx}
theorem Lf {K:W.Frag}{J:Hp}{k:Hd}{f:Fm}{ds:List D}{vs:List V}{us:List Value}(o:Me ds k f) (rs:aF K J ds vs) (rv:Vals vs us):∀i v,us.toArray[i]?=some v->KV K J v (ds.getD i .non):=fun i v q=>by
 have l1:vs.length=us.length:=rv.length
 have l2:ds.length=vs.length:=rs.length
 have hi:i < us.length:=by
  have:=(Array.getElem?_eq_some_iff.mp q).1
  simpa using this
 have e:us.getD i Value.none=v:=by
  simp at q
  simp [List.getD,q]
 have r1:=eH rs (i:=i) (by omega)
 have r2:=eK rv (i:=i) (by omega)
 rw [e] at r2
 have m:=dY (ds:=ds) (i:=i) (by omega)
 refine ⟨?_,pN o.ky _ m,mU o.dp _ m,_,r1,r2⟩
 have hh:=(o.al _ m).1
 generalize cI ds i=d at r1 hh
 generalize vs.getD i V.non=vv at r1 r2
 cases d with
 | tup xs=>cases r1 with
  | tup _ _=>cases r2;exact ⟨_,rfl⟩
 | _=>cases hh
theorem BJ (hu:X.A.units + 64 < cLine) (hc:X.calm=true):bQ X (.type "set") (fun xs H Q=>∃p vs ds J0,xs=[.ref p]/\cQ X.K H p vs/\aP J0 H/\aF X.K J0 ds vs/\oE ds=true/\∀l,H l=none->Q (.ref l) (upd H l (nu X J0 l ds))):=by
 intro pins s σ H xs us Q I r h
 obtain ⟨p,vs,ds,J0,rfl,hq,sm,rs,oks,q⟩:=h
 obtain ⟨u,rfl,rx⟩:=vals1 r
 cases rx
 obtain ⟨k,f,o⟩:=xH oks
 have N:HF X.K J0 s:=HF.of (c:=⟨X.K,H,H,fun _=>True⟩) I sm
 obtain ⟨its,r',pt,hz⟩:=I.tuple hq
 refine ye N (I.ok.hd hc) pt (by simp [<-r'.length,rs.length]) (Lf o rs r') (by have:=o.ln;omega) (by omega) fun h' tk ks es ep t S hm kp=>?_
 exact ⟨.ref s.heap.objs.size,_,I.laid (t':=tk) (fun b o e=>kp b o (Heap.lt_size e) e) (Nat.le_refl _) (show b9 X.prog X.w _ _ _ (nu X J0 s.heap.objs.size ds) from ⟨⟨ks,es,ep,t,S,hm⟩,⟨_,S.at_⟩,fun h1 h2 ⟨ks,es,ep,t,S,hm⟩ e=>⟨ks,es,ep,t,S.keep e,hm⟩⟩),rfl,q _ (I.hok.fresh (Nat.le_refl _))⟩
end
def dd:List D->List D
 | []=>[]
 | x::xs=>if (dd xs).any (aZ x)=true then dd xs else x::dd xs
def dc (ds:List D):List D:=bq (dd ds)
section
variable {P:D->Prop}
theorem vH (p:fS P):∀(ds:List D),(∀x∈ds,P x)->(dd ds).Nodup/\∀y,y∈dd ds↔y∈ds
 | [],_=>⟨List.nodup_nil,fun _=>.rfl⟩
 | x::xs,h=>by
  obtain ⟨h1,h2⟩:=vH p xs fun y hy=>h y (List.mem_cons_of_mem _ hy)
  have px:=h x (List.mem_cons_self ..)
  have eqv:(dd xs).any (aZ x)=true↔x∈xs:=by
   rw [List.any_eq_true]
   constructor
   ·rintro ⟨z,hz,e⟩
    have hz':=(h2 z).mp hz
    rw [(p.eq x z px (h z (List.mem_cons_of_mem _ hz'))).mp e]
    exact hz'
   ·intro hx
    exact ⟨x,(h2 x).mpr hx,(p.eq x x px px).mpr rfl⟩
  unfold dd
  by_cases c:(dd xs).any (aZ x)=true
  ·rw [if_pos c]
   refine ⟨h1,fun y=>?_⟩
   rw [h2 y,List.mem_cons]
   exact ⟨.inr,fun z=>z.elim (fun e=>e▸eqv.mp c) id⟩
  ·rw [if_neg c]
   refine ⟨List.nodup_cons.mpr ⟨fun z=>c (eqv.mpr ((h2 x).mp z)),h1⟩,fun y=>?_⟩
   rw [List.mem_cons,List.mem_cons,h2 y]
theorem Dh (p:fS P):∀{A B:List D},(∀x∈A,P x)->A.Pairwise (fun a b=>dB a b=true)->B.Pairwise (fun a b=>dB a b=true)->(∀y,y∈A↔y∈B)->A=B
 | [],[],_,_,_,_=>rfl
 | [],b::B,_,_,_,h=>by cases (h b).mpr List.mem_cons_self
 | a::A,[],_,_,_,h=>by cases (h a).mp List.mem_cons_self
 | a::A,b::B,hp,hA,hB,h=>by
  obtain ⟨a1,a2⟩:=List.pairwise_cons.mp hA
  obtain ⟨b1,b2⟩:=List.pairwise_cons.mp hB
  have pa:=hp a List.mem_cons_self
  have pb:=hp b ((h b).mpr List.mem_cons_self)
  have no:∀z,P z->dB z z=true->False:=fun z pz q=>by
   have:=p.asy z z pz pz q
   rw [q] at this;cases this
  have e:a=b:=by
   rcases List.mem_cons.mp ((h a).mp List.mem_cons_self) with e | e
   ·exact e
   ·rcases List.mem_cons.mp ((h b).mpr List.mem_cons_self) with f | f
    ·exact f.symm
    ·exact (no a pa (p.tra _ _ _ pa pb pa (a1 b f) (b1 a e))).elim
  subst e
  have:A=B:=by
   refine Dh p (fun x hx=>hp x (List.mem_cons_of_mem _ hx)) a2 b2 fun y=>⟨fun hy=>?_,fun hy=>?_⟩
   ·rcases List.mem_cons.mp ((h y).mp (List.mem_cons_of_mem _ hy)) with e | e
    ·subst e;exact (no y pa (a1 y hy)).elim
    ·exact e
   ·rcases List.mem_cons.mp ((h y).mpr (List.mem_cons_of_mem _ hy)) with e | e
    ·subst e;exact (no y pa (b1 y hy)).elim
    ·exact e
  rw [this]
theorem mF (p:fS P){ds:List D}(h:∀x∈ds,P x) (nd:ds.Nodup):(bq ds).Pairwise fun a b=>dB a b=true:=by
 have up:=E5 p ds h
 have pm:=jf ds
 have nd':(bq ds).Nodup:=pm.nodup_iff.mpr nd
 have both:=List.Pairwise.and up nd'
 refine (List.Pairwise.and_mem.mp both).imp ?_
 rintro a b ⟨ha,hb,h1,h2⟩
 cases q:dB a b with
 | true=>rfl
 | false=>exact absurd (p.tri a b (h a (pm.mem_iff.mp ha)) (h b (pm.mem_iff.mp hb)) q h1) h2
theorem yh (p:fS P){ds ks:List D}(h:∀x∈ds,P x) (nd:ks.Nodup) (hm:∀d,d∈ks↔d∈ds):bq ks=dc ds:=by
 obtain ⟨h1,h2⟩:=vH p ds h
 have hk:∀x∈ks,P x:=fun x hx=>h x ((hm x).mp hx)
 have hd:∀x∈dd ds,P x:=fun x hx=>h x ((h2 x).mp hx)
 exact Dh p (fun x hx=>hk x ((jf ks).mem_iff.mp hx)) (mF p hk nd) (mF p hd h1) fun y=>by
  rw [(jf ks).mem_iff,hm y]
  show _↔y∈bq (dd ds)
  rw [(jf (dd ds)).mem_iff,h2 y]
theorem qA (p:fS P){ds:List D}(h:∀x∈ds,P x):(dc ds).Pairwise (fun a b=>dB a b=true)/\∀d,d∈dc ds↔d∈ds:=by
 obtain ⟨h1,h2⟩:=vH p ds h
 exact ⟨mF p (fun x hx=>h x ((h2 x).mp hx)) h1,fun d=>by show d∈bq (dd ds)↔_;rw [(jf (dd ds)).mem_iff,h2 d]⟩
end
theorem fk.reps {K:W.Frag}{J:Hp}{es:List (Int×Value)}{ks:List D}(h:fk K J es ks):∃vs,aF K J ks vs/\Vals vs (es.map (·.2)):=by
 induction h with
 | nil=>exact ⟨_,.nil,.nil⟩
 | cons _ hk _ ih=>
  obtain ⟨vs,h1,h2⟩:=ih
  obtain ⟨_,_,_,v,r,rv⟩:=hk
  exact ⟨v::vs,.cons r h1,.cons rv h2⟩
section
variable {X:Cx}
theorem Ar (hu:X.A.units + 64 < cLine) (hc:X.calm=true):bQ X (.builtin "sorted") (fun xs H Q=>∃p ds J0,xs=[.ref p]/\H p=some (nu X J0 p ds)/\aP J0 H/\oE ds=true/\∀l vs',H l=none->aF X.K J0 (dc ds) vs'->Q (.ref l) (upd H l (.lst vs'))):=by
 intro pins s σ H xs us Q I r h
 obtain ⟨p,ds,J0,rfl,hp,sm,oks,q⟩:=h
 obtain ⟨u,rfl,rx⟩:=vals1 r
 cases rx
 obtain ⟨k,f,o⟩:=xH oks
 have hh:X.A.handled=none:=I.ok.hd hc
 have N:HF X.K J0 s:=HF.of (c:=⟨X.K,H,H,fun _=>True⟩) I sm
 obtain ⟨⟨ks,es,ep,t,S,hm⟩,_⟩:=(show b9 X.prog X.w H s.heap p (nu X J0 p ds) from I.hok p _ hp)
 obtain ⟨ks',pm,en'⟩:=S.en.perm (lK X.w p ep es).symm
 have nd':ks'.Nodup:=pm.nodup_iff.mp S.nd
 have hm':∀d,d∈ks'↔d∈ds:=fun d=>by rw [<-pm.mem_iff,hm d]
 obtain ⟨vs,rs,rv⟩:=en'.reps
 have hv:iF X.w p ep es=(fN X.w p ep es).toList.map (·.2):=rfl
 rw [<-hv] at rv
 generalize hits:iF X.w p ep es=its at rv
 have l1:vs.length=its.length:=rv.length
 have l2:ks'.length=vs.length:=rs.length
 have len:ks'.length<=ds.length:=List.Nodup.length_le_of_subset nd' fun d hd=>(hm' d).mp hd
 have l64:=o.ln
 have les:es.size=ks'.length:=by rw [<-Array.length_toList,S.en.length,pm.length_eq]
 have tot:=iE f
 have out:=yh tot (fun x hx=>(o.al x hx).2) nd' hm'
 have fin:∀(h':Heap) (tk:Nat) (l:Addr) (n:Nat) (ot:List Value) (vs':List V),vs'.length=vs.length->Vals vs' ot->aF X.K J0 (bq ks') vs'->(∀b o,s.heap.get? b=some o->h'.get? b=some o)->s.heap.objs.size<=l->h'.get? l=some (seqObj "list" ot.toArray n)->EP X pins σ Q (.ref l) {s with heap:=h',toks:=tk}:=fun h' tk l n ot vs' lv rv' rr kp hl hg=>by
  refine ⟨.ref l,_,I.laid (t':=tk) kp hl (show b9 X.prog X.w _ _ _ (.lst vs') from ⟨by rw [lv,sizeLine_eq];omega,ot,n,rv',by simpa [seqObj] using hg⟩),rfl,q l vs' (I.hok.fresh hl) (by rw [<-out];exact rr)⟩
 have un:X.A.in1.in1.units=X.A.units + 2:=rfl
 refine sortedS (κ:=tuples' k.flag) (q:=ltB ks') (vs:=its) hits hh S.wk (by omega) ?_ fun h' tk l n kp hl hg=>?_
 ·by_cases h2:its.length < 2
  ·exact .inl h2
  ·refine .inr ⟨by omega,by omega,fun h' tk C kp cc=>?_,fun h' tk kp i j C hi hj cc=>?_⟩
   ·exact uu (N.keep kp) (mP fun d hd=>(o.al d ((hm' d).mp hd)).1) rs rv (by omega) cc
   ·have hi':i < ks'.length:=by omega
    have hj':j < ks'.length:=by omega
    have mi:=(hm' _).mp (dY hi')
    have mj:=(hm' _).mp (dY hj')
    have hb:cA (cI ks' i) (cI ks' j)=some (ltB ks' i j):=by
     have:=tot.lt _ _ (o.al _ mi).2 (o.al _ mj).2
     unfold ltB
     cases z:cA (cI ks' i) (cI ks' j) with
     | none=>rw [z] at this;cases this
     | some b=>rfl
    have d1:=mU o.dp _ mi
    have d2:=mU o.dp _ mj
    exact zv (N.keep kp) (o.al _ mi).1 (o.al _ mj).1 hb (eH rs hi') (eH rs hj') (eK rv (by omega)) (eK rv (by omega)) (by rw [un];omega) (by omega) (by omega) cc
 ·by_cases h2:its.length < 2
  ·rw [if_pos h2] at hg
   refine fin h' tk l n its vs rfl rv ?_ kp hl hg
   unfold bq
   rw [if_pos (by omega)]
   exact rs
  ·rw [if_neg h2] at hg
   have ib:∀i∈(aU (ltB ks') (kas_sort ks'.length)).toList,i < ks'.length:=fun i hi=>by
    have:=((d_ (n:=ks'.length) (by omega)).run (ltB ks'):dZ _ _)
    have:=(Array.Perm.mem_iff this).mp (Array.mem_toList_iff.mp hi)
    simpa using this
   have e1:iK (ltB ks') its=(aU (ltB ks') (kas_sort ks'.length)).toList.map fun i=>its.getD i Value.none:=by unfold iK;rw [l2,l1]
   rw [e1] at hg
   refine fin h' tk l n _ _ ?_ (mJ rv _ fun i hi=>l2▸ib i hi) ?_ kp hl hg
   ·rw [List.length_map,<-l2]
    have:=((d_ (n:=ks'.length) (by omega)).run (ltB ks'):dZ _ _).size_eq
    simpa using this
   ·unfold bq
    rw [if_neg (by omega)]
    exact mC rs _ ib
end
end DL
namespace DL
open PySem PySem.Spec PyProof.Rows L2 ST
end DL
namespace DL
open PySem PySem.Spec PyProof.Rows L2 DX
end DL
namespace DL
open PySem PySem.Spec PyProof.Rows L2 ST PySem.SetTable
section
variable {t:SetTable}{es:Array (Int×Value)}{L:List (Nat×Int×Value)}
theorem rZ (T:Tab t es L) (h:Int) (n0:Nat) (hf:pos t.mask h n0∉L.map (·.1)) (hb:∀m,m < n0->pos t.mask h m∈L.map (·.1)):
  ∀(d n F:Nat),n0 - n=d->n<=n0->d < F->probe.go t (fun _=>h + 1) h F (st t.mask h n)=some (.empty (pos t.mask h n0) none)
 | d,n,0,_,_,h=>absurd h (Nat.not_lt_zero _)
 | d,n,F + 1,hd,hn,hF=>by
  by_cases c:n=n0
  ·subst c
   unfold probe.go
   rw [sC T.dm (by rw [T.pl];exact hf)]
   show some (Met.empty _ (st t.mask h n).dummy)=_
   rw [ny]
  ·obtain ⟨e,he,ej⟩:=List.mem_map.mp (hb n (by omega))
   obtain ⟨i,hi,rfl⟩:=List.mem_iff_getElem.mp he
   have hs:t.slot (pos t.mask h n)=.live i:=oJ T.sop (by rw [(T.at_ (List.getElem?_eq_getElem hi)).1,ej])
   have eg:probe.go t (fun _=>h + 1) h (F + 1) (st t.mask h n)=probe.go t (fun _=>h + 1) h F (st t.mask h (n + 1)):=by
    rw [probe.go,hs]
    show (if (h + 1 == h)=true then _ else _)=_
    rw [if_neg (by rw [beq_iff_eq];omega)]
    rfl
   rw [eg]
   exact rZ T h n0 hf hb (n0 - (n + 1)) (n + 1) F rfl (by omega) (by omega)
theorem BX (T:Tab t es L) (h:Int) (n0:Nat) (hf:pos t.mask h n0∉L.map (·.1)) (hb:∀m,m < n0->pos t.mask h m∈L.map (·.1)) (hn0:n0<=10 * (t.mask + 12)):t.freeSlot h=some (pos t.mask h n0,false):=by
 have e:t.probe (fun _=>h + 1) h (t.probeStart h)=some (.empty (pos t.mask h n0) none):=rZ T h n0 hf hb n0 0 (10 * turns t.mask) rfl (Nat.zero_le _) (by unfold turns;omega)
 unfold SetTable.freeSlot
 rw [e]
 rfl
theorem GD (T:Tab t es L) (h:Int) (x:Value) (n0:Nat) (hf:pos t.mask h n0∉L.map (·.1)) (hb:∀m,m < n0->pos t.mask h m∈L.map (·.1)) (hn0:n0<=10 * (t.mask + 12)) (hl:L.length + 1<=t.mask):
  layNew t es h x=(insertAt es (t.put (pos t.mask h n0)).2 (h,x),(t.put (pos t.mask h n0)).1,false,false):=by
 obtain ⟨L',T',_⟩:=T.put h x n0 hf hb (xM _ _ _) hl
 have fit:=cH T'
 unfold layNew
 rw [BX T h n0 hf hb hn0]
 dsimp only
 unfold SetTable.orStandIn
 rw [fit]
 rfl
theorem D5 {mask finger moves:Nat}{led plain:Bool}{t':SetTable}{order:Array Nat}(hm:kO mask) (hl:es.size<=mask) (e:laid mask finger moves led plain (es.map (·.1))=some (t',order)):order.toList.Perm (List.range es.size):=by
 obtain ⟨owner,G,e0,O⟩:=B_ hm (es.map (·.1)) (by simpa using hl)
 have hlen:G.length=es.size:=by rw [O.ln];simp
 (let live:=(List.range (mask + 1)).filterMap fun j=>(owner.getD j none).map (j,·))
 have lv:∀p,p∈live↔p.1∈G/\p.2=G.idxOf p.1:=fun p=>by
  show p∈(List.range (mask + 1)).filterMap _↔_
  rw [List.mem_filterMap]
  constructor
  ·rintro ⟨j,hj,q⟩
   have hj':j<=mask:=by have:=List.mem_range.mp hj;omega
   rw [O.at_ j hj'] at q
   by_cases c:j∈G
   ·rw [if_pos c] at q
    have q:(j,G.idxOf j)=p:=by simpa using q
    subst q
    exact ⟨c,rfl⟩
   ·rw [if_neg c] at q;exact absurd q (by simp)
  ·rintro ⟨h1,h2⟩
   refine ⟨p.1,List.mem_range.mpr (by have:=O.bd _ h1;omega),?_⟩
   rw [O.at_ _ (O.bd _ h1),if_pos h1]
   show some (p.1,G.idxOf p.1)=some p
   rw [<-h2]
 have so1:live.Pairwise fun a b=>a.1 < b.1:=by
  show ((List.range (mask + 1)).filterMap _).Pairwise _
  rw [List.pairwise_filterMap]
  refine List.pairwise_lt_range.imp ?_
  intro a b hab x hx y hy
  cases q1:owner.getD a none with
  | none=>rw [q1] at hx;exact absurd hx (by simp)
  | some k1=>cases q2:owner.getD b none with
   | none=>rw [q2] at hy;exact absurd hy (by simp)
   | some k2=>
    rw [q1] at hx;rw [q2] at hy
    have hx:(a,k1)=x:=by simpa using hx
    have hy:(b,k2)=y:=by simpa using hy
    subst hx;subst hy;exact hab
 have ord:(live.map (·.2)).Perm (List.range es.size):=by
  rw [List.perm_ext_iff_of_nodup _ List.nodup_range]
  ·intro k
   rw [List.mem_map,List.mem_range]
   constructor
   ·rintro ⟨p,hp,rfl⟩
    obtain ⟨h1,h2⟩:=(lv p).mp hp
    rw [h2,<-hlen]
    exact List.idxOf_lt_length_of_mem h1
   ·intro hk
    rw [<-hlen] at hk
    exact ⟨(G[k],k),(lv _).mpr ⟨List.getElem_mem _,(O.nd.idxOf_getElem k hk).symm⟩,rfl⟩
  ·show (live.map (·.2)).Pairwise _
   rw [List.pairwise_map]
   refine (List.Pairwise.and_mem.mp so1).imp ?_
   rintro a b ⟨ha,hb,hab⟩ z
   obtain ⟨a1,a2⟩:=(lv a).mp ha
   obtain ⟨b1,b2⟩:=(lv b).mp hb
   rw [a2,b2] at z
   have ga:=List.getElem_idxOf (List.idxOf_lt_length_of_mem a1)
   have gb:=List.getElem_idxOf (List.idxOf_lt_length_of_mem b1)
   have:a.1=b.1:=by
    rw [<-ga,<-gb]
    congr 1
   omega
 unfold laid at e
 rw [e0] at e
 have e1:(live.map (·.2)).toArray=order:=by
  have:=Option.some.inj e
  exact congrArg Prod.snd this
 rw [<-e1]
 exact ord
theorem CS {w:Nat}(hm:kO (sizeAbove w - 1)) (hl:es.size<=sizeAbove w - 1):∃t' es' L',relayAll t es w=(es',t',false)/\t'.mask=sizeAbove w - 1/\t'.led=t.led/\t'.plain=t.plain/\Tab t' es' L'/\es'.toList.Perm es.toList:=by
 obtain ⟨t',order,L',e1,e2,e3,e4,e5,e6⟩:=uI (t:=t) (es:=es) hm hl
 have od:order.toList.Perm (List.range es.size):=D5 hm hl e1
 refine ⟨t',order.filterMap (es[·]?),L',?_,e2,e3,e4,e5,e6⟩
 unfold relayAll
 rw [e1]
 dsimp only
 have c1:coversAll order es.size=true:=by unfold coversAll;exact List.isPerm_iff.mpr od
 rw [c1,cH e5]
 rfl
end
end DL
namespace DL
open PySem PySem.Spec PyProof.Rows L2 ST
inductive eX:List (Int×Value)->List Int->Prop
 | nil:eX [] []
 | cons {i:Int}{k:Tok}{es:List (Int×Value)}{ns:List Int}:eX es ns->eX ((hashInt i,.int i k)::es) (i::ns)
theorem eX.perm {es es':List (Int×Value)}(p:es.Perm es'):∀{ns:List Int},eX es ns->∃ns',ns.Perm ns'/\eX es' ns':=by
 induction p with
 | nil=>intro ns h;exact ⟨ns,.refl _,h⟩
 | cons x _ ih=>
  intro ns h
  cases h with
  | cons h3=>obtain ⟨ns',a,b⟩:=ih h3;exact ⟨_,a.cons _,.cons b⟩
 | swap x y l=>
  intro ns h
  cases h with
  | cons h3=>cases h3 with
   | cons h6=>exact ⟨_,.swap _ _ _,.cons (.cons h6)⟩
 | trans _ _ ih1 ih2=>
  intro ns h
  obtain ⟨k1,a,b⟩:=ih1 h
  obtain ⟨k2,c,d⟩:=ih2 b
  exact ⟨k2,a.trans c,d⟩
theorem eX.length {es:List (Int×Value)}{ns:List Int}(h:eX es ns):es.length=ns.length:=by
 induction h with
 | nil=>rfl
 | cons _ ih=>simp [ih]
structure jm (h:Heap) (a:Addr) (led:Bool) (ns:List Int) (es:Array (Int×Value)) (ep:Nat) (t:SetTable):Prop where
 at_:h.get? a=some {cls:=.type "set",dict:=none,data:=.set es ep t}
 tab:∃L,Tab t es L
 pl:t.plain=true
 ld:t.led=led
 rm:ns.length * 5 < t.mask * 3
 en:eX es.toList ns
 nd:ns.Nodup
section
variable {w:World}{prog:Program}{E:Value->Shared->Prop}{A:Around}{s:Shared}
theorem eX.elems {es:List (Int×Value)}{ns:List Int}(h:eX es ns):ElemsOf (intKind prog w) es:=by
 induction h with
 | nil=>exact fun e he=>nomatch he
 | @cons i k es ns _ ih=>
  intro e he
  (rcases List.mem_cons.mp he with rfl | he)
  ·exact ⟨⟨i,intKind_is _ _ _ _,rfl⟩,rfl⟩
  ·exact ih e he
theorem eX.find {es:List (Int×Value)}{ns:List Int}(h:eX es ns) (i:Int):(es.findIdx? fun e=>(intKind prog w).is i e.2)=none↔i∉ns:=by
 rw [List.findIdx?_eq_none_iff]
 induction h with
 | nil=>simp
 | @cons j k es ns _ ih=>
  rw [List.mem_cons,not_or,<-ih]
  have e:(intKind prog w).is i (.int j k)=decide (i=j):=KeyKind.is_eq_decide (intKind_is prog w j k) i
  constructor
  ·intro h
   refine ⟨fun z=>?_,fun x hx=>h x (List.mem_cons_of_mem _ hx)⟩
   have:=h _ List.mem_cons_self
   rw [e,z] at this
   simp at this
  ·rintro ⟨h1,h2⟩ x hx
   (rcases List.mem_cons.mp hx with rfl | hx)
   ·rw [e];simpa using h1
   ·exact h2 x hx
theorem add_int {a:Addr}{es:Array (Int×Value)}{ep:Nat}{t:SetTable}{led:Bool}{ns:List Int}{i:Int}{k:Tok}{Q:Bool->Shared->Prop}(S:jm s.heap a led ns es ep t) (hl:ns.length < 76)
  (q1:i∈ns->Q false s) (q2:i∉ns->∀(h':Heap) ns' es' ep' t',Heap.SameBut a s.heap h'->(i::ns).Perm ns'->jm h' a led ns' es' ep' t'->Q true {s with heap:=h'}):
  wpAny (model prog w) A (setAddHashed a (.int i k) (hashInt i)) Q E s:=by
 obtain ⟨L,T⟩:=S.tab
 have lenL:L.length=ns.length:=by rw [mH T,<-Array.length_toList,S.en.length]
 have hes:es.size=ns.length:=by rw [<-Array.length_toList,S.en.length]
 obtain ⟨n0,b1,b2,b3⟩:=qY T.mo (hashInt i) (L.map (·.1)) (by rw [List.length_map];exact T.fl)
 (unfold setAddHashed setAddHashedIn)
 refine wpAny_holding (wpAny_bind (wpAny_setState_of S.at_ rfl (cH T) ?_))
 dsimp only
 have sc:byScan (.int i k) es=true:=byScan_of (prog:=prog) (w:=w) (knd:=intKind prog w) rfl (by unfold scanBound;omega) S.en.elems
 rw [sc]
 simp only [if_true]
 unfold setAddByScan
 refine wpAny_bind ?_
 (refine wpAny_bind (wpAny_rule ?_))
 refine wpAny_bind (wpAny_setScan_of (knd:=intKind prog w) (k:=i) (intKind_is _ _ _ _) S.at_ rfl (cH T) S.en.elems ?_)
 cases hr:List.findIdx? (fun e=>(intKind prog w).is i e.2) es.toList with
 | some j=>
  dsimp only
  have hin:i∈ns:=Classical.byContradiction fun z=>by
   have:=(S.en.find (prog:=prog) (w:=w) i).mpr z
   rw [hr] at this;cases this
  exact wpAny_pure (wpAny_pure (q1 hin))
 | none=>
  dsimp only
  have hm:i∉ns:=(S.en.find i).mp hr
  have rm:=S.rm
  have ln:=GD T (hashInt i) (.int i k) n0 b2 b3 b1 (by rcases T.mo with h | h | h <;> rw [h] at rm ⊢ <;> omega)
  rw [ln]
  dsimp only
  (refine wpAny_bind (wpAny_of_eq (a:=()) rfl ?_))
  obtain ⟨L',T',pm⟩:=T.put (hashInt i) (.int i k) n0 b2 b3 (xM _ _ _) (by rcases T.mo with h | h | h <;> rw [h] at rm ⊢ <;> omega)
  have fl:(t.put (pos t.mask (hashInt i) n0)).1.mask=t.mask/\(t.put (pos t.mask (hashInt i) n0)).1.plain=t.plain/\(t.put (pos t.mask (hashInt i) n0)).1.led=t.led:=⟨rfl,rfl,rfl⟩
  generalize t.put (pos t.mask (hashInt i) n0)=tp at T' fl ⊢
  obtain ⟨t',p⟩:=tp
  dsimp only at T' fl ⊢
  obtain ⟨f1,f2,f3⟩:=fl
  obtain ⟨ns',p1,p2⟩:∃ns',(i::ns).Perm ns'/\eX (SetTable.insertAt es p (hashInt i,.int i k)).toList ns':=by
   refine eX.perm (es:=(hashInt i,.int i k)::es.toList) ?_ (.cons S.en)
   rw [T'.en,T.en]
   exact (pm.map (·.2)).symm
  have nd':ns'.Nodup:=p1.nodup_iff.mp (List.nodup_cons.mpr ⟨hm,S.nd⟩)
  have lk:ns'.length=ns.length + 1:=by rw [<-p1.length_eq];rfl
  rw [f2,S.pl]
  simp only [if_true]
  (refine wpAny_bind (wpAny_of_eq (a:=true) rfl ?_))
  simp only [if_true]
  have esz:(SetTable.insertAt es p (hashInt i,Value.int i k)).size=ns'.length:=by rw [<-Array.length_toList,p2.length]
  refine wpAny_bind (wpAny_storeSet_of S.at_ rfl ?_ (by rw [esz,sizeLine_eq];omega))
  have hg:=Heap.get?_update_self (Obj.putSet (SetTable.insertAt es p (hashInt i,.int i k)) t') S.at_ rfl
  have hfill:t'.fill=ns'.length:=by
   unfold SetTable.fill
   rw [T'.dm,<-Array.length_toList,T'.pl,List.length_map,mH T',esz]
   rfl
  split
  ·rename_i c
   simp only [Bool.not_false,Bool.true_and] at c
   unfold SetTable.tooFull at c
   rw [hfill,f1,decide_eq_true_eq] at c
   have hW:(SetTable.sizeAbove (SetTable.grown ns'.length)=32/\ns'.length=5)\/(SetTable.sizeAbove (SetTable.grown ns'.length)=128/\ns'.length=19):=by
    unfold SetTable.grown
    rw [if_neg (by omega)]
    rcases T.mo with h | h | h
    ·rw [h] at c rm
     have:ns'.length=5:=by omega
     rw [this]
     exact .inl ⟨yY,rfl⟩
    ·rw [h] at c rm
     have:ns'.length=19:=by omega
     rw [this]
     exact .inr ⟨yZ,rfl⟩
    ·rw [h] at c;omega
   have hmo:kO (SetTable.sizeAbove (SetTable.grown ns'.length) - 1):=by rcases hW with ⟨h,_⟩ | ⟨h,_⟩ <;> rw [h];exact .inr (.inl rfl);exact .inr (.inr rfl)
   rw [esz]
   obtain ⟨t2,es2,L2,g1,g2',g3,g4,g5,g6⟩:=CS (t:=t') (es:=SetTable.insertAt es p (hashInt i,.int i k)) hmo (by rw [esz];rcases hW with ⟨h,h'⟩ | ⟨h,h'⟩ <;> rw [h] <;> omega)
   rw [g1]
   dsimp only
   (refine wpAny_bind (wpAny_of_eq (a:=()) rfl ?_))
   obtain ⟨ns2,r1,r2⟩:=p2.perm g6.symm
   have es2z:es2.size=ns'.length:=by rw [<-Array.length_toList,r2.length,r1.length_eq]
   refine wpAny_bind (wpAny_storeSet_of (s:={s with heap:=s.heap.update a (Obj.putSet (SetTable.insertAt es p (hashInt i,.int i k)) t')}) hg rfl ?_ (by rw [es2z,sizeLine_eq];omega))
   have NJ:=Heap.get?_update_self (Obj.putSet es2 t2) hg rfl
   refine wpAny_pure (wpAny_pure (q2 hm _ ns2 _ _ _ ((Heap.SameBut.update _ _ _).trans (Heap.SameBut.update _ _ _)) (p1.trans r1) ⟨NJ,⟨L2,g5⟩,g4.trans (f2.trans S.pl),g3.trans (f3.trans S.ld),?_,r2,r1.nodup_iff.mp nd'⟩))
   rw [<-r1.length_eq,g2']
   rcases hW with ⟨h,h'⟩ | ⟨h,h'⟩ <;> rw [h,h'] <;> omega
  ·rename_i c
   simp only [Bool.not_false,Bool.true_and] at c
   unfold SetTable.tooFull at c
   rw [hfill,f1,decide_eq_true_eq] at c
   exact wpAny_pure (wpAny_pure (q2 hm _ ns' _ _ _ (Heap.SameBut.update _ _ _) p1 ⟨hg,⟨L',T'⟩,f2.trans S.pl,f3.trans S.ld,by rw [f1];omega,p2,nd'⟩))
end
theorem jm.keep {h h':Heap}{a:Addr}{led:Bool}{ns:List Int}{es:Array (Int×Value)}{ep:Nat}{t:SetTable}(S:jm h a led ns es ep t) (e:∀o,h.get? a=some o->h'.get? a=some o):jm h' a led ns es ep t:=
 ⟨e _ S.at_,S.tab,S.pl,S.ld,S.rm,S.en,S.nd⟩
section
variable {w:World}{prog:Program}{R:Result->Shared->Prop}{A:Around}{I:Addr}{fp wr:List Addr}{G:Array GenState->Array GenState->Prop}{n:Nat}{P:Nat->Value->Prop}{St:Nat->Shared->Prop}
theorem Di (W:WalksS prog w A.in1 I fp wr G n P St) (S:Addr) (hSf:S∉fp) (val:Nat->Int) (hval:∀i v,P i v->∃t,v=.int (val i) t) (hn:n<=76){led:Bool}:
  ∀(k i:Nat) (s:Shared) (ns:List Int) (es:Array (Int×Value)) (ep:Nat) (t:SetTable),n - i=k->i<=n->St i s->jm s.heap S led ns es ep t->(∀d,d∈ns↔d∈(List.range i).map val)->
   (∀s' ns' es' ep' t',Moved (S::wr) G s s'->jm s'.heap S led ns' es' ep' t'->(∀d,d∈ns'↔d∈(List.range n).map val)->R (.ok (.ret .none)) s')->
   (codeAny (model prog w) A (.builtin "set.update.loop" ⟨[.ref S,.ref I],[]⟩) R s):=by
 (have NW:S∉wr:=fun h=>hSf (W.sub _ h))
 (have hsub:∀b∈wr,b∈S::wr:=fun b hb=>List.mem_cons_of_mem _ hb)
 intro k
 induction k with
 | zero=>
  intro i s ns es ep t hk hi hst hS hm hR
  have hin:i=n:=by omega
  subst hin
  refine codeAny_builtin PyProof.Rows.F.entry_set_update_loop ?_
  rw [Around.under_plainId PyProof.Rows.F.plain_set_update_loop _]
  (show wpAny _ A.in1 (pyNext (.ref I) >>= _) _ _ s)
  refine wpAny_bind (W.done s _ _ hst fun s' Ny=>?_)
  (show wpAny _ A.in1 (ret Value.none) _ _ s')
  exact wpAny_pure (hR s' ns es ep t (Ny.mono hsub) (hS.keep fun o e=>Ny.heap S o NW e) hm)
 | succ k ih=>
  intro i s ns es ep t hk hi hst hS hm hR
  have hlt:i < n:=by omega
  have hlen:ns.length<=i:=by
   have:=List.Nodup.length_le_of_subset hS.nd (fun d hd=>(hm d).mp hd)
   simpa using this
  refine codeAny_builtin PyProof.Rows.F.entry_set_update_loop ?_
  rw [Around.under_plainId PyProof.Rows.F.plain_set_update_loop _]
  (show wpAny _ A.in1 (pyNext (.ref I) >>= _) _ _ s)
  refine wpAny_bind (W.item i s _ _ hlt hst fun v s' hP NF Ny=>?_)
  obtain ⟨tk,rfl⟩:=hval i v hP
  have hS':=hS.keep (h':=s'.heap) fun o e=>Ny.heap S o NW e
  have mem':∀(ns':List Int),(∀d,d∈ns'↔d=val i\/d∈ns)->∀d,d∈ns'↔d∈(List.range (i + 1)).map val:=fun ns' h d=>by
   rw [h d,hm d,List.range_succ,List.map_append,List.mem_append]
   simp only [List.map_cons,List.map_nil,List.mem_singleton]
   exact Or.comm
  show wpAny _ A.in1 (holding [.int (val i) tk] (setAdd S (.int (val i) tk)) >>= _) _ _ s'
  (refine wpAny_bind (wpAny_holding ?_))
  unfold setAdd
  refine wpAny_holding ?_
  (refine wpAny_bind (wpAny_pyHash_int ?_))
  refine add_int (s:={s' with toks:=s'.toks + 1}) hS' (by omega) (fun hin=>?_) (fun hin h' ns' es' ep' t' NV Ow N8=>?_)
  ·refine wpAny_pure ⟨plainId_quiet PyProof.Rows.F.plain_set_update_loop _,ih (i + 1) _ ns es ep t (by omega) hlt (W.frame _ s' _ _ NF (Nat.le_succ _) fun b hb o e=>e) hS' (mem' ns fun d=>⟨.inr,fun h=>h.elim (fun h=>h▸hin) id⟩) fun s'' ns'' es'' ep'' t'' hm'' hS'' NH=>?_⟩
   exact hR s'' ns'' es'' ep'' t'' (Moved.trans W.gtrans ((Ny.mono hsub).then_heap (Nat.le_succ _) fun b o hb e=>e) hm'') hS'' NH
  ·refine wpAny_pure ⟨plainId_quiet PyProof.Rows.F.plain_set_update_loop _,ih (i + 1) _ ns' es' ep' t' (by omega) hlt (W.frame _ s' _ _ NF (Nat.le_succ _) fun b hb o e=>?_) N8 (mem' ns' fun d=>?_) fun s'' ns'' es'' ep'' t'' hm'' hS'' NH=>?_⟩
   ·(rw [NV.2 b (fun h:b=S=>hSf (by rw [<-h];exact hb))];exact e)
   ·rw [<-Ow.mem_iff,List.mem_cons]
   ·refine hR s'' ns'' es'' ep'' t'' (Moved.trans W.gtrans ((Ny.mono hsub).then_heap (Nat.le_succ _) fun b o hb e=>?_) hm'') hS'' NH
    (rw [NV.2 b (fun h:b=S=>hb (by rw [h];exact List.mem_cons_self))];exact e)
end
theorem Bb {h:Heap}{a:Addr}{led:Bool}(e:h.get? a=some {cls:=.type "set",dict:=none,data:=.set #[] 0 (.fresh 0 0 led)}):jm h a led [] #[] 0 (.fresh 0 0 led):=
 ⟨e,⟨[],⟨rfl,rfl,rfl,List.Pairwise.nil,(fun _ h=>nomatch h),.inl rfl,Nat.zero_le _,(fun _ h=>nomatch h)⟩⟩,rfl,rfl,(show 0 * 5 < 7 * 3 by decide),.nil,List.nodup_nil⟩
section
variable {w:World}{prog:Program}{A:Around}{s:Shared}{E:Value->Shared->Prop}
theorem vA {l:Addr}{items:Array Value}{ds:List Int}{Q:Value->Shared->Prop}(hh:A.handled=none) (hl:s.heap.IsTuple l items) (hz:items.size=ds.length) (hi:∀(i:Nat) (v:Value),items[i]?=some v->∃t,v=.int (ds.getD i 0) t) (hn:ds.length<=76)
  (h:∀(h':Heap) (tk:Nat) ks es ep t,jm h' s.heap.objs.size (cF w) ks es ep t->(∀d,d∈ks↔d∈ds)->(∀b o,b < s.heap.objs.size->s.heap.get? b=some o->h'.get? b=some o)->Q (.ref s.heap.objs.size) {s with heap:=h',toks:=tk}):
  (wpAny (model prog w) A (call (.type "set") [.ref l]) Q E s):=by
 (obtain ⟨c,tl,Oo⟩:=F.called_set.mro)
 (have hmade:=F.called_set.made)
 have hsub:=F.called_set.sub
 (refine wpAny_call (codeAny_of_tree ?_))
 (show wpAny _ _ (callAny (.type "set") _) _ _ _)
 (refine wpAny_pure ⟨Code.quiet_builtin _ (by decide +kernel),codeAny_builtin F.entry_type_call ?_⟩)
 (rw [Around.under_plain (weight_type_call_type "set" [.ref l] []) rfl])
 (have h1:=F.called_set.notType)
 (have h2:=F.called_set.canCreate)
 have hct:=PySem.F.typeCall_set_1 (.ref l)
 (repeat (any_goals (first | assumption | wp_step)))
 refine codeAny_mono (yc (.ref l) (E:=E) (Q₁:=fun obj s₁=>obj=.ref s.heap.objs.size/\s₁={s with heap:=s.heap.push (eG (cF w))}) ⟨rfl,rfl⟩) fun r s₁ hr=>?_
 cases r with
 | error e=>exact hr
 | ok fl=>
  cases fl with
  | ret obj=>
   obtain ⟨rfl,rfl⟩:=hr
   have hS:(s.heap.push (eG (cF w))).get? s.heap.objs.size=some (eG (cF w)):=Heap.get?_push_size _ rfl
   have hT:Shared.TypeIs {s with heap:=s.heap.push (eG (cF w))} (.ref s.heap.objs.size) "set":=⟨_,hS,rfl⟩
   (have hli:=F.called_set.init.lookup)
   (have hbi:=F.called_set.init.bind (.ref s.heap.objs.size))
   (repeat (any_goals (first | assumption | wp_step)))
   refine codeAny_mono (codeAny_call_builtin (R:=wants (fun r s₂=>r=.none/\∃h' tk ks es ep t,s₂={s with heap:=h',toks:=tk}/\jm h' s.heap.objs.size (cF w) ks es ep t/\(∀d,d∈ks↔d∈ds)/\
     (∀b o,b < s.heap.objs.size->s.heap.get? b=some o->h'.get? b=some o)) E) F.called_set.init.plain F.entry_set_init ((check_set_init_1 hT ?_))) fun r₂ s₂ hr₂=>?_
   ·obtain ⟨ol,N3,hcl,nl,hdl⟩:=id hl
    have ND:(s.heap.push (eG (cF w))).get? l=some ol:=Heap.get?_push_of_some _ N3
    have OB:=uS
    have OA:=uR
    have hne:(Value.type "tuple" == Value.type "dict")=false:=by decide
    have hl1:(s.heap.push (eG (cF w))).IsTuple l items:=⟨_,ND,hcl,nl,hdl⟩
    have OO:Shared.TypeIs {s with heap:=s.heap.push (eG (cF w))} (.ref l) "tuple":=⟨_,ND,hcl⟩
    (unfold Builtin.«set.__init__» noKeywords Builtin.Frozenset.updateFrom)
    generalize N7:pyIter=PI
    wp_walk
    subst N7
    refine (wpAny_pyIter_tuple hl1 ?_)
    refine (wpAny_bind (wpAny_runValue ?_))
    (have hlS:l < s.heap.objs.size:=Heap.lt_size N3)
    have z1:(s.heap.push (eG (cF w))).objs.size=s.heap.objs.size + 1:=Heap.size_push _ _
    have NR:l≠(s.heap.push (eG (cF w))).objs.size:=by rw [z1];exact Nat.ne_of_lt (Nat.lt_succ_of_lt hlS)
    have hSf:s.heap.objs.size∉[(s.heap.push (eG (cF w))).objs.size,l]:=by
     rw [z1]
     simp only [List.mem_cons,List.not_mem_nil,or_false,not_or]
     (exact ⟨Nat.ne_of_lt (Nat.lt_succ_self _),Nat.ne_of_gt hlS⟩)
    have hno:∀b,s.heap.objs.size<=b->s.heap.get? b=none:=fun b hb=>by
     cases q:s.heap.get? b with
     | none=>rfl
     | some o=>exact absurd (Heap.lt_size q) (Nat.not_lt.mpr hb)
    have hval:∀(i:Nat) (v:Value),items[i]?=some v->∃t,v=.int (ds.getD i 0) t:=hi
    have all:(List.range items.size).map (fun i=>ds.getD i 0)=ds:=by
     refine List.ext_getElem (by simp [hz]) fun i a b=>?_
     simp [b]
    refine Di (A:=A.in1.in1) (led:=cF w) ((Walks.tuple (A:=A.in1.in1.in1) (by simp [hh]) (s.heap.push (eG (cF w))).objs.size l NR items).toS) s.heap.objs.size hSf (fun i=>ds.getD i 0) hval (by omega) items.size 0 _ [] #[] 0 (.fresh 0 0 (cF w)) (by omega) (Nat.zero_le _) ⟨⟨_,Heap.get?_push_size _ rfl,rfl,rfl⟩,hl1.push _⟩ (Bb (Heap.get?_push_of_some _ hS)) (fun d=>by simp) fun s' ks es ep t hm hS' hmem=>?_
    ·rw [all] at hmem
     (obtain ⟨h',g',d',tk',os'⟩:=s')
     (have eg:g'=s.gens:=hm.gens)
     (have ed:d'=s.drawn:=hm.drawn)
     have eo:os'=s.os:=hm.os
     subst eg;subst ed;subst eo
     show wpAny _ _ _ _ _ _
     refine wpAny_pure ?_
     (show wpAny _ _ (ret Value.none) _ _ _)
     refine wpAny_pure ⟨rfl,h',tk',ks,es,ep,t,rfl,hS',hmem,fun b o hb e=>?_⟩
     refine hm.heap b o ?_ (Heap.get?_push_of_some _ (Heap.get?_push_of_some _ e))
     rw [z1]
     simp only [List.mem_cons,List.not_mem_nil,or_false,not_or]
     exact ⟨Nat.ne_of_lt hb,Nat.ne_of_lt (Nat.lt_succ_of_lt hb)⟩
   ·cases r₂ with
    | error e=>exact hr₂
    | ok fl₂=>
     cases fl₂ with
     | ret r=>
      obtain ⟨rfl,h',tk,ks,es,ep,t,rfl,hS',hm',hk'⟩:=hr₂
      (repeat (any_goals (first | assumption | wp_step)))
      exact h _ _ _ _ _ _ hS' hm' hk'
     | _=>exact hr₂.elim
  | _=>exact hr.elim
end
end DL
namespace DL
open PySem PySem.Spec PyProof.Rows L2 ST DX
open PySem.W (KasT kas_sort kas_ask)
theorem jm.wk {h:Heap}{a:Addr}{led:Bool}{ns:List Int}{es:Array (Int×Value)}{ep:Nat}{t:SetTable}(S:jm h a led ns es ep t):i8 h a led es ep t:=⟨S.at_,S.tab,S.pl,S.ld⟩
def zV:D->Int
 | .int i=>i
 | _=>0
theorem K2 {ds:List D}(h:ds.all isInt=true):ds=(ds.map zV).map .int:=by
 induction ds with
 | nil=>rfl
 | cons d r ih=>
  rw [List.all_cons,Bool.and_eq_true] at h
  cases d with
  | int i=>rw [List.map_cons,List.map_cons,<-ih h.2];rfl
  | _=>cases h.1
abbrev nq (X:Cx) (a:Addr) (ms:List Int):HO:=.ext fun h=>∃ns es ep t,jm h a (cF X.w) ns es ep t/\∀d,d∈ns↔d∈ms
theorem int_at {K:W.Frag}{J:Hp}{ms:List Int}{vs:List V}{us:List Value}(rs:aF K J (ms.map .int) vs) (rv:Vals vs us):∀(i:Nat) (v:Value),us.toArray[i]?=some v->∃t,v=.int (ms.getD i 0) t:=fun i v q=>by
 have l1:vs.length=us.length:=rv.length
 have l2:(ms.map D.int).length=vs.length:=rs.length
 have hi:i < us.length:=by
  have:=(Array.getElem?_eq_some_iff.mp q).1
  simpa using this
 have e:us.getD i Value.none=v:=by
  simp at q
  simp [List.getD,q]
 have r1:=eH rs (i:=i) (by omega)
 have r2:=eK rv (i:=i) (by omega)
 rw [e] at r2
 have lm:i < ms.length:=by rw [List.length_map] at l2;omega
 have e2:cI (ms.map D.int) i=.int (ms.getD i 0):=by
  unfold cI
  simp [List.getD,lm]
 rw [e2] at r1
 generalize vs.getD i V.non=vv at r1 r2
 cases r1
 exact r2
section
variable {X:Cx}
theorem BI (hc:X.calm=true):bQ X (.type "set") (fun xs H Q=>∃p vs ms J0,xs=[.ref p]/\cQ X.K H p vs/\aF X.K J0 (ms.map .int) vs/\ms.length < 64/\∀l,H l=none->Q (.ref l) (upd H l (nq X l ms))):=by
 intro pins s σ H xs us Q I r h
 obtain ⟨p,vs,ms,J0,rfl,hq,rs,l64,q⟩:=h
 obtain ⟨u,rfl,rx⟩:=vals1 r
 cases rx
 have hh:X.A.handled=none:=I.ok.hd hc
 have fr:H s.heap.objs.size=none:=I.hok.fresh (Nat.le_refl _)
 obtain ⟨its,r',pt,hz⟩:=I.tuple hq
 have lm:(ms.map D.int).length=vs.length:=rs.length
 rw [List.length_map] at lm
 refine vA hh pt (by simp [<-r'.length,lm]) (int_at rs r') (by omega) fun h' tk ks es ep t S hm kp=>?_
 exact ⟨.ref s.heap.objs.size,_,I.laid (t':=tk) (fun b o e=>kp b o (Heap.lt_size e) e) (Nat.le_refl _) (show b9 X.prog X.w _ _ _ (nq X s.heap.objs.size ms) from ⟨⟨ks,es,ep,t,S,hm⟩,⟨_,S.at_⟩,fun h1 h2 ⟨ks,es,ep,t,S,hm⟩ e=>⟨ks,es,ep,t,S.keep e,hm⟩⟩),rfl,q _ fr⟩
theorem eX.reps {es:List (Int×Value)}{ns:List Int}(h:eX es ns):∃vs,(∀(K:W.Frag) (J:Hp),aF K J (ns.map .int) vs)/\Vals vs (es.map (·.2))/\IntsAre (es.map (·.2)) ns:=by
 induction h with
 | nil=>exact ⟨[],fun K J=>.nil,.nil,.nil⟩
 | @cons i k es ns _ ih=>
  obtain ⟨vs,h1,h2,h3⟩:=ih
  exact ⟨.int i::vs,fun K J=>.cons (.int _) (h1 K J),.cons ⟨k,rfl⟩ h2,.cons i k h3⟩
theorem yH (hc:X.calm=true):bQ X (.builtin "sorted") (fun xs H Q=>∃p ms,xs=[.ref p]/\H p=some (nq X p ms)/\ms.length < 64/\∀l vs',H l=none->(∀J0,aF X.K J0 (dc (ms.map .int)) vs')->Q (.ref l) (upd H l (.lst vs'))):=by
 intro pins s σ H xs us Q I r h
 obtain ⟨p,ms,rfl,hp,l64,q⟩:=h
 obtain ⟨u,rfl,rx⟩:=vals1 r
 cases rx
 have hh:X.A.handled=none:=I.ok.hd hc
 obtain ⟨⟨ns,es,ep,t,S,hm⟩,_⟩:=(show b9 X.prog X.w H s.heap p (nq X p ms) from I.hok p _ hp)
 obtain ⟨ns',pm,en'⟩:=S.en.perm (lK X.w p ep es).symm
 have nd':ns'.Nodup:=pm.nodup_iff.mp S.nd
 have hm':∀d,d∈ns'↔d∈ms:=fun d=>by rw [<-pm.mem_iff,hm d]
 obtain ⟨vs,rs,rv,hI⟩:=en'.reps
 have hv:iF X.w p ep es=(fN X.w p ep es).toList.map (·.2):=rfl
 rw [<-hv] at rv hI
 generalize hits:iF X.w p ep es=its at rv hI
 have l1:vs.length=its.length:=rv.length
 have l2:(ns'.map D.int).length=vs.length:=(rs X.K H).length
 have len:ns'.length<=ms.length:=List.Nodup.length_le_of_subset nd' fun d hd=>(hm' d).mp hd
 have les:es.size=ns'.length:=by rw [<-Array.length_toList,S.en.length,pm.length_eq]
 have ndD:(ns'.map D.int).Nodup:=List.pairwise_map.mpr (List.Pairwise.imp (fun h e=>h (by cases e;rfl)) nd')
 have Om:∀d,d∈ns'.map D.int↔d∈ms.map D.int:=fun d=>by simp only [List.mem_map,hm']
 have allI:∀d∈ms.map D.int,jJ .i d:=fun d hd=>by obtain ⟨i,_,rfl⟩:=List.mem_map.mp hd;exact ⟨i,rfl⟩
 have out:=yh (iE .i) allI ndD Om
 have lm:(ns'.map D.int).length=ns'.length:=List.length_map _
 generalize hk:ns'.map D.int=ks' at *
 have fin:∀(h':Heap) (tk:Nat) (l:Addr) (n:Nat) (ot:List Value) (vs':List V),vs'.length=vs.length->Vals vs' ot->(∀J0,aF X.K J0 (bq ks') vs')->(∀b o,s.heap.get? b=some o->h'.get? b=some o)->s.heap.objs.size<=l->h'.get? l=some (seqObj "list" ot.toArray n)->EP X pins σ Q (.ref l) {s with heap:=h',toks:=tk}:=fun h' tk l n ot vs' lv rv' rr kp hl hg=>by
  refine ⟨.ref l,_,I.laid (t':=tk) kp hl (show b9 X.prog X.w _ _ _ (.lst vs') from ⟨by rw [lv,sizeLine_eq];omega,ot,n,rv',by simpa [seqObj] using hg⟩),rfl,q l vs' (I.hok.fresh hl) (by rw [<-out];exact rr)⟩
 refine sortedS (κ:=oneType') (q:=ltB ks') (vs:=its) hits hh S.wk (by omega) ?_ fun h' tk l n kp hl hg=>?_
 ·by_cases h2:its.length < 2
  ·exact .inl h2
  ·refine .inr ⟨by omega,by omega,fun h' tk C kp cc=>?_,fun h' tk kp i j C hi hj cc=>?_⟩
   ·have hl:2<=its.length:=by omega
    clear fin l1 rv hits
    match its,hI,hl with
    | v1::v2::r,hI,_=>rw [keyKind_ints hI];exact wpAny_pure cc
   ·have hi':i < ks'.length:=by omega
    have hj':j < ks'.length:=by omega
    have ai:=allI _ ((Om _).mp (dY hi'))
    have aj:=allI _ ((Om _).mp (dY hj'))
    have r1:=eH (rs X.K H) hi'
    have r2:=eH (rs X.K H) hj'
    have v1:=eK rv (i:=i) (by omega)
    have v2:=eK rv (i:=j) (by omega)
    show wpAny _ _ (keyLt' oneType' (its.getD i Value.none) (its.getD j Value.none)) _ _ _
    rw [keyLt'_oneType]
    have e:ltB ks' i j=(cA (cI ks' i) (cI ks' j)).getD false:=rfl
    rw [e] at cc
    obtain ⟨a,ea⟩:=ai
    obtain ⟨b,eb⟩:=aj
    rw [ea] at r1 cc
    rw [eb] at r2 cc
    generalize vs.getD i V.non=wi at r1 v1
    generalize vs.getD j V.non=wj at r2 v2
    cases r1;cases r2
    obtain ⟨t1,q1⟩:=v1
    obtain ⟨t2,q2⟩:=v2
    rw [q1,q2]
    refine oneLt_int ?_
    unfold cA at cc
    exact cc
 ·by_cases h2:its.length < 2
  ·rw [if_pos h2] at hg
   refine fin h' tk l n its vs rfl rv ?_ kp hl hg
   unfold bq
   rw [if_pos (by omega)]
   exact fun J0=>rs _ J0
  ·rw [if_neg h2] at hg
   have ib:∀i∈(aU (ltB ks') (kas_sort ks'.length)).toList,i < ks'.length:=fun i hi=>by
    have:=((d_ (n:=ks'.length) (by omega)).run (ltB ks'):dZ _ _)
    have:=(Array.Perm.mem_iff this).mp (Array.mem_toList_iff.mp hi)
    simpa using this
   have e1:iK (ltB ks') its=(aU (ltB ks') (kas_sort ks'.length)).toList.map fun i=>its.getD i Value.none:=by unfold iK;rw [l2,l1]
   rw [e1] at hg
   refine fin h' tk l n _ _ ?_ (mJ rv _ fun i hi=>l2▸ib i hi) ?_ kp hl hg
   ·rw [List.length_map,<-l2]
    have:=((d_ (n:=ks'.length) (by omega)).run (ltB ks'):dZ _ _).size_eq
    simpa using this
   ·unfold bq
    rw [if_neg (by omega)]
    exact fun J0=>mC (rs _ J0) _ ib
end
end DL
namespace DL
open PySem PySem.Spec PyProof.Rows L2 ST DX
theorem BH:bootBuiltins "set"=some (.type "set"):=by decide +kernel
section
variable {X:Cx}{c:C}{e:Expr}{pos pos2:Pos}
def gI:List R->M R
 | [.d (.tup ys)]=>if oE ys=true then .ok (.l .fresh (dc ys)) else if pX ys=true then .ok (.l .fresh (dc ys)) else .bad
 | _=>.bad
def Kz (X:Cx):List V->Hp->VK->Prop:=fun xs H Q=>∃p vs ms J0,xs=[.ref p]/\cQ X.K H p vs/\aF X.K J0 (ms.map .int) vs/\ms.length < 64/\∀l,H l=none->Q (.ref l) (upd H l (nq X l ms))
def KA (X:Cx):List V->Hp->VK->Prop:=fun xs H Q=>∃p vs ds J0,xs=[.ref p]/\cQ X.K H p vs/\aP J0 H/\aF X.K J0 ds vs/\oE ds=true/\∀l,H l=none->Q (.ref l) (upd H l (nu X J0 l ds))
def EX (X:Cx):List V->Hp->VK->Prop:=fun xs H Q=>∃p ms,xs=[.ref p]/\H p=some (nq X p ms)/\ms.length < 64/\∀l vs',H l=none->(∀J0,aF X.K J0 (dc (ms.map .int)) vs')->Q (.ref l) (upd H l (.lst vs'))
def EY (X:Cx):List V->Hp->VK->Prop:=fun xs H Q=>∃p ds J0,xs=[.ref p]/\H p=some (nu X J0 p ds)/\aP J0 H/\oE ds=true/\∀l vs',H l=none->aF X.K J0 (dc ds) vs'->Q (.ref l) (upd H l (.lst vs'))
theorem Ez {p p2:Pos}{gs:G (List R)}(hu:X.A.units + 64 < cLine) (ha:jh X c [e] gs) (hm:X.mg "sorted"=none) (hm2:X.mg "set"=none) (hK:X.K=c.K:=by rfl) (hc:X.calm=true:=by rfl) (hg:Gl X "sorted":=by rfl) (NJ:Gl X "set":=by rfl)
  (he:starEach [.Call (.Name "set" p2) [e] [] pos2] X.env=(false,eval (.Call (.Name "set" p2) [e] [] pos2) X.env)::starEach [] X.env:=by rfl) (hpl:(backTo pos (starEach [] X.env)).any (·.1)=false:=by rfl)
  (NQ:starEach [e] X.env=(false,eval e X.env)::starEach [] X.env:=by rfl) (NT:(backTo pos2 (starEach [] X.env)).any (·.1)=false:=by rfl):
  PD X c (.Call (.Name "sorted" p) [.Call (.Name "set" p2) [e] [] pos2] [] pos) (gN gI gs):=by
 have h1:=lg (p:=p2) (pos:=pos2) (bQ.or (show bQ X (.type "set") (KA X) from BJ hu hc) (show bQ X (.type "set") (Kz X) from BI hc)) NJ hm2 BH ha (by decide) (by decide) NQ NT
 have h2:=qp (p:=p) (pos:=pos) (bQ.or (show bQ X (.builtin "sorted") (EY X) from Ar hu hc) (show bQ X (.builtin "sorted") (EX X) from yH hc)) hg hm kc (gm h1 jd he) (by decide) (by decide) he hpl
 refine Et (ta:=Bf) (f:=gI) (r:=fun vs H1 Q=>(KA X vs H1 fun v H2=>EY X [v] H2 Q\/EX X [v] H2 Q)\/(Kz X vs H1 fun v H2=>EY X [v] H2 Q\/EX X [v] H2 Q)) h2 rfl ?_
 intro He J H xs vs Q hp rs w
 unfold gI at w
 split at w
 ·rename_i ys
  obtain ⟨v,rfl,r⟩:=rs.one
  cases r with
  | tup h hs=>
   have hT:∀{p:Addr}{us:List V},cQ c.K J p us->cQ X.K H p us:=fun h=>by rw [hK];exact fj hp.sub h
   have fin:∀(o:Addr->HO) (w:∀w J' H',Ext J H J' H'->RR c H J' H' (.l .fresh (dc ys)) w->Q w H') (l l2:Addr) (vs':List V),H l=none->upd H l (o l) l2=none->aF X.K J (dc ys) vs'->Q (.ref l2) (upd (upd H l (o l)) l2 (.lst vs')):=fun o w l l2 vs' hl h2 rr=>by
    rw [hK] at rr
    have e1:=Ext.new hp.sub hl (o l)
    have e2:=Ext.new e1.sub h2 (.lst vs')
    exact w _ _ _ (e1.trans e2) (RR.from e1.h (iz (hp.ext e1) h2 rr))
   split at w
   ·rename_i ok
    exact .inl ⟨_,_,ys,J,rfl,hT h,hp.sub,by rw [hK];exact hs,ok,fun l hl=>.inl ⟨l,ys,J,rfl,bO,(Ext.new hp.sub hl _).sub,ok,fun l2 vs' h2 rr=>fin (fun l=>nu X J l ys) w l l2 vs' hl h2 rr⟩⟩
   ·split at w
    ·rename_i ok
     unfold pX at ok
     rw [Bool.and_eq_true] at ok
     have o1:=of_decide_eq_true ok.1
     have ey:=K2 ok.2
     refine .inr ⟨_,_,ys.map zV,J,rfl,hT h,by rw [hK,<-ey];exact hs,by rw [List.length_map];exact o1,fun l hl=>.inr ⟨l,ys.map zV,rfl,bO,by rw [List.length_map];exact o1,fun l2 vs' h2 rr=>?_⟩⟩
     rw [<-ey] at rr
     exact fin (fun l=>nq X l (ys.map zV)) w l l2 vs' hl h2 (rr _)
    ·exact w.elim
 ·exact w.elim
theorem CO {p p2:Pos}{gs:G (List R)}(hu:X.A.units + 64 < cLine) (ha:kP X c [e] gs) (hm:X.mg "sorted"=none) (hm2:X.mg "set"=none) (hK:X.K=c.K:=by rfl) (hc:X.calm=true:=by rfl) (hg:Gl X "sorted":=by rfl) (NJ:Gl X "set":=by rfl)
  (he:starEach [.Call (.Name "set" p2) [e] [] pos2] X.env=(false,eval (.Call (.Name "set" p2) [e] [] pos2) X.env)::starEach [] X.env:=by rfl) (hpl:(backTo pos (starEach [] X.env)).any (·.1)=false:=by rfl)
  (NQ:starEach [e] X.env=(false,eval e X.env)::starEach [] X.env:=by rfl) (NT:(backTo pos2 (starEach [] X.env)).any (·.1)=false:=by rfl):
  QD X c (.Call (.Name "sorted" p) [.Call (.Name "set" p2) [e] [] pos2] [] pos) (gN gI gs):=⟨Ez hu ha.h hm hm2 hK hc hg NJ he hpl NQ NT⟩
end
end DL
namespace DL
open PySem PySem.Spec PyProof.Rows L2 DX
end DL
namespace K55
open PySem DL
def yx:List Str:=["told","least","most"]
def pU:G O:=(bJ (jD (eE (bB (gN (bf 1 K01.gE) (ao (af 0) aI)))) (jD (bB (g2 (kT fun i j=>.bl (decide (i < j))) (af 0) (af 1))) (bB (g2 (kT fun i j=>.bl (decide (j < i))) (af 0) (af 2))))) rB cX)
def jv (as:List S):M R:=fin (pU (bH yx as))
def yv:List Str:=["_law_cell_here","_law_many","_law_left","_law_found","_law_k"]
def pS:G O:=(aL (bw 2 (AE (ao (af 1) aI)))
 (aL (bw 3 (gJ aV))
 (aL (cZ (cJ (ao (af 1) aI)) (aE 4) (aL (jX 3 2 (g2 fu (af 0) (gN ez (ao (af 2) aI))))
 (bw 0 (g2 iI (af 0) (gC (.int 9))))))
 (bK (gN cM (ao (af 3) aI))))))
def iu (as:List S):M R:=fin (pS (bH yv as))
def vY:List Str:=["_law_world_here","_law_order_here","_law_marks","_law_arrows"]
def n_:G O:=(aL (bw 2 (b_ 2 [1] (jb (g2 aX (af 0) (gC (.int 1)))) (dg 2 (br (aE 0) (br (aE 1) dF))) fc (bD (aA (af 0) (aA (gN cM (ao (gN ki (ao (b_ 1 [2] (jb (af 1)) (aE 0) fc (g2 aX (af 1) (af 0))) aI)) aI)) aV)))))
 (aL (bw 3 (b_ 2 [1] (jb (g2 aX (af 0) (gC (.int 2)))) (dg 2 (br (aE 0) (br (aE 1) dF))) fc (bD (aA (af 0) (aA (gN cM (ao (gN ki (ao (b_ 2 [2] (jb (af 1)) (dg 2 (br (aE 0) (br (aE 1) dF))) fc (bD (aA (g2 aX (af 2) (af 0)) (aA (g2 aX (af 2) (af 1)) aV)))) aI)) aI)) aV)))))
 (bK (bD (aA (g2 aX (af 0) (gC (.int 0))) (aA (gN cM (ao (af 2) aI)) (aA (gN cM (ao (af 3) aI)) aV)))))))
def iW (as:List S):M R:=fin (n_ (bH vY as))
def uW:List Str:=["_law_world_here","_law_cell_here","_law_many","_law_marks","_law_arrows","_law_at","_law_thing","_law_some","_law_name","_law_had","_law_now"]
def nI:G O:=(aL (kq (dg 3 (br (aE 2) (br (aE 3) (br (aE 4) dF)))) (af 0))
 (aL (bJ (bB (g2 (cR false) (g2 dI (gN ez (ao (af 3) aI)) (gN ez (ao (af 4) aI))) (gC (.int 0)))) (bK (af 0)) cX)
 (aL (bw 5 (g2 fu (af 1) (g2 dI (gN ez (ao (af 3) aI)) (gN ez (ao (af 4) aI)))))
 (aL (bw 6 (g2 fu (g2 iI (af 1) (gC (.int 6))) (af 2)))
 (aL (bw 7 (af 3))
 (aL (bJ (bB (g2 (kT fun i j=>.bl (decide (j<=i))) (af 5) (gN ez (ao (af 3) aI)))) (aL (bw 5 (g2 qf (af 5) (gN ez (ao (af 3) aI))))
 (aL (bw 6 (bD (aA (af 6) (aA (g2 fu (g2 iI (af 1) (gC (.int 48))) (af 2)) aV))))
 (bw 7 (af 4)))) cX)
 (aL (kq (dg 2 (br (aE 8) (br (aE 9) dF))) (g2 aX (af 7) (af 5)))
 (aL (bw 10 (gN cM (ao (gN gI (ao (g2 dI (af 9) (bD (aA (af 6) aV))) aI)) aI)))
 (aL (bJ (bB (g2 (jj false) (af 6) (af 9))) (bw 10 (gN cM (ao (b_ 1 [6] (jb (af 9)) (aE 0) (bB (g2 (cR true) (af 0) (af 1))) (af 0)) aI))) cX)
 (aL (bw 7 (g2 dI (g2 dI (xg qe (af 7) zo (zp (af 5))) (bD (aA (bD (aA (af 8) (aA (af 10) aV))) aV))) (xg qe (af 7) (zp (g2 dI (af 5) (gC (.int 1)))) zo)))
 (aL (bJ (bB (rC "tuple" (af 6))) (bK (bD (aA (af 2) (aA (af 3) (aA (af 7) aV))))) cX)
 (bK (bD (aA (af 2) (aA (af 7) (aA (af 4) aV))))))))))))))))
def eT (as:List S):M R:=fin (nI (bH uW as))
def Bu:List Str:=["_law_script","_law_sizes","_law_first","_law_second","_law_marks","_law_names_here","_law_one","_law_way","_law_other"]
def um:G O:=(aL (bw 2 (gN (bf 2 K51.bX) (ao (af 0) (ao (gC (.int 0)) aI))))
 (aL (bw 3 (gN (bf 2 K51.bX) (ao (af 0) (ao (gC (.int 1)) aI))))
 (aL (bw 4 (gN (bf 2 K51.f_) (ao (g2 iI (af 3) (gC (.int 20))) (ao (g2 aX (gJ (aA (gC (.int 1)) (aA (gC (.int 0)) (aA (gC (.int 2)) (aA (gC (.int 3)) aV))))) (g2 fu (af 3) (gC (.int 4)))) aI))))
 (aL (jK 4 (bw 5 (bD (aA (af 4) (aA (gN (bf 2 K51.f_) (ao (gN (bf 2 K51.bX) (ao (af 0) (ao (gC (.int 2)) aI))) (ao (g2 aX (gJ (aA (gC (.int 1)) (aA (gC (.int 2)) (aA (gC (.int 0)) (aA (gC (.int 1)) (aA (gC (.int 3)) aV)))))) (g2 fu (g2 iI (af 3) (gC (.int 4))) (gC (.int 5)))) aI))) aV)))))
 (aL (bw 6 (gN (bf 3 K51.fq) (ao (af 5) (ao (g2 aX (af 1) (g2 fu (af 2) (gC (.int 8)))) (ao (b_ 1 [0] (cJ (ao (gC (.int 6)) aI)) (aE 0) fc (gN (bf 2 K51.bX) (ao (af 1) (ao (g2 dU (gC (.int 3)) (af 0)) aI)))) aI)))))
 (aL (bw 7 (g2 fu (g2 iI (af 2) (gC (.int 8))) (gC (.int 4))))
 (aL (bJ (bB (g2 (cR false) (af 7) (gC (.int 0)))) (bK (bD (aA (af 6) (aA (gN (bf 3 K51.fq) (ao (af 5) (ao (g2 aX (af 1) (g2 fu (g2 iI (af 2) (gC (.int 32))) (gC (.int 8)))) (ao (b_ 1 [0] (cJ (ao (gC (.int 6)) aI)) (aE 0) fc (gN (bf 2 K51.bX) (ao (af 1) (ao (g2 dU (gC (.int 9)) (af 0)) aI)))) aI)))) aV)))) cX)
 (aL (bw 8 (gN (bf 2 K55.iW) (ao (af 6) (ao (gN (bf 2 K55.iu) (ao (gN (bf 2 K51.bX) (ao (af 0) (ao (gC (.int 15)) aI))) (ao (g2 aX (af 6) (gC (.int 0))) aI))) aI))))
 (aL (bJ (bB (g2 (kT fun i j=>.bl (decide (j < i))) (af 7) (gC (.int 1)))) (bw 8 (gN (bf 2 K55.eT) (ao (af 8) (ao (gN (bf 2 K51.bX) (ao (af 0) (ao (gC (.int 9)) aI))) aI)))) cX)
 (aL (bJ (bB (g2 (cR false) (af 7) (gC (.int 3)))) (bw 8 (gN (bf 2 K55.eT) (ao (af 8) (ao (gN (bf 2 K51.bX) (ao (af 0) (ao (gC (.int 10)) aI))) aI)))) cX)
 (bK (bD (aA (af 6) (aA (af 8) aV))))))))))))))
def jz (as:List S):M R:=fin (um (bH Bu as))
end K55
namespace K55
open PySem DL K01 WP K51 K52
theorem nG (a b:Nat):aZ (dN a) (dN b)=(a == b):=by
 show ((a:Int) == (b:Int))=_
 by_cases h:a=b
 ·subst h;simp
 ·rw [beq_eq_false_iff_ne.mpr h,beq_eq_false_iff_ne.mpr (by omega)]
structure kN (n:Nat) (w:Wd):Prop where
 mp:∀r∈w.ms,r.2.length<=n/\∀p∈r.2,p < w.m
 ap:∀r∈w.ar,r.2.length<=n/\∀p∈r.2,p.1 < w.m/\p.2 < w.m
abbrev M4 (w:Wd):Prop:=kN 30 w
def em (m:Nat) (x:Nat×Nat):Nat:=if x.1=0 then x.2 else x.2 + m
theorem inN (l:Nat) (xs:List Nat):inD (dN l) (xs.map dN)=decide (l∈xs):=by
 unfold inD
 rw [List.any_map,Bool.eq_iff_iff,List.any_eq_true,decide_eq_true_eq]
 constructor
 ·rintro ⟨x,hx,e⟩
  have e:aZ (dN x) (dN l)=true:=e
  rw [nG] at e
  rw [<-eq_of_beq e];exact hx
 ·intro h
  exact ⟨l,h,by show aZ (dN l) (dN l)=true;rw [nG];simp⟩
theorem BU (a b:Nat×Nat):aZ (dP a) (dP b)=decide (a=b):=by
 have:aZ (dP a) (dP b)=(aZ (dN a.1) (dN b.1) && (aZ (dN a.2) (dN b.2) && true)):=by
  show aZ (.tup [dN a.1,dN a.2]) (.tup [dN b.1,dN b.2])=_
  rw [jo,gj,gj,cu]
 rw [this,nG,nG,Bool.eq_iff_iff]
 obtain ⟨a1,a2⟩:=a
 obtain ⟨b1,b2⟩:=b
 simp
theorem IT (l:Nat×Nat) (xs:List (Nat×Nat)):inD (dP l) (xs.map dP)=decide (l∈xs):=by
 unfold inD
 rw [List.any_map,Bool.eq_iff_iff,List.any_eq_true,decide_eq_true_eq]
 constructor
 ·rintro ⟨x,hx,e⟩
  have e:aZ (dP x) (dP l)=true:=e
  rw [BU,decide_eq_true_eq] at e
  rw [<-e];exact hx
 ·intro h
  exact ⟨l,h,by show aZ (dP l) (dP l)=true;rw [BU];simp⟩
theorem fp (i j:Int):dI (.d (.int i)) (.d (.int j))=.ok (.d (.int (i + j))):=rfl
theorem D4 {env:Ev}{Q:O->Prop}{g:G R}{i j k:Nat}{xs zs:List D}(h1:env[i]?=some (some (.own zs))) (h2:env[j]?=some (some (.own xs))) (hij:i≠j) (h:g env=.ok (.d (.int k))) (hk:k < xs.length) (lz:zs.length < 1000) (lx:xs.length<=1000)
  (c:Q (.nx ((env.set j (some (.own (xs.eraseIdx k)))).set i (some (.own (zs++[xs[k]])))))):Wp (jX i j g env) Q:=by
 refine ⟨_,?_,c⟩
 unfold jX
 rw [h1,h2]
 show (if i=j then M.bad else (g env >>= _))=_
 rw [if_neg hij,h,aN]
 show (if 0<=(k:Int)/\(k:Int).toNat < xs.length/\zs.length < sizeLine/\xs.length<=sizeLine then _ else _)=_
 rw [if_pos ⟨by omega,by simpa using hk,Nat.lt_of_lt_of_le lz (fz (Nat.le_refl _)),fz lx⟩]
 rw [Int.toNat_natCast,List.getElem?_eq_getElem hk]
def lD:D->Nat
 | .int i=>i.toNat
 | _=>0
def nN:D->Nat×Nat
 | .tup [x,y]=>(lD x,lD y)
 | _=>(0,0)
theorem sH (n:Nat):lD (dN n)=n:=rfl
theorem sI (n:Nat×Nat):nN (dP n)=n:=rfl
theorem back {α:Type}(h:α->D) (u:D->α) (hu:∀x,u (h x)=x){l:List D}(hl:∀d∈l,∃x,d=h x):(l.map u).map h=l:=by
 rw [List.map_map]
 refine (List.map_congr_left (g:=id) fun d hd=>?_).trans (List.map_id _)
 obtain ⟨x,rfl⟩:=hl d hd
 show h (u (h x))=h x
 rw [hu]
theorem uP {α:Type}(h:α->D) (u:D->α) (hu:∀x,u (h x)=x) (xs:List α):((bq (xs.map h)).map u).map h=bq (xs.map h):=back h u hu fun d hd=>by
 obtain ⟨x,_,rfl⟩:=List.mem_map.mp (ly hd)
 exact ⟨x,rfl⟩
theorem zN {α:Type}(h:α->D) (u:D->α) (hu:∀x,u (h x)=x) (xs:List α):∀y∈(bq (xs.map h)).map u,y∈xs:=fun y hy=>by
 obtain ⟨d,hd,rfl⟩:=List.mem_map.mp hy
 obtain ⟨x,hx,rfl⟩:=List.mem_map.mp (ly hd)
 rw [hu];exact hx
def pF:Fm:=.tc .i (.tc .i .tn)
theorem rK (p:Nat×Nat):jJ pF (dP p):=⟨_,rfl,_,_,rfl,⟨_,rfl⟩,_,rfl,_,_,rfl,⟨_,rfl⟩,[],rfl,rfl⟩
theorem FA (xs:List Nat) (hl:xs.length < 64):pX (xs.map dN)=true:=by
 unfold pX
 rw [List.length_map,decide_eq_true hl,Bool.true_and,List.all_eq_true]
 intro d hd
 obtain ⟨x,_,rfl⟩:=List.mem_map.mp hd
 rfl
theorem IS (xs:List (Nat×Nat)):∀d∈xs.map dP,ie d=some .i:=fun d hd=>by
 obtain ⟨x,_,rfl⟩:=List.mem_map.mp hd
 rfl
theorem Lo (xs:List (Nat×Nat)) (hl:xs.length < 64):xJ (xs.map dP)=true:=by
 have OQ:=qR xs
 have hc:qQ (xs.map dP)=true:=by
  unfold qQ
  rw [List.all_eq_true]
  intro x hx
  rw [List.all_eq_true]
  intro y hy
  obtain ⟨a,_,rfl⟩:=List.mem_map.mp hx
  obtain ⟨b,_,rfl⟩:=List.mem_map.mp hy
  exact (iE pF).lt _ _ (rK a) (rK b)
 unfold xJ
 rw [hc,decide_eq_true OQ,List.length_map,decide_eq_true hl]
 cases xs with
 | nil=>rfl
 | cons x xs=>
  have hh:Ej ((x::xs).map dP)=true:=by
   show gV .i ((x::xs).map dP)=true
   exact mP (IS (x::xs))
  rw [hh]
  simp
theorem MH (xs:List Nat) (hl:xs.length < 64):ki [.l .fresh (xs.map dN)]=.ok (.l .fresh (bq (xs.map dN))):=by
 show (if xJ (xs.map dN)=true then M.ok (R.l .fresh (bq (xs.map dN))) else if pX (xs.map dN)=true then M.ok (R.l .fresh (bq (xs.map dN))) else .bad)=_
 rw [if_pos (FA xs hl)]
 split <;> rfl
theorem MI (xs:List (Nat×Nat)) (hl:xs.length < 64):ki [.l .fresh (xs.map dP)]=.ok (.l .fresh (bq (xs.map dP))):=by
 show (if xJ (xs.map dP)=true then M.ok (R.l .fresh (bq (xs.map dP))) else if pX (xs.map dP)=true then M.ok (R.l .fresh (bq (xs.map dP))) else .bad)=_
 rw [if_pos (Lo xs hl)]
theorem DY {ps:List Nat}{p:Nat}(hp:p < ps.length):aX (.d (.tup (ps.map dN))) (.d (dN p))=.ok (.d (dN (ps.getD p 0))):=by
 have h1:(ps.map dN)[p]?=some (dN (ps.getD p 0)):=by rw [List.getElem?_map,List.getElem?_eq_getElem hp];simp [List.getD,hp]
 exact iP h1
def kK (w:Wd) (ps:List Nat):Wd:=⟨w.m,w.ms.map fun r=>(r.1,(bq ((r.2.map fun p=>ps.getD p 0).map dN)).map lD),w.ar.map fun r=>(r.1,(bq ((r.2.map fun p=>(ps.getD p.1 0,ps.getD p.2 0)).map dP)).map nN)⟩
theorem Dr (w:Wd) (hw:lO w) (n:Nat) (hn:n<=40) (hb:kN n w) (ps:List Nat) (hl:ps.length=w.m):iW [.d w.d,.d (.tup (ps.map dN))]=.ok (.d (kK w ps).d):=by
 have ml:=hw.ml
 have al:=hw.al
 refine fX (bI (mR (xs:=w.ms) (fun r=>.str r.1) (fun r=>.tup (r.2.map dN)) (fun r=>gR (r.1,(bq ((r.2.map fun p=>ps.getD p 0).map dN)).map lD)) ?_ (by omega) fun r hr=>?_) rfl ?_)
 ·show (g2 aX (af 0) (gC (.int 1)) _ >>= _)=_
  rw [two (x:=.d w.d) rfl rfl (uq _ _ _)]
  rfl
 ·obtain ⟨h1,h2⟩:=hb.mp r hr
  refine ⟨_,bz (aJ rfl rfl (aJ (n1 (n1 (DF (xs:=r.2) (h:=dN) (fun p=>dN (ps.getD p 0)) rfl (by omega) fun p hp=>⟨_,two rfl rfl (DY (by rw [hl];exact h2 p hp)),rfl⟩) (x:=.l .fresh (r.2.map fun p=>dN (ps.getD p 0))) (z:=.l .fresh (bq ((r.2.map fun p=>ps.getD p 0).map dN))) ?_) rfl) rfl bu)) t2,?_⟩
  ·have:=MH (r.2.map fun p=>ps.getD p 0) (by simp;omega)
   rw [List.map_map] at this ⊢
   exact this
  ·unfold gR
   rw [uP dN lD sH]
   rfl
 refine bI (mR (xs:=w.ar) (fun r=>.str r.1) (fun r=>.tup (r.2.map dP)) (fun r=>je (r.1,(bq ((r.2.map fun p=>(ps.getD p.1 0,ps.getD p.2 0)).map dP)).map nN)) ?_ (by omega) fun r hr=>?_) rfl ?_
 ·show (g2 aX (af 0) (gC (.int 2)) _ >>= _)=_
  rw [two (x:=.d w.d) rfl rfl (M6 _ _ _ _)]
  rfl
 ·obtain ⟨h1,h2⟩:=hb.ap r hr
  refine ⟨_,bz (aJ rfl rfl (aJ (n1 (n1 (mR (xs:=r.2) (fun p=>dN p.1) (fun p=>dN p.2) (fun p=>dP (ps.getD p.1 0,ps.getD p.2 0)) rfl (by omega) fun p hp=>⟨_,bz (aJ (two rfl rfl (DY (by rw [hl];exact (h2 p hp).1))) rfl (aJ (two rfl rfl (DY (by rw [hl];exact (h2 p hp).2))) rfl bu)) t2,rfl⟩) (x:=.l .fresh (r.2.map fun p=>dP (ps.getD p.1 0,ps.getD p.2 0))) (z:=.l .fresh (bq ((r.2.map fun p=>(ps.getD p.1 0,ps.getD p.2 0)).map dP))) ?_) rfl) rfl bu)) t2,?_⟩
  ·have:=MI (r.2.map fun p=>(ps.getD p.1 0,ps.getD p.2 0)) (by simp;omega)
   rw [List.map_map] at this ⊢
   exact this
  ·unfold je
   rw [uP dP nN sI]
   rfl
 refine cg (bz (aJ (two rfl rfl (kY _ _)) rfl (aJ rfl rfl (aJ rfl rfl bu))) (by show 3<=1000;decide)) rfl ?_
 unfold kK Wd.d
 simp only [List.map_map]
 rfl
theorem Ma (w:Wd) (hw:lO w) (n:Nat) (hb:kN n w) (ps:List Nat) (hl:ps.length=w.m) (hp:∀p∈ps,p < w.m):lO (kK w ps)/\kN n (kK w ps)/\(kK w ps).m=w.m/\(kK w ps).ms.length=w.ms.length/\(kK w ps).ar.length=w.ar.length:=by
 have gd:∀p,p < w.m->ps.getD p 0 < w.m:=fun p h=>by
  have h':p < ps.length:=by omega
  rw [show ps.getD p 0=ps[p] by simp [List.getD,h']]
  exact hp _ (List.getElem_mem h')
 refine ⟨⟨hw.lo,hw.hi,?_,?_⟩,⟨fun r hr=>?_,fun r hr=>?_⟩,rfl,List.length_map _,List.length_map _⟩
 ·show (w.ms.map _).length<=3
  rw [List.length_map];exact hw.ml
 ·show (w.ar.map _).length<=3
  rw [List.length_map];exact hw.al
 ·obtain ⟨q,hq,rfl⟩:=List.mem_map.mp (show r∈w.ms.map _ from hr)
  obtain ⟨h1,h2⟩:=hb.mp q hq
  refine ⟨?_,fun p hp'=>?_⟩
  ·show ((bq _).map lD).length<=n
   rw [List.length_map,oM,List.length_map,List.length_map];exact h1
  ·have:=zN dN lD sH _ p hp'
   obtain ⟨z,hz,rfl⟩:=List.mem_map.mp this
   exact gd z (h2 z hz)
 ·obtain ⟨q,hq,rfl⟩:=List.mem_map.mp (show r∈w.ar.map _ from hr)
  obtain ⟨h1,h2⟩:=hb.ap q hq
  refine ⟨?_,fun p hp'=>?_⟩
  ·show ((bq _).map nN).length<=n
   rw [List.length_map,oM,List.length_map,List.length_map];exact h1
  ·have:=zN dP nN sI _ p hp'
   obtain ⟨z,hz,rfl⟩:=List.mem_map.mp this
   exact ⟨gd _ (h2 z hz).1,gd _ (h2 z hz).2⟩
theorem MN (xs:List Nat) (hl:xs.length < 64):gI [.d (.tup (xs.map dN))]=.ok (.l .fresh (dc (xs.map dN))):=by
 show (if oE (xs.map dN)=true then M.ok (R.l .fresh (dc (xs.map dN))) else if pX (xs.map dN)=true then M.ok (R.l .fresh (dc (xs.map dN))) else .bad)=_
 rw [if_pos (FA xs hl)]
 split <;> rfl
theorem Ln (xs:List (Nat×Nat)) (hl:xs.length < 64):oE (xs.map dP)=true:=by
 have h1:areKeys (xs.map dP)=true:=by
  induction xs with
  | nil=>rfl
  | cons x xs ih=>
   rw [List.map_cons]
   show (isKey (dP x) && areKeys (xs.map dP))=true
   rw [ih (by simp at hl;omega)]
   rfl
 have h2:deps (xs.map dP)<=8:=eU fun d hd=>by
  obtain ⟨x,_,rfl⟩:=List.mem_map.mp hd
  exact (by decide:(1:Nat)<=8)
 have h3:Fz (xs.map dP)=true:=by
  cases xs with
  | nil=>rfl
  | cons x xs=>
   show (gV .i ((x::xs).map dP) && ((x::xs).map dP).all (oX pF))=true
   rw [mP (IS (x::xs)),Bool.true_and,List.all_eq_true]
   intro d hd
   obtain ⟨y,_,rfl⟩:=List.mem_map.mp hd
   rfl
 unfold oE
 rw [h1,h3,decide_eq_true h2,List.length_map,decide_eq_true hl]
 rfl
theorem MO (xs:List (Nat×Nat)) (hl:xs.length < 64):gI [.d (.tup (xs.map dP))]=.ok (.l .fresh (dc (xs.map dP))):=by
 show (if oE (xs.map dP)=true then M.ok (R.l .fresh (dc (xs.map dP))) else _)=_
 rw [if_pos (Ln xs hl)]
theorem uO {P:D->Prop}(p:fS P){ds:List D}(h:∀x∈ds,P x):(dc ds).length<=ds.length/\∀d∈dc ds,d∈ds:=by
 obtain ⟨h1,h2⟩:=vH p ds h
 refine ⟨?_,fun d hd=>((qA p h).2 d).mp hd⟩
 show (bq (dd ds)).length<=_
 rw [oM]
 exact List.Nodup.length_le_of_subset h1 fun d hd=>(h2 d).mp hd
theorem IE (xs:List D) (k:Nat) (hk:k<=xs.length):cutD xs none (some (k:Int))=xs.take k:=by
 unfold cutD
 rw [HT.xW,HT.zM,Nat.min_eq_left hk]
 simp
theorem DI (xs:List D) (k:Nat) (hk:k<=xs.length):cutD xs (some (k:Int)) none=xs.drop k:=by
 unfold cutD
 rw [HT.xW,HT.zM,Nat.min_eq_left hk]
 rw [List.take_of_length_le (by simp)]
abbrev LO:G O:=(aL (kq (dg 2 (br (aE 8) (br (aE 9) dF))) (g2 aX (af 7) (af 5)))
 (aL (bw 10 (gN cM (ao (gN gI (ao (g2 dI (af 9) (bD (aA (af 6) aV))) aI)) aI)))
 (aL (bJ (bB (g2 (jj false) (af 6) (af 9))) (bw 10 (gN cM (ao (b_ 1 [6] (jb (af 9)) (aE 0) (bB (g2 (cR true) (af 0) (af 1))) (af 0)) aI))) cX)
 (aL (bw 7 (g2 dI (g2 dI (xg qe (af 7) zo (zp (af 5))) (bD (aA (bD (aA (af 8) (aA (af 10) aV))) aV))) (xg qe (af 7) (zp (g2 dI (af 5) (gC (.int 1)))) zo)))
 (aL (bJ (bB (rC "tuple" (af 6))) (bK (bD (aA (af 2) (aA (af 3) (aA (af 7) aV))))) cX)
 (bK (bD (aA (af 2) (aA (af 7) (aA (af 4) aV))))))))))
abbrev c_ {α:Type}(h:α->D) (r:Str×List α):D:=.tup [.str r.1,.tup (r.2.map h)]
structure By {α:Type}(P:α->Prop) (n:Nat) (L:List (Str×List α)):Prop where
 all:∀r∈L,r.2.length<=n/\∀p∈r.2,P p
theorem rX {i:Int}(h:0<=i):∃k:Nat,i=k:=⟨i.toNat,by omega⟩
theorem pe {m:Nat}{ps:List (Nat×Nat)}(h:qG m ps) (hm:m<=4):ps.length<=16:=by
 obtain ⟨_,h2,h3⟩:=h
 have nd:ps.Nodup:=h2.imp fun {a b} hab e=>by subst e;unfold kC at hab;omega
 have sub:∀p∈ps,p∈(List.range 16).map fun k=>(k / 4,k % 4):=fun p hp=>by
  obtain ⟨a,b⟩:=h3 p hp
  refine List.mem_map.mpr ⟨p.1 * 4 + p.2,by rw [List.mem_range];omega,?_⟩
  obtain ⟨x,y⟩:=p
  simp only at a b ⊢
  rw [Prod.mk.injEq]
  omega
 have:=List.Nodup.length_le_of_subset nd sub
 simpa using this
end K55
namespace DL
open PySem PySem.Spec PyProof.Rows L2 DX
def bT (gt:GT) (gts:G Bool) (act:Ev->M (List D×Ev)):List D->Ev->M (List D×Ev)
 | [],env=>.ok ([],env)
 | d::ds,env=>gt d env >>= fun e=>gts e >>= fun k=>if k=true then act e >>= fun r=>bT gt gts act ds r.2 >>= fun z=>.ok (r.1++z.1,z.2) else bT gt gts act ds e
def wc (env:Ev) (σ:L2.St) (p:Addr):Prop:=∀(j:Nat) (xs:Mn),env[j]?=some (some (mS xs))->σ[j]?≠some (some (.ref p))
structure vR (Acc:Hp->Hp->List D->Prop):Prop where
 ext:∀{J H J' H':Hp}{ys:List D},Acc J H ys->Ext J H J' H'->Acc J' H' ys
def sQ (X:Cx) (c:C) (p:Addr) (Acc:Hp->Hp->List D->Prop) (J2 H2:Hp) (N:Nat) (m:Sem Unit) (act:Ev->M (List D×Ev)):Prop:=
 ∀(pins:List (Addr×Obj)) (s:Shared) (σ:L2.St) (H J:Hp) (env:Ev) (ys:List D) (Qf:List D×Ev->Prop),Inv X pins σ H s->Ext J2 H2 J H->SR c J H σ env->wc env σ p->Acc J H ys->ys.length + N<=sizeLine->cL (act env) Qf c.T->
  wpAny (model X.prog X.w) X.A m (fun _ s'=>∃σ' H' J' r,Inv X pins σ' H' s'/\Ext J2 H2 J' H'/\aP J J'/\SR c J' H' σ' r.2/\wc r.2 σ' p/\Acc J' H' (ys++r.1)/\r.1.length<=N/\Qf r) (fun _ _=>False) s
abbrev Dc (ifs:List Expr) (env:Env):Sem Bool:=forIn ifs true fun c r=>if r=true then do let ok <-isTrue c env (eval c env);pure (ForInStep.yield ok) else pure (ForInStep.yield r)
abbrev nB (target iter:Expr) (ifs:List Expr) (it:Value) (env:Env) (act:Sem Unit) (again':Sem Fin):Sem Fin:=do
 standAt iter.pos
 match <-pyNext it with
 | none=>pure (.done .next)
 | some v=>
  letOwnedTupleGo target it v
  assign target env v
  let mut ok:=true
  for c in ifs do
   if ok then ok <-isTrue c env (eval c env)
  if ok then
   act
  again'
def qE (prog:Program) (w:World) (A:Around) (e:Expr) (depth:Nat) (it acc:Value) (env:Env) (target:Expr) (ifs:List Expr) (m:Sem Unit):Prop:=
 ∀(R:Result->Shared->Prop) (I:Nat->Shared->Prop),(∀n s,I n s->wpAny (model prog w) A (pyNext it) (fun r s₁=>match r with
   | none=>R (.ok .next) s₁
   | some v=>wpAny (model prog w) A (letOwnedTupleGo target it v) (fun _ s₁=>wpAny (model prog w) A (assign target env v) (fun _ s₂=>
     wpAny (model prog w) A (Dc ifs env) (fun ok s₃=>if ok=true then wpAny (model prog w) A m (fun _ s₅=>∃m,m < n/\I m s₅) (fun _ _=>False) s₃ else ∃m,m < n/\I m s₃) (fun _ _=>False) s₂) (fun _ _=>False) s₁) (fun _ _=>False) s₁) (fun _ _=>False) s)->
  ∀(n:Nat) (s:Shared),I n s->codeAny (model prog w) A (.compLoop e depth it acc env) R s
section
variable {prog:Program}{w:World}{A:Around}{target iter:Expr}{ifs:List Expr}{scope:Scope}{pos:Pos}{it acc:Value}{env:Env}{depth:Nat}{gens:List Comprehension}{act:Sem Unit}
theorem ym {R:Result->Shared->Prop}{I:Nat->Shared->Prop}{E:Value->Shared->Prop}{code:Code}{n:Nat}{s:Shared}{Q:Fin->Shared->Prop}
  (ON:∀s,R (.ok .next) s->Q (.done .next) s) (OI:∀s,(∃m,m < n/\I m s)->wpAny (model prog w) A (again code) Q E s)
  (t:wpAny (model prog w) A (pyNext it) (fun r s₁=>match r with
   | none=>R (.ok .next) s₁
   | some v=>wpAny (model prog w) A (letOwnedTupleGo target it v) (fun _ s₁=>wpAny (model prog w) A (assign target env v) (fun _ s₂=>
     wpAny (model prog w) A (Dc ifs env) (fun ok s₃=>if ok=true then wpAny (model prog w) A act (fun _ s₅=>∃m,m < n/\I m s₅) (fun _ _=>False) s₃ else ∃m,m < n/\I m s₃) (fun _ _=>False) s₂) (fun _ _=>False) s₁) (fun _ _=>False) s₁) (fun _ _=>False) s):
  wpAny (model prog w) A (nB target iter ifs it env act (again code)) Q E s:=by
 refine wpAny_bind (wpAny_standAt (wpAny_bind (wpAny_mono t (fun r s₁ h₁=>?_) fun _ _ f=>f.elim)))
 cases r with
 | none=>exact wpAny_pure (ON _ h₁)
 | some v=>
  refine wpAny_bind (wpAny_mono h₁ (fun _ s₁' h₁'=>?_) fun _ _ f=>f.elim)
  refine wpAny_bind (wpAny_mono h₁' (fun _ s₂ h₂=>wpAny_bind (wpAny_mono h₂ (fun ok s₃ h₃=>?_) fun _ _ f=>f.elim)) fun _ _ f=>f.elim)
  cases ok with
  | false=>exact OI _ h₃
  | true=>exact wpAny_bind (wpAny_mono h₃ (fun _ s₅ h₅=>OI _ h₅) fun _ _ f=>f.elim)
theorem AM {elt:Expr}(ht:compTurn (.ListComp elt gens scope pos) depth it acc env=nB target iter ifs it env act (again (.compLoop (.ListComp elt gens scope pos) depth it acc env))):qE prog w A (.ListComp elt gens scope pos) depth it acc env target ifs act:=by
 intro R I turn n s h
 refine codeAny_loop rfl I (fun n s hI=>?_) n h
 show wpAny _ A ((compTurn (.ListComp elt gens scope pos) depth it acc env).onRaise (fun x=>do noteFrame x env;theTreesLotGoes x)) _ _ s
 refine wpAny_noted ?_
 rw [ht]
 exact ym (fun _ h=>h) (fun _ h=>wpAny_pure ⟨rfl,h⟩) (turn n s hI)
theorem Fy {kx vx:Expr}(ht:compTurn (.DictComp kx vx gens scope pos) depth it acc env=nB target iter ifs it env act (again (.compLoop (.DictComp kx vx gens scope pos) depth it acc env))):qE prog w A (.DictComp kx vx gens scope pos) depth it acc env target ifs act:=by
 intro R I turn n s h
 refine codeAny_loop rfl I (fun n s hI=>?_) n h
 show wpAny _ A ((compTurn (.DictComp kx vx gens scope pos) depth it acc env).onRaise (fun x=>do noteFrame x env;theTreesLotGoes x)) _ _ s
 refine wpAny_noted ?_
 rw [ht]
 exact ym (fun _ h=>h) (fun _ h=>wpAny_pure ⟨rfl,h⟩) (turn n s hI)
end
section
variable {X:Cx}{c:C}{p:Addr}{Acc:Hp->Hp->List D->Prop}{J2 H2:Hp}{N:Nat}{m:Sem Unit}{act:Ev->M (List D×Ev)}{target:Expr}{ifs:List Expr}{gt:GT}{gts:G Bool}{e:Expr}{depth:Nat}{acc:Value}{it:Addr}{fp:List Addr}{tn:Nat->Heap->Prop}{It:It}{ds:List D}{J1:Hp}
theorem xB (aR:vR Acc) (hc:X.calm=true) (hx:∀v s,X.xe v s->False) (LP:qE X.prog X.w X.A e depth (.ref it) acc X.env target ifs m) (hT:gF X c target gt) (hIf:fR X c ifs gts) (hA:sQ X c p Acc J2 H2 N m act) (T:Turn X.prog X.w X.K target It fp it tn)
  (U:Hp->Hp->Prop) (wk:Walk c It ds J1 U){pins:List (Addr×Obj)}{s:Shared}{σ:L2.St}{H J:Hp}{env:Ev}{ys:List D}{Qf:List D×Ev->Prop}(hU:∀J' H',Ext J2 H2 J' H'->aP J J'->U J' H') (I:Inv X pins σ H s) (st:tn 0 s.heap) (fr:∀b∈fp,iG X pins H b) (e2:Ext J2 H2 J H) (sr:SR c J H σ env) (no:wc env σ p) (ac:Acc J H ys)
  (hl:ys.length + ds.length * N<=sizeLine) (w:cL (bT gt gts act ds env) Qf c.T):
  codeAny (model X.prog X.w) X.A (.compLoop e depth (.ref it) acc X.env) (fun r s'=>r=.ok .next/\∃σ' H' J' r',Inv X pins σ' H' s'/\Ext J2 H2 J' H'/\aP J J'/\SR c J' H' σ' r'.2/\wc r'.2 σ' p/\Acc J' H' (ys++r'.1)/\r'.1.length<=ds.length * N/\Qf r') s:=by
 refine LP _ (fun n s'=>∃(i:Nat) (σ':L2.St) (H' J':Hp) (env':Ev) (zs:List D),n=ds.length - i/\i<=ds.length/\Inv X pins σ' H' s'/\tn i s'.heap/\(∀b∈fp,H' b=none)/\Ext J2 H2 J' H'/\aP J J'/\SR c J' H' σ' env'/\wc env' σ' p/\Acc J' H' (ys++zs)/\zs.length<=i * N/\
  cL (bT gt gts act (ds.drop i) env') (fun r=>Qf (zs++r.1,r.2)) c.T) ?_ ds.length s ⟨0,σ,H,J,env,[],rfl,Nat.zero_le _,I,st,fun b hb=>(fr b hb).1,e2,aP.refl J,sr,no,by rw [List.append_nil];exact ac,by simp,by rw [List.drop_zero];exact w⟩
 rintro n s' ⟨i,σ',H',J',env',zs,rfl,hi,I',st',fr',e',sj,sr',no',ac',hz,w'⟩
 have stat:∀{H':Hp},(∀b∈fp,H' b=none)->∀b∈fp,iG X pins H' b:=fun hn b hb=>⟨hn b hb,(fr b hb).2⟩
 obtain ⟨wk1,wk2⟩:=wk i J' H' sr'.hp (hU J' H' e' sj)
 by_cases hlt:i < ds.length
 ·obtain ⟨g1,y1⟩:=wk2 ds[i] (by simp [hlt])
  rw [List.drop_eq_getElem_cons hlt] at w'
  refine wpAny_mono (T.item X rfl rfl rfl hc i pins s' σ' H' (fun _ _=>False) I' (stat fr') st' g1) (fun r s4 ⟨u,hr,h4⟩=>?_) fun _ _ f=>f.elim
  subst hr
  refine wpAny_mono h4 (fun _ s5 ⟨x,H5,I5,r5,y5,st5,fr5⟩=>?_) fun _ _ f=>f.elim
  obtain ⟨J5,e5,rx⟩:=y1 x H5 y5
  have I5':=I5.pinned (stat fr5) (T.obj _ _ st5)
  have again:∀{σ7:L2.St}{H7:Hp}{s7:Shared},Inv X (pins++oF fp s5.heap) σ7 H7 s7->Inv X pins σ7 H7 s7/\tn (i + 1) s7.heap/\(∀b∈fp,H7 b=none):=fun {σ7 H7 s7} I7=>by
   refine ⟨I7.unpinned,T.keep _ _ _ st5 fun b hb o e=>(I7.pin (b,o) (List.mem_append_right _ (List.mem_append_right _ (jR hb e)))).1,fun b hb=>?_⟩
   obtain ⟨o,e,d⟩:=T.obj _ _ st5 b hb
   exact (I7.pin (b,o) (List.mem_append_right _ (List.mem_append_right _ (jR hb e)))).2.1
  refine wpAny_mono (hT _ s5 σ' H5 x u (fun σ6 H6=>∃e6,H6=H5/\SR c J5 H5 σ6 e6/\KO env' σ' e6 σ6/\cL (gts e6 >>= fun k=>if k=true then act e6 >>= fun r=>bT gt gts act (ds.drop (i + 1)) r.2 >>= fun z=>.ok (r.1++z.1,z.2) else bT gt gts act (ds.drop (i + 1)) e6)
   (fun r=>Qf (zs++r.1,r.2)) c.T) I5' r5 ⟨J5,env',ds[i],sr'.ext e5,rx,aC (aK w') fun e6 w6 σ6 sr6 ko=>⟨e6,rfl,sr6,ko,w6⟩⟩) (fun _ s6 ⟨σ6,H6,I6,e6,OM,sr6,ko,w6⟩=>?_) fun _ _ f=>(hx _ _ f).elim
  subst OM
  have no6:wc e6 σ6 p:=fun j xs q z=>by
   obtain ⟨k1,k2⟩:=ko j xs q
   exact no' j xs k1 (k2▸z)
  refine wpAny_mono (hIf _ s6 σ6 H6 (fun k H7=>∃J7,Ext J5 H6 J7 H7/\cL (if k=true then act e6 >>= fun r=>bT gt gts act (ds.drop (i + 1)) r.2 >>= fun z=>.ok (r.1++z.1,z.2) else bT gt gts act (ds.drop (i + 1)) e6)
   (fun r=>Qf (zs++r.1,r.2)) c.T) I6 ⟨J5,e6,sr6,aC (aK w6) fun k wk J7 H7 e7=>⟨J7,e7,wk⟩⟩) (fun k s7 ⟨H7,I7,J7,e7,w7⟩=>?_) fun _ _ f=>(hx _ _ f).elim
  have sr7:=sr6.ext e7
  have ac7:=aR.ext (aR.ext ac' e5) e7
  have x7:=(e'.trans e5).trans e7
  have j7:=(sj.trans e5.j).trans e7.j
  have hm:(i + 1) * N=i * N + N:=by rw [Nat.add_mul,Nat.one_mul]
  cases k with
  | false=>
   rw [if_neg (by decide)] at w7 ⊢
   obtain ⟨a1,a2,a3⟩:=again I7
   exact ⟨ds.length - (i + 1),by omega,i + 1,σ6,H7,J7,e6,zs,rfl,hlt,a1,a2,a3,x7,j7,sr7,no6,ac7,by omega,w7⟩
  | true=>
   rw [if_pos rfl] at w7 ⊢
   have hN:(i + 1) * N<=ds.length * N:=Nat.mul_le_mul_right N hlt
   refine wpAny_mono (hA _ s7 σ6 H7 J7 e6 (ys++zs) _ I7 x7 sr7 no6 ac7 (by rw [List.length_append];omega) (aK w7)) (fun _ s8 ⟨σ8,H8,J8,r,I8,x8,j8,sr8,no8,ac8,l8,w8⟩=>?_) fun _ _ f=>f.elim
   obtain ⟨a1,a2,a3⟩:=again I8
   refine ⟨ds.length - (i + 1),by omega,i + 1,σ8,H8,J8,r.2,zs++r.1,rfl,hlt,a1,a2,a3,x8,j7.trans j8,sr8,no8,by rw [<-List.append_assoc];exact ac8,by rw [List.length_append];omega,?_⟩
   refine aC (aK w8) fun z q=>?_
   rw [List.append_assoc]
   exact q
 ·have OS:i=ds.length:=by omega
  subst OS
  rw [List.drop_eq_nil_of_le (Nat.le_refl _)] at w'
  refine wpAny_mono (T.done X rfl rfl rfl hc _ pins s' σ' H' (fun _ _=>False) I' (stat fr') st' (wk1 (Nat.le_refl _))) (fun r s4 ⟨hr,I9⟩=>?_) fun _ _ f=>f.elim
  subst hr
  have w9:Qf (zs++[],env'):=w'
  rw [List.append_nil] at w9
  exact ⟨rfl,σ',H',J',(zs,env'),I9,e',sj,sr',no',ac',hz,w9⟩
end
section
variable {prog:Program}{w:World}{A:Around}{R:Result->Shared->Prop}{s:Shared}{it acc:Value}{env:Env}{scope:Scope}{pos:Pos}{g0:Comprehension}{target iter:Expr}{ifs:List Expr}{rest:List Comprehension}
theorem KQ {elt:Expr}(h0:codeAny (model prog w) A (.compLoop (.ListComp elt (g0::⟨target,iter,ifs,0⟩::rest) scope pos) 1 it acc env) R s)
  (h:wpAny (model prog w) A (pyIter it) (fun it' s'=>codeAny (model prog w) A (.compLoop (.ListComp elt (g0::⟨target,iter,ifs,0⟩::rest) scope pos) 1 it' acc env) R s') (fun _ _=>False) s):
  codeAny (model prog w) A (.compStart (.ListComp elt (g0::⟨target,iter,ifs,0⟩::rest) scope pos) 1 it acc env) R s:=by
 refine codeAny_of_tree ?_
 show wpAny _ _ ((compStart (.ListComp elt (g0::⟨target,iter,ifs,0⟩::rest) scope pos) 1 it acc env).onRaise (fun x=>do noteFrame x env;standAt theWindowsPlace)) _ _ s
 refine wpAny_notedAt ?_
 unfold compStart
 show wpAny _ _ (ask >>= _) _ _ s
 refine wpAny_bind (wpAny_askSetting (wpAny_ite ?_))
 split
 ·first
   | exact wpAny_bind (wpAny_pure (wpAny_pure (And.intro rfl h0)))
   | exact wpAny_pure (And.intro rfl h0)
 ·refine wpAny_bind (wpAny_rule ?_)
  show wpAny _ _ (standAt iter.pos >>= _) _ _ s
  exact wpAny_bind (wpAny_standAt (wpAny_bind (wpAny_mono h (fun it' s' h'=>wpAny_pure (And.intro rfl h')) fun _ _ x=>x.elim)))
theorem KP {kx vx:Expr}(h0:codeAny (model prog w) A (.compLoop (.DictComp kx vx (g0::⟨target,iter,ifs,0⟩::rest) scope pos) 1 it acc env) R s)
  (h:wpAny (model prog w) A (pyIter it) (fun it' s'=>codeAny (model prog w) A (.compLoop (.DictComp kx vx (g0::⟨target,iter,ifs,0⟩::rest) scope pos) 1 it' acc env) R s') (fun _ _=>False) s):
  codeAny (model prog w) A (.compStart (.DictComp kx vx (g0::⟨target,iter,ifs,0⟩::rest) scope pos) 1 it acc env) R s:=by
 refine codeAny_of_tree ?_
 show wpAny _ _ ((compStart (.DictComp kx vx (g0::⟨target,iter,ifs,0⟩::rest) scope pos) 1 it acc env).onRaise (fun x=>do noteFrame x env;standAt theWindowsPlace)) _ _ s
 refine wpAny_notedAt ?_
 unfold compStart
 show wpAny _ _ (ask >>= _) _ _ s
 refine wpAny_bind (wpAny_askSetting (wpAny_ite ?_))
 split
 ·first
   | exact wpAny_bind (wpAny_pure (wpAny_pure (And.intro rfl h0)))
   | exact wpAny_pure (And.intro rfl h0)
 ·refine wpAny_bind (wpAny_rule ?_)
  show wpAny _ _ (standAt iter.pos >>= _) _ _ s
  exact wpAny_bind (wpAny_standAt (wpAny_bind (wpAny_mono h (fun it' s' h'=>wpAny_pure (And.intro rfl h')) fun _ _ x=>x.elim)))
end
def i9 (gi:G (List D)) (gt:GT) (gts:G Bool) (act:Ev->M (List D×Ev)):Ev->M (List D×Ev):=fun env=>gi env >>= fun ds=>if ds.length<=1000 then bT gt gts act ds env else .bad
abbrev qh (e iter:Expr) (acc:Value) (env:Env):Sem Unit:=do
 let x <-eval iter env
 standAt iter.pos
 let x <-foldedSetIterable iter env x
 let _ <-runOwn (.compStart e 1 (<-holding [x] (pyIter x)) acc env) env
section
variable {X:Cx}{c:C}{p:Addr}{Acc:Hp->Hp->List D->Prop}{J2 H2:Hp}{N:Nat}{m:Sem Unit}{act:Ev->M (List D×Ev)}{target iter:Expr}{ifs:List Expr}{gi:G (List D)}{gt:GT}{gts:G Bool}{e:Expr}{acc:Value}
theorem za (aR:vR Acc) (hc:X.calm=true) (hx:∀v s,X.xe v s->False) (hs:∀x,foldedSetIterable iter X.env x=pure x)
  (start:∀(it:Addr) (R:Result->Shared->Prop) (s:Shared),codeAny (model X.prog X.w) X.A (.compLoop e 1 (.ref it) acc X.env) R s->wpAny (model X.prog X.w) X.A (pyIter (.ref it)) (fun it' s'=>codeAny (model X.prog X.w) X.A (.compLoop e 1 it' acc X.env) R s') (fun _ _=>False) s->codeAny (model X.prog X.w) X.A (.compStart e 1 (.ref it) acc X.env) R s)
  (LP:∀it:Addr,qE X.prog X.w X.A e 1 (.ref it) acc X.env target ifs m) (hi:j4 X c target iter gi) (hT:gF X c target gt) (hIf:fR X c ifs gts) (hA:sQ X c p Acc J2 H2 N m act):
  sQ X c p Acc J2 H2 (1000 * N) (qh e iter acc X.env) (i9 gi gt gts act):=by
 intro pins s σ H J env ys Qf I x2 sr no ac hl w
 refine wpAny_bind (wpAny_mono (hi pins s σ H (fun It H1=>∃ds J1,Ext J H J1 H1/\Walk c It ds J1 (fun J' _=>aP J1 J')/\cL (if ds.length<=1000 then bT gt gts act ds env else .bad) Qf c.T) I ⟨J,env,sr,aC (aK w) fun ds wd It J1 H1 e1 wk=>⟨ds,J1,e1,wk,wd⟩⟩) (fun xv s1 h1=>?_) fun v s f=>(hx v s f).elim)
 refine wpAny_bind (wpAny_standAt ?_)
 rw [hs xv]
 refine wpAny_bind (wpAny_pure (wpAny_bind (wpAny_holding (wpAny_mono h1 (fun itv s2 h2=>?_) fun v s f=>(hx v s f).elim))))
 obtain ⟨it,fp,tn,It,H1,rfl,I1,T,st1,f1,ds,J1,e1,wk,w1⟩:=h2
 have hsz:ds.length<=1000:=by
  by_cases z:ds.length<=1000
  ·exact z
  ·rw [if_neg z] at w1;exact w1.elim
 rw [if_pos hsz] at w1
 have hm:ds.length * N<=1000 * N:=Nat.mul_le_mul_right N hsz
 have hb:ys.length + ds.length * N<=sizeLine:=Nat.le_trans (Nat.add_le_add_left hm _) hl
 have run:=xB aR hc hx (LP it) hT hIf hA T (fun J' _=>aP J1 J') wk (fun _ _ _ h=>h) I1 st1 f1 (x2.trans e1) (sr.ext e1) no (aR.ext ac e1) hb w1
 have run':codeAny (model X.prog X.w) X.A (.compLoop e 1 (.ref it) acc X.env) (fun r s'=>match r with | .ok f=>wpAny (model X.prog X.w) X.A (pure ()) (fun _ s'=>∃σ' H' J' r,Inv X pins σ' H' s'/\Ext J2 H2 J' H'/\aP J J'/\SR c J' H' σ' r.2/\wc r.2 σ' p/\Acc J' H' (ys++r.1)/\r.1.length<=1000 * N/\Qf r) (fun _ _=>False) s' | .error e=>cameBackBy (model X.prog X.w) X.A X.env (fun _ _=>False) e s') s2:=codeAny_mono run fun r s' ⟨hr,σ',H',J',r',q1,q2,q3,q4,q5,q6,q7,q8⟩=>by
  subst hr
  exact wpAny_pure ⟨σ',H',J',r',q1,q2,e1.j.trans q3,q4,q5,q6,Nat.le_trans q7 hm,q8⟩
 exact wpAny_bind (wpAny_runOwn (h:=none) (start it _ _ run' (T.self _ 0 _ _ _ st1 run')))
end
def gG (ge:G R):Ev->M (List D×Ev):=fun e=>ge e >>= fun r=>toD r >>= fun y=>.ok ([y],e)
def Ag (c:C) (p:Addr):Hp->Hp->List D->Prop:=fun J H ys=>∃us,H p=some (.lst us)/\J p=none/\aF c.K J ys us
theorem pZ {c:C}{p:Addr}:vR (Ag c p):=⟨fun {J H J' H' ys} ⟨us,h1,h2,h3⟩ e=>⟨us,e.h _ _ h1,e.frz _ (by rw [h1];intro z;cases z) h2,h3.mono e.j⟩⟩
section
variable {X:Cx}{c:C}{p:Addr}{J2 H2:Hp}{elt:Expr}{ge:G R}
theorem y_ (hx:∀v s,X.xe v s->False) (hp2:H2 p=none) (hp0:c.H0 p=none) (hE:PD X c elt ge):sQ X c p (Ag c p) J2 H2 1 (do let _ <-call (.builtin "list.append") [.ref p,<-eval elt X.env]) (gG ge):=by
 intro pins s σ H J env ys Qf I x2 sr no ⟨us,h1,h2,h3⟩ hl w
 have hlen:ys.length=us.length:=h3.length
 refine wpAny_bind (wpAny_mono (hE _ s σ H (fun v H8=>∃J8 y,Ext J H J8 H8/\Rep c.K J8 y v/\Qf ([y],env)) I ⟨J,env,sr,aC (aK w) fun r wr v J8 H8 e8 r8=>?_⟩) (fun u8 s8 ⟨v8,H8,I8,r8,J8,y,e8,ry,w8⟩=>?_) fun v s f=>(hx v s f).elim)
 ·obtain ⟨y,q,wr⟩:=iU wr
  obtain ⟨J9,e9,_,ry⟩:=freeze e8 r8 q
  exact ⟨J9,y,e9,ry,wr⟩
 have p8:H8 p=some (.lst us):=e8.h _ _ h1
 have J8p:J8 p=none:=e8.frz _ (by rw [h1];intro z;cases z) h2
 refine wpAny_bind (wpAny_mono (oB (X:=X) _ s8 σ H8 (.ref p) [v8] (.ref p) [u8] (fun _ H9=>H9=L2.upd H8 p (.lst (us++[v8]))) I8 rfl (.cons r8 .nil) ⟨_,us,v8,rfl,rfl,p8,by omega,rfl⟩) (fun _ s9 ⟨_,H9,I9,_,h9⟩=>?_) fun v s f=>(hx v s f).elim)
 subst h9
 exact wpAny_pure ⟨σ,_,J8,([y],env),I9,(x2.trans e8).other hp2 J8p,e8.j,(sr.ext e8).other J8p hp0 no,no,⟨us++[v8],bO,J8p,(h3.mono e8.j).append (.cons ry .nil)⟩,Nat.le_refl _,w8⟩
end
def kr (lim n:Nat) (cap:List Nat) (gi:G (List D)) (gt:GT) (gts:G Bool) (act:Ev->M (List D×Ev)) (fin:List D->M R):G R:=fun env=>gi env >>= fun ds=>if ds.length<=lim then bT gt gts act ds (cE n cap env) >>= fun r=>fin r.1 else .bad
section
variable {X:Cx}{c:C}
theorem qa (own:List Str) (cap:List Nat){e target iter:Expr}{ifs:List Expr}{gs:List Comprehension}{scope:Scope}{gi:G (List D)}{gt:GT}{gts:G Bool}{act:Ev->M (List D×Ev)}{fin:List D->M R}{newAcc:Sem Value}{ob:Obj}{o0:Addr->HO}{Acc:Addr->Hp->Hp->List D->Prop}{N lim:Nat}{m:Addr->Env->Sem Unit}
  (hcls:clausesOf e=⟨target,iter,ifs,0⟩::gs) (hi:nE X c target iter gi)
  (hnew:∀(s:Shared) (Q:Value->Shared->Prop) (E:Value->Shared->Prop),Q (.ref s.heap.objs.size) {s with heap:=s.heap.push ob}->wpAny (model X.prog X.w) X.A newAcc Q E s)
  (hob:∀(h:Heap) (H:Hp),b9 X.prog X.w H (h.push ob) h.objs.size (o0 h.objs.size))
  (aR:∀p,vR (Acc p)) (a0:∀(p:Addr) (J H:Hp),sysModules < p->H p=some (o0 p)->J p=none->Acc p J H [])
  (hN:lim * N<=sizeLine) (LP:∀(it p:Addr) (env:Env),qE X.prog X.w X.A e 0 (.ref it) (.ref p) env target ifs (m p env))
  (start:∀(it:Addr) (acc:Value) (env:Env) (R:Result->Shared->Prop) (s:Shared),codeAny (model X.prog X.w) X.A (.compLoop e 0 (.ref it) acc env) R s->wpAny (model X.prog X.w) X.A (pyIter (.ref it)) (fun it' s'=>codeAny (model X.prog X.w) X.A (.compLoop e 0 it' acc env) R s') (notedBy (model X.prog X.w) X.A env fun x s'=>R (.error x) s') s->codeAny (model X.prog X.w) X.A (.compStart e 0 (.ref it) acc env) R s)
  (nofin:∀ys z,fin ys≠.exc z) (hend:∀{p:Addr}{J H J' H':Hp}{ys:List D}{r:R},H p=none->Ext J H J' H'->Acc p J' H' ys->fin ys=.ok r->∃J'',Ext J H J'' H'/\RR c H J'' H' r (.ref p))
  (hbody:∀(cl:List (Str×Addr)) (C:Addr) (s:Shared) (H:Hp) (fp:List Addr),bG X.env.cells scope.names []=some cl->gF (aY X own cap scope cl C s H fp) c target gt/\fR (aY X own cap scope cl C s H fp) c ifs gts/\∀(p:Addr) (J2 H2:Hp),H2 p=none->c.H0 p=none->sQ (aY X own cap scope cl C s H fp) c p (Acc p) J2 H2 N (m p (aY X own cap scope cl C s H fp).env) act)
  (hk:scope.kind=.function) (hno:gz X cap scope=true) (hnames:(scope.names.all fun x=>!(x.2 == .local) || (scope.names.lookup x.1 == some .local))=true)
  (hcl:(bG X.env.cells scope.names []).isSome=true) (hcap:eN X cap=true) (hloc:eZ X cap scope=true) (hnd:gM cap=true) (Nm:X.calm=true)
  (hs:∀x,foldedSetIterable iter X.env x=pure x)
  {pins:List (Addr×Obj)}{s:Shared}{σ:L2.St}{H:Hp}{Q:VK}{use:Option (Value->Sem Unit)}{Q0:Value->Shared->Prop}{pos':Pos}(I:Inv X pins σ H s) (h:tD c (kr lim own.length cap gi gt gts act fin) σ H Q)
  (Nu:∀(acc C:Addr) (m:Str->Option Value) (s':Shared) (H':Hp) (fl:Flow),s'.heap.Ns C m->((C∈X.ex\/X.s₀.heap.objs.size<=C)/\C≠X.env.locals/\(∀x c,X.env.cells.lookup x=some c->c≠C)/\∀p∈X.pn++pins,p.1≠C)->H' C=none->(∀h'',Heap.SameBut C s'.heap h''->Inv X pins σ H' {s' with heap:=h''})->Q (.ref acc) H'->compPost (model X.prog X.w) X.A X.xe use Q0 (.ref acc) C (.ok fl) s'):
  wpAny (model X.prog X.w) X.A (comprehension e scope X.env pos' newAcc false (eval iter X.env) use) Q0 X.xe s:=by
 obtain ⟨J,env,sr,w⟩:=h
 obtain ⟨cl,hcl⟩:=Option.isSome_iff_exists.mp hcl
 have Oq:∀j∈cap,∀x,X.N[j]?=some x->cS scope.names x=false:=fun j hj x hx=>by
  have:=List.all_eq_true.mp hno j hj
  rw [hx] at this
  simpa using this
 have NK:∀x∈scope.names,x.2=.local->scope.names.lookup x.1=some .local:=fun y hy z=>by
  have:=List.all_eq_true.mp hnames y hy
  rw [z] at this
  simpa using this
 have NZ:∀j∈cap,∀x,X.N[j]?=some x->(relabel scope X.env).names.lookup x≠some .local:=fun j hj x hx z=>by
  have:=List.all_eq_true.mp hloc j hj
  rw [hx] at this
  simp only at this
  rw [z] at this
  cases this
 refine wpAny_comprehension_free (use:=use) hcls hs (vh hcl) hk NK ?_
 refine bM (hi pins s σ H (fun It H1=>∃ds J1,Ext J H J1 H1/\Walk c It ds J1 (fun J' H'=>aP J1 J'/\aP H1 H')/\
  cL (if ds.length<=lim then bT gt gts act ds (cE own.length cap env) >>= fun r=>fin r.1 else .bad) (fun r=>∀v J' H',Ext J H J' H'->RR c H J' H' r v->Q v H') c.T) I ⟨J,env,sr,aC (aK w) fun ds wd It J1 H1 e1 wk=>⟨ds,J1,e1,wk,wd⟩⟩) fun xv s1 h1=>bM h1 fun itv s2 h2=>?_
 obtain ⟨it,fp,tn,It,H2,rfl,I2,T,st2,f2,ds,J2,e2,wk,w2⟩:=h2
 have hsz:ds.length<=lim:=by
  by_cases z:ds.length<=lim
  ·exact z
  ·rw [if_neg z] at w2;exact w2.elim
 rw [if_pos hsz] at w2
 have w3:=aK w2
 refine hnew s2 _ _ (AO ?_)
 dsimp only
 generalize N6:s2.heap.push ob=Hs
 have hC:Hs.objs.size=s2.heap.objs.size + 1:=by rw [<-N6,Heap.size_push]
 have hp2:H2 s2.heap.objs.size=none:=I2.hok.fresh (Nat.le_refl _)
 have kHs:∀b o,s2.heap.get? b=some o->Hs.get? b=some o:=fun b o e=>by rw [<-N6];exact Heap.get?_push_of_some _ e
 have I3:Inv X pins σ (L2.upd H2 s2.heap.objs.size (o0 s2.heap.objs.size)) {s2 with heap:=Hs,toks:=s2.toks}:=I2.laid (t':=s2.toks) kHs (Nat.le_refl _) (by rw [<-N6];exact hob _ _)
 have f3:∀b∈fp,iG X pins (L2.upd H2 s2.heap.objs.size (o0 s2.heap.objs.size)) b:=fun b hb=>by
  obtain ⟨o,ho,_⟩:=T.obj _ _ st2 b hb
  exact ⟨by rw [bg (Nat.ne_of_lt (Heap.lt_size ho))];exact (f2 b hb).1,(f2 b hb).2⟩
 have hin:∀b∈fp,b < Hs.objs.size:=fun b hb=>by
  obtain ⟨o,ho,_⟩:=T.obj _ _ st2 b hb
  exact Nat.lt_trans (Heap.lt_size ho) (by rw [hC];exact Nat.lt_succ_self _)
 obtain ⟨h₁,eh₁⟩:∃h₁,h₁=pushCells (Hs.push {cls:=.type "dict",data:=.dict #[]}) scope.names:=⟨_,rfl⟩
 rw [<-eh₁]
 have hns₁:h₁.Ns Hs.objs.size (fun _=>none):=by rw [eh₁];exact Jl Hs scope.names
 have ck:CellsOk h₁ (Hs.objs.size + 1) (cellsFrom (Hs.objs.size + 1) scope.names []):=by rw [eh₁];exact BK Hs scope.names
 have okC:=Gm (own:=own) (cap:=cap) I3 hk hcl ck f3 hin
 have old1:∀b o,Hs.get? b=some o->h₁.get? b=some o:=fun b o e=>by rw [eh₁];exact pushCells_keeps _ _ _ _ (Heap.get?_push_of_some _ e)
 have I4:=DJ (tk:=s2.toks) I3 okC hcl ck hcap NZ Oq hns₁ old1
 have sr2:=sr.ext e2
 have srA:SR c J2 (L2.upd H2 s2.heap.objs.size (o0 s2.heap.objs.size)) σ env:=sr2.ext (Ext.new e2.sub hp2 _)
 have J2p:J2 s2.heap.objs.size=none:=e2.sub.free hp2
 have H0p:c.H0 s2.heap.objs.size=none:=sr2.hp.ent.free hp2
 have nown:∀(j:Nat) (xs:Mn),(cE own.length cap env)[j]?=some (some (mS xs))->(List.replicate own.length none++cap.map fun (j:Nat)=>(σ[j]?).getD none)[j]?≠some (some (.ref s2.heap.objs.size)):=fun j xs q z=>by
  obtain ⟨a,h1,h2,h3⟩:=jN q
  obtain ⟨a',h4,h5,h6⟩:=jN z
  rw [h2] at h5;cases h5
  obtain ⟨p,k1,k2,_⟩:=sr2.mine h3
  rw [h6] at k1
  cases k1
  exact k2 hp2
 obtain ⟨hT,hIf,hE⟩:=hbody cl Hs.objs.size {s2 with heap:=Hs,toks:=s2.toks} (L2.upd H2 s2.heap.objs.size (o0 s2.heap.objs.size)) fp hcl
 have fpC:∀{H':Hp},(∀b∈fp,H' b=none)->∀b∈fp,iG (aY X own cap scope cl Hs.objs.size {s2 with heap:=Hs,toks:=s2.toks} (L2.upd H2 s2.heap.objs.size (o0 s2.heap.objs.size)) fp) [] H' b:=fun {H'} hn b hb=>by
  obtain ⟨m1,_⟩:=gH scope.names [] cl hcl (fun x c h=>by simp at h)
  refine ⟨hn b hb,Nat.ne_of_lt (hin b hb),fun z=>?_,.inl hb,fun x d h=>(fP h).elim (fun h=>Nat.ne_of_gt (Nat.lt_of_lt_of_le (hin b hb) (Nat.le_of_succ_le (ck.empty _ _ (mem_of_lookup h)).2))) (fun h=>(f2 b hb).2.2.2.2.1 x d (m1 x d h.2)),fun p hp=>absurd (show p∈([]:List (Addr×Obj)) from hp) (by simp)⟩
  rcases List.mem_cons.mp (I2.stkSub b z) with e | e
  ·exact (f2 b hb).2.1 e
  ·exact (f2 b hb).2.2.1 e
 have back:∀{pi:List (Addr×Obj)}{σ':L2.St}{H':Hp}{s':Shared}{h'':Heap},Inv (aY X own cap scope cl Hs.objs.size {s2 with heap:=Hs,toks:=s2.toks} (L2.upd H2 s2.heap.objs.size (o0 s2.heap.objs.size)) fp) pi σ' H' s'->Heap.SameBut Hs.objs.size s'.heap h''->Inv X pins σ H' {s' with heap:=h''}:=fun {pi σ' H' s' h''} I' sb=>by
  have B:Un (frs X.stack) fp (L2.upd H2 s2.heap.objs.size (o0 s2.heap.objs.size)) H' Hs s'.heap:=I'.base
  have ne2:∀{b:Addr}{o:Obj},s2.heap.get? b=some o->b≠s2.heap.objs.size/\b≠Hs.objs.size:=fun {b o} e=>
   ⟨Nat.ne_of_lt (Heap.lt_size e),Nat.ne_of_lt (Nat.lt_trans (Heap.lt_size e) (by rw [hC];exact Nat.lt_succ_self _))⟩
  have nH:∀{b:Addr}{o:HO},H2 b=some o->L2.upd H2 s2.heap.objs.size (o0 s2.heap.objs.size) b=some o:=fun {b o} e=>by rw [bg (dW e hp2)];exact e
  refine Inv.call' (ch:=fp) (s':={s' with heap:=h''}) I2 I'.os ⟨fun b o e n hf hx=>?_,fun b o e n hf hx=>?_,fun b o e n hx=>?_,fun b o e hx=>?_,fun b xs e=>B.tups b xs (nH e),fun b o u e=>B.frzs b o u (nH e),fun b ps e=>B.tbls b ps (nH e)⟩ (yO I'.hok I'.free sb) I'.bare fun b hb=>⟨(f2 b hb).2.2.2.1,(f2 b hb).2.1,(f2 b hb).2.2.2.2.1,(f2 b hb).2.2.2.2.2⟩
  ·exact (sb.2 b (ne2 e).2).trans (B.keep b o (kHs b o e) (by rw [bg (ne2 e).1];exact n) hf hx)
  ·obtain ⟨sl,z⟩:=B.slot b o (kHs b o e) (by rw [bg (ne2 e).1];exact n) hf hx
   exact ⟨sl,(sb.2 b (ne2 e).2).trans z⟩
  ·exact B.free b o (kHs b o e) (by rw [bg (ne2 e).1];exact n) hx
  ·obtain ⟨o',z⟩:=B.there b o (kHs b o e) hx
   exact ⟨o',(sb.2 b (ne2 e).2).trans z⟩
 have run:=fun (s4:Shared) (I4:Inv (aY X own cap scope cl Hs.objs.size {s2 with heap:=Hs,toks:=s2.toks} (L2.upd H2 s2.heap.objs.size (o0 s2.heap.objs.size)) fp) [] _ _ s4) (st4:tn 0 s4.heap)=>xB (X:=aY X own cap scope cl Hs.objs.size {s2 with heap:=Hs,toks:=s2.toks} (L2.upd H2 s2.heap.objs.size (o0 s2.heap.objs.size)) fp) (e:=e) (depth:=0) (acc:=.ref s2.heap.objs.size) (aR _) Nm (fun _ _ f=>f) (LP it _ _) hT hIf (hE s2.heap.objs.size J2 H2 hp2 H0p) T (fun J' H'=>aP J2 J'/\aP H2 H') wk (fun J' H' x _=>⟨x.j,x.h⟩) I4 st4 (fpC fun b hb=>(f3 b hb).1) (Ext.new e2.sub hp2 _) (srA.cap own.length cap (zE hnd)) nown (a0 _ _ _ (BF I2) bO J2p) (Nat.le_trans (by rw [List.length_nil,Nat.zero_add];exact Nat.mul_le_mul_right N hsz) hN) w3
 have st4:=T.keep _ _ _ st2 (fun b hb o e=>old1 b o (kHs b o e))
 have go:=codeAny_mono (run _ I4 st4) (R':=compPost (model X.prog X.w) X.A X.xe use Q0 (.ref s2.heap.objs.size) Hs.objs.size) fun r s' ⟨hr,σ',H',J',r',I9,x9,j9,sr9,no9,ac9,l9,w9⟩=>by
  subst hr
  obtain ⟨mm,hm,_⟩:=I9.loc
  refine Nu s2.heap.objs.size Hs.objs.size mm _ H' _ hm (Iv I2 (by rw [hC];exact Nat.le_succ _)) I9.free (fun h'' sb=>back I9 sb) ?_
  cases q:fin r'.1 with
  | bad=>rw [q] at w9;exact w9.elim
  | exc z=>rw [q] at w9;exact (nofin _ z q).elim
  | ok z=>
   rw [q] at w9
   obtain ⟨J9,x10,rr⟩:=hend (e2.h.free hp2) (e2.trans x9) ac9 q
   exact w9 _ J9 H' x10 rr
 exact start it _ _ _ _ go (T.self _ 0 _ _ _ st4 go)
end
def jC (n:Nat) (cap:List Nat) (gi0:G (List D)) (gt0:GT) (gts0:G Bool) (gi1:G (List D)) (gt1:GT) (gts1:G Bool) (ge:G R):G R:=kr 10000 n cap gi0 gt0 gts0 (i9 gi1 gt1 gts1 (gG ge)) (fun ys=>.ok (.l .fresh ys))
theorem Ic (elt t0 i0 t1 i1:Expr) (f0 f1:List Expr) (scope:Scope) (pos:Pos) (it acc:Value) (env:Env):
  compTurn (.ListComp elt [⟨t0,i0,f0,0⟩,⟨t1,i1,f1,0⟩] scope pos) 0 it acc env=(do
   standAt i0.pos
   match <-pyNext it with
   | none=>pure (.done .next)
   | some v=>
    letOwnedTupleGo t0 it v
    assign t0 env v
    let mut ok:=true
    for c in f0 do
     if ok then ok <-isTrue c env (eval c env)
    if ok then
     let x <-eval i1 env
     standAt i1.pos
     let x <-foldedSetIterable i1 env x
     let _ <-runOwn (.compStart (.ListComp elt [⟨t0,i0,f0,0⟩,⟨t1,i1,f1,0⟩] scope pos) 1 (<-holding [x] (pyIter x)) acc env) env
    again (.compLoop (.ListComp elt [⟨t0,i0,f0,0⟩,⟨t1,i1,f1,0⟩] scope pos) 0 it acc env)):=by rfl
theorem KZ (elt t0 i0 t1 i1:Expr) (f0 f1:List Expr) (scope:Scope) (pos:Pos) (it acc:Value) (env:Env):
  compTurn (.ListComp elt [⟨t0,i0,f0,0⟩,⟨t1,i1,f1,0⟩] scope pos) 0 it acc env=nB t0 i0 f0 it env (qh (.ListComp elt [⟨t0,i0,f0,0⟩,⟨t1,i1,f1,0⟩] scope pos) i1 acc env) (again (.compLoop (.ListComp elt [⟨t0,i0,f0,0⟩,⟨t1,i1,f1,0⟩] scope pos) 0 it acc env)):=by
 rw [Ic]
 refine bind_congr fun _=>bind_congr fun r=>?_
 cases r with
 | none=>rfl
 | some v=>
  refine bind_congr fun _=>bind_congr fun _=>bind_congr fun ok=>?_
  cases ok with
  | false=>rfl
  | true=>simp only [qh,bind_assoc,pure_bind,if_true]
theorem K0 (elt t0 i0 t1 i1:Expr) (f0 f1:List Expr) (scope:Scope) (pos:Pos) (it acc:Value) (env:Env):
  compTurn (.ListComp elt [⟨t0,i0,f0,0⟩,⟨t1,i1,f1,0⟩] scope pos) 1 it acc env=nB t1 i1 f1 it env (do let _ <-call (.builtin "list.append") [acc,<-eval elt env]) (again (.compLoop (.ListComp elt [⟨t0,i0,f0,0⟩,⟨t1,i1,f1,0⟩] scope pos) 1 it acc env)):=by rfl
section
variable {X:Cx}{c:C}
theorem BP (own:List Str) (cap:List Nat){elt t0 i0 t1 i1:Expr}{f0 f1:List Expr}{scope:Scope}{pos:Pos}{gi0 gi1:G (List D)}{gt0 gt1:GT}{gts0 gts1:G Bool}{ge:G R}(hi:nE X c t0 i0 gi0)
  (hbody:∀(cl:List (Str×Addr)) (C:Addr) (s:Shared) (H:Hp) (fp:List Addr),bG X.env.cells scope.names []=some cl->gF (aY X own cap scope cl C s H fp) c t0 gt0/\fR (aY X own cap scope cl C s H fp) c f0 gts0/\j4 (aY X own cap scope cl C s H fp) c t1 i1 gi1/\gF (aY X own cap scope cl C s H fp) c t1 gt1/\fR (aY X own cap scope cl C s H fp) c f1 gts1/\PD (aY X own cap scope cl C s H fp) c elt ge)
  (hk:scope.kind=.function:=by rfl) (hno:gz X cap scope=true:=by rfl) (hnames:(scope.names.all fun x=>!(x.2 == .local) || (scope.names.lookup x.1 == some .local))=true:=by rfl)
  (hcl:(bG X.env.cells scope.names []).isSome=true:=by rfl) (hcap:eN X cap=true:=by rfl) (hloc:eZ X cap scope=true:=by rfl) (hnd:gM cap=true:=by rfl) (Nm:X.calm=true:=by rfl)
  (hs:∀x,foldedSetIterable i0 X.env x=pure x:=by intro _;rfl) (hs1:∀(en:Env) x,foldedSetIterable i1 en x=pure x:=by intro _ _;rfl)
  {pins:List (Addr×Obj)}{s:Shared}{σ:L2.St}{H:Hp}{Q:VK}{use:Option (Value->Sem Unit)}{Q0:Value->Shared->Prop}{pos':Pos}(I:Inv X pins σ H s) (h:tD c (jC own.length cap gi0 gt0 gts0 gi1 gt1 gts1 ge) σ H Q)
  (Nu:∀(acc C:Addr) (m:Str->Option Value) (s':Shared) (H':Hp) (fl:Flow),s'.heap.Ns C m->((C∈X.ex\/X.s₀.heap.objs.size<=C)/\C≠X.env.locals/\(∀x c,X.env.cells.lookup x=some c->c≠C)/\∀p∈X.pn++pins,p.1≠C)->H' C=none->(∀h'',Heap.SameBut C s'.heap h''->Inv X pins σ H' {s' with heap:=h''})->Q (.ref acc) H'->compPost (model X.prog X.w) X.A X.xe use Q0 (.ref acc) C (.ok fl) s'):
  wpAny (model X.prog X.w) X.A (comprehension (.ListComp elt [⟨t0,i0,f0,0⟩,⟨t1,i1,f1,0⟩] scope pos) scope X.env pos' (newList []) false (eval i0 X.env) use) Q0 X.xe s:=by
 refine qa (e:=.ListComp elt [⟨t0,i0,f0,0⟩,⟨t1,i1,f1,0⟩] scope pos) (ob:={cls:=.type "list",dict:=none,data:=.seq ([]:List Value).toArray}) (o0:=fun _=>.lst []) (Acc:=Ag c) (N:=1000 * 1) (lim:=10000) (m:=fun p env=>qh (.ListComp elt [⟨t0,i0,f0,0⟩,⟨t1,i1,f1,0⟩] scope pos) i1 (.ref p) env) own cap rfl hi
  (fun s Q E q=>wpAny_newObj_type q) (fun h H=>⟨Nat.zero_le _,[],0,.nil,Heap.get?_push_size _ rfl⟩) (fun p=>pZ) (fun p J H _ h1 h2=>⟨[],h1,h2,.nil⟩) (by decide) (fun it p env=>AM (KZ ..)) (fun it acc env R s h0 h=>codeAny_compStart_list h0 h) (fun ys z q=>by cases q)
  (fun {p J H J' H' ys r} hp e ⟨us,h1,h2,h3⟩ q=>by cases q;exact ⟨J',e,⟨p,us,rfl,h1,h2,hp,h3⟩⟩) (fun cl C s H fp hcc=>?_) hk hno hnames hcl hcap hloc hnd Nm hs I h Nu
 obtain ⟨b1,b2,b3,b4,b5,b6⟩:=hbody cl C s H fp hcc
 refine ⟨b1,b2,fun p J2 H2 hp2 hp0=>?_⟩
 exact za pZ Nm (fun _ _ f=>f) (fun x=>hs1 _ x) (fun it R s h0 h=>KQ h0 h) (fun it=>AM (K0 ..)) b3 b4 b5 (y_ (fun _ _ f=>f) hp2 hp0 b6)
theorem Cu (own:List Str) (cap:List Nat){elt t0 i0 t1 i1:Expr}{f0 f1:List Expr}{scope:Scope}{pos:Pos}{gi0 gi1:G (List D)}{gt0 gt1:GT}{gts0 gts1:G Bool}{ge:G R}(hi:nE X c t0 i0 gi0)
  (hbody:∀(cl:List (Str×Addr)) (C:Addr) (s:Shared) (H:Hp) (fp:List Addr),bG X.env.cells scope.names []=some cl->gF (aY X own cap scope cl C s H fp) c t0 gt0/\fR (aY X own cap scope cl C s H fp) c f0 gts0/\j4 (aY X own cap scope cl C s H fp) c t1 i1 gi1/\gF (aY X own cap scope cl C s H fp) c t1 gt1/\fR (aY X own cap scope cl C s H fp) c f1 gts1/\PD (aY X own cap scope cl C s H fp) c elt ge)
  (hk:scope.kind=.function:=by rfl) (hno:gz X cap scope=true:=by rfl) (hnames:(scope.names.all fun x=>!(x.2 == .local) || (scope.names.lookup x.1 == some .local))=true:=by rfl)
  (hcl:(bG X.env.cells scope.names []).isSome=true:=by rfl) (hcap:eN X cap=true:=by rfl) (hloc:eZ X cap scope=true:=by rfl) (hnd:gM cap=true:=by rfl) (Nm:X.calm=true:=by rfl)
  (hs:∀x,foldedSetIterable i0 X.env x=pure x:=by intro _;rfl) (hs1:∀(en:Env) x,foldedSetIterable i1 en x=pure x:=by intro _ _;rfl):PD X c (.ListComp elt [⟨t0,i0,f0,0⟩,⟨t1,i1,f1,0⟩] scope pos) (jC own.length cap gi0 gt0 gts0 gi1 gt1 gts1 ge):=by
 intro pins s σ H Q I h
 rw [eval_ListComp]
 exact BP own cap hi hbody hk hno hnames hcl hcap hloc hnd Nm hs hs1 I h fun acc C m s' H' fl hm hz hf hb q=>⟨m,hm,fun h'' sb=>⟨.ref acc,H',hb h'' sb,rfl,q⟩⟩
theorem Cs (i:Nat) (own:List Str) (cap:List Nat){elt t0 i0 t1 i1:Expr}{f0 f1:List Expr}{scope:Scope}{pos:Pos}{gi0 gi1:G (List D)}{gt0 gt1:GT}{gts0 gts1:G Bool}{ge:G R}{pos' pos2:Pos}{x:Str}(hN:X.N.Nodup) (hi:nE X c t0 i0 gi0)
  (hbody:∀(cl:List (Str×Addr)) (C:Addr) (s:Shared) (H:Hp) (fp:List Addr),bG X.env.cells scope.names []=some cl->gF (aY X own cap scope cl C s H fp) c t0 gt0/\fR (aY X own cap scope cl C s H fp) c f0 gts0/\j4 (aY X own cap scope cl C s H fp) c t1 i1 gi1/\gF (aY X own cap scope cl C s H fp) c t1 gt1/\fR (aY X own cap scope cl C s H fp) c f1 gts1/\PD (aY X own cap scope cl C s H fp) c elt ge)
  (hk:scope.kind=.function:=by rfl) (hno:gz X cap scope=true:=by rfl) (hnames:(scope.names.all fun x=>!(x.2 == .local) || (scope.names.lookup x.1 == some .local))=true:=by rfl)
  (hcl:(bG X.env.cells scope.names []).isSome=true:=by rfl) (hcap:eN X cap=true:=by rfl) (hloc:eZ X cap scope=true:=by rfl) (hnd:gM cap=true:=by rfl) (Nm:X.calm=true:=by rfl)
  (hs:∀x,foldedSetIterable i0 X.env x=pure x:=by intro _;rfl) (hs1:∀(en:Env) x,foldedSetIterable i1 en x=pure x:=by intro _ _;rfl) (hx:X.N[i]?=some x:=by rfl) (NN:X.env.scope.names.lookup x=some .local:=by rfl)
  (hsw:swapsWith (.ListComp elt [⟨t0,i0,f0,0⟩,⟨t1,i1,f1,0⟩] scope pos) (some (.Name x pos')) pos2.line X.env=pure true:=by rfl):iw X c (.Assign [.Name x pos'] (.ListComp elt [⟨t0,i0,f0,0⟩,⟨t1,i1,f1,0⟩] scope pos) pos2) (bw i (jC own.length cap gi0 gt0 gts0 gi1 gt1 gts1 ge)):=by
 intro pins s σ H D I ⟨J,env,sr,w⟩
 rw [arm_exec_Assign]
 refine wpAny_bind (wpAny_standAt ?_)
 rw [show swapsWithSole [.Name x pos'] (.ListComp elt [⟨t0,i0,f0,0⟩,⟨t1,i1,f1,0⟩] scope pos) pos2.line X.env=pure true from hsw]
 refine wpAny_bind (wpAny_pure ?_)
 rw [if_pos rfl,arm_evalThenUse_ListComp]
 refine wpAny_bind (wpAny_bind (BP own cap hi hbody hk hno hnames hcl hcap hloc hnd Nm hs hs1 (Q:=fun v H1=>∃J1 r xx,Ext J H J1 H1/\RR c H J1 H1 r v/\toS r=.ok xx/\oP c J D (.nx (env.set i (some xx)))) I ⟨J,env,sr,aC (aK w) fun r wr v J1 H1 e1 r1=>?_⟩ fun acc C m s' H' fl hm ap hf hb ⟨J1,r,xx,e1,r1,q1,w1⟩=>?_))
 ·obtain ⟨xx,q,wr⟩:=t7 wr
  exact ⟨J1,r,xx,e1,r1,q,wr⟩
 ·have I1:L2.Inv X pins σ H' s':=hb s'.heap (Heap.SameBut.refl ..)
  show wpAny _ _ (do standAt pos';bindName X.env x (.ref acc)) _ _ _
  refine wpAny_bind (wpAny_standAt (wpAny_bindName ?_))
  refine oO I1 hN hx (.inl NN) (v:=.ref acc) (u:=.ref acc) rfl (fun s2 I2 ⟨a,sb,ha⟩=>?_) (.inr NN)
  have hac:C≠a:=fun z=>by
   rcases ha with e | e
   ·exact ap.2.1 (z.trans e)
   ·exact ap.2.2.1 _ _ e z.symm
  refine ⟨m,hm.sameBut sb hac,fun h2 sb2=>?_⟩
  refine wpAny_pure (wpAny_pure ⟨σ.set i (some (.ref acc)),H',uz I2 ap hf sb2 (o0:=default),?_⟩)
  exact w1 _ J1 H' e1.j (sr.set e1 r1 q1)
theorem A2 (own:List Str) (cap:List Nat){elt t0 i0 t1 i1:Expr}{f0 f1:List Expr}{scope:Scope}{pos:Pos}{gi0 gi1:G (List D)}{gt0 gt1:GT}{gts0 gts1:G Bool}{ge:G R}(hi:wB X c t0 i0 gi0)
  (hbody:∀(cl:List (Str×Addr)) (C:Addr) (s:Shared) (H:Hp) (fp:List Addr),bG X.env.cells scope.names []=some cl->lN (aY X own cap scope cl C s H fp) c t0 gt0/\lE (aY X own cap scope cl C s H fp) c f0 gts0/\qI (aY X own cap scope cl C s H fp) c t1 i1 gi1/\lN (aY X own cap scope cl C s H fp) c t1 gt1/\lE (aY X own cap scope cl C s H fp) c f1 gts1/\QD (aY X own cap scope cl C s H fp) c elt ge)
  (hk:scope.kind=.function:=by rfl) (hno:gz X cap scope=true:=by rfl) (hnames:(scope.names.all fun x=>!(x.2 == .local) || (scope.names.lookup x.1 == some .local))=true:=by rfl)
  (hcl:(bG X.env.cells scope.names []).isSome=true:=by rfl) (hcap:eN X cap=true:=by rfl) (hloc:eZ X cap scope=true:=by rfl) (hnd:gM cap=true:=by rfl) (Nm:X.calm=true:=by rfl)
  (hs:∀x,foldedSetIterable i0 X.env x=pure x:=by intro _;rfl) (hs1:∀(en:Env) x,foldedSetIterable i1 en x=pure x:=by intro _ _;rfl):QD X c (.ListComp elt [⟨t0,i0,f0,0⟩,⟨t1,i1,f1,0⟩] scope pos) (jC own.length cap gi0 gt0 gts0 gi1 gt1 gts1 ge):=
 ⟨Cu own cap hi.h (fun cl C s H fp hc=>let ⟨a,b,d,e,f,g⟩:=hbody cl C s H fp hc;⟨a.h,b.h,d.h,e.h,f.h,g.h⟩) hk hno hnames hcl hcap hloc hnd Nm hs hs1⟩
theorem A0 (i:Nat) (own:List Str) (cap:List Nat){elt t0 i0 t1 i1:Expr}{f0 f1:List Expr}{scope:Scope}{pos:Pos}{gi0 gi1:G (List D)}{gt0 gt1:GT}{gts0 gts1:G Bool}{ge:G R}{pos' pos2:Pos}{x:Str}(hN:X.N.Nodup) (hi:wB X c t0 i0 gi0)
  (hbody:∀(cl:List (Str×Addr)) (C:Addr) (s:Shared) (H:Hp) (fp:List Addr),bG X.env.cells scope.names []=some cl->lN (aY X own cap scope cl C s H fp) c t0 gt0/\lE (aY X own cap scope cl C s H fp) c f0 gts0/\qI (aY X own cap scope cl C s H fp) c t1 i1 gi1/\lN (aY X own cap scope cl C s H fp) c t1 gt1/\lE (aY X own cap scope cl C s H fp) c f1 gts1/\QD (aY X own cap scope cl C s H fp) c elt ge)
  (hk:scope.kind=.function:=by rfl) (hno:gz X cap scope=true:=by rfl) (hnames:(scope.names.all fun x=>!(x.2 == .local) || (scope.names.lookup x.1 == some .local))=true:=by rfl)
  (hcl:(bG X.env.cells scope.names []).isSome=true:=by rfl) (hcap:eN X cap=true:=by rfl) (hloc:eZ X cap scope=true:=by rfl) (hnd:gM cap=true:=by rfl) (Nm:X.calm=true:=by rfl)
  (hs:∀x,foldedSetIterable i0 X.env x=pure x:=by intro _;rfl) (hs1:∀(en:Env) x,foldedSetIterable i1 en x=pure x:=by intro _ _;rfl) (hx:X.N[i]?=some x:=by rfl) (NN:X.env.scope.names.lookup x=some .local:=by rfl)
  (hsw:swapsWith (.ListComp elt [⟨t0,i0,f0,0⟩,⟨t1,i1,f1,0⟩] scope pos) (some (.Name x pos')) pos2.line X.env=pure true:=by rfl):i6 X c (.Assign [.Name x pos'] (.ListComp elt [⟨t0,i0,f0,0⟩,⟨t1,i1,f1,0⟩] scope pos) pos2) (bw i (jC own.length cap gi0 gt0 gts0 gi1 gt1 gts1 ge)):=
 ⟨Cs i own cap hN hi.h (fun cl C s H fp hc=>let ⟨a,b,d,e,f,g⟩:=hbody cl C s H fp hc;⟨a.h,b.h,d.h,e.h,f.h,g.h⟩) hk hno hnames hcl hcap hloc hnd Nm hs hs1 hx NN hsw⟩
end
def A5:Value->Option V
 | .int i _=>some (.int i)
 | .ref a=>some (.ref a)
 | _=>none
def jS:List Value->Option (List V)
 | []=>some []
 | u::us=>match A5 u,jS us with
  | some v,some vs=>some (v::vs)
  | _,_=>none
open Classical in
noncomputable def kI (h:Heap):Hp:=fun a=>match h.get? a with
 | some o=>if o.cls=.type "tuple" then (match o.data with
  | .seq its _=>(jS its.toList).map .tup
  | _=>none) else none
 | none=>none
theorem EZ {u:Value}{v:V}(h:A5 u=some v):RelV v u:=by
 cases u with
 | int i t=>cases h;exact ⟨t,rfl⟩
 | ref a=>cases h;exact rfl
 | _=>cases h
theorem uH:∀{us:List Value}{vs:List V},jS us=some vs->Vals vs us
 | [],vs,h=>by cases h;exact .nil
 | u::us,vs,h=>by
  unfold jS at h
  cases q:A5 u with
  | none=>rw [q] at h;cases h
  | some v=>
   cases q2:jS us with
   | none=>rw [q,q2] at h;cases h
   | some ws=>rw [q,q2] at h;cases h;exact .cons (EZ q) (uH q2)
theorem iL {h:Heap}{a:Addr}{o:HO}(q:kI h a=some o):∃vs ob its n,o=.tup vs/\h.get? a=some ob/\ob.cls=.type "tuple"/\ob.data=.seq its n/\Vals vs its.toList:=by
 unfold kI at q
 split at q
 ·rename_i ob hob
  split at q
  ·rename_i hc
   split at q
   ·rename_i its n hd
    cases z:jS its.toList with
    | none=>rw [z] at q;cases q
    | some vs=>rw [z] at q;cases q;exact ⟨vs,ob,its,n,rfl,hob,hc,hd,uH z⟩
   ·cases q
  ·cases q
 ·cases q
theorem HN {h:Heap}{a:Addr}{its:List Value}{vs:List V}(p:h.IsTuple a its.toArray) (q:jS its=some vs):kI h a=some (.tup vs):=by
 obtain ⟨o,ho,hc,n,hd⟩:=p
 unfold kI
 rw [ho]
 simp only [hc,if_true,hd]
 rw [q];rfl
theorem oq {s:Shared}:HF [] (kI s.heap) s:=by
 refine ⟨fun a xs h=>?_,fun a xs h=>?_,fun a h=>?_,fun a kvs h=>?_⟩
 ·rcases h with (h | ⟨o,h⟩) | ⟨o,its,n,h,_⟩
  ·obtain ⟨vs,ob,its,n,e,h1,h2,h3,h4⟩:=iL h
   cases e
   exact ⟨its.toList,h4,ob,h1,h2,n,by rw [h3]⟩
  ·obtain ⟨vs,ob,its,n,e,_⟩:=iL h;cases e
  ·cases h
 ·rcases h with (h | ⟨o,h⟩) | ⟨o,its,n,h,_⟩
  ·obtain ⟨vs,ob,its,n,e,_⟩:=iL h;cases e
  ·obtain ⟨vs,ob,its,n,e,_⟩:=iL h;cases e
  ·cases h
 ·obtain ⟨vs,ob,its,n,e,_⟩:=iL h;cases e
 ·obtain ⟨vs,ob,its,n,e,_⟩:=iL h;cases e
theorem xT {K:W.Frag}{J:Hp}:∀{ds:List D}{vs:List V}{us:List Value},areKeys ds=true->aF K J ds vs->Vals vs us->jS us=some vs
 | _,_,_,_,.nil,.nil=>rfl
 | d::ds,v::vs,u::us,h,.cons r rs,.cons q qs=>by
  unfold areKeys at h
  rw [Bool.and_eq_true] at h
  have ih:=xT h.2 rs qs
  have e:A5 u=some v:=by
   cases d with
   | int i=>cases r;obtain ⟨t,rfl⟩:=q;rfl
   | tup xs=>cases r;cases q;rfl
   | _=>cases h.1
  unfold jS
  rw [e,ih]
mutual
theorem jZ {K:W.Frag}{J:Hp}{s:Shared}(F:HF K J s):∀{d:D}{v:V},isKey d=true->Rep K J d v->Rep [] (kI s.heap) d v
 | .int i,_,_,.int _=>.int i
 | .tup ds,_,hk,.tup (a:=a) (vs:=vs) h hs=>by
  obtain ⟨its,r,p⟩:=F.t _ _ h
  exact .tup (.inl (.inl (HN p (xT hk hs r)))) (xU F hk hs)
 | .non,_,hk,_=>nomatch hk
 | .bl _,_,hk,_=>nomatch hk
 | .str _,_,hk,_=>nomatch hk
 | .lst _,_,hk,_=>nomatch hk
 | .emp,_,hk,_=>nomatch hk
 | .exn _ _ _,_,hk,_=>nomatch hk
 | .dct _ _,_,hk,_=>nomatch hk
theorem xU {K:W.Frag}{J:Hp}{s:Shared}(F:HF K J s):∀{ds:List D}{vs:List V},areKeys ds=true->aF K J ds vs->aF [] (kI s.heap) ds vs
 | [],_,_,.nil=>.nil
 | d::ds,_,h,.cons r rs=>by
  unfold areKeys at h
  rw [Bool.and_eq_true] at h
  exact .cons (jZ F h.1 r) (xU F h.2 rs)
end
theorem CP {h h':Heap}{d:Addr}{o:Obj} {es ep}(ho:h.get? d=some o) (hd:o.data=.dict es ep) (sb:Heap.SameBut d h h'):aP (kI h) (kI h'):=fun a x q=>by
 obtain ⟨vs,ob,its,n,rfl,h1,h2,h3,h4⟩:=iL q
 have hne:a≠d:=by
  rintro rfl
  rw [ho] at h1;cases h1
  rw [hd] at h3;cases h3
 unfold kI at q ⊢
 rw [sb.2 a hne]
 exact q
def KD:Type:={d:D // isKey d=true/\dep d<=8}
noncomputable instance:DecidableEq KD:=fun a b=>Classical.propDecidable (a=b)
def A6 (A:Around):Prop:=A.units + 16 < cLine
noncomputable def nc (prog:Program) (w:World):HeapKind prog w KD where
 is:=fun h k a=>Rep [] (kI h) k.1 (.ref a)
 hash:=fun k=>bN k.1
 draws:=fun k=>jO k.1
 room:=A6
 inj:=fun {h a x y} hx hy=>Subtype.ext (Rep.inj (s:=({heap:=h}:Shared)) oq hx hy (by have:=x.2.2;omega) (by have:=y.2.2;omega))
 keeps:=fun hx ho hd sb=>Rep.mono (CP ho hd sb) hx
 pyHash:=fun {A E s k a Q} hu hx q=>t9 k.1 (.ref a) (.ref a) A s oq k.2.1 hx rfl (by have:=k.2.2;unfold A6 at hu;omega) E s Q oq q
 eqBool:=fun {A E s x y a b Q} hu hx hy q=>by
  have h:=lT (s:=s) oq A hx hy rfl rfl (u:=.ref a) (u':=.ref b) (by have:=x.2.2;unfold A6 at hu;omega) (by have:=x.2.2;omega) (by have:=y.2.2;omega)
  refine h _ _ _ _ ?_
  have e:aZ x.1 y.1=decide (x=y):=by
   rw [Bool.eq_iff_iff,tM x.2.1 y.2.1,decide_eq_true_eq]
   exact ⟨fun z=>Subtype.ext z,fun z=>congrArg Subtype.val z⟩
  rw [e];exact q
 quiet:=fun {A E s k a Q} hx q=>mz 8 oq ⟨k.1,.ref a,k.2.1,k.2.2,hx,rfl⟩ q
def fC:List D->List D->D->Option D
 | k::ks,v::vs,x=>if aZ k x=true then some v else fC ks vs x
 | _,_,_=>none
section
variable {K:W.Frag}{J:Hp}{s:Shared}{P:Program}{w:World}
theorem zj (F:HF K J s):∀{ks:List D}{us ws:List V}{es:List DictEntry},areKeys ks=true->(∀k∈ks,∃xs,k=.tup xs)->deps ks<=8->aF K J ks us->ws.length=us.length->Paired vV ((cO ks).zip (us.zip ws)) es->
  ∃xs:List (KD×Addr×Value),es=xs.map (entryOfKey (nc P w))/\xs.map (fun x=>x.1.1)=ks/\(∀x∈xs,(nc P w).is s.heap x.1 x.2.1)/\Vals ws (xs.map fun x=>x.2.2)/\Vals us (xs.map fun x=>Value.ref x.2.1)
 | _,_,[],_,_,_,_,.nil,_,h=>by
  cases h
  exact ⟨[],rfl,rfl,fun _ h=>(nomatch h),.nil,.nil⟩
 | k::ks,u::us,v::ws,es,hk,ht,hd,.cons r rs,hl,h=>by
  unfold areKeys at hk
  rw [Bool.and_eq_true] at hk
  unfold deps at hd
  have h:Paired vV ((bN k,u,v)::(cO ks).zip (us.zip ws)) es:=h
  cases h with
  | @cons _ e _ es' h1 h2=>
   obtain ⟨xs,e1,e2,e3,e4,e5⟩:=zj F hk.2 (fun k hk=>ht k (List.mem_cons_of_mem _ hk)) (by omega) rs (by simpa using hl) h2
   obtain ⟨xs',rfl⟩:=ht k List.mem_cons_self
   obtain ⟨q1,q2,q3⟩:=h1
   obtain ⟨eh,ek,ev⟩:=e
   cases r with
   | tup t1 t2=>
    rename_i a vs
    have q2:ek=.ref a:=q2
    have q1:eh=bN (.tup xs'):=q1
    subst q2;subst q1
    refine ⟨(⟨.tup xs',hk.1,by omega⟩,a,ev)::xs,by rw [e1];rfl,by rw [List.map_cons,e2],fun x hx=>?_,.cons q3 e4,.cons rfl e5⟩
    (rcases List.mem_cons.mp hx with rfl | hx)
    ·exact jZ F hk.1 (.tup t1 t2)
    ·exact e3 x hx
 | [],us,v::ws,_,_,_,_,rs,hl,_=>by cases rs;cases hl
 | k::ks,us,[],_,_,_,_,rs,hl,_=>by cases rs;cases hl
theorem Eh {xs:List (KD×Addr×Value)}{ks:List D}(e:xs.map (fun x=>x.1.1)=ks) (nd:ks.Nodup):(xs.map (·.1)).Nodup:=by
 rw [<-e] at nd
 have this:((xs.map (·.1)).map (fun k:KD=>k.1)).Nodup:=by rw [List.map_map];exact nd
 exact List.Pairwise.of_map (fun k:KD=>k.1) (fun a b h e=>h (congrArg (fun k:KD=>k.1) e)) this
theorem vG:∀{xs:List (KD×Addr×Value)}{ks vs:List D}{ws:List V}(k:KD),xs.map (fun x=>x.1.1)=ks->aF K J vs ws->Vals ws (xs.map fun x=>x.2.2)->
  (∀d,fC ks vs k.1=some d->∃p v,atKey xs k=some p/\RelV v p.2/\Rep K J d v)/\(fC ks vs k.1=none->atKey xs k=none)
 | [],_,vs,ws,k,e,rs,rv=>by
  subst e
  exact ⟨fun d h=>(nomatch h),fun _=>rfl⟩
 | x::xs,_,_,_,k,e,.cons r rs,.cons q rv=>by
  subst e
  obtain ⟨i1,i2⟩:=vG (xs:=xs) k rfl rs rv
  rw [List.map_cons]
  unfold fC
  by_cases c:x.1=k
  ·have:aZ x.1.1 k.1=true:=by rw [c];exact eu _
   rw [if_pos this]
   have ek:atKey (x::xs) k=some x.2:=by unfold atKey;rw [List.find?_cons_of_pos (by simpa using c)];rfl
   exact ⟨fun d h=>by cases h;exact ⟨x.2,_,ek,q,r⟩,fun h=>nomatch h⟩
  ·have:¬aZ x.1.1 k.1=true:=fun h=>c (Subtype.ext ((tM x.1.2.1 k.2.1).mp h))
   rw [if_neg this]
   have ek:atKey (x::xs) k=atKey xs k:=by unfold atKey;rw [List.find?_cons_of_neg (by simpa using c)]
   rw [ek]
   exact ⟨i1,i2⟩
theorem qd {H:Hp}(F:HF K J s) (F':HF K H s){ks vs:List D}{a:Addr}(h:eS K J H a ks vs):∃(xs:List (KD×Addr×Value)) (us ws:List V),s.heap.DictOfH (nc P w) a xs/\xs.map (fun x=>x.1.1)=ks/\aF K J ks us/\aF K J vs ws/\Vals ws (xs.map fun x=>x.2.2)/\Vals us (xs.map fun x=>Value.ref x.2.1)/\(a == sysModules)=false:=by
 obtain ⟨us,ws,h,hk,hv,ok,hs⟩:=h
 obtain ⟨o,es,ep,h1,h2,h3,h4⟩:=F'.d _ _ h
 obtain ⟨xs,e1,e2,e3,e4,e5⟩:=zj (P:=P) (w:=w) F ok.key ok.tp ok.dp hk (by rw [<-hv.length,<-hk.length,hs.2]) h4
 exact ⟨xs,us,ws,⟨o,es,ep,h1,h2,h3,e1,e3,Eh e2 ok.nd⟩,e2,hk,hv,e4,e5,hs.1⟩
end
def dX:D->Bool
 | .tup xs=>areKeys xs && decide (deps xs + 1<=8)
 | _=>false
theorem jc {k:D}(h:dX k=true):∃xs,k=.tup xs/\isKey k=true/\dep k<=8:=by
 cases k with
 | tup xs=>
  unfold dX at h
  rw [Bool.and_eq_true] at h
  exact ⟨xs,rfl,h.1,of_decide_eq_true h.2⟩
 | _=>cases h
def Iw:R->Option (List D×List D)
 | .d (.dct ks vs)=>some (ks,vs)
 | .mo ks vs=>some (ks,vs)
 | .mb ks vs=>some (ks,vs)
 | _=>none
def s_ (x y:R):M R:=match Iw x,y with
 | some z,.d k=>if dX k=true then (match fC z.1 z.2 k with
  | some d=>.ok (.d d)
  | none=>.bad) else .bad
 | _,_=>.bad
section
variable {X:Cx}{c:C}{a b:Expr}{ga gb:G R}{pos:Pos}
theorem RR.dk {He J H:Hp}(hp:HI c J H):∀{r:R}{v:V}{z:List D×List D},RR c He J H r v->Iw r=some z->∃a,v=.ref a/\eS c.K J H a z.1 z.2
 | .d (.dct ks vs),v,z,h,e=>by
  cases e
  cases h with
  | dct h1 h2 h3 h4 h5=>exact ⟨_,rfl,_,_,hp.sub _ _ h1,h2,h3,h4,h5⟩
 | .mo ks vs,v,z,⟨a,h1,h2,_⟩,e=>by cases e;exact ⟨a,h1,h2⟩
 | .mb ks vs,v,z,⟨a,h1,h2⟩,e=>by cases e;exact ⟨a,h1,h2.mono (aP.refl _) hp.ent⟩
 | .d .non,_,_,_,e=>nomatch e
 | .d (.bl _),_,_,_,e=>nomatch e
 | .d (.int _),_,_,_,e=>nomatch e
 | .d (.str _),_,_,_,e=>nomatch e
 | .d (.tup _),_,_,_,e=>nomatch e
 | .d (.lst _),_,_,_,e=>nomatch e
 | .d .emp,_,_,_,e=>nomatch e
 | .d (.exn _ _ _),_,_,_,e=>nomatch e
 | .l _ _,_,_,_,e=>nomatch e
theorem IX (hu:X.A.units + 64 < cLine):nR X (fun x y H Q=>∃J p ks vs k d,aP J H/\x=.ref p/\eS X.K J H p ks vs/\Rep X.K J k y/\dX k=true/\fC ks vs k=some d/\∀v,Rep X.K J d v->Q v H):=by
 intro value slice pins s σ H x y v u Q I rx ry h hs
 obtain ⟨J,p,ks,vs,k,d,sm,rfl,hd,hk,ok,lk,q⟩:=h
 have F:HF X.K J s:=HF.of (c:=⟨X.K,H,H,fun _=>True⟩) I sm
 obtain ⟨kx,rfl,k1,k2⟩:=jc ok
 obtain ⟨r,rfl⟩:∃r,y=.ref r:=by cases hk;exact ⟨_,rfl⟩
 cases rx
 cases ry
 obtain ⟨xs,us,ws,hm,e2,_,hv,e4,_,hsm⟩:=qd (P:=X.prog) (w:=X.w) F (gW I) hd
 obtain ⟨pp,v,ea,rv,rd⟩:=(vG ⟨.tup kx,k1,k2⟩ e2 hv e4).1 d lk
 have room:(nc X.prog X.w).room X.A.in1:=by show X.A.units + 1 + 16 < cLine;omega
 exact subscriptTail_builtinR (x:=pp.2) hm.typeIs slot_dict_getitem.lookup (wpAny_getItem_heap (Q:=fun r s'=>r=pp.2/\EP X pins σ Q r s') room (jZ F k1 hk) hm ea ⟨rfl,v,H,I.tok _,rv,q v rd⟩) hs
theorem JH (hu:X.A.units + 64 < cLine) (ha:PD X c a ga) (hb:PD X c b gb) (hK:X.K=c.K:=by rfl) (hs:jU b:=by exact fun _ _=>rfl):PD X c (.Subscript a b pos) (g2 s_ ga gb):=FF (IX hu) (by
 intro He He' J H x y u v Q hp rx ry w
 unfold s_ at w
 split at w
 ·rename_i hz
  obtain ⟨p,rfl,hd⟩:=rx.dk hp hz
  split at w
  ·rename_i ok
   split at w
   ·rename_i d hl
    exact ⟨J,p,_,_,_,d,hp.sub,rfl,by rw [hK];exact hd,by rw [hK];exact ry,ok,hl,fun v rd=>w v J H (Ext.refl hp.sub) (by rw [hK] at rd;exact rd)⟩
   ·exact w.elim
  ·exact w.elim
 ·exact w.elim) ha hb hs
theorem zI (hu:X.A.units + 64 < cLine) (ha:QD X c a ga) (hb:QD X c b gb) (hK:X.K=c.K:=by rfl) (hs:jU b:=by exact fun _ _=>rfl):QD X c (.Subscript a b pos) (g2 s_ ga gb):=⟨JH hu ha.h hb.h hK hs⟩
end
def qv:List D->List D->D->D->List D
 | k::ks,v::vs,x,d=>(if aZ k x=true then d else v)::qv ks vs x d
 | _,vs,_,_=>vs
def dput (z:List D×List D) (k d:D):List D×List D:=if (fC z.1 z.2 k).isSome=true then (z.1,qv z.1 z.2 k d) else (z.1++[k],z.2++[d])
def lS (ys:List D):List D×List D:=ys.foldl (fun z y=>match y with
 | .tup [k,d]=>dput z k d
 | _=>z) ([],[])
theorem qc (ys:List D) (k d:D):lS (ys++[.tup [k,d]])=dput (lS ys) k d:=by unfold lS;rw [List.foldl_append];rfl
inductive cC (K:W.Frag) (J:Hp):List (KD×Addr×Value)->List D->List V->List D->List V->Prop
 | nil:cC K J [] [] [] [] []
 | cons {x:KD×Addr×Value}{xs:List (KD×Addr×Value)}{ks vs:List D}{us ws:List V}{d:D}{v:V}:RelV v x.2.2->Rep K J d v->cC K J xs ks us vs ws->cC K J (x::xs) (x.1.1::ks) (.ref x.2.1::us) (d::vs) (v::ws)
section
variable {K:W.Frag}{J:Hp}{P:Program}{w:World}
theorem cC.of:∀{xs:List (KD×Addr×Value)}{us:List V}{vs:List D}{ws:List V},aF K J vs ws->Vals ws (xs.map fun x=>x.2.2)->Vals us (xs.map fun x=>Value.ref x.2.1)->cC K J xs (xs.map fun x=>x.1.1) us vs ws
 | [],_,_,_,.nil,.nil,.nil=>.nil
 | x::xs,u::us,_,_,.cons r rs,.cons q qs,.cons p ps=>by
  have:u=.ref x.2.1:=by
   cases u with
   | ref a=>cases p;rfl
   | int i=>obtain ⟨t,h⟩:=p;cases h
   | str i=>obtain ⟨t,h⟩:=p;cases h
   | byt i=>obtain ⟨t,h⟩:=p;cases h
   | flt i=>obtain ⟨t,h⟩:=p;cases h
   | non=>cases p
   | bl b=>cases p
   | ty n=>cases p
  subst this
  exact .cons q r (cC.of rs qs ps)
theorem cC.put {k:KD}{u:Value}{d:D}{v:V}(rv:RelV v u) (rd:Rep K J d v):∀{xs:List (KD×Addr×Value)}{ks vs:List D}{us ws:List V},cC K J xs ks us vs ws->∃ws',cC K J (xs.map (putAt k u)) ks us (qv ks vs k.1 d) ws'
 | _,_,_,_,_,.nil=>⟨[],.nil⟩
 | x::xs,_,_,_,_,.cons q r t=>by
  obtain ⟨ws',ih⟩:=cC.put rv rd t
  rw [List.map_cons]
  unfold qv
  by_cases c:x.1=k
  ·have:aZ x.1.1 k.1=true:=by rw [c];exact eu _
   rw [if_pos this]
   have e:putAt k u x=(x.1,x.2.1,u):=by unfold putAt;rw [if_pos c]
   rw [e]
   exact ⟨v::ws',.cons (x:=(x.1,x.2.1,u)) rv rd ih⟩
  ·have:¬aZ x.1.1 k.1=true:=fun h=>c (Subtype.ext ((tM x.1.2.1 k.2.1).mp h))
   rw [if_neg this]
   have e:putAt k u x=x:=by unfold putAt;rw [if_neg c]
   rw [e]
   exact ⟨_,.cons q r ih⟩
theorem cC.snoc {k:KD}{a:Addr}{u:Value}{d:D}{v:V}(rv:RelV v u) (rd:Rep K J d v):∀{xs:List (KD×Addr×Value)}{ks vs:List D}{us ws:List V},cC K J xs ks us vs ws->cC K J (xs++[(k,a,u)]) (ks++[k.1]) (us++[.ref a]) (vs++[d]) (ws++[v])
 | _,_,_,_,_,.nil=>.cons (x:=(k,a,u)) rv rd .nil
 | _,_,_,_,_,.cons q r t=>.cons q r (cC.snoc rv rd t)
theorem cC.ents:∀{xs:List (KD×Addr×Value)}{ks vs:List D}{us ws:List V},cC K J xs ks us vs ws->Paired vV ((cO ks).zip (us.zip ws)) (xs.map (entryOfKey (nc P w)))
 | _,_,_,_,_,.nil=>.nil
 | _,_,_,_,_,.cons q r t=>.cons ⟨rfl,rfl,q⟩ t.ents
theorem cC.reps:∀{xs:List (KD×Addr×Value)}{ks vs:List D}{us ws:List V},cC K J xs ks us vs ws->aF K J vs ws
 | _,_,_,_,_,.nil=>.nil
 | _,_,_,_,_,.cons q r t=>.cons r t.reps
theorem cC.keys:∀{xs:List (KD×Addr×Value)}{ks vs:List D}{us ws:List V},cC K J xs ks us vs ws->xs.map (fun x=>x.1.1)=ks
 | _,_,_,_,_,.nil=>rfl
 | _,_,_,_,_,.cons q r t=>by rw [List.map_cons,t.keys]
theorem cC.len:∀{xs:List (KD×Addr×Value)}{ks vs:List D}{us ws:List V},cC K J xs ks us vs ws->ks.length=vs.length
 | _,_,_,_,_,.nil=>rfl
 | _,_,_,_,_,.cons q r t=>by rw [List.length_cons,List.length_cons,t.len]
theorem pM:∀{xs ys:List D},areKeys (xs++ys)=(areKeys xs && areKeys ys)
 | [],_=>rfl
 | x::xs,ys=>by
  show (isKey x && areKeys (xs++ys))=((isKey x && areKeys xs) && areKeys ys)
  rw [pM,Bool.and_assoc]
theorem wX:∀{xs ys:List D}{n:Nat},deps xs<=n->deps ys<=n->deps (xs++ys)<=n
 | [],_,_,_,h=>h
 | x::xs,ys,n,h1,h2=>by
  unfold deps at h1
  have:=wX (xs:=xs) (ys:=ys) (n:=n) (by omega) h2
  show max (dep x) (deps (xs++ys))<=n
  omega
theorem aF.snoc {ds:List D}{vs:List V}{d:D}{v:V}(h:aF K J ds vs) (r:Rep K J d v):aF K J (ds++[d]) (vs++[v]):=h.append (.cons r .nil)
end
section
variable {X:Cx}
theorem zG {pins:List (Addr×Obj)}{s:Shared}{σ:L2.St}{H J:Hp}(I:Inv X pins σ H s) (sub:aP J H){p:Addr}{ks vs:List D}(h:eS X.K J H p ks vs):
  ∃xs:List (KD×Addr×Value),s.heap.DictOfH (nc X.prog X.w) p xs/\xs.length=ks.length/\∀{kxs:List D}{a:Addr}{d:D}{v:V}{u:Value}(k1:isKey (.tup kxs)=true) (k2:dep (.tup kxs)<=8),Rep X.K J (.tup kxs) (.ref a)->Rep X.K J d v->RelV v u->
   ∀(h':Heap) (tk:Nat),h'.DictOfH (nc X.prog X.w) p (storedH xs ⟨.tup kxs,k1,k2⟩ a u)->Heap.SameBut p s.heap h'->
    ∃o,Inv X pins σ (upd H p o) {s with heap:=h',toks:=tk}/\eS X.K J (upd H p o) p (dput (ks,vs) (.tup kxs) d).1 (dput (ks,vs) (.tup kxs) d).2/\(dput (ks,vs) (.tup kxs) d).1.length<=ks.length + 1:=by
 have F:HF X.K J s:=HF.of (c:=⟨X.K,H,H,fun _=>True⟩) I sub
 obtain ⟨xs,us,ws,hm,q2,h3,h4,q4,q5,h7⟩:=qd (P:=X.prog) (w:=X.w) F (gW I) h
 obtain ⟨_,_,p9,_,_,h5,_⟩:=h
 have rows:cC X.K J xs ks us vs ws:=by
  have:=cC.of h4 q4 q5
  rw [q2] at this
  exact this
 refine ⟨xs,hm,by rw [<-q2,List.length_map],fun {kxs a d v u} k1 k2 rk rd r9 h' tk hm' sb=>?_⟩
 obtain ⟨o',es',ep',g1',g2'',g3',g4',g5',g6'⟩:=hm'
 obtain ⟨l1,l2⟩:=vG (K:=X.K) (J:=J) ⟨.tup kxs,k1,k2⟩ q2 h4 q4
 have key:∃us' ws',cC X.K J (storedH xs ⟨.tup kxs,k1,k2⟩ a u) (dput (ks,vs) (.tup kxs) d).1 us' (dput (ks,vs) (.tup kxs) d).2 ws'/\aF X.K J (dput (ks,vs) (.tup kxs) d).1 us'/\areKeys (dput (ks,vs) (.tup kxs) d).1=true/\deps (dput (ks,vs) (.tup kxs) d).1<=8/\(∀k∈(dput (ks,vs) (.tup kxs) d).1,∃xs,k=.tup xs)/\(dput (ks,vs) (.tup kxs) d).1.length<=ks.length + 1:=by
  unfold dput
  cases lk:fC ks vs (.tup kxs) with
  | some z=>
   obtain ⟨pp,v,ea,_,_⟩:=l1 z lk
   rw [storedH_old ea]
   obtain ⟨ws',t⟩:=cC.put (k:=⟨.tup kxs,k1,k2⟩) r9 rd rows
   exact ⟨us,ws',t,h3,h5.key,h5.dp,h5.tp,Nat.le_succ _⟩
  | none=>
   rw [storedH_new (l2 lk)]
   refine ⟨us++[.ref a],ws++[v],cC.snoc (k:=⟨.tup kxs,k1,k2⟩) r9 rd rows,h3.snoc rk,?_,wX h5.dp (by show max (dep (.tup kxs)) 0<=8;omega),fun k hk=>?_,by simp⟩
   ·show areKeys (ks++[.tup kxs])=true
    rw [pM,h5.key]
    show (true && (isKey (.tup kxs) && true))=true
    rw [k1];rfl
   ·rcases List.mem_append.mp hk with h | h
    ·exact h5.tp k h
    ·exact ⟨kxs,List.mem_singleton.mp h⟩
 obtain ⟨us',ws',t,tk',kk,kd,kt,kl⟩:=key
 have nd':(dput (ks,vs) (.tup kxs) d).1.Nodup:=by
  rw [<-t.keys]
  have:((storedH xs ⟨.tup kxs,k1,k2⟩ a u).map (·.1)).Nodup:=g6'
  have h:=List.Pairwise.map (S:=(·≠·)) (fun k:KD=>k.1) (fun a b (h:a≠b) e=>h (Subtype.ext e)) this
  rw [List.map_map] at h
  exact h
 refine ⟨pP p ((cO (dput (ks,vs) (.tup kxs) d).1).zip (us'.zip ws')),I.write (e:=p) (by rw [p9];trivial) (.inl rfl) (fun b u hb q=>by rw [sb.2 b hb];exact q) ⟨_,g1'⟩ ⟨⟨o',es',ep',g1',g2'',g3',by rw [g4'];exact t.ents⟩,⟨_,g1'⟩,?_⟩,⟨us',ws',bO,tk',t.reps,⟨kk,nd',kd,kt⟩,h7,t.len⟩,kl⟩
 rintro h1 h2 ⟨o,es,ep,a1,a2⟩ e
 exact ⟨o,es,ep,e o a1,a2⟩
end
def Dv (c:C) (p:Addr):Hp->Hp->List D->Prop:=fun J H ys=>eS c.K J H p (lS ys).1 (lS ys).2/\J p=none/\(lS ys).1.length<=ys.length
theorem wC {c:C}{p:Addr}:vR (Dv c p):=⟨fun {J H J' H' ys} ⟨h1,h2,h3⟩ e=>⟨h1.mono e.j e.h,e.frz _ h1.ne h2,h3⟩⟩
def Ah (gk gv:G R):Ev->M (List D×Ev):=fun e=>gk e >>= fun r=>toD r >>= fun k=>gv e >>= fun r2=>toD r2 >>= fun d=>if dX k=true then .ok ([.tup [k,d]],e) else .bad
abbrev Kn (kx vx:Expr) (p:Addr) (env:Env):Sem Unit:=do
 let kv <-eval kx env
 let vv <-holding [kv] (eval vx env)
 standAt {kx.pos with endLine:=vx.pos.endLine,endCol:=vx.pos.endCol}
 holding [kv,vv] (dictSet p kv vv)
section
variable {X:Cx}{c:C}{p:Addr}{J2 H2:Hp}{kx vx:Expr}{gk gv:G R}
theorem F_ (hu:X.A.units + 64 < cLine) (hK:X.K=c.K) (hx:∀v s,X.xe v s->False) (hp2:H2 p=none) (hp0:c.H0 p=none) (hk:PD X c kx gk) (hv:PD X c vx gv):sQ X c p (Dv c p) J2 H2 1 (Kn kx vx p X.env) (Ah gk gv):=by
 intro pins s σ H J env ys Qf I x2 sr no ⟨h1,h2,h8⟩ hl w
 refine wpAny_bind (wpAny_mono (hk _ s σ H (fun v H8=>∃J8 k,Ext J H J8 H8/\Rep c.K J8 k v/\cL (gv env >>= fun r2=>toD r2 >>= fun d=>if dX k=true then M.ok ([.tup [k,d]],env) else .bad) Qf c.T) I ⟨J,env,sr,aC (aK w) fun r wr v J8 H8 e8 r8=>?_⟩) (fun u8 s8 ⟨v8,H8,I8,r8,J8,k,e8,rk,w8⟩=>?_) fun v s f=>(hx v s f).elim)
 ·obtain ⟨y,q,wr⟩:=iU wr
  obtain ⟨J9,e9,_,ry⟩:=freeze e8 r8 q
  exact ⟨J9,y,e9,ry,wr⟩
 refine wpAny_bind (wpAny_holding (wpAny_mono (hv _ s8 σ H8 (fun v H9=>∃J9 d,Ext J8 H8 J9 H9/\Rep c.K J9 d v/\cL (if dX k=true then M.ok ([.tup [k,d]],env) else .bad) Qf c.T) I8 ⟨J8,env,sr.ext e8,aC (aK w8) fun r wr v J9 H9 e9 r9=>?_⟩) (fun u9 s9 ⟨v9,H9,I9,r9,J9,d,e9,rd,w9⟩=>?_) fun v s f=>(hx v s f).elim))
 ·obtain ⟨y,q,wr⟩:=iU wr
  obtain ⟨J9',e9',_,ry⟩:=freeze e9 r9 q
  exact ⟨J9',y,e9',ry,wr⟩
 refine wpAny_bind (wpAny_standAt (wpAny_holding ?_))
 by_cases ok:dX k=true
 case neg=>rw [if_neg ok] at w9;exact w9.elim
 rw [if_pos ok] at w9
 have w9:Qf ([.tup [k,d]],env):=w9
 obtain ⟨kxs,rfl,k1,k2⟩:=jc ok
 have ee:=e8.trans e9
 have rk9:=rk.mono e9.j
 obtain ⟨a,rfl⟩:∃a,v8=.ref a:=by cases rk;exact ⟨_,rfl⟩
 cases r8
 have J9p:J9 p=none:=ee.frz _ h1.ne h2
 rw [<-hK] at rk9 rd
 have h9:=h1.mono ee.j ee.h
 rw [<-hK] at h9
 obtain ⟨xs,hm,lx,put⟩:=zG I9 ee.sub h9
 refine wpAny_dictSet_heap (knd:=nc X.prog X.w) (k:=⟨.tup kxs,k1,k2⟩) (show X.A.units + 16 < cLine by omega) (jZ (HF.of (c:=⟨X.K,H9,H9,fun _=>True⟩) I9 ee.sub) k1 rk9) hm (fun h' hm' sb=>?_) (by rw [lx];omega)
 obtain ⟨o,W,hd,kl⟩:=put k1 k2 rk9 rd r9 h' _ hm' sb
 refine ⟨σ,_,J9,([.tup [.tup kxs,d]],env),W,(x2.trans ee).other hp2 J9p,ee.j,(sr.ext ee).other J9p hp0 no,no,⟨by rw [qc,<-hK];exact hd,J9p,?_⟩,Nat.le_refl _,w9⟩
 rw [qc,List.length_append];exact Nat.le_trans kl (Nat.add_le_add_right h8 1)
end
def oW (n:Nat) (cap:List Nat) (gi0:G (List D)) (gt0:GT) (gts0:G Bool) (gi1:G (List D)) (gt1:GT) (gts1:G Bool) (gk gv:G R):G R:=kr 10000 n cap gi0 gt0 gts0 (i9 gi1 gt1 gts1 (Ah gk gv)) (fun ys=>.ok (.d (.dct (lS ys).1 (lS ys).2)))
theorem Ib (kx vx t0 i0 t1 i1:Expr) (f0 f1:List Expr) (scope:Scope) (pos:Pos) (it acc:Value) (env:Env):
  compTurn (.DictComp kx vx [⟨t0,i0,f0,0⟩,⟨t1,i1,f1,0⟩] scope pos) 0 it acc env=(do
   standAt i0.pos
   match <-pyNext it with
   | none=>pure (.done .next)
   | some v=>
    letOwnedTupleGo t0 it v
    assign t0 env v
    let mut ok:=true
    for c in f0 do
     if ok then ok <-isTrue c env (eval c env)
    if ok then
     let x <-eval i1 env
     standAt i1.pos
     let x <-foldedSetIterable i1 env x
     let _ <-runOwn (.compStart (.DictComp kx vx [⟨t0,i0,f0,0⟩,⟨t1,i1,f1,0⟩] scope pos) 1 (<-holding [x] (pyIter x)) acc env) env
    again (.compLoop (.DictComp kx vx [⟨t0,i0,f0,0⟩,⟨t1,i1,f1,0⟩] scope pos) 0 it acc env)):=by rfl
theorem KW (kx vx t0 i0 t1 i1:Expr) (f0 f1:List Expr) (scope:Scope) (pos:Pos) (it acc:Value) (env:Env):
  compTurn (.DictComp kx vx [⟨t0,i0,f0,0⟩,⟨t1,i1,f1,0⟩] scope pos) 0 it acc env=nB t0 i0 f0 it env (qh (.DictComp kx vx [⟨t0,i0,f0,0⟩,⟨t1,i1,f1,0⟩] scope pos) i1 acc env) (again (.compLoop (.DictComp kx vx [⟨t0,i0,f0,0⟩,⟨t1,i1,f1,0⟩] scope pos) 0 it acc env)):=by
 rw [Ib]
 refine bind_congr fun _=>bind_congr fun r=>?_
 cases r with
 | none=>rfl
 | some v=>
  refine bind_congr fun _=>bind_congr fun _=>bind_congr fun ok=>?_
  cases ok with
  | false=>rfl
  | true=>simp only [qh,bind_assoc,pure_bind,if_true]
theorem KY (kx vx t0 i0 t1 i1:Expr) (f0 f1:List Expr) (scope:Scope) (pos:Pos) (it:Value) (p:Addr) (env:Env):
  compTurn (.DictComp kx vx [⟨t0,i0,f0,0⟩,⟨t1,i1,f1,0⟩] scope pos) 1 it (.ref p) env=nB t1 i1 f1 it env (Kn kx vx p env) (again (.compLoop (.DictComp kx vx [⟨t0,i0,f0,0⟩,⟨t1,i1,f1,0⟩] scope pos) 1 it (.ref p) env)):=by rfl
section
variable {X:Cx}{c:C}
theorem ID (hu:X.A.units + 64 < cLine) (hK:X.K=c.K) (own:List Str) (cap:List Nat){kx vx t0 i0 t1 i1:Expr}{f0 f1:List Expr}{scope:Scope}{pos:Pos}{gi0 gi1:G (List D)}{gt0 gt1:GT}{gts0 gts1:G Bool}{gk gv:G R}(hi:nE X c t0 i0 gi0)
  (hbody:∀(cl:List (Str×Addr)) (C:Addr) (s:Shared) (H:Hp) (fp:List Addr),bG X.env.cells scope.names []=some cl->gF (aY X own cap scope cl C s H fp) c t0 gt0/\fR (aY X own cap scope cl C s H fp) c f0 gts0/\j4 (aY X own cap scope cl C s H fp) c t1 i1 gi1/\gF (aY X own cap scope cl C s H fp) c t1 gt1/\fR (aY X own cap scope cl C s H fp) c f1 gts1/\PD (aY X own cap scope cl C s H fp) c kx gk/\PD (aY X own cap scope cl C s H fp) c vx gv)
  (hk:scope.kind=.function:=by rfl) (hno:gz X cap scope=true:=by rfl) (hnames:(scope.names.all fun x=>!(x.2 == .local) || (scope.names.lookup x.1 == some .local))=true:=by rfl)
  (hcl:(bG X.env.cells scope.names []).isSome=true:=by rfl) (hcap:eN X cap=true:=by rfl) (hloc:eZ X cap scope=true:=by rfl) (hnd:gM cap=true:=by rfl) (Nm:X.calm=true:=by rfl)
  (hs:∀x,foldedSetIterable i0 X.env x=pure x:=by intro _;rfl) (hs1:∀(en:Env) x,foldedSetIterable i1 en x=pure x:=by intro _ _;rfl)
  {pins:List (Addr×Obj)}{s:Shared}{σ:L2.St}{H:Hp}{Q:VK}{use:Option (Value->Sem Unit)}{Q0:Value->Shared->Prop}{pos':Pos}(I:Inv X pins σ H s) (h:tD c (oW own.length cap gi0 gt0 gts0 gi1 gt1 gts1 gk gv) σ H Q)
  (Nu:∀(acc C:Addr) (m:Str->Option Value) (s':Shared) (H':Hp) (fl:Flow),s'.heap.Ns C m->((C∈X.ex\/X.s₀.heap.objs.size<=C)/\C≠X.env.locals/\(∀x c,X.env.cells.lookup x=some c->c≠C)/\∀p∈X.pn++pins,p.1≠C)->H' C=none->(∀h'',Heap.SameBut C s'.heap h''->Inv X pins σ H' {s' with heap:=h''})->Q (.ref acc) H'->compPost (model X.prog X.w) X.A X.xe use Q0 (.ref acc) C (.ok fl) s'):
  wpAny (model X.prog X.w) X.A (comprehension (.DictComp kx vx [⟨t0,i0,f0,0⟩,⟨t1,i1,f1,0⟩] scope pos) scope X.env pos' newDict false (eval i0 X.env) use) Q0 X.xe s:=by
 refine qa (e:=.DictComp kx vx [⟨t0,i0,f0,0⟩,⟨t1,i1,f1,0⟩] scope pos) (ob:={cls:=.type "dict",data:=.dict #[]}) (o0:=fun a=>pP a []) (Acc:=Dv c) (N:=1000 * 1) (lim:=10000) (m:=fun p env=>qh (.DictComp kx vx [⟨t0,i0,f0,0⟩,⟨t1,i1,f1,0⟩] scope pos) i1 (.ref p) env) own cap rfl hi
  (fun s Q E q=>wpAny_newObj_type q) (fun h H=>⟨⟨_,#[],0,Heap.get?_push_size _ rfl,⟨rfl,rfl,rfl⟩,rfl,.nil⟩,⟨_,Heap.get?_push_size _ rfl⟩,fun h1 h2 ⟨o,es,ep,a1,a2⟩ e=>⟨o,es,ep,e o a1,a2⟩⟩) (fun p=>wC) (fun p J H hsm h1 h2=>⟨⟨[],[],h1,.nil,.nil,⟨rfl,List.nodup_nil,Nat.zero_le _,fun _ h=>(nomatch h)⟩,beq_eq_false_iff_ne.mpr (Ne.symm (Nat.ne_of_lt hsm)),rfl⟩,h2,Nat.le_refl _⟩) (by decide) (fun it p env=>Fy (KW ..)) (fun it acc env R s h0 h=>codeAny_compStart_dict h0 h) (fun ys z q=>by cases q)
  (fun {p J H J' H' ys r} hp e ⟨⟨us,ws,h1,h3,h4,h5,h7⟩,h2,h8⟩ q=>by
   cases q
   have s1:aP J' (upd J' p (pP p ((cO (lS ys).1).zip (us.zip ws)))):=dQ h2 _
   refine ⟨upd J' p (pP p ((cO (lS ys).1).zip (us.zip ws))),⟨e.h,e.j.trans s1,fun a o q=>?_,fun a ha ja=>?_⟩,.dct bO (h3.mono s1) (h4.mono s1) h5 h7⟩
   ·by_cases z:a=p
    ·subst z;rw [bO] at q;cases q;exact h1
    ·rw [bg z] at q;exact e.sub _ _ q
   ·have:a≠p:=fun z=>ha (z▸hp)
    rw [bg this];exact e.frz a ha ja) (fun cl C s H fp hcc=>?_) hk hno hnames hcl hcap hloc hnd Nm hs I h Nu
 obtain ⟨b1,b2,b3,b4,b5,b6,b7⟩:=hbody cl C s H fp hcc
 refine ⟨b1,b2,fun p J2 H2 hp2 hp0=>?_⟩
 exact za wC Nm (fun _ _ f=>f) (fun x=>hs1 _ x) (fun it R s h0 h=>KP h0 h) (fun it=>Fy (KY ..)) b3 b4 b5 (F_ hu hK (fun _ _ f=>f) hp2 hp0 b6 b7)
theorem Ct (hu:X.A.units + 64 < cLine) (own:List Str) (cap:List Nat){kx vx t0 i0 t1 i1:Expr}{f0 f1:List Expr}{scope:Scope}{pos:Pos}{gi0 gi1:G (List D)}{gt0 gt1:GT}{gts0 gts1:G Bool}{gk gv:G R}(hi:nE X c t0 i0 gi0)
  (hbody:∀(cl:List (Str×Addr)) (C:Addr) (s:Shared) (H:Hp) (fp:List Addr),bG X.env.cells scope.names []=some cl->gF (aY X own cap scope cl C s H fp) c t0 gt0/\fR (aY X own cap scope cl C s H fp) c f0 gts0/\j4 (aY X own cap scope cl C s H fp) c t1 i1 gi1/\gF (aY X own cap scope cl C s H fp) c t1 gt1/\fR (aY X own cap scope cl C s H fp) c f1 gts1/\PD (aY X own cap scope cl C s H fp) c kx gk/\PD (aY X own cap scope cl C s H fp) c vx gv)
  (hk:scope.kind=.function:=by rfl) (hno:gz X cap scope=true:=by rfl) (hnames:(scope.names.all fun x=>!(x.2 == .local) || (scope.names.lookup x.1 == some .local))=true:=by rfl)
  (hcl:(bG X.env.cells scope.names []).isSome=true:=by rfl) (hcap:eN X cap=true:=by rfl) (hloc:eZ X cap scope=true:=by rfl) (hnd:gM cap=true:=by rfl) (Nm:X.calm=true:=by rfl)
  (hs:∀x,foldedSetIterable i0 X.env x=pure x:=by intro _;rfl) (hs1:∀(en:Env) x,foldedSetIterable i1 en x=pure x:=by intro _ _;rfl) (hK:X.K=c.K:=by rfl):PD X c (.DictComp kx vx [⟨t0,i0,f0,0⟩,⟨t1,i1,f1,0⟩] scope pos) (oW own.length cap gi0 gt0 gts0 gi1 gt1 gts1 gk gv):=by
 intro pins s σ H Q I h
 rw [arm_eval_DictComp]
 exact ID hu hK own cap hi hbody hk hno hnames hcl hcap hloc hnd Nm hs hs1 I h fun acc C m s' H' fl hm hz hf hb q=>⟨m,hm,fun h'' sb=>⟨.ref acc,H',hb h'' sb,rfl,q⟩⟩
theorem A1 (hu:X.A.units + 64 < cLine) (own:List Str) (cap:List Nat){kx vx t0 i0 t1 i1:Expr}{f0 f1:List Expr}{scope:Scope}{pos:Pos}{gi0 gi1:G (List D)}{gt0 gt1:GT}{gts0 gts1:G Bool}{gk gv:G R}(hi:wB X c t0 i0 gi0)
  (hbody:∀(cl:List (Str×Addr)) (C:Addr) (s:Shared) (H:Hp) (fp:List Addr),bG X.env.cells scope.names []=some cl->lN (aY X own cap scope cl C s H fp) c t0 gt0/\lE (aY X own cap scope cl C s H fp) c f0 gts0/\qI (aY X own cap scope cl C s H fp) c t1 i1 gi1/\lN (aY X own cap scope cl C s H fp) c t1 gt1/\lE (aY X own cap scope cl C s H fp) c f1 gts1/\QD (aY X own cap scope cl C s H fp) c kx gk/\QD (aY X own cap scope cl C s H fp) c vx gv)
  (hk:scope.kind=.function:=by rfl) (hno:gz X cap scope=true:=by rfl) (hnames:(scope.names.all fun x=>!(x.2 == .local) || (scope.names.lookup x.1 == some .local))=true:=by rfl)
  (hcl:(bG X.env.cells scope.names []).isSome=true:=by rfl) (hcap:eN X cap=true:=by rfl) (hloc:eZ X cap scope=true:=by rfl) (hnd:gM cap=true:=by rfl) (Nm:X.calm=true:=by rfl)
  (hs:∀x,foldedSetIterable i0 X.env x=pure x:=by intro _;rfl) (hs1:∀(en:Env) x,foldedSetIterable i1 en x=pure x:=by intro _ _;rfl) (hK:X.K=c.K:=by rfl):QD X c (.DictComp kx vx [⟨t0,i0,f0,0⟩,⟨t1,i1,f1,0⟩] scope pos) (oW own.length cap gi0 gt0 gts0 gi1 gt1 gts1 gk gv):=
 ⟨Ct hu own cap hi.h (fun cl C s H fp hc=>let ⟨a,b,d,e,f,g,h⟩:=hbody cl C s H fp hc;⟨a.h,b.h,d.h,e.h,f.h,g.h,h.h⟩) hk hno hnames hcl hcap hloc hnd Nm hs hs1 hK⟩
end
def lexLe:List Int->List Int->Bool
 | [],_=>true
 | _::_,[]=>false
 | x::xs,y::ys=>if x=y then lexLe xs ys else decide (x<=y)
theorem jQ (x y:Int) (xs ys:List Int):lexLe (x::xs) (y::ys)=if x=y then lexLe xs ys else decide (x<=y):=rfl
theorem nL:lexLe [] []=true:=rfl
theorem tR (y:Int) (ys:List Int):lexLe [] (y::ys)=true:=rfl
theorem tQ (x:Int) (xs:List Int):lexLe (x::xs) []=false:=rfl
theorem E1 (A:Around) (s:Shared) (a:Int) (t:Tok) (c:Int) (u:Tok) (prog:Program) (w:World) (E:Value->Shared->Prop) (Q:Value->Shared->Prop) (h:Q (.bool (decide (a<=c))) s):
  wpAny (model prog w) A (richCompare .LtE (.int a t) (.int c u)) Q E s:=
 (PyProof.Rows.le_int h:wpAny (model prog w) A (compareOp .LtE (.int a t) (.int c u)) Q E s)
section
open PySem.SeqAt
open PySem.AutoSeq1 (wpAny_loadPart')
open PySem.MeetsSeq PySem.MeetsSeq2 PySem.MeetsSeq3
theorem vD (l b:Addr) (items items2:Array Value) (n n2:Nat) (dd dd2:Option Addr) (sl sl2:Array (Option Value)) (ns ms:List Int) (hi:IntsAre items.toList ns) (hj:IntsAre items2.toList ms):
  Meets (Builtin.«tuple.__le__» ⟨[.ref l,.ref b],[]⟩)
   (fun _ R s=>s.heap.get? l=some {cls:=.type "tuple",dict:=dd,data:=.seq items n,slots:=sl}/\s.heap.get? b=some {cls:=.type "tuple",dict:=dd2,data:=.seq items2 n2,slots:=sl2}/\
    R (.ok (.ret (.bool (lexLe ns ms)))) s):=
 .of_wp fun prog w A R s h=>by
  obtain ⟨hp,g,d,tk,os⟩:=s;obtain ⟨hl,hb,h⟩:=h
  have f2:=AutoSeq1.sub_tuple_tuple
  have z1:items.size=ns.length:=by rw [<-hi.length];simp
  have z2:items2.size=ms.length:=by rw [<-hj.length];simp
  wp_walk using wpAny_loadPart' hl,wpAny_loadPart' hb,wpAny_forIn_list _ (fun rest b s'=>b.1=none/\s'=⟨hp,g,d,tk,os⟩/\∃(vs ws:List Value) (ns' ms':List Int),rest=vs.zip ws/\
   IntsAre vs ns'/\IntsAre ws ms'/\ns'.length + items2.size=ms'.length + items.size/\R (.ok (.ret (.bool (lexLe ns' ms')))) ⟨hp,g,d,tk,os⟩) _
  case turn=>
   rintro ⟨y,x⟩ rest b s' ⟨hb',rfl,vs,ws,ns',ms',hz,OC,hwi,hlen,hR⟩
   cases OC with
   | nil=>rw [List.zip_nil_left] at hz;cases hz
   | cons a t OD=>
    cases hwi with
    | nil=>rw [List.zip_nil_right] at hz;cases hz
    | cons c u OG=>
     rw [List.zip_cons_cons] at hz
     injection hz with hyx hrest
     injection hyx with hy hx
     subst hy hx
     rw [jQ] at hR
     simp only [List.length_cons] at hlen
     obtain ⟨e,he,hiff⟩:=HT.DK A.in1 ⟨hp,g,d,tk,os⟩ a t c u
     refine wpAny_bind (he prog w _ _ ?_)
     cases e with
     | true=>
      rw [if_pos (hiff.mp rfl)] at hR
      wp_walk
      exact ⟨rfl,rfl,_,_,_,_,hrest,OD,OG,by omega,hR⟩
     | false=>
      rw [if_neg (fun q=>absurd (hiff.mpr q) Bool.false_ne_true)] at hR
      have Ox:=E1 A.in1 ⟨hp,g,d,tk,os⟩ a t c u prog w
      wp_walk using Ox
      exact ⟨_,rfl,by simpa using hR⟩
  case fin=>
   rintro ⟨b1,b2⟩ s' ⟨hb',rfl,vs,ws,ns',ms',hz,OC,hwi,hlen,hR⟩
   simp only at hb'
   subst hb'
   have hv:lexLe ns' ms'=decide (items.size<=items2.size):=by
    cases OC with
    | nil=>
     cases hwi with
     | nil=>
      simp only [List.length_nil] at hlen
      rw [nL]
      exact (decide_eq_true (by omega)).symm
     | cons c u hw=>
      simp only [List.length_nil,List.length_cons] at hlen
      rw [tR]
      exact (decide_eq_true (by omega)).symm
    | cons a t hv=>
     cases hwi with
     | nil=>
      simp only [List.length_nil,List.length_cons] at hlen
      rw [tQ]
      exact (decide_eq_false (by omega)).symm
     | cons c u hw=>
      rw [List.zip_cons_cons] at hz
      cases hz
   rw [hv] at hR
   wp_walk
   exact ⟨_,rfl,by simpa [Builtin.Tuple.tupleCompareSizes] using hR⟩
  case h=>
   exact ⟨rfl,rfl,items.toList,items2.toList,ns,ms,rfl,hi,hj,by omega,h⟩
end
section
variable {prog:Program}{w:World}{A:Around}{E:Value->Shared->Prop}{s:Shared}
theorem AL {l b:Addr}{items items2:Array Value}{ns ms:List Int}{Q:Value->Shared->Prop}(hl:IsTup s.heap l items) (hb:IsTup s.heap b items2) (hi:IntsAre items.toList ns) (hj:IntsAre items2.toList ms)
  (hu:A.units < cLine) (h:Q (.bool (lexLe ns ms)) s):wpAny (model prog w) A (compareOp .LtE (.ref l) (.ref b)) Q E s:=by
 obtain ⟨⟨cls,dd,data,sl⟩,ho,hc,n,hd⟩:=id hl
 obtain ⟨⟨cls2,dd2,data2,sl2⟩,ho2,hc2,n2,hd2⟩:=id hb
 simp only at hc hd hc2 hd2
 subst hc hd hc2 hd2
 exact richCompare_meets_room (op:=.LtE) ⟨_,ho,rfl⟩ ⟨_,ho2,rfl⟩ PySem.F.slot_tuple_le PySem.F.entry_tuple_le (PySem.F.args_tuple_le_2 _ _) (vD l b items items2 n n2 dd dd2 sl sl2 ns ms hi hj)
  ⟨ho,ho2,show Value.bool (lexLe ns ms)≠Value.notImplemented/\Q (.bool (lexLe ns ms)) s from ⟨(fun x=>nomatch x),h⟩⟩ hu
end
section
variable {X:Cx}{c:C}{a b e:Expr}{ga gb:G R}{pos pos2:Pos}
theorem Jo (hu:X.A.units < cLine):cY X (compareOp .LtE) (fun x y H Q=>∃a b ns ms,x=.ref a/\y=.ref b/\cQ X.K H a (ns.map V.int)/\cQ X.K H b (ms.map V.int)/\Q (.bl (lexLe ns ms)) H):=by
 intro pins s σ H x y v u Q I rx ry h
 obtain ⟨a,b,ns,ms,rfl,rfl,ha,hb,q⟩:=h
 cases rx
 cases ry
 obtain ⟨its,r1,p1,_⟩:=I.tuple ha
 obtain ⟨its2,r2,p2,_⟩:=I.tuple hb
 exact AL p1 p2 (L2.intsAre_of r1:IntsAre its.toArray.toList ns) (L2.intsAre_of r2:IntsAre its2.toArray.toList ms) hu ⟨.bl (lexLe ns ms),H,I,rfl,q⟩
def tw:R->R->M R
 | .d (.tup xs),.d (.tup ys)=>match intsOf xs,intsOf ys with
  | some ns,some ms=>.ok (.d (.bl (lexLe ns ms)))
  | _,_=>.bad
 | _,_=>.bad
theorem Jy (hu:X.A.units + 64 < cLine) (ha:PD X c a ga) (hb:PD X c b gb) (hK:X.K=c.K:=by rfl):PB X c (.Compare a [.LtE] [b] pos) (bB (g2 tw ga gb)):=kD (Jo (by omega)) (by
 intro He He' J H x y u v Q hp rx ry w
 unfold tw at w
 split at w
 ·cases rx with
  | tup h1 s1=>
   cases ry with
   | tup h2 s2=>
    split at w
    ·rename_i ns ms z1 z2
     have e1:=m_ z1 s1
     have e2:=m_ z2 s2
     subst e1 e2
     exact ⟨_,_,ns,ms,rfl,rfl,by rw [hK];exact fj hp.sub h1,by rw [hK];exact fj hp.sub h2,w _ J H (Ext.refl hp.sub) (.bl _)⟩
    ·exact w.elim
 ·exact w.elim) ha hb
theorem HG (hu:X.A.units + 64 < cLine) (ha:QD X c a ga) (hb:QD X c b gb) (hK:X.K=c.K:=by rfl):QB X c (.Compare a [.LtE] [b] pos) (bB (g2 tw ga gb)):=⟨Jy hu ha.h hb.h hK⟩
end
theorem sY (gt:GT) (gts:G Bool) (ge:G R):∀(ds:List D) (env:Ev) (k:List D->M R),(bT gt gts (gG ge) ds env >>= fun r=>k r.1)=(cP gt gts ge ds env >>= k)
 | [],env,k=>rfl
 | d::ds,env,k=>by
  unfold bT cP
  cases gt d env with
  | bad=>rfl
  | exc z=>rfl
  | ok e=>
   show ((gts e >>= fun k=>if k=true then gG ge e >>= fun r=>bT gt gts (gG ge) ds r.2 >>= fun z=>.ok (r.1++z.1,z.2) else bT gt gts (gG ge) ds e) >>= _)=((gts e >>= fun k=>if k=true then ge e >>= fun r=>toD r >>= fun y=>cP gt gts ge ds e >>= fun ys=>.ok (y::ys) else cP gt gts ge ds e) >>= _)
   cases gts e with
   | bad=>rfl
   | exc z=>rfl
   | ok b=>
    cases b with
    | false=>exact sY gt gts ge ds e k
    | true=>
     show ((gG ge e >>= fun r=>bT gt gts (gG ge) ds r.2 >>= fun z=>.ok (r.1++z.1,z.2)) >>= _)=((ge e >>= fun r=>toD r >>= fun y=>cP gt gts ge ds e >>= fun ys=>.ok (y::ys)) >>= _)
     unfold gG
     cases ge e with
     | bad=>rfl
     | exc z=>rfl
     | ok r=>
      show (((toD r >>= fun y=>M.ok ([y],e)) >>= fun r=>bT gt gts (gG ge) ds r.2 >>= fun z=>.ok (r.1++z.1,z.2)) >>= _)=((toD r >>= fun y=>cP gt gts ge ds e >>= fun ys=>.ok (y::ys)) >>= _)
      cases toD r with
      | bad=>rfl
      | exc z=>rfl
      | ok y=>
       have ih:=sY gt gts ge ds e fun ys=>k (y::ys)
       show ((bT gt gts (gG ge) ds e >>= fun z=>.ok ([y]++z.1,z.2)) >>= fun r=>k r.1)=((cP gt gts ge ds e >>= fun ys=>M.ok (y::ys)) >>= k)
       have e1:((bT gt gts (gG ge) ds e >>= fun z=>M.ok ([y]++z.1,z.2)) >>= fun r=>k r.1)=(bT gt gts (gG ge) ds e >>= fun r=>k (y::r.1)):=by cases bT gt gts (gG ge) ds e <;> rfl
       have e2:((cP gt gts ge ds e >>= fun ys=>M.ok (y::ys)) >>= k)=(cP gt gts ge ds e >>= fun ys=>k (y::ys)):=by cases cP gt gts ge ds e <;> rfl
       rw [e1,e2,ih]
theorem Gv (n:Nat) (cap:List Nat) (gi:G (List D)) (gt:GT) (gts:G Bool) (ge:G R):b_ n cap gi gt gts ge=kr sizeLine n cap gi gt gts (gG ge) (fun ys=>.ok (.l .fresh ys)):=by
 funext env
 unfold b_ kr
 cases gi env with
 | bad=>rfl
 | exc z=>rfl
 | ok ds=>
  show (if ds.length<=sizeLine then _ else _)=(if ds.length<=sizeLine then _ else _)
  by_cases c:ds.length<=sizeLine
  ·rw [if_pos c,if_pos c]
   exact (sY gt gts ge ds _ fun ys=>.ok (.l .fresh ys)).symm
  ·rw [if_neg c,if_neg c]
section
variable {X:Cx}{c:C}
theorem BO (own:List Str) (cap:List Nat){elt target iter:Expr}{ifs:List Expr}{scope:Scope}{pos:Pos}{gi:G (List D)}{gt:GT}{gts:G Bool}{ge:G R}(hi:nE X c target iter gi)
  (hbody:∀(cl:List (Str×Addr)) (C:Addr) (s:Shared) (H:Hp) (fp:List Addr),bG X.env.cells scope.names []=some cl->gF (aY X own cap scope cl C s H fp) c target gt/\fR (aY X own cap scope cl C s H fp) c ifs gts/\PD (aY X own cap scope cl C s H fp) c elt ge)
  (hk:scope.kind=.function:=by rfl) (hno:gz X cap scope=true:=by rfl) (hnames:(scope.names.all fun x=>!(x.2 == .local) || (scope.names.lookup x.1 == some .local))=true:=by rfl)
  (hcl:(bG X.env.cells scope.names []).isSome=true:=by rfl) (hcap:eN X cap=true:=by rfl) (hloc:eZ X cap scope=true:=by rfl) (hnd:gM cap=true:=by rfl) (Nm:X.calm=true:=by rfl)
  (hs:∀x,foldedSetIterable iter X.env x=pure x:=by intro _;rfl)
  {pins:List (Addr×Obj)}{s:Shared}{σ:L2.St}{H:Hp}{Q:VK}{use:Option (Value->Sem Unit)}{Q0:Value->Shared->Prop}{pos':Pos}(I:Inv X pins σ H s) (h:tD c (b_ own.length cap gi gt gts ge) σ H Q)
  (Nu:∀(acc C:Addr) (m:Str->Option Value) (s':Shared) (H':Hp) (fl:Flow),s'.heap.Ns C m->((C∈X.ex\/X.s₀.heap.objs.size<=C)/\C≠X.env.locals/\(∀x c,X.env.cells.lookup x=some c->c≠C)/\∀p∈X.pn++pins,p.1≠C)->H' C=none->(∀h'',Heap.SameBut C s'.heap h''->Inv X pins σ H' {s' with heap:=h''})->Q (.ref acc) H'->compPost (model X.prog X.w) X.A X.xe use Q0 (.ref acc) C (.ok fl) s'):
  wpAny (model X.prog X.w) X.A (comprehension (.ListComp elt [⟨target,iter,ifs,0⟩] scope pos) scope X.env pos' (newList []) false (eval iter X.env) use) Q0 X.xe s:=by
 rw [Gv] at h
 refine qa (e:=.ListComp elt [⟨target,iter,ifs,0⟩] scope pos) (ob:={cls:=.type "list",dict:=none,data:=.seq ([]:List Value).toArray}) (o0:=fun _=>.lst []) (Acc:=Ag c) (N:=1) (lim:=sizeLine) (m:=fun p env=>do let _ <-call (.builtin "list.append") [.ref p,<-eval elt env]) own cap rfl hi
  (fun s Q E q=>wpAny_newObj_type q) (fun h H=>⟨Nat.zero_le _,[],0,.nil,Heap.get?_push_size _ rfl⟩) (fun p=>pZ) (fun p J H _ h1 h2=>⟨[],h1,h2,.nil⟩) (by rw [Nat.mul_one];exact Nat.le_refl _) (fun it p env=>AM (compTurn_list ..)) (fun it acc env R s h0 h=>codeAny_compStart_list h0 h) (fun ys z q=>by cases q)
  (fun {p J H J' H' ys r} hp e ⟨us,h1,h2,h3⟩ q=>by cases q;exact ⟨J',e,⟨p,us,rfl,h1,h2,hp,h3⟩⟩) (fun cl C s H fp hcc=>?_) hk hno hnames hcl hcap hloc hnd Nm hs I h Nu
 obtain ⟨b1,b2,b3⟩:=hbody cl C s H fp hcc
 exact ⟨b1,b2,fun p J2 H2 hp2 hp0=>y_ (fun _ _ f=>f) hp2 hp0 b3⟩
theorem Eu (own:List Str) (cap:List Nat){elt target iter:Expr}{ifs:List Expr}{scope:Scope}{pos:Pos}{gi:G (List D)}{gt:GT}{gts:G Bool}{ge:G R}(hi:nE X c target iter gi)
  (hbody:∀(cl:List (Str×Addr)) (C:Addr) (s:Shared) (H:Hp) (fp:List Addr),bG X.env.cells scope.names []=some cl->gF (aY X own cap scope cl C s H fp) c target gt/\fR (aY X own cap scope cl C s H fp) c ifs gts/\PD (aY X own cap scope cl C s H fp) c elt ge)
  (hk:scope.kind=.function:=by rfl) (hno:gz X cap scope=true:=by rfl) (hnames:(scope.names.all fun x=>!(x.2 == .local) || (scope.names.lookup x.1 == some .local))=true:=by rfl)
  (hcl:(bG X.env.cells scope.names []).isSome=true:=by rfl) (hcap:eN X cap=true:=by rfl) (hloc:eZ X cap scope=true:=by rfl) (hnd:gM cap=true:=by rfl) (Nm:X.calm=true:=by rfl)
  (hs:∀x,foldedSetIterable iter X.env x=pure x:=by intro _;rfl):PD X c (.ListComp elt [⟨target,iter,ifs,0⟩] scope pos) (b_ own.length cap gi gt gts ge):=by
 intro pins s σ H Q I h
 rw [eval_ListComp]
 exact BO own cap hi hbody hk hno hnames hcl hcap hloc hnd Nm hs I h fun acc C m s' H' fl hm hz hf hb q=>⟨m,hm,fun h'' sb=>⟨.ref acc,H',hb h'' sb,rfl,q⟩⟩
theorem Er (i:Nat) (own:List Str) (cap:List Nat){elt target iter:Expr}{ifs:List Expr}{scope:Scope}{pos pos' pos2:Pos}{x:Str}{gi:G (List D)}{gt:GT}{gts:G Bool}{ge:G R}(hN:X.N.Nodup) (hi:nE X c target iter gi)
  (hbody:∀(cl:List (Str×Addr)) (C:Addr) (s:Shared) (H:Hp) (fp:List Addr),bG X.env.cells scope.names []=some cl->gF (aY X own cap scope cl C s H fp) c target gt/\fR (aY X own cap scope cl C s H fp) c ifs gts/\PD (aY X own cap scope cl C s H fp) c elt ge)
  (hk:scope.kind=.function:=by rfl) (hno:gz X cap scope=true:=by rfl) (hnames:(scope.names.all fun x=>!(x.2 == .local) || (scope.names.lookup x.1 == some .local))=true:=by rfl)
  (hcl:(bG X.env.cells scope.names []).isSome=true:=by rfl) (hcap:eN X cap=true:=by rfl) (hloc:eZ X cap scope=true:=by rfl) (hnd:gM cap=true:=by rfl) (Nm:X.calm=true:=by rfl)
  (hs:∀x,foldedSetIterable iter X.env x=pure x:=by intro _;rfl) (hx:X.N[i]?=some x:=by rfl) (NN:X.env.scope.names.lookup x=some .local:=by rfl)
  (hsw:swapsWith (.ListComp elt [⟨target,iter,ifs,0⟩] scope pos) (some (.Name x pos')) pos2.line X.env=pure true:=by rfl):iw X c (.Assign [.Name x pos'] (.ListComp elt [⟨target,iter,ifs,0⟩] scope pos) pos2) (bw i (b_ own.length cap gi gt gts ge)):=by
 intro pins s σ H D I ⟨J,env,sr,w⟩
 rw [arm_exec_Assign]
 refine wpAny_bind (wpAny_standAt ?_)
 rw [show swapsWithSole [.Name x pos'] (.ListComp elt [⟨target,iter,ifs,0⟩] scope pos) pos2.line X.env=pure true from hsw]
 refine wpAny_bind (wpAny_pure ?_)
 rw [if_pos rfl,arm_evalThenUse_ListComp]
 refine wpAny_bind (wpAny_bind (BO own cap hi hbody hk hno hnames hcl hcap hloc hnd Nm hs (Q:=fun v H1=>∃J1 r xx,Ext J H J1 H1/\RR c H J1 H1 r v/\toS r=.ok xx/\oP c J D (.nx (env.set i (some xx)))) I ⟨J,env,sr,aC (aK w) fun r wr v J1 H1 e1 r1=>?_⟩ fun acc C m s' H' fl hm ap hf hb ⟨J1,r,xx,e1,r1,q1,w1⟩=>?_))
 ·obtain ⟨xx,q,wr⟩:=t7 wr
  exact ⟨J1,r,xx,e1,r1,q,wr⟩
 ·have I1:L2.Inv X pins σ H' s':=hb s'.heap (Heap.SameBut.refl ..)
  show wpAny _ _ (do standAt pos';bindName X.env x (.ref acc)) _ _ _
  refine wpAny_bind (wpAny_standAt (wpAny_bindName ?_))
  refine oO I1 hN hx (.inl NN) (v:=.ref acc) (u:=.ref acc) rfl (fun s2 I2 ⟨a,sb,ha⟩=>?_) (.inr NN)
  have hac:C≠a:=fun z=>by
   rcases ha with e | e
   ·exact ap.2.1 (z.trans e)
   ·exact ap.2.2.1 _ _ e z.symm
  refine ⟨m,hm.sameBut sb hac,fun h2 sb2=>?_⟩
  refine wpAny_pure (wpAny_pure ⟨σ.set i (some (.ref acc)),H',uz I2 ap hf sb2 (o0:=default),?_⟩)
  exact w1 _ J1 H' e1.j (sr.set e1 r1 q1)
theorem dG (own:List Str) (cap:List Nat){elt target iter:Expr}{ifs:List Expr}{scope:Scope}{pos:Pos}{gi:G (List D)}{gt:GT}{gts:G Bool}{ge:G R}(hi:wB X c target iter gi)
  (hbody:∀(cl:List (Str×Addr)) (C:Addr) (s:Shared) (H:Hp) (fp:List Addr),bG X.env.cells scope.names []=some cl->lN (aY X own cap scope cl C s H fp) c target gt/\lE (aY X own cap scope cl C s H fp) c ifs gts/\QD (aY X own cap scope cl C s H fp) c elt ge)
  (hk:scope.kind=.function:=by rfl) (hno:gz X cap scope=true:=by rfl) (hnames:(scope.names.all fun x=>!(x.2 == .local) || (scope.names.lookup x.1 == some .local))=true:=by rfl)
  (hcl:(bG X.env.cells scope.names []).isSome=true:=by rfl) (hcap:eN X cap=true:=by rfl) (hloc:eZ X cap scope=true:=by rfl) (hnd:gM cap=true:=by rfl) (Nm:X.calm=true:=by rfl)
  (hs:∀x,foldedSetIterable iter X.env x=pure x:=by intro _;rfl):QD X c (.ListComp elt [⟨target,iter,ifs,0⟩] scope pos) (b_ own.length cap gi gt gts ge):=
 ⟨Eu own cap hi.h (fun cl C s H fp hc=>let ⟨a,b,d⟩:=hbody cl C s H fp hc;⟨a.h,b.h,d.h⟩) hk hno hnames hcl hcap hloc hnd Nm hs⟩
theorem uC (i:Nat) (own:List Str) (cap:List Nat){elt target iter:Expr}{ifs:List Expr}{scope:Scope}{pos pos' pos2:Pos}{x:Str}{gi:G (List D)}{gt:GT}{gts:G Bool}{ge:G R}(hN:X.N.Nodup) (hi:wB X c target iter gi)
  (hbody:∀(cl:List (Str×Addr)) (C:Addr) (s:Shared) (H:Hp) (fp:List Addr),bG X.env.cells scope.names []=some cl->lN (aY X own cap scope cl C s H fp) c target gt/\lE (aY X own cap scope cl C s H fp) c ifs gts/\QD (aY X own cap scope cl C s H fp) c elt ge)
  (hk:scope.kind=.function:=by rfl) (hno:gz X cap scope=true:=by rfl) (hnames:(scope.names.all fun x=>!(x.2 == .local) || (scope.names.lookup x.1 == some .local))=true:=by rfl)
  (hcl:(bG X.env.cells scope.names []).isSome=true:=by rfl) (hcap:eN X cap=true:=by rfl) (hloc:eZ X cap scope=true:=by rfl) (hnd:gM cap=true:=by rfl) (Nm:X.calm=true:=by rfl)
  (hs:∀x,foldedSetIterable iter X.env x=pure x:=by intro _;rfl) (hx:X.N[i]?=some x:=by rfl) (NN:X.env.scope.names.lookup x=some .local:=by rfl)
  (hsw:swapsWith (.ListComp elt [⟨target,iter,ifs,0⟩] scope pos) (some (.Name x pos')) pos2.line X.env=pure true:=by rfl):i6 X c (.Assign [.Name x pos'] (.ListComp elt [⟨target,iter,ifs,0⟩] scope pos) pos2) (bw i (b_ own.length cap gi gt gts ge)):=
 ⟨Er i own cap hN hi.h (fun cl C s H fp hc=>let ⟨a,b,d⟩:=hbody cl C s H fp hc;⟨a.h,b.h,d.h⟩) hk hno hnames hcl hcap hloc hnd Nm hs hx NN hsw⟩
end
end DL
namespace K23
open PySem DL
def Ac:List Str:=["world","many","marks","arrows"]
def rJ:G O:=(aL (kq (dg 3 (br (aE 1) (br (aE 2) (br (aE 3) dF)))) (af 0))
 (bK (bD (aA (gN cM (ao (b_ 2 [] (jb (af 2)) (dg 2 (br (aE 0) (br (aE 1) dF))) fc (af 0)) aI)) (aA (gN cM (ao (b_ 2 [] (jb (af 3)) (dg 2 (br (aE 0) (br (aE 1) dF))) fc (af 0)) aI)) aV)))))
def iZ (as:List S):M R:=fin (rJ (bH Ac as))
def v_:List Str:=["one","other"]
def om:G O:=(bJ (bB (g2 (cR true) (gN (bf 1 K23.iZ) (ao (af 0) aI)) (gN (bf 1 K23.iZ) (ao (af 1) aI)))) rB cX)
def iY (as:List S):M R:=fin (om (bH v_ as))
def pY:List Str:=["worlds","world"]
def kB:G O:=(cZ (ku (af 0)) (aE 1) (bJ (bB (g2 (kT fun i j=>.bl (decide (j < i))) (g2 aX (af 1) (gC (.int 0))) (gC (.int 4)))) rB cX))
def fQ (as:List S):M R:=fin (kB (bH pY as))
def yy:List Str:=["one","other"]
def pV:G O:=(aL (kW (gN (bf 2 K23.iY) (ao (af 0) (ao (af 1) aI))))
 (kW (gN (bf 1 K23.fQ) (ao (bD (aA (af 0) (aA (af 1) aV))) aI))))
def jw (as:List S):M R:=fin (pV (bH yy as))
def K9:List Str:=["world","one","other","many","marks","arrows","bearing","leading"]
def Fv:G O:=(aL (kq (dg 3 (br (aE 3) (br (aE 4) (br (aE 5) dF)))) (af 0))
 (aL (bw 6 (gN cM (ao (b_ 2 [1] (jb (af 4)) (dg 2 (br (aE 0) (br (aE 1) dF))) fc (g2 (jj false) (af 2) (af 1))) aI)))
 (aL (bw 7 (gN cM (ao (b_ 2 [1,2] (jb (af 5)) (dg 2 (br (aE 0) (br (aE 1) dF))) fc (g2 (jj false) (bD (aA (af 2) (aA (af 3) aV))) (af 1))) aI)))
 (bK (bD (aA (g2 (cR false) (af 1) (af 2)) (aA (af 6) (aA (af 7) aV))))))))
def vE (as:List S):M R:=fin (Fv (bH K9 as))
def Im:List Str:=["world"]
def B3:G O:=(bK (oW 2 [0] (cJ (ao (g2 aX (af 0) (gC (.int 0))) aI)) (aE 0) fc (cJ (ao (g2 aX (af 2) (gC (.int 0))) aI)) (aE 1) fc (bD (aA (af 0) (aA (af 1) aV))) (gN (bf 3 K23.vE) (ao (af 2) (ao (af 0) (ao (af 1) aI))))))
def nO (as:List S):M R:=fin (B3 (bH Im as))
def Il:List Str:=["first","second","pair","again"]
def BY:G O:=(bK (g2 (cR false) (g2 s_ (af 0) (bD (aA (g2 aX (af 2) (gC (.int 0))) (aA (g2 aX (af 3) (gC (.int 0))) aV)))) (g2 s_ (af 1) (bD (aA (g2 aX (af 2) (gC (.int 1))) (aA (g2 aX (af 3) (gC (.int 1))) aV))))))
def eY (as:List S):M R:=fin (BY (bH Il as))
def vZ:List Str:=["first","second","pairing","pair","again"]
def oh:G O:=(aL (bJ (kj (qi (af 2)) (bB (g2 tw (af 3) (g2 aX (af 2) (tG (gC (.int 1))))))) (bK (gC (.bl false))) cX)
 (aL (cZ (ku (af 2)) (aE 4) (bJ (jD (eE (bB (gN (bf 4 K23.eY) (ao (af 0) (ao (af 1) (ao (af 3) (ao (af 4) aI))))))) (eE (bB (gN (bf 4 K23.eY) (ao (af 0) (ao (af 1) (ao (af 4) (ao (af 3) aI)))))))) (bK (gC (.bl false))) cX))
 (bK (gC (.bl true)))))
def iX (as:List S):M R:=fin (oh (bH vZ as))
def Bw:List Str:=["one","other","most","first","second","pairs","longest","told","step"]
def uo:G O:=(aL (kW (gN (bf 2 K23.jw) (ao (af 0) (ao (af 1) aI))))
 (aL (kW (gN (bf 3 K55.jv) (ao (af 2) (ao (gC (.int 0)) (ao (gC (.int 4)) aI)))))
 (aL (bw 3 (gN (bf 1 K23.nO) (ao (af 0) aI)))
 (aL (bw 4 (gN (bf 1 K23.nO) (ao (af 1) aI)))
 (aL (bw 5 (jC 2 [1,3,4] (cJ (ao (g2 aX (af 0) (gC (.int 0))) aI)) (aE 0) fc (cJ (ao (g2 aX (af 2) (gC (.int 0))) aI)) (aE 1) (bB (gN (bf 4 K23.eY) (ao (af 3) (ao (af 4) (ao (bD (aA (af 0) (aA (af 1) aV))) (ao (bD (aA (af 0) (aA (af 1) aV))) aI)))))) (bD (aA (af 0) (aA (af 1) aV)))))
 (aL (jK 5 (bw 6 (gJ (aA (bD aV) aV))))
 (aL (bw 7 (gJ (aA (bD aV) aV)))
 (aL (cZ (cJ (ao (af 2) aI)) (aE 8) (aL (jK 5 (bw 6 (jC 2 [5,3,4] (jb (af 6)) (aE 0) fc (ku (af 2)) (aE 1) (bB (gN (bf 4 K23.iX) (ao (af 3) (ao (af 4) (ao (af 0) (ao (af 1) aI)))))) (g2 dI (af 0) (bD (aA (af 1) aV))))))
 (tF 7 (af 6))))
 (bK (af 7))))))))))
def jA (as:List S):M R:=fin (uo (bH Bw as))
end K23
namespace K23
open PySem DL K01 WP K51 K52 K55
section
variable {α β:Type}
theorem Fp {gts:G Bool}{act:Ev->M (List D×Ev)}{h':β->D}{a0:Option S}{rest:Ev}(p:β->Bool) (f:β->D):∀(ys:List β),(∀y∈ys,gts (a0::some (.d (h' y))::rest)=.ok (p y)/\(p y=true->act (a0::some (.d (h' y))::rest)=.ok ([f y],a0::some (.d (h' y))::rest)))->
  ∀z:Option S,∃z',bT (aE 1) gts act (ys.map h') (a0::z::rest)=.ok ((ys.filter p).map f,a0::z'::rest)
 | [],_,z=>⟨z,rfl⟩
 | y::ys,H,z=>by
  obtain ⟨h1,h2⟩:=H y List.mem_cons_self
  obtain ⟨z',ih⟩:=Fp p f ys (fun y hy=>H y (List.mem_cons_of_mem _ hy)) (some (.d (h' y)))
  refine ⟨z',?_⟩
  rw [List.map_cons]
  unfold bT
  show (gts (a0::some (.d (h' y))::rest) >>= fun k=>if k=true then act (a0::some (.d (h' y))::rest) >>= fun r=>bT (aE 1) gts act (ys.map h') r.2 >>= fun z=>.ok (r.1++z.1,z.2) else bT (aE 1) gts act (ys.map h') (a0::some (.d (h' y))::rest))=_
  rw [h1,aN]
  cases q:p y with
  | true=>
   rw [if_pos rfl,h2 q,aN]
   show (bT (aE 1) gts act (ys.map h') (a0::some (.d (h' y))::rest) >>= _)=_
   rw [ih,aN,List.filter_cons_of_pos q]
   rfl
  | false=>
   rw [if_neg (by decide),ih,List.filter_cons_of_neg (by simp [q])]
theorem BL {gi1:G (List D)}{gts:G Bool}{act:Ev->M (List D×Ev)}{h:α->D}{h':β->D}{rest:Ev}(ys:α->List β) (p:α->β->Bool) (f:α->β->D):∀(xs:List α),(∀x∈xs,(ys x).length<=1000/\(∀z:Option S,gi1 (some (.d (h x))::z::rest)=.ok ((ys x).map h'))/\∀y∈ys x,gts (some (.d (h x))::some (.d (h' y))::rest)=.ok (p x y)/\(p x y=true->act (some (.d (h x))::some (.d (h' y))::rest)=.ok ([f x y],some (.d (h x))::some (.d (h' y))::rest)))->
  ∀z0 z:Option S,∃z0' z',bT (aE 0) fc (i9 gi1 (aE 1) gts act) (xs.map h) (z0::z::rest)=.ok (xs.flatMap fun x=>((ys x).filter (p x)).map (f x),z0'::z'::rest)
 | [],_,z0,z=>⟨z0,z,rfl⟩
 | x::xs,H,z0,z=>by
  obtain ⟨h1,h2,h3⟩:=H x List.mem_cons_self
  obtain ⟨z1,e1⟩:=Fp (a0:=some (.d (h x))) (p x) (f x) (ys x) h3 z
  obtain ⟨z0',z',ih⟩:=BL ys p f xs (fun y hy=>H y (List.mem_cons_of_mem _ hy)) (some (.d (h x))) z1
  refine ⟨z0',z',?_⟩
  rw [List.map_cons]
  unfold bT
  show (i9 gi1 (aE 1) gts act (some (.d (h x))::z::rest) >>= _)=_
  unfold i9
  rw [h2 z,aN,if_pos (by rw [List.length_map];exact h1),e1,aN]
  show (bT (aE 0) fc (i9 gi1 (aE 1) gts act) (xs.map h) (some (.d (h x))::z1::rest) >>= _)=_
  rw [ih]
  rfl
theorem Au {env:Ev}{cap:List Nat}{gi0 gi1:G (List D)}{gts:G Bool}{act:Ev->M (List D×Ev)}{fin:List D->M R}{h:α->D}{h':β->D}{xs:List α}(ys:α->List β) (p:α->β->Bool) (f:α->β->D) (hi:gi0 env=.ok (xs.map h)) (hl:xs.length<=10000)
  (H:∀x∈xs,(ys x).length<=1000/\(∀z:Option S,gi1 (some (.d (h x))::z::cE 0 cap env)=.ok ((ys x).map h'))/\∀y∈ys x,gts (some (.d (h x))::some (.d (h' y))::cE 0 cap env)=.ok (p x y)/\(p x y=true->act (some (.d (h x))::some (.d (h' y))::cE 0 cap env)=.ok ([f x y],some (.d (h x))::some (.d (h' y))::cE 0 cap env))):
  kr 10000 2 cap gi0 (aE 0) fc (i9 gi1 (aE 1) gts act) fin env=fin (xs.flatMap fun x=>((ys x).filter (p x)).map (f x)):=by
 unfold kr
 rw [hi,aN,if_pos (by rw [List.length_map];exact hl)]
 obtain ⟨z0',z',e⟩:=BL ys p f xs H none none
 show (bT (aE 0) fc (i9 gi1 (aE 1) gts act) (xs.map h) (none::none::cE 0 cap env) >>= _)=_
 rw [e]
 rfl
theorem y9 {ge:G R}{env:Ev}{r:R}{d:D}(h:ge env=.ok r) (h2:toD r=.ok d):gG ge env=.ok ([d],env):=by
 unfold gG
 rw [h,aN,h2]
 rfl
theorem FZ {gk gv:G R}{env:Ev}{r r2:R}{k d:D}(h:gk env=.ok r) (h2:toD r=.ok k) (h3:gv env=.ok r2) (h4:toD r2=.ok d) (ok:dX k=true):Ah gk gv env=.ok ([.tup [k,d]],env):=by
 unfold Ah
 rw [h,aN,h2,aN,h3,aN,h4,aN,if_pos ok]
end
def eO (u:Wd) (a c:Nat):D:=.tup [.bl (aZ (dN a) (dN c)),.tup (u.ms.map fun r=>.bl (inD (dN a) (r.2.map dN))),.tup (u.ar.map fun r=>.bl (inD (dP (a,c)) (r.2.map dP)))]
theorem Ii (u:Wd) (hu:lO u) (a c:Nat):vE [.d u.d,.d (dN a),.d (dN c)]=.ok (.d (eO u a c)):=by
 have ml:=hu.ml
 have al:=hu.al
 refine fX (sy rfl rfl rfl ?_)
 refine bI (n1 (mR (xs:=u.ms) (fun r=>.str r.1) (fun r=>.tup (r.2.map dN)) (fun r=>.bl (inD (dN a) (r.2.map dN))) rfl (by omega) fun r _=>⟨_,two rfl rfl (Mw a r.2),rfl⟩) rfl) rfl ?_
 refine bI (n1 (mR (xs:=u.ar) (fun r=>.str r.1) (fun r=>.tup (r.2.map dP)) (fun r=>.bl (inD (dP (a,c)) (r.2.map dP))) rfl (by omega) fun r _=>⟨_,two (bz (aJ rfl rfl (aJ rfl rfl bu)) t2) rfl (Mx (a,c) r.2),rfl⟩) rfl) rfl ?_
 exact cg (bz (aJ rfl rfl (aJ rfl rfl (aJ rfl rfl bu))) (by show 3<=1000;decide)) rfl rfl
def fF (m n:Nat):List (Nat×Nat):=(List.range m).flatMap fun a=>(List.range n).map fun b=>(a,b)
theorem qm {m n:Nat}{p:Nat×Nat}:p∈fF m n↔p.1 < m/\p.2 < n:=by
 unfold fF
 simp only [List.mem_flatMap,List.mem_range,List.mem_map]
 constructor
 ·rintro ⟨a,ha,b,hb,rfl⟩;exact ⟨ha,hb⟩
 ·rintro ⟨h1,h2⟩;exact ⟨p.1,h1,p.2,h2,rfl⟩
theorem AQ (m n:Nat):(fF m n).Nodup:=by
 unfold fF
 refine List.pairwise_flatMap.mpr ⟨fun a _=>List.pairwise_map.mpr (List.Pairwise.imp (fun h e=>h (by cases e;rfl)) (List.nodup_range (n:=n))),?_⟩
 refine List.Pairwise.imp ?_ (List.nodup_range (n:=m))
 intro a b hab p h1 q h2 e
 subst e
 obtain ⟨x,_,rfl⟩:=List.mem_map.mp h1
 obtain ⟨y,_,e⟩:=List.mem_map.mp h2
 cases e
 exact hab rfl
theorem D8 (m n:Nat):(fF m n).length=m * n:=by
 induction m with
 | zero=>simp [fF]
 | succ m ih=>
  unfold fF at ih ⊢
  rw [List.range_succ,List.flatMap_append,List.length_append,ih,Nat.add_mul]
  simp
theorem GG {ks vs:List D}{k:D}(h:∀x∈ks,aZ x k=false):fC ks vs k=none:=by
 induction ks generalizing vs with
 | nil=>cases vs <;> rfl
 | cons x ks ih=>
  cases vs with
  | nil=>rfl
  | cons v vs=>
   unfold fC
   rw [h x List.mem_cons_self,if_neg (by decide)]
   exact ih fun y hy=>h y (List.mem_cons_of_mem _ hy)
theorem uf (f:Nat×Nat->D):∀(n:Nat) (ps:List (Nat×Nat)),ps.length=n->ps.Nodup->lS (ps.map fun p=>D.tup [dP p,f p])=(ps.map dP,ps.map f)
 | 0,ps,h,_=>by
  have:=List.length_eq_zero_iff.mp h
  subst this
  rfl
 | n + 1,ps,h,nd=>by
  rcases List.eq_nil_or_concat ps with rfl | ⟨qs,p,rfl⟩
  ·cases h
  ·rw [List.concat_eq_append] at h nd ⊢
   have nd':=List.nodup_append.mp nd
   have ih:=uf f n qs (by simpa using h) nd'.1
   have hn:fC (qs.map dP) (qs.map f) (dP p)=none:=GG fun x hx=>by
    obtain ⟨q,hq,rfl⟩:=List.mem_map.mp hx
    rw [BU,decide_eq_false_iff_not]
    rintro rfl
    exact nd'.2.2 q hq q List.mem_cons_self rfl
   rw [List.map_append,List.map_singleton,qc,ih]
   unfold dput
   rw [hn]
   simp
abbrev ia (u:Wd):List D:=(fF u.m u.m).map dP
abbrev ic (u:Wd):List D:=(fF u.m u.m).map fun p=>eO u p.1 p.2
theorem yW (u:Wd) (hu:lO u):nO [.d u.d]=.ok (.d (.dct (ia u) (ic u))):=by
 have hi:=hu.hi
 refine fX (cg (r:=.d (.dct (ia u) (ic u))) ?_ rfl rfl)
 refine (Au (xs:=List.range u.m) (h:=dN) (h':=dN) (fun _=>List.range u.m) (fun _ _=>true) (fun a b=>.tup [dP (a,b),eO u a b]) ?_ (by simp;omega) fun a _=>⟨by simp;omega,fun z=>?_,fun b _=>⟨rfl,fun _=>FZ (bz (aJ rfl rfl (aJ rfl rfl bu)) t2) rfl (c3 rfl rfl rfl (Ii u hu a b)) rfl rfl⟩⟩).trans ?_
 ·exact lJ (fO (two rfl rfl (kY _ _))) (by omega)
 ·exact lJ (fO (two rfl rfl (kY _ _))) (by omega)
 ·have ef:(List.range u.m).filter (fun _=>true)=List.range u.m:=List.filter_eq_self.mpr fun _ _=>rfl
  have e:((List.range u.m).flatMap fun a=>((List.range u.m).filter fun _=>true).map fun b=>D.tup [dP (a,b),eO u a b])=(fF u.m u.m).map fun p=>D.tup [dP p,eO u p.1 p.2]:=by
   rw [ef]
   unfold fF
   rw [List.map_flatMap]
   simp [List.map_map,Function.comp_def]
  rw [e]
  have h:=uf (fun p=>eO u p.1 p.2) _ (fF u.m u.m) rfl (AQ _ _)
  show M.ok (R.d (.dct (lS ((fF u.m u.m).map fun p=>D.tup [dP p,eO u p.1 p.2])).1 (lS ((fF u.m u.m).map fun p=>D.tup [dP p,eO u p.1 p.2])).2))=_
  rw [h]
theorem zA (u:Wd):∀(ps:List (Nat×Nat)) (p:Nat×Nat),p∈ps->fC (ps.map dP) (ps.map fun p=>eO u p.1 p.2) (dP p)=some (eO u p.1 p.2)
 | q::ps,p,h=>by
  rw [List.map_cons,List.map_cons]
  unfold fC
  by_cases c:q=p
  ·subst c
   rw [if_pos (by rw [BU];simp)]
  ·rw [if_neg (by rw [BU];simpa using c)]
   rcases List.mem_cons.mp h with e | e
   ·exact absurd e.symm c
   ·exact zA u ps p e
theorem wY (u:Wd) (a c:Nat) (ha:a < u.m) (hc:c < u.m):s_ (.d (.dct (ia u) (ic u))) (.d (dP (a,c)))=.ok (.d (eO u a c)):=by
 show (if dX (dP (a,c))=true then (match fC (ia u) (ic u) (dP (a,c)) with
  | some d=>M.ok (R.d d)
  | none=>.bad) else .bad)=_
 rw [if_pos (show dX (dP (a,c))=true from rfl),zA u (fF u.m u.m) (a,c) (qm.mpr ⟨ha,hc⟩)]
theorem yp (u:Wd) (a c:Nat):dep (eO u a c)<=60:=by
 have h1:deps (u.ms.map fun r=>D.bl (inD (dN a) (r.2.map dN)))<=0:=eU fun x hx=>by obtain ⟨r,_,rfl⟩:=List.mem_map.mp hx;exact Nat.zero_le _
 have h2:deps (u.ar.map fun r=>D.bl (inD (dP (a,c)) (r.2.map dP)))<=0:=eU fun x hx=>by obtain ⟨r,_,rfl⟩:=List.mem_map.mp hx;exact Nat.zero_le _
 unfold eO
 simp only [dep,deps]
 omega
def ji (v w:Wd) (p q:Nat×Nat):Bool:=aZ (eO v p.1 q.1) (eO w p.2 q.2)
def pJ (v w:Wd) (p:Nat×Nat):Prop:=p.1 < v.m/\p.2 < w.m
theorem sN (v w:Wd) (p q:Nat×Nat) (hp:pJ v w p) (hq:pJ v w q):eY [.d (.dct (ia v) (ic v)),.d (.dct (ia w) (ic w)),.d (dP p),.d (dP q)]=.ok (.d (.bl (ji v w p q))):=by
 refine fX (cg (two (x:=.d (eO v p.1 q.1)) (y:=.d (eO w p.2 q.2)) (two rfl (bz (aJ (two rfl rfl (kY _ _)) rfl (aJ (two rfl rfl (kY _ _)) rfl bu)) t2) (wY v p.1 q.1 hp.1 hq.1)) (two rfl (bz (aJ (two rfl rfl (uq _ _ _)) rfl (aJ (two rfl rfl (uq _ _ _)) rfl bu)) t2) (wY w p.2 q.2 hp.2 hq.2)) (mY _ _ _ (yp v p.1 q.1) (yp w p.2 q.2))) rfl rfl)
def pW (p q:Nat×Nat):Bool:=lexLe [p.1,p.2] [q.1,q.2]
theorem M7 (p q:Nat×Nat):tw (.d (dP p)) (.d (dP q))=.ok (.d (.bl (pW p q))):=rfl
def gb (v w:Wd) (ps:List (Nat×Nat)) (q:Nat×Nat):Bool:=(match ps.getLast? with
 | some l=>!pW q l
 | none=>true) && ps.all fun r=>ji v w q r && ji v w r q
theorem Bh {env:Ev}{g:G R}{b:Bool}(h:g env=.ok (.d (.bl b))):bB g env=.ok b:=by
 show (g env >>= _)=_
 rw [h]
 rfl
theorem qB {env:Ev}{g:G R}{b:Bool}(h:g env=.ok (pQ (.d (.bl b)))):bB g env=.ok b:=Bh h
theorem dH {env:Ev}{f:R->R->M R}{g h:G R}{x y:R}{b:Bool}(hx:g env=.ok x) (hy:h env=.ok y) (hf:f x y=.ok (.d (.bl b))):bB (g2 f g h) env=.ok b:=Bh (two hx hy hf)
theorem k_ {env:Ev}{g:G Bool}{b:Bool}(h:g env=.ok b):eE g env=.ok (!b):=by
 show (g env >>= _)=_
 rw [h]
 rfl
theorem nT {env:Ev}{a b:G Bool}(h:a env=.ok false):kj a b env=.ok false:=by
 unfold kj
 rw [h]
 rfl
theorem oV {env:Ev}{a b:G Bool}{k:Bool}(h:a env=.ok true) (h2:b env=.ok k):kj a b env=.ok k:=by
 unfold kj
 rw [h]
 exact h2
theorem Cq {env:Ev}{a b:G Bool}{x y:Bool}(h:a env=.ok (!x)) (h2:b env=.ok (!y)):jD a b env=.ok (!(x && y)):=by
 unfold jD
 rw [h]
 cases x with
 | true=>exact h2
 | false=>rfl
theorem Ml (v w:Wd) (ps:List (Nat×Nat)) (q:Nat×Nat) (hp:∀p∈ps,pJ v w p) (hq:pJ v w q):iX [.d (.dct (ia v) (ic v)),.d (.dct (ia w) (ic w)),.d (.tup (ps.map dP)),.d (dP q)]=.ok (.d (.bl (gb v w ps q))):=by
 have loop:(match ps.getLast? with
   | some l=>!pW q l
   | none=>true)=true->Wp (aL (cZ (ku (af 2)) (aE 4) (bJ (jD (eE (bB (gN (bf 4 K23.eY) (ao (af 0) (ao (af 1) (ao (af 3) (ao (af 4) aI))))))) (eE (bB (gN (bf 4 K23.eY) (ao (af 0) (ao (af 1) (ao (af 4) (ao (af 3) aI)))))))) (bK (gC (.bl false))) cX))
 (bK (gC (.bl true))) [some (.d (.dct (ia v) (ic v))),some (.d (.dct (ia w) (ic w))),some (.d (.tup (ps.map dP))),some (.d (dP q)),none]) (·=.rt (.d (.bl (gb v w ps q)))):=by
  intro hl
  refine gY (ds:=ps.map dP) rfl ?_
  have key:∀(rs:List (Nat×Nat)),(∀p∈rs,pJ v w p)->∀x:Option S,Wp (fD (aE 4) (bJ (jD (eE (bB (gN (bf 4 K23.eY) (ao (af 0) (ao (af 1) (ao (af 3) (ao (af 4) aI))))))) (eE (bB (gN (bf 4 K23.eY) (ao (af 0) (ao (af 1) (ao (af 4) (ao (af 3) aI)))))))) (bK (gC (.bl false))) cX) (rs.map dP) [some (.d (.dct (ia v) (ic v))),some (.d (.dct (ia w) (ic w))),some (.d (.tup (ps.map dP))),some (.d (dP q)),x])
    (fun o=>((∃e,o=.nx e)/\(rs.all fun r=>ji v w q r && ji v w r q)=true)\/(o=.rt (.d (.bl false))/\(rs.all fun r=>ji v w q r && ji v w r q)=false)):=by
   intro rs
   induction rs with
   | nil=>intro _ x;exact ⟨_,rfl,.inl ⟨⟨_,rfl⟩,rfl⟩⟩
   | cons r rs ih=>
    intro hr x
    have h1:=sN v w q r hq (hr r List.mem_cons_self)
    have h2:=sN v w r q (hr r List.mem_cons_self) hq
    have ht:(jD (eE (bB (gN (bf 4 K23.eY) (ao (af 0) (ao (af 1) (ao (af 3) (ao (af 4) aI))))))) (eE (bB (gN (bf 4 K23.eY) (ao (af 0) (ao (af 1) (ao (af 4) (ao (af 3) aI)))))))) [some (.d (.dct (ia v) (ic v))),some (.d (.dct (ia w) (ic w))),some (.d (.tup (ps.map dP))),some (.d (dP q)),some (.d (dP r))]=.ok (!(ji v w q r && ji v w r q)):=Cq (k_ (qB (c4 rfl rfl rfl rfl h1))) (k_ (qB (c4 rfl rfl rfl rfl h2)))
    rw [List.map_cons,List.all_cons]
    unfold fD
    show Wp ((bJ _ _ _ [some (.d (.dct (ia v) (ic v))),some (.d (.dct (ia w) (ic w))),some (.d (.tup (ps.map dP))),some (.d (dP q)),some (.d (dP r))]) >>= _) _
    cases hc:(ji v w q r && ji v w r q) with
    | true=>
     rw [hc] at ht
     rw [xh ht]
     exact ih (fun p hp=>hr p (List.mem_cons_of_mem _ hp)) _
    | false=>
     rw [hc] at ht
     rw [tL ht]
     exact ⟨_,rfl,.inr ⟨rfl,rfl⟩⟩
  refine (key ps hp none).mono ?_
  rintro o (⟨⟨e,rfl⟩,h⟩ | ⟨rfl,h⟩)
  ·refine cg rfl rfl ?_
   unfold gb
   rw [hl,h]
   rfl
  ·show O.rt _=_
   unfold gb
   rw [h,Bool.and_false]
 refine fX ?_
 cases q':ps.getLast? with
 | none=>
  have:ps=[]:=List.getLast?_eq_none_iff.mp q'
  subst this
  exact dh (nT rfl) (loop rfl)
 | some l=>
  obtain ⟨rs,rfl⟩:∃rs,ps=rs++[l]:=by
   rcases List.eq_nil_or_concat ps with rfl | ⟨ys,y,rfl⟩
   ·cases q'
   ·rw [List.concat_eq_append] at q' ⊢
    rw [List.getLast?_concat] at q'
    cases q'
    exact ⟨ys,rfl⟩
  have hix:aX (.d (.tup ((rs++[l]).map dP))) (.d (.int (-1)))=.ok (.d (dP l)):=by rw [List.map_append];exact zu _ _
  have ht:kj (qi (af 2)) (bB (g2 tw (af 3) (g2 aX (af 2) (tG (gC (.int 1)))))) [some (.d (.dct (ia v) (ic v))),some (.d (.dct (ia w) (ic w))),some (.d (.tup ((rs++[l]).map dP))),some (.d (dP q)),none]=.ok (pW q l):=by
   refine oV ?_ (Bh (two rfl (two rfl rfl hix) (M7 q l)))
   show M.ok (!((rs++[l]).map dP).isEmpty)=_
   simp
  cases hc:pW q l with
  | true=>
   rw [hc] at ht
   refine cW (jx ht (cg rfl rfl ?_))
   show O.rt _=_
   unfold gb
   rw [q']
   simp [hc]
  | false=>
   rw [hc] at ht
   exact dh ht (loop (by rw [q'];simp [hc]))
section
variable {env:Ev}{Q:O->Prop}{g:G R}{t:G O}{r:R}{i:Nat}
theorem Lh {xs ys:List D}(h0:env[i]?=some (some (.own xs))) (h:g env=.ok r) (h2:iO r=.ok ys) (hl:xs.length + ys.length<=16777216) (k:Q (.nx (env.set i (some (.own (xs++ys)))))):Wp (tF i g env) Q:=by
 refine ⟨_,?_,k⟩
 unfold tF
 rw [h0]
 show (g env >>= _)=_
 rw [h,aN,h2,aN,if_pos (by rw [sizeLine_eq];exact hl)]
theorem Jg (h:g env=.ok r) (k:Q (.nx env)):Wp (kW g env) Q:=⟨.nx env,by show (g env >>= _)=_;rw [h];rfl,k⟩
theorem K5 {d:D}(h:env[i]?=some (some (.d d))) (k:Wp (t env) Q):Wp (jK i t env) Q:=by
 have:jK i t env=t env:=by unfold jK;rw [h]
 rw [this];exact k
end
structure Pr (v w:Wd):Prop where
 vo:lO v
 wo:lO w
 v4:v.m<=4
 w4:w.m<=4
 mn:v.ms.map Prod.fst=w.ms.map Prod.fst
 an:v.ar.map Prod.fst=w.ar.map Prod.fst
def ju (u:Wd):D:=.tup [.tup ((u.ms.map Prod.fst).map .str),.tup ((u.ar.map Prod.fst).map .str)]
theorem vU (u:Wd) (hu:lO u):iZ [.d u.d]=.ok (.d (ju u)):=by
 have ml:=hu.ml
 have al:=hu.al
 refine fX (sy rfl rfl rfl (cg (bz (aJ (n1 (mR (xs:=u.ms) (fun r=>.str r.1) (fun r=>.tup (r.2.map dN)) (fun r=>.str r.1) rfl (by omega) fun r _=>⟨_,rfl,rfl⟩) rfl) rfl (aJ (n1 (mR (xs:=u.ar) (fun r=>.str r.1) (fun r=>.tup (r.2.map dP)) (fun r=>.str r.1) rfl (by omega) fun r _=>⟨_,rfl,rfl⟩) rfl) rfl bu)) t2) rfl ?_))
 unfold ju
 rw [List.map_map,List.map_map]
 rfl
theorem zR (u:Wd):dep (ju u)<=60:=by
 have h:∀ss:List Str,deps (ss.map D.str)<=0:=fun ss=>eU fun x hx=>by obtain ⟨r,_,rfl⟩:=List.mem_map.mp hx;exact Nat.zero_le _
 have h1:=h (u.ms.map Prod.fst)
 have h2:=h (u.ar.map Prod.fst)
 unfold ju
 simp only [dep,deps]
 omega
theorem FW {v w:Wd}(t:Pr v w):jw [.d v.d,.d w.d]=.ok (.d .non):=by
 have ht:iY [.d v.d,.d w.d]=.ok (.d .non):=by
  refine sL (ng (dH (b:=false) (c1 rfl (vU v t.vo)) (c1 rfl (vU w t.wo)) ?_) (iJ ⟨_,rfl⟩))
  show cR true (.d (ju v)) (.d (ju w))=_
  rw [mY true (.d (ju v)) (.d (ju w)) (zR v) (zR w)]
  have e:ju v=ju w:=by unfold ju;rw [t.mn,t.an]
  show M.ok (R.d (.bl (!aZ (ju v) (ju w))))=_
  rw [e,eu]
  rfl
 have hf:fQ [.d (.tup [v.d,w.d])]=.ok (.d .non):=by
  have v4:=t.v4
  have w4:=t.w4
  have one:∀(u:Wd),u.m<=4->bB (g2 (kT fun i j=>.bl (decide (j < i))) (g2 aX (af 1) (gC (.int 0))) (gC (.int 4))) [some (.d (.tup [v.d,w.d])),some (.d u.d)]=.ok false:=fun u hu=>by
   refine dH (two rfl rfl (kY _ _)) rfl ?_
   show M.ok (R.d (.bl (decide ((4:Int) < (u.m:Int)))))=_
   rw [decide_eq_false (by omega)]
  refine sL (rR (ds:=[v.d,w.d]) rfl (yq (fun k env=>∃x,env=[some (.d (.tup [v.d,w.d])),x]) [v.d,w.d] ⟨none,rfl⟩ ?_ fun e _=>⟨e,rfl⟩))
  rintro k hk _ ⟨x,rfl⟩
  match k,hk with
  | 0,_=>exact ⟨_,rfl,ng (one v v4) (iJ ⟨_,rfl,_,rfl⟩)⟩
  | 1,_=>exact ⟨_,rfl,ng (one w w4) (iJ ⟨_,rfl,_,rfl⟩)⟩
 refine sL (sZ (c2 rfl rfl ht) ?_)
 exact Jg (c1 (bz (aJ rfl rfl (aJ rfl rfl bu)) t2) hf) ⟨_,rfl⟩
theorem K7 (d:Nat) (hd:d<=4):K55.jv [.d (.int d),.d (.int 0),.d (.int 4)]=.ok (.d .non):=by
 refine sL (ng ?_ (iJ ⟨_,rfl⟩))
 show (if decide ((d:Int) < 0)=true then M.ok true else M.ok (decide ((4:Int) < d)))=M.ok false
 rw [decide_eq_false (show ¬(d:Int) < 0 by omega),decide_eq_false (show ¬(4:Int) < d by omega)]
 rfl
def prs (v w:Wd):List (Nat×Nat):=(fF v.m w.m).filter fun p=>ji v w p p
def LG (v w:Wd):Nat->List (List (Nat×Nat))
 | 0=>[[]]
 | j + 1=>(LG v w j).flatMap fun ah=>((prs v w).filter (gb v w ah)).map fun q=>ah++[q]
def told (v w:Wd):Nat->List (List (Nat×Nat))
 | 0=>[[]]
 | j + 1=>told v w j++LG v w (j + 1)
abbrev bP (ps:List (Nat×Nat)):D:=.tup (ps.map dP)
theorem CH {v w:Wd}{p:Nat×Nat}(h:p∈prs v w):pJ v w p:=qm.mp (List.mem_filter.mp h).1
theorem pe {v w:Wd}(t:Pr v w):(prs v w).length<=16:=by
 have h1:=List.length_filter_le (fun p=>ji v w p p) (fF v.m w.m)
 rw [D8] at h1
 have h2:=Nat.mul_le_mul t.v4 t.w4
 unfold prs
 omega
theorem jM {v w:Wd}:∀(j:Nat){ps:List (Nat×Nat)},ps∈LG v w j->ps.length=j/\∀p∈ps,pJ v w p
 | 0,ps,h=>by
  rw [show ps=[] from List.mem_singleton.mp h]
  exact ⟨rfl,fun _ h=>by cases h⟩
 | j + 1,ps,h=>by
  obtain ⟨ah,h1,h2⟩:=List.mem_flatMap.mp h
  obtain ⟨q,h3,rfl⟩:=List.mem_map.mp h2
  obtain ⟨l,k⟩:=jM j h1
  refine ⟨by rw [List.length_append,l];rfl,fun p hp=>?_⟩
  rcases List.mem_append.mp hp with h | h
  ·exact k p h
  ·rw [List.mem_singleton.mp h];exact CH (List.mem_filter.mp h3).1
theorem w_ {α β:Type}(f:α->List β) (n:Nat):∀(xs:List α),(∀x∈xs,(f x).length<=n)->(xs.flatMap f).length<=xs.length * n
 | [],_=>by simp
 | x::xs,h=>by
  have h1:=h x List.mem_cons_self
  have h2:=w_ f n xs fun y hy=>h y (List.mem_cons_of_mem _ hy)
  rw [List.flatMap_cons,List.length_append,List.length_cons,Nat.add_mul]
  omega
theorem qD {v w:Wd}(t:Pr v w):∀j,(LG v w j).length<=16 ^ j
 | 0=>Nat.le_refl _
 | j + 1=>by
  have h:=w_ (fun ah=>((prs v w).filter (gb v w ah)).map fun q=>ah++[q]) 16 (LG v w j) fun ah _=>by
   rw [List.length_map]
   exact Nat.le_trans (List.length_filter_le _ _) (pe t)
  have h2:=Nat.mul_le_mul_right 16 (qD t j)
  rw [Nat.pow_succ]
  exact Nat.le_trans h h2
theorem nA {v w:Wd}(t:Pr v w):∀j,j<=4->(told v w j).length<=(j + 1) * 65536
 | 0,_=>by show 1<=_;omega
 | j + 1,h=>by
  have h1:=nA t j (by omega)
  have h2:=qD t (j + 1)
  have h3:(16:Nat) ^ (j + 1)<=16 ^ 4:=Nat.pow_le_pow_right (by decide) h
  have h4:(16:Nat) ^ 4=65536:=by decide
  show (told v w j++LG v w (j + 1)).length<=_
  rw [List.length_append]
  omega
theorem tZ {v w:Wd}:∀(n:Nat){ps:List (Nat×Nat)},ps∈told v w n↔∃j,j<=n/\ps∈LG v w j
 | 0,ps=>by
  constructor
  ·exact fun h=>⟨0,Nat.le_refl _,h⟩
  ·rintro ⟨j,hj,h⟩
   have:j=0:=by omega
   subst this
   exact h
 | n + 1,ps=>by
  show ps∈told v w n++LG v w (n + 1)↔_
  rw [List.mem_append,tZ n]
  constructor
  ·rintro (⟨j,hj,h⟩ | h)
   ·exact ⟨j,by omega,h⟩
   ·exact ⟨n + 1,Nat.le_refl _,h⟩
  ·rintro ⟨j,hj,h⟩
   by_cases c:j=n + 1
   ·subst c;exact .inr h
   ·exact .inl ⟨j,by omega,h⟩
theorem zX {v w:Wd}(t:Pr v w) (n:Nat) (hn:n<=4):jA [.d v.d,.d w.d,.d (.int n)]=.ok (.l .fresh ((told v w n).map bP)):=by
 have v4:=t.v4
 have w4:=t.w4
 refine fX (sZ (c2 rfl rfl (FW t)) (sZ (c3 rfl rfl rfl (K7 n hn)) (bI (c1 rfl (yW v t.vo)) rfl (bI (c1 rfl (yW w t.wo)) rfl ?_))))
 have hp:jC 2 [1,3,4] (cJ (ao (g2 aX (af 0) (gC (.int 0))) aI)) (aE 0) fc (cJ (ao (g2 aX (af 2) (gC (.int 0))) aI)) (aE 1) (bB (gN (bf 4 K23.eY) (ao (af 3) (ao (af 4) (ao (bD (aA (af 0) (aA (af 1) aV))) (ao (bD (aA (af 0) (aA (af 1) aV))) aI)))))) (bD (aA (af 0) (aA (af 1) aV)))
   [some (.d v.d),some (.d w.d),some (.d (.int n)),some (.d (.dct (ia v) (ic v))),some (.d (.dct (ia w) (ic w))),none,none,none,none]=.ok (.l .fresh ((prs v w).map dP)):=by
  refine (Au (xs:=List.range v.m) (h:=dN) (h':=dN) (fun _=>List.range w.m) (fun a b=>ji v w (a,b) (a,b)) (fun a b=>dP (a,b)) (lJ (fO (two rfl rfl (kY _ _))) (by omega)) (by simp;omega) fun a ha=>⟨by simp;omega,fun z=>lJ (fO (two rfl rfl (kY _ _))) (by omega),fun b hb=>⟨?_,fun _=>y9 (bz (aJ rfl rfl (aJ rfl rfl bu)) t2) rfl⟩⟩).trans ?_
  ·have ha:a < v.m:=by simpa using ha
   have hb:b < w.m:=by simpa using hb
   exact qB (c4 rfl rfl (bz (aJ rfl rfl (aJ rfl rfl bu)) t2) (bz (aJ rfl rfl (aJ rfl rfl bu)) t2) (sN v w (a,b) (a,b) ⟨ha,hb⟩ ⟨ha,hb⟩))
  ·have e:((List.range v.m).flatMap fun a=>((List.range w.m).filter fun b=>ji v w (a,b) (a,b)).map fun b=>dP (a,b))=(prs v w).map dP:=by
    unfold prs fF
    rw [List.filter_flatMap,List.map_flatMap]
    congr 1
    funext a
    rw [List.filter_map,List.map_map]
    rfl
   rw [e]
 refine bI hp rfl ?_
 refine cW (FU rfl (iB (oA (aJ (bz bu (by decide)) rfl bu) (by show 1<=1000;decide)) rfl ?_))
 refine bI (oA (aJ (bz bu (by decide)) rfl bu) (by show 1<=1000;decide)) rfl ?_
 refine gY (qz (n:=n) rfl (by omega)) ?_
 refine nC (fun k env=>∃x:Option S,env=[some (.d v.d),some (.d w.d),some (.d (.int n)),some (.d (.dct (ia v) (ic v))),some (.d (.dct (ia w) (ic w))),some (.d (.lst ((prs v w).map dP))),some (.own ((LG v w k).map bP)),some (.own ((told v w k).map bP)),x]) ⟨none,rfl⟩ ?_ ?_
 ·rintro k hk _ ⟨x,rfl⟩
  have l1:=qD t k
  have l2:=qD t (k + 1)
  have l3:=nA t k (by omega)
  have p1:(16:Nat) ^ k<=16 ^ 3:=Nat.pow_le_pow_right (by decide) (by omega)
  have p2:(16:Nat) ^ (k + 1)<=16 ^ 4:=Nat.pow_le_pow_right (by decide) (by omega)
  have p3:(16:Nat) ^ 3=4096:=by decide
  have p4:(16:Nat) ^ 4=65536:=by decide
  refine ⟨_,rfl,cW (K5 rfl (iB (r:=.l .fresh ((LG v w (k + 1)).map bP)) ?_ rfl (Lh rfl rfl rfl (by simp only [List.length_map];omega) ⟨_,rfl,some (.d (.int k)),?_⟩)))⟩
  ·refine (Au (xs:=LG v w k) (h:=bP) (h':=dP) (fun _=>prs v w) (fun ah q=>gb v w ah q) (fun ah q=>bP (ah++[q])) rfl (by omega) fun ah OJ=>⟨by have:=pe t;omega,fun z=>rfl,fun q hq=>⟨?_,fun _=>y9 (two rfl (bz (aJ rfl rfl bu) (by show 1<=1000;decide)) (sF _ _ ?_)) ?_⟩⟩).trans ?_
   ·exact qB (c4 rfl rfl rfl rfl (Ml v w ah q (jM k OJ).2 (CH hq)))
   ·have:=(jM k OJ).1
    simp;omega
   ·show M.ok (D.tup (ah.map dP++[dP q]))=M.ok (D.tup ((ah++[q]).map dP))
    rw [List.map_append]
    rfl
   ·show M.ok (R.l .fresh _)=_
    show _=M.ok (R.l .fresh (((LG v w k).flatMap fun ah=>((prs v w).filter (gb v w ah)).map fun q=>ah++[q]).map bP))
    rw [List.map_flatMap]
    simp only [List.map_map]
    rfl
  ·show _=[_,_,_,_,_,_,_,some (S.own ((told v w k++LG v w (k + 1)).map bP)),_]
   rw [List.map_append]
   rfl
 ·rintro _ ⟨x,rfl⟩
  exact cg rfl rfl rfl
theorem w5:∀{xs ys:List Bool},cu (xs.map D.bl) (ys.map D.bl)=true↔xs=ys
 | [],[]=>by simp [cu]
 | [],_::_=>by simp [cu]
 | _::_,[]=>by simp [cu]
 | x::xs,y::ys=>by
  rw [List.map_cons,List.map_cons,gj,Bool.and_eq_true,w5]
  simp [aZ]
structure vS (v w:Wd) (p q:Nat×Nat):Prop where
 eq:p.1=q.1↔p.2=q.2
 ms:v.ms.map (fun r=>decide (p.1∈r.2))=w.ms.map fun r=>decide (p.2∈r.2)
 ar:v.ar.map (fun r=>decide ((p.1,q.1)∈r.2))=w.ar.map fun r=>decide ((p.2,q.2)∈r.2)
theorem lP (v w:Wd) (p q:Nat×Nat):ji v w p q=true↔vS v w p q:=by
 have e:ji v w p q=((p.1 == q.1) == (p.2 == q.2) && (cu ((v.ms.map fun r=>decide (p.1∈r.2)).map D.bl) ((w.ms.map fun r=>decide (p.2∈r.2)).map D.bl) && (cu ((v.ar.map fun r=>decide ((p.1,q.1)∈r.2)).map D.bl) ((w.ar.map fun r=>decide ((p.2,q.2)∈r.2)).map D.bl) && true))):=by
  unfold ji eO
  rw [jo,gj,gj,gj,jo,jo,cu]
  simp only [K55.inN,K55.IT,List.map_map,K55.nG]
  rfl
 rw [e,Bool.and_eq_true,Bool.and_eq_true,Bool.and_eq_true,w5,w5]
 have e1:((p.1 == q.1) == (p.2 == q.2))=true↔(p.1=q.1↔p.2=q.2):=by
  rw [beq_iff_eq,Bool.eq_iff_iff,beq_iff_eq,beq_iff_eq]
 rw [e1]
 exact ⟨fun ⟨a,b,c,_⟩=>⟨a,b,c⟩,fun ⟨a,b,c⟩=>⟨a,b,c,rfl⟩⟩
theorem Ji {p q:Nat×Nat}(h:pW p q=false):q.1 < p.1\/(q.1=p.1/\q.2 < p.2):=by
 unfold pW at h
 rw [jQ] at h
 by_cases c:(p.1:Int)=q.1
 ·rw [if_pos c,jQ] at h
  by_cases c2:(p.2:Int)=q.2
  ·rw [if_pos c2,nL] at h;cases h
  ·rw [if_neg c2,decide_eq_false_iff_not] at h
   exact .inr ⟨by omega,by omega⟩
 ·rw [if_neg c,decide_eq_false_iff_not] at h
  exact .inl (by omega)
theorem Jh {p q:Nat×Nat}(h:q.1 < p.1):pW p q=false:=by
 unfold pW
 rw [jQ,if_neg (by omega),decide_eq_false_iff_not]
 omega
structure Good (v w:Wd) (ps:List (Nat×Nat)):Prop where
 up:ps.Pairwise fun p q=>p.1 < q.1
 ag:∀p∈ps,∀q∈ps,vS v w p q
 rg:∀p∈ps,pJ v w p
theorem tP {α:Type}{ps:List α}{l:α}(h:ps.getLast?=some l):∃rs,ps=rs++[l]:=by
 rcases List.eq_nil_or_concat ps with rfl | ⟨ys,y,rfl⟩
 ·cases h
 ·rw [List.concat_eq_append] at h ⊢
  rw [List.getLast?_concat] at h
  cases h
  exact ⟨ys,rfl⟩
theorem zD {v w:Wd}{p:Nat×Nat}:p∈prs v w↔pJ v w p/\vS v w p p:=by
 unfold prs
 rw [List.mem_filter,qm,lP]
 exact Iff.rfl
theorem BZ {v w:Wd}{ps:List (Nat×Nat)}(g:Good v w ps){q:Nat×Nat}(hq:q∈prs v w):gb v w ps q=true↔Good v w (ps++[q]):=by
 obtain ⟨h1,h2⟩:=zD.mp hq
 unfold gb
 rw [Bool.and_eq_true,List.all_eq_true]
 constructor
 ·rintro ⟨a,b⟩
  have ag:∀r∈ps,vS v w q r/\vS v w r q:=fun r hr=>by
   have:=b r hr
   rw [Bool.and_eq_true,lP,lP] at this
   exact this
  have lt:∀r∈ps,r.1 < q.1:=by
   cases e:ps.getLast? with
   | none=>rw [List.getLast?_eq_none_iff.mp e];exact fun _ h=>by cases h
   | some l=>
    rw [e] at a
    have hl:l.1 < q.1:=by
     obtain ⟨rs,rfl⟩:=tP e
     rcases Ji (by simpa using a) with h | ⟨h,h'⟩
     ·exact h
     ·have:=(ag l (by simp)).1.eq
      omega
    obtain ⟨rs,rfl⟩:=tP e
    intro r hr
    rcases List.mem_append.mp hr with h | h
    ·have:=(List.pairwise_append.mp g.up).2.2 r h l (by simp)
     omega
    ·rw [List.mem_singleton.mp h];exact hl
  refine ⟨List.pairwise_append.mpr ⟨g.up,List.pairwise_singleton _ _,fun r hr x hx=>by rw [List.mem_singleton.mp hx];exact lt r hr⟩,fun r hr x hx=>?_,fun r hr=>?_⟩
  ·rcases List.mem_append.mp hr with hr | hr <;> rcases List.mem_append.mp hx with hx | hx
   ·exact g.ag r hr x hx
   ·rw [List.mem_singleton.mp hx];exact (ag r hr).2
   ·rw [List.mem_singleton.mp hr];exact (ag x hx).1
   ·rw [List.mem_singleton.mp hr,List.mem_singleton.mp hx];exact h2
  ·rcases List.mem_append.mp hr with hr | hr
   ·exact g.rg r hr
   ·rw [List.mem_singleton.mp hr];exact h1
 ·intro h
  refine ⟨?_,fun r hr=>?_⟩
  ·cases e:ps.getLast? with
   | none=>rfl
   | some l=>
    have hl:l∈ps:=by obtain ⟨rs,rfl⟩:=tP e;simp
    have:=(List.pairwise_append.mp h.up).2.2 l hl q (by simp)
    show (!pW q l)=true
    rw [Jh this]
    rfl
  ·rw [Bool.and_eq_true,lP,lP]
   exact ⟨h.ag q (by simp) r (by simp [hr]),h.ag r (by simp [hr]) q (by simp)⟩
theorem rW {v w:Wd}:∀(j:Nat){ps:List (Nat×Nat)},ps∈LG v w j↔ps.length=j/\Good v w ps
 | 0,ps=>by
  constructor
  ·intro h
   rw [show ps=[] from List.mem_singleton.mp h]
   exact ⟨rfl,.nil,(fun _ h=>nomatch h),(fun _ h=>nomatch h)⟩
  ·rintro ⟨h,_⟩
   rw [List.length_eq_zero_iff.mp h]
   exact List.mem_singleton.mpr rfl
 | j + 1,ps=>by
  constructor
  ·intro h
   obtain ⟨ah,h1,h2⟩:=List.mem_flatMap.mp h
   obtain ⟨q,h3,rfl⟩:=List.mem_map.mp h2
   obtain ⟨l,g⟩:=(rW j).mp h1
   obtain ⟨h4,h5⟩:=List.mem_filter.mp h3
   exact ⟨by rw [List.length_append,l];rfl,(BZ g h4).mp h5⟩
  ·rintro ⟨h,g⟩
   rcases List.eq_nil_or_concat ps with rfl | ⟨ah,q,rfl⟩
   ·cases h
   ·rw [List.concat_eq_append] at h g ⊢
    have ga:Good v w ah:=⟨(List.pairwise_append.mp g.up).1,fun p hp x hx=>g.ag p (by simp [hp]) x (by simp [hx]),fun p hp=>g.rg p (by simp [hp])⟩
    have hq:q∈prs v w:=zD.mpr ⟨g.rg q (by simp),g.ag q (by simp) q (by simp)⟩
    exact List.mem_flatMap.mpr ⟨ah,(rW j).mpr ⟨by simpa using h,ga⟩,List.mem_map.mpr ⟨q,List.mem_filter.mpr ⟨hq,(BZ ga hq).mpr g⟩,rfl⟩⟩
theorem vL (a b:Nat):dB (dN a) (dN b)=true↔a < b:=by
 rw [lZ,decide_eq_true_eq]
 omega
theorem vM (a b:Nat×Nat):dB (dP a) (dP b)=true↔kC a b:=by
 have e:dB (dP a) (dP b)=ir [dN a.1,dN a.2] [dN b.1,dN b.2]:=rfl
 rw [e,jq,K55.nG]
 unfold kC
 by_cases c:a.1=b.1
 ·rw [if_pos (by simpa using c),jq,K55.nG]
  by_cases c2:a.2=b.2
  ·rw [if_pos (by simpa using c2)]
   constructor
   ·intro h;cases h
   ·intro h;omega
  ·rw [if_neg (by simpa using c2)]
   rw [show dB (D.int a.2) (D.int b.2)=dB (dN a.2) (dN b.2) from rfl,vL]
   omega
 ·rw [if_neg (by simpa using c)]
  rw [show dB (D.int a.1) (D.int b.1)=dB (dN a.1) (dN b.1) from rfl,vL]
  omega
theorem sJ {α:Type}(h:α->D) (u:D->α) (hu:∀x,u (h x)=x) (R:α->α->Prop) (hR:∀a b,dB (h a) (h b)=true->R a b){l:List D}(hl:∀d∈l,∃x,d=h x) (up:l.Pairwise fun a b=>dB a b=true):(l.map u).Pairwise R:=by
 refine List.pairwise_map.mpr ((List.Pairwise.and_mem.mp up).imp ?_)
 rintro a b ⟨ha,hb,h1⟩
 obtain ⟨x,rfl⟩:=hl a ha
 obtain ⟨y,rfl⟩:=hl b hb
 rw [hu,hu]
 exact hR x y h1
theorem ML (xs:List Nat) (hl:xs.length < 64):∃ys:List Nat,gI [.d (.tup (xs.map dN))]=.ok (.l .fresh (ys.map dN))/\ys.length<=xs.length/\(∀y∈ys,y∈xs)/\ys.Pairwise (· < ·):=by
 have tot:∀d∈xs.map dN,jJ .i d:=fun d hd=>by obtain ⟨x,_,rfl⟩:=List.mem_map.mp hd;exact ⟨_,rfl⟩
 obtain ⟨h1,h2⟩:=uO (iE .i) tot
 have fm:∀d∈dc (xs.map dN),∃x,d=dN x:=fun d hd=>by obtain ⟨x,_,rfl⟩:=List.mem_map.mp (h2 d hd);exact ⟨x,rfl⟩
 refine ⟨(dc (xs.map dN)).map lD,?_,by simpa using h1,fun y hy=>?_,sJ dN lD sH _ (fun a b h=>(vL a b).mp h) fm (qA (iE .i) tot).1⟩
 ·rw [MN xs hl,back dN lD sH fm]
 ·obtain ⟨d,hd,rfl⟩:=List.mem_map.mp hy
  obtain ⟨x,hx,rfl⟩:=List.mem_map.mp (h2 d hd)
  exact hx
theorem MM (xs:List (Nat×Nat)) (hl:xs.length < 64):∃ys:List (Nat×Nat),gI [.d (.tup (xs.map dP))]=.ok (.l .fresh (ys.map dP))/\ys.length<=xs.length/\(∀y∈ys,y∈xs)/\ys.Pairwise kC:=by
 have tot:∀d∈xs.map dP,jJ pF d:=fun d hd=>by obtain ⟨x,_,rfl⟩:=List.mem_map.mp hd;exact rK x
 obtain ⟨h1,h2⟩:=uO (iE pF) tot
 have fm:∀d∈dc (xs.map dP),∃x,d=dP x:=fun d hd=>by obtain ⟨x,_,rfl⟩:=List.mem_map.mp (h2 d hd);exact ⟨x,rfl⟩
 refine ⟨(dc (xs.map dP)).map nN,?_,by simpa using h1,fun y hy=>?_,sJ dP nN sI _ (fun a b h=>(vM a b).mp h) fm (qA (iE pF) tot).1⟩
 ·rw [MO xs hl,back dP nN sI fm]
 ·obtain ⟨d,hd,rfl⟩:=List.mem_map.mp hy
  obtain ⟨x,hx,rfl⟩:=List.mem_map.mp (h2 d hd)
  exact hx
theorem rq {α:Type}(h:α->D) (P:α->Prop) (Sr:List α->Prop) (hf:∀xs p,Sr xs->Sr (xs.filter p)) (n:Nat) (hn:n<=40) (hd:∀x,dep (h x)<=1) (b:Bool) (hb:∀x,oQ (kL (h x)) "tuple"=b)
  (hs:∀xs:List α,xs.length < 64->∃ys:List α,gI [.d (.tup (xs.map h))]=.ok (.l .fresh (ys.map h))/\ys.length<=xs.length/\(∀y∈ys,y∈xs)/\Sr ys)
  (L:List (Str×List α)) (hL:By P n L) (hS:∀r∈L,Sr r.2) (l3:L.length<=3) (k:Nat) (hk:k < L.length) (th:α) (ht:P th) (w c:Option S) (m:D) (ms ar:D):
  ∃L':List (Str×List α),By P (n + 1) L'/\(∀r∈L',Sr r.2)/\L'.map Prod.fst=L.map Prod.fst/\L'.length=L.length/\LO [w,c,some (.d m),some (.d ms),some (.d ar),some (.d (.int k)),some (.d (h th)),some (.d (.tup (L.map (c_ h)))),none,none,none]=.ok (.rt (.d (if b=true then .tup [m,ms,.tup (L'.map (c_ h))] else .tup [m,.tup (L'.map (c_ h)),ar]))):=by
 obtain ⟨a1,a2⟩:=hL.all L[k] (List.getElem_mem hk)
 obtain ⟨ys,e1,e2,e3,e4⟩:=hs (L[k].2++[th]) (by simp;omega)
 rw [List.length_append] at e2
 have e2:ys.length<=n + 1:=by simp at e2;omega
 have e3:∀y∈ys,P y:=fun y hy=>by
  rcases List.mem_append.mp (e3 y hy) with h | h
  ·exact a2 y h
  ·rw [List.mem_singleton.mp h];exact ht
 have dp:deps (L[k].2.map h)<=60:=eU fun d hd'=>by
  obtain ⟨x,_,rfl⟩:=List.mem_map.mp hd'
  have:=hd x;omega
 have dt:=hd th
 have nx:∃now:List α,now.length<=n + 1/\(∀y∈now,P y)/\Sr now/\∀(Q:O->Prop) (u:G O),Wp (u [w,c,some (.d m),some (.d ms),some (.d ar),some (.d (.int k)),some (.d (h th)),some (.d (.tup (L.map (c_ h)))),some (.d (.str L[k].1)),some (.d (.tup (L[k].2.map h))),some (.d (.tup (now.map h)))]) Q->
   Wp (aL (bJ (bB (g2 (jj false) (af 6) (af 9))) (bw 10 (gN cM (ao (b_ 1 [6] (jb (af 9)) (aE 0) (bB (g2 (cR true) (af 0) (af 1))) (af 0)) aI))) cX) u [w,c,some (.d m),some (.d ms),some (.d ar),some (.d (.int k)),some (.d (h th)),some (.d (.tup (L.map (c_ h)))),some (.d (.str L[k].1)),some (.d (.tup (L[k].2.map h))),some (.d (.tup (ys.map h)))]) Q:=by
  have hin:bB (g2 (jj false) (af 6) (af 9)) [w,c,some (.d m),some (.d ms),some (.d ar),some (.d (.int k)),some (.d (h th)),some (.d (.tup (L.map (c_ h)))),some (.d (.str L[k].1)),some (.d (.tup (L[k].2.map h))),some (.d (.tup (ys.map h)))]=.ok (inD (h th) (L[k].2.map h)):=by
   show (g2 _ _ _ _ >>= _)=_
   rw [two (x:=.d (h th)) rfl rfl (m9 false _ _ dp (by omega))]
   rfl
  cases q:inD (h th) (L[k].2.map h) with
  | true=>
   rw [q] at hin
   refine ⟨L[k].2.filter (fun x=>!aZ (h x) (h th)),Nat.le_trans (List.length_filter_le _ _) (by omega),fun y hy=>a2 y (List.mem_filter.mp hy).1,hf _ _ (hS _ (List.getElem_mem hk)),fun Q u hu=>?_⟩
   refine cW (jx hin (iB (n1 (As (xs:=L[k].2) (h:=h) (fun x=>!aZ (h x) (h th)) h rfl (by omega) fun x _=>⟨?_,fun _=>⟨_,rfl,rfl⟩⟩) rfl) rfl hu))
   have:=hd x
   show (g2 _ _ _ _ >>= _)=_
   rw [two (x:=.d (h x)) (y:=.d (h th)) rfl rfl (mY _ _ _ (by show dep (h x)<=60;omega) (by show dep (h th)<=60;omega))]
   rfl
  | false=>
   rw [q] at hin
   exact ⟨ys,e2,e3,e4,fun Q u hu=>dh hin hu⟩
 obtain ⟨now,n1',n2,nS,n3⟩:=nx
 refine ⟨L.take k++[(L[k].1,now)]++L.drop (k + 1),⟨fun r hr=>?_⟩,fun r hr=>?_,?_,?_,?_⟩
 ·simp only [List.mem_append,List.mem_singleton] at hr
  rcases hr with (hr | hr) | hr
  ·have:=hL.all r (List.mem_of_mem_take hr)
   exact ⟨by omega,this.2⟩
  ·rw [hr];exact ⟨n1',n2⟩
  ·have:=hL.all r (List.mem_of_mem_drop hr)
   exact ⟨by omega,this.2⟩
 ·simp only [List.mem_append,List.mem_singleton] at hr
  rcases hr with (hr | hr) | hr
  ·exact hS r (List.mem_of_mem_take hr)
  ·rw [hr];exact nS
  ·exact hS r (List.mem_of_mem_drop hr)
 ·have e:L=L.take k++[L[k]]++L.drop (k + 1):=by
   rw [List.append_assoc,List.singleton_append,List.getElem_cons_drop,List.take_append_drop]
  conv=>rhs;rw [e]
  simp only [List.map_append,List.map_cons,List.map_nil]
 ·simp;omega
 ·have ix:aX (.d (.tup (L.map (c_ h)))) (.d (.int k))=.ok (.d (c_ h L[k])):=iP (by rw [List.getElem?_map,List.getElem?_eq_getElem hk];rfl)
  have hc1:dI (.d (.tup ((L.map (c_ h)).take k))) (.d (.tup [c_ h (L[k].1,now)]))=.ok (.d (.tup ((L.map (c_ h)).take k++[c_ h (L[k].1,now)]))):=sF _ _ (by simp;omega)
  have hc2:dI (.d (.tup ((L.map (c_ h)).take k++[c_ h (L[k].1,now)]))) (.d (.tup ((L.map (c_ h)).drop (k + 1))))=.ok (.d (.tup ((L.map (c_ h)).take k++[c_ h (L[k].1,now)]++(L.map (c_ h)).drop (k + 1)))):=sF _ _ (by simp;omega)
  have hm:(L.map (c_ h)).take k++[c_ h (L[k].1,now)]++(L.map (c_ h)).drop (k + 1)=(L.take k++[(L[k].1,now)]++L.drop (k + 1)).map (c_ h):=by
   rw [List.map_append,List.map_append,List.map_take,List.map_drop];rfl
  rw [hm] at hc2
  refine Wp.eq (sy (two rfl rfl ix) rfl rfl (bI (n1 (n1 (two rfl (bz (aJ rfl rfl bu) (by show 1<=1000;decide)) (sF _ _ (by simp;omega))) (by rw [show L[k].2.map h++[h th]=(L[k].2++[th]).map h by rw [List.map_append];rfl];exact e1)) rfl) rfl (n3 _ _ ?_)))
  refine bI (two (x:=.d (.tup ((L.map (c_ h)).take k++[c_ h (L[k].1,now)]))) (y:=.d (.tup ((L.map (c_ h)).drop (k + 1)))) (two (x:=.d (.tup ((L.map (c_ h)).take k))) ?_ (bz (aJ (bz (aJ rfl rfl (aJ rfl rfl bu)) t2) rfl bu) (by show 1<=1000;decide)) hc1) ?_ hc2) rfl ?_
  ·show M.ok (R.d (.tup (cutD (L.map (c_ h)) none (some (k:Int)))))=_
   rw [IE _ _ (by simp;omega)]
  ·show M.ok (R.d (.tup (cutD (L.map (c_ h)) (some ((k:Int) + 1)) none)))=_
   rw [show ((k:Int) + 1)=((k + 1:Nat):Int) by omega,DI _ _ (by simp;omega)]
  ·have hb':=hb th
   cases b with
   | true=>exact cW (jx (by show M.ok (oQ (kL (h th)) "tuple")=_;rw [hb']) (cg (bz (aJ rfl rfl (aJ rfl rfl (aJ rfl rfl bu))) (by show 3<=1000;decide)) rfl rfl))
   | false=>exact dh (by show M.ok (oQ (kL (h th)) "tuple")=_;rw [hb']) (cg (bz (aJ rfl rfl (aJ rfl rfl (aJ rfl rfl bu))) (by show 3<=1000;decide)) rfl rfl)
structure qK (u:Wd):Prop where
 mp:∀r∈u.ms,r.2.Pairwise (· < ·)
 ap:∀r∈u.ar,r.2.Pairwise kC
structure Ff (n:Nat) (w u:Wd):Prop where
 ok:lO u
 inn:kN n u
 srt:qK u
 m:u.m=w.m
 mn:u.ms.map Prod.fst=w.ms.map Prod.fst
 an:u.ar.map Prod.fst=w.ar.map Prod.fst
theorem Ax {α:Type}{l:List α}{j:Nat}(h:j < l.length):(l[j]::l.eraseIdx j).Perm l:=by
 have e2:l=l.take j++l[j]::l.drop (j + 1):=by rw [List.getElem_cons_drop,List.take_append_drop]
 rw [List.eraseIdx_eq_take_drop_succ]
 exact List.perm_middle.symm.trans (List.Perm.of_eq e2.symm)
theorem Dq (c:Int) (m:Nat) (hm:m<=8):∃ps:List Nat,iu [.d (.int c),.d (.int m)]=.ok (.d (.tup (ps.map dN)))/\ps.Perm (List.range m):=by
 have key:Wp (iu [.d (.int c),.d (.int m)]) fun r=>∃ps:List Nat,r=.d (.tup (ps.map dN))/\ps.Perm (List.range m):=by
  refine pD (bI (r:=.l .fresh ((List.range m).map dN)) ?_ rfl (bI rfl rfl (gY (qz (n:=m) rfl (by omega)) ?_)))
  ·show (if below 16777216 (m:Int) then M.ok (R.l .fresh (dO 0 (m:Int).toNat)) else .bad)=_
   rw [if_pos (by unfold below;simp;omega),Int.toNat_natCast,KH]
  ·refine nC (fun k env=>∃(c:Int) (ls ps:List Nat) (x:Option S),env=[some (.d (.int c)),some (.d (.int m)),some (.own (ls.map dN)),some (.own (ps.map dN)),x]/\ls.length + k=m/\ps.length=k/\(ps++ls).Perm (List.range m)) ⟨c,List.range m,[],none,rfl,by simp,rfl,.refl _⟩ ?_ ?_
   ·rintro k hk _ ⟨c,ls,ps,x,rfl,l1,l2,m1⟩
    have hlen:(0:Int) < ((ls.map dN).length:Nat):=by simp;omega
    obtain ⟨j,hj⟩:∃j:Nat,c % ((ls.map dN).length:Nat)=j:=⟨(c % ((ls.map dN).length:Nat)).toNat,by have:=Int.emod_nonneg c (b:=((ls.map dN).length:Nat)) (by omega);omega⟩
    have hjl:j < (ls.map dN).length:=by
     have:=Int.emod_lt_of_pos c hlen
     omega
    have NY:j < ls.length:=by simpa using hjl
    refine ⟨_,rfl,cW (D4 (k:=j) rfl rfl (by decide) ((two rfl (n1 rfl rfl) (iD _ _ hlen)).trans (by rw [hj])) hjl (by simp;omega) (by simp;omega) ?_)⟩
    refine iB (two rfl rfl (pC _ 9 (by decide) (by decide))) rfl ⟨_,rfl,c / 9,ls.eraseIdx j,ps++[ls[j]],some (.d (.int k)),?_,?_,?_,?_⟩
    ·rw [List.map_append,List.getElem_map,show (ls.eraseIdx j).map dN=(ls.map dN).eraseIdx j by simp [List.eraseIdx_eq_take_drop_succ,List.map_take,List.map_drop]]
     rfl
    ·rw [List.length_eraseIdx,if_pos NY];omega
    ·rw [List.length_append];simp;omega
    ·rw [List.append_assoc,List.singleton_append]
     exact ((Ax NY).append_left ps).trans m1
   ·rintro _ ⟨c,ls,ps,x,rfl,l1,l2,m1⟩
    have l0:ls=[]:=List.length_eq_zero_iff.mp (by omega)
    rw [l0,List.append_nil] at m1
    exact cg rfl rfl ⟨_,rfl,ps,rfl,m1⟩
 obtain ⟨_,h,ps,rfl,hk⟩:=key
 exact ⟨ps,h,hk⟩
theorem getD_at {ps:List Nat}{k:Nat}(h:k < ps.length):ps.getD k 0=ps[k]:=by simp [List.getD,h]
theorem rV {α β:Type}{f:α->β}{xs:List α}(nd:xs.Nodup) (inj:∀a∈xs,∀b∈xs,f a=f b->a=b):(xs.map f).Nodup:=by
 refine List.pairwise_map.mpr ((List.Pairwise.and_mem.mp nd).imp ?_)
 rintro a b ⟨ha,hb,h⟩ e
 exact h (inj a ha b hb e)
theorem Lk {xs:List Nat}(h:xs.Pairwise (· < ·)):xs.Nodup:=h.imp fun h e=>by omega
theorem Jw {xs:List (Nat×Nat)}(h:xs.Pairwise kC):xs.Nodup:=h.imp fun {a b} h e=>by subst e;unfold kC at h;omega
theorem qq {ps:List Nat}{m:Nat}(pm:ps.Perm (List.range m)){a b:Nat}(ha:a < m) (hb:b < m) (e:ps.getD a 0=ps.getD b 0):a=b:=by
 have l:ps.length=m:=by rw [pm.length_eq,List.length_range]
 rw [getD_at (by omega),getD_at (by omega)] at e
 exact (List.getElem_inj (pm.nodup_iff.mpr List.nodup_range)).mp e
theorem MJ {xs:List Nat}(nd:xs.Nodup):((bq (xs.map dN)).map lD).Pairwise (· < ·):=
 sJ dN lD sH _ (fun a b h=>(vL a b).mp h) (fun d hd=>by obtain ⟨x,_,rfl⟩:=List.mem_map.mp (ly hd);exact ⟨x,rfl⟩) (mF (iE .i) (fun d hd=>by obtain ⟨x,_,rfl⟩:=List.mem_map.mp hd;exact ⟨_,rfl⟩) (rV nd fun a _ b _ e=>by have:=congrArg lD e;exact this))
theorem MK {xs:List (Nat×Nat)}(nd:xs.Nodup):((bq (xs.map dP)).map nN).Pairwise kC:=
 sJ dP nN sI _ (fun a b h=>(vM a b).mp h) (fun d hd=>by obtain ⟨x,_,rfl⟩:=List.mem_map.mp (ly hd);exact ⟨x,rfl⟩) (mF (iE pF) (fun d hd=>by obtain ⟨x,_,rfl⟩:=List.mem_map.mp hd;exact rK x) (rV nd fun a _ b _ e=>by have:=congrArg nN e;exact this))
theorem KU (w:Wd) (hw:lO w) (n:Nat) (hb:kN n w) (hs:qK w) (ps:List Nat) (pm:ps.Perm (List.range w.m)):lO (kK w ps)/\kN n (kK w ps)/\qK (kK w ps)/\(kK w ps).m=w.m/\(kK w ps).ms.map Prod.fst=w.ms.map Prod.fst/\(kK w ps).ar.map Prod.fst=w.ar.map Prod.fst:=by
 have l:ps.length=w.m:=by rw [pm.length_eq,List.length_range]
 obtain ⟨h1,h2,h3,h4,h5⟩:=Ma w hw n hb ps l fun p hp=>by simpa using pm.mem_iff.mp hp
 refine ⟨h1,h2,⟨fun r hr=>?_,fun r hr=>?_⟩,h3,?_,?_⟩
 ·obtain ⟨q,hq,rfl⟩:=List.mem_map.mp (show r∈w.ms.map _ from hr)
  exact MJ (rV (Lk (hs.mp q hq)) fun a ha b hb' e=>qq pm ((hb.mp q hq).2 a ha) ((hb.mp q hq).2 b hb') e)
 ·obtain ⟨q,hq,rfl⟩:=List.mem_map.mp (show r∈w.ar.map _ from hr)
  refine MK (rV (Jw (hs.ap q hq)) fun a ha b hb' e=>?_)
  have ra:=(hb.ap q hq).2 a ha
  have rb:=(hb.ap q hq).2 b hb'
  exact Prod.ext (qq pm ra.1 rb.1 (congrArg Prod.fst e)) (qq pm ra.2 rb.2 (congrArg Prod.snd e))
 ·show (w.ms.map _).map _=_
  rw [List.map_map]
  rfl
 ·show (w.ar.map _).map _=_
  rw [List.map_map]
  rfl
theorem qC (w:Wd) (hw:lO w) (n:Nat) (hn:n<=40) (hb:kN n w) (hs:qK w) (c:Int) (hc:0<=c):∃u:Wd,eT [.d w.d,.d (.int c)]=.ok (.d u.d)/\Ff (n + 1) w u:=by
 have ml:=hw.ml
 have al:=hw.al
 have lo:=hw.lo
 have key:Wp (eT [.d w.d,.d (.int c)]) fun r=>∃u:Wd,r=.d u.d/\Ff (n + 1) w u:=by
  refine pD (sy rfl rfl rfl ?_)
  have hadd:dI (.d (.int ((w.ms.map gR).length:Nat))) (.d (.int ((w.ar.map je).length:Nat)))=.ok (.d (.int ((w.ms.length + w.ar.length:Nat):Int))):=by rw [fp,List.length_map,List.length_map,<-Int.natCast_add]
  by_cases c0:w.ms.length + w.ar.length=0
  ·refine cW (jx ?_ (cg rfl rfl ⟨_,rfl,w,rfl,hw,⟨fun r hr=>⟨by have:=(hb.mp r hr).1;omega,(hb.mp r hr).2⟩,fun r hr=>⟨by have:=(hb.ap r hr).1;omega,(hb.ap r hr).2⟩⟩,hs,rfl,rfl,rfl⟩))
   show (g2 _ _ _ _ >>= _)=_
   rw [two (two (n1 rfl rfl) (n1 rfl rfl) hadd) rfl (eq_int _ _ _),c0]
   rfl
  ·have hs':(0:Int) < ((w.ms.length + w.ar.length:Nat):Int):=by omega
   have hm:(0:Int) < (w.m:Int):=by omega
   refine dh ?_ (bI (two rfl (two (n1 rfl rfl) (n1 rfl rfl) hadd) (iD _ _ hs')) rfl (bI (two (two rfl rfl (pC _ 6 (by decide) (by decide))) rfl (iD _ _ hm)) rfl (bI rfl rfl ?_)))
   ·show (g2 _ _ _ _ >>= _)=_
    rw [two (two (n1 rfl rfl) (n1 rfl rfl) hadd) rfl (eq_int _ _ _)]
    show M.ok ((((w.ms.length + w.ar.length:Nat):Int)) == 0)=_
    rw [beq_eq_false_iff_ne.mpr (by omega)]
   obtain ⟨k,hk⟩:=rX (Int.emod_nonneg c (b:=((w.ms.length + w.ar.length:Nat):Int)) (by omega))
   have OT:=Int.emod_lt_of_pos c hs'
   obtain ⟨p,hp⟩:=rX (Int.emod_nonneg (c / 6) (b:=(w.m:Int)) (by omega))
   have hpl:=Int.emod_lt_of_pos (c / 6) hm
   obtain ⟨q,hq⟩:=rX (Int.emod_nonneg (c / 48) (b:=(w.m:Int)) (by omega))
   have OX:=Int.emod_lt_of_pos (c / 48) hm
   rw [hk] at OT
   rw [hp] at hpl
   rw [hq] at OX
   rw [hk,hp]
   by_cases ck:k < w.ms.length
   ·obtain ⟨L',o1,oS,oN,o2,o3⟩:=rq dN (fun p=>p < w.m) (fun xs=>xs.Pairwise (· < ·)) (fun xs p h=>h.filter p) n hn (fun _=>Nat.zero_le _) false (fun _=>rfl) ML w.ms ⟨hb.mp⟩ hs.mp ml k ck p (by show p < w.m;omega) (some (.d w.d)) (some (.d (.int c))) (.int w.m) (.tup (w.ms.map gR)) (.tup (w.ar.map je))
    refine dh ?_ (Wp.of o3 ⟨_,rfl,⟨w.m,L',w.ar⟩,rfl,⟨lo,hw.hi,by show L'.length<=3;omega,al⟩,⟨o1.all,fun r hr=>⟨by have:=(hb.ap r hr).1;omega,(hb.ap r hr).2⟩⟩,⟨oS,hs.ap⟩,rfl,oN,rfl⟩)
    show M.ok (decide ((((w.ms.map gR).length:Nat):Int)<=(k:Int)))=_
    rw [decide_eq_false (by simp;omega)]
   ·obtain ⟨L',o1,oS,oN,o2,o3⟩:=rq dP (fun p=>p.1 < w.m/\p.2 < w.m) (fun xs=>xs.Pairwise kC) (fun xs p h=>h.filter p) n hn (fun _=>(by decide:(1:Nat)<=1)) true (fun _=>rfl) MM w.ar ⟨hb.ap⟩ hs.ap al (k - w.ms.length) (by omega) (p,q) (by show p < w.m/\q < w.m;omega) (some (.d w.d)) (some (.d (.int c))) (.int w.m) (.tup (w.ms.map gR)) (.tup (w.ar.map je))
    refine cW (jx ?_ (bI (x:=.d (.int ((k - w.ms.length:Nat):Int))) (two rfl (n1 rfl rfl) rfl) ?_ (bI (x:=.d (dP (p,q))) (bz (aJ rfl rfl (aJ (two (two rfl rfl (pC _ 48 (by decide) (by decide))) rfl (iD _ _ hm)) rfl bu)) t2) ?_ (iB rfl rfl (Wp.of o3 ⟨_,rfl,⟨w.m,w.ms,L'⟩,rfl,⟨lo,hw.hi,ml,by show L'.length<=3;omega⟩,⟨fun r hr=>⟨by have:=(hb.mp r hr).1;omega,(hb.mp r hr).2⟩,o1.all⟩,⟨hs.mp,oS⟩,rfl,rfl,oN⟩)))))
    ·show M.ok (decide ((((w.ms.map gR).length:Nat):Int)<=(k:Int)))=_
     rw [decide_eq_true (by simp;omega)]
    ·show M.ok (S.d (.int ((k:Int) - (((w.ms.map gR).length:Nat):Int))))=_
     rw [List.length_map,show (k:Int) - (w.ms.length:Int)=((k - w.ms.length:Nat):Int) by omega]
    ·show M.ok (S.d (.tup [.int p,.int (c / 48 % w.m)]))=_
     rw [hq]
 obtain ⟨_,h,u,rfl,hu⟩:=key
 exact ⟨u,h,hu⟩
theorem Ih (ns:List Int) (sz:List Nat) (hz:sz.length=8) (hs:∀n∈sz,1<=n/\n<=4):∃v w:Wd,jz [.bor (ns.map D.int),.bor (sz.map dN)]=.ok (.d (.tup [v.d,w.d]))/\Pr v w/\kN 30 v/\kN 30 w/\qK v/\qK w:=by
 have c0:=K51.kg ns 0
 have c1':=K51.kg ns 1
 have c2':=K51.kg ns 2
 have c9:=K51.kg ns 9
 have c10:=K51.kg ns 10
 have key:Wp (jz [.bor (ns.map D.int),.bor (sz.map dN)]) fun r=>∃v w:Wd,r=.d (.tup [v.d,w.d])/\Pr v w/\kN 30 v/\kN 30 w/\qK v/\qK w:=by
  refine pD (bI (c2 rfl rfl (K51.Bo ns 0)) rfl (bI (c2 rfl rfl (gS ns _ 1 rfl)) rfl ?_))
  obtain ⟨a,ha,ea⟩:=lV (xs:=[1,0,2,3]) (h:=dN) (.l .fresh ([1,0,2,3].map dN)) rfl (K51.cV ns 1 % 4) (by omega) (by show _ < (4:Int);omega)
  obtain ⟨b,hb,eb⟩:=lV (xs:=[1,2,0,1,3]) (h:=dN) (.l .fresh ([1,2,0,1,3].map dN)) rfl (K51.cV ns 1 / 4 % 5) (by omega) (by show _ < (5:Int);omega)
  have ha:a<=3:=by simp at ha;omega
  have hb:b<=3:=by simp at hb;omega
  obtain ⟨A,hA,lA⟩:=K51.yV (K51.cV ns 1 / 20) (by omega) a ha
  obtain ⟨B,hB,lB⟩:=K51.yV (K51.cV ns 2) (by omega) b hb
  refine bI (c2 rfl (two (oA rfl (by show 4<=1000;decide)) rfl ea) hA) rfl ?_
  refine cW (FU rfl (iB (bz (aJ rfl rfl (aJ (c2 (c2 rfl rfl (gS ns _ 2 rfl)) (two (oA rfl (by show 5<=1000;decide)) rfl eb) hB) rfl bu)) (by show 2<=1000;decide)) rfl ?_))
  have mk:∀(m:Nat),1<=m/\m<=4->∀(j:Nat),∃w:Wd,K51.fq [.d (.tup [.lst (A.map .str),.lst (B.map .str)]),.d (.int m),.bor ((List.range 6).map fun k=>.int (K51.cV ns (j + k)))]=.ok (.d w.d)/\lO w/\kN 16 w/\qK w/\w.m=m/\w.ms.map Prod.fst=A/\w.ar.map Prod.fst=B:=fun m hm j=>by
   obtain ⟨ms,rs,hw,h1,h2,h3,h4⟩:=K51.Ij m hm.1 (by omega) A B (by omega) (by omega) ((List.range 6).map fun k=>K51.cV ns (j + k)) rfl
   rw [List.map_map] at hw
   have l1:=congrArg List.length h1
   have l2:=congrArg List.length h2
   rw [List.length_map] at l1 l2
   exact ⟨⟨m,ms,rs⟩,hw,⟨hm.1,by show m<=8;omega,by show ms.length<=3;omega,by show rs.length<=3;omega⟩,⟨fun r hr=>⟨by have:=(h3 r hr).1;omega,(h3 r hr).2.2⟩,fun r hr=>⟨K55.pe (h4 r hr) hm.2,(h4 r hr).2.2⟩⟩,⟨fun r hr=>(h3 r hr).2.1,fun r hr=>(h4 r hr).2.1⟩,rfl,h1,h2⟩
  obtain ⟨m,hm,em⟩:=lV (xs:=sz) (h:=dN) (.l .bor (sz.map dN)) rfl (K51.cV ns 0 % 8) (by omega) (by omega)
  obtain ⟨v,hv,vo,vb,vs,vm,vl,va⟩:=mk m (hs m hm) 3
  refine bI (c3 rfl (two rfl rfl em) (DF (xs:=List.range 6) (h:=dN) (fun k=>.int (K51.cV ns (3 + k))) (lJ rfl (by decide)) (by decide) fun k hk=>⟨_,c2 rfl (two rfl rfl (yj _ _)) (gS ns _ (3 + k) (by simp)),rfl⟩) hv) rfl ?_
  refine bI (two (two rfl rfl (pC _ 8 (by decide) (by decide))) rfl (iD _ 4 (by decide))) rfl ?_
  have up:∀{n:Nat}{w:Wd},n<=30->kN n w->M4 w:=fun hn h=>⟨fun r hr=>⟨by have:=(h.mp r hr).1;omega,(h.mp r hr).2⟩,fun r hr=>⟨by have:=(h.ap r hr).1;omega,(h.ap r hr).2⟩⟩
  have vm4:=(hs m hm).2
  have OY:=Int.emod_nonneg (K51.cV ns 0 / 8) (b:=4) (by decide)
  have OZ:=Int.emod_lt_of_pos (K51.cV ns 0 / 8) (b:=4) (by decide)
  generalize K51.cV ns 0 / 8 % 4=wy at OY OZ
  by_cases cw:wy=0
  ·subst cw
   obtain ⟨m2,hm2,em2⟩:=lV (xs:=sz) (h:=dN) (.l .bor (sz.map dN)) rfl (K51.cV ns 0 / 32 % 8) (by omega) (by omega)
   obtain ⟨w,hw,wo,wb,ws,wm,wl,wa⟩:=mk m2 (hs m2 hm2) 9
   have:=(hs m2 hm2).2
   exact cW (jx rfl (cg (bz (aJ rfl rfl (aJ (c3 rfl (two rfl (two (two rfl rfl (pC _ 32 (by decide) (by decide))) rfl (iD _ 8 (by decide))) em2) (DF (xs:=List.range 6) (h:=dN) (fun k=>.int (K51.cV ns (9 + k))) (lJ rfl (by decide)) (by decide) fun k hk=>⟨_,c2 rfl (two rfl rfl (yj _ _)) (gS ns _ (9 + k) (by simp)),rfl⟩) hw) rfl bu)) t2) rfl ⟨_,rfl,v,w,rfl,⟨vo,wo,by omega,by omega,by rw [vl,wl],by rw [va,wa]⟩,up (by decide) vb,up (by decide) wb,vs,ws⟩))
  ·refine dh ?_ ?_
   ·show M.ok (wy == 0)=_
    rw [beq_eq_false_iff_ne.mpr cw]
   obtain ⟨ps,hps,pm⟩:=Dq (K51.cV ns 15) v.m vo.hi
   have lps:ps.length=v.m:=by rw [pm.length_eq,List.length_range]
   have ht:=Dr v vo 16 (by decide) vb ps lps
   obtain ⟨to,tb,ts,tm,tl,ta⟩:=KU v vo 16 vb vs ps pm
   refine bI (c2 rfl (c2 (c2 rfl rfl (gS ns _ 15 rfl)) (two rfl rfl (kY _ _)) hps) ht) rfl ?_
   obtain ⟨u1,f1,k1⟩:=qC (kK v ps) to 16 (by decide) tb ts (K51.cV ns 9) c9
   obtain ⟨u2,f2,k2⟩:=qC u1 k1.ok 17 (by decide) k1.inn k1.srt (K51.cV ns 10) c10
   have a1:=k1.m
   have a2:=k1.mn
   have a3:=k1.an
   have b1:=k2.m
   have b2:=k2.mn
   have b3:=k2.an
   have w3:wy=1\/wy=2\/wy=3:=by omega
   rcases w3 with rfl | rfl | rfl
   ·exact dh rfl (dh rfl (cg (bz (aJ rfl rfl (aJ rfl rfl bu)) t2) rfl ⟨_,rfl,v,kK v ps,rfl,⟨vo,to,by omega,by omega,tl.symm,ta.symm⟩,up (by decide) vb,up (by decide) tb,vs,ts⟩))
   ·exact cW (jx rfl (iB (c2 rfl (c2 rfl rfl (gS ns _ 9 rfl)) f1) rfl (dh rfl (cg (bz (aJ rfl rfl (aJ rfl rfl bu)) t2) rfl ⟨_,rfl,v,u1,rfl,⟨vo,k1.ok,by omega,by omega,by rw [a2,tl],by rw [a3,ta]⟩,up (by decide) vb,up (by decide) k1.inn,vs,k1.srt⟩))))
   ·exact cW (jx rfl (iB (c2 rfl (c2 rfl rfl (gS ns _ 9 rfl)) f1) rfl (cW (jx rfl (iB (c2 rfl (c2 rfl rfl (gS ns _ 10 rfl)) f2) rfl (cg (bz (aJ rfl rfl (aJ rfl rfl bu)) t2) rfl ⟨_,rfl,v,u2,rfl,⟨vo,k2.ok,by omega,by omega,by rw [b2,a2,tl],by rw [b3,a3,ta]⟩,up (by decide) vb,up (by decide) k2.inn,vs,k2.srt⟩))))))
 obtain ⟨_,h,v,w,rfl,hk⟩:=key
 exact ⟨v,w,h,hk⟩
end K23
namespace DL
open PySem PySem.Spec PyProof.Rows L2 DX
section
variable {X:Cx}{c:C}{e ke a b:Expr}{g gk ga gb:G R}{pos:Pos}
def AF (i:Nat):G O:=fun env=>.ok (.nx (env.set i (some (.dk [] []))))
theorem ED:PE X (.Dict [] [] pos) (fun σ H Q=>∀p,H p=none->(p == sysModules)=false->Q (.ref p) (upd H p (pP p []))):=fun pins s σ H Q I w=>
 wpAny_Dict_empty ⟨.ref s.heap.objs.size,_,I.laid (a:=s.heap.objs.size) (o:=pP s.heap.objs.size []) (t':=s.toks) (fun _ _ q=>Heap.get?_push_of_some _ q) (Nat.le_refl _) ⟨⟨_,#[],0,Heap.get?_push_size _ rfl,⟨rfl,rfl,rfl⟩,rfl,.nil⟩,⟨_,Heap.get?_push_size _ rfl⟩,fun h1 h2 ⟨o,es,ep,a1,a2⟩ e=>⟨o,es,ep,e o a1,a2⟩⟩,rfl,w _ (I.hok.fresh (Nat.le_refl _)) (beq_eq_false_iff_ne.mpr (Ne.symm (Nat.ne_of_lt (BF I))))⟩
theorem Ep (i:Nat){x:Str}{pos' p0:Pos}(hN:X.N.Nodup) (hi:X.N[i]?=some x:=by rfl) (hx:Loc X.env.scope x:=by first | exact Or.inl rfl | exact Or.inr rfl) (hs:swapsWith (.Dict [] [] p0) (some (.Name x pos')) pos.line X.env=pure false:=by rfl)
  (hf:X.fn x=true\/X.env.scope.names.lookup x=some .local:=by first | exact .inl rfl | exact .inr rfl):iw X c (.Assign [.Name x pos'] (.Dict [] [] p0) pos) (AF i):=iC (CJ hN hi hx ED hs hf) fun E σ H ⟨J,env,sr,w⟩ p hp hq=>
 w _ J _ (aP.refl J) (sr.setM (y:=.inr ([],[])) (Ext.new sr.hp.sub hp _) hp ⟨p,rfl,⟨[],[],bO,.nil,.nil,⟨rfl,List.nodup_nil,Nat.zero_le _,fun _ h=>(nomatch h)⟩,hq,rfl⟩,sr.hp.sub.free hp,sr.hp.ent.free hp⟩)
def LM (K:W.Frag):Af:=fun o i v H Q=>∃J p ks vs kxs d,aP J H/\o=.ref p/\eS K J H p ks vs/\dX (.tup kxs)=true/\Rep K J (.tup kxs) i/\Rep K J d v/\ks.length<=sizeLine/\∀o,eS K J (upd H p o) p (dput (ks,vs) (.tup kxs) d).1 (dput (ks,vs) (.tup kxs) d).2->Q (upd H p o)
theorem set_dict (hu:X.A.units + 64 < cLine):Io X (LM X.K):=by
 intro pins s σ H o i v ov iv u Q I ro ri rv h
 obtain ⟨J,p,ks,vs,kxs,d,sm,rfl,hd,ok,rk,rd,hl,q⟩:=h
 obtain ⟨_,_,k1,k2⟩:=jc ok
 obtain ⟨r,rfl⟩:∃r,i=.ref r:=by cases rk;exact ⟨_,rfl⟩
 cases ro
 cases ri
 obtain ⟨xs,hm,lx,put⟩:=zG I sm hd
 refine wpAny_setItem_heap (knd:=nc X.prog X.w) (k:=⟨.tup kxs,k1,k2⟩) (show X.A.units + 1 + 16 < cLine by omega) (jZ (HF.of (c:=⟨X.K,H,H,fun _=>True⟩) I sm) k1 rk) hm (fun h' hm' sb=>?_) (by rw [lx];exact hl)
 obtain ⟨o,W,hd,_⟩:=put k1 k2 rk rd rv h' _ hm' sb
 exact ⟨_,W,q o hd⟩
def tH (i:Nat) (gk g:G R):G O:=fun env=>match env[i]? with
 | some (some (.dk ks vs))=>g env >>= fun r=>toD r >>= fun d=>gk env >>= fun r2=>toD r2 >>= fun k=>if dX k=true/\ks.length<=1000000 then .ok (.nx (env.set i (some (.dk (dput (ks,vs) k d).1 (dput (ks,vs) k d).2)))) else .bad
 | _=>.bad
theorem G4 (i:Nat){x:Str}{p1 p2:Pos}(hu:X.A.units + 64 < cLine) (h:PD X c e g) (hk:PD X c ke gk) (hN:X.N[i]?=some x:=by rfl) (hv:jL X.env.scope x:=by first | exact Or.inl rfl | exact Or.inr (Or.inl rfl) | exact Or.inr (Or.inr rfl)) (hd:(x == ("__debug__":Str))=false:=by decide)
  (hcd:(x == ("__classdict__":Str))=false:=by decide)
  (ha:∀v,assign (.Subscript (.Name x p1) ke p2) X.env v=(do
   let ov <-holding [v] (eval (.Name x p1) X.env)
   let iv <-holding [v,ov] (eval ke X.env)
   standAt p2
   (holding [v,ov,iv] (setItem ov iv v))
   release [v,ov,iv] []):=by intro _;rfl)
  (hs:swapsWithSole [.Subscript (.Name x p1) ke p2] e pos.line X.env=pure false:=by rfl) (hw:swappedStores [.Subscript (.Name x p1) ke p2] e X.env=pure none:=by rfl)
  (h1:(assignEach [.Subscript (.Name x p1) ke p2] X.env).map (·.2)=[assign (.Subscript (.Name x p1) ke p2) X.env]:=by rfl) (hK:X.K=c.K:=by rfl):
  iw X c (.Assign [.Subscript (.Name x p1) ke p2] e pos) (tH i gk g):=
 iC (CI h (Ka (kE hN hv hd hcd) hk (set_dict hu) ha) hs hw h1) fun E σ H ⟨J,env,sr,w⟩=>by
  unfold tH at w
  split at w
  ·rename_i ks vs hi
   obtain ⟨v,q1,p,rfl,h2,h3,h4⟩:=sr.at_ i _ hi
   refine ⟨J,env,sr,aC (aK w) fun r wr y J1 H1 e1 r1=>?_⟩
   obtain ⟨d,q,wr⟩:=iU wr
   obtain ⟨J2,e2,s2,rd⟩:=freeze e1 r1 q
   refine ⟨.ref p,q1,?_⟩
   refine ⟨J2,env,sr.ext e2,aC (aK wr) fun rk wk vk J3 H3 e3 r3=>?_⟩
   obtain ⟨k,qk,wk⟩:=iU wk
   obtain ⟨J4,e4,s4,rk⟩:=freeze e3 r3 qk
   have e5:=e2.trans e4
   split at wk
   ·rename_i ok
    obtain ⟨kxs,rfl,_⟩:=jc ok.1
    have h2':=h2.mono e5.j e5.h
    have h3':=e5.frz p h2.ne h3
    refine ⟨J4,p,ks,vs,kxs,d,e5.sub,rfl,by rw [hK];exact h2',ok.1,by rw [hK];exact rk,by rw [hK];exact rd.mono e4.j,Nat.le_trans ok.2 (by decide),fun o ho=>?_⟩
    rw [hK] at ho
    exact wk σ J4 _ e5.j ((sr.ext e5).updM (x:=.inr (ks,vs)) (y:=.inr (dput (ks,vs) (.tup kxs) d)) hi q1 h3' h4 ⟨p,rfl,ho,h3',h4⟩)
   ·exact wk.elim
  ·exact w.elim
theorem BQ {prog:Program}{w:World}{K:Type} [DecidableEq K] {knd:HeapKind prog w K}{A:Around}{E:Value->Shared->Prop}{s:Shared}{d a:Addr}{k:K}{xs:List (K×Addr×Value)}{Q:Bool->Shared->Prop}(hu:knd.room A.in1) (hkey:knd.is s.heap k a) (hd:(d == sysModules)=false)
  (hm:s.heap.DictOfH knd d xs) (h:Q (atKey xs k).isSome {s with toks:=s.toks + knd.draws k}):wpAny (model prog w) A (contains (.ref d) (.ref a)) Q E s:=by
 refine wpAny_contains_slot hm.typeIs slot_dict_contains (wpAny_call_entry slot_dict_contains hm.typeIs entry_dict_contains ?_ (args_dict_contains _ _))
 show wpAny _ _ (dictGet d (.ref a) >>= fun _=>_) _ _ s
 refine wpAny_bind (wpAny_dictGet_heap hu hkey hm ?_)
 cases q:atKey xs k with
 | some p=>rw [q] at h;exact wpAny_pure ⟨_,rfl,wpAny_truthy_bool h⟩
 | none=>rw [q] at h;exact wpAny_bind (wpAny_pendingKey_other hd (wpAny_pure ⟨_,rfl,wpAny_truthy_bool h⟩))
def EW (K:W.Frag) (neg:Bool):R2:=fun x y H Q=>∃J p ks vs k,aP J H/\y=.ref p/\eS K J H p ks vs/\Rep K J k x/\dX k=true/\Q (.bl (if neg then !(fC ks vs k).isSome else (fC ks vs k).isSome)) H
theorem DG (hu:X.A.units + 64 < cLine){pins:List (Addr×Obj)}{s:Shared}{σ:L2.St}{H:Hp}{x y:V}{v u:Value}{Q:VK}{neg:Bool}(I:Inv X pins σ H s) (rx:RelV x v) (ry:RelV y u) (h:EW X.K neg x y H Q):wpAny (model X.prog X.w) X.A (contains u v) (fun r s'=>EP X pins σ Q (.bool (if neg then !r else r)) s') X.xe s:=by
 obtain ⟨J,p,ks,vs,k,sm,rfl,hd,hk,ok,q⟩:=h
 have F:HF X.K J s:=HF.of (c:=⟨X.K,H,H,fun _=>True⟩) I sm
 obtain ⟨kx,rfl,k1,k2⟩:=jc ok
 obtain ⟨r,rfl⟩:∃r,x=.ref r:=by cases hk;exact ⟨_,rfl⟩
 cases rx
 cases ry
 obtain ⟨xs,us,ws,hm,e2,_,hv,e4,_,hsm⟩:=qd (P:=X.prog) (w:=X.w) F (gW I) hd
 have e:(atKey xs ⟨.tup kx,k1,k2⟩).isSome=(fC ks vs (.tup kx)).isSome:=by
  obtain ⟨l1,l2⟩:=vG (K:=X.K) (J:=J) ⟨.tup kx,k1,k2⟩ e2 hv e4
  cases z:fC ks vs (.tup kx) with
  | some d=>obtain ⟨p,_,e,_⟩:=l1 d z;rw [e];rfl
  | none=>rw [l2 z];rfl
 exact BQ (k:=⟨.tup kx,k1,k2⟩) (show X.A.units + 1 + 16 < cLine by omega) (jZ F k1 hk) hsm hm ⟨.bl _,H,I.tok _,by rw [e];rfl,q⟩
theorem Co (hu:X.A.units + 64 < cLine):cY X (compareOp .NotIn) (EW X.K true):=fun pins s σ H x y v u Q I rx ry h=>wpAny_bind (wpAny_mono (DG hu I rx ry h) (fun _ _ h=>wpAny_pure h) fun _ _ f=>f)
def tu (neg:Bool) (x y:R):M R:=match Iw y,x with
 | some z,.d k=>if dX k=true then .ok (.d (.bl (if neg then !(fC z.1 z.2 k).isSome else (fC z.1 z.2 k).isSome))) else .bad
 | _,_=>.bad
theorem Iz (neg:Bool) (hK:X.K=c.K):BD c (EW X.K neg) (tu neg):=by
 intro He He' J H x y u v Q hp rx ry w
 unfold tu at w
 split at w
 ·rename_i hz
  obtain ⟨p,rfl,hd⟩:=ry.dk hp hz
  split at w
  ·rename_i ok
   exact ⟨J,p,_,_,_,hp.sub,rfl,by rw [hK];exact hd,by rw [hK];exact rx,ok,w _ J H (Ext.refl hp.sub) (.bl _)⟩
  ·exact w.elim
 ·exact w.elim
theorem CN (i:Nat){x:Str}{pos' p0:Pos}(hN:X.N.Nodup) (hi:X.N[i]?=some x:=by rfl) (hx:Loc X.env.scope x:=by first | exact Or.inl rfl | exact Or.inr rfl) (hs:swapsWith (.Dict [] [] p0) (some (.Name x pos')) pos.line X.env=pure false:=by rfl)
  (hf:X.fn x=true\/X.env.scope.names.lookup x=some .local:=by first | exact .inl rfl | exact .inr rfl):i6 X c (.Assign [.Name x pos'] (.Dict [] [] p0) pos) (AF i):=⟨Ep i hN hi hx hs hf⟩
theorem ET (i:Nat){x:Str}{p1 p2:Pos}(hu:X.A.units + 64 < cLine) (h:QD X c e g) (hk:QD X c ke gk) (hN:X.N[i]?=some x:=by rfl) (hv:jL X.env.scope x:=by first | exact Or.inl rfl | exact Or.inr (Or.inl rfl) | exact Or.inr (Or.inr rfl)) (hd:(x == ("__debug__":Str))=false:=by decide)
  (hcd:(x == ("__classdict__":Str))=false:=by decide)
  (ha:∀v,assign (.Subscript (.Name x p1) ke p2) X.env v=(do
   let ov <-holding [v] (eval (.Name x p1) X.env)
   let iv <-holding [v,ov] (eval ke X.env)
   standAt p2
   (holding [v,ov,iv] (setItem ov iv v))
   release [v,ov,iv] []):=by intro _;rfl)
  (hs:swapsWithSole [.Subscript (.Name x p1) ke p2] e pos.line X.env=pure false:=by rfl) (hw:swappedStores [.Subscript (.Name x p1) ke p2] e X.env=pure none:=by rfl)
  (h1:(assignEach [.Subscript (.Name x p1) ke p2] X.env).map (·.2)=[assign (.Subscript (.Name x p1) ke p2) X.env]:=by rfl) (hK:X.K=c.K:=by rfl):
  i6 X c (.Assign [.Subscript (.Name x p1) ke p2] e pos) (tH i gk g):=⟨G4 i hu h.h hk.h hN hv hd hcd ha hs hw h1 hK⟩
theorem se (hu:X.A.units + 64 < cLine) (ha:QD X c a ga) (hb:QD X c b gb) (hK:X.K=c.K:=by rfl) (hm:behindInMarks .NotIn b=false:=by rfl):QB X c (.Compare a [.NotIn] [b] pos) (bB (g2 (tu true) ga gb)):=⟨kD (Co hu) (Iz true hK) ha.h hb.h hm⟩
def kh (x y:R):M R:=match x,y with
 | .d d,.d e=>if dep d<=60/\dep e<=60 then (match cA d e with
  | some b=>.ok (.d (.bl b))
  | none=>.bad) else .bad
 | _,_=>.bad
theorem Cn (hu:X.A.units + 64 < cLine):cY X (compareOp .Lt) (fun x y H Q=>∃d e b,Rep X.K H d x/\Rep X.K H e y/\dep d<=60/\dep e<=60/\cA d e=some b/\Q (.bl b) H):=fun pins s σ H x y v u Q I rx ry ⟨d,e,b,h1,h2,h3,h4,h5,q⟩=>
 Jj (gW I) d X.A h5 h1 h2 rx ry (by omega) (by omega) (by omega) X.prog X.w X.xe _ ⟨.bl b,H,I,rfl,q⟩
theorem BE (hK:X.K=c.K):BD c (fun x y H Q=>∃d e b,Rep X.K H d x/\Rep X.K H e y/\dep d<=60/\dep e<=60/\cA d e=some b/\Q (.bl b) H) kh:=by
 intro He He' J H x y u v Q hp rx ry w
 unfold kh at w
 split at w
 ·split at w
  ·rename_i hd
   split at w
   ·rename_i b hb
    exact ⟨_,_,b,by rw [hK];exact Rep.mono hp.sub rx,by rw [hK];exact Rep.mono hp.sub ry,hd.1,hd.2,hb,w _ J H (Ext.refl hp.sub) (.bl _)⟩
   ·exact w.elim
  ·exact w.elim
 ·exact w.elim
theorem HH (hu:X.A.units + 64 < cLine) (ha:QD X c a ga) (hb:QD X c b gb) (hK:X.K=c.K:=by rfl):QD X c (.Compare a [.Lt] [b] pos) (g2 kh ga gb):=⟨xK (Cn hu) (BE hK) ha.h hb.h⟩
theorem tV (hu:X.A.units + 64 < cLine) (ha:QD X c a ga) (hb:QD X c b gb) (hK:X.K=c.K:=by rfl):QB X c (.Compare a [.Lt] [b] pos) (bB (g2 kh ga gb)):=⟨kD (Cn hu) (BE hK) ha.h hb.h⟩
theorem Eb:Bs X "list.clear" (fun x vs H Q=>∃l xs,x=.ref l/\vs=[]/\H l=some (.lst xs)/\Q .non (upd H l (.lst []))):=by
 intro pins s σ H x vs v us Q I rx rv h
 obtain ⟨l,xs,rfl,rfl,hH,q⟩:=h
 cases rx
 cases rv.zero
 obtain ⟨z,its,n,r,hl,e⟩:=I.lstM hH
 exact call_meets F.slot_list_clear ⟨_,e,rfl⟩ F.entry_list_clear (F.args_list_clear_1 _) (AutoSeq1.list_clear_list_0 l its.toArray n (by rw [List.size_toArray];omega)) ⟨e,.non,_,I.lset (its':=[]) hH e rfl .nil (Nat.zero_le _),rfl,q⟩
def AD (i:Nat):G O:=fun env=>match env[i]? with
 | some (some (.own xs))=>.ok (.nx (env.set i (some (.own []))))
 | _=>.bad
theorem GZ (i:Nat){x:Str}{p1 p2 pos':Pos}(hN:X.N[i]?=some x:=by rfl) (hv:jL X.env.scope x:=by first | exact Or.inl rfl | exact Or.inr (Or.inl rfl) | exact Or.inr (Or.inr rfl)) (hd:(x == ("__debug__":Str))=false:=by decide) (hcd:(x == ("__classdict__":Str))=false:=by decide)
  (hbase:attributeBase (.Name x p1) "clear" X.env (eval (.Name x p1) X.env)=eval (.Name x p1) X.env:=by rfl) (hline:(p2.endLine == pos'.line)=true:=by rfl)
  (hs:swapsWith (.Call (.Attribute (.Name x p1) "clear" p2) [] [] pos') none pos.line X.env=pure false:=by rfl):iw X c (.Expr (.Call (.Attribute (.Name x p1) "clear" p2) [] [] pos') pos) (AD i):=
 iC (mh (JV PySem.F.plainAttrs_list PySem.F.slot_list_clear PySem.F.type_list_clear Eb (kE hN hv hd hcd) hbase hline) hs) fun E σ H ⟨J,env,sr,w⟩=>by
  unfold AD at w
  split at w
  ·rename_i xs hi
   obtain ⟨v,h1,a,vs,rfl,h2,h3,h4,h5⟩:=sr.at_ i _ hi
   exact ⟨.ref a,h1,.inl ⟨rfl,vs,bZ.of h2⟩,a,vs,rfl,rfl,h2,w σ J _ (aP.refl J) (sr.upd hi h1 h2 h3 h4 .nil)⟩
  ·exact w.elim
theorem ES (i:Nat){x:Str}{p1 p2 pos':Pos}(hN:X.N[i]?=some x:=by rfl) (hv:jL X.env.scope x:=by first | exact Or.inl rfl | exact Or.inr (Or.inl rfl) | exact Or.inr (Or.inr rfl)) (hd:(x == ("__debug__":Str))=false:=by decide) (hcd:(x == ("__classdict__":Str))=false:=by decide)
  (hbase:attributeBase (.Name x p1) "clear" X.env (eval (.Name x p1) X.env)=eval (.Name x p1) X.env:=by rfl) (hline:(p2.endLine == pos'.line)=true:=by rfl)
  (hs:swapsWith (.Call (.Attribute (.Name x p1) "clear" p2) [] [] pos') none pos.line X.env=pure false:=by rfl):i6 X c (.Expr (.Call (.Attribute (.Name x p1) "clear" p2) [] [] pos') pos) (AD i):=⟨GZ i hN hv hd hcd hbase hline hs⟩
theorem IC {p q:Int->Int->Bool}{gc:G R}{σ:L2.St}{H:Hp}{Q:VK}(h:tD c (zm p q ga gb gc) σ H Q):CZ (kH fun i j=>.bl (p i j)) (kH fun i j=>.bl (q i j)) (tD c ga) (tD c gb) (tD c gc) σ H Q:=by
 obtain ⟨J,env,sr,w⟩:=h
 refine ⟨J,env,sr,aC (aK w) fun r1 w1 v1 J1 H1 e1 q1=>⟨J1,env,sr.ext e1,aC (aK w1) fun r2 w2 v2 J2 H2 e2 q2=>?_⟩⟩
 split at w2
 ·rename_i i j
  cases q1
  cases q2
  refine ⟨i,j,rfl,rfl,p i j,rfl,?_⟩
  cases hp:p i j with
  | true=>
   rw [hp] at w2
   refine DV ⟨J2,env,(sr.ext e1).ext e2,aC (aK w2) fun r3 w3 v3 J3 H3 e3 q3=>?_⟩
   split at w3
   ·cases q3;exact ⟨j,_,rfl,rfl,w3 _ J3 H3 ((e1.trans e2).trans e3) (.bl _)⟩
   ·exact w3.elim
  | false=>rw [hp] at w2;exact DU (w2 _ J2 H2 (e1.trans e2) (.bl _))
 ·exact w2.elim
theorem CM {op op':CmpOp}{p q:Int->Int->Bool}{x:Expr}{gc:G R}(ho:cY X (compareOp op) (kH fun i j=>.bl (p i j))) (ho':cY X (compareOp op') (kH fun i j=>.bl (q i j))) (ha:QD X c a ga) (hb:QD X c b gb) (hc:QD X c x gc)
  (hm:lastMarks [op,op'] [b,x]=false:=by with_unfolding_all rfl):QB X c (.Compare a [op,op'] [b,x] pos) (bB (zm p q ga gb gc)):=⟨r_ (EM ho ho' ha.h hb.h hc.h hm) fun σ H Q ⟨J,env,sr,w⟩=>IC ⟨J,env,sr,aC (aK w) fun r wr v J1 H1 e1 r1=>by
 split at wr
 ·cases r1;exact ⟨_,rfl,wr J1 H1 e1⟩
 ·exact wr.elim⟩⟩
end
end DL
namespace K22
open PySem DL
def Ab:List Str:=["_law_one","_law_other","_law_pairs","_law_a","_law_b","_law_here","_law_there","_law_c","_law_d"]
def rH:G O:=(aL (cZ (ku (af 2)) (dg 2 (br (aE 3) (br (aE 4) dF))) (aL (cZ (vJ (ao (g2 aX (af 0) (gC (.int 1))) (ao (g2 aX (af 1) (gC (.int 1))) aI))) (dg 2 (br (aE 5) (br (aE 6) dF))) (bJ (bB (g2 (cR true) (g2 (jj false) (af 3) (g2 aX (af 5) (gC (.int 1)))) (g2 (jj false) (af 4) (g2 aX (af 6) (gC (.int 1)))))) (bK (gC (.bl false))) cX))
 (cZ (ku (af 2)) (dg 2 (br (aE 7) (br (aE 8) dF))) (aL (bJ (bB (g2 (cR true) (g2 (cR false) (af 3) (af 7)) (g2 (cR false) (af 4) (af 8)))) (bK (gC (.bl false))) cX)
 (cZ (vJ (ao (g2 aX (af 0) (gC (.int 2))) (ao (g2 aX (af 1) (gC (.int 2))) aI))) (dg 2 (br (aE 5) (br (aE 6) dF))) (bJ (bB (g2 (cR true) (g2 (jj false) (bD (aA (af 3) (aA (af 7) aV))) (g2 aX (af 5) (gC (.int 1)))) (g2 (jj false) (bD (aA (af 4) (aA (af 8) aV))) (g2 aX (af 6) (gC (.int 1)))))) (bK (gC (.bl false))) cX))))))
 (bK (gC (.bl true))))
def gU (as:List S):M R:=fin (rH (bH Ab as))
def vX:List Str:=["_law_pairs","_law_one","_law_other","_law_pair","_law_k"]
def nZ:G O:=(aL (bJ (eE (bB (rC "tuple" (af 0)))) (bK (gC (.bl false))) cX)
 (aL (cZ (ku (af 0)) (aE 3) (aL (bJ (jD (eE (bB (rC "tuple" (af 3)))) (bB (g2 (cR true) (gN ez (ao (af 3) aI)) (gC (.int 2))))) (bK (gC (.bl false))) cX)
 (aL (bJ (jD (eE (bB (gN (bf 1 K01.gE) (ao (g2 aX (af 3) (gC (.int 0))) aI)))) (eE (bB (gN (bf 1 K01.gE) (ao (g2 aX (af 3) (gC (.int 1))) aI))))) (bK (gC (.bl false))) cX)
 (bJ (jD (eE (bB (zm (fun i j=>decide (i<=j)) (fun i j=>decide (i < j)) (gC (.int 0)) (g2 aX (af 3) (gC (.int 0))) (g2 aX (af 1) (gC (.int 0)))))) (eE (bB (zm (fun i j=>decide (i<=j)) (fun i j=>decide (i < j)) (gC (.int 0)) (g2 aX (af 3) (gC (.int 1))) (g2 aX (af 2) (gC (.int 0))))))) (bK (gC (.bl false))) cX))))
 (aL (cZ (rD (ao (gC (.int 1)) (ao (gN ez (ao (af 0) aI)) aI))) (aE 4) (bJ (eE (bB (g2 kh (g2 aX (af 0) (g2 qf (af 4) (gC (.int 1)))) (g2 aX (af 0) (af 4))))) (bK (gC (.bl false))) cX))
 (bK (gN (bf 3 K22.gU) (ao (af 1) (ao (af 2) (ao (af 0) aI))))))))
def iV (as:List S):M R:=fin (nZ (bH vX as))
def Bt:List Str:=["_law_found","_law_one","_law_other","_law_most","_law_known","_law_pairs","_law_a","_law_b","_law_more","_law_above"]
def uh:G O:=(aL (AF 4)
 (aL (cZ (ku (af 0)) (aE 5) (tH 4 (af 5) (gC (.bl true))))
 (aL (bJ (bB (g2 (tu true) (bD aV) (af 4))) (bK (gC (.bl false))) cX)
 (aL (cZ (ku (af 0)) (aE 5) (bJ (bB (g2 kh (gN ez (ao (af 5) aI)) (af 3))) (cZ (cJ (ao (g2 aX (af 1) (gC (.int 0))) aI)) (aE 6) (cZ (cJ (ao (g2 aX (af 2) (gC (.int 0))) aI)) (aE 7) (aL (bw 8 (g2 dI (af 5) (bD (aA (bD (aA (af 6) (aA (af 7) aV))) aV))))
 (aL (bw 9 (nY (g2 (cR false) (af 5) (bD aV)) (g2 kh (g2 aX (af 5) (tG (gC (.int 1)))) (bD (aA (af 6) (aA (af 7) aV))))))
 (bJ (kj (qi (af 9)) (kj (bB (g2 (tu true) (af 8) (af 4))) (bB (gN (bf 3 K22.gU) (ao (af 1) (ao (af 2) (ao (af 8) aI))))))) (bK (gC (.bl false))) cX))))) cX))
 (bK (gC (.bl true)))))))
def kM (as:List S):M R:=fin (uh (bH Bt as))
def Mm:List Str:=["_law_script","_law_one","_law_other","_law_most","_law_found","_law_k","_law_ahead","_law_kept"]
def IP:G O:=(aL (kq (dg 2 (br (aE 1) (br (aE 2) dF))) (gN (bf 2 K55.jz) (ao (af 0) (ao (gJ (aA (gC (.int 2)) (aA (gC (.int 3)) (aA (gC (.int 1)) (aA (gC (.int 3)) (aA (gC (.int 2)) (aA (gC (.int 3)) (aA (gC (.int 2)) (aA (gC (.int 4)) aV))))))))) aI))))
 (aL (bw 3 (g2 fu (gN (bf 2 K51.bX) (ao (af 0) (ao (gC (.int 16)) aI))) (gC (.int 5))))
 (aL (bw 4 (gN (bf 3 K23.jA) (ao (af 1) (ao (af 2) (ao (af 3) aI)))))
 (aL (bJ (eE (bB (rC "list" (af 4)))) (bK (gC (.bl false))) cX)
 (aL (cZ (cJ (ao (gN ez (ao (af 4) aI)) aI)) (aE 5) (aL (bJ (jD (eE (bB (gN (bf 3 K22.iV) (ao (g2 aX (af 4) (af 5)) (ao (af 1) (ao (af 2) aI)))))) (bB (g2 (kT fun i j=>.bl (decide (j < i))) (gN ez (ao (g2 aX (af 4) (af 5)) aI)) (af 3)))) (bK (gC (.bl false))) cX)
 (bJ (bB (g2 (kT fun i j=>.bl (decide (j < i))) (af 5) (gC (.int 0)))) (aL (bw 6 (g2 aX (af 4) (g2 qf (af 5) (gC (.int 1)))))
 (bJ (jD (bB (g2 (kT fun i j=>.bl (decide (j < i))) (gN ez (ao (af 6) aI)) (gN ez (ao (g2 aX (af 4) (af 5)) aI)))) (kj (bB (g2 (cR false) (gN ez (ao (af 6) aI)) (gN ez (ao (g2 aX (af 4) (af 5)) aI)))) (eE (bB (g2 kh (af 6) (g2 aX (af 4) (af 5))))))) (bK (gC (.bl false))) cX)) cX)))
 (aL (bJ (eE (bB (gN (bf 4 K22.kM) (ao (af 4) (ao (af 1) (ao (af 2) (ao (af 3) aI))))))) (bK (gC (.bl false))) cX)
 (aL (bw 7 (gN vI (ao (af 4) aI)))
 (aL (AD 4)
 (bK (g2 (cR false) (gN (bf 3 K23.jA) (ao (af 1) (ao (af 2) (ao (af 3) aI)))) (af 7)))))))))))
def sO (as:List S):M R:=fin (IP (bH Mm as))
end K22
namespace K22
open PySem PySem.Spec PyProof.Rows L2 DL DX
structure fU (w:World) (K:W.Frag) (mg:Str->Option Value):Prop where
 bool:mg "bool"=none
 int:mg "int"=none
 isinstance:mg "isinstance"=none
 len:mg "len"=none
 list:mg "list"=none
 range:mg "range"=none
 set:mg "set"=none
 sorted:mg "sorted"=none
 tuple:mg "tuple"=none
 zip:mg "zip"=none
 MOST_SMALL:zZ K mg "MOST_SMALL" (.int 4)
section
variable {P:Program}{w:World}{K:W.Frag}{mg:Str->Option Value}{base:Heap}{f:Addr}{fd:FuncData}
abbrev iS:Stmt:=top 6
theorem A9:bC ["thing"] ["thing"] (ay iS):=⟨rfl,rfl,rfl,by decide +kernel,rfl,by decide +kernel,by decide +kernel⟩
theorem yF (m:fU w K mg) (F:dR K "is_whole" "is_whole" iS f fd) (hm:mg "is_whole"=some (.ref f)):bS P w K mg base 1 1 "is_whole" K01.gE:=
 have sc:=A9
 bR (k:=0) (gB:=K01.oj) F hm sc (fun _ _ _ _ _ _ us hl=>match us,hl with | [_],_=>rfl) (fun cdv A outer s H E J T hr=>
 (aD (aW (zH (fh zw ue m.int (aa 0) m.isinstance) (qy (zK (fh xu qN m.bool (aa 0) m.isinstance))))))) (fun as r _ h=>h)
abbrev h_:Stmt:=top 7
theorem yS:bC ["world","many","marks","arrows"] ["world"] (ay h_):=⟨rfl,rfl,rfl,by decide +kernel,rfl,by decide +kernel,by decide +kernel⟩
theorem wU (m:fU w K mg) (F:dR K "tongue_of" "tongue_of" h_ f fd) (hm:mg "tongue_of"=some (.ref f)):bS P w K mg base 1 1 "tongue_of" K23.iZ:=
 have sc:=yS
 bR (k:=0) (gB:=K23.rJ) F hm sc (fun _ _ _ _ _ _ us hl=>match us,hl with | [_],_=>rfl) (fun cdv A outer s H E J T hr=>
 (av (kF (aa 0) (cG (aT (aG 1 sc.nd) (aT (aG 2 sc.nd) (aT (aG 3 sc.nd) bW)))))
 (aD (aW (bh (au (cB (ak (dG ["name","points"] [] (fB (aa 2)) (fun _ _ _ _ _ hc=>⟨(cG (aT (aG 0 (dw rfl)) (aT (aG 1 (dw rfl)) bW))),cK,(aa 0)⟩)) aq) m.tuple) (au (cB (ak (dG ["name","pairs"] [] (fB (aa 3)) (fun _ _ _ _ _ hc=>⟨(cG (aT (aG 0 (dw rfl)) (aT (aG 1 (dw rfl)) bW))),cK,(aa 0)⟩)) aq) m.tuple) aQ))))))) (fun as r _ h=>h)
abbrev fM:Stmt:=top 8
theorem vz:bC ["one","other"] ["one","other"] (ay fM):=⟨rfl,rfl,rfl,by decide +kernel,rfl,by decide +kernel,by decide +kernel⟩
theorem sX (m:fU w K mg) (htongue_of:bS P w K mg base 1 1 "tongue_of" K23.iZ) (F:dR K "need_tongue" "need_tongue" fM f fd) (hm:mg "need_tongue"=some (.ref f)):bS P w K mg base 2 2 "need_tongue" K23.iY:=
 have sc:=vz
 bR (k:=1) (gB:=K23.om) F hm sc (fun _ _ _ _ _ _ us hl=>match us,hl with | [_,_],_=>rfl) (fun cdv A outer s H E J T hr=>
 (aD (bF (mq hr.units (a_ htongue_of hr (ak (aa 0) aq)) (a_ htongue_of hr (ak (aa 1) aq))) (aD nk) bx))) (fun as r _ h=>h)
abbrev dz:Stmt:=top 11
theorem pH:bC ["worlds","world"] ["worlds"] (ay dz):=⟨rfl,rfl,rfl,by decide +kernel,rfl,by decide +kernel,by decide +kernel⟩
theorem nV (m:fU w K mg) (F:dR K "need_few_points" "need_few_points" dz f fd) (hm:mg "need_few_points"=some (.ref f)):bS P w K mg base 1 1 "need_few_points" K23.fQ:=
 have sc:=pH
 bR (k:=0) (gB:=K23.kB) F hm sc (fun _ _ _ _ _ _ us hl=>match us,hl with | [_],_=>rfl) (fun cdv A outer s H E J T hr=>
 (aD (bV (gQ (aa 0)) (aG 1 sc.nd) (aD (bF (gX oZ (iA fun _ _ _=>.bl _) (aH (aa 1) az) (uD m.MOST_SMALL)) (aD nk) bx))))) (fun as r _ h=>h)
abbrev gy:Stmt:=top 12
theorem yb:bC ["one","other"] ["one","other"] (ay gy):=⟨rfl,rfl,rfl,by decide +kernel,rfl,by decide +kernel,by decide +kernel⟩
theorem vf (m:fU w K mg) (hneed_tongue:bS P w K mg base 2 2 "need_tongue" K23.iY) (hneed_few_points:bS P w K mg base 1 1 "need_few_points" K23.fQ) (F:dR K "need_small" "need_small" gy f fd) (hm:mg "need_small"=some (.ref f)):bS P w K mg base 3 2 "need_small" K23.jw:=
 have sc:=yb
 bR (k:=2) (gB:=K23.pV) F hm sc (fun _ _ _ _ _ _ us hl=>match us,hl with | [_,_],_=>rfl) (fun cdv A outer s H E J T hr=>
 (av (lq (a_ hneed_tongue hr (ak (aa 0) (ak (aa 1) aq))))
 (aD (lq (a_ hneed_few_points hr (ak (bh (au (aa 0) (au (aa 1) aQ))) aq)))))) (fun as r _ h=>h)
abbrev gx:Stmt:=top 13
theorem x_:bC ["told","least","most"] ["told","least","most"] (ay gx):=⟨rfl,rfl,rfl,by decide +kernel,rfl,by decide +kernel,by decide +kernel⟩
theorem ve (m:fU w K mg) (his_whole:bS P w K mg base 1 1 "is_whole" K01.gE) (F:dR K "need_count" "need_count" gx f fd) (hm:mg "need_count"=some (.ref f)):bS P w K mg base 2 3 "need_count" K55.jv:=
 have sc:=x_
 bR (k:=1) (gB:=K55.pU) F hm sc (fun _ _ _ _ _ _ us hl=>match us,hl with | [_,_,_],_=>rfl) (fun cdv A outer s H E J T hr=>
 (aD (bF (gn (jG (dJ (dM (a_ his_whole hr (ak (aa 0) aq)))) (jG (gX vN (iA fun _ _ _=>.bl _) (aa 0) (aa 1)) (jt (gX oZ (iA fun _ _ _=>.bl _) (aa 0) (aa 2)))))) (aD nk) bx))) (fun as r _ h=>h)
abbrev pB:Stmt:=top 15
theorem KL:bC ["world","one","other","many","marks","arrows","bearing","leading"] ["world","one","other"] (ay pB):=⟨rfl,rfl,rfl,by decide +kernel,rfl,by decide +kernel,by decide +kernel⟩
theorem Gh (m:fU w K mg) (F:dR K "view" "view" pB f fd) (hm:mg "view"=some (.ref f)):bS P w K mg base 1 3 "view" K23.vE:=
 have sc:=KL
 bR (k:=0) (gB:=K23.Fv) F hm sc (fun _ _ _ _ _ _ us hl=>match us,hl with | [_,_,_],_=>rfl) (fun cdv A outer s H E J T hr=>
 (av (kF (aa 0) (cG (aT (aG 3 sc.nd) (aT (aG 4 sc.nd) (aT (aG 5 sc.nd) bW)))))
 (av (aS 6 sc.nd (cB (ak (dG ["name","points"] [1] (fB (aa 4)) (fun _ _ _ _ _ hc=>⟨(cG (aT (aG 0 (dw rfl)) (aT (aG 1 (dw rfl)) bW))),cK,(mw hr.units (aa 2) (aa 1))⟩)) aq) m.tuple))
 (av (aS 7 sc.nd (cB (ak (dG ["name","pairs"] [1,2] (fB (aa 5)) (fun _ _ _ _ _ hc=>⟨(cG (aT (aG 0 (dw rfl)) (aT (aG 1 (dw rfl)) bW))),cK,(mw hr.units (bh (au (aa 2) (au (aa 3) aQ))) (aa 1))⟩)) aq) m.tuple))
 (aD (aW (bh (au (kG hr.units (aa 1) (aa 2)) (au (aa 6) (au (aa 7) aQ)))))))))) (fun as r _ h=>h)
abbrev mG:Stmt:=top 16
theorem HS:bC ["world"] ["world"] (ay mG):=⟨rfl,rfl,rfl,by decide +kernel,rfl,by decide +kernel,by decide +kernel⟩
theorem DC (m:fU w K mg) (N4:bS P w K mg base 1 3 "view" K23.vE) (F:dR K "views" "views" mG f fd) (hm:mg "views"=some (.ref f)):bS P w K mg base 2 1 "views" K23.nO:=
 have sc:=HS
 bR (k:=1) (gB:=K23.B3) F hm sc (fun _ _ _ _ _ _ us hl=>match us,hl with | [_],_=>rfl) (fun cdv A outer s H E J T hr=>
 (aD (aW (A1 hr.units ["one","other"] [0] (jr (bL (ak (aH (aa 0) az) aq) m.range)) (fun _ _ _ _ _ hc=>⟨(aG 0 (dw rfl)),cK,(bL (ak (aH (aa 2) az) aq) m.range),(aG 1 (dw rfl)),cK,(bh (au (aa 0) (au (aa 1) aQ))),(a_ N4 hr (ak (aa 2) (ak (aa 0) (ak (aa 1) aq))))⟩))))) (fun as r _ h=>h)
abbrev mE:Stmt:=top 17
theorem HR:bC ["first","second","pair","again"] ["first","second","pair","again"] (ay mE):=⟨rfl,rfl,rfl,by decide +kernel,rfl,by decide +kernel,by decide +kernel⟩
theorem DA (m:fU w K mg) (F:dR K "agree" "agree" mE f fd) (hm:mg "agree"=some (.ref f)):bS P w K mg base 1 4 "agree" K23.eY:=
 have sc:=HR
 bR (k:=0) (gB:=K23.BY) F hm sc (fun _ _ _ _ _ _ us hl=>match us,hl with | [_,_,_,_],_=>rfl) (fun cdv A outer s H E J T hr=>
 (aD (aW (kG hr.units (zI hr.units (aa 0) (bh (au (aH (aa 2) az) (au (aH (aa 3) az) aQ)))) (zI hr.units (aa 1) (bh (au (aH (aa 2) az) (au (aH (aa 3) az) aQ)))))))) (fun as r _ h=>h)
abbrev fK:Stmt:=top 18
theorem vt:bC ["first","second","pairing","pair","again"] ["first","second","pairing","pair"] (ay fK):=⟨rfl,rfl,rfl,by decide +kernel,rfl,by decide +kernel,by decide +kernel⟩
theorem sW (m:fU w K mg) (Nq:bS P w K mg base 1 4 "agree" K23.eY) (F:dR K "goes_behind" "goes_behind" fK f fd) (hm:mg "goes_behind"=some (.ref f)):bS P w K mg base 2 4 "goes_behind" K23.iX:=
 have sc:=vt
 bR (k:=1) (gB:=K23.oh) F hm sc (fun _ _ _ _ _ _ us hl=>match us,hl with | [_,_,_,_],_=>rfl) (fun cdv A outer s H E J T hr=>
 (av (bF (gn (pg (pq (aa 2)) (qw (HG hr.units (aa 3) (aH (aa 2) (zJ az)))))) (aD (aW cT)) bx)
 (av (bV (gQ (aa 2)) (aG 4 sc.nd) (aD (bF (gn (jG (dJ (dM (a_ Nq hr (ak (aa 0) (ak (aa 1) (ak (aa 3) (ak (aa 4) aq))))))) (jt (dJ (dM (a_ Nq hr (ak (aa 0) (ak (aa 1) (ak (aa 4) (ak (aa 3) aq)))))))))) (aD (aW cT)) bx)))
 (aD (aW cT))))) (fun as r _ h=>h)
abbrev iT:Stmt:=top 19
theorem A_:bC ["one","other","most","first","second","pairs","longest","told","step"] ["one","other","most"] (ay iT):=⟨rfl,rfl,rfl,by decide +kernel,rfl,by decide +kernel,by decide +kernel⟩
theorem yI (m:fU w K mg) (hneed_small:bS P w K mg base 3 2 "need_small" K23.jw) (hneed_count:bS P w K mg base 2 3 "need_count" K55.jv) (NG:bS P w K mg base 2 1 "views" K23.nO) (Nq:bS P w K mg base 1 4 "agree" K23.eY) (hgoes_behind:bS P w K mg base 2 4 "goes_behind" K23.iX) (F:dR K "pairings" "pairings" iT f fd) (hm:mg "pairings"=some (.ref f)):bS P w K mg base 4 3 "pairings" K23.jA:=
 have sc:=A_
 bR (k:=3) (gB:=K23.uo) F hm sc (fun _ _ _ _ _ _ us hl=>match us,hl with | [_,_,_],_=>rfl) (fun cdv A outer s H E J T hr=>
 (av (lq (a_ hneed_small hr (ak (aa 0) (ak (aa 1) aq))))
 (av (lq (a_ hneed_count hr (ak (aa 2) (ak az (ak (uD m.MOST_SMALL) aq)))))
 (av (aS 3 sc.nd (a_ NG hr (ak (aa 0) aq)))
 (av (aS 4 sc.nd (a_ NG hr (ak (aa 1) aq)))
 (av (aS 5 sc.nd (A2 ["a","b"] [1,3,4] (jr (bL (ak (aH (aa 0) az) aq) m.range)) (fun _ _ _ _ _ hc=>⟨(aG 0 (dw rfl)),cK,(bL (ak (aH (aa 2) az) aq) m.range),(aG 1 (dw rfl)),(jI (dM (a_ Nq hr (ak (aa 3) (ak (aa 4) (ak (bh (au (aa 0) (au (aa 1) aQ))) (ak (bh (au (aa 0) (au (aa 1) aQ))) aq))))))),(bh (au (aa 0) (au (aa 1) aQ)))⟩)))
 (av (qx 5 (aS 6 sc.nd (fG (au (bh aQ) aQ))))
 (av (aS 7 sc.nd (fG (au (bh aQ) aQ)))
 (av (bV (bL (ak (aa 2) aq) m.range) (aG 8 sc.nd) (av (qx 5 (A0 6 ["ahead","pair"] [5,3,4] sc.nd (fB (aa 6)) (fun _ _ _ _ _ hc=>⟨(aG 0 (dw rfl)),cK,(gQ (aa 2)),(aG 1 (dw rfl)),(jI (dM (a_ hgoes_behind hr (ak (aa 3) (ak (aa 4) (ak (aa 0) (ak (aa 1) aq))))))),(gO (aa 0) (bh (au (aa 1) aQ)))⟩)))
 (aD (yL 7 (aa 6)))))
 (aD (aW (aa 7)))))))))))) (fun as r _ h=>h)
abbrev g9:Stmt:=top 21
theorem yQ:bC ["_law_script","_law_k"] ["_law_script","_law_k"] (ay g9):=⟨rfl,rfl,rfl,by decide +kernel,rfl,by decide +kernel,by decide +kernel⟩
theorem wJ (m:fU w K mg) (F:dR K "_law_cell" "_law_cell" g9 f fd) (hm:mg "_law_cell"=some (.ref f)):bS P w K mg base 1 2 "_law_cell" K51.bX:=
 have sc:=yQ
 bR (k:=0) (gB:=K51.rG) F hm sc (fun _ _ _ _ _ _ us hl=>match us,hl with | [_,_],_=>rfl) (fun cdv A outer s H E J T hr=>
 (av (bF (gX vN (iA fun _ _ _=>.bl _) (aa 1) (cD (ak (aa 0) aq) m.len)) (aD (aW (cU (aH (aa 0) (aa 1)) (HJ az az)))) bx)
 (aD (aW az)))) (fun as r _ h=>h)
abbrev gq:Stmt:=top 22
theorem xX:bC ["_law_cell_here","_law_many","_law_letters","_law_sign","_law_stem","_law_found","_law_k","_law_other","_law_name"] ["_law_cell_here","_law_many"] (ay gq):=⟨rfl,rfl,rfl,by decide +kernel,rfl,by decide +kernel,by decide +kernel⟩
theorem uX (m:fU w K mg) (F:dR K "_law_names" "_law_names" gq f fd) (hm:mg "_law_names"=some (.ref f)):bS P w K mg base 1 2 "_law_names" K51.f_:=
 have sc:=xX
 bR (k:=0) (gB:=K51.pR) F hm sc (fun _ _ _ _ _ _ us hl=>match us,hl with | [_,_],_=>rfl) (fun cdv A outer s H E J T hr=>
 (av (aS 2 sc.nd tW)
 (av (aS 3 sc.nd (aH (aa 2) (cU (eV (aa 0) az) az)))
 (av (aS 4 sc.nd (jH (aa 3) (gP az (cU (eV (aa 0) az) az))))
 (av (aS 5 sc.nd (fG aQ))
 (av (bV (bL (ak (aa 1) aq) m.range) (aG 6 sc.nd) (av (aS 7 sc.nd (aH (aa 2) (cU (gP (eV (aa 0) az) (jH az (aa 6))) az)))
 (av (aS 8 sc.nd (aH (fG (au (gP (aa 4) (aa 7)) (au (gP (aa 7) (aa 4)) (au (jH (aa 3) (gP (aa 6) az)) aQ)))) (cU (aa 0) az)))
 (av (bF (oG hr.units (aa 8) tW) (aD (aS 8 sc.nd tW)) bx)
 (aD (jy 5 (aa 8)))))))
 (aD (aW (A4 (ak (aa 5) aq) m.sorted))))))))) (fun as r _ h=>h)
abbrev gZ:Stmt:=top 23
theorem yP:bC ["_law_cell_here","_law_size","_law_found","_law_k"] ["_law_cell_here","_law_size"] (ay gZ):=⟨rfl,rfl,rfl,by decide +kernel,rfl,by decide +kernel,by decide +kernel⟩
theorem wI (m:fU w K mg) (F:dR K "_law_bits" "_law_bits" gZ f fd) (hm:mg "_law_bits"=some (.ref f)):bS P w K mg base 1 2 "_law_bits" K51.gT:=
 have sc:=yP
 bR (k:=0) (gB:=K51.rE) F hm sc (fun _ _ _ _ _ _ us hl=>match us,hl with | [_,_],_=>rfl) (fun cdv A outer s H E J T hr=>
 (av (aS 2 sc.nd (fG aQ))
 (av (bV (bL (ak (aa 1) aq) m.range) (aG 3 sc.nd) (av (jy 2 (kG hr.units (cU (aa 0) az) az))
 (aD (aS 0 sc.nd (eV (aa 0) az)))))
 (aD (aW (aa 2)))))) (fun as r _ h=>h)
abbrev gw:Stmt:=top 24
theorem x6:bC ["_law_names_here","_law_many","_law_cells","_law_marks","_law_k","_law_bits_here","_law_arrows"] ["_law_names_here","_law_many","_law_cells"] (ay gw):=⟨rfl,rfl,rfl,by decide +kernel,rfl,by decide +kernel,by decide +kernel⟩
theorem u_ (m:fU w K mg) (h_law_bits:bS P w K mg base 1 2 "_law_bits" K51.gT) (F:dR K "_law_world" "_law_world" gw f fd) (hm:mg "_law_world"=some (.ref f)):bS P w K mg base 2 3 "_law_world" K51.fq:=
 have sc:=x6
 bR (k:=1) (gB:=K51.pT) F hm sc (fun _ _ _ _ _ _ us hl=>match us,hl with | [_,_,_],_=>rfl) (fun cdv A outer s H E J T hr=>
 (av (aS 3 sc.nd (fG aQ))
 (av (bV (bL (ak (cD (ak (aH (aa 0) az) aq) m.len) aq) m.range) (aG 4 sc.nd) (av (aS 5 sc.nd (a_ h_law_bits hr (ak (aH (aa 2) (aa 4)) (ak (aa 1) aq))))
 (aD (jy 3 (bh (au (aH (aH (aa 0) az) (aa 4)) (au (cB (ak (dG ["_law_p"] [5] (jr (bL (ak (aa 1) aq) m.range)) (fun _ _ _ _ _ hc=>⟨(aG 0 (dw rfl)),(jI (pq (aH (aa 1) (aa 0)))),(aa 0)⟩)) aq) m.tuple) aQ)))))))
 (av (aS 6 sc.nd (fG aQ))
 (av (bV (bL (ak (cD (ak (aH (aa 0) az) aq) m.len) aq) m.range) (aG 4 sc.nd) (av (aS 5 sc.nd (a_ h_law_bits hr (ak (aH (aa 2) (gP az (aa 4))) (ak (jH (aa 1) (aa 1)) aq))))
 (aD (jy 6 (bh (au (aH (aH (aa 0) az) (aa 4)) (au (cB (ak (dG ["_law_p"] [5,1] (jr (bL (ak (jH (aa 1) (aa 1)) aq) m.range)) (fun _ _ _ _ _ hc=>⟨(aG 0 (dw rfl)),(jI (pq (aH (aa 1) (aa 0)))),(bh (au (eV (aa 0) (aa 2)) (au (cU (aa 0) (aa 2)) aQ)))⟩)) aq) m.tuple) aQ)))))))
 (aD (aW (bh (au (aa 1) (au (cB (ak (aa 3) aq) m.tuple) (au (cB (ak (aa 6) aq) m.tuple) aQ))))))))))) (fun as r _ h=>h)
abbrev gr:Stmt:=top 25
theorem xY:bC ["_law_cell_here","_law_many","_law_left","_law_found","_law_k"] ["_law_cell_here","_law_many"] (ay gr):=⟨rfl,rfl,rfl,by decide +kernel,rfl,by decide +kernel,by decide +kernel⟩
theorem uY (m:fU w K mg) (F:dR K "_law_order" "_law_order" gr f fd) (hm:mg "_law_order"=some (.ref f)):bS P w K mg base 1 2 "_law_order" K55.iu:=
 have sc:=xY
 bR (k:=0) (gB:=K55.pS) F hm sc (fun _ _ _ _ _ _ us hl=>match us,hl with | [_,_],_=>rfl) (fun cdv A outer s H E J T hr=>
 (av (aS 2 sc.nd (A3 (ak (aa 1) aq) m.range m.list))
 (av (aS 3 sc.nd (fG aQ))
 (av (bV (bL (ak (aa 1) aq) m.range) (aG 4 sc.nd) (av (yK 3 2 (cU (aa 0) (cD (ak (aa 2) aq) m.len)))
 (aD (aS 0 sc.nd (eV (aa 0) az)))))
 (aD (aW (cB (ak (aa 3) aq) m.tuple))))))) (fun as r _ h=>h)
abbrev fJ:Stmt:=top 26
theorem vq:bC ["_law_world_here","_law_order_here","_law_marks","_law_arrows"] ["_law_world_here","_law_order_here"] (ay fJ):=⟨rfl,rfl,rfl,by decide +kernel,rfl,by decide +kernel,by decide +kernel⟩
theorem sV (m:fU w K mg) (F:dR K "_law_turned" "_law_turned" fJ f fd) (hm:mg "_law_turned"=some (.ref f)):bS P w K mg base 1 2 "_law_turned" K55.iW:=
 have sc:=vq
 bR (k:=0) (gB:=K55.n_) F hm sc (fun _ _ _ _ _ _ us hl=>match us,hl with | [_,_],_=>rfl) (fun cdv A outer s H E J T hr=>
 (av (uC 2 ["_law_name","_law_points"] [1] sc.nd (fB (aH (aa 0) az)) (fun _ _ _ _ _ hc=>⟨(cG (aT (aG 0 (dw rfl)) (aT (aG 1 (dw rfl)) bW))),cK,(bh (au (aa 0) (au (cB (ak (uE hr.units (ak (dG ["_law_p"] [2] (fB (aa 1)) (fun _ _ _ _ _ hc=>⟨(aG 0 (dw rfl)),cK,(aH (aa 1) (aa 0))⟩) (hcl:=zf hc rfl)) aq) m.sorted) aq) m.tuple) aQ)))⟩))
 (av (uC 3 ["_law_name","_law_some"] [1] sc.nd (fB (aH (aa 0) az)) (fun _ _ _ _ _ hc=>⟨(cG (aT (aG 0 (dw rfl)) (aT (aG 1 (dw rfl)) bW))),cK,(bh (au (aa 0) (au (cB (ak (uE hr.units (ak (dG ["_law_p","_law_q"] [2] (fB (aa 1)) (fun _ _ _ _ _ hc=>⟨(cG (aT (aG 0 (dw rfl)) (aT (aG 1 (dw rfl)) bW))),cK,(bh (au (aH (aa 2) (aa 0)) (au (aH (aa 2) (aa 1)) aQ)))⟩) (hcl:=zf hc rfl)) aq) m.sorted) aq) m.tuple) aQ)))⟩))
 (aD (aW (bh (au (aH (aa 0) az) (au (cB (ak (aa 2) aq) m.tuple) (au (cB (ak (aa 3) aq) m.tuple) aQ))))))))) (fun as r _ h=>h)
abbrev eW:Stmt:=top 27
theorem tY:bC ["_law_world_here","_law_cell_here","_law_many","_law_marks","_law_arrows","_law_at","_law_thing","_law_some","_law_name","_law_had","_law_now"] ["_law_world_here","_law_cell_here"] (ay eW):=⟨rfl,rfl,rfl,by decide +kernel,rfl,by decide +kernel,by decide +kernel⟩
theorem qP (m:fU w K mg) (F:dR K "_law_flipped" "_law_flipped" eW f fd) (hm:mg "_law_flipped"=some (.ref f)):bS P w K mg base 1 2 "_law_flipped" K55.eT:=
 have sc:=tY
 bR (k:=0) (gB:=K55.nI) F hm sc (fun _ _ _ _ _ _ us hl=>match us,hl with | [_,_],_=>rfl) (fun cdv A outer s H E J T hr=>
 (av (kF (aa 0) (cG (aT (aG 2 sc.nd) (aT (aG 3 sc.nd) (aT (aG 4 sc.nd) bW)))))
 (av (bF (oG hr.units (gO (cD (ak (aa 3) aq) m.len) (cD (ak (aa 4) aq) m.len)) az) (aD (aW (aa 0))) bx)
 (av (aS 5 sc.nd (cU (aa 1) (gO (cD (ak (aa 3) aq) m.len) (cD (ak (aa 4) aq) m.len))))
 (av (aS 6 sc.nd (cU (eV (aa 1) az) (aa 2)))
 (av (aS 7 sc.nd (aa 3))
 (av (bF (gX Lq (iA fun _ _ _=>.bl _) (aa 5) (cD (ak (aa 3) aq) m.len)) (av (aS 5 sc.nd (tX (aa 5) (cD (ak (aa 3) aq) m.len)))
 (av (aS 6 sc.nd (bh (au (aa 6) (au (cU (eV (aa 1) az) (aa 2)) aQ))))
 (aD (aS 7 sc.nd (aa 4))))) bx)
 (av (kF (aH (aa 7) (aa 5)) (cG (aT (aG 8 sc.nd) (aT (aG 9 sc.nd) bW))))
 (av (aS 10 sc.nd (cB (ak (CO hr.units (ak (gO (aa 9) (bh (au (aa 6) aQ))) aq) m.sorted m.set) aq) m.tuple))
 (av (bF (Kq hr.units (aa 6) (aa 9)) (aD (aS 10 sc.nd (cB (ak (dG ["_law_one"] [6] (fB (aa 9)) (fun _ _ _ _ _ hc=>⟨(aG 0 (dw rfl)),(jI (mq hr.units (aa 0) (aa 1))),(aa 0)⟩)) aq) m.tuple))) bx)
 (av (aS 7 sc.nd (gO (gO (zL (aa 7) uF (uG (aa 5))) (bh (au (bh (au (aa 8) (au (aa 10) aQ))) aQ))) (zL (aa 7) (uG (gO (aa 5) az)) uF)))
 (av (bF (dM (fh kit_tuple lF m.tuple (aa 6) m.isinstance)) (aD (aW (bh (au (aa 2) (au (aa 3) (au (aa 7) aQ)))))) bx)
 (aD (aW (bh (au (aa 2) (au (aa 7) (au (aa 4) aQ)))))))))))))))))) (fun as r _ h=>h)
abbrev iR:Stmt:=top 28
theorem A8:bC ["_law_script","_law_sizes","_law_first","_law_second","_law_marks","_law_names_here","_law_one","_law_way","_law_other"] ["_law_script","_law_sizes"] (ay iR):=⟨rfl,rfl,rfl,by decide +kernel,rfl,by decide +kernel,by decide +kernel⟩
theorem yE (m:fU w K mg) (h_law_cell:bS P w K mg base 1 2 "_law_cell" K51.bX) (h_law_names:bS P w K mg base 1 2 "_law_names" K51.f_) (h_law_world:bS P w K mg base 2 3 "_law_world" K51.fq) (h_law_order:bS P w K mg base 1 2 "_law_order" K55.iu) (h_law_turned:bS P w K mg base 1 2 "_law_turned" K55.iW) (h_law_flipped:bS P w K mg base 1 2 "_law_flipped" K55.eT) (F:dR K "_law_two" "_law_two" iR f fd) (hm:mg "_law_two"=some (.ref f)):bS P w K mg base 3 2 "_law_two" K55.jz:=
 have sc:=A8
 bR (k:=2) (gB:=K55.um) F hm sc (fun _ _ _ _ _ _ us hl=>match us,hl with | [_,_],_=>rfl) (fun cdv A outer s H E J T hr=>
 (av (aS 2 sc.nd (a_ h_law_cell hr (ak (aa 0) (ak az aq))))
 (av (aS 3 sc.nd (a_ h_law_cell hr (ak (aa 0) (ak az aq))))
 (av (aS 4 sc.nd (a_ h_law_names hr (ak (eV (aa 3) az) (ak (aH (fG (au az (au az (au az (au az aQ))))) (cU (aa 3) az)) aq))))
 (av (qx 4 (aS 5 sc.nd (bh (au (aa 4) (au (a_ h_law_names hr (ak (a_ h_law_cell hr (ak (aa 0) (ak az aq))) (ak (aH (fG (au az (au az (au az (au az (au az aQ)))))) (cU (eV (aa 3) az) az)) aq))) aQ)))))
 (av (aS 6 sc.nd (a_ h_law_world hr (ak (aa 5) (ak (aH (aa 1) (cU (aa 2) az)) (ak (dG ["_law_k"] [0] (jr (bL (ak az aq) m.range)) (fun _ _ _ _ _ hc=>⟨(aG 0 (dw rfl)),cK,(a_ h_law_cell hr (ak (aa 1) (ak (gP az (aa 0)) aq)))⟩)) aq)))))
 (av (aS 7 sc.nd (cU (eV (aa 2) az) az))
 (av (bF (oG hr.units (aa 7) az) (aD (aW (bh (au (aa 6) (au (a_ h_law_world hr (ak (aa 5) (ak (aH (aa 1) (cU (eV (aa 2) az) az)) (ak (dG ["_law_k"] [0] (jr (bL (ak az aq) m.range)) (fun _ _ _ _ _ hc=>⟨(aG 0 (dw rfl)),cK,(a_ h_law_cell hr (ak (aa 1) (ak (gP az (aa 0)) aq)))⟩)) aq)))) aQ))))) bx)
 (av (aS 8 sc.nd (a_ h_law_turned hr (ak (aa 6) (ak (a_ h_law_order hr (ak (a_ h_law_cell hr (ak (aa 0) (ak az aq))) (ak (aH (aa 6) az) aq))) aq))))
 (av (bF (gX oZ (iA fun _ _ _=>.bl _) (aa 7) az) (aD (aS 8 sc.nd (a_ h_law_flipped hr (ak (aa 8) (ak (a_ h_law_cell hr (ak (aa 0) (ak az aq))) aq))))) bx)
 (av (bF (oG hr.units (aa 7) az) (aD (aS 8 sc.nd (a_ h_law_flipped hr (ak (aa 8) (ak (a_ h_law_cell hr (ak (aa 0) (ak az aq))) aq))))) bx)
 (aD (aW (bh (au (aa 6) (au (aa 8) aQ)))))))))))))))) (fun as r _ h=>h)
abbrev g_:Stmt:=top 29
theorem yR:bC ["_law_one","_law_other","_law_pairs","_law_a","_law_b","_law_here","_law_there","_law_c","_law_d"] ["_law_one","_law_other","_law_pairs"] (ay g_):=⟨rfl,rfl,rfl,by decide +kernel,rfl,by decide +kernel,by decide +kernel⟩
theorem wK (m:fU w K mg) (F:dR K "_law_fits" "_law_fits" g_ f fd) (hm:mg "_law_fits"=some (.ref f)):bS P w K mg base 1 3 "_law_fits" K22.gU:=
 have sc:=yR
 bR (k:=0) (gB:=K22.rH) F hm sc (fun _ _ _ _ _ _ us hl=>match us,hl with | [_,_,_],_=>rfl) (fun cdv A outer s H E J T hr=>
 (av (bV (gQ (aa 2)) (cG (aT (aG 3 sc.nd) (aT (aG 4 sc.nd) bW))) (av (bV (xR (ak (aH (aa 0) az) (ak (aH (aa 1) az) aq)) m.zip) (cG (aT (aG 5 sc.nd) (aT (aG 6 sc.nd) bW))) (aD (bF (mq hr.units (mw hr.units (aa 3) (aH (aa 5) az)) (mw hr.units (aa 4) (aH (aa 6) az))) (aD (aW cT)) bx)))
 (aD (bV (gQ (aa 2)) (cG (aT (aG 7 sc.nd) (aT (aG 8 sc.nd) bW))) (av (bF (mq hr.units (kG hr.units (aa 3) (aa 7)) (kG hr.units (aa 4) (aa 8))) (aD (aW cT)) bx)
 (aD (bV (xR (ak (aH (aa 0) az) (ak (aH (aa 1) az) aq)) m.zip) (cG (aT (aG 5 sc.nd) (aT (aG 6 sc.nd) bW))) (aD (bF (mq hr.units (mw hr.units (bh (au (aa 3) (au (aa 7) aQ))) (aH (aa 5) az)) (mw hr.units (bh (au (aa 4) (au (aa 8) aQ))) (aH (aa 6) az))) (aD (aW cT)) bx)))))))))
 (aD (aW cT)))) (fun as r _ h=>h)
abbrev gu:Stmt:=top 30
theorem xZ:bC ["_law_found"] ["_law_found"] (ay gu):=⟨rfl,rfl,rfl,by decide +kernel,rfl,by decide +kernel,by decide +kernel⟩
theorem uZ (m:fU w K mg) (F:dR K "_law_whole" "_law_whole" gu f fd) (hm:mg "_law_whole"=some (.ref f)):bS P w K mg base 1 1 "_law_whole" K01.gE:=
 have sc:=xZ
 bR (k:=0) (gB:=K01.oj) F hm sc (fun _ _ _ _ _ _ us hl=>match us,hl with | [_],_=>rfl) (fun cdv A outer s H E J T hr=>
 (aD (aW (zH (fh zw ue m.int (aa 0) m.isinstance) (qy (zK (fh xu qN m.bool (aa 0) m.isinstance))))))) (fun as r _ h=>h)
abbrev fH:Stmt:=top 31
theorem vp:bC ["_law_pairs","_law_one","_law_other","_law_pair","_law_k"] ["_law_pairs","_law_one","_law_other"] (ay fH):=⟨rfl,rfl,rfl,by decide +kernel,rfl,by decide +kernel,by decide +kernel⟩
theorem sU (m:fU w K mg) (h_law_whole:bS P w K mg base 1 1 "_law_whole" K01.gE) (h_law_fits:bS P w K mg base 1 3 "_law_fits" K22.gU) (F:dR K "_law_is_one" "_law_is_one" fH f fd) (hm:mg "_law_is_one"=some (.ref f)):bS P w K mg base 2 3 "_law_is_one" K22.iV:=
 have sc:=vp
 bR (k:=1) (gB:=K22.nZ) F hm sc (fun _ _ _ _ _ _ us hl=>match us,hl with | [_,_,_],_=>rfl) (fun cdv A outer s H E J T hr=>
 (av (bF (dJ (dM (fh kit_tuple lF m.tuple (aa 0) m.isinstance))) (aD (aW cT)) bx)
 (av (bV (gQ (aa 0)) (aG 3 sc.nd) (av (bF (gn (jG (dJ (dM (fh kit_tuple lF m.tuple (aa 3) m.isinstance))) (jt (mq hr.units (cD (ak (aa 3) aq) m.len) az)))) (aD (aW cT)) bx)
 (av (bF (gn (jG (dJ (dM (a_ h_law_whole hr (ak (aH (aa 3) az) aq)))) (jt (dJ (dM (a_ h_law_whole hr (ak (aH (aa 3) az) aq))))))) (aD (aW cT)) bx)
 (aD (bF (gn (jG (dJ (CM FE vN az (aH (aa 3) az) (aH (aa 1) az))) (jt (dJ (CM FE vN az (aH (aa 3) az) (aH (aa 2) az)))))) (aD (aW cT)) bx)))))
 (av (bV (yM (ak az (ak (cD (ak (aa 0) aq) m.len) aq)) m.range) (aG 4 sc.nd) (aD (bF (dJ (tV hr.units (aH (aa 0) (tX (aa 4) az)) (aH (aa 0) (aa 4)))) (aD (aW cT)) bx)))
 (aD (aW (a_ h_law_fits hr (ak (aa 1) (ak (aa 2) (ak (aa 0) aq)))))))))) (fun as r _ h=>h)
abbrev iQ:Stmt:=top 32
theorem A7:bC ["_law_found","_law_one","_law_other","_law_most","_law_known","_law_pairs","_law_a","_law_b","_law_more","_law_above"] ["_law_found","_law_one","_law_other","_law_most"] (ay iQ):=⟨rfl,rfl,rfl,by decide +kernel,rfl,by decide +kernel,by decide +kernel⟩
theorem yD (m:fU w K mg) (h_law_fits:bS P w K mg base 1 3 "_law_fits" K22.gU) (F:dR K "_law_all" "_law_all" iQ f fd) (hm:mg "_law_all"=some (.ref f)):bS P w K mg base 2 4 "_law_all" K22.kM:=
 have sc:=A7
 bR (k:=1) (gB:=K22.uh) F hm sc (fun _ _ _ _ _ _ us hl=>match us,hl with | [_,_,_,_],_=>rfl) (fun cdv A outer s H E J T hr=>
 (av (CN 4 sc.nd)
 (av (bV (gQ (aa 0)) (aG 5 sc.nd) (aD (ET 4 hr.units cT (aa 5))))
 (av (bF (se hr.units (bh aQ) (aa 4)) (aD (aW cT)) bx)
 (av (bV (gQ (aa 0)) (aG 5 sc.nd) (aD (bF (tV hr.units (cD (ak (aa 5) aq) m.len) (aa 3)) (aD (bV (bL (ak (aH (aa 1) az) aq) m.range) (aG 6 sc.nd) (aD (bV (bL (ak (aH (aa 2) az) aq) m.range) (aG 7 sc.nd) (av (aS 8 sc.nd (gO (aa 5) (bh (au (bh (au (aa 6) (au (aa 7) aQ))) aQ))))
 (av (aS 9 sc.nd (Kr (kG hr.units (aa 5) (bh aQ)) (qy (HH hr.units (aH (aa 5) (zJ az)) (bh (au (aa 6) (au (aa 7) aQ)))))))
 (aD (bF (gn (pg (pq (aa 9)) (pg (se hr.units (aa 8) (aa 4)) (qw (dM (a_ h_law_fits hr (ak (aa 1) (ak (aa 2) (ak (aa 8) aq))))))))) (aD (aW cT)) bx)))))))) bx)))
 (aD (aW cT))))))) (fun as r _ h=>h)
abbrev nv:Stmt:=top 33
theorem LU:bC ["_law_script","_law_one","_law_other","_law_most","_law_found","_law_k","_law_ahead","_law_kept"] ["_law_script"] (ay nv):=⟨rfl,rfl,rfl,by decide +kernel,rfl,by decide +kernel,by decide +kernel⟩
theorem Lp (m:fU w K mg) (h_law_two:bS P w K mg base 3 2 "_law_two" K55.jz) (h_law_cell:bS P w K mg base 1 2 "_law_cell" K51.bX) (Np:bS P w K mg base 4 3 "pairings" K23.jA) (h_law_is_one:bS P w K mg base 2 3 "_law_is_one" K22.iV) (h_law_all:bS P w K mg base 2 4 "_law_all" K22.kM) (F:dR K "law" "law" nv f fd):jl P w K mg base nD 5 f fd ["_law_script"] (sD K 1 K22.sO):=
 have sc:=LU
 HE (k:=4) (gB:=K22.IP) F sc (fun cdv A outer s H E J T hr=>
 (av (kF (a_ h_law_two hr (ak (aa 0) (ak (fG (au az (au az (au az (au az (au az (au az (au az (au az aQ))))))))) aq))) (cG (aT (aG 1 sc.nd) (aT (aG 2 sc.nd) bW))))
 (av (aS 3 sc.nd (cU (a_ h_law_cell hr (ak (aa 0) (ak az aq))) az))
 (av (aS 4 sc.nd (a_ Np hr (ak (aa 1) (ak (aa 2) (ak (aa 3) aq)))))
 (av (bF (dJ (dM (fh D0 Aq m.list (aa 4) m.isinstance))) (aD (aW cT)) bx)
 (av (bV (bL (ak (cD (ak (aa 4) aq) m.len) aq) m.range) (aG 5 sc.nd) (av (bF (gn (jG (dJ (dM (a_ h_law_is_one hr (ak (aH (aa 4) (aa 5)) (ak (aa 1) (ak (aa 2) aq)))))) (jt (gX oZ (iA fun _ _ _=>.bl _) (cD (ak (aH (aa 4) (aa 5)) aq) m.len) (aa 3))))) (aD (aW cT)) bx)
 (aD (bF (gX oZ (iA fun _ _ _=>.bl _) (aa 5) az) (av (aS 6 sc.nd (aH (aa 4) (tX (aa 5) az)))
 (aD (bF (gn (jG (gX oZ (iA fun _ _ _=>.bl _) (cD (ak (aa 6) aq) m.len) (cD (ak (aH (aa 4) (aa 5)) aq) m.len)) (jt (gn (pg (oG hr.units (cD (ak (aa 6) aq) m.len) (cD (ak (aH (aa 4) (aa 5)) aq) m.len)) (qw (dJ (tV hr.units (aa 6) (aH (aa 4) (aa 5)))))))))) (aD (aW cT)) bx))) bx))))
 (av (bF (dJ (dM (a_ h_law_all hr (ak (aa 4) (ak (aa 1) (ak (aa 2) (ak (aa 3) aq))))))) (aD (aW cT)) bx)
 (av (aS 7 sc.nd (EU (ak (aa 4) aq) m.list))
 (av (ES 4)
 (aD (aW (kG hr.units (a_ Np hr (ak (aa 1) (ak (aa 2) (ak (aa 3) aq)))) (aa 7))))))))))))) (fun as r _ h=>h)
end
end K22
namespace K22
open PySem DL K01 WP K51 K52 K55 K23
section
variable {env:Ev}{tg:GT}{u t:G O}{α:Type}{h:α->D}{Q:O->Prop}{gi:G (List D)}
theorem w_all (I:Ev->Prop) (f:α->Bool):∀(xs:List α) (env:Ev),I env->(∀x∈xs,∀env,I env->∃e,tg (h x) env=.ok e/\Wp (u e) fun o=>(f x=true/\∃e',o=.nx e'/\I e')\/(f x=false/\o=.rt (.d (.bl false))))->
  Wp (fD tg u (xs.map h) env) fun o=>(xs.all f=true/\∃e',o=.nx e'/\I e')\/(xs.all f=false/\o=.rt (.d (.bl false)))
 | [],env,hI,_=>⟨.nx env,rfl,.inl ⟨rfl,env,rfl,hI⟩⟩
 | x::xs,env,hI,step=>by
  obtain ⟨e,h1,o,ho,hP⟩:=step x List.mem_cons_self env hI
  rw [List.map_cons,List.all_cons]
  show Wp (tg (h x) env >>= _) _
  rw [h1,aN,ho,aN]
  rcases hP with ⟨hf,e',rfl,hI'⟩ | ⟨hf,rfl⟩
  ·rw [hf,Bool.true_and]
   exact w_all I f xs e' hI' fun x hx=>step x (List.mem_cons_of_mem _ hx)
  ·rw [hf]
   exact ⟨_,rfl,.inr ⟨rfl,rfl⟩⟩
theorem oR (I:Ev->Prop) (xs:List α) (h0:I env) (step:∀x∈xs,∀e,I e->∃e',tg (h x) e=.ok e'/\Wp (u e') fun o=>∃e,o=.nx e/\I e) (k:∀e,I e->Q (.nx e)):Wp (fD tg u (xs.map h) env) Q:=by
 refine (w_all I (fun _=>true) xs env h0 fun x hx e he=>?_).mono ?_
 ·obtain ⟨e',a,b⟩:=step x hx e he
  exact ⟨e',a,b.mono fun o ⟨e,h1,h2⟩=>.inl ⟨rfl,e,h1,h2⟩⟩
 ·rintro o (⟨_,e,rfl,hI⟩ | ⟨z,_⟩)
  ·exact k e hI
  ·simp at z
theorem FL (I:Ev->Prop) (f:α->Bool) (xs:List α) (hg:gi env=.ok (xs.map h)) (h0:I env) (step:∀x∈xs,∀env,I env->∃e,tg (h x) env=.ok e/\Wp (u e) fun o=>(f x=true/\∃e',o=.nx e'/\I e')\/(f x=false/\o=.rt (.d (.bl false))))
  (k1:xs.all f=true->∀e,I e->Wp (t e) Q) (k2:xs.all f=false->Q (.rt (.d (.bl false)))):Wp (aL (cZ gi tg u) t env) Q:=by
 refine gY hg ((w_all I f xs env h0 step).mono ?_)
 rintro o (⟨z,e,rfl,hI⟩ | ⟨z,rfl⟩)
 ·exact k1 z e hI
 ·exact k2 z
theorem Fx (I:Ev->Prop) (f:α->Bool) (xs:List α) (hg:gi env=.ok (xs.map h)) (h0:I env) (step:∀x∈xs,∀env,I env->∃e,tg (h x) env=.ok e/\Wp (u e) fun o=>(f x=true/\∃e',o=.nx e'/\I e')\/(f x=false/\o=.rt (.d (.bl false)))):
  Wp (cZ gi tg u env) fun o=>(xs.all f=true/\∃e',o=.nx e'/\I e')\/(xs.all f=false/\o=.rt (.d (.bl false))):=rR hg (w_all I f xs env h0 step)
end
theorem Aw (neg a b:Bool):cR neg (.d (.bl a)) (.d (.bl b))=.ok (.d (.bl (if neg then !(a == b) else a == b))):=by
 cases neg <;> cases a <;> cases b <;> rfl
theorem zip_rows {α β:Type}(f:α->D) (g:β->D) (xs:List α) (ys:List β):List.zipWith (fun a b=>D.tup [a,b]) (xs.map f) (ys.map g)=(xs.zip ys).map fun r=>D.tup [f r.1,g r.2]:=by
 rw [List.zipWith_map,List.zip,List.map_zipWith]
def mB (v w:Wd) (p:Nat×Nat):Bool:=(v.ms.zip w.ms).all fun r=>decide (p.1∈r.1.2) == decide (p.2∈r.2.2)
def aB (v w:Wd) (p q:Nat×Nat):Bool:=(v.ar.zip w.ar).all fun r=>decide ((p.1,q.1)∈r.1.2) == decide ((p.2,q.2)∈r.2.2)
def eB (p q:Nat×Nat):Bool:=(p.1 == q.1) == (p.2 == q.2)
def tE (v w:Wd) (ps:List (Nat×Nat)):Bool:=ps.all fun p=>mB v w p && ps.all fun q=>eB p q && aB v w p q
theorem mK {α β:Type}(f:α->Bool) (g:β->Bool):∀{xs:List α}{ys:List β},xs.length=ys.length->(((xs.zip ys).all fun r=>f r.1 == g r.2)=true↔xs.map f=ys.map g)
 | [],[],_=>by simp
 | x::xs,y::ys,h=>by
  have ih:=mK f g (xs:=xs) (ys:=ys) (by simpa using h)
  rw [List.zip_cons_cons,List.all_cons,Bool.and_eq_true,ih,List.map_cons,List.map_cons,List.cons.injEq,beq_iff_eq]
theorem zk {v w:Wd}(t:Pr v w) (ps:List (Nat×Nat)):tE v w ps=true↔∀p∈ps,∀q∈ps,vS v w p q:=by
 have l1:v.ms.length=w.ms.length:=by have:=congrArg List.length t.mn;simpa using this
 have l2:v.ar.length=w.ar.length:=by have:=congrArg List.length t.an;simpa using this
 have e1:∀p q:Nat×Nat,eB p q=true↔(p.1=q.1↔p.2=q.2):=fun p q=>by
  unfold eB
  rw [beq_iff_eq,Bool.eq_iff_iff,beq_iff_eq,beq_iff_eq]
 unfold tE
 rw [List.all_eq_true]
 constructor
 ·intro h p hp q hq
  have h1:=h p hp
  rw [Bool.and_eq_true,List.all_eq_true] at h1
  have h2:=h1.2 q hq
  rw [Bool.and_eq_true] at h2
  exact ⟨(e1 p q).mp h2.1,(mK (fun r:Str×List Nat=>decide (p.1∈r.2)) (fun r:Str×List Nat=>decide (p.2∈r.2)) l1).mp h1.1,(mK (fun r:Str×List (Nat×Nat)=>decide ((p.1,q.1)∈r.2)) (fun r:Str×List (Nat×Nat)=>decide ((p.2,q.2)∈r.2)) l2).mp h2.2⟩
 ·intro h p hp
  rw [Bool.and_eq_true,List.all_eq_true]
  refine ⟨(mK (fun r:Str×List Nat=>decide (p.1∈r.2)) (fun r:Str×List Nat=>decide (p.2∈r.2)) l1).mpr (h p hp p hp).ms,fun q hq=>?_⟩
  rw [Bool.and_eq_true]
  exact ⟨(e1 p q).mpr (h p hp q hq).eq,(mK (fun r:Str×List (Nat×Nat)=>decide ((p.1,q.1)∈r.2)) (fun r:Str×List (Nat×Nat)=>decide ((p.2,q.2)∈r.2)) l2).mpr (h p hp q hq).ar⟩
abbrev eF (v w:Wd) (ps:List (Nat×Nat)) (a b c d e f:Option S):Ev:=[some (.d v.d),some (.d w.d),some (.d (bP ps)),a,b,c,d,e,f]
theorem Bp (v w:Wd) (ps:List (Nat×Nat)):gU [.d v.d,.d w.d,.d (bP ps)]=.ok (.d (.bl (tE v w ps))):=by
 refine fX (FL (h:=dP) (fun env=>∃a b c d e f:Option S,env=(eF v w ps a b c d e f)) (fun p=>mB v w p && ps.all fun q=>eB p q && aB v w p q) ps rfl ⟨none,none,none,none,none,none,rfl⟩ ?_ (fun z e _=>cg rfl rfl (by unfold tE;rw [z])) (fun z=>by unfold tE;rw [z]))
 rintro p _ _ ⟨_,_,c0,d0,e0,f0,rfl⟩
 refine ⟨(eF v w ps (some (.d (dN p.1))) (some (.d (dN p.2))) c0 d0 e0 f0),rfl,?_⟩
 refine FL (h:=fun r:(Str×List Nat)×(Str×List Nat)=>D.tup [gR r.1,gR r.2]) (fun env=>∃c d e f:Option S,env=(eF v w ps (some (.d (dN p.1))) (some (.d (dN p.2))) c d e f)) (fun r=>decide (p.1∈r.1.2) == decide (p.2∈r.2.2)) (v.ms.zip w.ms) ?_ ⟨c0,d0,e0,f0,rfl⟩ ?_ (fun z e he=>?_) (fun z=>.inr ⟨by show (mB v w p && _)=false;unfold mB;rw [z];rfl,rfl⟩)
 ·exact congrArg M.ok (zip_rows gR gR v.ms w.ms)
 ·rintro r _ _ ⟨_,_,e0,f0,rfl⟩
  refine ⟨(eF v w ps (some (.d (dN p.1))) (some (.d (dN p.2))) (some (.d (gR r.1))) (some (.d (gR r.2))) e0 f0),rfl,?_⟩
  refine tN (c:=!(decide (p.1∈r.1.2) == decide (p.2∈r.2.2))) (dH (two rfl (two rfl rfl (uq _ _ _)) (m9 false (dN p.1) (r.1.2.map dN) (wW _) (Nat.zero_le _))) (two rfl (two rfl rfl (uq _ _ _)) (m9 false (dN p.2) (r.2.2.map dN) (wW _) (Nat.zero_le _))) ?_) (fun z=>cg rfl rfl (.inr ⟨by simpa using z,rfl⟩)) (fun z=>iJ (.inl ⟨by simpa using z,_,rfl,_,_,_,_,rfl⟩))
  show cR true (.d (.bl (inD (dN p.1) (r.1.2.map dN)))) (.d (.bl (inD (dN p.2) (r.2.2.map dN))))=_
  rw [K55.inN,K55.inN,Aw]
  rfl
 ·obtain ⟨c0,d0,e0,f0,rfl⟩:=he
  have hm:mB v w p=true:=z
  refine (Fx (h:=dP) (fun env=>∃c d e f:Option S,env=(eF v w ps (some (.d (dN p.1))) (some (.d (dN p.2))) c d e f)) (fun q=>eB p q && aB v w p q) ps rfl ⟨c0,d0,e0,f0,rfl⟩ ?_).mono ?_
  ·rintro q _ _ ⟨c0,d0,_,_,rfl⟩
   refine ⟨(eF v w ps (some (.d (dN p.1))) (some (.d (dN p.2))) c0 d0 (some (.d (dN q.1))) (some (.d (dN q.2)))),rfl,?_⟩
   have he:bB (g2 (cR true) (g2 (cR false) (af 3) (af 7)) (g2 (cR false) (af 4) (af 8))) (eF v w ps (some (.d (dN p.1))) (some (.d (dN p.2))) c0 d0 (some (.d (dN q.1))) (some (.d (dN q.2))))=.ok (!eB p q):=by
    refine dH (two rfl rfl (mY false (.d (dN p.1)) (.d (dN q.1)) (Nat.zero_le _) (Nat.zero_le _))) (two rfl rfl (mY false (.d (dN p.2)) (.d (dN q.2)) (Nat.zero_le _) (Nat.zero_le _))) ?_
    show cR true (.d (.bl (aZ (dN p.1) (dN q.1)))) (.d (.bl (aZ (dN p.2) (dN q.2))))=_
    rw [K55.nG,K55.nG,Aw]
    rfl
   cases hc:eB p q with
   | false=>
    rw [hc] at he
    exact LS he (LR rfl rfl (.inr ⟨rfl,rfl⟩))
   | true=>
    rw [hc] at he
    refine dh he ?_
    refine (Fx (h:=fun r:(Str×List (Nat×Nat))×(Str×List (Nat×Nat))=>D.tup [je r.1,je r.2]) (fun env=>∃c d:Option S,env=(eF v w ps (some (.d (dN p.1))) (some (.d (dN p.2))) c d (some (.d (dN q.1))) (some (.d (dN q.2))))) (fun r=>decide ((p.1,q.1)∈r.1.2) == decide ((p.2,q.2)∈r.2.2)) (v.ar.zip w.ar) (congrArg M.ok (zip_rows je je v.ar w.ar)) ⟨c0,d0,rfl⟩ ?_).mono ?_
    ·rintro r _ _ ⟨_,_,rfl⟩
     refine ⟨(eF v w ps (some (.d (dN p.1))) (some (.d (dN p.2))) (some (.d (je r.1))) (some (.d (je r.2))) (some (.d (dN q.1))) (some (.d (dN q.2)))),rfl,?_⟩
     refine tN (c:=!(decide ((p.1,q.1)∈r.1.2) == decide ((p.2,q.2)∈r.2.2))) (dH (two (bz (aJ rfl rfl (aJ rfl rfl bu)) (by show 2<=1000;decide)) (two rfl rfl (uq _ _ _)) (m9 false (dP (p.1,q.1)) (r.1.2.map dP) (qR _) (by show 1<=60;decide))) (two (bz (aJ rfl rfl (aJ rfl rfl bu)) (by show 2<=1000;decide)) (two rfl rfl (uq _ _ _)) (m9 false (dP (p.2,q.2)) (r.2.2.map dP) (qR _) (by show 1<=60;decide))) ?_) (fun z=>cg rfl rfl (.inr ⟨by simpa using z,rfl⟩)) (fun z=>iJ (.inl ⟨by simpa using z,_,rfl,_,_,rfl⟩))
     show cR true (.d (.bl (inD (dP (p.1,q.1)) (r.1.2.map dP)))) (.d (.bl (inD (dP (p.2,q.2)) (r.2.2.map dP))))=_
     rw [K55.IT,K55.IT,Aw]
     rfl
    ·rintro o (⟨z,e,rfl,c1,d1,rfl⟩ | ⟨z,rfl⟩)
     ·exact .inl ⟨z,_,rfl,c1,d1,_,_,rfl⟩
     ·exact .inr ⟨z,rfl⟩
  ·rintro o (⟨z,e,rfl,c1,d1,e1,f1,rfl⟩ | ⟨z,rfl⟩)
   ·exact .inl ⟨by rw [hm,z];rfl,_,rfl,_,_,_,_,_,_,rfl⟩
   ·exact .inr ⟨by rw [hm,z];rfl,rfl⟩
theorem Fo {env:Ev}{g1 g2':G R}{a b:Nat}(h1:g1 env=.ok (.d (.int a))) (h2:g2' env=.ok (.d (.int b))) (h:a < b):bB (zm (fun i j=>decide (i<=j)) (fun i j=>decide (i < j)) (gC (.int 0)) g1 g2') env=.ok true:=by
 refine Bh ?_
 unfold zm gC
 rw [aN,h1,aN]
 simp only
 rw [decide_eq_true (show (0:Int)<=a by omega),if_pos rfl,h2,aN]
 simp only
 rw [decide_eq_true (show (a:Int) < b by omega)]
theorem ME {gs:G (List R)}{env:Ev}{n:Nat}(hg:gs env=.ok [.d (.int 1),.d (.int (n:Int))]) (h:n<=1000):rD gs env=.ok ((List.range (n - 1)).map fun (k:Nat)=>D.int (1 + (k:Int))):=by
 unfold rD
 rw [hg,aN]
 simp only
 rw [if_pos (by rw [Bool.and_eq_true];exact ⟨cj.mpr ⟨by omega,by omega⟩,cj.mpr ⟨by omega,by omega⟩⟩)]
 unfold dO
 congr 3
 omega
theorem Lj {p q:Nat×Nat}(h:p.1 < q.1):cA (dP p) (dP q)=some true:=by
 show (if aZ (.int (p.1:Int)) (.int (q.1:Int))=true then _ else cA (.int (p.1:Int)) (.int (q.1:Int)))=some true
 have e:=K55.nG p.1 q.1
 rw [if_neg (by rw [show aZ (.int (p.1:Int)) (.int (q.1:Int))=(p.1 == q.1) from e];simp;omega)]
 show some (decide ((p.1:Int) < q.1))=_
 rw [decide_eq_true (by omega)]
theorem Mz {p q:Nat×Nat}(h:p.1 < q.1):kh (.d (dP p)) (.d (dP q))=.ok (.d (.bl true)):=by
 show (if dep (dP p)<=60/\dep (dP q)<=60 then (match cA (dP p) (dP q) with
  | some b=>M.ok (R.d (.bl b))
  | none=>.bad) else .bad)=_
 rw [if_pos ⟨by show 1<=60;decide,by show 1<=60;decide⟩,Lj h]
theorem Dp {v w:Wd}(t:Pr v w){ps:List (Nat×Nat)}(g:Good v w ps) (hl:ps.length<=4):iV [.d (bP ps),.d v.d,.d w.d]=.ok (.d (.bl true)):=by
 refine fX (dh rfl (gY (ds:=ps.map dP) rfl (oR (h:=dP) (fun env=>∃a b:Option S,env=[some (.d (bP ps)),some (.d v.d),some (.d w.d),a,b]) ps ⟨none,none,rfl⟩ ?_ ?_)))
 ·rintro p hp _ ⟨_,b,rfl⟩
  refine ⟨[some (.d (bP ps)),some (.d v.d),some (.d w.d),some (.d (dP p)),b],rfl,?_⟩
  refine dh rfl (dh rfl (ng (Cq (x:=true) (y:=true) (k_ (Fo (two rfl rfl (kY _ _)) (two rfl rfl (kY _ _)) (g.rg p hp).1)) (k_ (Fo (two rfl rfl (uq _ _ _)) (two rfl rfl (kY _ _)) (g.rg p hp).2))) (iJ ⟨_,rfl,_,_,rfl⟩)))
 ·rintro _ ⟨a,b,rfl⟩
  refine gY (ME (n:=ps.length) (by show M.ok [R.d (.int 1),R.d (.int ((ps.map dP).length:Int))]=_;rw [List.length_map]) (by omega)) (oR (fun env=>∃b:Option S,env=[some (.d (bP ps)),some (.d v.d),some (.d w.d),a,b]) (List.range (ps.length - 1)) ⟨b,rfl⟩ ?_ ?_)
  ·rintro k hk _ ⟨b,rfl⟩
   have hk:k + 1 < ps.length:=by have:=List.mem_range.mp hk;omega
   refine ⟨[some (.d (bP ps)),some (.d v.d),some (.d w.d),a,some (.d (.int (1 + (k:Int))))],rfl,?_⟩
   have x1:g2 aX (af 0) (g2 qf (af 4) (gC (.int 1))) [some (.d (bP ps)),some (.d v.d),some (.d w.d),a,some (.d (.int (1 + (k:Int))))]=.ok (.d (dP (ps[k]'(by omega)))):=by
    refine two rfl (y:=.d (.int (k:Int))) ?_ (iP (by rw [List.getElem?_map,List.getElem?_eq_getElem (by omega)];rfl))
    show M.ok (R.d (.int (1 + (k:Int) - 1)))=_
    rw [show (1 + (k:Int) - 1)=k by omega]
   have x2:g2 aX (af 0) (af 4) [some (.d (bP ps)),some (.d v.d),some (.d w.d),a,some (.d (.int (1 + (k:Int))))]=.ok (.d (dP ps[k + 1])):=by
    refine two rfl (y:=.d (.int ((k + 1:Nat):Int))) ?_ (iP (by rw [List.getElem?_map,List.getElem?_eq_getElem hk];rfl))
    show M.ok (R.d (.int (1 + (k:Int))))=_
    rw [show (1 + (k:Int))=((k + 1:Nat):Int) by omega]
   exact ng (k_ (b:=true) (dH x1 x2 (Mz (List.pairwise_iff_getElem.mp g.up k (k + 1) (by omega) hk (by omega))))) (iJ ⟨_,rfl,_,rfl⟩)
  ·rintro _ ⟨b,rfl⟩
   refine cg (c3 rfl rfl rfl (Bp v w ps)) rfl ?_
   rw [(zk t ps).mpr g.ag]
theorem Cd (p q:Nat×Nat):cA (dP p) (dP q)=some (dB (dP p) (dP q)):=by
 have h:(cA (dP p) (dP q)).isSome=true:=by
  show (if aZ (.int (p.1:Int)) (.int (q.1:Int))=true then (if aZ (.int (p.2:Int)) (.int (q.2:Int))=true then some false else some (decide ((p.2:Int) < q.2))) else some (decide ((p.1:Int) < q.1))).isSome=true
  split
  ·split <;> rfl
  ·rfl
 unfold dB
 cases z:cA (dP p) (dP q) with
 | some b=>rfl
 | none=>rw [z] at h;cases h
theorem Lb {p q:Nat×Nat}(h:aZ (dP p) (dP q)=true):p=q:=by
 have e:aZ (dP p) (dP q)=((p.1 == q.1) && ((p.2 == q.2) && true)):=by
  show aZ (.tup [dN p.1,dN p.2]) (.tup [dN q.1,dN q.2])=_
  rw [jo,gj,gj,K55.nG,K55.nG,cu]
 rw [e,Bool.and_eq_true,Bool.and_eq_true,beq_iff_eq,beq_iff_eq] at h
 exact Prod.ext h.1 h.2.1
def zB (a b:List (Nat×Nat)):Prop:=gK (a.map dP) (b.map dP)=some true
theorem xC:∀(ps:List (Nat×Nat)){p q:Nat×Nat},kC p q->zB (ps++[p]) (ps++[q])
 | [],p,q,h=>by
  show (if aZ (dP p) (dP q)=true then _ else cA (dP p) (dP q))=some true
  have hl:=(vM p q).mpr h
  rw [if_neg,Cd,hl]
  intro z
  rw [Lb z] at h
  unfold kC at h
  omega
 | x::ps,p,q,h=>by
  show (if aZ (dP x) (dP x)=true then gK ((ps++[p]).map dP) ((ps++[q]).map dP) else _)=some true
  rw [if_pos (eu _)]
  exact xC ps h
theorem zC (p q:Nat×Nat):∀{as bs:List (Nat×Nat)},as.length=bs.length->zB as bs->zB (as++[p]) (bs++[q])
 | [],[],_,h=>by cases h
 | x::as,y::bs,hl,h=>by
  have h:(if aZ (dP x) (dP y)=true then gK (as.map dP) (bs.map dP) else cA (dP x) (dP y))=some true:=h
  show (if aZ (dP x) (dP y)=true then gK ((as++[p]).map dP) ((bs++[q]).map dP) else cA (dP x) (dP y))=some true
  by_cases z:aZ (dP x) (dP y)=true
  ·rw [if_pos z] at h ⊢
   exact zC p q (by simpa using hl) h
  ·rw [if_neg z] at h ⊢
   exact h
theorem Gd (m n:Nat):(fF m n).Pairwise kC:=by
 unfold fF
 rw [List.pairwise_flatMap]
 refine ⟨fun a _=>?_,?_⟩
 ·rw [List.pairwise_map]
  exact List.pairwise_lt_range.imp fun h=>.inr ⟨rfl,h⟩
 ·refine List.pairwise_lt_range.imp fun {a b} h x hx y hy=>?_
  obtain ⟨i,_,rfl⟩:=List.mem_map.mp hx
  obtain ⟨j,_,rfl⟩:=List.mem_map.mp hy
  exact .inl h
theorem Fe (v w:Wd):∀j,(LG v w j).Pairwise zB
 | 0=>List.pairwise_singleton _ _
 | j + 1=>by
  show ((LG v w j).flatMap _).Pairwise zB
  rw [List.pairwise_flatMap]
  refine ⟨fun ah _=>?_,?_⟩
  ·rw [List.pairwise_map]
   refine List.Pairwise.imp (fun h=>xC ah h) (List.Pairwise.filter _ ?_)
   exact List.Pairwise.filter _ (Gd _ _)
  ·refine (Fe v w j).imp_of_mem fun {a b} ha hb h x hx y hy=>?_
   obtain ⟨p,_,rfl⟩:=List.mem_map.mp hx
   obtain ⟨q,_,rfl⟩:=List.mem_map.mp hy
   exact zC p q ((jM j ha).1.trans (jM j hb).1.symm) h
def ahead (a b:List (Nat×Nat)):Prop:=a.length < b.length\/(a.length=b.length/\zB a b)
theorem zS (v w:Wd):∀n,(told v w n).Pairwise ahead
 | 0=>List.pairwise_singleton _ _
 | n + 1=>by
  show (told v w n++LG v w (n + 1)).Pairwise ahead
  rw [List.pairwise_append]
  refine ⟨zS v w n,(Fe v w (n + 1)).imp_of_mem fun {a b} ha hb h=>.inr ⟨(jM _ ha).1.trans (jM _ hb).1.symm,h⟩,fun a ha b hb=>.inl ?_⟩
  obtain ⟨j,hj,h⟩:=(tZ n).mp ha
  rw [(jM j h).1,(jM _ hb).1]
  omega
theorem lC {v w:Wd}{n:Nat}{ps:List (Nat×Nat)}:ps∈told v w n↔ps.length<=n/\Good v w ps:=by
 rw [tZ]
 constructor
 ·rintro ⟨j,hj,h⟩
  obtain ⟨h1,h2⟩:=(rW j).mp h
  exact ⟨by omega,h2⟩
 ·rintro ⟨h1,h2⟩
  exact ⟨_,h1,(rW _).mpr ⟨rfl,h2⟩⟩
theorem B0 {v w:Wd}{ps:List (Nat×Nat)}(g:Good v w ps){q:Nat×Nat}(hq:pJ v w q) (ab:∀rs l,ps=rs++[l]->kC l q) (ag:∀x∈ps++[q],∀y∈ps++[q],vS v w x y):Good v w (ps++[q]):=by
 refine ⟨?_,ag,fun p hp=>?_⟩
 ·rw [List.pairwise_append]
  refine ⟨g.up,List.pairwise_singleton _ _,fun p hp r hr=>?_⟩
  rw [List.mem_singleton.mp hr]
  rcases List.eq_nil_or_concat ps with rfl | ⟨rs,l,rfl⟩
  ·cases hp
  ·rw [List.concat_eq_append] at *
   have h1:=ab rs l rfl
   have h2:=(ag l (by simp) q (by simp)).eq
   have h3:l.1 < q.1:=by
    rcases h1 with h | ⟨h,h'⟩
    ·exact h
    ·have:=h2.mp h;omega
   rcases List.mem_append.mp hp with h | h
   ·have:=(List.pairwise_append.mp g.up).2.2 p h l (by simp)
    omega
   ·rw [List.mem_singleton.mp h];exact h3
 ·rcases List.mem_append.mp hp with h | h
  ·exact g.rg p h
  ·rw [List.mem_singleton.mp h];exact hq
theorem xy:∀{ks vs:List D}{x:D},ks.length=vs.length->((fC ks vs x).isSome=true↔∃k∈ks,aZ k x=true)
 | [],[],x,_=>by simp [fC]
 | k::ks,v::vs,x,h=>by
  have ih:=xy (ks:=ks) (vs:=vs) (x:=x) (by simpa using h)
  unfold fC
  by_cases c:aZ k x=true
  ·rw [if_pos c];exact ⟨fun _=>⟨k,List.mem_cons_self,c⟩,fun _=>rfl⟩
  ·rw [if_neg c,ih]
   exact ⟨fun ⟨y,h1,h2⟩=>⟨y,List.mem_cons_of_mem _ h1,h2⟩,fun ⟨y,h1,h2⟩=>by
    rcases List.mem_cons.mp h1 with rfl | h1
    ·exact absurd h2 c
    ·exact ⟨y,h1,h2⟩⟩
theorem xP:∀(ks vs:List D) (x d:D),(qv ks vs x d).length=vs.length
 | [],vs,x,d=>rfl
 | k::ks,[],x,d=>rfl
 | k::ks,v::vs,x,d=>by
  show (_::qv ks vs x d).length=_
  rw [List.length_cons,xP ks vs x d];rfl
theorem Gn {ks vs:List D}(h:ks.length=vs.length) (k d:D):(dput (ks,vs) k d).1.length=(dput (ks,vs) k d).2.length/\(dput (ks,vs) k d).1.length<=ks.length + 1/\(∀y∈ks,y∈(dput (ks,vs) k d).1)/\∃y∈(dput (ks,vs) k d).1,aZ y k=true:=by
 unfold dput
 by_cases c:(fC ks vs k).isSome=true
 ·rw [if_pos c]
  exact ⟨by show ks.length=(qv ks vs k d).length;rw [xP];exact h,Nat.le_succ _,fun y hy=>hy,(xy h).mp c⟩
 ·rw [if_neg c]
  exact ⟨by simp [h],by simp,fun y hy=>List.mem_append_left _ hy,k,by simp,eu k⟩
theorem oz (ps:List (Nat×Nat)):dX (bP ps)=true:=by
 have h1:∀qs:List (Nat×Nat),areKeys (qs.map dP)=true:=fun qs=>by
  induction qs with
  | nil=>rfl
  | cons q qs ih=>rw [List.map_cons];unfold areKeys;rw [ih];rfl
 have h2:deps (ps.map dP)<=1:=eU fun x hx=>by obtain ⟨q,_,rfl⟩:=List.mem_map.mp hx;exact Nat.le_refl _
 show (areKeys (ps.map dP) && decide (deps (ps.map dP) + 1<=8))=true
 rw [h1,decide_eq_true (by omega)]
 rfl
section
variable {env:Ev}{g gk:G R}{r r2:R}{u:G O}{Q:O->Prop}{i:Nat}
theorem Li {ks vs:List D}{k d:D}(h0:env[i]?=some (some (.dk ks vs))) (h:g env=.ok r) (h2:toD r=.ok d) (h3:gk env=.ok r2) (h4:toD r2=.ok k) (ok:dX k=true) (hl:ks.length<=1000000) (q:Q (.nx (env.set i (some (.dk (dput (ks,vs) k d).1 (dput (ks,vs) k d).2))))):Wp (tH i gk g env) Q:=by
 refine ⟨_,?_,q⟩
 unfold tH
 rw [h0]
 simp only
 rw [h,aN,h2,aN,h3,aN,h4,aN,if_pos ⟨ok,hl⟩]
theorem rN (neg:Bool){ks vs:List D}{k:D}(ok:dX k=true):tu neg (.d k) (.mo ks vs)=.ok (.d (.bl (if neg then !(fC ks vs k).isSome else (fC ks vs k).isSome))):=by
 show (if dX k=true then _ else _)=_
 rw [if_pos ok]
theorem GR {a b:G R}(h:a env=.ok (.d (.bl true))):nY a b env=.ok (.d (.bl true)):=by
 unfold nY;rw [h];rfl
theorem Ju {a b:G R}(h:a env=.ok (.d (.bl false))) (h2:b env=.ok r):nY a b env=.ok r:=by
 unfold nY;rw [h];exact h2
theorem Cp {a b:G Bool}{k:Bool}(h1:a env=.ok false) (h2:b env=.ok k):jD a b env=.ok k:=by
 unfold jD;rw [h1];exact h2
end
theorem MG {gs:G (List R)}{env:Ev}{n:Nat}(hg:gs env=.ok [.d (.int (n:Int))]) (h:n<=1000000):cJ gs env=.ok (dO 0 n):=by
 rw [CT hg,CU _ (cj.mpr ⟨by omega,by omega⟩)]
 exact congrArg (fun k=>M.ok (dO 0 k)) (Int.toNat_natCast n)
theorem Ll (p q:Nat×Nat):kh (.d (dP p)) (.d (dP q))=.ok (.d (.bl (dB (dP p) (dP q)))):=by
 show (if dep (dP p)<=60/\dep (dP q)<=60 then (match cA (dP p) (dP q) with
  | some b=>M.ok (R.d (.bl b))
  | none=>.bad) else .bad)=_
 rw [if_pos ⟨by show 1<=60;decide,by show 1<=60;decide⟩,Cd]
theorem xO (ps:List (Nat×Nat)):dep (bP ps)<=60:=by
 have h2:deps (ps.map dP)<=1:=eU fun x hx=>by obtain ⟨q,_,rfl⟩:=List.mem_map.mp hx;exact Nat.le_refl _
 show deps (ps.map dP) + 1<=60
 omega
theorem Du {env:Ev}(ps:List (Nat×Nat)) (a b:Nat) (h5:af 5 env=.ok (.d (bP ps))) (h6:af 6 env=.ok (.d (dN a))) (h7:af 7 env=.ok (.d (dN b))):
  ∃ab,nY (g2 (cR false) (af 5) (bD aV)) (g2 kh (g2 aX (af 5) (tG (gC (.int 1)))) (bD (aA (af 6) (aA (af 7) aV)))) env=.ok (.d (.bl ab))/\(ab=true->∀rs l,ps=rs++[l]->kC l (a,b)):=by
 rcases List.eq_nil_or_concat ps with rfl | ⟨rs,l,rfl⟩
 ·exact ⟨true,GR (two h5 (bz bu (by decide)) rfl),fun _ rs l h=>by simp at h⟩
 ·rw [List.concat_eq_append] at *
  have e:cR false (.d (bP (rs++[l]))) (.d (.tup []))=.ok (.d (.bl false)):=by
   rw [mY false (.d (bP (rs++[l]))) (.d (.tup [])) (xO _) (by decide)]
   cases rs <;> rfl
  refine ⟨dB (dP l) (dP (a,b)),Ju (two h5 (bz bu (by decide)) e) (two (two h5 rfl (by show aX (.d (.tup ((rs++[l]).map dP))) _=_;rw [List.map_append];exact zu _ _)) (bz (aJ h6 rfl (aJ h7 rfl bu)) (by show 2<=1000;decide)) (Ll l (a,b))),fun h rs' l' e'=>?_⟩
  have:l'=l:=by
   have:=congrArg List.getLast? e'
   simpa using this.symm
  rw [this]
  exact (vM l (a,b)).mp h
abbrev eA (L:List (List (Nat×Nat))) (v w:Wd) (n:Nat) (ks vs:List D) (a b c d e:Option S):Ev:=[some (.bor (L.map bP)),some (.d v.d),some (.d w.d),some (.d (.int n)),some (.dk ks vs),a,b,c,d,e]
theorem K6 {v w:Wd}(t:Pr v w) (n:Nat) (hn:n<=4):kM [.bor ((told v w n).map bP),.d v.d,.d w.d,.d (.int n)]=.ok (.d (.bl true)):=by
 have v4:=t.v4
 have w4:=t.w4
 have tl:=nA t n hn
 obtain ⟨L,hL⟩:∃L,L=told v w n:=⟨_,rfl⟩
 rw [<-hL] at tl ⊢
 refine fX (cW ⟨_,rfl,gY (ds:=L.map bP) rfl (yq (fun k env=>∃(ks vs:List D) (x:Option S),env=(eA L v w n ks vs x none none none none)/\ks.length=vs.length/\ks.length<=k/\∀ps∈L.take k,∃y∈ks,aZ y (bP ps)=true) (L.map bP) ⟨[],[],none,rfl,rfl,Nat.zero_le _,by simp⟩ ?_ ?_)⟩)
 ·rintro k hk _ ⟨ks,vs,x,rfl,h1,h2,h3⟩
  have hk':k < L.length:=by simpa using hk
  have e:(L.map bP)[k]=bP L[k]:=List.getElem_map ..
  rw [e]
  obtain ⟨d1,d2,d3,d4⟩:=Gn h1 (bP L[k]) (.bl true)
  have hs:ks.length<=1000000:=by
   have:(n + 1) * 65536<=5 * 65536:=Nat.mul_le_mul_right _ (by omega)
   omega
  refine ⟨_,rfl,Li (ks:=ks) (vs:=vs) rfl rfl rfl rfl rfl (oz L[k]) hs ⟨_,rfl,_,_,_,rfl,d1,by omega,fun ps hp=>?_⟩⟩
  rw [List.take_succ,List.getElem?_eq_getElem hk'] at hp
  rcases List.mem_append.mp hp with h | h
  ·obtain ⟨y,y1,y2⟩:=h3 ps h
   exact ⟨y,d3 y y1,y2⟩
  ·have:ps=L[k]:=by simpa using h
   rw [this]
   exact d4
 ·rintro _ ⟨ks,vs,x,rfl,h1,h2,h3⟩
  have has:∀ps∈L,(fC ks vs (bP ps)).isSome=true:=fun ps hp=>(xy h1).mpr (h3 ps (by rw [List.length_map,List.take_length];exact hp))
  have h0:[]∈L:=by rw [hL];exact lC.mpr ⟨Nat.zero_le _,⟨List.Pairwise.nil,fun p hp=>(nomatch hp),fun p hp=>(nomatch hp)⟩⟩
  refine dh (dH (bz bu (by decide)) rfl ((rN true (oz [])).trans (by rw [has [] h0];rfl))) ?_
  refine gY (ds:=L.map bP) rfl (oR (h:=bP) (fun env=>∃a b c d e:Option S,env=(eA L v w n ks vs a b c d e)) L ⟨x,none,none,none,none,rfl⟩ ?_ (fun _ ⟨a,b,c,d,e,h⟩=>cg rfl rfl rfl))
  rintro ps hp _ ⟨_,b0,c0,d0,e0,rfl⟩
  rw [hL] at hp
  obtain ⟨hl,g⟩:=lC.mp hp
  refine ⟨(eA L v w n ks vs (some (.d (bP ps))) b0 c0 d0 e0),rfl,?_⟩
  refine tN (c:=decide (((ps.map dP).length:Int) < n)) (dH (n1 rfl (jY _)) rfl rfl) (fun z=>?_) (fun _=>iJ ⟨_,rfl,_,_,_,_,_,rfl⟩)
  have z:ps.length < n:=by simpa using z
  refine rR (lJ (fO (two rfl rfl (kY _ _))) (by omega)) (oR (h:=dN) (fun env=>∃b c d e:Option S,env=(eA L v w n ks vs (some (.d (bP ps))) b c d e)) (List.range v.m) ⟨b0,c0,d0,e0,rfl⟩ ?_ (fun _ ⟨b,c,d,e,h⟩=>⟨_,rfl,_,_,_,_,_,h⟩))
  rintro a ha _ ⟨_,c0,d0,e0,rfl⟩
  have ha:a < v.m:=by simpa using ha
  refine ⟨(eA L v w n ks vs (some (.d (bP ps))) (some (.d (dN a))) c0 d0 e0),rfl,rR (lJ (fO (two rfl rfl (kY _ _))) (by omega)) (oR (h:=dN) (fun env=>∃c d e:Option S,env=(eA L v w n ks vs (some (.d (bP ps))) (some (.d (dN a))) c d e)) (List.range w.m) ⟨c0,d0,e0,rfl⟩ ?_ (fun _ ⟨c,d,e,h⟩=>⟨_,rfl,_,_,_,_,h⟩))⟩
  rintro b hb _ ⟨_,d0,e0,rfl⟩
  have hb:b < w.m:=by simpa using hb
  refine ⟨(eA L v w n ks vs (some (.d (bP ps))) (some (.d (dN a))) (some (.d (dN b))) d0 e0),rfl,?_⟩
  have hadd:g2 dI (af 5) (bD (aA (bD (aA (af 6) (aA (af 7) aV))) aV)) (eA L v w n ks vs (some (.d (bP ps))) (some (.d (dN a))) (some (.d (dN b))) d0 e0)=.ok (.d (bP (ps++[(a,b)]))):=
   two rfl (bz (aJ (bz (aJ rfl rfl (aJ rfl rfl bu)) (by show 2<=1000;decide)) rfl bu) (by show 1<=1000;decide)) ((sF _ _ (by simp;omega)).trans (by show M.ok (R.d (.tup (ps.map dP++[dP (a,b)])))=M.ok (R.d (.tup ((ps++[(a,b)]).map dP)));rw [List.map_append];rfl))
  refine bI hadd rfl ?_
  obtain ⟨ab,h9,hab⟩:=Du (env:=(eA L v w n ks vs (some (.d (bP ps))) (some (.d (dN a))) (some (.d (dN b))) (some (.d (bP (ps++[(a,b)])))) e0)) ps a b rfl rfl rfl
  refine bI h9 rfl (ng ?_ (iJ ⟨_,rfl,_,_,_,rfl⟩))
  cases ab with
  | false=>exact nT rfl
  | true=>
   refine oV rfl ?_
   by_cases hf:tE v w (ps++[(a,b)])=true
   ·have hm:ps++[(a,b)]∈L:=by rw [hL];exact lC.mpr ⟨by simp;omega,B0 g ⟨ha,hb⟩ (hab rfl) ((zk t _).mp hf)⟩
    exact nT (dH rfl rfl ((rN true (oz _)).trans (by rw [has _ hm];rfl)))
   ·cases hk:(fC ks vs (bP (ps++[(a,b)]))).isSome with
    | true=>exact nT (dH rfl rfl ((rN true (oz _)).trans (by rw [hk];rfl)))
    | false=>exact oV (dH rfl rfl ((rN true (oz _)).trans (by rw [hk];rfl))) (qB (c3 rfl rfl rfl ((Bp v w (ps++[(a,b)])).trans (by rw [Bool.eq_false_iff.mpr hf]))))
abbrev eM (ns:List Int) (v w:Wd) (n:Nat) (L:List (List (Nat×Nat))) (a b:Option S):Ev:=[some (.bor (ns.map .int)),some (.d v.d),some (.d w.d),some (.d (.int n)),some (.own (L.map bP)),a,b,none]
theorem GJ (ns:List Int) (h:ns.length<=63):sO [.bor (ns.map .int)]=.ok (.d (.bl true)):=by
 obtain ⟨v,w,hw,t,_⟩:=Ih ns [2,3,1,3,2,3,2,4] rfl (by decide)
 obtain ⟨n,hn⟩:=rX (Int.emod_nonneg (K51.cV ns 16) (b:=5) (by decide))
 have OV:=Int.emod_lt_of_pos (K51.cV ns 16) (b:=5) (by decide)
 rw [hn] at OV
 have n4:n<=4:=by omega
 have tl:=nA t n n4
 have tm:(n + 1) * 65536<=5 * 65536:=Nat.mul_le_mul_right _ (by omega)
 have hP:=zX t n n4
 have hA:=K6 t n n4
 have up:=zS v w n
 have hG:∀ps∈told v w n,ps.length<=n/\Good v w ps:=fun ps h=>lC.mp h
 generalize told v w n=L at tl hP hA up hG
 refine fX (sy (c2 rfl (oA rfl (by show 8<=1000;decide)) hw) rfl rfl (bI (r:=.d (.int (n:Int))) ((two (c2 rfl rfl (K51.gS ns _ 16 rfl)) rfl (iD _ 5 (by decide))).trans (by rw [hn])) rfl (bI (c3 rfl rfl rfl hP) rfl (dh rfl ?_))))
 refine gY (MG (n:=L.length) (fO (n1 rfl (by show M.ok (R.d (.int ((L.map bP).length:Int)))=_;rw [List.length_map]))) (by omega)) (nC (fun k env=>∃a b:Option S,env=(eM ns v w n L a b)) ⟨none,none,rfl⟩ ?_ ?_)
 ·rintro k hk _ ⟨_,b0,rfl⟩
  have ix:∀(j:Nat) (hj:j < L.length),aX (.l .own (L.map bP)) (.d (.int j))=.ok (.d (bP L[j])):=fun j hj=>qW (by rw [List.getElem?_map,List.getElem?_eq_getElem hj];rfl)
  obtain ⟨gl,gg⟩:=hG L[k] (List.getElem_mem hk)
  refine ⟨(eM ns v w n L (some (.d (.int k))) b0),rfl,?_⟩
  refine dh (Cp (k_ (b:=true) (qB (c3 (two rfl rfl (ix k hk)) rfl rfl (Dp t gg (by omega))))) (dH (n1 (two rfl rfl (ix k hk)) (jY _)) rfl (by show M.ok (R.d (.bl (decide ((n:Int) < ((L[k].map dP).length:Int)))))=_;rw [List.length_map,decide_eq_false (by omega)]))) ?_
  refine tN (c:=decide ((0:Int) < k)) (dH rfl rfl rfl) (fun z=>?_) (fun _=>iJ ⟨_,rfl,_,_,rfl⟩)
  have z:(0:Int) < k:=by simpa using z
  obtain ⟨j,rfl⟩:∃j,k=j + 1:=⟨k - 1,by omega⟩
  have x1:g2 aX (af 4) (g2 qf (af 5) (gC (.int 1))) (eM ns v w n L (some (.d (.int ((j + 1:Nat):Int)))) b0)=.ok (.d (bP (L[j]'(by omega)))):=by
   refine two rfl (y:=.d (.int (j:Int))) ?_ (ix j (by omega))
   show M.ok (R.d (.int (((j + 1:Nat):Int) - 1)))=_
   rw [show (((j + 1:Nat):Int) - 1)=j by omega]
  refine bI x1 rfl (ng ?_ (iJ ⟨_,rfl,_,_,rfl⟩))
  have hh:=List.pairwise_iff_getElem.mp up j (j + 1) (by omega) hk (by omega)
  have lenB:=n1 (env:=(eM ns v w n L (some (.d (.int ((j + 1:Nat):Int)))) (some (.d (bP (L[j]'(by omega))))))) (two (f:=aX) (g:=af 4) (h:=af 5) rfl rfl (ix (j + 1) hk)) (jY _)
  have le:(L[j]'(by omega)).length<=L[j + 1].length:=by rcases hh with h | ⟨h,_⟩ <;> omega
  refine Cp (dH (n1 rfl (jY _)) lenB (by show M.ok (R.d (.bl (decide ((((L[j + 1]).map dP).length:Int) < (((L[j]'(by omega)).map dP).length:Int)))))=_;rw [List.length_map,List.length_map,decide_eq_false (by omega)])) ?_
  rcases hh with hh | ⟨hh,hlt⟩
  ·refine nT (dH (n1 rfl (jY _)) lenB ?_)
   rw [List.length_map,List.length_map,K01.eq_int]
   show M.ok (R.d (.bl _))=_
   congr 3
   simp
   omega
  ·refine oV (k:=false) (dH (n1 rfl (jY _)) lenB ?_) (k_ (b:=true) (dH rfl (two rfl rfl (ix (j + 1) hk)) ?_))
   ·rw [List.length_map,List.length_map,K01.eq_int,hh]
    simp
   ·show (if dep (bP (L[j]'(by omega)))<=60/\dep (bP L[j + 1])<=60 then (match gK ((L[j]'(by omega)).map dP) (L[j + 1].map dP) with
     | some b=>M.ok (R.d (.bl b))
     | none=>.bad) else .bad)=_
    rw [if_pos ⟨xO _,xO _⟩,hlt]
 ·rintro _ ⟨a0,b0,rfl⟩
  refine dh (k_ (b:=true) (qB (c4 rfl rfl rfl rfl hA))) (bI rfl rfl (cW ⟨_,rfl,cg (r:=.d (.bl true)) (two (c3 rfl rfl rfl hP) (y:=.l .own (L.map bP)) rfl ?_) rfl rfl⟩))
  have hd:dep (.lst (L.map bP))<=60:=by
   have:deps (L.map bP)<=2:=eU fun x hx=>by
    obtain ⟨q,_,rfl⟩:=List.mem_map.mp hx
    have h2:deps (q.map dP)<=1:=eU fun x hx=>by obtain ⟨q,_,rfl⟩:=List.mem_map.mp hx;exact Nat.le_refl _
    show deps (q.map dP) + 1<=2
    omega
   show deps (L.map bP) + 1<=60
   omega
  refine (mY false (.l .fresh (L.map bP)) (.l .own (L.map bP)) hd hd).trans ?_
  show M.ok (R.d (.bl (aZ (.lst (L.map bP)) (.lst (L.map bP)))))=_
  rw [eu]
end K22
namespace K22
open PySem PySem.Spec PyProof.Rows L2 DL DX
theorem all_mk {l:W.OpenLaw}{w:World}{K:W.Frag}{h:Heap}{mg:Str->Option Value}{fa:Addr}(X:K.In h) (G:h.Ns mainGlobals mg) (OR:mg "law"=some (.ref fa))
  {f0 f1 f2 f3 f4 f5 f6 f7 f8 f9 f10 f11 f12 f13 f14 f15 f16 f17 f18 f19 f20 f21 f22 f23:Addr}{o0 n0 o1 n1 o2 n2 o3 n3 o4 n4 o5 n5 o6 n6 o7 n7 o8 n8 o9 n9 o10 n10 o11 n11 o12 n12 o13 n13 o14 n14 o15 n15 o16 n16 o17 n17 o18 n18 o19 n19 o20 n20 o21 n21 o22 n22 o23 n23:Option Addr}{s0 s1 s2 s3 s4 s5 s6 s7 s8 s9 s10 s11 s12 s13 s14 s15 s16 s17 s18 s19 s20 s21 s22 s23:Array (Option Value)}{u0 v0 d0 p0 q0 r0 u1 v1 d1 p1 q1 r1 u2 v2 d2 p2 q2 r2 u3 v3 d3 p3 q3 r3 u4 v4 d4 p4 q4 r4 u5 v5 d5 p5 q5 r5 u6 v6 d6 p6 q6 r6 u7 v7 d7 p7 q7 r7 u8 v8 d8 p8 q8 r8 u9 v9 d9 p9 q9 r9 u10 v10 d10 p10 q10 r10 u11 v11 d11 p11 q11 r11 u12 v12 d12 p12 q12 r12 u13 v13 d13 p13 q13 r13 u14 v14 d14 p14 q14 r14 u15 v15 d15 p15 q15 r15 u16 v16 d16 p16 q16 r16 u17 v17 d17 p17 q17 r17 u18 v18 d18 p18 q18 r18 u19 v19 d19 p19 q19 r19 u20 v20 d20 p20 q20 r20 u21 v21 d21 p21 q21 r21 u22 v22 d22 p22 q22 r22 u23 v23 d23 p23 q23 r23:Value}
  {t1:Tok}
  (a0:W.nsIn K mainGlobals "is_whole"=some (some (.ref f0)))
  (l0:K.lookup f0=some ⟨u0,o0,.func (W.fnOf "is_whole" "is_whole" (aO iS) (aM iS) (ay iS) .none v0 d0 p0 n0 q0 r0),s0⟩)
  (c0:W.codeIn K q0 "is_whole"=true)
  (k0:W.keepIn K (.ref f0)=true)
  (a1:W.nsIn K mainGlobals "tongue_of"=some (some (.ref f1)))
  (l1:K.lookup f1=some ⟨u1,o1,.func (W.fnOf "tongue_of" "tongue_of" (aO h_) (aM h_) (ay h_) .none v1 d1 p1 n1 q1 r1),s1⟩)
  (c1:W.codeIn K q1 "tongue_of"=true)
  (k1:W.keepIn K (.ref f1)=true)
  (a2:W.nsIn K mainGlobals "need_tongue"=some (some (.ref f2)))
  (l2:K.lookup f2=some ⟨u2,o2,.func (W.fnOf "need_tongue" "need_tongue" (aO fM) (aM fM) (ay fM) .none v2 d2 p2 n2 q2 r2),s2⟩)
  (c2:W.codeIn K q2 "need_tongue"=true)
  (k2:W.keepIn K (.ref f2)=true)
  (a3:W.nsIn K mainGlobals "need_few_points"=some (some (.ref f3)))
  (l3:K.lookup f3=some ⟨u3,o3,.func (W.fnOf "need_few_points" "need_few_points" (aO dz) (aM dz) (ay dz) .none v3 d3 p3 n3 q3 r3),s3⟩)
  (c3:W.codeIn K q3 "need_few_points"=true)
  (k3:W.keepIn K (.ref f3)=true)
  (a4:W.nsIn K mainGlobals "need_small"=some (some (.ref f4)))
  (l4:K.lookup f4=some ⟨u4,o4,.func (W.fnOf "need_small" "need_small" (aO gy) (aM gy) (ay gy) .none v4 d4 p4 n4 q4 r4),s4⟩)
  (c4:W.codeIn K q4 "need_small"=true)
  (k4:W.keepIn K (.ref f4)=true)
  (a5:W.nsIn K mainGlobals "need_count"=some (some (.ref f5)))
  (l5:K.lookup f5=some ⟨u5,o5,.func (W.fnOf "need_count" "need_count" (aO gx) (aM gx) (ay gx) .none v5 d5 p5 n5 q5 r5),s5⟩)
  (c5:W.codeIn K q5 "need_count"=true)
  (k5:W.keepIn K (.ref f5)=true)
  (a6:W.nsIn K mainGlobals "view"=some (some (.ref f6)))
  (l6:K.lookup f6=some ⟨u6,o6,.func (W.fnOf "view" "view" (aO pB) (aM pB) (ay pB) .none v6 d6 p6 n6 q6 r6),s6⟩)
  (c6:W.codeIn K q6 "view"=true)
  (k6:W.keepIn K (.ref f6)=true)
  (a7:W.nsIn K mainGlobals "views"=some (some (.ref f7)))
  (l7:K.lookup f7=some ⟨u7,o7,.func (W.fnOf "views" "views" (aO mG) (aM mG) (ay mG) .none v7 d7 p7 n7 q7 r7),s7⟩)
  (c7:W.codeIn K q7 "views"=true)
  (k7:W.keepIn K (.ref f7)=true)
  (a8:W.nsIn K mainGlobals "agree"=some (some (.ref f8)))
  (l8:K.lookup f8=some ⟨u8,o8,.func (W.fnOf "agree" "agree" (aO mE) (aM mE) (ay mE) .none v8 d8 p8 n8 q8 r8),s8⟩)
  (c8:W.codeIn K q8 "agree"=true)
  (k8:W.keepIn K (.ref f8)=true)
  (a9:W.nsIn K mainGlobals "goes_behind"=some (some (.ref f9)))
  (l9:K.lookup f9=some ⟨u9,o9,.func (W.fnOf "goes_behind" "goes_behind" (aO fK) (aM fK) (ay fK) .none v9 d9 p9 n9 q9 r9),s9⟩)
  (c9:W.codeIn K q9 "goes_behind"=true)
  (k9:W.keepIn K (.ref f9)=true)
  (a10:W.nsIn K mainGlobals "pairings"=some (some (.ref f10)))
  (l10:K.lookup f10=some ⟨u10,o10,.func (W.fnOf "pairings" "pairings" (aO iT) (aM iT) (ay iT) .none v10 d10 p10 n10 q10 r10),s10⟩)
  (c10:W.codeIn K q10 "pairings"=true)
  (k10:W.keepIn K (.ref f10)=true)
  (a11:W.nsIn K mainGlobals "_law_cell"=some (some (.ref f11)))
  (l11:K.lookup f11=some ⟨u11,o11,.func (W.fnOf "_law_cell" "_law_cell" (aO g9) (aM g9) (ay g9) .none v11 d11 p11 n11 q11 r11),s11⟩)
  (c11:W.codeIn K q11 "_law_cell"=true)
  (k11:W.keepIn K (.ref f11)=true)
  (a12:W.nsIn K mainGlobals "_law_names"=some (some (.ref f12)))
  (l12:K.lookup f12=some ⟨u12,o12,.func (W.fnOf "_law_names" "_law_names" (aO gq) (aM gq) (ay gq) .none v12 d12 p12 n12 q12 r12),s12⟩)
  (c12:W.codeIn K q12 "_law_names"=true)
  (k12:W.keepIn K (.ref f12)=true)
  (a13:W.nsIn K mainGlobals "_law_bits"=some (some (.ref f13)))
  (l13:K.lookup f13=some ⟨u13,o13,.func (W.fnOf "_law_bits" "_law_bits" (aO gZ) (aM gZ) (ay gZ) .none v13 d13 p13 n13 q13 r13),s13⟩)
  (c13:W.codeIn K q13 "_law_bits"=true)
  (k13:W.keepIn K (.ref f13)=true)
  (a14:W.nsIn K mainGlobals "_law_world"=some (some (.ref f14)))
  (l14:K.lookup f14=some ⟨u14,o14,.func (W.fnOf "_law_world" "_law_world" (aO gw) (aM gw) (ay gw) .none v14 d14 p14 n14 q14 r14),s14⟩)
  (c14:W.codeIn K q14 "_law_world"=true)
  (k14:W.keepIn K (.ref f14)=true)
  (a15:W.nsIn K mainGlobals "_law_order"=some (some (.ref f15)))
  (l15:K.lookup f15=some ⟨u15,o15,.func (W.fnOf "_law_order" "_law_order" (aO gr) (aM gr) (ay gr) .none v15 d15 p15 n15 q15 r15),s15⟩)
  (c15:W.codeIn K q15 "_law_order"=true)
  (k15:W.keepIn K (.ref f15)=true)
  (a16:W.nsIn K mainGlobals "_law_turned"=some (some (.ref f16)))
  (l16:K.lookup f16=some ⟨u16,o16,.func (W.fnOf "_law_turned" "_law_turned" (aO fJ) (aM fJ) (ay fJ) .none v16 d16 p16 n16 q16 r16),s16⟩)
  (c16:W.codeIn K q16 "_law_turned"=true)
  (k16:W.keepIn K (.ref f16)=true)
  (a17:W.nsIn K mainGlobals "_law_flipped"=some (some (.ref f17)))
  (l17:K.lookup f17=some ⟨u17,o17,.func (W.fnOf "_law_flipped" "_law_flipped" (aO eW) (aM eW) (ay eW) .none v17 d17 p17 n17 q17 r17),s17⟩)
  (c17:W.codeIn K q17 "_law_flipped"=true)
  (k17:W.keepIn K (.ref f17)=true)
  (a18:W.nsIn K mainGlobals "_law_two"=some (some (.ref f18)))
  (l18:K.lookup f18=some ⟨u18,o18,.func (W.fnOf "_law_two" "_law_two" (aO iR) (aM iR) (ay iR) .none v18 d18 p18 n18 q18 r18),s18⟩)
  (c18:W.codeIn K q18 "_law_two"=true)
  (k18:W.keepIn K (.ref f18)=true)
  (a19:W.nsIn K mainGlobals "_law_fits"=some (some (.ref f19)))
  (l19:K.lookup f19=some ⟨u19,o19,.func (W.fnOf "_law_fits" "_law_fits" (aO g_) (aM g_) (ay g_) .none v19 d19 p19 n19 q19 r19),s19⟩)
  (c19:W.codeIn K q19 "_law_fits"=true)
  (k19:W.keepIn K (.ref f19)=true)
  (a20:W.nsIn K mainGlobals "_law_whole"=some (some (.ref f20)))
  (l20:K.lookup f20=some ⟨u20,o20,.func (W.fnOf "_law_whole" "_law_whole" (aO gu) (aM gu) (ay gu) .none v20 d20 p20 n20 q20 r20),s20⟩)
  (c20:W.codeIn K q20 "_law_whole"=true)
  (k20:W.keepIn K (.ref f20)=true)
  (a21:W.nsIn K mainGlobals "_law_is_one"=some (some (.ref f21)))
  (l21:K.lookup f21=some ⟨u21,o21,.func (W.fnOf "_law_is_one" "_law_is_one" (aO fH) (aM fH) (ay fH) .none v21 d21 p21 n21 q21 r21),s21⟩)
  (c21:W.codeIn K q21 "_law_is_one"=true)
  (k21:W.keepIn K (.ref f21)=true)
  (a22:W.nsIn K mainGlobals "_law_all"=some (some (.ref f22)))
  (l22:K.lookup f22=some ⟨u22,o22,.func (W.fnOf "_law_all" "_law_all" (aO iQ) (aM iQ) (ay iQ) .none v22 d22 p22 n22 q22 r22),s22⟩)
  (c22:W.codeIn K q22 "_law_all"=true)
  (k22:W.keepIn K (.ref f22)=true)
  (a23:W.nsIn K mainGlobals "law"=some (some (.ref f23)))
  (l23:K.lookup f23=some ⟨u23,o23,.func (W.fnOf "law" "law" (aO nv) (aM nv) (ay nv) .none v23 d23 p23 n23 q23 r23),s23⟩)
  (c23:W.codeIn K q23 "law"=true)
  (k23:W.keepIn K (.ref f23)=true)
  (z0:W.nsIn K mainGlobals "bool"=some none)
  (z1:W.nsIn K mainGlobals "int"=some none)
  (z2:W.nsIn K mainGlobals "isinstance"=some none)
  (z3:W.nsIn K mainGlobals "len"=some none)
  (z4:W.nsIn K mainGlobals "list"=some none)
  (z5:W.nsIn K mainGlobals "range"=some none)
  (z6:W.nsIn K mainGlobals "set"=some none)
  (z7:W.nsIn K mainGlobals "sorted"=some none)
  (z8:W.nsIn K mainGlobals "tuple"=some none)
  (z9:W.nsIn K mainGlobals "zip"=some none)
  (gMOST_SMALL:W.nsIn K mainGlobals "MOST_SMALL"=some (some (.int 4 t1))):
  ∃fd:FuncData,(∀(s:Shared) (v:Value),BindsTo s fd ⟨[v],[]⟩ [("_law_script",v)])/\∀base:Heap,K.In base->base.Ns mainGlobals mg->jl l.prog w K mg base nD 5 fa fd ["_law_script"] (sD K 1 K22.sO):=by
 have e:=OR.symm.trans (W.mg_of X G a23)
 cases e
 have F0:=bY (st:=iS) l0 c0 k0
 have F1:=bY (st:=h_) l1 c1 k1
 have F2:=bY (st:=fM) l2 c2 k2
 have F3:=bY (st:=dz) l3 c3 k3
 have F4:=bY (st:=gy) l4 c4 k4
 have F5:=bY (st:=gx) l5 c5 k5
 have F6:=bY (st:=pB) l6 c6 k6
 have F7:=bY (st:=mG) l7 c7 k7
 have F8:=bY (st:=mE) l8 c8 k8
 have F9:=bY (st:=fK) l9 c9 k9
 have F10:=bY (st:=iT) l10 c10 k10
 have F11:=bY (st:=g9) l11 c11 k11
 have F12:=bY (st:=gq) l12 c12 k12
 have F13:=bY (st:=gZ) l13 c13 k13
 have F14:=bY (st:=gw) l14 c14 k14
 have F15:=bY (st:=gr) l15 c15 k15
 have F16:=bY (st:=fJ) l16 c16 k16
 have F17:=bY (st:=eW) l17 c17 k17
 have F18:=bY (st:=iR) l18 c18 k18
 have F19:=bY (st:=g_) l19 c19 k19
 have F20:=bY (st:=gu) l20 c20 k20
 have F21:=bY (st:=fH) l21 c21 k21
 have F22:=bY (st:=iQ) l22 c22 k22
 have F23:=bY (st:=nv) l23 c23 k23
 have m:fU w K mg:=⟨W.mg_none_of X G z0,
   W.mg_none_of X G z1,
   W.mg_none_of X G z2,
   W.mg_none_of X G z3,
   W.mg_none_of X G z4,
   W.mg_none_of X G z5,
   W.mg_none_of X G z6,
   W.mg_none_of X G z7,
   W.mg_none_of X G z8,
   W.mg_none_of X G z9,
   ⟨_,(.int 4),W.mg_of X G gMOST_SMALL,⟨_,rfl⟩,fun _=>(.int _)⟩⟩
 refine ⟨W.fnOf "law" "law" (aO nv) (aM nv) (ay nv) .none v23 d23 p23 n23 q23 r23,fun s v=>.of_eq rfl,fun base _ _=>?_⟩
 have C0:=yF (P:=l.prog) (base:=base) m F0 (W.mg_of X G a0)
 have C1:=wU (P:=l.prog) (base:=base) m F1 (W.mg_of X G a1)
 have C2:=sX (P:=l.prog) (base:=base) m C1 F2 (W.mg_of X G a2)
 have C3:=nV (P:=l.prog) (base:=base) m F3 (W.mg_of X G a3)
 have C4:=vf (P:=l.prog) (base:=base) m C2 C3 F4 (W.mg_of X G a4)
 have C5:=ve (P:=l.prog) (base:=base) m C0 F5 (W.mg_of X G a5)
 have C6:=Gh (P:=l.prog) (base:=base) m F6 (W.mg_of X G a6)
 have C7:=DC (P:=l.prog) (base:=base) m C6 F7 (W.mg_of X G a7)
 have C8:=DA (P:=l.prog) (base:=base) m F8 (W.mg_of X G a8)
 have C9:=sW (P:=l.prog) (base:=base) m C8 F9 (W.mg_of X G a9)
 have C10:=yI (P:=l.prog) (base:=base) m C4 C5 C7 C8 C9 F10 (W.mg_of X G a10)
 have C11:=wJ (P:=l.prog) (base:=base) m F11 (W.mg_of X G a11)
 have C12:=uX (P:=l.prog) (base:=base) m F12 (W.mg_of X G a12)
 have C13:=wI (P:=l.prog) (base:=base) m F13 (W.mg_of X G a13)
 have C14:=u_ (P:=l.prog) (base:=base) m C13 F14 (W.mg_of X G a14)
 have C15:=uY (P:=l.prog) (base:=base) m F15 (W.mg_of X G a15)
 have C16:=sV (P:=l.prog) (base:=base) m F16 (W.mg_of X G a16)
 have C17:=qP (P:=l.prog) (base:=base) m F17 (W.mg_of X G a17)
 have C18:=yE (P:=l.prog) (base:=base) m C11 C12 C14 C15 C16 C17 F18 (W.mg_of X G a18)
 have C19:=wK (P:=l.prog) (base:=base) m F19 (W.mg_of X G a19)
 have C20:=uZ (P:=l.prog) (base:=base) m F20 (W.mg_of X G a20)
 have C21:=sU (P:=l.prog) (base:=base) m C20 C19 F21 (W.mg_of X G a21)
 have C22:=yD (P:=l.prog) (base:=base) m C19 F22 (W.mg_of X G a22)
 exact Lp m C18 C11 C10 C21 C22 F23
theorem HW (K:W.Frag) (H:Hp) (a:Addr) (ns:List Int) (hl:ns.length<=63) (hO:Ad H) (hS:bZ K H a (ns.map V.int)):sD K 1 K22.sO [.ref a] H (fun v _=>v=.bl true) fun _ _ _=>False:=by
 refine ⟨fun _=>none,[.bor (ns.map D.int)],fun _ _ z=>(by cases z),rfl,⟨_,[],rfl,⟨a,_,rfl,hS,?_⟩,rfl⟩,?_⟩
 ·exact K01.uK ns
 ·rw [GJ ns hl]
  intro v J H2 _ r
  cases r
  rfl
theorem walk {l:W.OpenLaw}{q:Program}{loose:List Str}{XP:(Str->Option Value)->Heap->Prop}{YP:World->Heap->Prop}{d:DefRec}{K:Params->W.Frag}(hn:l.most=some 63) (hdf:d.params.defaults=[])
  (hY:∀(w:World) (h:Heap),YP w h->(K w.params).In h)
  (F:∀(w:World) (mg:Str->Option Value) (fa:Addr) (h:Heap),(K w.params).In h->h.Ns mainGlobals mg->mg d.name=some (.ref fa)->
   ∃fd:FuncData,(∀(s:Shared) (u:Value),BindsTo s fd ⟨[u],[]⟩ [("_law_script",u)])/\∀base:Heap,(K w.params).In base->base.Ns mainGlobals mg->jl l.prog w (K w.params) mg base nD 5 fa fd ["_law_script"] (sD (K w.params) 1 K22.sO)):
  W.WalkO q loose XP YP l.row.toRowW d [] (fun f vs=>PySem.call f vs):=
 L2.Ie (n:=63) (k:=5) (x:="_law_script") (CX:=fun _=>nD) (sp:=fun w=>sD (K w.params) 1 K22.sO) hn (by decide) hdf ⟨rfl,by decide,by decide⟩ hY F (fun w H a ns hl hO hS=>HW _ H a ns hl hO hS) fun _ _ _ _ _ z=>z
end K22
open PySem PySem.W PyProof.Rows
set_option maxRecDepth 100000 in
set_option maxHeartbeats 0 in
theorem PySem.Challenge.cw_pickalike_k22_all_pairings_holds : PySem.Challenge.rw_pickalike_k22_all_pairings.Holds := by
 refine holds_law K22.look fun said=>?_
 refine holds_open (q:=K22.VW) (XP:=XL K22.VW []) (YP:=Hook.says K22.HK) K22.left (Hook.of K22.HK) (Hook.keeps K22.HK) (fun s e=>xl_of s (Bool.and_eq_true_iff.mp e).1) XL.keeps (by rfl) (by rfl) (by rfl) (fun s e=>recFacts_of (Bool.and_eq_true_iff.mp e).2) (by rfl) said (by decide +kernel) ⟨rfl,rfl,rfl,rfl,rfl,by decide +kernel⟩ ?hw ?hc
 (case hw=>w_witness2)
 delta K22.HK
 k_fill
 refine K22.walk (l:=PySem.Challenge.rw_pickalike_k22_all_pairings) rfl rfl (K:=K22.KF) (fun w h Y=>PySem.W.kIn_of Y) ?F
 case F=>
  intro w mg fa h KX G hmg
  refine' K22.all_mk KX G hmg ?a0 ?l0 ?c0 ?k0 ?a1 ?l1 ?c1 ?k1 ?a2 ?l2 ?c2 ?k2 ?a3 ?l3 ?c3 ?k3 ?a4 ?l4 ?c4 ?k4 ?a5 ?l5 ?c5 ?k5 ?a6 ?l6 ?c6 ?k6 ?a7 ?l7 ?c7 ?k7 ?a8 ?l8 ?c8 ?k8 ?a9 ?l9 ?c9 ?k9 ?a10 ?l10 ?c10 ?k10 ?a11 ?l11 ?c11 ?k11 ?a12 ?l12 ?c12 ?k12 ?a13 ?l13 ?c13 ?k13 ?a14 ?l14 ?c14 ?k14 ?a15 ?l15 ?c15 ?k15 ?a16 ?l16 ?c16 ?k16 ?a17 ?l17 ?c17 ?k17 ?a18 ?l18 ?c18 ?k18 ?a19 ?l19 ?c19 ?k19 ?a20 ?l20 ?c20 ?k20 ?a21 ?l21 ?c21 ?k21 ?a22 ?l22 ?c22 ?k22 ?a23 ?l23 ?c23 ?k23 ?z0 ?z1 ?z2 ?z3 ?z4 ?z5 ?z6 ?z7 ?z8 ?z9 ?gMOST_SMALL
  case a0 | l0 | c0 | k0 | a1 | l1 | c1 | k1 | a2 | l2 | c2 | k2 | a3 | l3 | c3 | k3 | a4 | l4 | c4 | k4 | a5 | l5 | c5 | k5 | a6 | l6 | c6 | k6 | a7 | l7 | c7 | k7 | a8 | l8 | c8 | k8 | a9 | l9 | c9 | k9 | a10 | l10 | c10 | k10 | a11 | l11 | c11 | k11 | a12 | l12 | c12 | k12 | a13 | l13 | c13 | k13 | a14 | l14 | c14 | k14 | a15 | l15 | c15 | k15 | a16 | l16 | c16 | k16 | a17 | l17 | c17 | k17 | a18 | l18 | c18 | k18 | a19 | l19 | c19 | k19 | a20 | l20 | c20 | k20 | a21 | l21 | c21 | k21 | a22 | l22 | c22 | k22 | a23 | l23 | c23 | k23 | z0 | z1 | z2 | z3 | z4 | z5 | z6 | z7 | z8 | z9 | gMOST_SMALL=>k_is
